import PyProof.Rows.All
import Wide.All
import OpenK.AllK
import Wide.FinOn
import Lean
import PyProof.EqAt
import PyProof.EqKinds
import PyProof.TupleCall
import PyProof.Rows.Range3
import PyProof.ZipIter
import PyProof.Draws
import PyProof.EnumMake
import PyProof.Rows.FactsTup
import PyProof.LayNew
import PyProof.Rows.SeqMore2
import PyProof.Rows.RuleIs
import KE.KRevIter
import PyProof.P3In
import KE.KSortTup
import PyProof.Rows.SortWalk
import PySem.Challenge.RW_tellsum_k76_whole_fitting_changes_and_wr
set_option Elab.async false
set_option linter.all false
set_option bootstrap.genMatcherCode false
set_option compiler.extract_closed false
set_option maxRecDepth 100000
noncomputable section
namespace L2
open PyProof.Rows PySem PySem.Spec
variable {xs vs:List V} {us its:List Value} {x qual:Str} {u cd:Value} {H:Hp} {a b it:Addr} {o:Obj} {w:World} {h:Heap} {g':Array GenState} {t' i j k n:Nat} {d':Drawn} {ch fp:List Addr} {e c tg l:Expr} {pins' pins pl:List (Addr×Obj)} {N ps:List Str} {A:Around} {E:Value->Shared->Prop} {v:V} {Q:Unit->Shared->Prop} {X:Cx} {t te:TE} {s s':Shared} {pos pos':Pos} {σ:St} {op:CmpOp} {K:W.Frag} {tc:TT} {es:List Expr} {g:Int->Int->Int} {body:List Stmt} {tb:TS} {p:Addr×Obj} {r:V->Hp->VK->Prop} {C:Int->Int->Prop} {fd:FuncData} {kindOf:Str->Option NameKind} {sc scope:Scope} {CX:CXT} {mg:Str->Option Value} {outer:List Env} {params:Arguments}
noncomputable abbrev Key:=Sum Int Str
noncomputable def znc:Key->Value->Bool
 | .inl k,v=>Value.isInt k v
 | .inr x,v=>Value.isStrOf x v
noncomputable def keyH (w:World):Key->Int
 | .inl k=>hashInt k
 | .inr x=>hashStr w x
theorem zbe:∀{k:Key} {v:Value},znc k v=true->(∃i t,k=Sum.inl i/\v=Value.int i t)\/(∃x t,k=Sum.inr x/\v=Value.str x t)
 | .inl i,v,h=>by
  obtain⟨t,e⟩:=Value.isInt_shape (k:=i) (v:=v) h
  exact .inl ⟨i,t,rfl,e⟩
 | .inr x,v,h=>by
  obtain⟨t,e⟩:=Value.isStrOf_shape (x:=x) (v:=v) h
  exact .inr ⟨x,t,rfl,e⟩
theorem zoO (i:Int)(t:Tok):znc (.inl i) (.int i t)=true:=by simp[znc,Value.isInt]
theorem zoq (x:Str)(t:Tok):znc (.inr x) (.str x t)=true:=by simp[znc,Value.isStrOf]
theorem key_ll (a b:Int):decide ((Sum.inl a:Key)=Sum.inl b)=(a==b):=by
 by_cases e:a=b
 ·subst e;simp
 ·have h:¬(Sum.inl a:Key)=Sum.inl b:=fun q=>e (Sum.inl.inj q)
  rw[decide_eq_false h]
  exact(beq_eq_false_iff_ne.mpr e).symm
theorem key_rr (a b:Str):decide ((Sum.inr a:Key)=Sum.inr b)=decide (a=b):=by
 by_cases e:a=b
 ·subst e;simp
 ·have h:¬(Sum.inr a:Key)=Sum.inr b:=fun q=>e (Sum.inr.inj q)
  rw[decide_eq_false h,decide_eq_false e]
theorem key_lr (a:Int)(b:Str):decide ((Sum.inl a:Key)=Sum.inr b)=false:=decide_eq_false (fun q=>nomatch q)
theorem key_rl (a:Str)(b:Int):decide ((Sum.inr a:Key)=Sum.inl b)=false:=decide_eq_false (fun q=>nomatch q)
noncomputable def zcg (prog:Program)(w:World):PySem.KeyKind prog w Key where
 is:=znc
 hash:=keyH w
 inj:=fun v a b ha hb=>by
  rcases zbe ha with⟨i,t,rfl,rfl⟩|⟨x,t,rfl,rfl⟩
  ·rcases zbe hb with⟨j,u,rfl,e⟩|⟨y,u,rfl,e⟩
   ·injection e with e1 _;rw[e1]
   ·exact nomatch e
  ·rcases zbe hb with⟨j,u,rfl,e⟩|⟨y,u,rfl,e⟩
   ·exact nomatch e
   ·injection e with e1 _;rw[e1]
 byValue:=fun k v h=>by
  rcases zbe h with⟨i,t,rfl,rfl⟩|⟨x,t,rfl,rfl⟩<;>rfl
 pyHash:=fun hv h=>by
  rcases zbe hv with⟨i,t,rfl,rfl⟩|⟨x,t,rfl,rfl⟩
  ·exact wpAny_pyHash_int h
  ·exact wpAny_pyHash_str h
 eqBool:=fun hu hv h=>by
  rcases zbe hu with⟨i,t,rfl,rfl⟩|⟨x,t,rfl,rfl⟩
  ·rcases zbe hv with⟨j,u,rfl,rfl⟩|⟨y,u,rfl,rfl⟩
   ·rw[key_ll]at h;exact wpAny_eqBool_int h
   ·rw[key_lr]at h;exact SeqAt.EqAt.int_str i t y u _ _ _ _ h
  ·rcases zbe hv with⟨j,u,rfl,rfl⟩|⟨y,u,rfl,rfl⟩
   ·rw[key_rl]at h;exact SeqAt.EqAt.str_int x t j u _ _ _ _ h
   ·rw[key_rr]at h;exact wpAny_eqBool_str h
 «strs»:=fun k x t v h=>by
  rcases zbe h with⟨i,u,rfl,e⟩|⟨y,u,rfl,e⟩
  ·exact nomatch e
  ·injection e with e1 _
   subst e1
   cases v<;>rfl
theorem zl1 (prog:Program)(w:World)(i:Int)(t:Tok):(zcg prog w).is (.inl i) (.int i t)=true:=zoO i t
theorem zlI (prog:Program)(w:World)(x:Str)(t:Tok):(zcg prog w).is (.inr x) (.str x t)=true:=zoq x t
inductive V where
 |non|bl (b:Bool)|int (i:Int)|str (x:Str)|byt (b:Array UInt8)|flt (b:UInt64)|ref (a:Addr)|ty (n:String)
 deriving DecidableEq
noncomputable def RelV:V->Value->Prop
 | .non,u=>u=Value.none
 | .bl b,u=>u=Value.bool b
 | .int i,u=>∃t,u=Value.int i t
 | .str x,u=>∃t,u=Value.str x t
 | .byt b,u=>∃t,u=Value.bytes b t
 | .flt b,u=>∃t,u=Value.float b t
 | .ref a,u=>u=Value.ref a
 | .ty n,u=>u=Value.type n
noncomputable abbrev Vals:List V->List Value->Prop:=Paired RelV
theorem Vals.length (r:Vals xs us):xs.length=us.length:=Paired.length r
theorem Vals.get:∀{xs:List V} {us:List Value} {i:Nat} {x:V},Vals xs us->xs[i]? =some x->∃u,us[i]? =some u/\RelV x u
 |_,_,_,_,.nil,e=>by simp at e
 |_,_,0,_,.cons r _,e=>by simp at e;subst e;exact⟨_,rfl,r⟩
 |_,_,i+1,x,.cons _ t,e=>by
  obtain⟨u,h1,h2⟩:=Vals.get (i:=i) (x:=x) t (by simpa using e)
  exact⟨u,by simpa using h1,h2⟩
theorem Vals.set {x:V}(r:RelV x u):∀{xs:List V} {us:List Value} (i:Nat),Vals xs us->Vals (xs.set i x) (us.set i u)
 |_,_,_,.nil=> .nil
 |_,_,0,.cons _ t=> .cons r t
 |_,_,i+1,.cons q t=> .cons q (Vals.set r i t)
theorem Vals.append:∀{xs ys:List V} {us ws:List Value},Vals xs us->Vals ys ws->Vals (xs++ys) (us++ws)
 |_,_,_,_,.nil,s=>s
 |_,_,_,_,.cons r t,s=> .cons r (Vals.append t s)
theorem Vals.take:∀{xs:List V} {us:List Value} (n:Nat),Vals xs us->Vals (xs.take n) (us.take n)
 |_,_,0,_=> .nil
 |_,_,_+1,.nil=> .nil
 |_,_,n+1,.cons r t=> .cons r (Vals.take n t)
theorem Vals.drop:∀{xs:List V} {us:List Value} (n:Nat),Vals xs us->Vals (xs.drop n) (us.drop n)
 |_,_,0,r=>r
 |_,_,_+1,.nil=> .nil
 |_,_,n+1,.cons _ t=>Vals.drop n t
noncomputable def RelO:Option V->Option Value->Prop
 |some v,some u=>RelV v u
 |none,none=>True
 |_,_=>False
noncomputable def KV {κ:Type}:List (κ×V)->List (κ×Value)->Prop:=Paired fun(p:κ×V) (q:κ×Value)=>p.1=q.1/\RelV p.2 q.2
noncomputable def kV:Key->V
 | .inl i=> .int i
 | .inr x=> .str x
inductive HO where
 /-- a list -/
 |lst (xs:List V)
 /-- a tuple (never changes) -/
 |tup (xs:List V)
 /-- a dict whose keys are ints and texts; one whose keys are tuples of ints and texts (the empty one is both) -/
 |dK (kvs:List (Key×V))|dT (kvs:List (List Key×V))
 /-- a set of ints: its members, its size -/
 |set (S:Int->Bool) (n:Nat)
 /-- an instance of the class at C, its dict at dx, its attributes -/
 |ins (C dx:Addr) (fs:List (Str×V))
 /-- the dict of the instance at x -/
 |own (x:Addr)
 /-- the dict of an exception -/
 |xd (fs:List (Str×V))
 /-- a bound method, f of x -/
 |met (f x:Addr)
 /-- a range object lo, lo + 1, .. below hi -/
 |rng (lo hi:Int)
 /-- a thing that is known to the object (the script; a dict while a loop walks it): read, never written while it is so -/
 |frz (o:Obj) (u:HO)
 /-- a code object's table -/
 |tbl (ps:Array Value)
 /-- any other thing, by what is true of its one object (a def of one's own: SetO a S n := HO.ext fun h => ..) -/
 |ext (φ:Heap->Prop)
noncomputable abbrev Hp:=Addr->Option HO
noncomputable def upd (H:Hp)(a:Addr)(o:HO):Hp:=fun b=>if b=a then some o else H b
theorem zaw {o:HO}:upd H a o a=some o:=by unfold upd;rw[if_pos rfl]
theorem zau {o:HO}(h:b≠a):upd H a o b=H b:=by unfold upd;rw[if_neg h]
theorem zaL {o:HO}(h:H a=some o)(h':H b=none):a≠b:=by
 intro e;subst e;rw[h]at h';cases h'
section
variable (P:Program) (w:World)
noncomputable def ObjOk (H:Hp)(h:Heap)(a:Addr):HO->Prop
 | .lst xs=>xs.length<=sizeLine/\∃(its:List Value) (n:Nat),Vals xs its/\h.get? a=some {cls:= .type "list",data:= .seq its.toArray n}
 | .tup xs=>xs.length<=sizeLine/\∃its:List Value,Vals xs its/\IsTup h a its.toArray
 | .dK kvs=>kvs.length<=sizeLine/\(a==sysModules)=false/\∃vs,KV kvs vs/\h.DictOf (zcg P w) a vs
 | .dT kvs=>kvs.length<=sizeLine/\(a==sysModules)=false/\∃xs:List (List Key×Addr×Value),
   Paired (fun(p:List Key×V) (q:List Key×Addr×Value)=>p.1=q.1/\H q.2.1=some (.tup (p.1.map kV))/\RelV p.2 q.2.2) kvs xs/\
   ∃o es ep,h.get? a=some o/\o.ExactDict/\o.data= .dict es ep/\es.toList=xs.map (entryOfKey (tupleKind (zcg P w)))/\(xs.map (·.1)).Nodup
 | .set S n=>h.SetOf (intKind P w) a S n
 | .ins C dx fs=>H dx=some (.own a)/\fs.length<=1000/\dx≠a/\h.get? a=some (W.instObj C dx)/\
   ∃mA,h.Ns1 dx mA/\(∀f,RelO (fs.lookup f) (mA f))/\PySem.Within mA (fs.map (·.1))
 | .own _=>∃o,h.get? a=some o
 | .xd fs=>∃mA,h.Ns1 a mA/\∀f,RelO (fs.lookup f) (mA f)
 | .rng lo hi=>∃t u v,h.get? a=some {cls:= .type "range",data:= .fields #[.int lo t,.int hi u,.int 1 v]}
 | .frz o u=>h.get? a=some o/\ObjOk H h a u
 | .tbl ps=>h.get? a=some {cls:= .none,data:= .fields ps}
 | .met f x=>h.get? a=some (W.methodObj (.ref f) (.ref x))
 | .ext φ=>φ h/\(∃o,h.get? a=some o)/\∀h1 h2:Heap,φ h1->(∀o,h1.get? a=some o->h2.get? a=some o)->φ h2
noncomputable def HOk (H:Hp)(h:Heap):Prop:=∀a o,H a=some o->ObjOk P w H h a o
end
section
variable {P:Program} {w:World} {H H':Hp} {h h':Heap} {a:Addr} {o:HO}
theorem ObjOk.lt (x:ObjOk P w H h a o):a<h.objs.size:=by
 cases o with
 |lst xs=>obtain⟨_,_,_,_,e⟩:=x;exact Heap.lt_size e
 |tup xs=>obtain⟨_,_,_,p⟩:=x;exact p.lt
 |dK kvs=>obtain⟨_,_,_,_,o,_,_,e,_⟩:=x;exact Heap.lt_size e
 |dT kvs=>obtain⟨_,_,_,_,o,_,_,e,_⟩:=x;exact Heap.lt_size e
 |set S n=>obtain⟨o,_,_,_,e,_⟩:=x;exact Heap.lt_size e
 |ins C dx fs=>obtain⟨_,_,_,e,_⟩:=x;exact Heap.lt_size e
 |own y=>obtain⟨_,e⟩:=x;exact Heap.lt_size e
 |xd fs=>obtain⟨_,⟨_,_,_,e,_⟩,_⟩:=x;exact Heap.lt_size e
 |rng lo hi=>obtain⟨_,_,_,e⟩:=x;exact Heap.lt_size e
 |frz ob u=>obtain⟨e,_⟩:=x;exact Heap.lt_size e
 |tbl ps=>exact Heap.lt_size (show h.get? a=some _ from x)
 |met f y=>exact Heap.lt_size (show h.get? a=some _ from x)
 |ext φ=>obtain⟨_,⟨_,e⟩,_⟩:=x;exact Heap.lt_size e
theorem Paired.mapP {α β:Type}{F G:α->β->Prop}:∀{l₁:List α} {l₂:List β},Paired F l₁ l₂->(∀a b,F a b->G a b)->Paired G l₁ l₂
 |_,_,.nil,_=> .nil
 |_,_,.cons r t,f=> .cons (f _ _ r) (Paired.mapP t f)
theorem ObjOk.stay (x:ObjOk P w H h a o)(k:∀b u,(b=a\/H b=some (.own a))->h.get? b=some u->h'.get? b=some u)
  (ho:∀b,H b=some (.own a)->H' b=some (.own a)) (ht:∀b xs,H b=some (.tup xs)->H' b=some (.tup xs)):ObjOk P w H' h' a o:=by
 induction o with
 |lst xs=>obtain⟨z,its,n,r,e⟩:=x;exact⟨z,its,n,r,k _ _ (.inl rfl) e⟩
 |tup xs=>obtain⟨z,its,r,ob,e,c⟩:=x;exact⟨z,its,r,ob,k _ _ (.inl rfl) e,c⟩
 |dK kvs=>obtain⟨z,y,vs,r,ob,es,ep,e,c⟩:=x;exact⟨z,y,vs,r,ob,es,ep,k _ _ (.inl rfl) e,c⟩
 |dT kvs=>
  obtain⟨z,y,xs,r,ob,es,ep,e,c⟩:=x
  exact⟨z,y,xs,Paired.mapP r fun p q z=>⟨z.1,ht _ _ z.2.1,z.2.2⟩,ob,es,ep,k _ _ (.inl rfl) e,c⟩
 |set S n=>obtain⟨ob,es,ep,t,e,c⟩:=x;exact⟨ob,es,ep,t,k _ _ (.inl rfl) e,c⟩
 |ins C dx fs=>
  obtain⟨d,z,ne,e,mA,⟨od,es,ep,e2,c⟩,r⟩:=x
  exact⟨ho _ d,z,ne,k _ _ (.inl rfl) e,mA,⟨od,es,ep,k _ _ (.inr d) e2,c⟩,r⟩
 |own y=>obtain⟨ob,e⟩:=x;exact⟨ob,k _ _ (.inl rfl) e⟩
 |xd fs=>obtain⟨mA,⟨od,es,ep,e,c⟩,r⟩:=x;exact⟨mA,⟨od,es,ep,k _ _ (.inl rfl) e,c⟩,r⟩
 |rng lo hi=>obtain⟨t,u,v,e⟩:=x;exact⟨t,u,v,k _ _ (.inl rfl) e⟩
 |frz ob u ih=>obtain⟨e,q⟩:=x;exact⟨k _ _ (.inl rfl) e,ih q⟩
 |tbl ps=>
  have e:h.get? a=some {cls:= .none,data:= .fields ps}:=x
  show h'.get? a=some {cls:= .none,data:= .fields ps}
  exact k a _ (.inl rfl) e
 |met f y=>
  have e:h.get? a=some (W.methodObj (.ref f) (.ref y)):=x
  show h'.get? a=some (W.methodObj (.ref f) (.ref y))
  exact k a _ (.inl rfl) e
 |ext φ=>obtain⟨p,⟨o,e⟩,st⟩:=x;exact⟨st _ _ p fun o q=>k _ _ (.inl rfl) q,⟨o,k _ _ (.inl rfl) e⟩,st⟩
theorem HOk.lt (x:HOk P w H h)(e:H a=some o):a<h.objs.size:=(x a o e).lt
theorem HOk.fresh (x:HOk P w H h)(e:h.objs.size<=a):H a=none:=by
 cases q:H a with
 |none=>rfl
 |some u=>exact absurd (Nat.lt_of_lt_of_le (x.lt q) e) (Nat.lt_irrefl _)
theorem HOk.kept (x:HOk P w H h)(k:∀b u,h.get? b=some u->h'.get? b=some u):HOk P w H h':=fun a o e=>
 (x a o e).stay (fun b u _ q=>k b u q) (fun _ q=>q) fun _ _ q=>q
theorem HOk.laid (x:HOk P w H h)(k:∀b u,h.get? b=some u->h'.get? b=some u)(hp:h.objs.size<=a)(new:ObjOk P w (upd H a o) h' a o):HOk P w (upd H a o) h':=fun b u e=>by
 have hn:=x.fresh hp
 by_cases hb:b=a
 ·subst hb;rw[zaw]at e;cases e;exact new
 ·rw[zau hb]at e
  exact(x b u e).stay (fun c v _ q=>k c v q) (fun c q=>by rw[zau (zaL q hn)];exact q) fun c xs q=>by rw[zau (zaL q hn)];exact q
end
noncomputable def Rd (H:Hp)(a:Addr)(u:HO):Prop:=H a=some u\/∃o,H a=some (.frz o u)
theorem Rd.ok {P:Program}{u:HO}(r:Rd H a u)(x:HOk P w H h):ObjOk P w H h a u:=by
 rcases r with r|⟨o,r⟩
 ·exact x a u r
 ·obtain⟨_,q⟩:=x a _ r
  exact q
noncomputable def Mut:Option HO->Prop
 |some (.lst _)=>True
 |some (.dK _)=>True
 |some (.dT _)=>True
 |some (.set _ _)=>True
 |some (.ins _ _ _)=>True
 |some (.ext _)=>True
 |_=>False
section
variable {P:Program} {w:World} {H:Hp} {h h':Heap} {x e:Addr} {o':HO}
theorem HOk.write (ok:HOk P w H h)(mu:Mut (H x))(he:e=x\/H e=some (.own x))(k:∀b u,b≠e->h.get? b=some u->h'.get? b=some u)(heo:∃u,h'.get? e=some u)
  (new:ObjOk P w (upd H x o') h' x o'):HOk P w (upd H x o') h':=fun b u q=>by
 have nown:∀c y,H c=some (.own y)->c≠x:=fun c y r z=>by subst z;rw[r]at mu;exact mu
 have ntup:∀c xs,H c=some (.tup xs)->c≠x:=fun c xs r z=>by subst z;rw[r]at mu;exact mu
 by_cases hb:b=x
 ·subst hb;rw[zaw]at q;cases q;exact new
 ·rw[zau hb]at q
  by_cases hbe:b=e
  ·have q':H b=some (.own x):=by
    rcases he with z|z
    ·exact absurd (hbe.trans z) hb
    ·rw[hbe];exact z
   rw[q]at q';cases q'
   obtain⟨v,hv⟩:=heo
   exact⟨v,by rw[hbe];exact hv⟩
  ·refine(ok b u q).stay (fun c v hc r=>k c v ?_ r) (fun c r=>by rw[zau (nown c b r)];exact r) fun c xs r=>by rw[zau (ntup c xs r)];exact r
   rcases hc with rfl|hc
   ·exact hbe
   ·rintro rfl
    rcases he with z|z
    ·exact nown c b hc z
    ·rw[hc]at z;cases z;exact hb rfl
end
structure Un (fs ex:List Addr) (H H':Hp) (h h':Heap):Prop where
 keep:∀b o,h.get? b=some o->H b=none->b∉fs->b∉ex->h'.get? b=some o
 slot:∀b o,h.get? b=some o->H b=none->b∈fs->b∉ex->∃sl,h'.get? b=some {o with slots:=sl}
 free:∀b o,h.get? b=some o->H b=none->b∉ex->H' b=none
 there:∀b o,h.get? b=some o->b∉ex->∃o',h'.get? b=some o'
 tups:∀b xs,H b=some (.tup xs)->H' b=some (.tup xs)
 frzs:∀b o u,H b=some (.frz o u)->H' b=some (.frz o u)
 tbls:∀b ps,H b=some (.tbl ps)->∃more,H' b=some (.tbl (ps++more))
section
variable {fs fs' ex ex':List Addr} {H H1 H2:Hp} {h h1 h2 h':Heap} {a x e:Addr} {o:HO}
theorem Un.any (u:Un fs ex H H1 h h1){ob:Obj}(q:h.get? b=some ob)(n:H b=none)(hx:b∉ex):∃sl,h1.get? b=some {ob with slots:=sl}:=by
 by_cases hb:b∈fs
 ·exact u.slot b ob q n hb hx
 ·exact⟨ob.slots,u.keep b ob q n hb hx⟩
theorem Un.kept (k:∀b u,h.get? b=some u->h'.get? b=some u):Un fs ex H H h h':=
 ⟨fun b ob q _ _ _=>k b ob q,fun b ob q _ _ _=>⟨ob.slots,k b ob q⟩,fun _ _ _ n _=>n,fun b ob q _=>⟨ob,k b ob q⟩,fun _ _ q=>q,fun _ _ _ q=>q,fun _ ps q=>⟨#[],by rw[q];simp⟩⟩
theorem Un.refl:Un fs ex H H h h:=Un.kept fun _ _ q=>q
theorem Un.laid (k:∀b u,h.get? b=some u->h'.get? b=some u)(hp:h.objs.size<=a)(hn:H a=none):Un fs ex H (upd H a o) h h' where
 keep:=fun b u q _ _ _=>k b u q
 slot:=fun b u q _ _ _=>⟨u.slots,k b u q⟩
 free:=fun b u q n _=>by rw[zau (Nat.ne_of_lt (Nat.lt_of_lt_of_le (Heap.lt_size q) hp))];exact n
 there:=fun b u q _=>⟨u,k b u q⟩
 tups:=fun b xs q=>by rw[zau (zaL q hn)];exact q
 frzs:=fun b u xs q=>by rw[zau (zaL q hn)];exact q
 tbls:=fun b ps q=>⟨#[],by rw[zau (zaL q hn),q];simp⟩
theorem Un.write (mu:Mut (H x))(he:e=x\/H e=some (.own x))(k:∀b u,b≠e->h.get? b=some u->h'.get? b=some u)(heo:∃u,h'.get? e=some u):Un fs ex H (upd H x o) h h':=by
 have hx:∀b,H b=none->b≠x:=fun b n z=>by subst z;rw[n]at mu;exact mu
 have hb:∀b,H b=none->b≠e:=fun b n z=>by
  subst z
  rcases he with r|r
  ·exact hx b n r
  ·rw[n]at r;cases r
 have hm:∀b u,H b=some u->¬Mut (some u)->b≠x:=fun b u q nm z=>by subst z;rw[q]at mu;exact nm mu
 refine⟨fun b u q n _ _=>k b u (hb b n) q,fun b u q n _ _=>⟨u.slots,k b u (hb b n) q⟩,fun b u q n _=>by rw[zau (hx b n)];exact n,fun b u q _=>?_,
  fun b xs q=>by rw[zau (hm b _ q fun z=>z)];exact q,fun b u xs q=>by rw[zau (hm b _ q fun z=>z)];exact q,fun b ps q=>⟨#[],by rw[zau (hm b _ q fun z=>z),q];simp⟩⟩
 by_cases hbe:b=e
 ·subst hbe;exact heo
 ·exact⟨u,k b u hbe q⟩
end
noncomputable def trk (h:Heap)(H:Hp):List Addr:=(List.range h.objs.size).filter fun a=>(H a).isSome
noncomputable def hidT (h:Heap)(H:Hp):Heap:=W.hideAll h (trk h H)
theorem zoM (h:Heap)(H:Hp):(hidT h H).objs.size=h.objs.size:=W.hideAll_size _ _
theorem hidT_get (e:h.get? b=some o)(n:H b=none):(hidT h H).get? b=some o:=
 W.hideAll_get _ e fun hm=>by
  have q:(H b).isSome=true:=(List.mem_filter.mp hm).2
  rw[n]at q;simp at q
theorem of_hidT (e:(hidT h H).get? b=some o):h.get? b=some o/\H b=none:=by
 have e':h.get? b=some o:=W.of_hideAll (trk h H) e
 refine⟨e',?_⟩
 cases q:H b with
 |none=>rfl
 |some x=>
  have hm:b∈trk h H:=List.mem_filter.mpr ⟨List.mem_range.mpr (Heap.lt_size e'),by simp[q]⟩
  have z:(hidT h H).get? b=none:=W.hideAll_none (trk h H) hm
  rw[z]at e;cases e
noncomputable def allNews (g h:Heap)(L:Addr):List (Addr×Obj):=(List.range h.objs.size).filterMap fun a=>if a=L\/(g.get? a).isSome=true then none else(h.get? a).map fun o=>(a,o)
noncomputable def rest (g h:Heap)(L d:Addr):List (Addr×Obj):=(allNews g h L).filter fun p=>decide (p.1≠d)
structure Mod (K:W.Frag) (mg:Str->Option Value) (base:Heap):Prop where
 kin:K.In base
 glob:base.Ns mainGlobals mg
 blt:∃mb,base.Ns builtinsNs mb/\∀x:Str,x≠"__name__"->mb x=bootBuiltins x
 nolimit:base.NoLimit
structure Cx where
 prog:Program
 w:World
 K:W.Frag
 mg:Str->Option Value
 base:Heap
 A:Around
 N:List Str
 s₀:Shared
 H₀:Hp
 env:Env
 outer:List Env
 stack:List Env
 ex:List Addr
 fn:Str->Bool
 calm:Bool
 pn:List (Addr×Obj)
 xe:Value->Shared->Prop
noncomputable def frs (l:List Env):List Addr:=l.filterMap (·.frame)
noncomputable abbrev Cx.fs (X:Cx):List Addr:=frs X.outer
noncomputable def Vis (sc:Scope)(x:Str):Prop:=sc.names.lookup x=some .local\/sc.names.lookup x=some .cell\/sc.names.lookup x=some .free
noncomputable def Loc (sc:Scope)(x:Str):Prop:=sc.names.lookup x=some .local\/sc.names.lookup x=some .cell
noncomputable def Look (env:Env)(h:Heap)(m:Str->Option Value)(x:Str)(u:Value):Prop:=
 (env.kindOf x=some .local/\m x=some u)\/((env.kindOf x=some .cell\/env.kindOf x=some .free)/\∃c,env.cells.lookup x=some c/\h.IsCell c (some u))
structure Cx.Ok (X:Cx):Prop where
 mod:Mod X.K X.mg X.base
 kind:X.env.scope.kind= .function
 glob:X.env.globals=mainGlobals
 blt:X.env.builtins=builtinsNs
 above:X.s₀.heap.objs.size<=X.env.locals
 inj:∀x y c,X.env.cells.lookup x=some c->X.env.cells.lookup y=some c->x=y
 has:∀x,(X.env.kindOf x=some .cell\/X.env.kindOf x=some .free)->∃c,X.env.cells.lookup x=some c
 cab:∀x c,X.fn x=true->X.env.cells.lookup x=some c->X.s₀.heap.objs.size<=c
 hd:X.calm=true->X.A.handled=none
 frames:X.A.frames=some X.stack
 stk:X.stack=X.outer\/(X.stack=X.env::X.outer/\X.env.frame=some X.env.locals)
 exf:∀b∈X.ex,b≠X.env.locals/\∀x c,X.env.cells.lookup x=some c->c≠b
 bs:∀b o,X.base.get? b=some o->X.s₀.heap.get? b=some o/\X.H₀ b=none
 bsz:X.base.objs.size<=X.s₀.heap.objs.size
 noex:∀b o,X.base.get? b=some o->b∉X.ex
 exfs:∀b∈X.ex,b∉X.fs
 funs:X.s₀.heap.FunFrames X.base X.outer
 frf:∀b∈X.fs,X.H₀ b=none
structure Inv (X:Cx) (pins:List (Addr×Obj)) (σ:List (Option V)) (H:Hp) (s:Shared):Prop where
 ok:X.Ok
 os:s.os=X.s₀.os
 bare:AllBare s.gens
 base:Un X.fs X.ex X.H₀ H X.s₀.heap s.heap
 loc:∃m,s.heap.Ns X.env.locals m/\∀(i:Nat) (x:Str) (v:V),X.N[i]? =some x->σ[i]? =some (some v)->Vis X.env.scope x->∃u,RelV v u/\Look X.env s.heap m x u
 cell:∀x c,X.env.cells.lookup x=some c->∃v,s.heap.IsCell c v
 free:H X.env.locals=none
 freeC:∀x c,X.env.cells.lookup x=some c->H c=none
 pin:∀p∈X.pn++pins,s.heap.get? p.1=some p.2/\H p.1=none/\p.1≠X.env.locals/\p.1∉X.fs/\∀v,p.2.data≠ .cell v
 hok:HOk X.prog X.w H s.heap
 len:σ.length=X.N.length
section
variable {X:Cx} {pins:List (Addr×Obj)} {σ:List (Option V)} {H H':Hp} {s:Shared} {h':Heap}
theorem Cx.Ok.nofr (ok:X.Ok)(e:X.base.get? b=some o):b∉X.fs:=fun hb=>by
 have:=(ok.funs.mem hb).1
 rw[e]at this;cases this
theorem Inv.bs (I:Inv X pins σ H s):∀b o,X.base.get? b=some o->s.heap.get? b=some o/\H b=none:=fun b o e=>
 ⟨I.base.keep b o (I.ok.bs b o e).1 (I.ok.bs b o e).2 (I.ok.nofr e) (I.ok.noex b o e),I.base.free b o (I.ok.bs b o e).1 (I.ok.bs b o e).2 (I.ok.noex b o e)⟩
theorem Inv.bk (I:Inv X pins σ H s):∀b o,X.base.get? b=some o->s.heap.get? b=some o:=fun b o e=>(I.bs b o e).1
theorem Inv.mod (I:Inv X pins σ H s):Mod X.K X.mg X.base:=I.ok.mod
theorem Inv.kIn (I:Inv X pins σ H s):X.K.In s.heap:=I.ok.mod.kin.keeps I.bk
theorem Inv.lt (I:Inv X pins σ H s):X.env.locals<s.heap.objs.size:=let⟨_,hn,_⟩:=I.loc;hn.lt
theorem Inv.sz (I:Inv X pins σ H s):X.s₀.heap.objs.size<=s.heap.objs.size:=Nat.le_trans I.ok.above (Nat.le_of_lt I.lt)
theorem Inv.nofs (I:Inv X pins σ H s)(h:s.heap.objs.size<=a):a∉X.fs:=fun hb=>by
 obtain⟨_,o,ho,_⟩:=I.ok.funs.mem hb
 exact absurd (Nat.lt_of_lt_of_le (Heap.lt_size ho) (Nat.le_trans I.sz h)) (Nat.lt_irrefl _)
theorem Inv.cne (I:Inv X pins σ H s):∀x c,X.env.cells.lookup x=some c->c≠X.env.locals:=fun x c e z=>by
 obtain⟨v,o,ho,hd⟩:=I.cell x c e
 obtain⟨m,⟨o',es,ep,ho',hd',_⟩,_⟩:=I.loc
 rw[z,ho']at ho;cases ho;rw[hd']at hd;cases hd
theorem Inv.funs (I:Inv X pins σ H s):s.heap.FunFrames X.base X.outer:=by
 have all:∀(l:List Env),(∀b∈frs l,b∈X.fs)->X.s₀.heap.FunFrames X.base l->s.heap.FunFrames X.base l:=by
  intro l
  induction l with
  |nil=>intro _ _;trivial
  |cons env r ih=>
   intro hs hl
   obtain⟨hk,⟨L,o,hf,hn,ho,hd⟩,hr⟩:=hl
   have hL:L∈X.fs:=hs L (by unfold frs;rw[List.filterMap_cons,hf];exact List.mem_cons_self)
   obtain⟨sl,e⟩:=I.base.slot L o ho (I.ok.frf L hL) hL fun z=>I.ok.exfs L z hL
   exact⟨hk,⟨L,_,hf,hn,e,hd⟩,ih (fun b hb=>hs b (by unfold frs;rw[List.filterMap_cons,hf];exact List.mem_cons_of_mem _ hb)) hr⟩
 exact all X.outer (fun _ hb=>hb) I.ok.funs
theorem Inv.stack (I:Inv X pins σ H s):s.heap.FunFrames X.base X.stack:=by
 rcases I.ok.stk with e|⟨e,hf⟩
 ·rw[e];exact I.funs
 ·rw[e]
  obtain⟨m,hn,_⟩:=I.loc
  refine .cons (by rw[I.ok.kind];decide) hf hn ?_ I.funs
  exact Heap.get?_none_of_le (Nat.le_trans I.ok.bsz I.ok.above)
theorem Inv.stkSub (I:Inv X pins σ H s):∀b∈frs X.stack,b∈X.env.locals::X.fs:=fun b hb=>by
 rcases I.ok.stk with e|⟨e,hf⟩
 ·rw[e]at hb;exact List.mem_cons_of_mem _ hb
 ·rw[e]at hb
  unfold frs at hb
  rw[List.filterMap_cons,hf]at hb
  exact hb
theorem Inv.stkFree (I:Inv X pins σ H s):∀b∈frs X.stack,H b=none:=fun b hb=>by
 rcases List.mem_cons.mp (I.stkSub b hb)with e|hb
 ·rw[e];exact I.free
 ·obtain⟨_,o,ho,_⟩:=I.ok.funs.mem hb
  exact I.base.free b o ho (I.ok.frf b hb) fun z=>I.ok.exfs b z hb
theorem Inv.step (I:Inv X pins σ H s)
  (hch:∀b∈ch,(b∈X.ex\/X.s₀.heap.objs.size<=b)/\b≠X.env.locals/\(∀x c,X.env.cells.lookup x=some c->c≠b)/\∀p∈X.pn++pins,p.1≠b)
  (keep:∀b o,b≠X.env.locals->b∉X.fs->b∉ch->s.heap.get? b=some o->H b=none->h'.get? b=some o)
  (slot:∀b o,b≠X.env.locals->b∈X.fs->b∉ch->s.heap.get? b=some o->H b=none->∃sl,h'.get? b=some {o with slots:=sl}) (free:∀b o,b∉ch->s.heap.get? b=some o->H b=none->H' b=none)
  (there:∀b o,b∉ch->s.heap.get? b=some o->∃o',h'.get? b=some o')
  (tups:∀b xs,H b=some (.tup xs)->H' b=some (.tup xs)) (frzs:∀b o u,H b=some (.frz o u)->H' b=some (.frz o u)) (tbls:∀b ps,H b=some (.tbl ps)->∃more,H' b=some (.tbl (ps++more)))
  (ns:∀m,s.heap.Ns X.env.locals m->h'.Ns X.env.locals m) (hok:HOk X.prog X.w H' h') (hg:AllBare g'):
  Inv X pins σ H' {s with heap:=h',gens:=g',drawn:=d',toks:=t'}:=by
 have neL:∀b o,X.s₀.heap.get? b=some o->b≠X.env.locals:=fun b o e=>Nat.ne_of_lt (Nat.lt_of_lt_of_le (Heap.lt_size e) I.ok.above)
 have neC:∀b o,X.s₀.heap.get? b=some o->b∉X.ex->b∉ch:=fun b o e hx hb=>by
  rcases(hch b hb).1 with z|z
  ·exact hx z
  ·exact absurd (Nat.lt_of_lt_of_le (Heap.lt_size e) z) (Nat.lt_irrefl _)
 have cellK:∀x c,X.env.cells.lookup x=some c->∀v,s.heap.IsCell c v->h'.IsCell c v:=fun x c e v ⟨o,ho,hd⟩=>by
  have nch:c∉ch:=fun z=>(hch c z).2.2.1 x c e rfl
  by_cases hc:c∈X.fs
  ·obtain⟨sl,q⟩:=slot c o (I.cne x c e) hc nch ho (I.freeC x c e)
   exact⟨_,q,hd⟩
  ·exact⟨o,keep c o (I.cne x c e) hc nch ho (I.freeC x c e),hd⟩
 refine⟨I.ok,I.os,hg,⟨fun b o e n hb hx=>?_,fun b o e n hb hx=>?_,fun b o e n hx=>?_,fun b o e hx=>?_,fun b xs e=>tups b xs (I.base.tups b xs e),fun b o xs e=>frzs b o xs (I.base.frzs b o xs e),fun b ps e=>?_⟩,?_,fun x c e=>?_,?_,fun x c e=>?_,fun p hp=>?_,hok,I.len⟩
 ·exact keep b o (neL b o e) hb (neC b o e hx) (I.base.keep b o e n hb hx) (I.base.free b o e n hx)
 ·obtain⟨sl,e1⟩:=I.base.slot b o e n hb hx
  obtain⟨sl',e2⟩:=slot b _ (neL b o e) hb (neC b o e hx) e1 (I.base.free b o e n hx)
  exact⟨sl',e2⟩
 ·obtain⟨o',e1⟩:=I.base.there b o e hx
  exact free b o' (neC b o e hx) e1 (I.base.free b o e n hx)
 ·obtain⟨o',e1⟩:=I.base.there b o e hx
  exact there b o' (neC b o e hx) e1
 ·obtain⟨m1,e1⟩:=I.base.tbls b ps e
  obtain⟨m2,e2⟩:=tbls b _ e1
  exact⟨m1++m2,by rw[e2,Array.append_assoc]⟩
 ·obtain⟨m,hn,hl⟩:=I.loc
  refine⟨m,ns m hn,fun i x v e1 e2 e3=>?_⟩
  obtain⟨u,r,l⟩:=hl i x v e1 e2 e3
  refine⟨u,r,?_⟩
  rcases l with l|⟨k,c,e,z⟩
  ·exact .inl l
  ·exact .inr ⟨k,c,e,cellK x c e _ z⟩
 ·obtain⟨v,z⟩:=I.cell x c e
  exact⟨v,cellK x c e v z⟩
 ·obtain⟨m,⟨o,_,_,ho,_⟩,_⟩:=I.loc
  exact free _ o (fun z=>(hch _ z).2.1 rfl) ho I.free
 ·obtain⟨v,o,ho,hd⟩:=I.cell x c e
  exact free c o (fun z=>(hch c z).2.2.1 x c e rfl) ho (I.freeC x c e)
 ·obtain⟨e,n,ne,nf,d⟩:=I.pin p hp
  have nch:p.1∉ch:=fun z=>(hch p.1 z).2.2.2 p hp rfl
  exact⟨keep p.1 p.2 ne nf nch e n,free p.1 p.2 nch e n,ne,nf,d⟩
theorem Inv.un (I:Inv X pins σ H s)(u:Un X.fs [] H H' s.heap h')(hok:HOk X.prog X.w H' h'):Inv X pins σ H' {s with heap:=h',toks:=t'}:=by
  obtain⟨m,⟨o,es,ep,ho,r⟩,_⟩:=id I.loc
  obtain⟨sl,hL⟩:=u.any ho I.free (by simp)
  exact I.step (g':=s.gens) (d':=s.drawn) (ch:=[]) (fun _ z=>nomatch z) (fun b o _ hb _ e n=>u.keep b o e n hb (by simp)) (fun b o _ hb _ e n=>u.slot b o e n hb (by simp)) (fun b o _ e n=>u.free b o e n (by simp)) (fun b o _ e=>u.there b o e (by simp)) u.tups u.frzs u.tbls (fun m' hm=>by
    obtain⟨o',es',ep',ho',r'⟩:=hm
    rw[ho]at ho';cases ho'
    exact⟨_,es',ep',hL,r'⟩) hok I.bare
theorem Inv.call {ch:List Addr}(I:Inv X pins σ H s)(u:Un (frs X.stack) ch H H' s.heap h')(hok:HOk X.prog X.w H' h')(hg:AllBare g')
  (hch:∀b∈ch,(b∈X.ex\/X.s₀.heap.objs.size<=b)/\b≠X.env.locals/\(∀x c,X.env.cells.lookup x=some c->c≠b)/\∀p∈X.pn++pins,p.1≠b):
  Inv X pins σ H' {s with heap:=h',gens:=g',drawn:=d',toks:=t'}:=by
 obtain⟨m,⟨o,es,ep,ho,r⟩,_⟩:=id I.loc
 obtain⟨sl,hL⟩:=u.any ho I.free fun z=>(hch _ z).2.1 rfl
 exact I.step (ch:=ch) hch (fun b o hL hb hc e n=>u.keep b o e n (fun z=>(List.mem_cons.mp (I.stkSub b z)).elim hL hb) hc) (fun b o _ _ hc e n=>u.any e n hc) (fun b o hc e n=>u.free b o e n hc) (fun b o hc e=>u.there b o e hc) u.tups u.frzs u.tbls (fun m' hm=>by
  obtain⟨o',es',ep',ho',r'⟩:=hm
  rw[ho]at ho';cases ho'
  exact⟨_,es',ep',hL,r'⟩) hok hg
theorem Inv.turned (I:Inv X pins σ H s)(k:∀b o,b≠it->s.heap.get? b=some o->h'.get? b=some o)(hn:H it=none)(hL:it≠X.env.locals)
  (h1:it∈X.ex\/X.s₀.heap.objs.size<=it) (h2:∀x c,X.env.cells.lookup x=some c->c≠it) (h3:∀p∈X.pn++pins,p.1≠it):Inv X pins σ H {s with heap:=h',toks:=t'}:=by
 have nit:∀b u,H b=some u->b≠it:=fun b u e z=>by rw[z,hn]at e;cases e
 refine I.step (g':=s.gens) (d':=s.drawn) (ch:=[it]) (fun b hb=>?_) (fun b o _ _ hc e _=>k b o (fun z=>hc (by simp[z])) e) (fun b o _ _ hc e _=>⟨o.slots,k b o (fun z=>hc (by simp[z])) e⟩) (fun _ _ _ _ n=>n)
  (fun b o hc e=>⟨o,k b o (fun z=>hc (by simp[z])) e⟩) (fun _ _ e=>e) (fun _ _ _ e=>e) (fun b ps e=>⟨#[],by rw[e];simp⟩) (fun m hm=>?_) (fun b u e=>?_) I.bare
 ·have e:b=it:=by simpa using hb
  subst e
  exact⟨h1,hL,h2,h3⟩
 ·obtain⟨o,es,ep,ho,r⟩:=hm
  exact⟨o,es,ep,k _ o (Ne.symm hL) ho,r⟩
 ·refine(I.hok b u e).stay (fun c v hc q=>k c v ?_ q) (fun _ q=>q) fun _ _ q=>q
  rcases hc with z|z
  ·rw[z];exact nit b u e
  ·exact nit c _ z
theorem Inv.tok (I:Inv X pins σ H s)(t:Nat):Inv X pins σ H {s with toks:=t}:=I.un (h':=s.heap) (t':=t) Un.refl I.hok
theorem Inv.kept (I:Inv X pins σ H s)(k:∀b u,s.heap.get? b=some u->h'.get? b=some u):Inv X pins σ H {s with heap:=h',toks:=t'}:=I.un (Un.kept k) (I.hok.kept k)
theorem Inv.laid {o:HO}(I:Inv X pins σ H s)(k:∀b u,s.heap.get? b=some u->h'.get? b=some u)(hp:s.heap.objs.size<=a)(new:ObjOk X.prog X.w (upd H a o) h' a o):
  Inv X pins σ (upd H a o) {s with heap:=h',toks:=t'}:=I.un (Un.laid k hp (I.hok.fresh hp)) (I.hok.laid k hp new)
theorem Inv.write {x e:Addr}{o:HO}(I:Inv X pins σ H s)(mu:Mut (H x))(he:e=x\/H e=some (.own x))(k:∀b u,b≠e->s.heap.get? b=some u->h'.get? b=some u)(heo:∃u,h'.get? e=some u)
  (new:ObjOk X.prog X.w (upd H x o) h' x o):Inv X pins σ (upd H x o) {s with heap:=h',toks:=t'}:=I.un (Un.write mu he k heo) (I.hok.write mu he k heo new)
theorem Inv.pins_of (I:Inv X pins σ H s)(h:∀p∈pins',s.heap.get? p.1=some p.2/\H p.1=none/\p.1≠X.env.locals/\p.1∉X.fs/\∀v,p.2.data≠ .cell v):Inv X pins' σ H s:=
 ⟨I.ok,I.os,I.bare,I.base,I.loc,I.cell,I.free,I.freeC,fun p hp=>(List.mem_append.mp hp).elim (fun z=>I.pin p (List.mem_append_left _ z)) (h p),I.hok,I.len⟩
theorem zmc (hN:N.Nodup)(a:N[i]? =some x)(b:N[j]? =some x):i=j:=by
 obtain⟨h1,e1⟩:=List.getElem?_eq_some_iff.mp a
 obtain⟨h2,e2⟩:=List.getElem?_eq_some_iff.mp b
 exact(List.getElem_inj hN).mp (e1.trans e2.symm)
theorem zph {M:Model}(I:Inv X pins σ H s)(hN:X.N.Nodup)(hi:X.N[i]? =some x)(hx:Loc X.env.scope x)(r:RelV v u)
    (h:∀s',Inv X pins (σ.set i (some v)) H s'->(∃a,Heap.SameBut a s.heap s'.heap/\(a=X.env.locals\/X.env.cells.lookup x=some a))->Q () s') (hf:X.fn x=true\/X.env.scope.names.lookup x=some .local:=by first|exact .inl rfl|exact .inr rfl|assumption):wpAny M A (storeName X.env x u) Q E s:=by
  obtain⟨m,hn,hl⟩:=id I.loc
  have hcls:(X.env.scope.kind== .class||(X.env.scope.kind== .module&&X.env.locals !=X.env.globals))=false:=by rw[I.ok.kind];rfl
  have hiσ:i<σ.length:=by rw[I.len];exact(List.getElem?_eq_some_iff.mp hi).1
  have cne:=I.cne
  have tracked:∀{a:Addr} {h':Heap},(∃o,s.heap.get? a=some o/\H a=none)->Heap.SameBut a s.heap h'->HOk X.prog X.w H h':=fun{a h'} ha hs b ob e=>by
    obtain⟨_,_,hfree⟩:=ha
    refine(I.hok b ob e).stay (fun c w' hc q=>(hs.2 c ?_).trans q) (fun _ q=>q) fun _ _ q=>q
    rintro rfl
    rcases hc with rfl|hc
    . rw[hfree]at e;cases e
    . rw[hfree]at hc;cases hc
  rcases hx with hk|hk
  . refine wpAny_storeName_local hk hn (fun h' hn' hs=>?_) hcls
    obtain⟨oL,_,_,hoL,_⟩:=id hn
    refine h _ ⟨I.ok,I.os,I.bare,⟨fun b o e n hb hx=>?_,fun b o e n hb hx=>?_,I.base.free,fun b o e hx=>?_,I.base.tups,I.base.frzs,I.base.tbls⟩,⟨_,hn',fun j y v' e1 e2 e3=>?_⟩,fun y c e=>?_,I.free,I.freeC,fun p hp=>?_,tracked ⟨oL,hoL,I.free⟩ hs,by simpa using I.len⟩ ⟨_,hs,.inl rfl⟩
    . exact(hs.2 b (Nat.ne_of_lt (Nat.lt_of_lt_of_le (Heap.lt_size e) I.ok.above))).trans (I.base.keep b o e n hb hx)
    . obtain⟨sl,e1⟩:=I.base.slot b o e n hb hx
      exact⟨sl,(hs.2 b (Nat.ne_of_lt (Nat.lt_of_lt_of_le (Heap.lt_size e) I.ok.above))).trans e1⟩
    . obtain⟨o',e1⟩:=I.base.there b o e hx
      exact⟨o',(hs.2 b (Nat.ne_of_lt (Nat.lt_of_lt_of_le (Heap.lt_size e) I.ok.above))).trans e1⟩
    . by_cases hj:j=i
      . subst hj
        rw[hi]at e1;cases e1
        rw[List.getElem?_set_self hiσ]at e2
        cases e2
        exact⟨u,r,.inl ⟨hk,by simp⟩⟩
      . rw[List.getElem?_set_ne (Ne.symm hj)]at e2
        obtain⟨u',r',q⟩:=hl j y v' e1 e2 e3
        refine⟨u',r',?_⟩
        rcases q with⟨k,e⟩|⟨k,c,e,z⟩
        . refine .inl ⟨k,?_⟩
          have:y≠x:=fun e=>hj (zmc hN e1 (e ▸ hi))
          simp[this,e]
        . exact .inr ⟨k,c,e,z.sameBut hs (cne y c e)⟩
    . obtain⟨w',z⟩:=I.cell y c e
      exact⟨w',z.sameBut hs (cne y c e)⟩
    . obtain⟨e,n,ne,nf,d⟩:=I.pin p hp
      exact⟨(hs.2 p.1 ne).trans e,n,ne,nf,d⟩
  . have hfn:X.fn x=true:=by
      rcases hf with z|z
      . exact z
      . rw[z]at hk;cases hk
    obtain⟨c,hc⟩:=I.ok.has x (.inl hk)
    obtain⟨w',z⟩:=I.cell x c hc
    refine wpAny_storeName_cell I.ok.kind hk hc z (fun h' hc' hs=>?_)
    obtain⟨oc,hoc,hocd⟩:=id z
    refine h {s with heap:=h'} ⟨I.ok,I.os,I.bare,⟨fun b o e n hb hx=>?_,fun b o e n hb hx=>?_,I.base.free,fun b o e hx=>?_,I.base.tups,I.base.frzs,I.base.tbls⟩,⟨m,hn.sameBut hs (Ne.symm (cne x c hc)),fun j y v' e1 e2 e3=>?_⟩,fun y c' e=>?_,I.free,I.freeC,fun p hp=>?_,tracked ⟨oc,hoc,I.freeC x c hc⟩ hs,by simpa using I.len⟩ ⟨c,hs,.inr hc⟩
    . exact(hs.2 b (Nat.ne_of_lt (Nat.lt_of_lt_of_le (Heap.lt_size e) (I.ok.cab x c hfn hc)))).trans (I.base.keep b o e n hb hx)
    . obtain⟨sl,e1⟩:=I.base.slot b o e n hb hx
      exact⟨sl,(hs.2 b (Nat.ne_of_lt (Nat.lt_of_lt_of_le (Heap.lt_size e) (I.ok.cab x c hfn hc)))).trans e1⟩
    . obtain⟨o',e1⟩:=I.base.there b o e hx
      exact⟨o',(hs.2 b (Nat.ne_of_lt (Nat.lt_of_lt_of_le (Heap.lt_size e) (I.ok.cab x c hfn hc)))).trans e1⟩
    . by_cases hj:j=i
      . subst hj
        rw[hi]at e1;cases e1
        rw[List.getElem?_set_self hiσ]at e2
        cases e2
        exact⟨u,r,.inr ⟨.inl hk,c,hc,hc'⟩⟩
      . rw[List.getElem?_set_ne (Ne.symm hj)]at e2
        obtain⟨u',r',q⟩:=hl j y v' e1 e2 e3
        refine⟨u',r',?_⟩
        rcases q with q|⟨k,c',e,z'⟩
        . exact .inl q
        . refine .inr ⟨k,c',e,z'.sameBut hs ?_⟩
          rintro rfl
          exact hj (zmc hN e1 (I.ok.inj _ _ _ e hc ▸ hi))
    . by_cases hcc:c'=c
      . subst hcc;exact⟨_,hc'⟩
      . obtain⟨w2,z2⟩:=I.cell y c' e
        exact⟨w2,z2.sameBut hs hcc⟩
    . obtain⟨e,n,ne,nf,d⟩:=I.pin p hp
      refine⟨(hs.2 p.1 ?_).trans e,n,ne,nf,d⟩
      intro q
      rw[q,hoc]at e
      have q':oc=p.2:=Option.some.inj e
      exact d w' (by rw[<-q'];exact hocd)
theorem zj0 {M:Model}(I:Inv X pins σ H s)(hN:X.N.Nodup)(hi:X.N[i]? =some x)(hx:Loc X.env.scope x)(r:RelV v u)
  (h:∀s',Inv X pins (σ.set i (some v)) H s'->Q () s') (hf:X.fn x=true\/X.env.scope.names.lookup x=some .local:=by first|exact .inl rfl|exact .inr rfl|assumption):wpAny M A (storeName X.env x u) Q E s:=
 zph I hN hi hx r (fun s' I' _=>h s' I') hf
end
noncomputable abbrev XK:=Value->Option Addr->Hp->Prop
noncomputable abbrev St:=List (Option V)
noncomputable abbrev VK:=V->Hp->Prop
noncomputable abbrev TE:=St->Hp->VK->Prop
noncomputable abbrev TT:=St->Hp->(Bool->Hp->Prop)->Prop
noncomputable abbrev TA:=St->Hp->(List V->Hp->Prop)->Prop
structure Ends where
 nx:St->Hp->Prop
 rt:VK
 bk:St->Hp->Prop:=fun _ _=>False
 ct:St->Hp->Prop:=fun _ _=>False
noncomputable abbrev TS:=Ends->St->Hp->Prop
noncomputable def EP (X:Cx)(pins:List (Addr×Obj))(σ:St)(Q:VK)(u:Value)(s':Shared):Prop:=∃v H',Inv X pins σ H' s'/\RelV v u/\Q v H'
noncomputable def TP (X:Cx)(pins:List (Addr×Obj))(σ:St)(Q:Bool->Hp->Prop)(b:Bool)(s':Shared):Prop:=∃H',Inv X pins σ H' s'/\Q b H'
noncomputable def AP (X:Cx)(pins:List (Addr×Obj))(σ:St)(Q:List V->Hp->Prop)(us:List Value)(s':Shared):Prop:=∃vs H',Inv X pins σ H' s'/\Vals vs us/\Q vs H'
noncomputable def SP (X:Cx)(pins:List (Addr×Obj))(D:Ends)(f:Flow)(s':Shared):Prop:=
 match f with
 | .next=>∃σ' H',Inv X pins σ' H' s'/\D.nx σ' H'
 | .brk=>∃σ' H',Inv X pins σ' H' s'/\D.bk σ' H'
 | .cont=>∃σ' H',Inv X pins σ' H' s'/\D.ct σ' H'
 | .ret u=>∃v σ' H',Inv X pins σ' H' s'/\RelV v u/\D.rt v H'
noncomputable def PE (X:Cx)(e:Expr)(t:TE):Prop:=
 ∀(pins:List (Addr×Obj)) (s:Shared) (σ:St) (H:Hp) (Q:VK),Inv X pins σ H s->t σ H Q->wpAny (model X.prog X.w) X.A (eval e X.env) (EP X pins σ Q) X.xe s
noncomputable def PT (X:Cx)(e:Expr)(t:TT):Prop:=
 ∀(pins:List (Addr×Obj)) (s:Shared) (σ:St) (H:Hp) (Q:Bool->Hp->Prop),Inv X pins σ H s->t σ H Q->wpAny (model X.prog X.w) X.A (isTrue e X.env (eval e X.env)) (TP X pins σ Q) X.xe s
noncomputable def PW (X:Cx)(e:Expr)(t:TT):Prop:=
 ∀(whole:Sem Value) (pins:List (Addr×Obj)) (s:Shared) (σ:St) (H:Hp) (Q:Bool->Hp->Prop),Inv X pins σ H s->t σ H Q->wpAny (model X.prog X.w) X.A (isTrue e X.env whole) (TP X pins σ Q) X.xe s
theorem PW.pt {t:TT}(h:PW X e t):PT X e t:=h _
noncomputable def PA (X:Cx)(es:List Expr)(t:TA):Prop:=
 ∀(pos:Pos) (pins:List (Addr×Obj)) (s:Shared) (σ:St) (H:Hp) (Q:List V->Hp->Prop),Inv X pins σ H s->t σ H Q->wpAny (model X.prog X.w) X.A (spliced (backTo pos (starEach es X.env))) (AP X pins σ Q) X.xe s
noncomputable def PS (X:Cx)(st:Stmt)(t:TS):Prop:=
 ∀(pins:List (Addr×Obj)) (s:Shared) (σ:St) (H:Hp) (D:Ends),Inv X pins σ H s->t D σ H->wpAny (model X.prog X.w) X.A (exec st X.env) (SP X pins D) X.xe s
noncomputable def PSs (X:Cx)(st:List Stmt)(t:TS):Prop:=
 ∀(pins:List (Addr×Obj)) (s:Shared) (σ:St) (H:Hp) (D:Ends),Inv X pins σ H s->t D σ H->wpAny (model X.prog X.w) X.A (execs st X.env) (SP X pins D) X.xe s
theorem thn {α:Type}{t:Sem α}{Q Q':α->Shared->Prop}{M:Model}(h:wpAny M A t Q E s)(hQ:∀a s,Q a s->Q' a s):wpAny M A t Q' E s:=wpAny_mono h hQ fun _ _ x=>x
section
variable {X:Cx}
noncomputable def tVar (i:Nat):TE:=fun σ H Q=>∃v,σ[i]? =some (some v)/\Q v H
noncomputable def tC (v:V):TE:=fun _ H Q=>Q v H
theorem zff (hN:X.N[i]? =some x)(hv:Vis X.env.scope x)(hd:(x==("__debug__":Str))=false:=by decide)(hcd:(x==("__classdict__":Str))=false:=by decide):PE X (.Name x pos) (tVar i):=by
 intro pins s σ H Q I h
 obtain⟨v,e,h⟩:=h
 obtain⟨m,hn,hl⟩:=I.loc
 obtain⟨u,r,l⟩:=hl i x v hN e hv
 have fin:EP X pins σ Q u s:=⟨v,H,I,r,h⟩
 rcases l with⟨hk,hm⟩|⟨hk,c,hc,hcell⟩
 ·exact wpAny_Name (wpAny_loadName_local I.ok.kind hk hn hm fin) hd
 ·rcases hk with hk|hk
  ·exact wpAny_Name (wpAny_loadName_cell I.ok.kind hk hc hcell fin) hd
  ·exact wpAny_Name (wpAny_loadName_free I.ok.kind hk hc hcell fin hcd) hd
theorem pe_int {i j pos}:PE X (.Constant (.int i) j pos) (tC (.int i)):=fun _ _ _ H _ I h=>wpAny_Constant_int ⟨.int i,H,I.tok _,⟨_,rfl⟩,h⟩
theorem pe_bl {b j pos}:PE X (.Constant (.bool b) j pos) (tC (.bl b)):=fun _ _ _ H _ I h=>Constant_bool ⟨.bl b,H,I,rfl,h⟩
theorem pe_non {j pos}:PE X (.Constant .none j pos) (tC .non):=fun _ _ _ H _ I h=>Constant_none ⟨.non,H,I,rfl,h⟩
theorem pe_str {x j pos}:PE X (.Constant (.str x) j pos) (tC (.str x)):=fun _ _ _ H _ I h=>Calls.Constant_str ⟨.str x,H,I.tok _,⟨_,rfl⟩,h⟩
noncomputable def Gl (X:Cx)(x:Str):Prop:=X.env.kindOf x=some .globalImplicit
theorem zpd {Q:Value->Shared->Prop}(I:Inv X pins σ H s)(hg:Gl X x)(hm:X.mg x=some u)(h:Q u s)
  (hd:(x==("__debug__":Str))=false:=by decide):wpAny (model X.prog X.w) X.A (eval (.Name x pos) X.env) Q E s:=
 Calls.Name_function_global I.ok.kind hg (Calls.loadGlobal_global (by rw[I.ok.glob];exact I.mod.glob.keeps I.bk) hm h) hd
theorem ziC {Q:Value->Shared->Prop}(I:Inv X pins σ H s)(hg:Gl X x)(hm:X.mg x=none)(hv:bootBuiltins x=some u)(h:Q u s)
  (hn:x≠"__name__":=by decide) (hd:(x==("__debug__":Str))=false:=by decide):wpAny (model X.prog X.w) X.A (eval (.Name x pos) X.env) Q E s:=by
 obtain⟨mb,h1,h2⟩:=I.mod.blt
 exact Calls.Name_function_global I.ok.kind hg (Calls.loadGlobal_builtin (by rw[I.ok.glob];exact I.mod.glob.keeps I.bk) hm (by rw[I.ok.blt];exact h1.keeps I.bk) ((h2 x hn).trans hv) h) hd
theorem pe_glob (hg:Gl X x)(hm:X.mg x=some u)(r:RelV v u)(hd:(x==("__debug__":Str))=false:=by decide):PE X (.Name x pos) (tC v):=
 fun _ _ _ H _ I h=>zpd I hg hm ⟨v,H,I,r,h⟩ hd
variable {a b:Expr} {ta tb:TE} {pos:Pos}
noncomputable def PC (X:Cx)(op:CmpOp)(a b:Expr)(t:TE):Prop:=
 ∀(pins:List (Addr×Obj)) (s:Shared) (σ:St) (H:Hp) (Q:VK),Inv X pins σ H s->t σ H Q->
  wpAny (model X.prog X.w) X.A (eval a X.env) (fun v s₁=>wpAny (model X.prog X.w) X.A (eval b X.env) (fun u s₂=>wpAny (model X.prog X.w) X.A (compareOp op v u) (EP X pins σ Q) X.xe s₂) X.xe s₁) X.xe s
theorem nobehind (b:Expr)(h:op≠ .In)(h2:op≠ .NotIn):behindInMarks op b=false:=by
 have e1:(op==CmpOp.In)=false:=by cases op<;>first|rfl|exact absurd rfl h
 have e2:(op==CmpOp.NotIn)=false:=by cases op<;>first|rfl|exact absurd rfl h2
 cases b<;>simp[behindInMarks,e1,e2]
noncomputable def tB (t:TE):TT:=fun σ H Q=>t σ H fun x H1=>∃c,x= .bl c/\Q c H1
theorem pt_cmp (h:PC X op a b t)(h1:behindInMarks op b=false:=by first|exact nobehind _ (by decide) (by decide)|rfl):PT X (.Compare a [op] [b] pos) (tB t):=by
  intro pins s σ H Q I hw
  refine wpAny_isTrue_Compare1 (thn (h pins s σ H _ I hw) fun v s1 h1=>thn h1 fun u s2 h2=>thn h2 fun c s3 ⟨x,H1,I1,r1,q1⟩=>?_) h1
  obtain⟨d,rfl,q⟩:=q1
  cases r1
  exact wpAny_truthy_bool ⟨H1,I1,q⟩
variable {tA tB':TT} {rest:List Expr}
noncomputable def tAnd (t u:TT):TT:=fun σ H Q=>t σ H fun c H1=>if c=true then u σ H1 Q else Q false H1
noncomputable def tOr (t u:TT):TT:=fun σ H Q=>t σ H fun c H1=>if c=true then Q true H1 else u σ H1 Q
noncomputable def tNot (t:TT):TT:=fun σ H Q=>t σ H fun c H1=>Q (!c) H1
theorem pw_and1 (ha:PT X a tA):PW X (.BoolOp .And [a] pos) tA:=by
 intro wh pins s σ H Q I h
 refine isTrue_and (thn (ha pins s σ H Q I h) fun c s1 e=>?_)
 cases c with
 |true=>exact isTrue_and_nil e
 |false=>exact e
theorem pw_or1 (ha:PT X a tA):PW X (.BoolOp .Or [a] pos) tA:=by
 intro wh pins s σ H Q I h
 refine isTrue_or (thn (ha pins s σ H Q I h) fun c s1 e=>?_)
 cases c with
 |false=>exact isTrue_or_nil e
 |true=>exact e
theorem pw_and (ha:PT X a tA)(hb:PW X (.BoolOp .And (b::rest) pos) tB'):PW X (.BoolOp .And (a::b::rest) pos) (tAnd tA tB'):=by
 intro wh pins s σ H Q I h
 refine isTrue_and (thn (ha pins s σ H _ I h) fun c s1 ⟨H1,I1,q1⟩=>?_)
 cases c with
 |true=>exact hb wh pins s1 σ H1 Q I1 q1
 |false=>exact⟨H1,I1,q1⟩
theorem pw_or (ha:PT X a tA)(hb:PW X (.BoolOp .Or (b::rest) pos) tB'):PW X (.BoolOp .Or (a::b::rest) pos) (tOr tA tB'):=by
 intro wh pins s σ H Q I h
 refine isTrue_or (thn (ha pins s σ H _ I h) fun c s1 ⟨H1,I1,q1⟩=>?_)
 cases c with
 |true=>exact⟨H1,I1,q1⟩
 |false=>exact hb wh pins s1 σ H1 Q I1 q1
theorem pt_not (ha:PT X a tA):PT X (.UnaryOp .Not a pos) (tNot tA):=by
 intro pins s σ H Q I h
 exact isTrue_not (ha pins s σ H (fun c H1=>Q (!c) H1) I h)
noncomputable def tAndV (ta tb:TE):TE:=fun σ H Q=>ta σ H fun x H1=>∃c,x= .bl c/\if c=true then tb σ H1 Q else Q (.bl false) H1
theorem pe_one {op}(h:PE X a t):PE X (.BoolOp op [a] pos) t:=fun pins s σ H Q I hw=>BoolOp_one (h pins s σ H Q I hw)
theorem pe_and (ha:PE X a ta)(hb:PE X (.BoolOp .And (b::rest) pos) tb):PE X (.BoolOp .And (a::b::rest) pos) (tAndV ta tb):=by
 intro pins s σ H Q I h
 refine BoolOp_and (thn (ha pins s σ H _ I h) fun v s1 ⟨x,H1,I1,r1,q1⟩=>?_)
 obtain⟨c,rfl,q1⟩:=q1
 cases r1
 refine wpAny_truthy_bool ?_
 cases c with
 |true=>exact hb pins s1 σ H1 Q I1 q1
 |false=>exact⟨.bl false,H1,I1,rfl,q1⟩
noncomputable def tIf (t:TT)(ta tb:TE):TE:=fun σ H Q=>t σ H fun c H1=>if c=true then ta σ H1 Q else tb σ H1 Q
theorem pe_ifExp (hc:PT X c tA)(ha:PE X a ta)(hb:PE X b tb):PE X (.IfExp c a b pos) (tIf tA ta tb):=by
 intro pins s σ H Q I h
 refine wpAny_IfExp (thn (hc pins s σ H _ I h) fun d s1 ⟨H1,I1,q1⟩=>?_)
 cases d with
 |true=>exact ha pins s1 σ H1 Q I1 q1
 |false=>exact hb pins s1 σ H1 Q I1 q1
end
noncomputable def SqL (K:W.Frag)(H:Hp)(a:Addr)(xs:List V):Prop:=
 Rd H a (.lst xs)\/
  ∃(o:Obj) (its:Array Value) (n:Nat),K.lookup a=some o/\o.cls= .type "list"/\o.dict=none/\o.data= .seq its n/\its.size<=sizeLine/\Vals xs its.toList
noncomputable def SqT (K:W.Frag)(H:Hp)(a:Addr)(xs:List V):Prop:=
 Rd H a (.tup xs)\/
  ∃(o:Obj) (its:Array Value) (n:Nat),K.lookup a=some o/\o.cls= .type "tuple"/\o.data= .seq its n/\its.size<=sizeLine/\Vals xs its.toList
noncomputable def absV:Value->Option V
 | .none=>some .non
 | .bool b=>some (.bl b)
 | .int i _=>some (.int i)
 | .str x _=>some (.str x)
 | .bytes b _=>some (.byt b)
 | .float b _=>some (.flt b)
 | .ref a=>some (.ref a)
 | .type n=>some (.ty n)
 |_=>none
theorem RelV.abs {x:V}(r:RelV x u):absV u=some x:=by
 cases x with
 |non=>cases r;rfl
 |bl _=>cases r;rfl
 |int _=>obtain⟨t,rfl⟩:=r;rfl
 |str _=>obtain⟨t,rfl⟩:=r;rfl
 |byt _=>obtain⟨t,rfl⟩:=r;rfl
 |flt _=>obtain⟨t,rfl⟩:=r;rfl
 |ref _=>cases r;rfl
 |ty _=>cases r;rfl
theorem RelV.inj {x y:V}(r:RelV x u)(q:RelV y u):x=y:=Option.some.inj (r.abs.symm.trans q.abs)
theorem Vals.inj:∀{xs ys:List V} {us:List Value},Vals xs us->Vals ys us->xs=ys
 |_,_,_,.nil,.nil=>rfl
 |_,_,_,.cons r t,.cons r' t'=>by rw[r.inj r',Vals.inj t t']
section
variable {X:Cx} {pins:List (Addr×Obj)} {σ:St} {H:Hp} {s:Shared} {a:Addr} {xs ys:List V}
theorem SqL.of (h:H a=some (.lst xs)):SqL K H a xs:= .inl (.inl h)
theorem SqT.of (h:H a=some (.tup xs)):SqT K H a xs:= .inl (.inl h)
theorem Inv.list (I:Inv X pins σ H s)(h:SqL X.K H a xs):∃its:List Value,Vals xs its/\PlainL s.heap a its.toArray/\xs.length<=sizeLine:=by
 rcases h with h|⟨o,its,n,hk,hc,hd,hs,hz,r⟩
 ·obtain⟨z,its,n,r,e⟩:=h.ok I.hok
  exact⟨its,r,⟨_,n,e,rfl,rfl,rfl⟩,z⟩
 ·refine⟨its.toList,r,⟨o,n,I.kIn a o hk,hc,hd,by simpa using hs⟩,?_⟩
  have e:=r.length
  simp only[Array.length_toList]at e
  lia
theorem Inv.tuple (I:Inv X pins σ H s)(h:SqT X.K H a xs):∃its:List Value,Vals xs its/\IsTup s.heap a its.toArray/\xs.length<=sizeLine:=by
 rcases h with h|⟨o,its,n,hk,hc,hs,hz,r⟩
 ·obtain⟨z,its,r,p⟩:=h.ok I.hok
  exact⟨its,r,p,z⟩
 ·refine⟨its.toList,r,⟨o,I.kIn a o hk,hc,n,by simpa using hs⟩,?_⟩
  have e:=r.length
  simp only[Array.length_toList]at e
  lia
theorem Inv.list_inj (I:Inv X pins σ H s)(h:SqL X.K H a xs)(h':SqL X.K H a ys):xs=ys:=by
 obtain⟨its,r,⟨o,n,e,_,_,d⟩,_⟩:=I.list h
 obtain⟨its',r',⟨o',n',e',_,_,d'⟩,_⟩:=I.list h'
 rw[e]at e';cases e'
 rw[d]at d'
 injection d' with d1 _
 have:its=its':=by simpa using congrArg Array.toList d1
 subst this
 exact r.inj r'
theorem Inv.tuple_inj (I:Inv X pins σ H s)(h:SqT X.K H a xs)(h':SqT X.K H a ys):xs=ys:=by
 obtain⟨its,r,⟨o,e,_,n,d⟩,_⟩:=I.tuple h
 obtain⟨its',r',⟨o',e',_,n',d'⟩,_⟩:=I.tuple h'
 rw[e]at e';cases e'
 rw[d]at d'
 injection d' with d1 _
 have:its=its':=by simpa using congrArg Array.toList d1
 subst this
 exact r.inj r'
end
noncomputable abbrev Cx.wish (X:Cx)(E:Value->Shared->Prop):Cx:={X with xe:=E}
noncomputable abbrev Cx.nox (X:Cx):Cx:=X.wish fun _ _=>False
theorem Cx.Ok.wish (ok:X.Ok)(E:Value->Shared->Prop):(X.wish E).Ok:=
 ⟨ok.mod,ok.kind,ok.glob,ok.blt,ok.above,ok.inj,ok.has,ok.cab,ok.hd,ok.frames,ok.stk,ok.exf,ok.bs,ok.bsz,ok.noex,ok.exfs,ok.funs,ok.frf⟩
theorem Cx.Ok.unwish (ok:(X.wish E).Ok):X.Ok:=
 ⟨ok.mod,ok.kind,ok.glob,ok.blt,ok.above,ok.inj,ok.has,ok.cab,ok.hd,ok.frames,ok.stk,ok.exf,ok.bs,ok.bsz,ok.noex,ok.exfs,ok.funs,ok.frf⟩
section
variable {X:Cx} {pins:List (Addr×Obj)} {σ:St} {H:Hp} {s:Shared} {E:Value->Shared->Prop}
theorem Inv.wish (I:Inv X pins σ H s)(E:Value->Shared->Prop):Inv (X.wish E) pins σ H s:=⟨I.ok.wish E,I.os,I.bare,I.base,I.loc,I.cell,I.free,I.freeC,I.pin,I.hok,I.len⟩
theorem Inv.unwish (I:Inv (X.wish E) pins σ H s):Inv X pins σ H s:=⟨I.ok.unwish,I.os,I.bare,I.base,I.loc,I.cell,I.free,I.freeC,I.pin,I.hok,I.len⟩
theorem SP.unwish {D:Ends}{f:Flow}(h:SP (X.wish E) pins D f s'):SP X pins D f s':=by
 cases f with
 |next=>obtain⟨σ',H',I,q⟩:=h;exact⟨σ',H',I.unwish,q⟩
 |brk=>obtain⟨σ',H',I,q⟩:=h;exact⟨σ',H',I.unwish,q⟩
 |cont=>obtain⟨σ',H',I,q⟩:=h;exact⟨σ',H',I.unwish,q⟩
 |ret u=>obtain⟨v,σ',H',I,r,q⟩:=h;exact⟨v,σ',H',I.unwish,r,q⟩
theorem PSs.nox {st:List Stmt}{t:TS}(h:PSs X.nox st t):PSs X st t:=fun pins s σ H D I hw=>
 wpAny_mono (h pins s σ H D (I.wish _) hw) (fun _ _ q=>q.unwish) fun _ _ z=>False.elim z
end
section
variable {X:Cx} {st:Stmt} {rest:List Stmt} {t u:TS} {e:Expr} {te:TE} {pos:Pos}
noncomputable def tNext:TS:=fun D σ H=>D.nx σ H
noncomputable def tSeq (t u:TS):TS:=fun D σ H=>t {D with nx:=u D} σ H
theorem pss_nil:PSs X [] tNext:=fun _ _ σ H _ I h=>wpAny_execs_nil ⟨σ,H,I,h⟩
theorem pss_cons (h1:PS X st t)(h2:PSs X rest u):PSs X (st::rest) (tSeq t u):=by
 intro pins s σ H D I h
 refine wpAny_execs_cons (thn (h1 pins s σ H {D with nx:=u D} I h) fun f s1 q=>?_)
 cases f with
 |next=>
  obtain⟨σ',H',I',q⟩:=q
  exact h2 pins s1 σ' H' D I' q
 |ret v=>exact q
 |brk=>exact q
 |cont=>exact q
theorem pss_one (h1:PS X st t):PSs X [st] t:=by
 intro pins s σ H D I h
 refine wpAny_execs_cons (thn (h1 pins s σ H D I h) fun f s1 q=>?_)
 cases f with
 |next=>exact wpAny_execs_nil q
 |ret v=>exact q
 |brk=>exact q
 |cont=>exact q
theorem Inv.quiet (I:Inv X pins σ H s):interactive X.env=false:=by simp[interactive,I.ok.kind]
noncomputable def tDrop (te:TE):TS:=fun D σ H=>te σ H fun _ H1=>D.nx σ H1
theorem ps_expr (he:PE X e te)(hs:swapsWith e none pos.line X.env=pure false:=by rfl):PS X (.Expr e pos) (tDrop te):=by
 intro pins s σ H D I h
 exact wpAny_Expr_any (thn (he pins s σ H _ I h) fun v s1 ⟨x,H1,I1,r1,q1⟩=>⟨σ,H1,I1,q1⟩) I.quiet hs
noncomputable def tRet (te:TE):TS:=fun D σ H=>te σ H D.rt
theorem zn4 (he:PE X e te):PS X (.Return (some e) pos) (tRet te):=by
 intro pins s σ H D I h
 exact wpAny_Return_some (thn (he pins s σ H _ I h) fun v s1 ⟨x,H1,I1,r1,q1⟩=>⟨x,σ,H1,I1,r1,q1⟩)
noncomputable def tIfS (c:TT)(t u:TS):TS:=fun D σ H=>c σ H fun b H1=>if b=true then t D σ H1 else u D σ H1
theorem ps_if {a b:List Stmt}(hc:PT X c tc)(ha:PSs X a t)(hb:PSs X b u):PS X (.If c a b pos) (tIfS tc t u):=by
 intro pins s σ H D I h
 refine wpAny_If (thn (hc pins s σ H _ I h) fun d s1 ⟨H1,I1,q1⟩=>?_)
 cases d with
 |true=>exact ha pins s1 σ H1 D I1 q1
 |false=>exact hb pins s1 σ H1 D I1 q1
noncomputable def tNever:TS:=fun _ _ _=>False
theorem ps_never:PS X st tNever:=fun _ _ _ _ _ _ h=>h.elim
end
noncomputable abbrev TG:=V->St->Hp->(St->Hp->Prop)->Prop
noncomputable abbrev TGs:=List V->St->Hp->(St->Hp->Prop)->Prop
noncomputable def PG (X:Cx)(target:Expr)(t:TG):Prop:=
 ∀(pins:List (Addr×Obj)) (s:Shared) (σ:St) (H:Hp) (v:V) (u:Value) (Q:St->Hp->Prop),Inv X pins σ H s->RelV v u->t v σ H Q->
  wpAny (model X.prog X.w) X.A (assign target X.env u) (fun _ s'=>∃σ' H',Inv X pins σ' H' s'/\Q σ' H') X.xe s
noncomputable def PGs (X:Cx)(ts:List Expr)(t:TGs):Prop:=
 ∀(pins:List (Addr×Obj)) (s:Shared) (σ:St) (H:Hp) (vs:List V) (us:List Value) (Q:St->Hp->Prop),Inv X pins σ H s->Vals vs us->t vs σ H Q->
  wpAny (model X.prog X.w) X.A (assignInOrder ((assignEach ts X.env).map (·.2)) us) (fun _ s'=>∃σ' H',Inv X pins σ' H' s'/\Q σ' H') X.xe s
noncomputable abbrev TSet:=V->V->V->Hp->(Hp->Prop)->Prop
noncomputable def PSet (X:Cx)(t:TSet):Prop:=
 ∀(pins:List (Addr×Obj)) (s:Shared) (σ:St) (H:Hp) (o i v:V) (ov iv u:Value) (Q:Hp->Prop),Inv X pins σ H s->RelV o ov->RelV i iv->RelV v u->t o i v H Q->
  wpAny (model X.prog X.w) X.A (setItem ov iv u) (fun _ s'=>∃H',Inv X pins σ H' s'/\Q H') X.xe s
noncomputable abbrev TIp:=V->V->Hp->VK->Prop
noncomputable def PIp (X:Cx)(op:Operator)(t:TIp):Prop:=
 ∀(pins:List (Addr×Obj)) (s:Shared) (σ:St) (H:Hp) (x y:V) (v u:Value) (Q:VK),Inv X pins σ H s->RelV x v->RelV y u->t x y H Q->
  wpAny (model X.prog X.w) X.A (inplaceOp op v u) (EP X pins σ Q) X.xe s
section
variable {X:Cx} {pos:Pos}
noncomputable def gName (i:Nat):TG:=fun v σ H Q=>Q (σ.set i (some v)) H
theorem znN (hN:X.N.Nodup)(hi:X.N[i]? =some x)(hx:Loc X.env.scope x)(hf:X.fn x=true\/X.env.scope.names.lookup x=some .local:=by first|exact .inl rfl|exact .inr rfl|assumption):PG X (.Name x pos) (gName i):=by
  intro pins s σ H v u Q I r h
  exact wpAny_assign_Name (zj0 I hN hi hx r (fun s' I'=>⟨_,H,I',h⟩) hf)
noncomputable def gNil:TGs:=fun vs σ H Q=>vs=[]/\Q σ H
noncomputable def gCons (t:TG)(u:TGs):TGs:=fun vs σ H Q=>∃v r,vs=v::r/\t v σ H fun σ' H'=>u r σ' H' Q
theorem pgs_nil:PGs X [] gNil:=by
 intro pins s σ H vs us Q I r h
 obtain⟨e,h⟩:=h
 subst e
 cases r
 exact assignInOrder_nil ⟨σ,H,I,h⟩
theorem pgs_cons {t:TG}{u:TGs}(h1:PG X e t)(h2:PGs X es u)
  (hs:(assignEach (e::es) X.env).map (·.2)=assign e X.env::(assignEach es X.env).map (·.2):=by rfl):PGs X (e::es) (gCons t u):=by
 intro pins s σ H vs us Q I r h
 obtain⟨v,vr,e1,h⟩:=h
 subst e1
 cases r with
 |cons r rr=>
  rw[hs]
  refine assignInOrder_cons (thn (h1 pins s σ H _ _ _ I r h) fun _ s1 ⟨σ1,H1,I1,q1⟩=>?_)
  exact h2 pins s1 σ1 H1 _ _ Q I1 rr q1
noncomputable def gTup (K:W.Frag)(n:Nat)(t:TGs):TG:=fun v σ H Q=>∃a xs,v= .ref a/\SqT K H a xs/\xs.length=n/\t xs σ H Q
theorem pg_tup {t:TGs}(hc:X.calm=true)(h:PGs X es t)
  (hn:(assignEach es X.env).length=n:=by rfl) (hst:(assignEach es X.env).findIdx? (·.1)=none:=by rfl):PG X (.Tuple es k pos) (gTup X.K n t):=by
 intro pins s σ H v u Q I r hw
 obtain⟨a,xs,e1,hq,hl,hw⟩:=hw
 subst e1
 cases r
 obtain⟨its,rv,ht,hz⟩:=I.tuple hq
 refine assign_Tuple_tuple (I.ok.hd hc) ht (by simp[hn,<-hl,rv.length]) hst fun h' hx=>?_
 have I1:Inv X pins σ H {s with heap:=h'}:=I.kept (t':=s.toks) fun b o e=>hx b o (Nat.ne_of_lt (Heap.lt_size e)) e
 exact h pins _ σ H xs _ Q I1 (by simpa using rv) hw
noncomputable def gSub (to ti:TE)(t:TSet):TG:=fun v σ H Q=>to σ H fun o H1=>ti σ H1 fun i H2=>t o i v H2 fun H3=>Q σ H3
theorem pg_sub {o i:Expr}{to ti:TE}{t:TSet}(ho:PE X o to)(hi:PE X i ti)(hs:PSet X t)
    (ha : ∀ v, assign (.Subscript o i pos) X.env v = (do
      let ov<-holding [v] (eval o X.env)
      let iv<-holding [v,ov] (eval i X.env)
      standAt pos
      holding [v,ov,iv] (setItem ov iv v)
      release [v,ov,iv] []):=by intro _;rfl):PG X (.Subscript o i pos) (gSub to ti t):=by
  intro pins s σ H v u Q I r h
  rw[ha]
  refine wpAny_bind (wpAny_holding (thn (ho pins s σ H _ I h) fun ov s1 ⟨x,H1,I1,r1,q1⟩=>?_))
  refine wpAny_bind (wpAny_holding (thn (hi pins s1 σ H1 _ I1 q1) fun iv s2 ⟨y,H2,I2,r2,q2⟩=>?_))
  refine wpAny_bind (wpAny_standAt (wpAny_bind (wpAny_holding (thn (hs pins s2 σ H2 x y v ov iv u _ I2 r1 r2 r q2) fun _ s3 ⟨H3,I3,q3⟩=>?_))))
  exact wpAny_release ⟨σ,H3,I3,q3⟩
noncomputable def tAsg (te:TE)(g:TG):TS:=fun D σ H=>te σ H fun x H1=>g x σ H1 D.nx
theorem ps_asg {g:TG}(he:PE X e te)(hg:PG X tg g)(hs:swapsWithSole [tg] e pos.line X.env=pure false:=by rfl)(hw:swappedStores [tg] e X.env=pure none:=by rfl)
  (h1:(assignEach [tg] X.env).map (·.2)=[assign tg X.env]:=by rfl):PS X (.Assign [tg] e pos) (tAsg te g):=by
 intro pins s σ H D I h
 refine wpAny_Assign_stores (thn (he pins s σ H _ I h) fun v s1 ⟨x,H1,I1,r1,q1⟩=>?_) hs hw
 rw[h1]
 exact thn (hg pins s1 σ H1 x v _ I1 r1 q1) fun _ s2 q=>q
theorem zmA (hN:X.N.Nodup)(hi:X.N[i]? =some x)(hx:Loc X.env.scope x)(he:PE X e te)(hs:swapsWith e (some (.Name x pos')) pos.line X.env=pure false:=by rfl)(hf:X.fn x=true\/X.env.scope.names.lookup x=some .local:=by first|exact .inl rfl|exact .inr rfl|assumption):
  PS X (.Assign [.Name x pos'] e pos) (tAsg te (gName i)):=by
 intro pins s σ H D I h
 refine wpAny_Assign_Name (thn (he pins s σ H _ I h) fun v s1 ⟨y,H1,I1,r1,q1⟩=>?_) hs
 exact zj0 I1 hN hi hx r1 (fun s2 I2=>⟨_,H1,I2,q1⟩) hf
noncomputable def tAug (i:Nat)(te:TE)(ti:TIp):TS:=fun D σ H=>∃x,σ[i]? =some (some x)/\te σ H fun y H1=>ti x y H1 fun z H2=>D.nx (σ.set i (some z)) H2
theorem ps_aug {op:Operator}{ti:TIp}(hN:X.N.Nodup)(hi:X.N[i]? =some x)(hx:Loc X.env.scope x)(he:PE X e te)(ho:PIp X op ti)(hf:X.fn x=true\/X.env.scope.names.lookup x=some .local:=by first|exact .inl rfl|exact .inr rfl|assumption):
  PS X (.AugAssign (.Name x pos') op e pos) (tAug i te ti):=by
 intro pins s σ H D I h
 obtain⟨v,e1,h⟩:=h
 obtain⟨m,hn,hl⟩:=I.loc
 have vis:Vis X.env.scope x:=by rcases hx with k|k;exact .inl k;exact .inr (.inl k)
 obtain⟨u,r,l⟩:=hl i x v hi e1 vis
 refine wpAny_AugAssign_Name ?_
 have go:wpAny (model X.prog X.w) X.A (eval e X.env) (fun w s₂=>wpAny (model X.prog X.w) X.A (inplaceOp op u w) (fun r s₃=>wpAny (model X.prog X.w) X.A (storeName X.env x r) (fun _=>SP X pins D .next) X.xe s₃) X.xe s₂) X.xe s:=by
  refine thn (he pins s σ H _ I h) fun w s1 ⟨y,H1,I1,r1,q1⟩=>?_
  refine thn (ho pins s1 σ H1 v y u w _ I1 r r1 q1) fun z s2 ⟨zv,H2,I2,r2,q2⟩=>?_
  exact zj0 I2 hN hi hx r2 (fun s3 I3=>⟨_,H2,I3,q2⟩) hf
 rcases l with⟨hk,hm⟩|⟨hk,c,hc,hcell⟩
 ·exact wpAny_loadName_local I.ok.kind hk hn hm go
 ·rcases hk with hk|hk
  ·exact wpAny_loadName_cell I.ok.kind hk hc hcell go
  ·rcases hx with k|k
   ·have:X.env.scope.names.lookup x=some .free:=hk
    rw[k]at this;cases this
   ·have:X.env.scope.names.lookup x=some .free:=hk
    rw[k]at this;cases this
noncomputable def ipI (f:Int->Int->Int):TIp:=fun x y H Q=>∃i j,x= .int i/\y= .int j/\Q (.int (f i j)) H
theorem ip_sub:PIp X .Sub (ipI fun i j=>i-j):=by
 intro pins s σ H x y v u Q I r1 r2 h
 obtain⟨i,j,e1,e2,q⟩:=h
 subst e1;subst e2
 obtain⟨t,rfl⟩:=r1
 obtain⟨t',rfl⟩:=r2
 exact isub_int ⟨.int _,H,I.tok _,⟨_,rfl⟩,q⟩
end
section
variable {X:Cx} {pos:Pos}
noncomputable def tWhile (c:TT)(tb:TS):TS:=fun D σ H=>∃W:Nat->St->Hp->Prop,(∃m,W m σ H)/\∀m σ H,W m σ H->
 c σ H fun b H1=>if b=true then ∃N:St->Hp->Prop,(∀σ' H',N σ' H'->∃m',m'<m/\W m' σ' H')/\tb {D with nx:=N,ct:=N,bk:=D.nx} σ H1 else D.nx σ H1
theorem ps_while (hp:PassesOwn (model X.prog X.w) X.A X.env X.xe)(hc:PT X c tc)(hb:PSs X body tb):PS X (.While c body [] pos) (tWhile tc tb):=by
 intro pins s σ H D I h
 obtain⟨W,⟨m0,w0⟩,turn⟩:=h
 refine wpAny_While (codeAny_whileLoop (fun n s'=>∃σ' H',Inv X pins σ' H' s'/\W n σ' H') ?_ m0 ⟨σ,H,I,w0⟩)
 rintro n s1 ⟨σ1,H1,I1,w1⟩
 refine wpAny_passesOwn hp (thn (hc pins s1 σ1 H1 _ I1 (turn n σ1 H1 w1)) fun b s2 ⟨H2,I2,q2⟩=>?_)
 cases b with
 |true=>
  obtain⟨N,hN,q2⟩:=q2
  rw[if_pos rfl]
  refine wpAny_passesOwn hp (thn (hb pins s2 σ1 H2 _ I2 q2) fun f s3 q3=>?_)
  cases f with
  |next=>
   obtain⟨σ3,H3,I3,n3⟩:=q3
   obtain⟨m',hm,w3⟩:=hN σ3 H3 n3
   exact⟨m',hm,σ3,H3,I3,w3⟩
  |cont=>
   obtain⟨σ3,H3,I3,n3⟩:=q3
   obtain⟨m',hm,w3⟩:=hN σ3 H3 n3
   exact⟨m',hm,σ3,H3,I3,w3⟩
  |brk=>exact q3
  |ret v=>exact q3
 |false=>
  rw[if_neg Bool.false_ne_true]
  exact wpAny_execs_nil ⟨σ1,H2,I2,q2⟩
end
structure It where
 go:Nat->Hp->Prop
 yld:Nat->Hp->V->Hp->Prop
 stop:Nat->Hp->Prop
noncomputable def FpOk (X:Cx)(pins:List (Addr×Obj))(H:Hp)(b:Addr):Prop:=
 H b=none/\b≠X.env.locals/\b∉X.fs/\(b∈X.ex\/X.s₀.heap.objs.size<=b)/\(∀x c,X.env.cells.lookup x=some c->c≠b)/\∀p∈X.pn++pins,p.1≠b
theorem Inv.fpOk {H H':Hp}(I:Inv X pins σ H s)(hb:s.heap.objs.size<=b)(hn:H' b=none):FpOk X pins H' b:=by
 refine⟨hn,Nat.ne_of_gt (Nat.lt_of_lt_of_le I.lt hb),I.nofs hb,.inr (Nat.le_trans I.sz hb),fun x c e z=>?_,fun p hp z=>?_⟩
 ·obtain⟨v,q⟩:=I.cell x c e
  exact absurd (Nat.lt_of_lt_of_le q.lt (by rw[z];exact hb)) (Nat.lt_irrefl _)
 ·exact absurd (Nat.lt_of_lt_of_le (Heap.lt_size (I.pin p hp).1) (by rw[z];exact hb)) (Nat.lt_irrefl _)
structure Turn (P:Program) (w:World) (K:W.Frag) (tg:Expr) (J:It) (fp:List Addr) (it:Addr) (tn:Nat->Heap->Prop):Prop where
 mem:it∈fp
 obj:∀i h,tn i h->∀b∈fp,∃o,h.get? b=some o/\∀v,o.data≠ .cell v
 keep:∀i h h',tn i h->(∀b∈fp,∀o,h.get? b=some o->h'.get? b=some o)->tn i h'
 item:∀(X:Cx),X.prog=P->X.w=w->X.K=K->X.calm=true->∀(i:Nat) (pins:List (Addr×Obj)) (s:Shared) (σ:St) (H:Hp) (E:Value->Shared->Prop),Inv X pins σ H s->(∀b∈fp,FpOk X pins H b)->tn i s.heap->J.go i H->
  wpAny (model P w) X.A (pyNext (.ref it)) (fun r s1=>∃u,r=some u/\
   wpAny (model P w) X.A (letOwnedTupleGo tg (.ref it) u) (fun _ s2=>∃x H',Inv X pins σ H' s2/\RelV x u/\J.yld i H x H'/\tn (i+1) s2.heap/\∀b∈fp,H' b=none) E s1) E s
 done:∀(X:Cx),X.prog=P->X.w=w->X.K=K->X.calm=true->∀(i:Nat) (pins:List (Addr×Obj)) (s:Shared) (σ:St) (H:Hp) (E:Value->Shared->Prop),Inv X pins σ H s->(∀b∈fp,FpOk X pins H b)->tn i s.heap->J.stop i H->
  wpAny (model P w) X.A (pyNext (.ref it)) (fun r s1=>r=none/\Inv X pins σ H s1) E s
 self:∀(A:Around) (i:Nat) (s:Shared) (Q:Value->Shared->Prop) (E:Value->Shared->Prop),tn i s.heap->Q (.ref it) s->wpAny (model P w) A (pyIter (.ref it)) Q E s
noncomputable abbrev TI:=St->Hp->(It->Hp->Prop)->Prop
noncomputable def PIE (X:Cx)(pins:List (Addr×Obj))(σ:St)(tg:Expr)(R:It->Hp->Prop)(itv:Value)(s2:Shared):Prop:=
 ∃(it:Addr) (fp:List Addr) (tn:Nat->Heap->Prop) (J:It) (H':Hp),itv= .ref it/\Inv X pins σ H' s2/\Turn X.prog X.w X.K tg J fp it tn/\tn 0 s2.heap/\(∀b∈fp,FpOk X pins H' b)/\R J H'
noncomputable def PI (X:Cx)(tg iter:Expr)(wi:TI):Prop:=
 ∀(pins:List (Addr×Obj)) (s:Shared) (σ:St) (H:Hp) (R:It->Hp->Prop),Inv X pins σ H s->wi σ H R->
  wpAny (model X.prog X.w) X.A (eval iter X.env) (fun v s1=>wpAny (model X.prog X.w) X.A (pyIter v) (PIE X pins σ tg R) X.xe s1) X.xe s
theorem znU {M:Model}{n:String}{vs:Array Value}(ho:s.heap.get? it=some o)(hc:o.cls= .type n)(hd:o.data= .fields vs)
    (hn:["enumerate","zip","dict_itemiterator","dict_reverseitemiterator","odict_iterator","itertools.zip_longest","itertools.pairwise"].contains n=false) (hQ:Q () s):wpAny M A (letOwnedTupleGo tg (.ref it) u) Q E s:=by
  unfold letOwnedTupleGo
  cases tg<;>first
    |exact wpAny_pure hQ
    | (cases u <;> first
        |exact wpAny_pure hQ
        | (refine wpAny_bind (wpAny_load ho ?_)
           rw[hc,hd]
           show wpAny M A (if(["enumerate","zip","dict_itemiterator","dict_reverseitemiterator","odict_iterator","itertools.zip_longest","itertools.pairwise"].contains n&&vs[0]? ==some (rawInt _))=true then _ else _) Q E s
           rw[if_neg (by intro h;rw[hn,Bool.false_and]at h;cases h)]
           exact wpAny_pure hQ))
noncomputable def Itl (K:W.Frag)(a:Addr):It:=
 ⟨fun i H=>∃xs x,SqL K H a xs/\xs[i]? =some x,fun i H x H'=>H'=H/\∀xs,SqL K H a xs->xs[i]? =some x,fun i H=>∃xs,SqL K H a xs/\xs.length<=i⟩
noncomputable def Itt (K:W.Frag)(a:Addr):It:=
 ⟨fun i H=>∃xs x,SqT K H a xs/\xs[i]? =some x,fun i H x H'=>H'=H/\∀xs,SqT K H a xs->xs[i]? =some x,fun i H=>∃xs,SqT K H a xs/\xs.length<=i⟩
noncomputable def Itr (lo:Int)(n:Nat):It:=⟨fun i _=>i<n,fun i H x H'=>H'=H/\x= .int (lo+i),fun i _=>n<=i⟩
theorem zoe {P:Program}(a it:Addr):Turn P w K tg (Itl K a) [it] it (fun i h=>h.IsListIter it a i) where
 mem:=by simp
 obj:=fun i h st b hb=>by
  have e:b=it:=by simpa using hb
  subst e
  obtain⟨o,e,c,d⟩:=st
  exact⟨o,e,fun v z=>by rw[d]at z;cases z⟩
 keep:=fun i h h' st k=>st.at fun o e=>k it (by simp) o e
 item:=by
  intro X hP hw hK hc i pins s σ H E I hf st hg
  subst hP hw hK
  obtain⟨xs,x,hq,hx⟩:=hg
  obtain⟨its,rv,p,hz⟩:=I.list hq
  obtain⟨u,hu,ru⟩:=rv.get hx
  obtain⟨f0,f1,f2,f3,f4,f5⟩:=hf it (by simp)
  refine wpAny_pyNext_list_item st p.isList (x:=u) (by simpa using hu) fun h' st' sb=>?_
  have I1:Inv X pins σ H {s with heap:=h'}:=I.turned (t':=s.toks) (fun b o hb e=>(sb.2 b hb).trans e) f0 f1 f3 f4 f5
  obtain⟨o,e,c,d⟩:=id st'
  exact⟨u,rfl,znU (s:={s with heap:=h'}) e c d (by decide) ⟨x,H,I1,ru,⟨rfl,fun ys hy=>by rw[I.list_inj hy hq];exact hx⟩,st',fun b hb=>(hf b hb).1⟩⟩
 done:=by
  intro X hP hw hK hc i pins s σ H E I hf st hg
  subst hP hw hK
  obtain⟨xs,hq,hx⟩:=hg
  obtain⟨its,rv,p,hz⟩:=I.list hq
  obtain⟨f0,f1,f2,f3,f4,f5⟩:=hf it (by simp)
  have hl:=rv.length
  exact wpAny_pyNext_list_end (I.ok.hd hc) st p.isList (by simp;lia) fun h' eb=>⟨rfl,I.turned (t':=s.toks) (fun b o hb e=>eb b o hb e) f0 f1 f3 f4 f5⟩
 self:=fun _ _ _ _ _ st h=>wpAny_pyIter_listiter st h
theorem zjx {P:Program}(a it:Addr):Turn P w K tg (Itt K a) [it] it (fun i h=>h.IsTupleIter it a i) where
 mem:=by simp
 obj:=fun i h st b hb=>by
  have e:b=it:=by simpa using hb
  subst e
  obtain⟨o,e,c,d⟩:=st
  exact⟨o,e,fun v z=>by rw[d]at z;cases z⟩
 keep:=fun i h h' st k=>st.at fun o e=>k it (by simp) o e
 item:=by
  intro X hP hw hK hc i pins s σ H E I hf st hg
  subst hP hw hK
  obtain⟨xs,x,hq,hx⟩:=hg
  obtain⟨its,rv,p,hz⟩:=I.tuple hq
  obtain⟨u,hu,ru⟩:=rv.get hx
  obtain⟨f0,f1,f2,f3,f4,f5⟩:=hf it (by simp)
  refine wpAny_pyNext_tuple_item st (show s.heap.IsTuple a its.toArray from p) (x:=u) (by simpa using hu) fun h' st' sb=>?_
  have I1:Inv X pins σ H {s with heap:=h'}:=I.turned (t':=s.toks) (fun b o hb e=>(sb.2 b hb).trans e) f0 f1 f3 f4 f5
  obtain⟨o,e,c,d⟩:=id st'
  exact⟨u,rfl,znU (s:={s with heap:=h'}) e c d (by decide) ⟨x,H,I1,ru,⟨rfl,fun ys hy=>by rw[I.tuple_inj hy hq];exact hx⟩,st',fun b hb=>(hf b hb).1⟩⟩
 done:=by
  intro X hP hw hK hc i pins s σ H E I hf st hg
  subst hP hw hK
  obtain⟨xs,hq,hx⟩:=hg
  obtain⟨its,rv,p,hz⟩:=I.tuple hq
  obtain⟨f0,f1,f2,f3,f4,f5⟩:=hf it (by simp)
  have hl:=rv.length
  exact wpAny_pyNext_tuple_end (I.ok.hd hc) st (show s.heap.IsTuple a its.toArray from p) (by simp;lia) fun h' eb=>⟨rfl,I.turned (t':=s.toks) (fun b o hb e=>eb b o hb e) f0 f1 f3 f4 f5⟩
 self:=fun _ _ _ _ _ st h=>wpAny_pyIter_tupleiter st h
theorem zm8 {P:Program}{w:World}(it:Addr)(lo:Int)(n:Nat):Turn P w K tg (Itr lo n) [it] it (fun i h=>IsRangeIter h it (lo+(i:Nat)*1) ((n:Int)-(i:Nat)) 1) where
 mem:=by simp
 obj:=fun i h st b hb=>by
  have e:b=it:=by simpa using hb
  subst e
  exact⟨_,st,fun v z=>by
   have z':Data.fields _=Data.cell v:=z
   cases z'⟩
 keep:=fun i h h' st k=>k it (by simp) _ st
 item:=by
  intro X hP hw hK hc i pins s σ H E I hf st hg
  subst hP hw hK
  obtain⟨f0,f1,f2,f3,f4,f5⟩:=hf it (by simp)
  have W:=Walks.range (prog:=X.prog) (w:=X.w) (I.ok.hd hc) it lo 1 n
  refine W.item i s _ _ hg st fun v h' tk hv st' kk=>?_
  obtain⟨t,rfl⟩:=hv
  have I1:Inv X pins σ H {s with heap:=h',toks:=tk}:=I.turned (fun b o hb e=>kk b o (by simpa using hb) e) f0 f1 f3 f4 f5
  refine⟨_,rfl,znU (s:={s with heap:=h',toks:=tk}) (n:="range_iterator") st' rfl rfl (by decide) ⟨.int (lo+i),H,I1,⟨t,?_⟩,⟨rfl,rfl⟩,st',fun b hb=>(hf b hb).1⟩⟩
  rw[Int.mul_one]
 done:=by
  intro X hP hw hK hc i pins s σ H E I hf st hg
  subst hP hw hK
  obtain⟨f0,f1,f2,f3,f4,f5⟩:=hf it (by simp)
  exact wpAny_pyNext_range_end (I.ok.hd hc) st (by have:n<=i:=hg;lia) fun h' eb=>⟨rfl,I.turned (t':=s.toks) (fun b o hb e=>eb b o hb e) f0 f1 f3 f4 f5⟩
 self:=fun _ _ _ _ _ st h=>wpAny_pyIter_rangeiter st h
section
variable {X:Cx} {tg:Expr}
noncomputable def iTup (K:W.Frag)(tl:TE):TI:=fun σ H R=>tl σ H fun x H1=>∃a,x= .ref a/\(∃xs,SqT K H1 a xs)/\R (Itt K a) H1
theorem pi_tup {tl:TE}(hl:PE X l tl):PI X tg l (iTup X.K tl):=by
 intro pins s σ H R I h
 refine thn (hl pins s σ H _ I h) fun v s1 ⟨x,H1,I1,r1,q1⟩=>?_
 obtain⟨a,e,⟨xs,hq⟩,q⟩:=q1
 subst e
 cases r1
 obtain⟨its,rv,p,hz⟩:=I1.tuple hq
 refine wpAny_pyIter_tuple (show s1.heap.IsTuple a its.toArray from p) ?_
 refine⟨s1.heap.objs.size,[s1.heap.objs.size],_,_,H1,rfl,I1.kept (t':=s1.toks) fun b o e=>Heap.get?_push_of_some _ e,zjx a _,⟨_,Heap.get?_push_size _ rfl,rfl,rfl⟩,fun b hb=>?_,q⟩
 have e:b=s1.heap.objs.size:=by simpa using hb
 subst e
 exact I1.fpOk (Nat.le_refl _) (I1.hok.fresh (Nat.le_refl _))
theorem range_it {R:It->Hp->Prop}{lo hi:Int}{t u v:Tok}{tk:Nat}(I:Inv X pins σ H s)(h1: -(2^62)<=lo)(h2:lo<2^62)(h3: -(2^62)<=hi)(h4:hi<2^62)
  (q:R (Itr lo (hi-lo).toNat) H):wpAny (model X.prog X.w) X.A (pyIter (.ref s.heap.objs.size)) (PIE X pins σ tg R) E {s with heap:=s.heap.push {cls:= .type "range",data:= .fields #[.int lo t,.int hi u,.int 1 v]},toks:=tk}:=by
 refine wpAny_pyIter_range (IsRange.new ..) (small_one h1 h2 h3 h4) ?_
 have I1:Inv X pins σ H {s with heap:=s.heap.push {cls:= .type "range",data:= .fields #[.int lo t,.int hi u,.int 1 v]},toks:=tk}:=I.kept fun b o e=>Heap.get?_push_of_some _ e
 refine⟨(s.heap.push {cls:= .type "range",data:= .fields #[.int lo t,.int hi u,.int 1 v]}).objs.size,[(s.heap.push {cls:= .type "range",data:= .fields #[.int lo t,.int hi u,.int 1 v]}).objs.size],_,_,H,rfl,
  I1.kept (t':=tk) fun b o e=>Heap.get?_push_of_some _ e,zm8 _ lo (hi-lo).toNat,?_,fun b hb=>?_,q⟩
 ·have e1:lo+((0:Nat):Int)*1=lo:=by simp
  have e2:(((hi-lo).toNat:Nat):Int)-((0:Nat):Int)=Builtin.Range.rangeSize lo hi 1:=by rw[rangeSize_one];split<;>lia
  show IsRangeIter _ _ (lo+((0:Nat):Int)*1) ((((hi-lo).toNat:Nat):Int)-((0:Nat):Int)) 1
  rw[e1,e2]
  exact Heap.get?_push_size _ rfl
 ·have e:b=(s.heap.push {cls:= .type "range",data:= .fields #[.int lo t,.int hi u,.int 1 v]}).objs.size:=by simpa using hb
  subst e
  exact I1.fpOk (Nat.le_refl _) (I1.hok.fresh (Nat.le_refl _))
noncomputable def iRng1 (ta:TA):TI:=fun σ H R=>ta σ H fun vs H1=>∃j:Int,vs=[.int j]/\ -(2^62)<=j/\j<2^62/\R (Itr 0 j.toNat) H1
theorem znD {a:Expr}{ta:TA}{p pos:Pos}(hg:Gl X "range")(hm:X.mg "range"=none)(ha:PA X [a] ta)(hs:starEach [a] X.env=[(false,eval a X.env)]:=by rfl):PI X tg (.Call (.Name "range" p) [a] [] pos) (iRng1 ta):=by
 intro pins s σ H R I h
 refine Call_ (ziC I hg hm boot_range (PyProof.Rows.callWith_type1 (thn (ha pos pins s σ H _ I h) fun us s1 ⟨vs,H1,I1,r1,q1⟩=>?_) hs rfl))
 obtain⟨j,e,q1,q2,q⟩:=q1
 subst e
 cases r1 with
 |cons r rr=>
  cases rr
  obtain⟨t,rfl⟩:=r
  exact call_range_1 (range_it I1 (by lia) (by lia) q1 q2 (by simpa using q))
noncomputable def tFor (wi:TI)(g:TG)(tb:TS):TS:=fun D σ H=>wi σ H fun J H1=>∃W:Nat->Nat->St->Hp->Prop,(∃m,W 0 m σ H1)/\∀i m σ H,W i m σ H->
 (J.stop i H/\D.nx σ H)\/(J.go i H/\∃N:St->Hp->Prop,(∀σ' H',N σ' H'->∃m',m'<m/\W (i+1) m' σ' H')/\∀x H',J.yld i H x H'->g x σ H' fun σ2 H2=>tb {D with nx:=N,ct:=N,bk:=D.nx} σ2 H2)
noncomputable def zld (fp:List Addr)(h:Heap):List (Addr×Obj):=fp.filterMap fun b=>(h.get? b).map fun o=>(b,o)
theorem zgl (hb:b∈fp)(e:h.get? b=some o):(b,o)∈zld fp h:=List.mem_filterMap.mpr ⟨b,hb,by rw[e];rfl⟩
theorem zot (hp:p∈zld fp h):p.1∈fp/\h.get? p.1=some p.2:=by
 obtain⟨b,hb,e⟩:=List.mem_filterMap.mp hp
 cases q:h.get? b with
 |none=>rw[q]at e;cases e
 |some o=>
  rw[q]at e
  have e':(b,o)=p:=Option.some.inj e
  subst e'
  exact⟨hb,q⟩
theorem Inv.pinned (I:Inv X pins σ H s)(hf:∀b∈fp,FpOk X pins H b)(ho:∀b∈fp,∃o,s.heap.get? b=some o/\∀v,o.data≠ .cell v):Inv X (pins++zld fp s.heap) σ H s:=
 I.pins_of fun p hp=>(List.mem_append.mp hp).elim (fun z=>I.pin p (List.mem_append_right _ z)) fun z=>by
  obtain⟨hb,e⟩:=zot z
  obtain⟨f0,f1,f2,_⟩:=hf p.1 hb
  obtain⟨o,e',d⟩:=ho p.1 hb
  rw[e]at e';cases e'
  exact⟨e,f0,f1,f2,d⟩
theorem Inv.unpinned (I:Inv X (pins++pl) σ H s):Inv X pins σ H s:=I.pins_of fun p hp=>I.pin p (List.mem_append_right _ (List.mem_append_left _ hp))
theorem ps_for {iter:Expr}{wi:TI}{g:TG}(hp:PassesOwn (model X.prog X.w) X.A X.env X.xe)(hc:X.calm=true)(hi:PI X tg iter wi)(hg:PG X tg g)(hb:PSs X body tb)
    (hs:∀x,foldedSetIterable iter X.env x=pure x:=by intro _;rfl):PS X (.For tg iter body [] pos) (tFor wi g tb):=by
  intro pins s σ H D I h
  refine wpAny_For (thn (hi pins s σ H _ I h) fun v s1 h1=>thn h1 fun itv s2 h2=>?_) hs
  obtain⟨it,fp,tn,J,H2,e,I2,T,st2,f2,W,⟨m0,w0⟩,turn⟩:=h2
  subst e
  have stat:∀{H':Hp},(∀b∈fp,H' b=none)->∀b∈fp,FpOk X pins H' b:=fun hn b hb=>⟨hn b hb,(f2 b hb).2⟩
  refine codeAny_forLoop_any (fun n s'=>∃i σ' H',Inv X pins σ' H' s'/\tn i s'.heap/\(∀b∈fp,H' b=none)/\W i n σ' H') ?_ m0 ⟨0,σ,H2,I2,st2,fun b hb=>(f2 b hb).1,w0⟩
  rintro n s3 ⟨i,σ3,H3,I3,st3,fr3,w3⟩
  rcases turn i n σ3 H3 w3 with⟨stop,qn⟩|⟨go,N,hN,step⟩
  . refine wpAny_passesOwn hp (thn (T.done X rfl rfl rfl hc i pins s3 σ3 H3 X.xe I3 (stat fr3) st3 stop) fun r s4 ⟨hr,I4⟩=>?_)
    subst hr
    exact wpAny_execs_nil ⟨σ3,H3,I4,qn⟩
  . refine wpAny_passesOwn hp (thn (T.item X rfl rfl rfl hc i pins s3 σ3 H3 X.xe I3 (stat fr3) st3 go) fun r s4 ⟨u,hr,h4⟩=>?_)
    subst hr
    refine wpAny_passesOwn hp (thn h4 fun _ s5 ⟨x,H5,I5,r5,y5,st5,fr5⟩=>?_)
    have I5':=I5.pinned (stat fr5) (T.obj _ _ st5)
    refine wpAny_passesOwn hp (thn (hg _ s5 σ3 H5 x u _ I5' r5 (step x H5 y5)) fun _ s6 ⟨σ6,H6,I6,q6⟩=>?_)
    refine wpAny_passesOwn hp (thn (hb _ s6 σ6 H6 _ I6 q6) fun f s7 q7=>?_)
    have again:∀{σ7:St} {H7:Hp},Inv X (pins++zld fp s5.heap) σ7 H7 s7->N σ7 H7->∃m,m<n/\∃i σ' H',Inv X pins σ' H' s7/\tn i s7.heap/\(∀b∈fp,H' b=none)/\W i m σ' H':=fun{σ7 H7} I7 n7=>by
      obtain⟨m',hm,w7⟩:=hN σ7 H7 n7
      refine⟨m',hm,i+1,σ7,H7,I7.unpinned,T.keep _ _ _ st5 fun b hb o e=>(I7.pin (b,o) (List.mem_append_right _ (List.mem_append_right _ (zgl hb e)))).1,fun b hb=>?_,w7⟩
      obtain⟨o,e,d⟩:=T.obj _ _ st5 b hb
      exact(I7.pin (b,o) (List.mem_append_right _ (List.mem_append_right _ (zgl hb e)))).2.1
    cases f with
    |next=>obtain⟨σ7,H7,I7,n7⟩:=q7;exact again I7 n7
    |cont=>obtain⟨σ7,H7,I7,n7⟩:=q7;exact again I7 n7
    |brk=>obtain⟨σ7,H7,I7,q7⟩:=q7;exact⟨σ7,H7,I7.unpinned,q7⟩
    |ret v=>obtain⟨x7,σ7,H7,I7,r7,q7⟩:=q7;exact⟨x7,σ7,H7,I7.unpinned,r7,q7⟩
end
noncomputable abbrev R2:=V->V->Hp->VK->Prop
noncomputable def OpR (X:Cx)(f:Value->Value->Sem Value)(r:R2):Prop:=
 ∀(pins:List (Addr×Obj)) (s:Shared) (σ:St) (H:Hp) (x y:V) (v u:Value) (Q:VK),Inv X pins σ H s->RelV x v->RelV y u->r x y H Q->
  wpAny (model X.prog X.w) X.A (f v u) (EP X pins σ Q) X.xe s
noncomputable def UnR (X:Cx)(f:Value->Sem Value)(r:V->Hp->VK->Prop):Prop:=
 ∀(pins:List (Addr×Obj)) (s:Shared) (σ:St) (H:Hp) (x:V) (v:Value) (Q:VK),Inv X pins σ H s->RelV x v->r x H Q->
  wpAny (model X.prog X.w) X.A (f v) (EP X pins σ Q) X.xe s
noncomputable def zik (X:Cx)(f:Value)(r:List V->Hp->VK->Prop):Prop:=
 ∀(pins:List (Addr×Obj)) (s:Shared) (σ:St) (H:Hp) (xs:List V) (us:List Value) (Q:VK),Inv X pins σ H s->Vals xs us->r xs H Q->
  wpAny (model X.prog X.w) X.A (call f us) (EP X pins σ Q) X.xe s
noncomputable def TruR (X:Cx)(r:V->Hp->(Bool->Hp->Prop)->Prop):Prop:=
 ∀(pins:List (Addr×Obj)) (s:Shared) (σ:St) (H:Hp) (x:V) (v:Value) (Q:Bool->Hp->Prop),Inv X pins σ H s->RelV x v->r x H Q->
  wpAny (model X.prog X.w) X.A (truthy v) (TP X pins σ Q) X.xe s
noncomputable def tOp (r:R2)(ta tb:TE):TE:=fun σ H Q=>ta σ H fun x H1=>tb σ H1 fun y H2=>r x y H2 Q
noncomputable def tUn (r:V->Hp->VK->Prop)(ta:TE):TE:=fun σ H Q=>ta σ H fun x H1=>r x H1 Q
noncomputable def rI (C:Int->Int->Prop)(g:Int->Int->V):R2:=fun x y H Q=>∃i j,x= .int i/\y= .int j/\C i j/\Q (g i j) H
noncomputable def rI0 (g:Int->Int->V):R2:=fun x y H Q=>∃i j,x= .int i/\y= .int j/\Q (g i j) H
noncomputable def rU (g:Int->V):V->Hp->VK->Prop:=fun x H Q=>∃i,x= .int i/\Q (g i) H
section
variable {X:Cx} {a b c:Expr} {ta tb tc:TE} {pos:Pos}
theorem binT (ha:PE X a ta)(hb:PE X b tb){R:V->V->Hp->Prop}(I:Inv X pins σ H s)
  (h:ta σ H fun x H1=>tb σ H1 fun y H2=>R x y H2) {Q:Value->Shared->Prop} {f:Value->Value->Sem Value}
  (hf:∀v u s2 x y H2,Inv X pins σ H2 s2->RelV x v->RelV y u->R x y H2->wpAny (model X.prog X.w) X.A (f v u) Q X.xe s2):
  wpAny (model X.prog X.w) X.A (eval a X.env) (fun v s₁=>wpAny (model X.prog X.w) X.A (eval b X.env) (fun u s₂=>wpAny (model X.prog X.w) X.A (f v u) Q X.xe s₂) X.xe s₁) X.xe s:=by
 refine thn (ha pins s σ H _ I h) fun v s1 ⟨x,H1,I1,r1,q1⟩=>?_
 refine thn (hb pins s1 σ H1 _ I1 q1) fun u s2 ⟨y,H2,I2,r2,q2⟩=>?_
 exact hf v u s2 x y H2 I2 r1 r2 q2
theorem pe_op {op:Operator}{r:R2}(ho:OpR X (binaryOp op) r)(ha:PE X a ta)(hb:PE X b tb):PE X (.BinOp a op b pos) (tOp r ta tb):=by
 intro pins s σ H Q I h
 exact wpAny_BinOp (binT ha hb I h fun v u s2 x y H2 I2 rx ry q=>ho pins s2 σ H2 x y v u Q I2 rx ry q)
theorem pe_un {op:UnaryOp}(ho:UnR X (unaryOp op) r)(ha:PE X a ta):PE X (.UnaryOp op a pos) (tUn r ta):=by
 intro pins s σ H Q I h
 exact UnaryOp_ (thn (ha pins s σ H _ I h) fun v s1 ⟨x,H1,I1,r1,q1⟩=>ho pins s1 σ H1 x v Q I1 r1 q1)
theorem opI {f:Value->Value->Sem Value}
  (rule:∀(i j:Int) (t u:Tok) (s:Shared) (Q:Value->Shared->Prop) (E:Value->Shared->Prop),C i j->Q (.int (g i j) s.toks) {s with toks:=s.toks+1}->wpAny (model X.prog X.w) X.A (f (.int i t) (.int j u)) Q E s):
  OpR X f (rI C fun i j=> .int (g i j)):=by
 intro pins s σ H x y v u Q I rx ry h
 obtain⟨i,j,rfl,rfl,hc,q⟩:=h
 obtain⟨t,rfl⟩:=rx
 obtain⟨t',rfl⟩:=ry
 exact rule i j t t' s _ _ hc ⟨.int (g i j),H,I.tok _,⟨_,rfl⟩,q⟩
theorem opI0 {f:Value->Value->Sem Value}
  (rule:∀(i j:Int) (t u:Tok) (s:Shared) (Q:Value->Shared->Prop) (E:Value->Shared->Prop),Q (.int (g i j) s.toks) {s with toks:=s.toks+1}->wpAny (model X.prog X.w) X.A (f (.int i t) (.int j u)) Q E s):
  OpR X f (rI0 fun i j=> .int (g i j)):=by
 intro pins s σ H x y v u Q I rx ry h
 obtain⟨i,j,rfl,rfl,q⟩:=h
 obtain⟨t,rfl⟩:=rx
 obtain⟨t',rfl⟩:=ry
 exact rule i j t t' s _ _ ⟨.int (g i j),H,I.tok _,⟨_,rfl⟩,q⟩
theorem opB0 {f:Value->Value->Sem Value}{g:Int->Int->Bool}
  (rule:∀(i j:Int) (t u:Tok) (s:Shared) (Q:Value->Shared->Prop) (E:Value->Shared->Prop),Q (.bool (g i j)) s->wpAny (model X.prog X.w) X.A (f (.int i t) (.int j u)) Q E s):
  OpR X f (rI0 fun i j=> .bl (g i j)):=by
 intro pins s σ H x y v u Q I rx ry h
 obtain⟨i,j,rfl,rfl,q⟩:=h
 obtain⟨t,rfl⟩:=rx
 obtain⟨t',rfl⟩:=ry
 exact rule i j t t' s _ _ ⟨.bl (g i j),H,I,rfl,q⟩
noncomputable def CPow (i j:Int):Prop:=0<=j/\j<=1000000/\i.natAbs<2^64
theorem op_add:OpR X (binaryOp .Add) (rI0 fun i j=> .int (i+j)):=opI0 fun _ _ _ _ _ _ _ q=>add_int q
theorem op_sub:OpR X (binaryOp .Sub) (rI0 fun i j=> .int (i-j)):=opI0 fun _ _ _ _ _ _ _ q=>sub_int q
theorem op_mod:OpR X (binaryOp .Mod) (rI (fun _ j=>0<j) fun i j=> .int (i%j)):=opI fun i j _ _ _ _ _ hc q=>by
 have h1:(0:Int)<j:=hc
 exact mod_int' (by lia) (by rw[Int.fmod_eq_emod_of_nonneg i (by lia)];exact q)
theorem op_pow:OpR X (binaryOp .Pow) (rI CPow fun i j=> .int (i^j.toNat)):=opI fun _ _ _ _ _ _ _ hc q=>pow_int_small hc.1 hc.2.1 hc.2.2 q
theorem unI {f:Value->Sem Value}{g:Int->Int}
  (rule:∀(i:Int) (t:Tok) (s:Shared) (Q:Value->Shared->Prop) (E:Value->Shared->Prop),Q (.int (g i) s.toks) {s with toks:=s.toks+1}->wpAny (model X.prog X.w) X.A (f (.int i t)) Q E s):
  UnR X f (rU fun i=> .int (g i)):=by
 intro pins s σ H x v Q I rx h
 obtain⟨i,rfl,q⟩:=h
 obtain⟨t,rfl⟩:=rx
 exact rule i t s _ _ ⟨.int (g i),H,I.tok _,⟨_,rfl⟩,q⟩
theorem un_neg:UnR X (unaryOp .USub) (rU fun i=> .int (-i)):=unI fun _ _ _ _ _ q=>neg_int q
end
section
variable {X:Cx} {a b c:Expr} {ta tb tc:TE} {pos:Pos}
theorem fin_bl {Q:VK}{k k':Bool}(I:Inv X pins σ H s)(q:Q (.bl k) H)(e:k=k'):EP X pins σ Q (.bool k') s:=by
 subst e
 exact⟨.bl k,H,I,rfl,q⟩
theorem op_lt:OpR X (compareOp .Lt) (rI0 fun i j=> .bl (decide (i<j))):=opB0 fun _ _ _ _ _ _ _ q=>lt_int q
theorem op_le:OpR X (compareOp .LtE) (rI0 fun i j=> .bl (decide (i<=j))):=opB0 fun _ _ _ _ _ _ _ q=>le_int q
theorem op_gt:OpR X (compareOp .Gt) (rI0 fun i j=> .bl (decide (j<i))):=opB0 fun _ _ _ _ _ _ _ q=>gt_int q
theorem op_ge:OpR X (compareOp .GtE) (rI0 fun i j=> .bl (decide (j<=i))):=opB0 fun _ _ _ _ _ _ _ q=>ge_int q
theorem op_isN:OpR X (compareOp .Is) (fun x y H Q=>y= .non/\Q (.bl (decide (x= .non))) H):=by
 intro pins s σ H x y v u Q I rx ry h
 obtain⟨rfl,q⟩:=h
 cases ry
 refine is_none_gen (fin_bl I q ?_)
 cases x<;>first
  |(cases rx;rfl)
  |(obtain⟨t,rfl⟩:=rx;rfl)
theorem op_notN:OpR X (compareOp .IsNot) (fun x y H Q=>y= .non/\Q (.bl (!decide (x= .non))) H):=by
 intro pins s σ H x y v u Q I rx ry h
 obtain⟨rfl,q⟩:=h
 cases ry
 refine isnot_none_gen (fin_bl I q ?_)
 cases x<;>first
  |(cases rx;rfl)
  |(obtain⟨t,rfl⟩:=rx;rfl)
theorem OpR.or {f:Value->Value->Sem Value}{r r':R2}(h:OpR X f r)(h':OpR X f r'):OpR X f (fun x y H Q=>r x y H Q\/r' x y H Q):=by
 intro pins s σ H x y v u Q I rx ry q
 rcases q with q|q
 ·exact h pins s σ H x y v u Q I rx ry q
 ·exact h' pins s σ H x y v u Q I rx ry q
theorem zhH (b:Expr)(h:op≠ .In:=by decide)(h2:op≠ .NotIn:=by decide):behindInMarks op b=false:=by
 have e1:(op==CmpOp.In)=false:=by cases op<;>first|rfl|exact absurd rfl h
 have e2:(op==CmpOp.NotIn)=false:=by cases op<;>first|rfl|exact absurd rfl h2
 cases b<;>simp[behindInMarks,e1,e2]
theorem pe_cmpR {r:R2}(ho:OpR X (compareOp op) r)(ha:PE X a ta)(hb:PE X b tb)(hm:behindInMarks op b=false):PE X (.Compare a [op] [b] pos) (tOp r ta tb):=by
 intro pins s σ H Q I h
 exact wpAny_Compare1 (binT ha hb I h fun v u s2 x y H2 I2 rx ry q=>ho pins s2 σ H2 x y v u Q I2 rx ry q) hm
noncomputable def tTest (t:TE):TT:=fun σ H Q=>t σ H fun x H'=>∃k,x= .bl k/\Q k H'
theorem pt_cmpR {r:R2}(ho:OpR X (compareOp op) r)(ha:PE X a ta)(hb:PE X b tb)(hm:behindInMarks op b=false):PT X (.Compare a [op] [b] pos) (tTest (tOp r ta tb)):=by
 intro pins s σ H Q I h
 refine wpAny_isTrue_Compare1 (thn (ha pins s σ H _ I h) fun v s1 ⟨x,H1,I1,r1,q1⟩=>thn (hb pins s1 σ H1 _ I1 q1) fun u s2 ⟨y,H2,I2,r2,q2⟩=>
  thn (ho pins s2 σ H2 x y v u _ I2 r1 r2 q2) fun c s3 ⟨z,H3,I3,r3,k,e,q3⟩=>?_) hm
 subst e
 cases r3
 exact wpAny_truthy_bool ⟨H3,I3,q3⟩
noncomputable def TruV (K:W.Frag)(x:V)(H:Hp)(k:Bool):Prop:=
 match x with
 | .non=>k=false
 | .bl b=>k=b
 | .int i=>k=(i !=0)
 | .str y=>y.length<=sizeLine/\k=((y.length:Int) !=0)
 | .byt y=>y.size<=sizeLine/\k=((y.size:Int) !=0)
 | .ref p=>(∃xs,SqL K H p xs/\k=!xs.isEmpty)\/(∃xs,SqT K H p xs/\k=!xs.isEmpty)\/∃kvs,H p=some (.dK kvs)/\k=!kvs.isEmpty
 |_=>False
theorem zm4 {κ:Type}{kvs:List (κ×V)}{vs:List (κ×Value)}(r:KV kvs vs):(!vs.isEmpty)=!kvs.isEmpty:=by
 cases r<;>rfl
theorem zju (r:Vals xs its):(!its.toArray.isEmpty)=!xs.isEmpty:=by
 cases r<;>simp
theorem zjB:(sizeLine:Nat)<2^63:=by rw[sizeLine_eq];decide
theorem tru_ok:TruR X (fun x H Q=>∃k,TruV X.K x H k/\Q k H):=by
 intro pins s σ H x v Q I rx h
 obtain⟨k,e,q⟩:=h
 have hl:=zjB
 have hs:sizeLine=16777216:=sizeLine_eq
 cases x with
 |non=>
  cases rx
  have e':k=false:=e
  subst e'
  exact truthy_none ⟨H,I,q⟩
 |bl b=>
  cases rx
  have e':k=b:=e
  subst e'
  exact wpAny_truthy_bool ⟨H,I,q⟩
 |int i=>
  obtain⟨t,rfl⟩:=rx
  have e':k=(i !=0):=e
  subst e'
  exact PySem.P.truthy_int ⟨H,I,q⟩
 |str y=>
  obtain⟨t,rfl⟩:=rx
  obtain⟨hy,e'⟩:y.length<=sizeLine/\k=((y.length:Int) !=0):=e
  subst e'
  exact PySem.P.truthy_str (by lia) ⟨H,I.tok _,q⟩
 |byt y=>
  obtain⟨t,rfl⟩:=rx
  obtain⟨hy,e'⟩:y.size<=sizeLine/\k=((y.size:Int) !=0):=e
  subst e'
  exact W.truthy_bytes (by lia) ⟨H,I.tok _,q⟩
 |ref p=>
  cases rx
  have e':(∃xs,SqL X.K H p xs/\k=!xs.isEmpty)\/(∃xs,SqT X.K H p xs/\k=!xs.isEmpty)\/∃kvs,H p=some (.dK kvs)/\k=!kvs.isEmpty:=e
  rcases e' with⟨xs,hx,e'⟩|⟨xs,hx,e'⟩|⟨kvs,hx,e'⟩
  ·subst e'
   obtain⟨its,r,pl,hz⟩:=I.list hx
   have hlen:=r.length
   exact wpAny_truthy_list pl.isList (by simp only[List.size_toArray];lia) ⟨H,I.tok _,by rw[zju r];exact q⟩
  ·subst e'
   obtain⟨its,r,pl,hz⟩:=I.tuple hx
   have hlen:=r.length
   exact truthy_tuple pl (by simp only[List.size_toArray];lia) ⟨H,I.tok _,by rw[zju r];exact q⟩
  ·subst e'
   obtain⟨hz,hS,vs,r,m⟩:kvs.length<=sizeLine/\(p==sysModules)=false/\∃vs,KV kvs vs/\s.heap.DictOf (zcg X.prog X.w) p vs:=I.hok p _ hx
   have hlen:kvs.length=vs.length:=Paired.length r
   exact wpAny_truthy_dict hS m (by lia) ⟨H,I.tok _,by rw[zm4 r];exact q⟩
 |_=>exact(show False from e).elim
theorem pt_truth (ha:PE X a ta)(he:∀whole,isTrue a X.env whole=(do let v<-whole;standAt a.pos;holding [v] (truthy v))):
  PT X a (fun σ H Q=>ta σ H fun x H'=>∃k,TruV X.K x H' k/\Q k H'):=by
 intro pins s σ H Q I h
 exact isTrue_plain (thn (ha pins s σ H _ I h) fun v s1 ⟨x,H1,I1,r1,q1⟩=>tru_ok pins s1 σ H1 x v Q I1 r1 q1) (he _)
theorem znn:OpR X (binaryOp .Add) (fun x y H Q=>∃i j,x= .str i/\y= .str j/\i.length+j.length<=sizeLine/\Q (.str (i++j)) H):=by
 intro pins s σ H x y v u Q I rx ry h
 obtain⟨i,j,rfl,rfl,hz,q⟩:=h
 obtain⟨t,rfl⟩:=rx
 obtain⟨t',rfl⟩:=ry
 exact add_str (fun t' tk=>⟨.str (i++j),H,I.tok _,⟨_,rfl⟩,q⟩) hz
theorem zlU {x:V}(r:Vals [x] us):∃u,us=[u]/\RelV x u:=by
 cases r with
 |cons r1 r2=>cases r2;exact⟨_,rfl,r1⟩
theorem vals2 {x y:V}(r:Vals [x,y] us):∃u w',us=[u,w']/\RelV x u/\RelV y w':=by
 cases r with
 |cons r1 r2=>
  cases r2 with
  |cons r3 r4=>cases r4;exact⟨_,_,rfl,r1,r3⟩
theorem call_abs:zik X (.builtin "abs") (fun xs H Q=>∃i,xs=[.int i]/\Q (.int (if i<0 then-i else i)) H):=by
 intro pins s σ H xs us Q I r h
 obtain⟨i,rfl,q⟩:=h
 obtain⟨u,rfl,t,rfl⟩:=zlU r
 exact call_abs_int fun u tk=>⟨.int (if i<0 then-i else i),H,I.tok _,⟨_,rfl⟩,q⟩
theorem zn0 (hc:X.calm=true):zik X (.builtin "max") (fun xs H Q=>∃i j,xs=[.int i,.int j]/\Q (.int (if j>i then j else i)) H):=by
 intro pins s σ H xs us Q I r h
 obtain⟨i,j,rfl,q⟩:=h
 obtain⟨u,w',rfl,⟨t,rfl⟩,⟨t',rfl⟩⟩:=vals2 r
 refine max_two_ints (I.ok.hd hc) fun h' tk k=>⟨_,H,I.kept k,?_,q⟩
 by_cases hj:j>i
 ·rw[if_pos hj,if_pos hj];exact⟨_,rfl⟩
 ·rw[if_neg hj,if_neg hj];exact⟨_,rfl⟩
end
theorem RelO.some_of {o:Option Value}(r:RelO (some v) o):∃u,o=some u/\RelV v u:=by
 cases o with
 |none=>exact(show False from r).elim
 |some u=>exact⟨u,rfl,r⟩
structure Room (k:Nat) (A:Around):Prop where
 hd:A.handled=none
 dp:A.depth+3*k+5<recursionLimit
 un:A.units+16*k+200<cLine
 gd:A.guards=some []
theorem Room.mono (r:Room k A)(h:j<=k):Room j A:=⟨r.hd,by have:=r.dp;lia,by have:=r.un;lia,r.gd⟩
theorem Room.deeper (r:Room (k+1) A)(env:Env):Room k (A.deeper env):=
 ⟨r.hd,by have:=r.dp;show A.depth+1+3*k+5<_;lia,by have:=r.un;show A.units+3+16*k+200<_;lia,r.gd⟩
theorem Room.depth (r:Room k A):A.depth<recursionLimit:=by have:=r.dp;lia
theorem Room.units (r:Room k A):A.units+64<cLine:=by have:=r.un;lia
noncomputable def tNil:TA:=fun _ H Q=>Q [] H
noncomputable def tCons (ta:TE)(tr:TA):TA:=fun σ H Q=>ta σ H fun x H1=>tr σ H1 fun xs H2=>Q (x::xs) H2
section
variable {X:Cx} {e:Expr} {es:List Expr} {te:TE} {t:TA} {pos:Pos}
theorem zmM:PA X [] tNil:=fun _ _ _ _ H Q I h=>Calls.spliced_nil ⟨[],H,I,.nil,h⟩
theorem ziN (ha:PE X e te)(hr:PA X es t)(hs:starEach (e::es) X.env=(false,eval e X.env)::starEach es X.env:=by rfl):PA X (e::es) (tCons te t):=by
 intro pos pins s σ H Q I h
 rw[hs]
 show wpAny _ _ (spliced ((false,eval e X.env)::backTo pos (starEach es X.env))) _ _ s
 refine Calls.spliced_cons (thn (ha pins s σ H _ I h) fun u s1 ⟨x,H1,I1,r1,q1⟩=>?_)
 exact thn (hr pos pins s1 σ H1 _ I1 q1) fun us s2 ⟨xs,H2,I2,r2,q2⟩=>⟨x::xs,H2,I2,.cons r1 r2,q2⟩
noncomputable def tTup (t:TA):TE:=fun σ H Q=>t σ H fun xs H1=>xs.length<=sizeLine/\∀p,H1 p=none->Q (.ref p) (upd H1 p (.tup xs))
noncomputable def tLst (t:TA):TE:=fun σ H Q=>t σ H fun xs H1=>xs.length<=sizeLine/\∀p,H1 p=none->Q (.ref p) (upd H1 p (.lst xs))
theorem pe_tup {x1}(h:PA X es t):PE X (.Tuple es x1 pos) (tTup t):=by
 intro pins s σ H Q I hq
 refine wpAny_Tuple_spliced (thn (h pos pins s σ H _ I hq) fun us s1 ⟨xs,H1,I1,r,z,q⟩=>⟨by rw[<-r.length];exact z,?_⟩)
 have hf:H1 s1.heap.objs.size=none:=I1.hok.fresh (Nat.le_refl _)
 refine⟨.ref s1.heap.objs.size,upd H1 s1.heap.objs.size (.tup xs),I1.laid (t':=s1.toks) (fun b u e=>Heap.get?_push_of_some _ e) (Nat.le_refl _) ?_,rfl,q _ hf⟩
 exact⟨z,us,r,⟨_,Heap.get?_push_size _ rfl,rfl,_,rfl⟩⟩
theorem pe_lst (h:PA X es t):PE X (.List es pos) (tLst t):=by
 intro pins s σ H Q I hq
 refine wpAny_List_spliced (thn (h pos pins s σ H _ I hq) fun us s1 ⟨xs,H1,I1,r,z,q⟩=>⟨by rw[<-r.length];exact z,?_⟩)
 have hf:H1 s1.heap.objs.size=none:=I1.hok.fresh (Nat.le_refl _)
 refine⟨.ref s1.heap.objs.size,upd H1 s1.heap.objs.size (.lst xs),I1.laid (t':=s1.toks) (fun b u e=>Heap.get?_push_of_some _ e) (Nat.le_refl _) ?_,rfl,q _ hf⟩
 exact⟨z,us,0,r,Heap.get?_push_size _ rfl⟩
end
noncomputable abbrev Sp:=List V->Hp->VK->XK->Prop
noncomputable abbrev CXT:=List Env->Hp->Shared->XK->Value->Shared->Prop
structure Env0 (P:Program) (w:World) (K:W.Frag) (mg:Str->Option Value) (base:Heap) (A:Around) (outer:List Env) (s:Shared) (H:Hp):Prop where
 frames:A.frames=some outer
 mod:Mod K mg base
 bs:∀b o,base.get? b=some o->s.heap.get? b=some o/\H b=none
 bsz:base.objs.size<=s.heap.objs.size
 funs:s.heap.FunFrames base outer
 frf:∀b∈frs outer,H b=none
 hok:HOk P w H s.heap
 bare:AllBare s.gens
noncomputable def CE (outer:List Env)(P:Program)(w:World)(H:Hp)(s:Shared)(Q:VK)(u:Value)(s':Shared):Prop:=
 ∃v H',s'.os=s.os/\AllBare s'.gens/\Un (frs outer) [] H H' s.heap s'.heap/\HOk P w H' s'.heap/\RelV v u/\Q v H'
noncomputable def CR (CX:CXT)(outer:List Env)(P:Program)(w:World)(H:Hp)(s:Shared)(Q:VK)(E:XK)(r:Result)(s':Shared):Prop:=
 match r with
 | .ok (.ret u)=>CE outer P w H s Q u s'
 | .ok _=>False
 | .error e=>CX outer H s E e s'
structure FnOk (P:Program) (w:World) (K:W.Frag) (mg:Str->Option Value) (base:Heap) (CX:CXT) (k:Nat) (f:Addr) (fd:FuncData) (ps:List Str) (sp:Sp):Prop where
 len:∀vs H Q E,sp vs H Q E->vs.length=ps.length
 run:∀(A:Around) (outer:List Env) (s:Shared) (H:Hp) (args:Args) (us:List Value) (vs:List V) (Q:VK) (E:XK),Room k A->Env0 P w K mg base A outer s H->BindsTo s fd args (ps.zip us)->Vals vs us->sp vs H Q E->
  codeAny (model P w) A (.call (.ref f) args) (CR CX outer P w H s Q E) s
section
variable {X:Cx} {pins:List (Addr×Obj)} {σ:St} {H:Hp} {s s':Shared}
theorem Inv.env0 (I:Inv X pins σ H s):Env0 X.prog X.w X.K X.mg X.base X.A X.stack s H:=
 ⟨I.ok.frames,I.ok.mod,I.bs,Nat.le_trans I.ok.bsz I.sz,I.stack,I.stkFree,I.hok,I.bare⟩
theorem Inv.after {Q:VK}(I:Inv X pins σ H s)(h:CE X.stack X.prog X.w H s Q u s'):EP X pins σ Q u s':=by
 obtain⟨v,H',os,bare,un,hok,r,q⟩:=h
 obtain⟨hh,g,d,t,os'⟩:=s'
 obtain rfl:os'=s.os:=os
 exact⟨v,H',I.call (h':=hh) (g':=g) (d':=d) (t':=t) (ch:=[]) un hok bare (fun b z=>absurd z (by simp)),r,q⟩
end
noncomputable def tCall (sp:Sp)(dvs:List V)(E:XK)(t:TA):TE:=fun σ H Q=>t σ H fun vs H1=>sp (vs++dvs) H1 Q E
noncomputable def Binds (K:W.Frag)(fd:FuncData)(ps:List Str)(ds:List Value):Prop:=
 ∀(s:Shared) (us:List Value),K.In s.heap->(us++ds).length=ps.length->BindsTo s fd ⟨us,[]⟩ (ps.zip (us++ds))
theorem Binds.all (h:∀us:List Value,us.length=ps.length->bindArgs fd ⟨us,[]⟩=pure (ps.zip us)):Binds K fd ps []:=fun s us _ hl=>by
 rw[List.append_nil]at hl ⊢
 exact .of_eq (h us hl)
noncomputable def zoJ (CX:CXT)(X:Cx)(E:XK):Prop:=∀(pins:List (Addr×Obj)) (σ:St) (H:Hp) (s:Shared) (e:Value) (s':Shared),Inv X pins σ H s->CX X.stack H s E e s'->X.xe e s'
section
variable {X:Cx} {CX:CXT} {k:Nat} {f C:Addr} {fd:FuncData} {ps:List Str} {sp:Sp} {dvs:List V} {ds:List Value} {E:XK} {x m:Str} {p pos apos:Pos} {e o:Expr} {es:List Expr} {ta:TE} {t:TA}
theorem run_fn {Q:VK}(F:FnOk X.prog X.w X.K X.mg X.base CX k f fd ps sp)(hr:Room k X.A)(hb:Binds X.K fd ps ds)(hd:Vals dvs ds)(hx:zoJ CX X E)
  (I:Inv X pins σ H s) (r:Vals vs us) (h:sp (vs++dvs) H Q E):wpAny (model X.prog X.w) X.A (call (.ref f) us) (EP X pins σ Q) X.xe s:=by
 have r2:Vals (vs++dvs) (us++ds):=r.append hd
 have hl:(us++ds).length=ps.length:=by rw[<-r2.length];exact F.len _ _ _ _ h
 refine wpAny_call (codeAny_mono (F.run X.A X.stack s H ⟨us,[]⟩ (us++ds) (vs++dvs) Q E hr I.env0 (hb s us I.kIn hl) r2 h) fun r s' hq=>?_)
 cases r with
 |error e=>exact hx pins σ H s e s' I hq
 |ok fl=>
  cases fl with
  |ret u=>exact I.after hq
  |next=>exact False.elim hq
  |brk=>exact False.elim hq
  |cont=>exact False.elim hq
theorem zle (F:FnOk X.prog X.w X.K X.mg X.base CX k f fd ps sp)(hr:Room k X.A)(hg:Gl X x)(hm:X.mg x=some (.ref f))(hk:W.keepIn X.K (.ref f)=true)(hb:Binds X.K fd ps ds)(hd:Vals dvs ds)(hx:zoJ CX X E)
  (ha:PA X (e::es) t) (hdb:(x==("__debug__":Str))=false:=by decide) (he:starEach (e::es) X.env=(false,eval e X.env)::starEach es X.env:=by rfl) (hpl:(backTo pos (starEach es X.env)).any (·.1)=false:=by rfl):
  PE X (.Call (.Name x p) (e::es) [] pos) (tCall sp dvs E t):=by
 intro pins s σ H Q I h
 refine wpAny_Call_Name_kw (zpd I hg hm ?_ hdb)
 refine W.callWith_K (h₀:=X.base) I.ok.mod.kin hk (thn (ha pos pins s σ H _ I h) fun us s1 ⟨vs,H1,I1,r,q⟩=>⟨I1.kIn,?_⟩) he hpl
 exact run_fn F hr hb hd hx I1 r q
end
structure FnScope (N P:List Str) (sc:Scope):Prop where
 kind:sc.kind= .function
 co:sc.isCoroutine=false
 gen:sc.isGenerator=false
 nd:N.Nodup
 pre:N.take P.length=P
 par:∀x∈P,sc.names.lookup x=some .local\/sc.names.lookup x=some .cell
 nofree:∀y∈sc.names,y.2≠ .free
theorem zkE:∀{binds:List (Str×Value)} {m:Str->Option Value},(∀v,(x,v)∉binds)->bindL kindOf binds m x=m x
 |[],_,_=>rfl
 |(n,v)::r,m,h=>by
  unfold bindL
  rw[zkE fun w hw=>h w (List.mem_cons_of_mem _ hw)]
  split
  ·have:x≠n:=by rintro rfl;exact h v List.mem_cons_self
   simp[this]
  ·rfl
theorem zkM:∀{binds:List (Str×Value)} {m:Str->Option Value},(∀v,(x,v)∉binds)->bindC kindOf binds m x=m x
 |[],_,_=>rfl
 |(n,v)::r,m,h=>by
  unfold bindC
  rw[zkM fun w hw=>h w (List.mem_cons_of_mem _ hw)]
  split
  ·rfl
  ·have:x≠n:=by rintro rfl;exact h v List.mem_cons_self
   simp[this]
theorem zkR {v:Value}:∀{P:List Str} {vs:List Value} {i:Nat} {m:Str->Option Value},P.Nodup->P[i]? =some x->vs[i]? =some v->kindOf x=some .local->
  bindL kindOf (P.zip vs) m x=some v
 |[],_,_,_,_,h,_,_=>by simp at h
 |_::_,[],_,_,_,_,h,_=>by simp at h
 |p::P,w::vs,0,m,nd,h1,h2,hk=>by
  simp at h1 h2;subst h1;subst h2
  show bindL kindOf ((p,w)::P.zip vs) m p=_
  unfold bindL
  rw[zkE fun v hv=>(List.nodup_cons.mp nd).1 (List.of_mem_zip hv).1,if_pos hk]
  simp
 |p::P,w::vs,i+1,m,nd,h1,h2,hk=>by
  show bindL kindOf ((p,w)::P.zip vs) m x=_
  unfold bindL
  exact zkR (i:=i) (List.nodup_cons.mp nd).2 (by simpa using h1) (by simpa using h2) hk
theorem zkn {v:Value}:∀{P:List Str} {vs:List Value} {i:Nat} {m:Str->Option Value},P.Nodup->P[i]? =some x->vs[i]? =some v->kindOf x≠some .local->
  bindC kindOf (P.zip vs) m x=some v
 |[],_,_,_,_,h,_,_=>by simp at h
 |_::_,[],_,_,_,_,h,_=>by simp at h
 |p::P,w::vs,0,m,nd,h1,h2,hk=>by
  simp at h1 h2;subst h1;subst h2
  show bindC kindOf ((p,w)::P.zip vs) m p=_
  unfold bindC
  rw[zkM fun v hv=>(List.nodup_cons.mp nd).1 (List.of_mem_zip hv).1,if_neg hk]
  simp
 |p::P,w::vs,i+1,m,nd,h1,h2,hk=>by
  show bindC kindOf ((p,w)::P.zip vs) m x=_
  unfold bindC
  exact zkn (i:=i) (List.nodup_cons.mp nd).2 (by simpa using h1) (by simpa using h2) hk
noncomputable def start (N:List Str)(vs:List V):St:=vs.map some++List.replicate (N.length-vs.length) none
noncomputable def cxOf (CX:CXT)(P:Program)(w:World)(K:W.Frag)(mg:Str->Option Value)(base:Heap)(N:List Str)(qual:Str)(scope:Scope)(f:Addr)(cd:Value)(A:Around)(outer:List Env)(s:Shared)(H:Hp)(E:XK):Cx where
 prog:=P
 w:=w
 K:=K
 mg:=mg
 base:=base
 A:=A.deeper (envOfC qual scope s.heap.objs.size f cd)
 N:=N
 s₀:=s
 H₀:=H
 env:=envOfC qual scope s.heap.objs.size f cd
 outer:=outer
 stack:=envOfC qual scope s.heap.objs.size f cd::outer
 ex:=[]
 calm:=true
 fn:=fun _=>true
 pn:=[]
 xe:=fun e s'=>wpAny (model P w) (A.deeper (envOfC qual scope s.heap.objs.size f cd)) (leaving (envOfC qual scope s.heap.objs.size f cd) e) (fun _ s''=>CX outer H s E e s'') (fun e' s''=>CX outer H s E e' s'') s'
theorem zmm (h:sc.names.lookup x=some .cell):∃c,(cellsFrom n sc.names []).lookup x=some c:=by
 have q:=W.cellsFrom_some sc.names n [] (.inl h)
 exact Option.isSome_iff_exists.mp q
theorem znL {P:Program}{base:Heap}{f:Addr}{s s1:Shared}{E:XK}
  (S:FnScope N ps scope) (hd:A.handled=none) (e0:Env0 P w K mg base A outer s H) (hl:vs.length=ps.length) (r:Vals vs us)
  (x:InCallC s s.heap.objs.size (bindL (envOfC qual scope s.heap.objs.size f cd).kindOf (ps.zip us) fun _=>none) (cellsFrom (s.heap.objs.size+1) scope.names []) (bindC (envOfC qual scope s.heap.objs.size f cd).kindOf (ps.zip us) fun _=>none) s1):
  Inv (cxOf CX P w K mg base N qual scope f cd A outer s H E) [] (start N vs) H s1:=by
 have hpl:ps.length<=N.length:=by have:=congrArg List.length S.pre;rw[List.length_take]at this;lia
 obtain⟨h1,tk,rfl,hk⟩:=x.done
 have noA:∀b:Addr,b∉(cxOf CX P w K mg base N qual scope f cd A outer s H E).ex:=fun b z=>absurd (show b∈([]:List Addr)from z) (by simp)
 refine⟨⟨e0.mod,S.kind,rfl,rfl,Nat.le_refl _,fun y z c h1 h2=>?_,fun y hy=>?_,fun y c _ h=>?_,fun _=>hd,Around.frames_deeper e0.frames,.inr ⟨rfl,rfl⟩,fun b z=>absurd z (noA b),e0.bs,e0.bsz,fun b _ _=>noA b,fun b z=>absurd z (noA b),e0.funs,e0.frf⟩,
  rfl,e0.bare,Un.kept hk,⟨_,x.toInCall.ns,fun i y v h1 h2 h3=>?_⟩,fun y c h=>⟨_,x.cell y c h⟩,e0.hok.fresh (Nat.le_refl _),fun y c h=>?_,fun p hp=>absurd (show p∈([]:List (Addr×Obj))from hp) (by simp),e0.hok.kept hk,?_⟩
 ·exact name_of_addr x.apart (PySem.mem_of_lookup h1) (PySem.mem_of_lookup h2)
 ·have hy:scope.names.lookup y=some .cell\/scope.names.lookup y=some .free:=hy
  rcases hy with hy|hy
  ·exact zmm hy
  ·exact absurd rfl (S.nofree _ (PySem.mem_of_lookup hy))
 ·exact Nat.le_of_lt (x.above y c (PySem.mem_of_lookup h))
 ·have hi:i<vs.length:=by
   unfold start at h2
   by_cases hi:i<vs.length
   ·exact hi
   ·rw[List.getElem?_append_right (by simpa using hi)]at h2
    rw[List.getElem?_replicate]at h2
    split at h2<;>cases h2
  have ha:vs[i]? =some v:=by
   unfold start at h2
   rw[List.getElem?_append_left (by simpa using hi),List.getElem?_map]at h2
   cases e:vs[i]? with
   |none=>rw[e]at h2;cases h2
   |some a=>rw[e]at h2;cases h2;rfl
  obtain⟨u,hu,rv⟩:=r.get ha
  have hp:ps[i]? =some y:=by
   rw[<-S.pre,List.getElem?_take_of_lt (by lia)];exact h1
  have ndP:ps.Nodup:=by rw[<-S.pre];exact S.nd.sublist (List.take_sublist _ _)
  refine⟨u,rv,?_⟩
  rcases S.par y (List.mem_of_getElem? hp)with k|k
  ·exact .inl ⟨k,zkR ndP hp hu k⟩
  ·obtain⟨c,e⟩:=zmm (n:=s.heap.objs.size+1) k
   refine .inr ⟨.inl k,c,e,?_⟩
   have q:=x.cell y c e
   rw[zkn ndP hp hu (by show scope.names.lookup y≠_;rw[k];decide)]at q
   exact q
 ·exact e0.hok.fresh (Nat.le_of_lt (x.above y c (PySem.mem_of_lookup h)))
 ·unfold start
  show _=N.length
  rw[List.length_append,List.length_map,List.length_replicate]
  lia
theorem fn_of {P:Program}{base:Heap}{f:Addr}{name qual:Str}{dV kV doc pm cdv ct oc:Value}{an od:Option Addr}
  {osl:Array (Option Value)} {N ps:List Str} {sp:Sp} (lk:K.lookup f=some ⟨oc,od,.func (W.fnOf name qual params body scope dV kV doc pm an cdv ct),osl⟩) (hcd:W.codeIn K cdv qual=true) (S:FnScope N ps scope)
  (len:∀vs H Q E,sp vs H Q E->vs.length=ps.length)
  (hbody : ∀ (A : Around) (outer : List Env) (s : Shared) (H : Hp) (vs : List V) (Q : VK) (E : XK), Room k (A.deeper (envOfC qual scope s.heap.objs.size f cdv)) -> sp vs H Q E ->
   ∃t,PSs (cxOf CX P w K mg base N qual scope f cdv A outer s H E) body t/\t {nx:=fun _ H'=>Q .non H',rt:=Q} (start N vs) H):
  FnOk P w K mg base CX (k+1) f (W.fnOf name qual params body scope dV kV doc pm an cdv ct) ps sp:=by
 refine⟨len,fun A outer s H args us vs Q E hr e0 hb r hsp=>?_⟩
 have hl:=len _ _ _ _ hsp
 have KX:K.In s.heap:=e0.mod.kin.keeps fun b o e=>(e0.bs b o e).1
 have lim:s.heap.NoLimit:=e0.mod.nolimit.keeps fun b o e=>(e0.bs b o e).1
 have hkind:∀y∈ps.zip us,scope.names.lookup y.1=some .local\/(scope.names.lookup y.1=some .cell/\((cellsFrom (s.heap.objs.size+1) scope.names []).lookup y.1).isSome=true):=fun⟨n,v⟩ hy=>by
  rcases S.par n (List.of_mem_zip hy).1 with q|q
  ·exact .inl q
  ·exact .inr ⟨q,W.cellsFrom_some _ _ _ (.inl q)⟩
 refine codeAny_call_function hr.depth (KX _ _ lk) rfl S.co S.gen rfl (W.codeRec_of KX hcd) (hb _ _ _ _ ?_)
 refine wpAny_newFunctionEnv_cells S.kind hkind fun env he s1 x=>?_
 subst he
 refine⟨lim.keeps x.toInCall.keep,codeAny_func ?_⟩
 obtain⟨t,ht,hq⟩:=hbody A outer s H vs Q E (hr.deeper _) hsp
 have I:Inv (cxOf CX P w K mg base N qual scope f cdv A outer s H E) [] (start N vs) H s1:=znL S hr.hd e0 hl r x
 refine wpAny_mono (ht [] s1 (start N vs) H _ I hq) (fun fl s' hs=>?_) fun e s' hs=>hs
 have fin:∀{σ':St} {H':Hp} {v:V} {u:Value},Inv (cxOf CX P w K mg base N qual scope f cdv A outer s H E) [] σ' H' s'->RelV v u->Q v H'->CE outer P w H s Q u s':=
  fun{σ' H' v u} J rv q=>⟨v,H',J.os,J.bare,J.base,J.hok,rv,q⟩
 cases fl with
 |ret u=>
  obtain⟨v,σ',H',J,rv,q⟩:=hs
  exact fin J rv q
 |next=>
  obtain⟨σ',H',J,q⟩:=hs
  exact fin (v:=V.non) (u:=Value.none) J rfl q
 |brk=>
  obtain⟨_,_,_,q⟩:=hs
  exact False.elim q
 |cont=>
  obtain⟨_,_,_,q⟩:=hs
  exact False.elim q
section
variable {X:Cx} {x:Str} {p pos:Pos} {e:Expr} {es:List Expr} {t:TA} {id T:String} {r:List V->Hp->VK->Prop}
noncomputable def tCB (r:List V->Hp->VK->Prop)(t:TA):TE:=fun σ H Q=>t σ H fun vs H1=>r vs H1 Q
theorem zmG (hc:zik X (.builtin id) r)(hg:Gl X x)(hm:X.mg x=none)(hv:bootBuiltins x=some (.builtin id))(ha:PA X (e::es) t)(hn:x≠"__name__":=by decide)(hdb:(x==("__debug__":Str))=false:=by decide)
  (he:starEach (e::es) X.env=(false,eval e X.env)::starEach es X.env:=by rfl) (hpl:(backTo pos (starEach es X.env)).any (·.1)=false:=by rfl):PE X (.Call (.Name x p) (e::es) [] pos) (tCB r t):=by
 intro pins s σ H Q I h
 refine wpAny_Call_Name_kw (ziC I hg hm hv ?_ hn hdb)
 exact PyProof.Rows.callWith_builtin1 (thn (ha pos pins s σ H _ I h) fun us s1 ⟨vs,H1,I1,r1,q1⟩=>hc pins s1 σ H1 vs us Q I1 r1 q1) he hpl
theorem zkw (hc:zik X (.type T) r)(hg:Gl X x)(hm:X.mg x=none)(hv:bootBuiltins x=some (.type T))(ha:PA X (e::es) t)(hn:x≠"__name__":=by decide)(hdb:(x==("__debug__":Str))=false:=by decide)
  (he:starEach (e::es) X.env=(false,eval e X.env)::starEach es X.env:=by rfl) (hpl:(backTo pos (starEach es X.env)).any (·.1)=false:=by rfl):PE X (.Call (.Name x p) (e::es) [] pos) (tCB r t):=by
 intro pins s σ H Q I h
 refine wpAny_Call_Name_kw (ziC I hg hm hv ?_ hn hdb)
 exact PyProof.Rows.callWith_type1 (thn (ha pos pins s σ H _ I h) fun us s1 ⟨vs,H1,I1,r1,q1⟩=>hc pins s1 σ H1 vs us Q I1 r1 q1) he hpl
end
end L2
namespace HT
open PyProof.Rows PySem
section
variable {prog:Program} {w:World} {A:Around} {E:Value->Shared->Prop} {s:Shared}
theorem cat_tup {t b:Addr}{vs ws:List Value}{Q:Value->Shared->Prop}(ht:IsTup s.heap t vs.toArray)(hb:IsTup s.heap b ws.toArray)(hv:vs≠[])
  (h1:ws=[]->Q (.ref t) s) (h2:ws≠[]->Q (.ref s.heap.objs.size) {s with heap:=s.heap.push {cls:= .type "tuple",data:= .seq (vs++ws).toArray}})
  (hsz:vs.length+ws.length<=sizeLine):wpAny (model prog w) A (binaryOp .Add (.ref t) (.ref b)) Q E s:=by
 obtain⟨⟨cls,dd,data,sl⟩,ho,hc,n,hd⟩:=id ht
 obtain⟨⟨cls2,dd2,data2,sl2⟩,ho2,hc2,n2,hd2⟩:=id hb
 simp only at hc hd hc2 hd2
 subst hc hd hc2 hd2
 have e:vs.toArray++ws.toArray=(vs++ws).toArray:=by simp
 by_cases hw:ws=[]
 ·exact concat_meets ⟨_,ho,rfl⟩ ⟨_,ho2,rfl⟩ noFill_tuple_add seq_tuple_add PySem.F.slot_tuple_add PySem.F.entry_tuple_add (PySem.F.args_tuple_add_2 _ _)
   (tuple_addW1 t b vs.toArray ws.toArray n n2 dd dd2 sl sl2 (by simpa using hv) (by simp[hw])) ⟨ho,ho2,h1 hw⟩
 ·refine concat_meets ⟨_,ho,rfl⟩ ⟨_,ho2,rfl⟩ noFill_tuple_add seq_tuple_add PySem.F.slot_tuple_add PySem.F.entry_tuple_add (PySem.F.args_tuple_add_2 _ _)
   (tuple_addW2 t b vs.toArray ws.toArray n n2 dd dd2 sl sl2 (by simpa using hv) (by simpa using hw) (by rw[List.size_toArray,List.size_toArray];exact hsz)) ⟨ho,ho2,?_⟩
  rw[e]
  exact h2 hw
noncomputable def sIx (n d:Nat):Option Int->Nat
 |none=>d
 |some v=>if v<0 then(v+(n:Int)).toNat else min v.toNat n
theorem zmh (n d:Nat):sIx n d none=d:=rfl
theorem zhR (n d k:Nat):sIx n d (some (k:Int))=min k n:=by
 show(if(k:Int)<0 then((k:Int)+(n:Int)).toNat else min (k:Int).toNat n)=min k n
 rw[if_neg (by lia),Int.toNat_natCast]
theorem sIx_le (n d:Nat)(hd:d<=n)(o:Option Int):sIx n d o<=n:=by
 cases o with
 |none=>exact hd
 |some v=>
  show(if v<0 then(v+(n:Int)).toNat else min v.toNat n)<=n
  by_cases hv:v<0
  ·rw[if_pos hv];lia
  ·rw[if_neg hv];exact Nat.min_le_right _ _
theorem znF (v:Int)(n d:Nat):(if v<0 then max (v+(n:Int)) 0 else min v (n:Int))=((sIx n d (some v):Nat):Int):=by
 show(if v<0 then max (v+(n:Int)) 0 else min v (n:Int))=(((if v<0 then(v+(n:Int)).toNat else min v.toNat n):Nat):Int)
 by_cases hv:v<0
 ·simp only[if_pos hv];lia
 ·simp only[if_neg hv];lia
theorem zng (lo hi:Option Int)(n:Nat):Builtin.Slice.sliceAdjust lo hi 1 (n:Int)=(((sIx n 0 lo:Nat):Int),((sIx n n hi:Nat):Int)):=by
 have h1:¬((1:Int)<0):=by lia
 unfold Builtin.Slice.sliceAdjust
 simp only[h1,if_false]
 refine Prod.ext ?_ ?_
 ·cases lo with
  |none=>rfl
  |some v=>exact znF v n 0
 ·cases hi with
  |none=>rfl
  |some v=>exact znF v n n
theorem znd (i j:Nat):Builtin.Slice.slicePlaces (i:Int) (j:Int) 1=j-i:=by
 unfold Builtin.Slice.slicePlaces
 have h1:(1:Int)>0:=by lia
 simp only[h1,if_true,Int.ediv_one]
 split<;>lia
theorem zjr {v:Value}{o:Option Int}{Q:Option Int->Shared->Prop}(p:IsPart v o)(h:Q o s):wpAny (model prog w) A (Builtin.Slice.slicePartIndex v) Q E s:=by
 cases p with
 |none=>exact slicePart_none h
 |int i t=>exact slicePart_int h
theorem ze8 {sl:Addr}{vl vu:Value}{lo hi:Option Int}{n:Nat}{Q:Int×Int×Nat->Shared->Prop}(hs:s.heap.IsSliceOf sl vl vu .none)(pl:IsPart vl lo)(pu:IsPart vu hi)
  (h:Q (((sIx n 0 lo:Nat):Int),1,sIx n n hi-sIx n 0 lo) s):wpAny (model prog w) A (Builtin.Slice.sliceApplied (.ref sl) (pure (n:Int))) Q E s:=by
 obtain⟨os,hos,hcs,hds⟩:=id hs
 unfold Builtin.Slice.sliceApplied Builtin.Slice.sliceFields
 refine wpAny_bind (wpAny_bind (wpAny_field hos hds (x:=vl) rfl (wpAny_bind (wpAny_field hos hds (x:=vu) rfl (wpAny_bind (wpAny_field hos hds (x:= .none) rfl (wpAny_pure ?_)))))))
 refine wpAny_bind (slicePart_none ?_)
 show wpAny _ _ (if((1:Int)==0)=true then _ else _) _ _ s
 rw[if_neg (by decide)]
 refine wpAny_bind (zjr pl (wpAny_bind (zjr pu (wpAny_bind (wpAny_pure ?_)))))
 show wpAny _ _ (match Builtin.Slice.sliceAdjust lo hi 1 (n:Int)with|(lo,hi)=>pure (lo,(1:Int),Builtin.Slice.slicePlaces lo hi 1)) _ _ s
 rw[zng lo hi n]
 show wpAny _ _ (pure (((sIx n 0 lo:Nat):Int),(1:Int),Builtin.Slice.slicePlaces ((sIx n 0 lo:Nat):Int) ((sIx n n hi:Nat):Int) 1)) _ _ s
 rw[znd]
 exact wpAny_pure h
theorem pick_gen (xs:Array Value)(i k:Nat):((List.range k).filterMap fun(m:Nat)=>xs[((i:Int)+(m:Int)*1).toNat]?).toArray=((xs.toList.drop i).take k).toArray:=by
 have e:(fun(m:Nat)=>xs[((i:Int)+(m:Int)*1).toNat]?)=fun m=>xs[i+m]?:=by
  funext m
  have:((i:Int)+(m:Int)*1).toNat=i+m:=by lia
  rw[this]
 rw[e]
 have:=pick_run xs i k
 rw[List.filterMap_map]at this
 have e2:((fun x=>xs[x]?) ∘ fun x=>i+x)=fun m=>xs[i+m]?:=rfl
 rw[e2]at this
 rw[this]
theorem zh2 {t sl:Addr}{items:Array Value}{vl vu:Value}{lo hi:Option Int}{Q:Value->Shared->Prop}(ht:IsTup s.heap t items)(hs:s.heap.IsSliceOf sl vl vu .none)(pl:IsPart vl lo)(pu:IsPart vu hi)
  (hw:¬(sIx items.size 0 lo=0/\sIx items.size items.size hi=items.size))
  (h:Q (.ref s.heap.objs.size) {s with heap:=s.heap.push {cls:= .type "tuple",data:= .seq ((items.toList.drop (sIx items.size 0 lo)).take (sIx items.size items.size hi-sIx items.size 0 lo)).toArray}})
  (hsz:items.size<=sizeLine):wpAny (model prog w) A (getItem (.ref t) (.ref sl)) Q E s:=by
 have htake:sizeOk (.seq ((items.toList.drop (sIx items.size 0 lo)).take (sIx items.size items.size hi-sIx items.size 0 lo)).toArray):=by
  show((items.toList.drop (sIx items.size 0 lo)).take (sIx items.size items.size hi-sIx items.size 0 lo)).toArray.size<=sizeLine
  rw[List.size_toArray,List.length_take,List.length_drop,Array.length_toList]
  lia
 have hj:sIx items.size items.size hi<=items.size:=sIx_le _ _ (Nat.le_refl _) hi
 obtain⟨os,hos,hcs,hds⟩:=id hs
 have hTs:s.TypeIs (.ref sl) "slice":=⟨os,hos,hcs⟩
 unfold getItem
 try with_reducible refine wpAny_holding ?_
 first|refine wpAny_bind (wpAny_pure ?_)|skip
 refine wpAny_bind (wpAny_sequenceKey ht.typeIs (by decide) ?_)
 refine wpAny_bind (wpAny_callSpecial?_slot (name:=Str.ofString "__getitem__") ht.typeIs PyProof.Rows.slot_tuple_getitem
  (wpAny_call_entry PyProof.Rows.slot_tuple_getitem ht.typeIs entry_tuple_getitem ?_ (args_tuple_getitem _ _)))
 show wpAny _ _ (Builtin.Tuple.tupleItemsOf (.ref t)>>=_) _ _ s
 refine wpAny_bind (tupleItemsOf_ ht ?_)
 refine wpAny_bind (wpAny_typeOf hTs ?_)
 rw[if_pos (by decide)]
 refine wpAny_bind (ze8 hs pl pu ?_)
 have hno:¬((((sIx items.size 0 lo:Nat):Int)==0&&(1:Int)==1&&(sIx items.size items.size hi-sIx items.size 0 lo)==items.size)=true):=by
  intro q
  rw[Bool.and_eq_true,Bool.and_eq_true]at q
  have q1:((sIx items.size 0 lo:Nat):Int)=0:=eq_of_beq q.1.1
  have q2:sIx items.size items.size hi-sIx items.size 0 lo=items.size:=eq_of_beq q.2
  exact hw ⟨by lia,by lia⟩
 show wpAny _ _ (if(((sIx items.size 0 lo:Nat):Int)==0&&(1:Int)==1&&(sIx items.size items.size hi-sIx items.size 0 lo)==items.size)=true then _ else _) _ _ s
 rw[if_neg hno,pick_gen]
 first
  |exact wpAny_bind (m:=Builtin.Tuple.tupleExact _) (wpAny_newObj_type (wpAny_pure ⟨_,rfl,wpAny_pure h⟩) htake)
  |exact wpAny_bind (m:=Builtin.Tuple.tupleExact _) (wpAny_newObj_type (wpAny_bind (wpAny_pure (wpAny_pure ⟨_,rfl,wpAny_pure h⟩))) htake)
  |exact wpAny_bind (wpAny_bind (m:=Builtin.Tuple.tupleExact _) (wpAny_newObj_type (wpAny_pure (wpAny_pure ⟨_,rfl,wpAny_pure h⟩)) htake))
  |exact wpAny_bind (wpAny_bind (m:=Builtin.Tuple.tupleExact _) (wpAny_newObj_type (wpAny_pure ⟨_,rfl,wpAny_pure h⟩) htake))
end
end HT
namespace L2
open PyProof.Rows PySem PySem.Spec
variable {ns:List Int} {r r':V->Option Int->Option Int->Hp->VK->Prop} {xs:List V} {us its its':List Value} {n j t':Nat} {i:Int} {pins:List (Addr×Obj)} {σ:St} {H:Hp} {s:Shared} {p:Addr} {v:Value}
noncomputable abbrev TO:=St->Hp->(Option Int->Hp->Prop)->Prop
noncomputable def PO (X:Cx)(e:Option Expr)(t:TO):Prop:=
 ∀(pins:List (Addr×Obj)) (s:Shared) (σ:St) (H:Hp) (Q:Option Int->Hp->Prop),Inv X pins σ H s->t σ H Q->
  wpAny (model X.prog X.w) X.A (evalPart e X.env) (fun u s'=>∃o H',Inv X pins σ H' s'/\IsPart u o/\Q o H') X.xe s
noncomputable def tNoPart:TO:=fun _ H Q=>Q none H
noncomputable def tPart (t:TE):TO:=fun σ H Q=>t σ H fun x H1=>∃i,x= .int i/\Q (some i) H1
theorem zm1:∀{us:List Value},Vals (ns.map V.int) us->IntsAre us ns:=by
 induction ns with
 |nil=>intro us r;rw[List.map_nil]at r;cases r;exact .nil
 |cons n ns ih=>
  intro us r
  rw[List.map_cons]at r
  cases r with
  |cons r1 r2=>
   obtain⟨t,e⟩:=r1
   subst e
   exact .cons n t (ih r2)
section
variable {X:Cx} {e:Expr} {te:TE} {lo hi:Option Expr} {tl th:TO} {pos p2:Pos}
theorem po_none:PO X none tNoPart:=by
 intro pins s σ H Q I h
 rw[evalPart_none]
 exact wpAny_pure ⟨none,H,I,.none,h⟩
theorem po_some (h:PE X e te):PO X (some e) (tPart te):=by
 intro pins s σ H Q I hw
 rw[evalPart_some]
 refine thn (h pins s σ H _ I hw) fun u s1 ⟨x,H1,I1,r1,q1⟩=>?_
 obtain⟨i,rfl,q⟩:=q1
 obtain⟨t,rfl⟩:=r1
 exact⟨some i,H1,I1,.int i t,q⟩
noncomputable def SlR (X:Cx)(r:V->Option Int->Option Int->Hp->VK->Prop):Prop:=
 ∀(pins:List (Addr×Obj)) (s:Shared) (σ:St) (H:Hp) (x:V) (v vl vu:Value) (lo hi:Option Int) (sl:Addr) (Q:VK),Inv X pins σ H s->RelV x v->s.heap.IsSliceOf sl vl vu .none->IsPart vl lo->IsPart vu hi->r x lo hi H Q->
  ∃T id,typeLookup (.type T) "__getitem__"=pure (some (.builtin id))/\s.TypeIs v T/\wpAny (model X.prog X.w) X.A (getItem v (.ref sl)) (EP X pins σ Q) X.xe s
theorem SlR.or (h:SlR X r)(h':SlR X r'):SlR X (fun x lo hi H Q=>r x lo hi H Q\/r' x lo hi H Q):=by
 intro pins s σ H x v vl vu lo hi sl Q I rx hs pl pu q
 rcases q with q|q
 ·exact h pins s σ H x v vl vu lo hi sl Q I rx hs pl pu q
 ·exact h' pins s σ H x v vl vu lo hi sl Q I rx hs pl pu q
noncomputable def tSl (r:V->Option Int->Option Int->Hp->VK->Prop)(te:TE)(tl th:TO):TE:=fun σ H Q=>te σ H fun x H1=>tl σ H1 fun l H2=>th σ H2 fun u H3=>r x l u H3 Q
theorem pe_slice (hr:SlR X r)(he:PE X e te)(hl:PO X lo tl)(hu:PO X hi th):PE X (.Subscript e (.Slice lo hi none p2) pos) (tSl r te tl th):=by
 intro pins s σ H Q I h
 refine Subscript_ (thn (he pins s σ H _ I h) fun v s1 ⟨x,H1,I1,r1,q1⟩=>?_)
 refine wpAny_Slice (thn (hl pins s1 σ H1 _ I1 q1) fun vl s2 ⟨l,H2,I2,pl,q2⟩=>thn (hu pins s2 σ H2 _ I2 q2) fun vu s3 ⟨u,H3,I3,pu,q3⟩=>?_)
 rw[evalPart_none]
 refine wpAny_pure ?_
 have I4:Inv X pins σ H3 {s3 with heap:=s3.heap.push {cls:= .type "slice",data:= .fields #[vl,vu,.none]}}:=I3.kept (t':=s3.toks) fun b ob q=>Heap.get?_push_of_some _ q
 obtain⟨T,id,hT,ht,hg⟩:=hr pins {s3 with heap:=s3.heap.push {cls:= .type "slice",data:= .fields #[vl,vu,.none]}} σ H3 x v vl vu l u s3.heap.objs.size Q I4 r1 (Heap.IsSliceOf.new ..) pl pu q3
 show wpAny (model X.prog X.w) X.A (subscriptTail e (.Slice lo hi none p2) v (.ref s3.heap.objs.size)) (EP X pins σ Q) X.xe {s3 with heap:=s3.heap.push {cls:= .type "slice",data:= .fields #[vl,vu,.none]}}
 exact tail_any (ops:=[.ref s3.heap.objs.size,v]) ht hT hg (by with_unfolding_all rfl)
noncomputable def cutV (xs:List V)(lo hi:Option Int):List V:=(xs.drop (HT.sIx xs.length 0 lo)).take (HT.sIx xs.length xs.length hi-HT.sIx xs.length 0 lo)
theorem ziH (xs:List V)(lo hi:Option Int):(cutV xs lo hi).length<=xs.length:=by
 unfold cutV
 rw[List.length_take,List.length_drop]
 lia
noncomputable def rSlT (K:W.Frag):V->Option Int->Option Int->Hp->VK->Prop:=fun x lo hi H Q=>∃a xs,x= .ref a/\SqT K H a xs/\
 ¬(HT.sIx xs.length 0 lo=0/\HT.sIx xs.length xs.length hi=xs.length)/\∀p,H p=none->Q (.ref p) (upd H p (.tup (cutV xs lo hi)))
theorem sl_tup:SlR X (rSlT X.K):=by
 intro pins s σ H x v vl vu lo hi sl Q I rx hs pl pu h
 obtain⟨a,xs,rfl,hx,hw,q⟩:=h
 cases rx
 obtain⟨its,r,ht,hz⟩:=I.tuple hx
 have hlen:its.toArray.size=xs.length:=by rw[List.size_toArray];exact r.length.symm
 refine⟨"tuple",_,PyProof.Rows.slot_tuple_getitem.lookup,ht.typeIs,?_⟩
 refine HT.zh2 ht hs pl pu (by rw[hlen];exact hw) ?_ (by rw[hlen];exact hz)
 rw[hlen]
 refine⟨.ref s.heap.objs.size,_,I.laid (t':=s.toks) (o:= .tup (cutV xs lo hi)) (fun b ob q=>Heap.get?_push_of_some _ q) (Nat.le_refl _) ?_,rfl,q _ (I.hok.fresh (Nat.le_refl _))⟩
 exact⟨Nat.le_trans (ziH xs lo hi) hz,_,(r.drop (HT.sIx xs.length 0 lo)).take (HT.sIx xs.length xs.length hi-HT.sIx xs.length 0 lo),IsTup.new _ _⟩
noncomputable def rCatT (K:W.Frag):R2:=fun x y H Q=>∃a b xs ys,x= .ref a/\y= .ref b/\SqT K H a xs/\SqT K H b ys/\xs≠[]/\xs.length+ys.length<=sizeLine/\
 (ys=[]->Q (.ref a) H)/\(ys≠[]->∀p,H p=none->Q (.ref p) (upd H p (.tup (xs++ys))))
theorem Vals.nil_iff (r:Vals xs us):us=[]↔xs=[]:=by
 cases r with
 |nil=>simp
 |cons _ _=>simp
theorem op_catT:OpR X (binaryOp .Add) (rCatT X.K):=by
 intro pins s σ H x y v u Q I rx ry h
 obtain⟨a,b,xs,ys,rfl,rfl,ha,hb,hx,hz,q1,q2⟩:=h
 cases rx
 cases ry
 obtain⟨its,r1,p1,_⟩:=I.tuple ha
 obtain⟨its2,r2,p2,_⟩:=I.tuple hb
 refine HT.cat_tup p1 p2 (fun z=>hx (r1.nil_iff.mp z)) (fun z=>⟨.ref a,H,I,rfl,q1 (r2.nil_iff.mp z)⟩) (fun z=>?_) (by rw[<-r1.length,<-r2.length];exact hz)
 refine⟨.ref s.heap.objs.size,_,I.laid (t':=s.toks) (o:= .tup (xs++ys)) (fun b ob q=>Heap.get?_push_of_some _ q) (Nat.le_refl _) ?_,rfl,q2 (fun w=>z (r2.nil_iff.mpr w)) _ (I.hok.fresh (Nat.le_refl _))⟩
 exact⟨by rw[List.length_append];exact hz,_,r1.append r2,IsTup.new _ _⟩
end
noncomputable def ixN (n:Nat)(i:Int):Option Nat:=if 0<=i then(if i<n then some i.toNat else none)else if-(n:Int)<=i then some (i+n).toNat else none
noncomputable def atI {α:Type}(xs:List α)(i:Int):Option α:=(ixN xs.length i).bind fun j=>xs[j]?
theorem zn6 {n:Nat}(h:ixN n i=some j):seqIndex? i n=some j/\j<n/\ -(n:Int)<=i/\i<n:=by
 unfold ixN at h
 by_cases h0:0<=i
 ·rw[if_pos h0]at h
  by_cases h1:i<n
  ·rw[if_pos h1]at h
   have e:i.toNat=j:=Option.some.inj h
   exact⟨by rw[seqIndex_of h0 h1,e],by lia,by lia,h1⟩
  ·rw[if_neg h1]at h;cases h
 ·rw[if_neg h0]at h
  by_cases h1: -(n:Int)<=i
  ·rw[if_pos h1]at h
   have e:(i+n).toNat=j:=Option.some.inj h
   exact⟨by rw[seqIndex_neg (by lia) h1,e],by lia,h1,by lia⟩
  ·rw[if_neg h1]at h;cases h
theorem zly {α:Type}{xs:List α}{v:α}(h:atI xs i=some v):∃j,seqIndex? i xs.length=some j/\xs[j]? =some v/\j<xs.length/\ -(xs.length:Int)<=i/\i<xs.length:=by
 unfold atI at h
 cases e:ixN xs.length i with
 |none=>rw[e]at h;cases h
 |some j=>
  rw[e]at h
  obtain⟨h1,h2,h3,h4⟩:=zn6 e
  exact⟨j,h1,h,h2,h3,h4⟩
theorem zmo {α:Type}(xs:List α)(v:α):atI (xs++[v]) (-1)=some v:=by
 have hl:(xs++[v]).length=xs.length+1:=by simp
 have e:ixN (xs++[v]).length (-1)=some xs.length:=by
  unfold ixN
  rw[hl,if_neg (by decide),if_pos (by lia)]
  congr 1
  lia
 unfold atI
 rw[e]
 show(xs++[v])[xs.length]? =some v
 simp
noncomputable def zjZ (b:Expr):Prop:=∀o i,subscripted b false o i=operate [o,i] (getItem o i)
noncomputable def IxR (X:Cx)(r:R2):Prop:=
 ∀(value slice:Expr) (pins:List (Addr×Obj)) (s:Shared) (σ:St) (H:Hp) (x y:V) (v u:Value) (Q:VK),Inv X pins σ H s->RelV x v->RelV y u->r x y H Q->
  subscripted slice false v u=operate [v,u] (getItem v u)->wpAny (model X.prog X.w) X.A (subscriptTail value slice v u) (EP X pins σ Q) X.xe s
noncomputable def MtR (X:Cx)(id:String)(r:V->List V->Hp->VK->Prop):Prop:=
 ∀(pins:List (Addr×Obj)) (s:Shared) (σ:St) (H:Hp) (x:V) (xs:List V) (v:Value) (us:List Value) (Q:VK),Inv X pins σ H s->RelV x v->Vals xs us->r x xs H Q->
  wpAny (model X.prog X.w) X.A (call (.builtin id) (v::us)) (EP X pins σ Q) X.xe s
section
variable {X:Cx} {a b:Expr} {ta tb:TE} {pos:Pos}
theorem IxR.or {r r':R2}(h:IxR X r)(h':IxR X r'):IxR X (fun x y H Q=>r x y H Q\/r' x y H Q):=by
 intro value slice pins s σ H x y v u Q I rx ry q hs
 rcases q with q|q
 ·exact h value slice pins s σ H x y v u Q I rx ry q hs
 ·exact h' value slice pins s σ H x y v u Q I rx ry q hs
theorem pe_ix {r:R2}(hr:IxR X r)(ha:PE X a ta)(hb:PE X b tb)(hs:zjZ b):PE X (.Subscript a b pos) (tOp r ta tb):=by
 intro pins s σ H Q I h
 exact Subscript_ (binT ha hb I h fun v u s2 x y H2 I2 rx ry q=>hr a b pins s2 σ H2 x y v u Q I2 rx ry q (hs _ _))
noncomputable def rIxL (K:W.Frag):R2:=fun x y H Q=>∃p xs i v,x= .ref p/\y= .int i/\SqL K H p xs/\atI xs i=some v/\Q v H
noncomputable def rIxT (K:W.Frag):R2:=fun x y H Q=>∃p xs i v,x= .ref p/\y= .int i/\SqT K H p xs/\atI xs i=some v/\Q v H
noncomputable def rIxS:R2:=fun x y H Q=>∃z i c,x= .str z/\y= .int i/\z.length<=sizeLine/\atI z.cps.toList i=some c/\Q (.str ⟨#[c]⟩) H
theorem ix_list:IxR X (rIxL X.K):=by
 intro value slice pins s σ H x y v u Q I rx ry h hs
 obtain⟨p,xs,i,z,rfl,rfl,hq,he,q⟩:=h
 cases rx
 obtain⟨t,rfl⟩:=ry
 obtain⟨its,r,pl,hz⟩:=I.list hq
 obtain⟨j,h1,h2,h3,h4,h5⟩:=zly he
 obtain⟨w,ew,rw'⟩:=r.get h2
 have hl:=r.length
 have hn:=zjB
 have fin:EP X pins σ Q w s:=⟨z,H,I,rw',q⟩
 by_cases h0:0<=i
 ·have hj:i.toNat=j:=by
   rw[seqIndex_of h0 h5]at h1
   exact Option.some.inj h1
  exact item_listR pl.isList h0 (by lia) (by rw[hj];simpa using ew) fin hs
 ·have hj:(i+(its.toArray.size:Int)).toNat=j:=by
   rw[seqIndex_neg (by lia) h4]at h1
   rw[List.size_toArray,<-hl]
   exact Option.some.inj h1
  exact subscriptTail_builtinR (x:=w) pl.isList.typeIs slot_list_getitem.lookup
   (wpAny_getItem_list_neg (Q:=fun r s'=>r=w/\EP X pins σ Q r s') pl.isList (by lia) (by rw[List.size_toArray]<;>lia) (by lia) (by rw[hj];simpa using ew) ⟨rfl,fin⟩) hs
theorem ix_tup:IxR X (rIxT X.K):=by
 intro value slice pins s σ H x y v u Q I rx ry h hs
 obtain⟨p,xs,i,z,rfl,rfl,hq,he,q⟩:=h
 cases rx
 obtain⟨t,rfl⟩:=ry
 obtain⟨its,r,pl,hz⟩:=I.tuple hq
 obtain⟨j,h1,h2,h3,h4,h5⟩:=zly he
 obtain⟨w,ew,rw'⟩:=r.get h2
 have hl:=r.length
 have hn:=zjB
 have fin:EP X pins σ Q w s:=⟨z,H,I,rw',q⟩
 exact subscriptTail_builtinR (x:=w) pl.typeIs slot_tuple_getitem.lookup
  (getItem_tuple (j:=j) (Q:=fun r s'=>r=w/\EP X pins σ Q r s') pl (by lia) (by lia) (by rw[List.size_toArray,<-hl];exact h1) (by simpa using ew) ⟨rfl,fin⟩) hs
theorem ix_str:IxR X rIxS:=by
 intro value slice pins s σ H x y v u Q I rx ry h hs
 obtain⟨z,i,c,rfl,rfl,hz,he,q⟩:=h
 obtain⟨t,rfl⟩:=rx
 obtain⟨t',rfl⟩:=ry
 obtain⟨j,h1,h2,h3,h4,h5⟩:=zly he
 have hl:z.cps.toList.length=z.length:=by simp[Str.length]
 rw[hl]at h1 h4 h5
 have hn:=zjB
 exact tail_any (typeIs_str s z t) slot_str_getitem.lookup (getItem_str (c:=c) (by
  have e1:decide (i< -(2^63:Int))=false:=decide_eq_false (by lia)
  have e2:decide (i>=2^63)=false:=decide_eq_false (by lia)
  rw[e1,e2,Bool.or_false]) (by rw[h1];simpa using h2) ⟨.str ⟨#[c]⟩,H,I.tok _,⟨_,rfl⟩,q⟩) hs
noncomputable def rIx (K:W.Frag):R2:=fun x y H Q=>rIxL K x y H Q\/rIxT K x y H Q\/rIxS x y H Q
theorem ix_seq:IxR X (rIx X.K):=ix_list.or (ix_tup.or ix_str)
theorem znq (its:List Value)(n j:Nat)(u:Value):Obj.mapSeq (·.setIfInBounds j u) {cls:= .type "list",data:= .seq its.toArray n}={cls:= .type "list",data:= .seq (its.set j u).toArray n}:=by
 simp[Obj.mapSeq]
theorem Inv.lst (I:Inv X pins σ H s)(h:H p=some (.lst xs)):
  ∃(its:List Value) (n:Nat),Vals xs its/\s.heap.get? p=some {cls:= .type "list",data:= .seq its.toArray n}/\xs.length<=sizeLine:=by
 obtain⟨z,its,n,r,e⟩:=I.hok p _ h
 exact⟨its,n,r,e,z⟩
theorem Inv.lstUpd {xs ys:List V}{n n':Nat}{f:Obj->Obj}(I:Inv X pins σ H s)(h:H p=some (.lst xs))
  (ho:s.heap.get? p=some {cls:= .type "list",data:= .seq its.toArray n}) (hf:f {cls:= .type "list",data:= .seq its.toArray n}={cls:= .type "list",data:= .seq its'.toArray n'}) (r:Vals ys its') (hz:ys.length<=sizeLine) (t:Nat):
  Inv X pins σ (upd H p (.lst ys)) {s with heap:=s.heap.update p f,toks:=t}:=by
 have e:(s.heap.update p f).get? p=some {cls:= .type "list",data:= .seq its'.toArray n'}:=by
  rw[Heap.get?_update_self f ho (by rw[hf]<;>rfl),hf]
 refine I.write (x:=p) (e:=p) (by rw[h];trivial) (.inl rfl) (fun b u hb q=>(Heap.get?_update_other _ _ (Ne.symm hb)).trans q) ⟨_,e⟩ ?_
 exact⟨hz,its',n',r,e⟩
noncomputable def rSetL:V->V->V->Hp->(Hp->Prop)->Prop:=fun o i v H Q=>∃p xs k j,o= .ref p/\i= .int k/\H p=some (.lst xs)/\ixN xs.length k=some j/\Q (upd H p (.lst (xs.set j v)))
theorem set_list:PSet X rSetL:=by
 intro pins s σ H o i v ov iv u Q I ro ri rv h
 obtain⟨p,xs,k,j,rfl,rfl,hp,hj,q⟩:=h
 cases ro
 obtain⟨t,rfl⟩:=ri
 obtain⟨its,n,r,ho,hz⟩:=I.lst hp
 obtain⟨h1,h2,h3,h4⟩:=zn6 hj
 have hl:=r.length
 have hn:=zjB
 have I':Inv X pins σ (upd H p (.lst (xs.set j v))) {s with heap:=s.heap.update p (Obj.mapSeq (·.setIfInBounds j u))}:=
  I.lstUpd hp ho (znq its n j u) (r.set rv j) (by rw[List.length_set];exact hz) s.toks
 by_cases h0:0<=k
 ·have hk:k.toNat=j:=by
   rw[seqIndex_of h0 h4]at h1
   exact Option.some.inj h1
  exact W.ki_setAt ho h0 (by lia) (by rw[List.size_toArray,<-hl];exact h4) (by rw[hk];exact⟨_,I',q⟩)
 ·have hk:(k+(its.toArray.size:Int)).toNat=j:=by
   rw[seqIndex_neg (by lia) h3]at h1
   rw[List.size_toArray,<-hl]
   exact Option.some.inj h1
  exact W.ki_setBack ho (by lia) (by rw[List.size_toArray,<-hl];exact h3) (by lia) (by rw[hk];exact⟨_,I',q⟩)
theorem zkV (lo hi:Option Int)(n:Nat):(sliceBounds lo hi none n).1=((HT.sIx n 0 lo:Nat):Int)/\(sliceBounds lo hi none n).2.1=((HT.sIx n n hi:Nat):Int)/\(sliceBounds lo hi none n).2.2=1:=by
 refine⟨?_,?_,rfl⟩
 ·cases lo with
  |none=>simp[sliceBounds,HT.sIx]
  |some i=>
   simp only[sliceBounds,HT.sIx,Option.getD_none,show(1:Int)>0 by decide,if_true]
   by_cases h:i<0
   ·simp only[h,if_true]<;>lia
   ·simp only[h,if_false]<;>lia
 ·cases hi with
  |none=>simp[sliceBounds,HT.sIx]
  |some i=>
   simp only[sliceBounds,HT.sIx,Option.getD_none,show(1:Int)>0 by decide,if_true]
   by_cases h:i<0
   ·simp only[h,if_true]<;>lia
   ·simp only[h,if_false]<;>lia
theorem zjN (its:List Value)(lo hi:Option Int):slicePick its.toArray lo hi none=((its.drop (HT.sIx its.length 0 lo)).take (HT.sIx its.length its.length hi-HT.sIx its.length 0 lo)).toArray:=by
 obtain⟨h1,h2,h3⟩:=zkV lo hi its.toArray.size
 unfold slicePick
 rw[h1,h2,h3]
 simp only[sliceRange_one,pick_run,List.size_toArray]<;>rfl
noncomputable def rSlL (K:W.Frag):V->Option Int->Option Int->Hp->VK->Prop:=fun x lo hi H Q=>∃a xs,x= .ref a/\SqL K H a xs/\∀p,H p=none->Q (.ref p) (upd H p (.lst (cutV xs lo hi)))
theorem sl_list:SlR X (rSlL X.K):=by
 intro pins s σ H x v vl vu lo hi sl Q I rx hs pl pu h
 obtain⟨a,xs,rfl,hx,q⟩:=h
 cases rx
 obtain⟨its,r,ht,hz⟩:=I.list hx
 have hlen:=r.length
 refine⟨"list",_,slot_list_getitem.lookup,ht.isList.typeIs,?_⟩
 refine wpAny_getItem_list_slice ht.isList hs pl pu .none (by simp) ?_ (by rw[List.size_toArray]<;>lia)
 rw[zjN,<-hlen]
 refine⟨.ref s.heap.objs.size,_,I.laid (t':=s.toks) (o:= .lst (cutV xs lo hi)) (fun b ob q=>Heap.get?_push_of_some _ q) (Nat.le_refl _) ?_,rfl,q _ (I.hok.fresh (Nat.le_refl _))⟩
 exact⟨Nat.le_trans (ziH xs lo hi) hz,_,0,(r.drop (HT.sIx xs.length 0 lo)).take (HT.sIx xs.length xs.length hi-HT.sIx xs.length 0 lo),Heap.get?_push_size _ rfl⟩
theorem zh4:zik X (.builtin "len") (fun xs H Q=>∃p ys,xs=[.ref p]/\(SqL X.K H p ys\/SqT X.K H p ys)/\Q (.int ys.length) H):=by
 intro pins s σ H xs us Q I r h
 obtain⟨p,ys,rfl,hq,q⟩:=h
 obtain⟨u,rfl,rx⟩:=zlU r
 cases rx
 have hn:=zjB
 rcases hq with hq|hq
 ·obtain⟨its,r',pl,hz⟩:=I.list hq
  have hlen:=r'.length
  exact Calls.call_len_list pl.isList (by simp only[List.size_toArray]<;>lia) ⟨.int ys.length,H,I.tok _,⟨s.toks+1,by rw[List.size_toArray,hlen]⟩,q⟩
 ·obtain⟨its,r',pl,hz⟩:=I.tuple hq
  have hlen:=r'.length
  exact len_tuple pl (by simp only[List.size_toArray]<;>lia) ⟨.int ys.length,H,I.tok _,⟨s.toks+1,by rw[List.size_toArray,hlen]⟩,q⟩
theorem zkL:zik X (.type "list") (fun xs H Q=>∃p ys,xs=[.ref p]/\(SqL X.K H p ys\/SqT X.K H p ys)/\∀l,H l=none->Q (.ref l) (upd H l (.lst ys))):=by
 intro pins s σ H xs us Q I r h
 obtain⟨p,ys,rfl,hq,q⟩:=h
 obtain⟨u,rfl,rx⟩:=zlU r
 cases rx
 have fin:∀(its:List Value),Vals ys its->ys.length<=sizeLine->∀(h':Heap) (c':Nat),(∀b o',s.heap.get? b=some o'->h'.get? b=some o')->
   h'.get? s.heap.objs.size=some {cls:= .type "list",dict:=none,data:= .seq its.toArray c',slots:= #[]}->EP X pins σ Q (.ref s.heap.objs.size) {s with heap:=h'}:=fun its r' hz h' c' kp e=>
  ⟨.ref s.heap.objs.size,_,I.laid (t':=s.toks) kp (Nat.le_refl _) (show ObjOk X.prog X.w _ h' _ (.lst ys)from⟨hz,its,c',r',e⟩),rfl,q _ (I.hok.fresh (Nat.le_refl _))⟩
 rcases hq with hq|hq
 ·obtain⟨its,r',pl,hz⟩:=I.list hq
  have hlen:=r'.length
  obtain⟨o,ho,hc,n,hd⟩:=pl.isList
  exact call_list_seq p (.inl rfl) ho hc hd (fun h' c' kp e=>fin its r' hz h' c' kp e) (by simp only[List.size_toArray]<;>lia)
 ·obtain⟨its,r',pl,hz⟩:=I.tuple hq
  have hlen:=r'.length
  obtain⟨o,ho,hc,n,hd⟩:=pl
  exact call_list_seq p (.inr rfl) ho hc hd (fun h' c' kp e=>fin its r' hz h' c' kp e) (by simp only[List.size_toArray]<;>lia)
theorem zjU:zik X (.type "tuple") (fun xs H Q=>∃p ys,xs=[.ref p]/\((SqL X.K H p ys/\∀l,H l=none->Q (.ref l) (upd H l (.tup ys)))\/(SqT X.K H p ys/\Q (.ref p) H))):=by
 intro pins s σ H xs us Q I r h
 obtain⟨p,ys,rfl,h⟩:=h
 obtain⟨u,rfl,rx⟩:=zlU r
 cases rx
 rcases h with⟨hq,q⟩|⟨hq,q⟩
 ·obtain⟨its,r',pl,hz⟩:=I.list hq
  have hlen:=r'.length
  refine call_tuple_list pl.isList (fun h' kp=>?_) (by simp only[List.size_toArray]<;>lia)
  have I1:Inv X pins σ H {s with heap:=h'}:=I.kept (t':=s.toks) kp
  have I2:Inv X pins σ (upd H h'.objs.size (.tup ys)) {s with heap:=h'.push {cls:= .type "tuple",data:= .seq its.toArray}}:=
   I1.laid (t':=s.toks) (fun b o e=>Heap.get?_push_of_some _ e) (Nat.le_refl _) (show ObjOk X.prog X.w _ _ _ (.tup ys)from⟨hz,its,r',IsTup.new _ _⟩)
  exact⟨.ref h'.objs.size,_,I2,rfl,q _ (I1.hok.fresh (Nat.le_refl _))⟩
 ·obtain⟨its,r',pl,hz⟩:=I.tuple hq
  exact call_tuple_same pl ⟨.ref p,H,I,rfl,q⟩
noncomputable def tyV (K:W.Frag)(T:String)(x:V)(H:Hp):Prop:=match x with
 | .str _=>T="str"
 | .int _=>T="int"
 | .ref p=>(T="list"/\∃xs,SqL K H p xs)\/(T="tuple"/\∃o,K.lookup p=some o/\o.cls= .type "tuple"/\o.dict=none)\/
   (T="dict"/\((∃kvs,H p=some (.dK kvs))\/∃kvs,H p=some (.dT kvs)))\/(T="set"/\∃S n,H p=some (.set S n))
 |_=>False
theorem tyV_is {T:String}{x:V}(I:Inv X pins σ H s)(r:RelV x v)(ty:tyV X.K T x H):
  s.TypeIs v T/\∀a,v= .ref a->∃ob,s.heap.get? a=some ob/\ob.dict=none:=by
 cases x with
 |str z=>
  obtain⟨t,rfl⟩:=r
  cases(show T="str" from ty)
  exact⟨typeIs_str s z t,fun _ e=>nomatch e⟩
 |int i=>
  obtain⟨t,rfl⟩:=r
  cases(show T="int" from ty)
  exact⟨typeIs_int s i t,fun _ e=>nomatch e⟩
 |ref p=>
  cases r
  rcases ty with⟨rfl,xs,hq⟩|⟨rfl,o,hk,hc,hd⟩|⟨rfl,hk⟩|⟨rfl,S,n,hk⟩
  ·obtain⟨its,_,pl,_⟩:=I.list hq
   refine⟨pl.isList.typeIs,fun a e=>?_⟩
   cases e
   obtain⟨o,n,e,c,hd,_⟩:=pl
   exact⟨o,e,hd⟩
  ·refine⟨⟨o,I.kIn p o hk,hc⟩,fun a e=>?_⟩
   cases e
   exact⟨o,I.kIn _ o hk,hd⟩
  ·have z:∃o,s.heap.get? p=some o/\o.ExactDict:=by
    rcases hk with⟨kvs,hk⟩|⟨kvs,hk⟩
    ·obtain⟨_,_,_,_,o,_,_,e,ex,_⟩:=I.hok p _ hk
     exact⟨o,e,ex⟩
    ·obtain⟨_,_,_,_,o,_,_,e,ex,_⟩:=I.hok p _ hk
     exact⟨o,e,ex⟩
   obtain⟨o,e,ex⟩:=z
   refine⟨⟨o,e,ex.1⟩,fun a e2=>?_⟩
   cases e2
   exact⟨o,e,ex.2.1⟩
  ·obtain⟨o,_,_,_,e,ex,_⟩:=I.hok p _ hk
   refine⟨⟨o,e,ex.1⟩,fun a e2=>?_⟩
   cases e2
   exact⟨o,e,ex.2.1⟩
 |_=>exact False.elim ty
noncomputable def tBM (K:W.Frag)(T:String)(r:V->List V->Hp->VK->Prop)(to:TE)(t:TA):TE:=fun σ H Q=>to σ H fun x H1=>tyV K T x H1/\t σ H1 fun xs H2=>r x xs H2 Q
variable {o e:Expr} {es:List Expr} {to:TE} {t:TA} {name:Str} {apos cpos:Pos} {T id:String} {r:V->List V->Hp->VK->Prop}
theorem pe_bm (pa:PlainAttrs T)(slot:Slot T name id)(hty:typeOf (.builtin id)=pure (.type "method_descriptor"))(hm:MtR X id r)(ho:PE X o to)(ha:PA X (e::es) t)
  (hbase:attributeBase o name X.env (eval o X.env)=eval o X.env:=by rfl)
  (hfew : ((backTo cpos (starEach (e :: es) X.env)).all (fun x => !x.1) && (backToKw cpos (keywordEach [] X.env)).all (fun x => x.1.isSome)
   &&decide ((e::es).length+([]:List Keyword).length+(if([]:List Keyword).isEmpty then 0 else 1)<30))=true:=by rfl)
  (hline:(apos.endLine==cpos.line)=true:=by rfl) (hs:starEach (e::es) X.env=(false,eval e X.env)::starEach es X.env:=by rfl) (hplain:(backTo cpos (starEach es X.env)).any (·.1)=false:=by rfl):
  PE X (.Call (.Attribute o name apos) (e::es) [] cpos) (tBM X.K T r to t):=by
 intro pins s σ H Q I h
 refine wpAny_Call_method_late hbase hfew hline rfl (thn (ho pins s σ H _ I h) fun v s1 ⟨x,H1,I1,r1,ty,q1⟩=>?_)
 obtain⟨h1,h2⟩:=tyV_is I1 r1 ty
 refine⟨T,id,pa,slot,hty,h1,h2,?_⟩
 have hA:=ha cpos pins s1 σ H1 _ I1 q1
 rw[hs]at hA ⊢
 refine Calls.callWith_builtin (by show(false||(backTo cpos (starEach es X.env)).any (·.1))=false;rw[hplain]<;>rfl) (Calls.evalArgs_plain ?_)
 exact thn hA fun us s2 ⟨vs,H2,I2,r2,q2⟩=>hm pins s2 σ H2 x vs v us Q I2 r1 r2 q2
end
noncomputable def MtM (X:Cx)(id:String)(r:V->List V->Hp->VK->Prop):Prop:=
 ∀(pins:List (Addr×Obj)) (s:Shared) (σ:St) (H:Hp) (x:V) (xs:List V) (v:Value) (us:List Value) (Q:VK),Inv X pins σ H s->RelV x v->Vals xs us->r x xs H Q->
  wpAny (model X.prog X.w) X.A (call (.builtin id) (v::us)) (EP X pins σ Q) X.xe s
theorem Vals.one:∀{x:V} {us:List Value},Vals [x] us->∃u,us=[u]/\RelV x u
 |_,_,.cons r .nil=>⟨_,rfl,r⟩
theorem Vals.rep (h:Vals xs us):∀k:Nat,Vals (List.replicate k xs).flatten (List.replicate k us).flatten
 |0=> .nil
 |k+1=>by
  rw[List.replicate_succ,List.replicate_succ,List.flatten_cons,List.flatten_cons]
  exact Vals.append h (Vals.rep h k)
theorem ziQ (its:List Value):∀(k:Nat) (acc:List Value),
  List.foldl (fun x1 x2=>x1++x2) acc.toArray (List.replicate k its.toArray)=(acc++(List.replicate k its).flatten).toArray
 |0,acc=>by simp
 |k+1,acc=>by
  have e:acc.toArray++its.toArray=(acc++its).toArray:=by simp
  have e2:(acc++its)++(List.replicate k its).flatten=acc++(List.replicate (k+1) its).flatten:=by
   rw[List.replicate_succ,List.flatten_cons,List.append_assoc]
  rw[<-e2,<-ziQ its k (acc++its),<-e,List.replicate_succ,List.foldl_cons]
section
variable {X:Cx} {pins:List (Addr×Obj)} {σ:St} {H:Hp} {s:Shared} {l b:Addr} {xs ys zs:List V}
theorem Inv.lset {f:Array Value->Array Value}(I:Inv X pins σ H s)(hH:H l=some (.lst xs))
  (e:s.heap.get? l=some {cls:= .type "list",data:= .seq its.toArray n}) (hf:f its.toArray=its'.toArray) (hv:Vals ys its') (hz:ys.length<=sizeLine):
  Inv X pins σ (upd H l (.lst ys)) {s with heap:=s.heap.update l (Obj.mapSeq f),toks:=t'}:=by
 have q:=PySem.IsL.update e f
 rw[hf]at q
 refine I.write (x:=l) (e:=l) (by rw[hH];exact trivial) (.inl rfl) (fun b' u hb hu=>(Heap.get?_update_other s.heap (Obj.mapSeq f) (Ne.symm hb)).trans hu) ⟨_,q⟩ ?_
 exact⟨hz,its',_,hv,q⟩
theorem Inv.lnew (I:Inv X pins σ H s)(hv:Vals ys its)(hz:ys.length<=sizeLine):
  Inv X pins σ (upd H s.heap.objs.size (.lst ys)) {s with heap:=s.heap.push {cls:= .type "list",data:= .seq its.toArray},toks:=t'}:=
 I.laid (fun _ _ q=>Heap.get?_push_of_some _ q) (Nat.le_refl _) ⟨hz,its,0,hv,Heap.get?_push_size _ rfl⟩
theorem Inv.fresh (I:Inv X pins σ H s):H s.heap.objs.size=none:=I.hok.fresh (Nat.le_refl _)
theorem Inv.lstM (I:Inv X pins σ H s)(hH:H l=some (.lst xs)):xs.length<=sizeLine/\∃(its:List Value) (n:Nat),Vals xs its/\xs.length=its.length/\s.heap.get? l=some {cls:= .type "list",data:= .seq its.toArray n}:=by
 obtain⟨z,its,n,r,e⟩:=I.hok l _ hH
 exact⟨z,its,n,r,r.length,e⟩
theorem notLongL (h:n<=sizeLine):Builtin.List.listTooLong n=false:=by
 unfold Builtin.List.listTooLong
 exact decide_eq_false (by lia)
end
section
variable {X:Cx}
noncomputable def rAppend:V->List V->Hp->VK->Prop:=fun x vs H Q=>∃l xs y,x= .ref l/\vs=[y]/\H l=some (.lst xs)/\xs.length<sizeLine/\Q .non (upd H l (.lst (xs++[y])))
theorem zku:MtM X "list.append" rAppend:=by
 intro pins s σ H x vs v us Q I rx rv h
 obtain⟨l,xs,y,rfl,rfl,hH,hz,q⟩:=h
 cases rx
 obtain⟨u,rfl,ru⟩:=rv.one
 obtain⟨z,its,n,r,hl,e⟩:=I.lstM hH
 refine call_meets F.slot_list_append ⟨_,e,rfl⟩ F.entry_list_append (F.args_list_append_2 _ _) (PySem.list_append l its.toArray n u (by rw[List.size_toArray];lia)) ⟨e,?_⟩
 refine⟨.non,_,I.lset (its':=its++[u]) hH e (by simp) (r.append (.cons ru .nil)) ?_,rfl,q⟩
 rw[List.length_append,List.length_singleton]
 lia
noncomputable def rCat:R2:=fun x y H Q=>∃l b xs zs,x= .ref l/\y= .ref b/\H l=some (.lst xs)/\H b=some (.lst zs)/\xs.length+zs.length<=sizeLine/\∀p,H p=none->Q (.ref p) (upd H p (.lst (xs++zs)))
theorem op_cat:OpR X (binaryOp .Add) rCat:=by
 intro pins s σ H x y v u Q I rx ry h
 obtain⟨l,b,xs,zs,rfl,rfl,hH,hB,hz,q⟩:=h
 cases rx
 cases ry
 obtain⟨z,its,n,r,hl,e⟩:=I.lstM hH
 obtain⟨z2,its2,n2,r2,hl2,e2⟩:=I.lstM hB
 refine PySem.P.add_list e e2 ?_ (by rw[List.size_toArray,List.size_toArray];lia)
 have ea:its.toArray++its2.toArray=(its++its2).toArray:=by simp
 rw[ea]
 exact⟨.ref _,_,I.lnew (t':=s.toks) (r.append r2) (by rw[List.length_append];lia),rfl,q _ I.fresh⟩
noncomputable def rRep:R2:=fun x y H Q=>∃l k xs,x= .ref l/\y= .int k/\H l=some (.lst xs)/\ -(2^63)<=k/\k<2^63/\xs.length*k.toNat<=sizeLine/\
 ∀p,H p=none->Q (.ref p) (upd H p (.lst (List.replicate k.toNat xs).flatten))
theorem zl6 {α:Type}(xs:List α)(k:Nat):(List.replicate k xs).flatten.length=k*xs.length:=by
 induction k with
 |zero=>simp
 |succ k ih=>rw[List.replicate_succ,List.flatten_cons,List.length_append,ih,Nat.succ_mul,Nat.add_comm]
theorem op_rep:OpR X (binaryOp .Mult) rRep:=by
 intro pins s σ H x y v u Q I rx ry h
 obtain⟨l,k,xs,rfl,rfl,hH,h1,h2,hz,q⟩:=h
 cases rx
 obtain⟨t,rfl⟩:=ry
 obtain⟨z,its,n,r,hl,e⟩:=I.lstM hH
 have hlen:its.toArray.size*k.toNat<=sizeLine:=by rw[List.size_toArray,<-hl];exact hz
 have hcap:¬its.toArray.size*k.toNat>(2^63-1)/8:=by
  have:(sizeLine:Nat)<=(2^63-1)/8:=by decide
  lia
 have hfit:¬(!Builtin.List.listFitsIndex k)=true:=by
  rw[fitsIndex_both h1 h2]
  exact Bool.false_ne_true
 have hlong:¬Builtin.List.listTooLong (its.toArray.size*k.toNat)=true:=by
  rw[notLongL hlen]
  exact Bool.false_ne_true
 have hnew:List.foldl (fun x1 x2=>x1++x2) #[] (List.replicate (if its.toArray.isEmpty=true then 0 else k.toNat) its.toArray)=(List.replicate k.toNat its).flatten.toArray:=by
  have f0:∀m:Nat,List.foldl (fun x1 x2=>x1++x2) #[] (List.replicate m its.toArray)=(List.replicate m its).flatten.toArray:=fun m=>by
   have:=ziQ its m []
   rw[List.nil_append]at this
   exact this
  rw[f0]
  cases its with
  |nil=>simp
  |cons a r'=>rw[if_neg (by simp)]
 refine wpAny_binaryOp_repeat_ref (T:="list") (U:="int") (by decide) ⟨_,e,rfl⟩ (fun s'=>typeIs_int s' k t) noFill_list_mul F.fills_int_mul F.slot_int_rmul repeat_list F.slot_int_index.lookup
  (call_meets F.slot_int_rmul (typeIs_int s k t) F.entry_int_rmul (F.args_int_rmul_2 _ _) (int___rmul___int_list k t l its.toArray n)
   ⟨e,rfl,⟨_,e,rfl⟩,call_meets F.slot_list_mul ⟨_,e,rfl⟩ F.entry_list_mul (F.args_list_mul_2 _ _) (AutoListH.list___mul___list_int_3 l its.toArray n k t hfit hcap hlong) ⟨e,?_⟩⟩)
 rw[hnew]
 exact⟨.ref _,_,I.lnew (t':=s.toks) (r.rep k.toNat) (by rw[zl6,Nat.mul_comm];exact hz),rfl,q _ I.fresh⟩
end
end L2
namespace Att
open PyProof.Rows PySem PySem.Calls PySem.W
theorem zi6 {P:Params}{h:Heap}:∀(ns:List Int) (vs:List Value),WellAll P h vs (ns.map WData.int)->IntsAre vs ns:=by
 intro ns
 induction ns with
 |nil=>
  intro vs w
  rw[List.map_nil]at w
  cases w
  exact .nil
 |cons n ns ih=>
  intro vs w
  rw[List.map_cons]at w
  cases w with
  |cons a b=>
   cases a
   exact .cons _ _ (ih _ b)
theorem zoY {l:OpenLaw}{n:Nat}(hn:l.most=some n){P:Params}{h:Heap}{args:List WData}{vals:List Value}
  (hpre:l.row.toRowW.claim.pre args=true) (hwl:WellAll P h vals args):
  ∃a vs ns,vals=[Value.ref a]/\args=[WData.list (ns.map WData.int)]/\h.get? a=some {cls:= .type "list",data:= .seq vs.toArray}/\IntsAre vs ns/\ns.length<=n:=by
 have hsh:WShape.hasAll [] args [.list .int]=true:=(pre_splitW hpre).1
 have hc:l.pre.holds [] {args:=args}=true:=(pre_splitW hpre).2
 obtain⟨d,r,rfl,h1,h2⟩:=hasAllW_cons hsh
 obtain rfl:=hasAllW_nil h2
 obtain⟨xs,rfl,h3⟩:=hasW_list h1
 obtain⟨ns,rfl⟩:=items_int h3
 have hlen:ns.length<=n:=by
  unfold OpenLaw.pre at hc
  have h4:(WTm.not (.lt (.lit (.int (n:Int))) (.len (.arg 0)))).holds [] {args:=[.list (ns.map .int)]}=true:=by
   have h4:=(holds_andW hc).1
   rw[hn]at h4
   exact h4
  have h5:=condW_of h4 (w_not (w_lt w_lit (w_len_list (w_arg rfl))))
  rw[List.length_map]at h5
  refine Nat.le_of_not_lt fun q=>?_
  have q':(n:Int)<((ns.length:Nat):Int):=by lia
  first
   |(rw[decide_eq_true q']at h5;exact absurd h5 (by decide))
   |(simp at h5;lia)
 cases hwl with
 |cons w1 w2=>
  cases w2
  cases w1 with
  |list ho hall=>exact⟨_,_,ns,rfl,rfl,ho,zi6 ns _ hall,hlen⟩
theorem zpa (l:OpenLaw)(args:List WData):l.row.toRowW.claim.post args (.bool true) args=true:=
 postW_of (r:=l.row.toRowW) (X:=(true==true))
  (show WShape.has [] (.bool true) .bool=true by first|rfl|decide|simp[WShape.has,WShape.arms,WShape.armsAll])
  (show(WTm.eq .res (.lit (.bool true))).value [] {args:=args,res:=some (.bool true),after:=args}=some (.bool (true==true))from w_eq_bool (w_res rfl) w_lit) rfl
theorem attach_call {l:OpenLaw}{n:Nat}{q:Program}{loose:List Str}{XP:(Str->Option Value)->Heap->Prop}{YP:World->Heap->Prop}{d:DefRec}
  (hn:l.most=some n) (hdf:d.params.defaults=[])
  (call : ∀ (w : World) (s₀ s₁ : Shared) (mg mb : Str -> Option Value) (fa : Addr) (o : Obj) (pm cd doc : Value) (a : Addr) (vs : List Value) (ns : List Int),
   Ground q loose [] XP w s₀ mg mb s₁.heap->YP w s₁.heap->
   s₁.heap.get? fa=some o->o.data= .func (docDef d.name d.params d.body d.scope pm cd doc)->s₁.heap.CodeRec cd d.name->mg d.name=some (.ref fa)->
   s₁.heap.get? a=some {cls:= .type "list",data:= .seq vs.toArray}->IntsAre vs ns->ns.length<=n->s₁.gens= #[]->
   codeAny (model l.prog w) callerA (.call (.ref fa) ⟨[.ref a],[]⟩) (fun r s'=>r= .ok (.ret (.bool true))/\OldK s₁.heap s'.heap/\s'.os=s₁.os/\AllBare s'.gens) s₁):
  WalkO q loose XP YP l.row.toRowW d [] (fun f vs=>PySem.call f vs):=by
 intro w s₀ s₁ mg mb G Y fa o pm cd doc dV kV ho hd hcd hD hmg hg args vals as hpre hlay hrd hwl hlo
 obtain rfl:dV= .none:=Dflts.none hD hdf
 obtain rfl:kV= .none:=Dflts.noKw hD
 obtain⟨a,vs,ns,rfl,rfl,hobj,hints,hlen⟩:=zoY hn hpre hwl
 refine enter_call (codeAny_mono (call w s₀ s₁ mg mb fa o pm cd doc a vs ns G Y ho (fd_plain hd) hcd hmg hobj hints hlen hg) fun r s' hq=>?_)
 obtain⟨rfl,h2,h3,h4⟩:=hq
 exact⟨.inl ⟨.bool true,.bool true,[],rfl,fun _=>rfl,.bool true,zpa l _,fun _=>⟨List.Pairwise.nil,fun _ hm=>(nomatch hm)⟩⟩,h2,h3,h4⟩
end Att
namespace L2
open PyProof.Rows PySem PySem.Spec
variable {w:World} {K:W.Frag} {mg mb:Str->Option Value} {CX:World->CXT} {k:Nat} {a b:Addr} {fd:FuncData} {x qual:Str} {sp:Sp} {vs:List Value} {ns:List Int} {l:W.OpenLaw} {q prog:Program} {loose ps:List Str} {XP:(Str->Option Value)->Heap->Prop} {YP:World->Heap->Prop} {d:DefRec} {X:Cx} {oc u:Value} {osl:Array (Option Value)} {H:Hp} {xs:List (List Key×Addr×Value)} {o:Option V} {kvs:List (List Key×V)} {y:V} {ks:List (Option Expr)} {h':Heap} {A:Around} {E Q:Value->Shared->Prop} {s:Shared} {pos:Pos} {trs:List (TE×TE)}
theorem zko:∀{vs:List Value} {ns:List Int},IntsAre vs ns->Vals (ns.map V.int) vs
 |_,_,.nil=> .nil
 |_,_,.cons n t h=> .cons ⟨t,rfl⟩ (zko h)
noncomputable def Only (H:Hp):Prop:=∀b,H b=none\/∃o xs,H b=some (.frz o (.lst xs))
theorem law_call {P:Program}{CX:CXT}{fa a:Addr}{s₁:Shared}
  (KX:K.In s₁.heap) (hns:s₁.heap.Ns mainGlobals mg) (hb:s₁.heap.Ns builtinsNs mb) (hbb:∀x:Str,x≠"__name__"->mb x=bootBuiltins x) (hlim:s₁.heap.NoLimit) (hg:s₁.gens= #[])
  (ha:s₁.heap.get? a=some {cls:= .type "list",data:= .seq vs.toArray}) (hi:IntsAre vs ns) (hl:ns.length<=sizeLine) (hr:Room k callerA)
  (F:∀base:Heap,K.In base->base.Ns mainGlobals mg->FnOk P w K mg base CX k fa fd [x] sp) (hbind:∀(s:Shared) (u:Value),BindsTo s fd ⟨[u],[]⟩ [(x,u)])
  (hsp:∀H:Hp,Only H->SqL K H a (ns.map V.int)->sp [.ref a] H (fun v _=>v= .bl true) fun _ _ _=>False)
  (hCX:∀H e s',CX [] H s₁ (fun _ _ _=>False) e s'->False):
  codeAny (model P w) callerA (.call (.ref fa) ⟨[.ref a],[]⟩) (fun r s'=>r= .ok (.ret (.bool true))/\OldK s₁.heap s'.heap/\s'.os=s₁.os/\AllBare s'.gens) s₁:=by
 have rv:=zko hi
 have lenV:=hi.length
 have core:∀H:Hp,Only H->SqL K H a (ns.map V.int)->HOk P w H s₁.heap->(∀b,H b≠none->b=a)->(H a≠none->K.lookup a=none)->
   codeAny (model P w) callerA (.call (.ref fa) ⟨[.ref a],[]⟩) (fun r s'=>r= .ok (.ret (.bool true))/\OldK s₁.heap s'.heap/\s'.os=s₁.os/\AllBare s'.gens) s₁:=by
  intro H hO hS hok hA hK
  have base_of:∀{b:Addr} {o:Obj},s₁.heap.get? b=some o->H b=none->(hidT s₁.heap H).get? b=some o:=fun e n=>hidT_get e n
  have noA:∀{b:Addr} {o:Obj} {es:Array DictEntry} {ep:Nat},s₁.heap.get? b=some o->o.data= .dict es ep->H b=none:=fun{b o es ep} e d=>by
   cases q:H b with
   |none=>rfl
   |some u=>
    have e':b=a:=hA b (by rw[q];simp)
    subst e'
    rw[ha]at e;cases e
    have d':Data.seq vs.toArray _=Data.dict es ep:=d
    cases d'
  have nsK:∀{b:Addr} {m:Str->Option Value},s₁.heap.Ns b m->(hidT s₁.heap H).Ns b m:=fun{b m} ⟨o,es,ep,e,d,r⟩=>⟨o,es,ep,base_of e (noA e d),d,r⟩
  have hKb:K.In (hidT s₁.heap H):=fun b o e=>base_of (KX b o e) (by
   cases q:H b with
   |none=>rfl
   |some u=>
    have e':b=a:=hA b (by rw[q];simp)
    subst e'
    rw[hK (by rw[q];simp)]at e;cases e)
  have hM:Mod K mg (hidT s₁.heap H):=⟨hKb,nsK hns,⟨mb,nsK hb,hbb⟩,let⟨mc,h1,h2⟩:=hlim;⟨mc,nsK h1,h2⟩⟩
  have e0:Env0 P w K mg (hidT s₁.heap H) callerA [] s₁ H:=⟨rfl,hM,fun b o e=>of_hidT e,Nat.le_of_eq (zoM _ _),trivial,fun b hb=>absurd (show b∈([]:List Addr)from hb) (by simp),hok,.of_eq hg⟩
  refine codeAny_mono ((F _ hKb (nsK hns)).run callerA [] s₁ H ⟨[.ref a],[]⟩ [.ref a] [.ref a] _ _ hr e0 (hbind s₁ (.ref a)) (.cons rfl .nil) (hsp H hO hS)) fun r s' h=>?_
  cases r with
  |error e=>exact(hCX H e s' h).elim
  |ok fl=>
   cases fl with
   |next=>exact False.elim h
   |brk=>exact False.elim h
   |cont=>exact False.elim h
   |ret u=>
    obtain⟨v,H',os,bare,un,hok',r',q⟩:=h
    have q':v= .bl true:=q
    subst q'
    obtain rfl:u=Value.bool true:=r'
    refine⟨rfl,OldK.of_keep fun b o e=>?_,os,bare⟩
    cases q:H b with
    |none=>exact un.keep b o e q (by intro z;exact absurd (show b∈([]:List Addr)from z) (by simp)) (by simp)
    |some u=>
     rcases hO b with z|⟨ob,xs,z⟩
     ·rw[q]at z;cases z
     ·have z2:=un.frzs b ob _ z
      obtain⟨e1,_⟩:=hok b _ z
      obtain⟨e2,_⟩:=hok' b _ z2
      rw[e]at e1;cases e1
      exact e2
 cases hk:K.lookup a with
 |some o=>
  have e:=KX a o hk
  rw[ha]at e
  cases e
  refine core (fun _=>none) (fun _=> .inl rfl) (.inr ⟨_,vs.toArray,_,hk,rfl,rfl,rfl,by rw[List.size_toArray,lenV];exact hl,by simpa using rv⟩) (fun b u z=>by have z':(none:Option HO)=some u:=z;cases z') (fun b z=>absurd rfl z) fun z=>absurd rfl z
 |none=>
  refine core (fun b=>if b=a then some (.frz {cls:= .type "list",data:= .seq vs.toArray} (.lst (ns.map V.int)))else none) (fun b=>?_) (.inl (.inr ⟨{cls:= .type "list",data:= .seq vs.toArray},if_pos rfl⟩)) (fun b u z=>?_) (fun b z=>?_) fun _=>hk
  ·by_cases hb:b=a
   ·exact .inr ⟨_,_,if_pos hb⟩
   ·exact .inl (if_neg hb)
  ·by_cases hb:b=a
   ·have z':=(if_pos hb).symm.trans z
    cases z'
    subst hb
    exact⟨ha,by rw[List.length_map];exact hl,vs,_,rv,ha⟩
   ·have z':=(if_neg hb).symm.trans z
    cases z'
  ·by_cases hb:b=a
   ·exact hb
   ·exact absurd (if_neg hb) z
theorem walk_of {n k:Nat}{K:Params->W.Frag}{sp:World->Sp}
  (hn:l.most=some n) (hn2:n<=sizeLine) (hdf:d.params.defaults=[]) (hr:Room k callerA)
  (hY:∀(w:World) (h:Heap),YP w h->(K w.params).In h)
  (F : ∀ (w : World) (mg : Str -> Option Value) (fa : Addr) (h : Heap), (K w.params).In h -> h.Ns mainGlobals mg -> mg d.name = some (.ref fa) ->
   ∃fd:FuncData,(∀(s:Shared) (u:Value),BindsTo s fd ⟨[u],[]⟩ [(x,u)])/\
    ∀base:Heap,(K w.params).In base->base.Ns mainGlobals mg->FnOk l.prog w (K w.params) mg base (CX w) k fa fd [x] (sp w))
  (hsp:∀(w:World) (H:Hp) (a:Addr) (ns:List Int),ns.length<=n->Only H->SqL (K w.params) H a (ns.map V.int)->sp w [.ref a] H (fun v _=>v= .bl true) fun _ _ _=>False)
  (hCX:∀(w:World) (H:Hp) (s:Shared) (e:Value) (s':Shared),CX w [] H s (fun _ _ _=>False) e s'->False):
  W.WalkO q loose XP YP l.row.toRowW d [] (fun f vs=>PySem.call f vs):=by
 refine Att.attach_call hn hdf fun w s₀ s₁ mg mb fa o pm cd doc a vs ns G Y ho hd hcd hmg hobj hints hlen hg=>?_
 have KX:=hY w _ Y
 obtain⟨fd,hb,hF⟩:=F w mg fa _ KX G.T.g hmg
 exact law_call KX G.T.g G.T.b G.T.builtins G.T.nolimit hg hobj hints (Nat.le_trans hlen hn2) hr hF hb (fun H hO hS=>hsp w H a ns hlen hO hS) fun H e s'=>hCX w H s₁ e s'
noncomputable def zfZ (s:Stmt):Arguments:=match s with
 | .FunctionDef _ a _ _ _ _ _ _ _ _=>a
 |_=>{posonlyargs:=[],args:=[],vararg:=none,kwonlyargs:=[],kw_defaults:=[],kwarg:=none,defaults:=[]}
noncomputable def zcY (s:Stmt):List Stmt:=match s with
 | .FunctionDef _ _ b _ _ _ _ _ _ _=>b
 |_=>[]
noncomputable def zaP (s:Stmt):Scope:=match s with
 | .FunctionDef _ _ _ _ _ _ sc _ _ _=>sc
 |_=>{kind:= .function,names:=[],isGenerator:=false,isCoroutine:=false}
noncomputable abbrev CX0:CXT:=fun _ _ _ _ _ _=>False
noncomputable abbrev E0:XK:=fun _ _ _=>False
theorem pass0:zoJ CX0 X E0:=fun _ _ _ _ _ _ _ h=>h.elim
structure Fun (K:W.Frag) (x qual:Str) (st:Stmt) (f:Addr) (fd:FuncData):Prop where
 ex:∃(oc:Value) (od:Option Addr) (kV doc pm:Value) (an:Option Addr) (cdv ct:Value) (osl:Array (Option Value)),
  fd=W.fnOf x qual (zfZ st) (zcY st) (zaP st) .none kV doc pm an cdv ct/\K.lookup f=some ⟨oc,od,.func fd,osl⟩/\W.codeIn K cdv qual=true
 kp:W.keepIn K (.ref f)=true
section
variable {P:Program} {w:World} {K:W.Frag} {mg:Str->Option Value} {base:Heap}
theorem Fun.ok {st:Stmt}{f:Addr}{N ps:List Str}(F:Fun K x qual st f fd)(S:FnScope N ps (zaP st))(len:∀vs H Q E,sp vs H Q E->vs.length=ps.length)
  (hbody : ∀ (cdv : Value) (A : Around) (outer : List Env) (s : Shared) (H : Hp) (vs : List V) (Q : VK) (E : XK), Room k (A.deeper (envOfC qual (zaP st) s.heap.objs.size f cdv)) -> sp vs H Q E ->
   ∃t,PSs (cxOf CX0 P w K mg base N qual (zaP st) f cdv A outer s H E).nox (zcY st) t/\t {nx:=fun _ H'=>Q .non H',rt:=Q} (start N vs) H):FnOk P w K mg base CX0 (k+1) f fd ps sp:=by
 obtain⟨oc,od,kV,doc,pm,an,cdv,ct,osl,rfl,lk,hcd⟩:=F.ex
 refine fn_of lk hcd S len fun A outer s H vs Q E hr hsp=>?_
 obtain⟨t,h,q⟩:=hbody cdv A outer s H vs Q E hr hsp
 exact⟨t,h.nox,q⟩
theorem Fun.binds {st:Stmt}{f:Addr}(F:Fun K x qual st f fd)
  (h:∀(kV doc pm:Value) (an:Option Addr) (cdv ct:Value) (us:List Value),us.length=ps.length->bindArgs (W.fnOf x qual (zfZ st) (zcY st) (zaP st) .none kV doc pm an cdv ct) ⟨us,[]⟩=pure (ps.zip us)):Binds K fd ps []:=by
 obtain⟨oc,od,kV,doc,pm,an,cdv,ct,osl,rfl,lk,hcd⟩:=F.ex
 exact .all (h kV doc pm an cdv ct)
theorem fun_mk {st:Stmt}{f:Addr}{od an:Option Addr}{kV doc pm cdv ct:Value}(l:K.lookup f=some ⟨oc,od,.func (W.fnOf x qual (zfZ st) (zcY st) (zaP st) .none kV doc pm an cdv ct),osl⟩)
  (c:W.codeIn K cdv qual=true) (k:W.keepIn K (.ref f)=true):Fun K x qual st f (W.fnOf x qual (zfZ st) (zcY st) (zaP st) .none kV doc pm an cdv ct):=⟨⟨oc,od,kV,doc,pm,an,cdv,ct,osl,rfl,l,c⟩,k⟩
end
noncomputable def Same (H H':Hp):Prop:=∀b o,H b=some o->H' b=some o
theorem Same.seq {H H':Hp}{xs:List V}(e:Same H H')(h:SqL K H a xs):SqL K H' a xs:=by
 rcases h with(h|⟨o,h⟩)|h
 ·exact .inl (.inl (e _ _ h))
 ·exact .inl (.inr ⟨o,e _ _ h⟩)
 ·exact .inr h
section
variable {κ:Type} [DecidableEq κ]
noncomputable def valV (kvs:List (κ×V))(k:κ):Option V:=(kvs.find? fun kv=>decide (kv.1=k)).map (·.2)
noncomputable def putK (kvs:List (κ×V))(k:κ)(v:V):List (κ×V):=
 if(kvs.any fun kv=>decide (kv.1=k))=true then kvs.map (fun kv=>if kv.1=k then(kv.1,v)else kv)else kvs++[(k,v)]
theorem zkb {p:κ×V}{r:List (κ×V)}{k:κ}(e:p.1=k):valV (p::r) k=some p.2:=by simp[valV,List.find?_cons,e]
theorem zio {p:κ×V}{r:List (κ×V)}{k:κ}(e:¬p.1=k):valV (p::r) k=valV r k:=by simp[valV,List.find?_cons,e]
theorem zmi (k:κ):∀kvs:List (κ×V),(kvs.any fun kv=>decide (kv.1=k))=(valV kvs k).isSome
 |[]=>rfl
 |p::r=>by
  rw[List.any_cons]
  by_cases e:p.1=k
  ·simp only[zkb e,decide_eq_true e,Bool.true_or,Option.isSome_some]
  ·rw[zio e,decide_eq_false e,Bool.false_or];exact zmi k r
theorem zlg (kvs:List (κ×V))(k:κ)(v:V):(putK kvs k v).length<=kvs.length+1:=by
 unfold putK
 split
 ·rw[List.length_map];lia
 ·rw[List.length_append,List.length_cons,List.length_nil];lia
theorem RelO.isSome_eq {u:Option Value}(r:RelO o u):o.isSome=u.isSome:=by
 cases o with
 |none=>cases u with
  |none=>rfl
  |some _=>exact(show False from r).elim
 |some _=>cases u with
  |none=>exact(show False from r).elim
  |some _=>rfl
end
theorem kV_is {P:Program}{k:Key}(r:RelV (kV k) u):(zcg P w).is k u=true:=by
 cases k with
 |inl i=>obtain⟨t,e⟩:=(show ∃t,u=Value.int i t from r);subst e;exact zl1 P w i t
 |inr x=>obtain⟨t,e⟩:=(show ∃t,u=Value.str x t from r);subst e;exact zlI P w x t
theorem zkK {P:Program}:∀{ks:List Key} {us:List Value},Vals (ks.map kV) us->ItemsAre (zcg P w) ks us
 |[],_,r=>by rw[List.map_nil]at r;cases r;exact .nil
 |k::ks,_,r=>by
  rw[List.map_cons]at r
  cases r with
  |cons h t=>exact .cons (kV_is h) (zkK t)
noncomputable abbrev KT (H:Hp):List (List Key×V)->List (List Key×Addr×Value)->Prop:=Paired fun p q=>p.1=q.1/\H q.2.1=some (.tup (p.1.map kV))/\RelV p.2 q.2.2
theorem KT.val (r:KT H kvs xs)(k:List Key):RelO (valV kvs k) ((atKey xs k).map (·.2)):=by
 induction r with
 |nil=>exact True.intro
 | @cons p q ps qs h t ih=>
  obtain⟨h1,_,h2⟩:=h
  by_cases e:p.1=k
  ·have e':q.1=k:=h1.symm.trans e
   have b:atKey (q::qs) k=some q.2:=by simp[atKey,List.find?_cons,e']
   rw[zkb e,b];exact h2
  ·have e':¬q.1=k:=fun z=>e (h1.trans z)
   have b:atKey (q::qs) k=atKey qs k:=by simp[atKey,List.find?_cons,e']
   rw[zio e,b];exact ih
theorem KT.repl (r:KT H kvs xs)(k:List Key)(ry:RelV y u):
  KT H (kvs.map fun kv=>if kv.1=k then(kv.1,y)else kv) (xs.map (putAt k u)):=by
 induction r with
 |nil=>exact .nil
 | @cons p q ps qs h t ih=>
  rw[List.map_cons,List.map_cons]
  refine .cons ?_ ih
  obtain⟨h1,h2,h3⟩:=h
  unfold putAt
  by_cases e:p.1=k
  ·rw[if_pos e,if_pos (h1.symm.trans e)];exact⟨h1,h2,ry⟩
  ·rw[if_neg e,if_neg (fun z=>e (h1.trans z))];exact⟨h1,h2,h3⟩
theorem KT.put (r:KT H kvs xs)(k:List Key)(hb:H b=some (.tup (k.map kV)))(ry:RelV y u):
  KT H (putK kvs k y) (storedH xs k b u):=by
 have e:(kvs.any fun kv=>decide (kv.1=k))=(atKey xs k).isSome:=by
  rw[zmi,(r.val k).isSome_eq,Option.isSome_map]
 unfold putK storedH
 rw[e]
 by_cases q:(atKey xs k).isSome=true
 ·rw[if_pos q,if_pos q];exact r.repl k ry
 ·rw[if_neg q,if_neg q];exact Paired.snoc r ⟨rfl,hb,ry⟩
section
variable {P:Program} {w:World} {H:Hp} {h:Heap} {a:Addr}
theorem zkY {ks:List Key}(ok:HOk P w H h)(e:H a=some (.tup (ks.map kV))):(tupleKind (zcg P w)).is h ks a:=by
 obtain⟨_,its,r,o,h1,h2,n,h3⟩:=(show ObjOk P w H h a (.tup (ks.map kV))from ok a _ e)
 exact⟨o,its.toArray,n,h1,h2,h3,by simpa using zkK r⟩
end
section
variable {X:Cx} {pins:List (Addr×Obj)} {σ:St} {H:Hp} {s:Shared} {a:Addr} {y v:V} {u r:Value} {o:Option V} {A:Around} {E:Value->Shared->Prop}
theorem Inv.big (I:Inv X pins σ H s):sysModules<s.heap.objs.size:=by
 have h:mainGlobals<s.heap.objs.size:=(I.mod.glob.keeps I.bk).lt
 exact Nat.lt_trans (by decide) h
theorem zoB {t':Nat}{ob:HO}(I:Inv X pins σ H s)(mu:Mut (H a))(hs:Heap.SameBut a s.heap h')(he:∃q,h'.get? a=some q)(new:ObjOk X.prog X.w (upd H a ob) h' a ob):
  Inv X pins σ (upd H a ob) {s with heap:=h',toks:=t'}:=
 I.write (x:=a) (e:=a) mu (.inl rfl) (fun b q hb z=>(hs.2 b hb).trans z) he new
end
noncomputable def NoSl (i:Expr):Prop:=∀ov iv,subscripted i false ov iv=operate [ov,iv] (getItem ov iv)
theorem subD_of {env:Env}{value slice:Expr}{T id:String}
  (hl:typeLookup (.type T) "__getitem__"=pure (some (.builtin id))) (hs:NoSl slice)
  (h:wpAny (model prog w) A (eval value env) (fun o s₁=>wpAny (model prog w) A (eval slice env) (fun i s₂=>s₂.TypeIs o T/\wpAny (model prog w) A (getItem o i) Q E s₂) E s₁) E s):
  wpAny (model prog w) A (eval (.Subscript value slice pos) env) Q E s:=by
 refine Subscript_ (wpAny_mono h (fun o s₁ h₁=>wpAny_mono h₁ (fun i s₂ h₂=>?_) fun _ _ x=>x) fun _ _ x=>x)
 obtain⟨hT,h₂⟩:=h₂
 unfold subscriptTail
 refine wpAny_bind ?_
 rw[getitemInPython_of_ne hT.not_modules]
 refine wpAny_bind (wpAny_specialOf hT hl ?_)
 have fin:wpAny (model prog w) A (subscripted slice false o i) (fun r s₃=>wpAny (model prog w) A (letTemporaryGo value o r>>=fun _=>pure r) Q E s₃) E s₂:=by
  rw[hs o i]
  exact wpAny_operating (wpAny_mono h₂ (fun r s₃ h₃=>wpAny_bind (wpAny_letTemporaryGo (wpAny_pure h₃))) fun _ _ x=>x)
 first
  |exact wpAny_pure (wpAny_bind fin)
  |exact wpAny_bind (wpAny_pure (wpAny_bind fin))
  |exact wpAny_bind fin
noncomputable def zo9:List (TE×TE)->St->Hp->(List (V×V)->Hp->Prop)->Prop
 |[],_,H,Q=>Q [] H
 |(tk,tv)::r,σ,H,Q=>tk σ H fun x H1=>tv σ H1 fun y H2=>zo9 r σ H2 fun ps H3=>Q ((x,y)::ps) H3
noncomputable abbrev VV:List (V×V)->List (Value×Value)->Prop:=Paired fun p q=>RelV p.1 q.1/\RelV p.2 q.2
noncomputable def PPs (X:Cx)(pos:Pos)(keys:List (Option Expr))(values:List Expr)(trs:List (TE×TE)):Prop:=
 ∀(pins:List (Addr×Obj)) (s:Shared) (σ:St) (H:Hp) (Q:List (V×V)->Hp->Prop),Inv X pins σ H s->zo9 trs σ H Q->
  wpAny (model X.prog X.w) X.A (evalPairs (pairTrees keys values X.env pos)) (fun vs s'=>∃ps H',Inv X pins σ H' s'/\VV ps vs/\Q ps H') X.xe s
theorem pps_nil:PPs X pos [] [] []:=fun pins s σ H Q I h=>pairTrees_nil_walk ⟨[],H,I,.nil,h⟩
theorem pps_cons {k v:Expr}{vs:List Expr}{tk tv:TE}(hk:PE X k tk)(hv:PE X v tv)(hr:PPs X pos ks vs trs):
  PPs X pos (some k::ks) (v::vs) ((tk,tv)::trs):=fun pins s σ H Q I h=>
 pairTrees_cons_walk (thn (hk pins s σ H _ I h) fun u s1 ⟨x,H1,I1,rx,q1⟩=>thn (hv pins s1 σ H1 _ I1 q1) fun w2 s2 ⟨y,H2,I2,ry,q2⟩=>
  thn (hr pins s2 σ H2 _ I2 q2) fun ws s3 ⟨ps,H3,I3,rel,q3⟩=>⟨(x,y)::ps,H3,I3,.cons ⟨rx,ry⟩ rel,q3⟩)
end L2
namespace M
open L2 PySem
variable {G G' H:Hp} {a p l:Addr} {o:Obj} {xs ys:List V} {ks:List (List Int)} {A A':List Addr} {K:W.Frag} {x v:V} {d:D} {ds es:List D} {i:Nat} {c:Ch} {t:T} {ov:Option (Option V)} {s:Sl} {ρ ρ':R} {e:Expr} {b:Bool} {ma:ME} {op:Operator} {r:V->Hp->VK->Prop} {g:D->Option D}
inductive D where
 |non|bl (b:Bool)|int (i:Int)|str (x:Str)|lst (ds:List D)|tup (ds:List D)|scr (ns:List Int)|exc (c:Str)|dic (ks:List Int) (ds:List D)|dit (ks:List (List Int)) (ds:List D)
noncomputable def ExcIs (a C:Addr)(h:Heap):Prop:=∃o,h.get? a=some o/\o.cls= .ref C
noncomputable def kI (n:Int):Key:=Sum.inl n
noncomputable def kn (a:Addr)(o:Obj):HO:= .ext (fun h=>h.get? a=some o)
noncomputable def hI:Key->Int
 | .inl k=>hashInt k
 | .inr _=>0
noncomputable def DtN (o:Obj)(xs:List (List Key×Addr×Value)):Prop:=o.ExactDict/\(∃es ep,o.data= .dict es ep/\es.toList=xs.map fun x=>⟨reduceHash (Builtin.Tuple.tupleHashOf (x.1.map hI)),.ref x.2.1,x.2.2⟩)/\(xs.map (·.1)).Nodup
structure DtI (G:Hp) (a:Addr) (o:Obj) (xs:List (List Key×Addr×Value)) (ks:List (List Int)) (ys:List (List Key×V)):Prop where
 sys:(a==sysModules)=false
 dn:DtN o xs
 len:ys.length<=sizeLine
 key:ys.map (·.1)=ks.map (·.map kI)
 kt:Paired (fun(p:List Key×V) (q:List Key×Addr×Value)=>p.1=q.1/\G q.2.1=some (.tup (p.1.map kV))/\RelV p.2 q.2.2) ys xs
mutual
noncomputable def RepD (K:W.Frag)(G:Hp)(v:V):D->Prop
 | .non=>v= .non
 | .bl b=>v= .bl b
 | .int i=>v= .int i
 | .str x=>v= .str x
 | .lst ds=>∃a xs,v= .ref a/\G a=some (.lst xs)/\RepL K G xs ds
 | .tup ds=>∃a xs,v= .ref a/\G a=some (.tup xs)/\RepL K G xs ds
 | .scr ns=>∃a,v= .ref a/\SqL K G a (ns.map V.int)
 | .exc c=>∃a C,v= .ref a/\W.nsIn K mainGlobals c=some (some (.ref C))/\G a=some (.ext (ExcIs a C))
 | .dic ks ds=>∃a ys,v= .ref a/\Rd G a (.dK ys)/\ys.map (·.1)=ks.map kI/\RepL K G (ys.map (·.2)) ds
 | .dit ks ds=>∃a ys o xs,v= .ref a/\G a=some (kn a o)/\DtI G a o xs ks ys/\RepL K G (ys.map (·.2)) ds
noncomputable def RepL (K:W.Frag)(G:Hp)(xs:List V):List D->Prop
 |[]=>xs=[]
 |d::ds=>∃x ys,xs=x::ys/\RepD K G x d/\RepL K G ys ds
end
noncomputable def Fz (G H:Hp):Prop:=∀a o,G a=some o->H a=some o
theorem DtI.mono {xs:List (List Key×Addr×Value)}{ys:List (List Key×V)}(d:DtI G a o xs ks ys)(h:Fz G G'):DtI G' a o xs ks ys:={d with kt:=Paired.mapP d.kt fun _ _ z=>⟨z.1,h _ _ z.2.1,z.2.2⟩}
theorem Fz.refl (G:Hp):Fz G G:=fun _ _ h=>h
theorem Fz.trans {A B C:Hp}(h:Fz A B)(k:Fz B C):Fz A C:=fun a o e=>k a o (h a o e)
theorem Fz.free (h:Fz G H)(e:H p=none):G p=none:=by
 cases q:G p with
 |none=>rfl
 |some o=>rw[h p o q]at e;cases e
theorem Fz.new (e:G p=none)(o:HO):Fz G (upd G p o):=fun a u q=>by
 rw[zau (zaL q e)];exact q
theorem Fz.upd2 (h:Fz G H)(p:Addr)(o:HO):Fz (upd G p o) (upd H p o):=fun a u q=>by
 by_cases e:a=p
 ·subst e;rw[zaw]at q ⊢;exact q
 ·rw[zau e]at q ⊢;exact h a u q
theorem Fz.right (h:Fz G H)(e:G p=none)(o:HO):Fz G (upd H p o):=fun a u q=>by
 rw[zau (zaL q e)];exact h a u q
theorem Fz.sql {G H:Hp}(h:Fz G H)(q:SqL K G a xs):SqL K H a xs:=Same.seq (H:=G) (H':=H) h q
mutual
theorem RepD.mono (h:Fz G G'):∀{v:V} {d:D},RepD K G v d->RepD K G' v d
 |_,.non,e=>e
 |_,.bl _,e=>e
 |_,.int _,e=>e
 |_,.str _,e=>e
 |_,.lst _,⟨a,xs,e,q,r⟩=>⟨a,xs,e,h a _ q,RepL.mono h r⟩
 |_,.tup _,⟨a,xs,e,q,r⟩=>⟨a,xs,e,h a _ q,RepL.mono h r⟩
 |_,.scr _,⟨a,e,q⟩=>⟨a,e,h.sql q⟩
 |_,.exc _,⟨a,C,e,n,q⟩=>⟨a,C,e,n,h a _ q⟩
 |_,.dic _ _,⟨a,ys,e,q,f,r⟩=>⟨a,ys,e,q.imp (h a _) fun⟨o,z⟩=>⟨o,h a _ z⟩,f,RepL.mono h r⟩
 |_,.dit _ _,⟨a,ys,o,xs,e,q,f,r⟩=>⟨a,ys,o,xs,e,h a _ q,f.mono h,RepL.mono h r⟩
theorem RepL.mono (h:Fz G G'):∀{xs:List V} {ds:List D},RepL K G xs ds->RepL K G' xs ds
 |_,[],e=>e
 |_,_::_,⟨x,ys,e,q,r⟩=>⟨x,ys,e,RepD.mono h q,RepL.mono h r⟩
end
section
variable {K:W.Frag} {G:Hp}
theorem RepL.nil:RepL K G [] []:=rfl
theorem RepL.cons {x:V}{d:D}(h:RepD K G x d)(t:RepL K G xs ds):RepL K G (x::xs) (d::ds):=⟨x,xs,rfl,h,t⟩
theorem RepL.length:∀{xs:List V} {ds:List D},RepL K G xs ds->xs.length=ds.length
 |_,[],e=>by cases e;rfl
 |_,_::_,⟨x,ys,e,_,r⟩=>by subst e;rw[List.length_cons,List.length_cons,RepL.length r]
theorem RepL.get:∀{xs:List V} {ds:List D} {i:Nat} {d:D},RepL K G xs ds->ds[i]? =some d->∃x,xs[i]? =some x/\RepD K G x d
 |_,[],_,_,_,h=>by simp at h
 |_,_::_,0,_,⟨x,ys,e,q,r⟩,h=>by subst e;simp at h;subst h;exact⟨x,rfl,q⟩
 |_,_::_,i+1,_,⟨x,ys,e,q,r⟩,h=>by
  subst e
  obtain⟨y,h1,h2⟩:=RepL.get (i:=i) r (by simpa using h)
  exact⟨y,by simpa using h1,h2⟩
theorem RepL.append:∀{xs ys:List V} {ds es:List D},RepL K G xs ds->RepL K G ys es->RepL K G (xs++ys) (ds++es)
 |_,_,[],_,e,r=>by cases e;exact r
 |_,_,_::_,_,⟨x,zs,e,q,r⟩,s=>by subst e;exact⟨x,zs++_,rfl,q,RepL.append r s⟩
theorem RepL.snoc (h:RepL K G xs ds)(q:RepD K G x d):RepL K G (xs++[x]) (ds++[d]):=h.append (.cons q .nil)
theorem RepL.take:∀{xs:List V} {ds:List D} (n:Nat),RepL K G xs ds->RepL K G (xs.take n) (ds.take n)
 |_,_,0,_=>by simp;exact .nil
 |_,[],n+1,e=>by cases e;exact .nil
 |_,_::_,n+1,⟨x,zs,e,q,r⟩=>by subst e;exact⟨x,zs.take n,rfl,q,RepL.take n r⟩
theorem RepL.drop:∀{xs:List V} {ds:List D} (n:Nat),RepL K G xs ds->RepL K G (xs.drop n) (ds.drop n)
 |_,_,0,r=>by simpa using r
 |_,[],n+1,e=>by cases e;exact .nil
 |_,_::_,n+1,⟨x,zs,e,q,r⟩=>by subst e;exact RepL.drop n r
theorem RepL.set:∀{xs:List V} {ds:List D} (i:Nat) {x:V} {d:D},RepL K G xs ds->RepD K G x d->RepL K G (xs.set i x) (ds.set i d)
 |_,[],_,_,_,e,_=>by cases e;exact .nil
 |_,_::_,0,_,_,⟨x,zs,e,q,r⟩,h=>by subst e;exact⟨_,zs,rfl,h,r⟩
 |_,_::_,i+1,_,_,⟨x,zs,e,q,r⟩,h=>by subst e;exact⟨x,_,rfl,q,RepL.set i r h⟩
theorem RepL.rep (h:RepL K G xs ds):∀k:Nat,RepL K G (List.replicate k xs).flatten (List.replicate k ds).flatten
 |0=> .nil
 |k+1=>by rw[List.replicate_succ,List.replicate_succ,List.flatten_cons,List.flatten_cons];exact h.append (RepL.rep h k)
theorem RepL.ints:∀(ns:List Int),RepL K G (ns.map V.int) (ns.map D.int)
 |[]=> .nil
 |n::ns=>⟨.int n,ns.map V.int,rfl,rfl,RepL.ints ns⟩
theorem RepL.ints_eq:∀{ns:List Int} {xs:List V},RepL K G xs (ns.map D.int)->xs=ns.map V.int
 |[],_,e=>e
 |n::ns,_,⟨x,ys,e,q,r⟩=>by subst e;cases(show x=V.int n from q);rw[RepL.ints_eq r];rfl
theorem RepL.at {i:Int}(h:RepL K G xs ds)(e:atI ds i=some d):∃x,atI xs i=some x/\RepD K G x d:=by
 unfold atI at e ⊢
 rw[h.length]
 cases q:ixN ds.length i with
 |none=>rw[q]at e;cases e
 |some j=>rw[q]at e;exact h.get e
end
inductive Ch where
 |d (x:D)|l (xs:List D)|t (xss:List (List D))
inductive T where
 |lst (cs:List Ch)|tup (cs:List Ch)|ins (c:Str) (fs:List (Str×Ch))|dic (ks:List Int) (ds:List D)|dit (ks:List (List Int)) (ds:List D)
inductive Sl where
 |emp|val (d:D)|own (ds:List D)|par (ds:List D)|two (ds es:List D)|tre (t:T)|ptr (t:T)
noncomputable abbrev R:=List Sl
noncomputable def Sl.items:Sl->Option (List D)
 | .own ds=>some ds
 | .par ds=>some ds
 |_=>none
structure Bs where
 G:Hp
 H:Hp
 O:List (Nat×Addr)
noncomputable def RepTb (K:W.Frag)(G H:Hp):List V->List (List D)->List Addr->Prop
 |[],[],A=>A=[]
 |x::xs,ds::dss,A=>∃r ys A2,x= .ref r/\H r=some (.lst ys)/\RepL K G ys ds/\RepTb K G H xs dss A2/\A=r::A2
 |_,_,_=>False
noncomputable def RepC (K:W.Frag)(G H:Hp)(x:V):Ch->List Addr->Prop
 | .d y,A=>RepD K G x y/\A=[]
 | .l ds,A=>∃l xs,x= .ref l/\H l=some (.lst xs)/\RepL K G xs ds/\A=[l]
 | .t xss,A=>∃p xs A',x= .ref p/\H p=some (.lst xs)/\RepTb K G H xs xss A'/\A=p::A'
noncomputable def RepCs (K:W.Frag)(G H:Hp):List V->List Ch->List Addr->Prop
 |[],[],A=>A=[]
 |x::xs,c::cs,A=>∃A1 A2,RepC K G H x c A1/\RepCs K G H xs cs A2/\A=A1++A2
 |_,_,_=>False
noncomputable def RepT (K:W.Frag)(G H:Hp)(v:V):T->List Addr->Prop
 | .lst cs,A=>∃p xs A',v= .ref p/\H p=some (.lst xs)/\RepCs K G H xs cs A'/\A=p::A'
 | .tup cs,A=>∃p xs A',v= .ref p/\H p=some (.tup xs)/\RepCs K G H xs cs A'/\A=p::A'
 | .ins c fs,A=>∃p C dx vs A',v= .ref p/\W.nsIn K mainGlobals c=some (some (.ref C))/\H p=some (.ins C dx vs)/\H dx=some (.own p)/\vs.map (·.1)=fs.map (·.1)/\RepCs K G H (vs.map (·.2)) (fs.map (·.2)) A'/\A=p::dx::A'
 | .dic ks ds,A=>∃p ys,v= .ref p/\H p=some (.dK ys)/\ys.map (·.1)=ks.map kI/\RepL K G (ys.map (·.2)) ds/\A=[p]
 | .dit ks ds,A=>∃p ys o xs,v= .ref p/\H p=some (kn p o)/\DtI G p o xs ks ys/\RepL K G (ys.map (·.2)) ds/\A=[p]
section
variable {K:W.Frag} {G G' H H':Hp}
theorem RepTb.move:∀{xs:List V} {dss:List (List D)} {A:List Addr},RepTb K G H xs dss A->Fz G G'->(∀a∈A,H' a=H a)->RepTb K G' H' xs dss A
 |[],[],_,h,_,_=>h
 |x::xs,ds::dss,A,⟨r,ys,A2,e1,e2,e3,e4,e5⟩,hg,hh=>⟨r,ys,A2,e1,by rw[hh r (by rw[e5];simp)];exact e2,e3.mono hg,e4.move hg fun a m=>hh a (by rw[e5];simp[m]),e5⟩
 |[],_::_,_,h,_,_=>h.elim
 |_::_,[],_,h,_,_=>h.elim
theorem RepTb.det:∀{xs:List V} {dss:List (List D)} {A A':List Addr},RepTb K G H xs dss A->RepTb K G' H' xs dss A'->A=A'
 |[],[],_,_,h,h'=>by rw[show _=[]from h,show _=[]from h']
 |x::xs,ds::dss,_,_,⟨r,ys,A2,e1,_,_,e4,e5⟩,⟨r',ys',A2',e1',_,_,e4',e5'⟩=>by
  rw[e1]at e1';cases e1'
  rw[e5,e5',e4.det e4']
 |[],_::_,_,_,h,_=>h.elim
 |_::_,[],_,_,h,_=>h.elim
theorem RepTb.here:∀{xs:List V} {dss:List (List D)} {A:List Addr},RepTb K G H xs dss A->∀{a:Addr},a∈A->∃xs,H a=some (.lst xs)
 |[],[],_,h,a,m=>by rw[show _=[]from h]at m;cases m
 |x::xs,ds::dss,_,⟨r,ys,A2,e1,e2,_,e4,e5⟩,a,m=>by
  rw[e5]at m
  rcases List.mem_cons.mp m with rfl|m
  ·exact⟨ys,e2⟩
  ·exact e4.here m
 |[],_::_,_,h,_,_=>h.elim
 |_::_,[],_,h,_,_=>h.elim
theorem RepC.move (h:RepC K G H x c A)(hg:Fz G G')(hh:∀a∈A,H' a=H a):RepC K G' H' x c A:=by
 cases c with
 |d y=>exact⟨h.1.mono hg,h.2⟩
 |l ds=>obtain⟨l,xs,e,q,r,rfl⟩:=h;exact⟨l,xs,e,by rw[hh l (by simp)];exact q,r.mono hg,rfl⟩
 |t xss=>obtain⟨p,xs,A',e,q,r,rfl⟩:=h;exact⟨p,xs,A',e,by rw[hh p (by simp)];exact q,r.move hg fun a m=>hh a (by simp[m]),rfl⟩
theorem RepCs.move:∀{xs:List V} {cs:List Ch} {A:List Addr},RepCs K G H xs cs A->Fz G G'->(∀a∈A,H' a=H a)->RepCs K G' H' xs cs A
 |[],[],_,h,_,_=>h
 |x::xs,c::cs,A,⟨A1,A2,h1,h2,e⟩,hg,hh=>⟨A1,A2,h1.move hg fun a m=>hh a (by rw[e];exact List.mem_append_left _ m),h2.move hg fun a m=>hh a (by rw[e];exact List.mem_append_right _ m),e⟩
 |[],_::_,_,h,_,_=>h.elim
 |_::_,[],_,h,_,_=>h.elim
theorem RepT.move (h:RepT K G H v t A)(hg:Fz G G')(hh:∀a∈A,H' a=H a):RepT K G' H' v t A:=by
 cases t with
 |lst cs=>obtain⟨p,xs,A',e,q,r,rfl⟩:=h;exact⟨p,xs,A',e,by rw[hh p (by simp)];exact q,r.move hg fun a m=>hh a (by simp[m]),rfl⟩
 |tup cs=>obtain⟨p,xs,A',e,q,r,rfl⟩:=h;exact⟨p,xs,A',e,by rw[hh p (by simp)];exact q,r.move hg fun a m=>hh a (by simp[m]),rfl⟩
 |ins c fs=>obtain⟨p,C,dx,vs,A',e,n,q,q2,f,r,rfl⟩:=h;exact⟨p,C,dx,vs,A',e,n,by rw[hh p (by simp)];exact q,by rw[hh dx (by simp)];exact q2,f,r.move hg fun a m=>hh a (by simp[m]),rfl⟩
 |dic ks ds=>obtain⟨p,ys,e,q,f,r,rfl⟩:=h;exact⟨p,ys,e,by rw[hh p (by simp)];exact q,f,r.mono hg,rfl⟩
 |dit ks ds=>obtain⟨p,ys,o,xs,e,q,f,r,rfl⟩:=h;exact⟨p,ys,o,xs,e,by rw[hh p (by simp)];exact q,f.mono hg,r.mono hg,rfl⟩
theorem RepC.det (h:RepC K G H x c A)(h':RepC K G' H' x c A')(hh:∀a∈A,H' a=H a):A=A':=by
 cases c with
 |d y=>rw[h.2,h'.2]
 |l ds=>obtain⟨l,xs,e,_,_,rfl⟩:=h;obtain⟨l',xs',e',_,_,rfl⟩:=h';rw[e]at e';cases e';rfl
 |t xss=>
  obtain⟨p,xs,B,e,q,r,rfl⟩:=h;obtain⟨p',xs',B',e',q',r',rfl⟩:=h'
  rw[e]at e';cases e'
  rw[hh p (by simp),q]at q';cases q'
  rw[r.det r']
theorem RepCs.det:∀{xs:List V} {cs:List Ch} {A A':List Addr},RepCs K G H xs cs A->RepCs K G' H' xs cs A'->(∀a∈A,H' a=H a)->A=A'
 |[],[],_,_,h,h',_=>by rw[show _=[]from h,show _=[]from h']
 |x::xs,c::cs,_,_,⟨A1,A2,h1,h2,e⟩,⟨B1,B2,k1,k2,e'⟩,hh=>by rw[e,e',h1.det k1 fun a m=>hh a (by rw[e];exact List.mem_append_left _ m),h2.det k2 fun a m=>hh a (by rw[e];exact List.mem_append_right _ m)]
 |[],_::_,_,_,h,_,_=>h.elim
 |_::_,[],_,_,h,_,_=>h.elim
theorem RepT.det (h:RepT K G H v t A)(h':RepT K G' H' v t A')(hh:∀a∈A,H' a=H a):A=A':=by
 cases t with
 |lst cs=>
  obtain⟨p,xs,B,e,q,r,rfl⟩:=h;obtain⟨p',xs',B',e',q',r',rfl⟩:=h'
  rw[e]at e';cases e'
  rw[hh p (by simp),q]at q';cases q'
  rw[r.det r' fun a m=>hh a (by simp[m])]
 |tup cs=>
  obtain⟨p,xs,B,e,q,r,rfl⟩:=h;obtain⟨p',xs',B',e',q',r',rfl⟩:=h'
  rw[e]at e';cases e'
  rw[hh p (by simp),q]at q';cases q'
  rw[r.det r' fun a m=>hh a (by simp[m])]
 |ins c fs=>
  obtain⟨p,C,dx,vs,B,e,n,q,q2,f,r,rfl⟩:=h;obtain⟨p',C',dx',vs',B',e',n',q',q2',f',r',rfl⟩:=h'
  rw[e]at e';cases e'
  rw[hh p (by simp),q]at q';cases q'
  rw[r.det r' fun a m=>hh a (by simp[m])]
 |dic ks ds=>obtain⟨p,ys,e,q,f,r,rfl⟩:=h;obtain⟨p',ys',e',q',f',r',rfl⟩:=h';rw[e]at e';cases e';rfl
 |dit ks ds=>obtain⟨p,ys,o,xs,e,q,f,r,rfl⟩:=h;obtain⟨p',ys',o',xs',e',q',f',r',rfl⟩:=h';rw[e]at e';cases e';rfl
theorem RepC.here (h:RepC K G H x c A)(m:a∈A):∃xs,H a=some (.lst xs):=by
 cases c with
 |d y=>rw[h.2]at m;cases m
 |l ds=>obtain⟨l,xs,_,q,_,rfl⟩:=h;simp at m;subst m;exact⟨xs,q⟩
 |t xss=>
  obtain⟨p,xs,A',_,q,r,rfl⟩:=h
  rcases List.mem_cons.mp m with rfl|m
  ·exact⟨xs,q⟩
  ·exact r.here m
theorem RepCs.here:∀{xs:List V} {cs:List Ch} {A:List Addr},RepCs K G H xs cs A->∀{a:Addr},a∈A->∃xs,H a=some (.lst xs)
 |[],[],_,h,a,m=>by rw[show _=[]from h]at m;cases m
 |x::xs,c::cs,_,⟨A1,A2,h1,h2,e⟩,a,m=>by
  rw[e]at m
  rcases List.mem_append.mp m with m|m
  ·exact h1.here m
  ·exact h2.here m
 |[],_::_,_,h,_,_=>h.elim
 |_::_,[],_,h,_,_=>h.elim
theorem RepT.here (h:RepT K G H v t A)(m:a∈A):H a≠none:=by
 cases t with
 |lst cs=>
  obtain⟨p,xs,B,e,q,r,rfl⟩:=h
  rcases List.mem_cons.mp m with rfl|m
  ·rw[q];simp
  ·obtain⟨ys,z⟩:=r.here m;rw[z];simp
 |tup cs=>
  obtain⟨p,xs,B,e,q,r,rfl⟩:=h
  rcases List.mem_cons.mp m with rfl|m
  ·rw[q];simp
  ·obtain⟨ys,z⟩:=r.here m;rw[z];simp
 |ins c fs=>
  obtain⟨p,C,dx,vs,B,e,n,q,q2,f,r,rfl⟩:=h
  rcases List.mem_cons.mp m with rfl|m
  ·rw[q];simp
  rcases List.mem_cons.mp m with rfl|m
  ·rw[q2];simp
  ·obtain⟨ys,z⟩:=r.here m;rw[z];simp
 |dic ks ds=>obtain⟨p,ys,e,q,f,r,rfl⟩:=h;simp at m;subst m;rw[q];simp
 |dit ks ds=>obtain⟨p,ys,o,xs,e,q,f,r,rfl⟩:=h;simp at m;subst m;rw[q];simp
end
noncomputable def SlotOk (K:W.Frag)(B:Bs)(G H:Hp)(i:Nat)(ov:Option (Option V)):Sl->Prop
 | .emp=>True
 | .two _ _=>True
 | .val d=>∃v,ov=some (some v)/\RepD K G v d
 | .own ds=>∃l xs,ov=some (some (.ref l))/\G l=none/\H l=some (.lst xs)/\RepL K G xs ds/\B.H l=none
 | .par ds=>∃l xs,ov=some (some (.ref l))/\G l=none/\H l=some (.lst xs)/\RepL K G xs ds/\(i,l)∈B.O
 | .tre t=>∃v A,ov=some (some v)/\RepT K G H v t A/\A.Nodup/\∀a∈A,G a=none/\B.H a=none
 | .ptr t=>∃v A,ov=some (some v)/\RepT K G H v t A/\A.Nodup/\∀a∈A,G a=none/\(B.H a=none\/(i,a)∈B.O)
noncomputable def Wr (ρ:R)(i:Nat):Prop:=∃s ds,ρ[i]? =some s/\s.items=some ds
noncomputable def OwS (K:W.Frag)(G H:Hp)(ov:Option (Option V))(a:Addr):Sl->Prop
 | .own _=>ov=some (some (.ref a))
 | .par _=>ov=some (some (.ref a))
 | .tre t=>∃v A,ov=some (some v)/\RepT K G H v t A/\a∈A
 | .ptr t=>∃v A,ov=some (some v)/\RepT K G H v t A/\a∈A
 |_=>False
noncomputable def Nw (K:W.Frag)(G H:Hp)(σ:St)(ρ:R)(a:Addr):Prop:=∀(i:Nat) (s:Sl),ρ[i]? =some s->¬OwS K G H σ[i]? a s
structure SI (K:W.Frag) (B:Bs) (G H:Hp) (σ:St) (ρ:R):Prop where
 fz:Fz G H
 g0:Fz B.G G
 new:∀b o,G b=some o->B.G b≠none\/B.H b=none
 keep:∀b o,B.H b=some o->(∀i,(i,b)∉B.O)->H b=some o
 there:∀b,H b=none->B.H b=none
 len:σ.length=ρ.length
 ob:∀i b,(i,b)∈B.O->B.H b≠none
 slot:∀i s,ρ[i]? =some s->SlotOk K B G H i σ[i]? s
 dis:∀(i j:Nat) (s t:Sl) (a:Addr),i≠j->ρ[i]? =some s->ρ[j]? =some t->OwS K G H σ[i]? a s->¬OwS K G H σ[j]? a t
section
variable {K:W.Frag} {B:Bs} {G G' H H':Hp} {σ:St} {ρ:R}
theorem SlotOk.own (h:SlotOk K B G H i ov s)(w:OwS K G H ov a s):G a=none/\H a≠none/\(B.H a=none\/(i,a)∈B.O):=by
 cases s with
 |emp=>exact w.elim
 |two _ _=>exact w.elim
 |val d=>exact w.elim
 |own ds=>obtain⟨l,xs,e,g,k,r,n⟩:=h;rw[show ov=_ from w]at e;cases e;exact⟨g,by rw[k];simp,.inl n⟩
 |par ds=>obtain⟨l,xs,e,g,k,r,n⟩:=h;rw[show ov=_ from w]at e;cases e;exact⟨g,by rw[k];simp,.inr n⟩
 |tre t=>
  obtain⟨v,A,e,r,nd,f⟩:=h
  obtain⟨v',A',e',r',m⟩:=w
  rw[e]at e';cases e'
  rw[<-r.det r' fun _ _=>rfl]at m
  exact⟨(f a m).1,r.here m,.inl (f a m).2⟩
 |ptr t=>
  obtain⟨v,A,e,r,nd,f⟩:=h
  obtain⟨v',A',e',r',m⟩:=w
  rw[e]at e';cases e'
  rw[<-r.det r' fun _ _=>rfl]at m
  exact⟨(f a m).1,r.here m,(f a m).2⟩
theorem SlotOk.mono (h:SlotOk K B G H i ov s)(hg:Fz G G')(hw:∀a,OwS K G H ov a s->G a=none->H a≠none->G' a=none/\H' a=H a):SlotOk K B G' H' i ov s:=by
 have ow:=fun a (w:OwS K G H ov a s)=>h.own w
 cases s with
 |emp=>trivial
 |two _ _=>trivial
 |val d=>obtain⟨v,e,r⟩:=h;exact⟨v,e,r.mono hg⟩
 |own ds=>
  obtain⟨l,xs,e,g,k,r,n⟩:=h
  obtain⟨h1,h2⟩:=hw l e g (by rw[k];simp)
  exact⟨l,xs,e,h1,h2.trans k,r.mono hg,n⟩
 |par ds=>
  obtain⟨l,xs,e,g,k,r,n⟩:=h
  obtain⟨h1,h2⟩:=hw l e g (by rw[k];simp)
  exact⟨l,xs,e,h1,h2.trans k,r.mono hg,n⟩
 |tre t=>
  obtain⟨v,A,e,r,nd,f⟩:=h
  have w:=fun a m=>hw a ⟨v,A,e,r,m⟩ (f a m).1 (r.here m)
  exact⟨v,A,e,r.move hg fun a m=>(w a m).2,nd,fun a m=>⟨(w a m).1,(f a m).2⟩⟩
 |ptr t=>
  obtain⟨v,A,e,r,nd,f⟩:=h
  have w:=fun a m=>hw a ⟨v,A,e,r,m⟩ (f a m).1 (r.here m)
  exact⟨v,A,e,r.move hg fun a m=>(w a m).2,nd,fun a m=>⟨(w a m).1,(f a m).2⟩⟩
theorem SlotOk.back (h:SlotOk K B G H i ov s)(hw:∀a,OwS K G H ov a s->G a=none->H a≠none->G' a=none/\H' a=H a)(w:OwS K G' H' ov a s):OwS K G H ov a s:=by
 cases s with
 |emp=>exact w
 |two _ _=>exact w
 |val d=>exact w
 |own ds=>exact w
 |par ds=>exact w
 |tre t=>
  obtain⟨v,A,e,r,nd,f⟩:=h
  obtain⟨v',A',e',r',m⟩:=w
  rw[e]at e';cases e'
  have q:=r.det r' fun a m=>(hw a ⟨v,A,e,r,m⟩ (f a m).1 (r.here m)).2
  subst q
  exact⟨v,A,e,r,m⟩
 |ptr t=>
  obtain⟨v,A,e,r,nd,f⟩:=h
  obtain⟨v',A',e',r',m⟩:=w
  rw[e]at e';cases e'
  have q:=r.det r' fun a m=>(hw a ⟨v,A,e,r,m⟩ (f a m).1 (r.here m)).2
  subst q
  exact⟨v,A,e,r,m⟩
theorem SI.move (I:SI K B G H σ ρ)(fz:Fz G' H')(fg:Fz G G')(new:∀b o,G' b=some o->B.G b≠none\/B.H b=none)(keep:∀b o,B.H b=some o->(∀i,(i,b)∉B.O)->H' b=some o)(there:∀b,H' b=none->B.H b=none)
  (ow:∀(i:Nat) (s:Sl) (a:Addr),ρ[i]? =some s->OwS K G H σ[i]? a s->G a=none->H a≠none->G' a=none/\H' a=H a):SI K B G' H' σ ρ where
 fz:=fz
 g0:=I.g0.trans fg
 new:=new
 keep:=keep
 there:=there
 len:=I.len
 ob:=I.ob
 slot:=fun i s e=>(I.slot i s e).mono fg fun a w g h=>ow i s a e w g h
 dis:=fun i j s t a n e1 e2 w1 w2=>I.dis i j s t a n e1 e2 ((I.slot i s e1).back (fun a w g h=>ow i s a e1 w g h) w1) ((I.slot j t e2).back (fun a w g h=>ow j t a e2 w g h) w2)
theorem SI.chg (I:SI K B G H σ ρ){ov:Option V}{s':Sl}(fz:Fz G' H')(fg:Fz G G')(new:∀b o,G' b=some o->B.G b≠none\/B.H b=none)(keep:∀b o,B.H b=some o->(∀i,(i,b)∉B.O)->H' b=some o)(there:∀b,H' b=none->B.H b=none)
  (ow:∀(j:Nat) (s:Sl) (a:Addr),j≠i->ρ[j]? =some s->OwS K G H σ[j]? a s->G a=none->H a≠none->G' a=none/\H' a=H a/\¬OwS K G' H' (some ov) a s') (sl:SlotOk K B G' H' i (some ov) s'):SI K B G' H' (σ.set i ov) (ρ.set i s'):=by
 have atI:∀{s},(ρ.set i s')[i]? =some s->s=s'/\(σ.set i ov)[i]? =some ov:=fun{s} e=>by
  rw[List.getElem?_set,if_pos rfl]at e ⊢
  split at e
  ·rename_i h;cases e;rw[if_pos (by rw[I.len];exact h)];exact⟨rfl,rfl⟩
  ·cases e
 have atJ:∀{j s},j≠i->(ρ.set i s')[j]? =some s->ρ[j]? =some s/\(σ.set i ov)[j]? =σ[j]?:=fun{j s} n e=>by
  rw[List.getElem?_set_ne (Ne.symm n)]at e ⊢
  exact⟨e,rfl⟩
 refine⟨fz,I.g0.trans fg,new,keep,there,by rw[List.length_set,List.length_set];exact I.len,I.ob,fun j s e=>?_,fun j k s t a n e1 e2 w1 w2=>?_⟩
 ·by_cases z:j=i
  ·subst z;obtain⟨rfl,q⟩:=atI e;rw[q];exact sl
  ·obtain⟨e1,q⟩:=atJ z e
   rw[q]
   exact(I.slot j s e1).mono fg fun a w g h=>⟨(ow j s a z e1 w g h).1,(ow j s a z e1 w g h).2.1⟩
 ·have one:∀j s,j≠i->(ρ.set i s')[j]? =some s->OwS K G' H' (σ.set i ov)[j]? a s->ρ[j]? =some s/\OwS K G H σ[j]? a s:=fun j s z e w=>by
   obtain⟨e1,q⟩:=atJ z e
   rw[q]at w
   exact⟨e1,(I.slot j s e1).back (fun a w g h=>⟨(ow j s a z e1 w g h).1,(ow j s a z e1 w g h).2.1⟩) w⟩
  by_cases z1:j=i
  ·subst z1
   obtain⟨rfl,q1⟩:=atI e1
   obtain⟨f2,w2⟩:=one k t (Ne.symm n) e2 w2
   obtain⟨o1,o2,_⟩:=(I.slot k t f2).own w2
   rw[q1]at w1
   exact(ow k t a (Ne.symm n) f2 w2 o1 o2).2.2 w1
  ·have p1:=one j s z1 e1 w1
   by_cases z2:k=i
   ·subst z2
    obtain⟨rfl,q2⟩:=atI e2
    obtain⟨o1,o2,_⟩:=(I.slot j s p1.1).own p1.2
    rw[q2]at w2
    exact(ow j s a z1 p1.1 p1.2 o1 o2).2.2 w2
   ·have p2:=one k t z2 e2 w2
    exact I.dis j k s t a n p1.1 p2.1 p1.2 p2.2
theorem SI.nw (I:SI K B G H σ ρ)(hp:H p=none):Nw K G H σ ρ p:=fun i s e w=>((I.slot i s e).own w).2.1 hp
theorem SI.nw_move (I:SI K B G H σ ρ)(n:Nw K G H σ ρ p)(ow:∀(i:Nat) (s:Sl) (a:Addr),ρ[i]? =some s->OwS K G H σ[i]? a s->G a=none->H a≠none->G' a=none/\H' a=H a):Nw K G' H' σ ρ p:=
 fun i s e w=>n i s e ((I.slot i s e).back (fun a w g h=>ow i s a e w g h) w)
theorem SI.allocF (I:SI K B G H σ ρ)(hp:H p=none)(o:HO):SI K B (upd G p o) (upd H p o) σ ρ:=
 I.move (I.fz.upd2 p o) (Fz.new (I.fz.free hp) o) (fun b u e=>by
  by_cases q:b=p
  ·subst q;exact .inr (I.there b hp)
  ·rw[zau q]at e;exact I.new b u e) (fun b u e n=>by
  have q:=I.keep b u e n
  rw[zau (zaL q hp)];exact q) (fun b e=>by
  by_cases q:b=p
  ·subst q;rw[zaw]at e;cases e
  ·rw[zau q]at e;exact I.there b e) (fun i s a _ _ g h=>by
  have q:a≠p:=fun z=>h (by rw[z];exact hp)
  rw[zau q,zau q];exact⟨g,rfl⟩)
theorem SI.allocO (I:SI K B G H σ ρ)(hp:H p=none)(o:HO):SI K B G (upd H p o) σ ρ:=
 I.move (I.fz.right (I.fz.free hp) o) (Fz.refl G) I.new (fun b u e n=>by
  have q:=I.keep b u e n
  rw[zau (zaL q hp)];exact q) (fun b e=>by
  by_cases q:b=p
  ·subst q;rw[zaw]at e;cases e
  ·rw[zau q]at e;exact I.there b e) (fun i s a _ _ g h=>by
  have q:a≠p:=fun z=>h (by rw[z];exact hp)
  rw[zau q];exact⟨g,rfl⟩)
theorem SI.frz (I:SI K B G H σ ρ){o:HO}(hl:H l=some o)(hB:B.H l=none)(hn:Nw K G H σ ρ l)(hg:G l=none):SI K B (upd G l o) H σ ρ:=
 I.move (fun a u q=>by
  by_cases e:a=l
  ·subst e;rw[zaw]at q;cases q;exact hl
  ·rw[zau e]at q;exact I.fz a u q) (Fz.new hg o) (fun b u e=>by
  by_cases q:b=l
  ·subst q;exact .inr hB
  ·rw[zau q]at e;exact I.new b u e) I.keep I.there (fun i s a e w g _=>by
  refine⟨?_,rfl⟩
  rw[zau (fun z=>?_)]
  ·exact g
  ·subst z;exact hn i s e w)
theorem SI.set (I:SI K B G H σ ρ)(h:RepD K G v d):SI K B G H (σ.set i (some v)) (ρ.set i (.val d)):=
 I.chg I.fz (Fz.refl G) I.new I.keep I.there (fun _ _ _ _ _ _ g _=>⟨g,rfl,id⟩) ⟨v,rfl,h⟩
theorem SI.setO (I:SI K B G H σ ρ)(hg:G l=none)(hl:H l=some (.lst xs))(h:RepL K G xs ds)(hB:B.H l=none)(hn:Nw K G H σ ρ l):
  SI K B G H (σ.set i (some (.ref l))) (ρ.set i (.own ds)):=
 I.chg I.fz (Fz.refl G) I.new I.keep I.there (fun j s a _ e w g _=>⟨g,rfl,fun z=>by cases(show some (some (V.ref l))=some (some (.ref a))from z);exact hn j s e w⟩) ⟨l,xs,rfl,hg,hl,h,hB⟩
theorem SI.wr (I:SI K B G H σ ρ)(e:ρ[i]? =some s)(q:s.items=some ds):∃l xs,σ[i]? =some (some (.ref l))/\G l=none/\H l=some (.lst xs)/\RepL K G xs ds:=by
 have h:=I.slot i s e
 cases s with
 |emp=>cases q
 |two _ _=>cases q
 |val d=>cases q
 |tre _=>cases q
 |ptr _=>cases q
 |own es=>cases q;obtain⟨l,xs,h1,h2,h3,h4,_⟩:=h;exact⟨l,xs,h1,h2,h3,h4⟩
 |par es=>cases q;obtain⟨l,xs,h1,h2,h3,h4,_⟩:=h;exact⟨l,xs,h1,h2,h3,h4⟩
noncomputable def Sl.put (s:Sl)(ds:List D):Sl:=match s with
 | .own _=> .own ds
 | .par _=> .par ds
 |s=>s
theorem zfp (q:s.items=some ds):OwS K G H ov a s↔ov=some (some (.ref a)):=by
 cases s with
 |own _=>exact Iff.rfl
 |par _=>exact Iff.rfl
 |_=>cases q
theorem zkD (q:s.items=some ds)(es:List D):(s.put es).items=some es:=by
 cases s with
 |own _=>rfl
 |par _=>rfl
 |_=>cases q
theorem zkr {α:Type}{l:List α}{x:α}(e:l[i]? =some x):l.set i x=l:=by
 obtain⟨h,rfl⟩:=List.getElem?_eq_some_iff.mp e
 exact List.set_getElem_self h
theorem SI.chgW (I:SI K B G H σ ρ){i:Nat}(e:ρ[i]? =some s)(q:s.items=some ds)(hl:σ[i]? =some (some (.ref l)))(fz:Fz G' H')(fg:Fz G G')(nw:∀b o,G' b=some o->G b≠none\/H b=none)
  (kp:∀b o,b≠l->H b=some o->H' b=some o) (gl:G' l=none) (hl':H' l=some (.lst ys)) (r:RepL K G' ys es):SI K B G' H' σ (ρ.set i (s.put es)):=by
 obtain⟨l',xs,e1,e2,e3,e4⟩:=I.wr e q
 rw[hl]at e1;cases e1
 have sl:=I.slot i s e
 have nb:∀b o,B.H b=some o->(∀i,(i,b)∉B.O)->b≠l:=fun b o h1 h2 z=>by
  subst z
  rcases(sl.own ((zfp q).mpr hl)).2.2 with z|z
  ·rw[h1]at z;cases z
  ·exact h2 i z
 have h:=I.chg (i:=i) (ov:=some (.ref l)) (s':=s.put es) (G':=G') (H':=H') fz fg (fun b o k=>?_) (fun b o k1 k2=>kp b o (nb b o k1 k2) (I.keep b o k1 k2)) (fun b k=>?_) (fun j t a z ej w g ha=>?_) ?_
 ·rwa[zkr hl]at h
 ·rcases nw b o k with h|h
  ·cases q2:G b with
   |none=>exact absurd q2 h
   |some u=>exact I.new b u q2
  ·exact .inr (I.there b h)
 ·refine I.there b ?_
  cases q2:H b with
  |none=>rfl
  |some u=>
   by_cases z:b=l
   ·subst z;rw[hl']at k;cases k
   ·rw[kp b u z q2]at k;cases k
 ·have na:a≠l:=fun w'=>by subst w';exact I.dis j i t s a z ej e w ((zfp q).mpr hl)
  obtain⟨u,hu⟩:=Option.ne_none_iff_exists'.mp ha
  refine⟨?_,(kp a u na hu).trans hu.symm,fun z=>na ?_⟩
  ·cases q2:G' a with
   |none=>rfl
   |some u=>
    rcases nw a u q2 with z|z
    ·exact absurd g z
    ·exact absurd z ha
  ·cases(zfp (zkD q es)).mp z;rfl
 ·cases s with
  |own es'=>obtain⟨l',xs',k1,k2,k3,k4,k5⟩:=sl;rw[hl]at k1;cases k1;exact⟨_,ys,rfl,gl,hl',r,k5⟩
  |par es'=>obtain⟨l',xs',k1,k2,k3,k4,k5⟩:=sl;rw[hl]at k1;cases k1;exact⟨_,ys,rfl,gl,hl',r,k5⟩
  |_=>cases q
theorem SI.write (I:SI K B G H σ ρ)(e:ρ[i]? =some s)(q:s.items=some ds)(hl:σ[i]? =some (some (.ref l)))(h:RepL K G ys es):
  SI K B G (upd H l (.lst ys)) σ (ρ.set i (s.put es)):=by
 obtain⟨l',xs,e1,e2,e3,e4⟩:=I.wr e q
 rw[hl]at e1;cases e1
 exact I.chgW e q hl (I.fz.right e2 _) (Fz.refl G) (fun b o k=> .inl (by rw[k];simp)) (fun b o z k=>by rw[zau z];exact k) e2 zaw h
theorem SI.freeze (I:SI K B G H σ ρ){i:Nat}(e:ρ[i]? =some (.own ds)):∃l xs,σ[i]? =some (some (.ref l))/\Fz G (upd G l (.lst xs))/\RepD K (upd G l (.lst xs)) (.ref l) (.lst ds)/\
  SI K B (upd G l (.lst xs)) H σ (ρ.set i (.val (.lst ds))):=by
 obtain⟨l,xs,h1,h2,h3,h4,h5⟩:=I.slot i _ e
 have fz:=Fz.new h2 (.lst xs)
 have rep:RepD K (upd G l (.lst xs)) (.ref l) (.lst ds):=⟨l,xs,rfl,zaw,h4.mono fz⟩
 refine⟨l,xs,h1,fz,rep,?_⟩
 have h:=I.chg (i:=i) (ov:=some (.ref l)) (s':= .val (.lst ds)) (G':=upd G l (.lst xs)) (H':=H) (fun a u q=>?_) fz (fun b u q=>?_) I.keep I.there (fun j t a z ej w g _=>⟨?_,rfl,id⟩) ⟨.ref l,rfl,rep⟩
 ·rwa[zkr h1]at h
 ·by_cases z:a=l
  ·subst z;rw[zaw]at q;cases q;exact h3
  ·rw[zau z]at q;exact I.fz a u q
 ·by_cases z:b=l
  ·subst z;exact .inr h5
  ·rw[zau z]at q;exact I.new b u q
 ·rw[zau (fun q=>by subst q;exact I.dis j i t _ a z ej e w h1)];exact g
end
noncomputable abbrev ME:=R->Option (D×R)
noncomputable abbrev MO:=R->Option (List D×R)
noncomputable abbrev MT:=R->Option (Bool×R)
noncomputable abbrev MA:=R->Option (List D×R)
noncomputable def SE (X:Cx)(e:Expr)(m:ME):Prop:=
 ∃t,PE X e t/\∀B G H σ ρ d ρ' (Q:VK),SI X.K B G H σ ρ->m ρ=some (d,ρ')->(∀G' H' v,SI X.K B G' H' σ ρ'->Fz G G'->RepD X.K G' v d->Q v H')->t σ H Q
noncomputable def SO (X:Cx)(e:Expr)(m:MO):Prop:=
 ∃t,PE X e t/\∀B G H σ ρ ds ρ' (Q:VK),SI X.K B G H σ ρ->m ρ=some (ds,ρ')->
  (∀G' H' l xs,SI X.K B G' H' σ ρ'->Fz G G'->G' l=none->H' l=some (.lst xs)->RepL X.K G' xs ds->B.H l=none->Nw X.K G' H' σ ρ' l->Q (.ref l) H')->t σ H Q
noncomputable def STt (X:Cx)(e:Expr)(m:MT):Prop:=
 ∃t,PT X e t/\∀B G H σ ρ d ρ' (Q:Bool->Hp->Prop),SI X.K B G H σ ρ->m ρ=some (d,ρ')->(∀G' H',SI X.K B G' H' σ ρ'->Fz G G'->Q d H')->t σ H Q
noncomputable def SA (X:Cx)(es:List Expr)(m:MA):Prop:=
 ∃t,PA X es t/\∀B G H σ ρ ds ρ' (Q:List V->Hp->Prop),SI X.K B G H σ ρ->m ρ=some (ds,ρ')->(∀G' H' vs,SI X.K B G' H' σ ρ'->Fz G G'->RepL X.K G' vs ds->Q vs H')->t σ H Q
theorem zks {B:Bs}{σ:St}(I:SI K B G H σ ρ)(hg:G l=none)(hl:H l=some (.lst xs))(h:RepL K G xs ds)(hB:B.H l=none)(hn:Nw K G H σ ρ l):
  SI K B (upd G l (.lst xs)) H σ ρ/\Fz G (upd G l (.lst xs))/\RepD K (upd G l (.lst xs)) (.ref l) (.lst ds):=
 ⟨I.frz hl hB hn hg,Fz.new hg _,⟨l,xs,rfl,zaw,h.mono (Fz.new hg _)⟩⟩
noncomputable def eFz (m:MO):ME:=fun ρ=>(m ρ).map fun p=>(.lst p.1,p.2)
theorem SO.se {X:Cx}{m:MO}(h:SO X e m):SE X e (eFz m):=by
 obtain⟨t,p,s⟩:=h
 refine⟨t,p,fun B G H σ ρ d ρ' Q I hm k=>?_⟩
 unfold eFz at hm
 cases q:m ρ with
 |none=>rw[q]at hm;cases hm
 |some r=>
  obtain⟨ds,ρ1⟩:=r
  rw[q]at hm
  cases hm
  refine s B G H σ ρ ds _ Q I q fun G' H' l xs I' fz hg hl hr hB hn=>?_
  obtain⟨I2,f2,r2⟩:=zks I' hg hl hr hB hn
  exact k _ _ _ I2 (fz.trans f2) r2
noncomputable def eC (d:D):ME:=fun ρ=>some (d,ρ)
noncomputable def eVar (i:Nat):ME:=fun ρ=>match ρ[i]? with
 |some (.val d)=>some (d,ρ)
 |some (.own ds)=>some (.lst ds,ρ.set i (.val (.lst ds)))
 |_=>none
section
variable {X:Cx} {pos:Pos}
theorem zab (i:Nat){x:Str}(hN:X.N[i]? =some x:=by rfl)(hv:Vis X.env.scope x:=by first|exact Or.inl rfl|exact Or.inr (Or.inl rfl)|exact Or.inr (Or.inr rfl))(hd:(x==("__debug__":Str))=false:=by decide)
  (hcd:(x==("__classdict__":Str))=false:=by decide):SE X (.Name x pos) (eVar i):=by
 refine⟨_,zff hN hv hd hcd,fun B G H σ ρ d ρ' Q I hm k=>?_⟩
 unfold eVar at hm
 cases e:ρ[i]? with
 |none=>rw[e]at hm;cases hm
 |some s=>
  rw[e]at hm
  cases s with
  |emp=>cases hm
  |two _ _=>cases hm
  |tre _=>cases hm
  |ptr _=>cases hm
  |par ds=>cases hm
  |val d'=>
   cases hm
   obtain⟨v,h1,h2⟩:=I.slot i _ e
   exact⟨v,h1,k G H v I (Fz.refl G) h2⟩
  |own ds=>
   cases hm
   obtain⟨l,xs,h1,f,r,I'⟩:=I.freeze e
   exact⟨.ref l,h1,k _ H _ I' f r⟩
theorem zag {i:Int}{j}:SE X (.Constant (.int i) j pos) (eC (.int i)):=⟨_,pe_int,fun B G H σ ρ d ρ' Q I hm k=>by cases hm;exact k G H _ I (Fz.refl G) rfl⟩
theorem zll {j}:SE X (.Constant (.bool b) j pos) (eC (.bl b)):=⟨_,pe_bl,fun B G H σ ρ d ρ' Q I hm k=>by cases hm;exact k G H _ I (Fz.refl G) rfl⟩
theorem zfh {j}:SE X (.Constant .none j pos) (eC .non):=⟨_,pe_non,fun B G H σ ρ d ρ' Q I hm k=>by cases hm;exact k G H _ I (Fz.refl G) rfl⟩
theorem zc9 {x:Str}{j}:SE X (.Constant (.str x) j pos) (eC (.str x)):=⟨_,pe_str,fun B G H σ ρ d ρ' Q I hm k=>by cases hm;exact k G H _ I (Fz.refl G) rfl⟩
end
noncomputable def aNil:MA:=fun ρ=>some ([],ρ)
noncomputable def zad (m:ME)(r:MA):MA:=fun ρ=>(m ρ).bind fun p=>(r p.2).map fun q=>(p.1::q.1,q.2)
section
variable {X:Cx} {e:Expr} {es:List Expr} {m:ME} {r:MA}
theorem zae:SA X [] aNil:=⟨_,zmM,fun B G H σ ρ ds ρ' Q I hm k=>by cases hm;exact k G H [] I (Fz.refl G) .nil⟩
theorem zaa (h:SE X e m)(hr:SA X es r)(hs:starEach (e::es) X.env=(false,eval e X.env)::starEach es X.env:=by rfl):SA X (e::es) (zad m r):=by
 obtain⟨t,p,s⟩:=h
 obtain⟨u,q,z⟩:=hr
 refine⟨_,ziN p q hs,fun B G H σ ρ ds ρ' Q I hm k=>?_⟩
 unfold zad at hm
 cases e1:m ρ with
 |none=>rw[e1]at hm;cases hm
 |some a=>
  obtain⟨d,ρ1⟩:=a
  rw[e1]at hm
  cases e2:r ρ1 with
  |none=>simp[e2]at hm
  |some b=>
   obtain⟨es',ρ2⟩:=b
   simp only[Option.bind_some,e2,Option.map_some,Option.some.injEq,Prod.mk.injEq]at hm
   obtain⟨rfl,rfl⟩:=hm
   exact s B G H σ ρ d ρ1 _ I e1 fun G1 H1 v I1 f1 r1=>z B G1 H1 σ ρ1 es' ρ2 _ I1 e2 fun G2 H2 vs I2 f2 r2=>k G2 H2 (v::vs) I2 (f1.trans f2) (.cons (r1.mono f2) r2)
end
noncomputable def V2 (X:Cx)(r:R2)(f:D->D->Option D):Prop:=∀B G H σ ρ x y a b d (Q:VK),SI X.K B G H σ ρ->RepD X.K G x a->RepD X.K G y b->f a b=some d->(∀G' H' v,SI X.K B G' H' σ ρ->Fz G G'->RepD X.K G' v d->Q v H')->r x y H Q
noncomputable def V1 (X:Cx)(r:V->Hp->VK->Prop)(f:D->Option D):Prop:=∀B G H σ ρ x a d (Q:VK),SI X.K B G H σ ρ->RepD X.K G x a->f a=some d->(∀G' H' v,SI X.K B G' H' σ ρ->Fz G G'->RepD X.K G' v d->Q v H')->r x H Q
noncomputable def VC (X:Cx)(r:List V->Hp->VK->Prop)(f:List D->Option D):Prop:=∀B G H σ ρ xs ds d (Q:VK),SI X.K B G H σ ρ->RepL X.K G xs ds->f ds=some d->(∀G' H' v,SI X.K B G' H' σ ρ->Fz G G'->RepD X.K G' v d->Q v H')->r xs H Q
noncomputable def m2 (f:D->D->Option D)(ma mb:ME):ME:=fun ρ=>(ma ρ).bind fun p=>(mb p.2).bind fun q=>(f p.1 q.1).map fun d=>(d,q.2)
noncomputable def m1 (f:D->Option D)(ma:ME):ME:=fun ρ=>(ma ρ).bind fun p=>(f p.1).map fun d=>(d,p.2)
noncomputable def mC (f:List D->Option D)(ma:MA):ME:=fun ρ=>(ma ρ).bind fun p=>(f p.1).map fun d=>(d,p.2)
theorem m2_inv {f:D->D->Option D}{ma mb:ME}(h:m2 f ma mb ρ=some (d,ρ')):∃a ρ1 b,ma ρ=some (a,ρ1)/\mb ρ1=some (b,ρ')/\f a b=some d:=by
 unfold m2 at h
 cases e1:ma ρ with
 |none=>rw[e1]at h;cases h
 |some p=>
  obtain⟨a,ρ1⟩:=p
  rw[e1]at h
  cases e2:mb ρ1 with
  |none=>simp[e2]at h
  |some q=>
   obtain⟨b,ρ2⟩:=q
   simp only[Option.bind_some,e2]at h
   cases e3:f a b with
   |none=>rw[e3]at h;cases h
   |some c=>rw[e3]at h;cases h;exact⟨a,ρ1,b,rfl,e2,e3⟩
theorem m1_inv {f:D->Option D}(h:m1 f ma ρ=some (d,ρ')):∃a,ma ρ=some (a,ρ')/\f a=some d:=by
 unfold m1 at h
 cases e1:ma ρ with
 |none=>rw[e1]at h;cases h
 |some p=>
  obtain⟨a,ρ1⟩:=p
  rw[e1]at h
  simp only[Option.bind_some]at h
  cases e3:f a with
  |none=>rw[e3]at h;cases h
  |some c=>rw[e3]at h;cases h;exact⟨a,rfl,e3⟩
theorem mC_inv {f:List D->Option D}{ma:MA}(h:mC f ma ρ=some (d,ρ')):∃a,ma ρ=some (a,ρ')/\f a=some d:=by
 unfold mC at h
 cases e1:ma ρ with
 |none=>rw[e1]at h;cases h
 |some p=>
  obtain⟨a,ρ1⟩:=p
  rw[e1]at h
  simp only[Option.bind_some]at h
  cases e3:f a with
  |none=>rw[e3]at h;cases h
  |some c=>rw[e3]at h;cases h;exact⟨a,rfl,e3⟩
section
variable {X:Cx} {a b:Expr} {ma mb:ME} {pos:Pos} {f:D->D->Option D}
theorem zmf {r:R2}{ta tb:TE}(hv:V2 X r f)
  (sa:∀B G H σ ρ d ρ' (Q:VK),SI X.K B G H σ ρ->ma ρ=some (d,ρ')->(∀G' H' v,SI X.K B G' H' σ ρ'->Fz G G'->RepD X.K G' v d->Q v H')->ta σ H Q)
  (sb:∀B G H σ ρ d ρ' (Q:VK),SI X.K B G H σ ρ->mb ρ=some (d,ρ')->(∀G' H' v,SI X.K B G' H' σ ρ'->Fz G G'->RepD X.K G' v d->Q v H')->tb σ H Q):
  ∀B G H σ ρ d ρ' (Q:VK),SI X.K B G H σ ρ->m2 f ma mb ρ=some (d,ρ')->(∀G' H' v,SI X.K B G' H' σ ρ'->Fz G G'->RepD X.K G' v d->Q v H')->tOp r ta tb σ H Q:=by
 intro B G H σ ρ d ρ' Q I hm k
 obtain⟨x,ρ1,y,e1,e2,e3⟩:=m2_inv hm
 exact sa B G H σ ρ x ρ1 _ I e1 fun G1 H1 v I1 f1 r1=>sb B G1 H1 σ ρ1 y ρ' _ I1 e2 fun G2 H2 u I2 f2 r2=>
  hv B G2 H2 σ ρ' v u x y d Q I2 (r1.mono f2) r2 e3 fun G3 H3 z I3 f3 r3=>k G3 H3 z I3 (f1.trans (f2.trans f3)) r3
theorem zlW {r:R2}(ho:OpR X (binaryOp op) r)(hv:V2 X r f)(ha:SE X a ma)(hb:SE X b mb):SE X (.BinOp a op b pos) (m2 f ma mb):=by
 obtain⟨ta,pa,sa⟩:=ha
 obtain⟨tb,pb,sb⟩:=hb
 exact⟨_,pe_op ho pa pb,zmf hv sa sb⟩
theorem zmt {op:CmpOp}{r:R2}(ho:OpR X (compareOp op) r)(hv:V2 X r f)(ha:SE X a ma)(hb:SE X b mb)(hm:behindInMarks op b=false):SE X (.Compare a [op] [b] pos) (m2 f ma mb):=by
 obtain⟨ta,pa,sa⟩:=ha
 obtain⟨tb,pb,sb⟩:=hb
 exact⟨_,pe_cmpR ho pa pb hm,zmf hv sa sb⟩
theorem se_un {op:UnaryOp}(ho:UnR X (unaryOp op) r)(hv:V1 X r g)(ha:SE X a ma):SE X (.UnaryOp op a pos) (m1 g ma):=by
 obtain⟨ta,pa,sa⟩:=ha
 refine⟨_,pe_un ho pa,fun B G H σ ρ d ρ' Q I hm k=>?_⟩
 obtain⟨x,e1,e2⟩:=m1_inv hm
 exact sa B G H σ ρ x ρ' _ I e1 fun G1 H1 v I1 f1 r1=>hv B G1 H1 σ ρ' v x d Q I1 r1 e2 fun G2 H2 z I2 f2 r2=>k G2 H2 z I2 (f1.trans f2) r2
theorem se_ix {r:R2}(hr:IxR X r)(hv:V2 X r f)(ha:SE X a ma)(hb:SE X b mb)(hs:zjZ b):SE X (.Subscript a b pos) (m2 f ma mb):=by
 obtain⟨ta,pa,sa⟩:=ha
 obtain⟨tb,pb,sb⟩:=hb
 exact⟨_,pe_ix hr pa pb hs,zmf hv sa sb⟩
end
section
variable {X:Cx} {x:Str} {p pos:Pos} {e:Expr} {es:List Expr} {ma:MA} {id T:String} {r:List V->Hp->VK->Prop} {f:List D->Option D}
theorem soundC {t:TA}(hv:VC X r f)(sa:∀B G H σ ρ ds ρ' (Q:List V->Hp->Prop),SI X.K B G H σ ρ->ma ρ=some (ds,ρ')->(∀G' H' vs,SI X.K B G' H' σ ρ'->Fz G G'->RepL X.K G' vs ds->Q vs H')->t σ H Q):
  ∀B G H σ ρ d ρ' (Q:VK),SI X.K B G H σ ρ->mC f ma ρ=some (d,ρ')->(∀G' H' v,SI X.K B G' H' σ ρ'->Fz G G'->RepD X.K G' v d->Q v H')->tCB r t σ H Q:=by
 intro B G H σ ρ d ρ' Q I hm k
 obtain⟨ds,e1,e2⟩:=mC_inv hm
 exact sa B G H σ ρ ds ρ' _ I e1 fun G1 H1 vs I1 f1 r1=>hv B G1 H1 σ ρ' vs ds d Q I1 r1 e2 fun G2 H2 z I2 f2 r2=>k G2 H2 z I2 (f1.trans f2) r2
theorem zgk (hc:zik X (.builtin id) r)(hv:VC X r f)(hb:bootBuiltins x=some (.builtin id))(hm:X.mg x=none)(ha:SA X (e::es) ma)(hg:Gl X x:=by rfl)(hn:x≠"__name__":=by decide)(hdb:(x==("__debug__":Str))=false:=by decide)
  (he:starEach (e::es) X.env=(false,eval e X.env)::starEach es X.env:=by rfl) (hpl:(backTo pos (starEach es X.env)).any (·.1)=false:=by rfl):SE X (.Call (.Name x p) (e::es) [] pos) (mC f ma):=by
 obtain⟨t,pa,sa⟩:=ha
 exact⟨_,zmG hc hg hm hb pa hn hdb he hpl,soundC hv sa⟩
theorem znM (hc:zik X (.type T) r)(hv:VC X r f)(hb:bootBuiltins x=some (.type T))(hm:X.mg x=none)(ha:SA X (e::es) ma)(hg:Gl X x:=by rfl)(hn:x≠"__name__":=by decide)(hdb:(x==("__debug__":Str))=false:=by decide)
  (he:starEach (e::es) X.env=(false,eval e X.env)::starEach es X.env:=by rfl) (hpl:(backTo pos (starEach es X.env)).any (·.1)=false:=by rfl):SE X (.Call (.Name x p) (e::es) [] pos) (mC f ma):=by
 obtain⟨t,pa,sa⟩:=ha
 exact⟨_,zkw hc hg hm hb pa hn hdb he hpl,soundC hv sa⟩
end
end M
namespace M
open L2 PySem PySem.Spec
open PyProof.Rows hiding St
variable {v:V} {ds cs out:List D} {p c l:Addr} {xs vs ys:List V} {X:Cx} {C:Int->Int->Prop} {g:D->R->Option R} {a b e:Expr} {ma:MA} {pos pos':Pos} {k i j n t:Nat} {mb:ME} {K:W.Frag} {G H H' G':Hp} {us its:List Value} {u:Value} {d:D} {B:Bs} {σ σc:St} {ρ ρ':R} {s:Sl} {x qual:Str} {Q E:Value->Shared->Prop} {op:CmpOp} {m mc:MT} {es ifs:List Expr} {h:List D->R->Option R} {body:List Stmt} {N ps:List Str} {fd:FuncData} {env:Env} {scope:Scope} {A:Around} {cl:List (Str×Addr)} {h':Heap} {prog:Program} {w:World} {use:Option (Value->Sem Unit)} {ov:Option (Option V)} {cap:List Nat} {wi:TI} {tg':Addr->Shared->Hp->List Addr->TG} {tt:Addr->Shared->Hp->List Addr->TT} {te:Addr->Shared->Hp->List Addr->TE} {ns:List Int}
section
variable {X:Cx} {K:W.Frag} {B:Bs} {G H:Hp} {σ:St} {ρ:R}
theorem SI.lst (I:SI K B G H σ ρ)(h:RepD K G v (.lst ds)):∃a xs,v= .ref a/\H a=some (.lst xs)/\RepL K G xs ds:=by
 obtain⟨a,xs,e,q,r⟩:=h
 exact⟨a,xs,e,I.fz a _ q,r⟩
theorem SI.tup (I:SI K B G H σ ρ)(h:RepD K G v (.tup ds)):∃a xs,v= .ref a/\H a=some (.tup xs)/\RepL K G xs ds:=by
 obtain⟨a,xs,e,q,r⟩:=h
 exact⟨a,xs,e,I.fz a _ q,r⟩
theorem SI.newT (I:SI K B G H σ ρ)(hp:H p=none)(h:RepL K G xs ds):SI K B (upd G p (.tup xs)) (upd H p (.tup xs)) σ ρ/\Fz G (upd G p (.tup xs))/\RepD K (upd G p (.tup xs)) (.ref p) (.tup ds):=
 ⟨I.allocF hp _,Fz.new (I.fz.free hp) _,⟨p,xs,rfl,zaw,h.mono (Fz.new (I.fz.free hp) _)⟩⟩
theorem SI.newL (I:SI K B G H σ ρ)(hp:H p=none)(h:RepL K G xs ds):SI K B (upd G p (.lst xs)) (upd H p (.lst xs)) σ ρ/\Fz G (upd G p (.lst xs))/\RepD K (upd G p (.lst xs)) (.ref p) (.lst ds):=
 ⟨I.allocF hp _,Fz.new (I.fz.free hp) _,⟨p,xs,rfl,zaw,h.mono (Fz.new (I.fz.free hp) _)⟩⟩
end
noncomputable def dI2 (c:Int->Int->Bool)(g:Int->Int->D):D->D->Option D
 | .int i,.int j=>if c i j then some (g i j)else none
 |_,_=>none
theorem zon {c:Int->Int->Bool}{g:Int->Int->Int}(hc:∀i j,c i j=true->C i j):V2 X (rI C fun i j=> .int (g i j)) (dI2 c fun i j=> .int (g i j)):=by
 intro B G H σ ρ x y a b d Q I ra rb hf k
 cases a<;>cases b<;>simp only[dI2]at hf<;>try cases hf
 rename_i i j
 split at hf
 ·rename_i h
  cases hf
  exact⟨i,j,ra,rb,hc i j h,k G H _ I (Fz.refl G) rfl⟩
 ·cases hf
theorem v2_int0 {g:Int->Int->Int}:V2 X (rI0 fun i j=> .int (g i j)) (dI2 (fun _ _=>true) fun i j=> .int (g i j)):=by
 intro B G H σ ρ x y a b d Q I ra rb hf k
 cases a<;>cases b<;>simp only[dI2]at hf<;>try cases hf
 rename_i i j
 exact⟨i,j,ra,rb,k G H _ I (Fz.refl G) rfl⟩
theorem zjt {g:Int->Int->Bool}:V2 X (rI0 fun i j=> .bl (g i j)) (dI2 (fun _ _=>true) fun i j=> .bl (g i j)):=by
 intro B G H σ ρ x y a b d Q I ra rb hf k
 cases a<;>cases b<;>simp only[dI2]at hf<;>try cases hf
 rename_i i j
 exact⟨i,j,ra,rb,k G H _ I (Fz.refl G) rfl⟩
noncomputable def dSub:D->D->Option D:=dI2 (fun _ _=>true) fun i j=> .int (i-j)
noncomputable def znh (j:Int):Bool:=decide (0<j)&&decide (j.natAbs.log2<9000)
theorem op_fdivW:OpR X (binaryOp .FloorDiv) (rI (fun _ j=>0<j/\j.natAbs.log2<9000) fun i j=> .int (i/j)):=opI fun i j _ _ _ _ _ hc q=>by
 have h1:(0:Int)<j:=hc.1
 exact PyProof.Rows.floordiv_int (by lia) (by rw[Int.fdiv_eq_ediv_of_nonneg i (by lia)];exact q) (.inl (PyProof.noPylong_of_log2 hc.2))
noncomputable def dDiv:D->D->Option D:=dI2 (fun _ j=>znh j) fun i j=> .int (i/j)
noncomputable def dMod:D->D->Option D:=dI2 (fun _ j=>decide (0<j)) fun i j=> .int (i%j)
noncomputable def dPow:D->D->Option D:=dI2 (fun i j=>decide (0<=j)&&decide (j<=1000000)&&decide (i.natAbs<2^64)) fun i j=> .int (i^j.toNat)
noncomputable def dLt:D->D->Option D:=dI2 (fun _ _=>true) fun i j=> .bl (decide (i<j))
noncomputable def dLe:D->D->Option D:=dI2 (fun _ _=>true) fun i j=> .bl (decide (i<=j))
noncomputable def dGt:D->D->Option D:=dI2 (fun _ _=>true) fun i j=> .bl (decide (j<i))
noncomputable def dGe:D->D->Option D:=dI2 (fun _ _=>true) fun i j=> .bl (decide (j<=i))
section
variable {X:Cx} {a b:Expr} {ma mb:ME} {pos:Pos}
theorem zbh (ha:SE X a ma)(hb:SE X b mb):SE X (.BinOp a .Sub b pos) (m2 dSub ma mb):=zlW op_sub v2_int0 ha hb
theorem zkB (ha:SE X a ma)(hb:SE X b mb):SE X (.BinOp a .FloorDiv b pos) (m2 dDiv ma mb):=zlW op_fdivW (zon fun i j h=>by simpa[znh]using h) ha hb
theorem zhn (ha:SE X a ma)(hb:SE X b mb):SE X (.BinOp a .Mod b pos) (m2 dMod ma mb):=zlW op_mod (zon fun i j h=>by simpa using h) ha hb
theorem zeW (ha:SE X a ma)(hb:SE X b mb):SE X (.BinOp a .Pow b pos) (m2 dPow ma mb):=zlW op_pow (zon fun i j h=>by simp only[Bool.and_eq_true,decide_eq_true_eq]at h;exact⟨h.1.1,h.1.2,h.2⟩) ha hb
theorem se_le (ha:SE X a ma)(hb:SE X b mb):SE X (.Compare a [.LtE] [b] pos) (m2 dLe ma mb):=zmt op_le zjt ha hb (zhH _)
theorem se_ge (ha:SE X a ma)(hb:SE X b mb):SE X (.Compare a [.GtE] [b] pos) (m2 dGe ma mb):=zmt op_ge zjt ha hb (zhH _)
end
noncomputable def dNeg:D->Option D
 | .int i=>some (.int (-i))
 |_=>none
theorem zdE {ma:ME}(ha:SE X a ma):SE X (.UnaryOp .USub a pos) (m1 dNeg ma):=
 se_un un_neg (fun B G H σ ρ x a d Q I ra hf k=>by
  cases a<;>simp only[dNeg]at hf<;>try cases hf
  exact⟨_,ra,k G H _ I (Fz.refl G) rfl⟩) ha
noncomputable def zlt (i j:Int):Bool:=(decide (i.natAbs<2^64)||decide (j.natAbs<2^64))||(decide (i.natAbs<2^4000)&&decide (j.natAbs<2^4000))
noncomputable def dMul:D->D->Option D
 | .int i,.int j=>if zlt i j then some (.int (i*j))else none
 | .lst ds,.int k=>if decide (-1000000<=k)&&decide (k<=1000000)&&decide (ds.length*k.toNat<=1000000)then some (.lst (List.replicate k.toNat ds).flatten)else none
 |_,_=>none
theorem zjl {k:Int}(h:k.natAbs<2^4000):Builtin.Int.intBits k<=4000:=by
 unfold Builtin.Int.intBits
 split
 ·exact Nat.zero_le _
 ·have:k.natAbs.log2<4000:=by
   rcases Nat.eq_zero_or_pos k.natAbs with h0|hp
   ·rw[h0];decide
   ·exact(Nat.log2_lt (Nat.ne_of_gt hp)).mpr h
  lia
theorem mulOk_ok {i j:Int}(h:zlt i j=true):IntMulOk i j:=by
 unfold zlt at h
 simp only[Bool.or_eq_true,Bool.and_eq_true,decide_eq_true_eq]at h
 rcases h with(h|h)|⟨h1,h2⟩
 ·exact .of_left (intBits_le_64 (by lia) (by lia))
 ·exact .of_right (intBits_le_64 (by lia) (by lia))
 ·have b1:=zjl h1
  have b2:=zjl h2
  unfold IntMulOk
  intro z
  simp only[Bool.and_eq_true]at z
  have z2:=z.2
  unfold Builtin.Int.intTooBig at z2
  revert z2
  generalize Builtin.Int.intBits i=p at*
  generalize Builtin.Int.intBits j=q at*
  intro z2
  have z3:=of_decide_eq_true z2
  have hb:=bitsLine_eq
  lia
theorem op_mulG:OpR X (binaryOp .Mult) (rI IntMulOk fun i j=> .int (i*j)):=opI fun _ _ _ _ _ _ _ hc q=>mul_int q hc
theorem zb1 {ma mb:ME}(ha:SE X a ma)(hb:SE X b mb):SE X (.BinOp a .Mult b pos) (m2 dMul ma mb):=by
 refine zlW (op_mulG.or op_rep) (fun B G H σ ρ x y a b d Q I ra rb hf k=>?_) ha hb
 cases a<;>cases b<;>simp only[dMul]at hf<;>try cases hf
 ·rename_i i j
  split at hf
  ·rename_i h
   cases hf
   exact .inl ⟨i,j,ra,rb,mulOk_ok h,k G H _ I (Fz.refl G) rfl⟩
  ·cases hf
 ·rename_i ds j
  split at hf
  ·rename_i h
   cases hf
   simp only[Bool.and_eq_true,decide_eq_true_eq]at h
   obtain⟨a,xs,rfl,ha,r⟩:=I.lst ra
   have hl:=r.length
   refine .inr ⟨a,j,xs,rfl,rb,ha,by lia,by lia,by rw[hl,sizeLine_eq];lia,fun p hp=>?_⟩
   obtain⟨I2,f2,r2⟩:=I.newL hp (r.rep j.toNat)
   exact k _ _ _ I2 f2 r2
  ·cases hf
noncomputable def dAdd:D->D->Option D
 | .int i,.int j=>some (.int (i+j))
 | .tup a,.tup b=>if a.length+b.length<=16777216 then some (.tup (a++b))else none
 | .lst a,.lst b=>if a.length+b.length<=16777216 then some (.lst (a++b))else none
 | .str a,.str b=>if a.length+b.length<=16777216 then some (.str (a++b))else none
 |_,_=>none
theorem op_catT0:OpR X (binaryOp .Add) (fun x y H Q=>∃a b ys,x= .ref a/\y= .ref b/\SqT X.K H a []/\SqT X.K H b ys/\Q (.ref b) H):=by
 intro pins s σ H x y v u Q I rx ry h
 obtain⟨a,b,ys,rfl,rfl,ha,hb,q⟩:=h
 cases rx
 cases ry
 obtain⟨its,r1,p1,_⟩:=I.tuple ha
 obtain⟨its2,r2,p2,_⟩:=I.tuple hb
 obtain rfl:its=[]:=by cases r1;rfl
 obtain⟨⟨cls,dd,data,sl⟩,ho,hc,n,hd⟩:=id p1
 obtain⟨⟨cls2,dd2,data2,sl2⟩,ho2,hc2,n2,hd2⟩:=id p2
 simp only at hc hd hc2 hd2
 subst hc hd hc2 hd2
 exact concat_meets ⟨_,ho,rfl⟩ ⟨_,ho2,rfl⟩ noFill_tuple_add seq_tuple_add PySem.F.slot_tuple_add PySem.F.entry_tuple_add (PySem.F.args_tuple_add_2 _ _)
   (tuple_addW0 a b _ _ n n2 dd dd2 sl sl2 (by simp)) ⟨ho,ho2,⟨.ref b,H,I,rfl,q⟩⟩
theorem zav {ma mb:ME}(ha:SE X a ma)(hb:SE X b mb):SE X (.BinOp a .Add b pos) (m2 dAdd ma mb):=by
 refine zlW (op_add.or (op_catT.or (op_catT0.or (op_cat.or znn)))) (fun B G H σ ρ x y a b d Q I ra rb hf k=>?_) ha hb
 cases a<;>cases b<;>simp only[dAdd]at hf<;>try cases hf
 ·exact .inl ⟨_,_,ra,rb,k G H _ I (Fz.refl G) rfl⟩
 ·rename_i i j
  split at hf
  ·rename_i h
   cases hf
   exact .inr (.inr (.inr (.inr ⟨i,j,ra,rb,by rw[sizeLine_eq];exact h,k G H _ I (Fz.refl G) rfl⟩)))
  ·cases hf
 ·rename_i as bs
  split at hf
  ·rename_i h
   cases hf
   obtain⟨a,xs,rfl,ha,r⟩:=I.lst ra
   obtain⟨b,ys,rfl,hb,r2⟩:=I.lst rb
   refine .inr (.inr (.inr (.inl ⟨a,b,xs,ys,rfl,rfl,ha,hb,by rw[r.length,r2.length,sizeLine_eq];exact h,fun p hp=>?_⟩)))
   obtain⟨I2,f2,r2⟩:=I.newL hp (r.append r2)
   exact k _ _ _ I2 f2 r2
  ·cases hf
 ·rename_i as bs
  split at hf
  ·rename_i h
   cases hf
   obtain⟨a,xs,rfl,ha,r⟩:=I.tup ra
   obtain⟨b,ys,rfl,hb,r2⟩:=I.tup rb
   by_cases z:xs=[]
   ·subst z
    have z':as=[]:=List.eq_nil_of_length_eq_zero r.length.symm
    subst z'
    exact .inr (.inr (.inl ⟨a,b,ys,rfl,rfl,SqT.of ha,SqT.of hb,k G H _ I (Fz.refl G) rb⟩))
   ·refine .inr (.inl ⟨a,b,xs,ys,rfl,rfl,SqT.of ha,SqT.of hb,z,by rw[r.length,r2.length,sizeLine_eq];exact h,fun w=>?_,fun w p hp=>?_⟩)
    ·subst w
     have w':bs=[]:=List.eq_nil_of_length_eq_zero r2.length.symm
     subst w'
     rw[List.append_nil]at k
     exact k G H _ I (Fz.refl G) ra
    ·obtain⟨I2,f2,r2⟩:=I.newT hp (r.append r2)
     exact k _ _ _ I2 f2 r2
  ·cases hf
mutual
noncomputable def noS:D->Bool
 | .scr _=>false
 | .exc _=>false
 | .dic _ _=>false
 | .dit _ _=>false
 | .lst ds=>noSL ds
 | .tup ds=>noSL ds
 |_=>true
noncomputable def noSL:List D->Bool
 |[]=>true
 |d::ds=>noS d&&noSL ds
end
mutual
noncomputable def eqB:D->D->Bool
 | .non,.non=>true
 | .bl a,.bl b=>a==b
 | .int a,.int b=>a==b
 | .str a,.str b=>a==b
 | .bl a,.int b=>(if a then 1 else 0)==b
 | .int a,.bl b=>a==(if b then 1 else 0)
 | .lst a,.lst b=>eqBL a b
 | .tup a,.tup b=>eqBL a b
 |_,_=>false
noncomputable def eqBL:List D->List D->Bool
 |[],[]=>true
 |a::as,b::bs=>eqB a b&&eqBL as bs
 |_,_=>false
end
theorem zhl:∀{as bs:List D},as.length≠bs.length->eqBL as bs=false
 |[],[],h=>absurd rfl h
 |[],_::_,_=>rfl
 |_::_,[],_=>rfl
 |a::as,b::bs,h=>by
  have:=zhl (as:=as) (bs:=bs) (fun e=>h (by simp[e]))
  simp[eqBL,this]
mutual
theorem zj5:∀d,noS d=true->eqB d d=true
 | .non,_=>rfl
 | .bl b,_=>by simp[eqB]
 | .int b,_=>by simp[eqB]
 | .str b,_=>by simp[eqB]
 | .lst ds,h=>by simp only[noS]at h;simp only[eqB];exact ziE ds h
 | .tup ds,h=>by simp only[noS]at h;simp only[eqB];exact ziE ds h
 | .scr _,h=>by simp[noS]at h
 | .exc _,h=>by simp[noS]at h
 |(.dic _ _),h=>by simp[noS]at h
 |(.dit _ _),h=>by simp[noS]at h
theorem ziE:∀ds,noSL ds=true->eqBL ds ds=true
 |[],_=>rfl
 |d::ds,h=>by
  simp only[noSL,Bool.and_eq_true]at h
  simp only[eqBL,Bool.and_eq_true]
  exact⟨zj5 d h.1,ziE ds h.2⟩
end
mutual
noncomputable def depth:D->Nat
 | .lst ds=>zgC ds+1
 | .tup ds=>zgC ds+1
 |_=>0
noncomputable def zgC:List D->Nat
 |[]=>0
 |d::ds=>max (depth d) (zgC ds)
end
theorem zh1:∀{l:List D} {i:Nat} {d:D},l[i]? =some d->depth d<=zgC l
 |[],_,_,h=>by simp at h
 |c::l,0,d,h=>by simp at h;subst h;simp only[zgC];lia
 |c::l,i+1,d,h=>by
  have:=zh1 (l:=l) (i:=i) (d:=d) (by simpa using h)
  simp only[zgC];lia
theorem zhB:∀{l:List D} {i:Nat} {d:D},l[i]? =some d->noSL l=true->noS d=true
 |[],_,_,h,_=>by simp at h
 |c::l,0,d,h,z=>by simp at h;subst h;simp only[noSL,Bool.and_eq_true]at z;exact z.1
 |c::l,i+1,d,h,z=>by simp only[noSL,Bool.and_eq_true]at z;exact zhB (l:=l) (i:=i) (by simpa using h) z.2
mutual
theorem RepD.inj:∀{a b:D} {x:V},noS a=true->noS b=true->RepD K G x a->RepD K G x b->a=b
 | .non,b,x,_,nb,ra,rb=>by
  cases(show x=V.non from ra)
  cases b<;>simp_all [RepD,noS]
 | .bl c,b,x,_,nb,ra,rb=>by
  cases(show x=V.bl c from ra)
  cases b<;>simp_all [RepD,noS]
 | .int c,b,x,_,nb,ra,rb=>by
  cases(show x=V.int c from ra)
  cases b<;>simp_all [RepD,noS]
 | .str c,b,x,_,nb,ra,rb=>by
  cases(show x=V.str c from ra)
  cases b<;>simp_all [RepD,noS]
 | .lst ds,b,x,na,nb,ra,rb=>by
  obtain⟨p,xs,rfl,q,r⟩:=ra
  cases b with
  |lst es=>
   obtain⟨p2,ys,e,q2,r2⟩:=rb
   cases e
   rw[q]at q2
   cases q2
   simp only[noS]at na nb
   rw[RepL.inj na nb r r2]
  |tup es=>
   obtain⟨p2,ys,e,q2,r2⟩:=rb
   cases e
   rw[q]at q2
   cases q2
  |scr _=>simp[noS]at nb
  |exc _=>simp[noS]at nb
  |dic _ _=>simp[noS]at nb
  |dit _ _=>simp[noS]at nb
  |non=>simp[RepD]at rb
  |bl _=>simp[RepD]at rb
  |int _=>simp[RepD]at rb
  |str _=>simp[RepD]at rb
 | .tup ds,b,x,na,nb,ra,rb=>by
  obtain⟨p,xs,rfl,q,r⟩:=ra
  cases b with
  |tup es=>
   obtain⟨p2,ys,e,q2,r2⟩:=rb
   cases e
   rw[q]at q2
   cases q2
   simp only[noS]at na nb
   rw[RepL.inj na nb r r2]
  |lst es=>
   obtain⟨p2,ys,e,q2,r2⟩:=rb
   cases e
   rw[q]at q2
   cases q2
  |scr _=>simp[noS]at nb
  |exc _=>simp[noS]at nb
  |dic _ _=>simp[noS]at nb
  |dit _ _=>simp[noS]at nb
  |non=>simp[RepD]at rb
  |bl _=>simp[RepD]at rb
  |int _=>simp[RepD]at rb
  |str _=>simp[RepD]at rb
 | .scr _,_,_,na,_,_,_=>by simp[noS]at na
 | .exc _,_,_,na,_,_,_=>by simp[noS]at na
 |(.dic _ _),_,_,na,_,_,_=>by simp[noS]at na
 |(.dit _ _),_,_,na,_,_,_=>by simp[noS]at na
theorem RepL.inj:∀{as bs:List D} {xs:List V},noSL as=true->noSL bs=true->RepL K G xs as->RepL K G xs bs->as=bs
 |[],[],_,_,_,_,_=>rfl
 |[],_::_,xs,_,_,e,h=>by
  obtain⟨_,_,e2,_⟩:=h
  cases(show xs=[]from e)
  cases e2
 |_::_,[],xs,_,_,h,e=>by
  obtain⟨_,_,e2,_⟩:=h
  cases(show xs=[]from e)
  cases e2
 |a::as,b::bs,xs,na,nb,h,h2=>by
  obtain⟨x,ys,e,q,r⟩:=h
  obtain⟨x2,ys2,e2,q2,r2⟩:=h2
  subst e
  cases e2
  simp only[noSL,Bool.and_eq_true]at na nb
  rw[RepD.inj na.1 nb.1 q q2,RepL.inj na.2 nb.2 r r2]
end
noncomputable def eqJ (ds es:List D)(j:Nat):Bool:=match ds[j]?,es[j]? with
 |some a,some b=>eqB a b
 |_,_=>false
theorem zek:∀(as bs:List D),as.length=bs.length->(List.range as.length).all (eqJ as bs)=eqBL as bs
 |[],[],_=>by simp[eqBL]
 |a::as,b::bs,h=>by
  have ih:=zek as bs (by simpa using h)
  rw[List.length_cons,List.range_succ_eq_map,List.all_cons,List.all_map]
  simp only[eqBL,<-ih]
  congr 1
 |[],_::_,h=>by simp at h
 |_::_,[],h=>by simp at h
section
variable {X:Cx} {pins:List (Addr×Obj)} {σ:St} {H G:Hp} {s:Shared}
theorem zjV (r:Vals xs us)(h:RepL X.K G xs ds)(e:us[j]? =some u):∃x d,ds[j]? =some d/\RelV x u/\RepD X.K G x d:=by
 have hl:=r.length
 have hl2:=h.length
 have hj:j<us.length:=(List.getElem?_eq_some_iff.mp e).1
 have ej:ds[j]? =some ds[j]:=List.getElem?_eq_getElem (by lia)
 obtain⟨x,q1,q2⟩:=h.get ej
 obtain⟨u',h1,h2⟩:=r.get q1
 have:u'=u:=by rw[h1]at e;exact Option.some.inj e
 subst this
 exact⟨x,_,ej,h2,q2⟩
theorem eqAt_D (I:Inv X pins σ H s)(fz:Fz G H):∀(n:Nat) (A:Around) (a b:D) (x y:V) (u v:Value),depth a<=n->noS a=true->noS b=true->A.units+n+1<cLine->RepD X.K G x a->RepD X.K G y b->RelV x u->RelV y v->
  SeqAt.EqAt A s u v (eqB a b)/\SeqAt.RcAt A s u v (eqB a b):=by
 intro n
 induction n with
 |zero=>
  intro A a b x y u v hd na nb hu ra rb rx ry
  have hu':A.units<cLine:=by lia
  cases a with
  |non=>
   cases(show x=V.non from ra);cases(show u=Value.none from rx)
   cases b with
   |non=>cases(show y=V.non from rb);cases(show v=Value.none from ry);exact⟨.same _,.none_none⟩
   |bl c=>cases(show y=V.bl c from rb);cases(show v=Value.bool c from ry);exact⟨.none_bool _,.none_bool _⟩
   |int c=>cases(show y=V.int c from rb);obtain⟨t,rfl⟩:=ry;exact⟨.none_int _ _,.none_int _ _⟩
   |str c=>cases(show y=V.str c from rb);obtain⟨t,rfl⟩:=ry;exact⟨.none_str _ _,.none_str _ _⟩
   |lst ds=>
    obtain⟨p,xs,rfl,q,r⟩:=rb
    cases(show v=Value.ref p from ry)
    obtain⟨its,rv,pl,hz⟩:=I.list (SqL.of (fz _ _ q))
    exact⟨.none_list pl.isList hu',.none_list pl.isList hu'⟩
   |tup ds=>
    obtain⟨p,xs,rfl,q,r⟩:=rb
    cases(show v=Value.ref p from ry)
    obtain⟨its,rv,pl,hz⟩:=I.tuple (SqT.of (fz _ _ q))
    exact⟨.none_tuple pl hu',.none_tuple pl hu'⟩
   |scr _=>simp[noS]at nb
   |exc _=>simp[noS]at nb
   |dic _ _=>simp[noS]at nb
   |dit _ _=>simp[noS]at nb
  |bl c0=>
   cases(show x=V.bl c0 from ra);cases(show u=Value.bool c0 from rx)
   cases b with
   |non=>cases(show y=V.non from rb);cases(show v=Value.none from ry);exact⟨.bool_none _,.bool_none _⟩
   |bl c=>cases(show y=V.bl c from rb);cases(show v=Value.bool c from ry);exact⟨.bool_bool _ _,.bool_bool _ _⟩
   |int c=>cases(show y=V.int c from rb);obtain⟨t,rfl⟩:=ry;exact⟨.bool_int _ _ _,.bool_int _ _ _⟩
   |str c=>cases(show y=V.str c from rb);obtain⟨t,rfl⟩:=ry;exact⟨.bool_str _ _ _,.bool_str _ _ _⟩
   |lst ds=>
    obtain⟨p,xs,rfl,q,r⟩:=rb
    cases(show v=Value.ref p from ry)
    obtain⟨its,rv,pl,hz⟩:=I.list (SqL.of (fz _ _ q))
    exact⟨.bool_list _ pl.isList hu',.bool_list _ pl.isList hu'⟩
   |tup ds=>
    obtain⟨p,xs,rfl,q,r⟩:=rb
    cases(show v=Value.ref p from ry)
    obtain⟨its,rv,pl,hz⟩:=I.tuple (SqT.of (fz _ _ q))
    exact⟨.bool_tuple _ pl hu',.bool_tuple _ pl hu'⟩
   |scr _=>simp[noS]at nb
   |exc _=>simp[noS]at nb
   |dic _ _=>simp[noS]at nb
   |dit _ _=>simp[noS]at nb
  |int c0=>
   cases(show x=V.int c0 from ra);obtain⟨t0,rfl⟩:=rx
   cases b with
   |non=>cases(show y=V.non from rb);cases(show v=Value.none from ry);exact⟨.int_none _ _,.int_none _ _⟩
   |bl c=>cases(show y=V.bl c from rb);cases(show v=Value.bool c from ry);exact⟨.int_bool _ _ _,.int_bool _ _ _⟩
   |int c=>cases(show y=V.int c from rb);obtain⟨t,rfl⟩:=ry;exact⟨.int_int _ _ _ _,.int_int _ _ _ _⟩
   |str c=>cases(show y=V.str c from rb);obtain⟨t,rfl⟩:=ry;exact⟨.int_str _ _ _ _,.int_str _ _ _ _⟩
   |lst ds=>
    obtain⟨p,xs,rfl,q,r⟩:=rb
    cases(show v=Value.ref p from ry)
    obtain⟨its,rv,pl,hz⟩:=I.list (SqL.of (fz _ _ q))
    exact⟨.int_list _ _ pl.isList hu',.int_list _ _ pl.isList hu'⟩
   |tup ds=>
    obtain⟨p,xs,rfl,q,r⟩:=rb
    cases(show v=Value.ref p from ry)
    obtain⟨its,rv,pl,hz⟩:=I.tuple (SqT.of (fz _ _ q))
    exact⟨.int_tuple _ _ pl hu',.int_tuple _ _ pl hu'⟩
   |scr _=>simp[noS]at nb
   |exc _=>simp[noS]at nb
   |dic _ _=>simp[noS]at nb
   |dit _ _=>simp[noS]at nb
  |str c0=>
   cases(show x=V.str c0 from ra);obtain⟨t0,rfl⟩:=rx
   cases b with
   |non=>cases(show y=V.non from rb);cases(show v=Value.none from ry);exact⟨.str_none _ _,.str_none _ _⟩
   |bl c=>cases(show y=V.bl c from rb);cases(show v=Value.bool c from ry);exact⟨.str_bool _ _ _,.str_bool _ _ _⟩
   |int c=>cases(show y=V.int c from rb);obtain⟨t,rfl⟩:=ry;exact⟨.str_int _ _ _ _,.str_int _ _ _ _⟩
   |str c=>cases(show y=V.str c from rb);obtain⟨t,rfl⟩:=ry;exact⟨.str_str _ _ _ _,.str_str _ _ _ _⟩
   |lst ds=>
    obtain⟨p,xs,rfl,q,r⟩:=rb
    cases(show v=Value.ref p from ry)
    obtain⟨its,rv,pl,hz⟩:=I.list (SqL.of (fz _ _ q))
    exact⟨.str_list _ _ pl.isList hu',.str_list _ _ pl.isList hu'⟩
   |tup ds=>
    obtain⟨p,xs,rfl,q,r⟩:=rb
    cases(show v=Value.ref p from ry)
    obtain⟨its,rv,pl,hz⟩:=I.tuple (SqT.of (fz _ _ q))
    exact⟨.str_tuple _ _ pl hu',.str_tuple _ _ pl hu'⟩
   |scr _=>simp[noS]at nb
   |exc _=>simp[noS]at nb
   |dic _ _=>simp[noS]at nb
   |dit _ _=>simp[noS]at nb
  |lst ds=>simp[depth]at hd
  |tup ds=>simp[depth]at hd
  |scr _=>simp[noS]at na
  |exc _=>simp[noS]at na
  |dic _ _=>simp[noS]at na
  |dit _ _=>simp[noS]at na
 |succ n ih=>
  intro A a b x y u v hd na nb hu ra rb rx ry
  have hu':A.units<cLine:=by lia
  have items:∀(ds es:List D) (xs ys:List V) (its its2:List Value),zgC ds<=n->noSL ds=true->noSL es=true->RepL X.K G xs ds->RepL X.K G ys es->Vals xs its->Vals ys its2->
    ∀j (h1:j<its.toArray.size) (h2:j<its2.toArray.size),SeqAt.EqAt A.in1 s its.toArray[j] its2.toArray[j] (eqJ ds es j):=by
   intro ds es xs ys its its2 hd nd ne r r2 rv rv2 j h1 h2
   simp only[List.size_toArray]at h1 h2
   obtain⟨x1,d1,e1,k1,m1⟩:=zjV rv r (j:=j) (u:=its[j]) (List.getElem?_eq_getElem h1)
   obtain⟨x2,d2,e2,k2,m2⟩:=zjV rv2 r2 (j:=j) (u:=its2[j]) (List.getElem?_eq_getElem h2)
   have e:eqJ ds es j=eqB d1 d2:=by unfold eqJ;rw[e1,e2]
   rw[e]
   have:=zh1 e1
   simpa using(ih A.in1 d1 d2 x1 x2 _ _ (by lia) (zhB e1 nd) (zhB e2 ne) (by show A.units+1+n+1<cLine;lia) m1 m2 k1 k2).1
  cases a with
  |scr _=>simp[noS]at na
  |exc _=>simp[noS]at na
  |dic _ _=>simp[noS]at na
  |dit _ _=>simp[noS]at na
  |non=>exact ih A .non b x y u v (Nat.zero_le _) na nb (by lia) ra rb rx ry
  |bl c=>exact ih A (.bl c) b x y u v (Nat.zero_le _) na nb (by lia) ra rb rx ry
  |int c=>exact ih A (.int c) b x y u v (Nat.zero_le _) na nb (by lia) ra rb rx ry
  |str c=>exact ih A (.str c) b x y u v (Nat.zero_le _) na nb (by lia) ra rb rx ry
  |lst ds=>
   have ra0:=ra
   obtain⟨p,xs,rfl,q,r⟩:=ra
   cases(show u=Value.ref p from rx)
   obtain⟨its,rv,pl,hz⟩:=I.list (SqL.of (fz _ _ q))
   cases b with
   |non=>cases(show y=V.non from rb);cases(show v=Value.none from ry);exact⟨.list_none pl.isList hu',.list_none pl.isList hu'⟩
   |bl c=>cases(show y=V.bl c from rb);cases(show v=Value.bool c from ry);exact⟨.list_bool _ pl.isList hu',.list_bool _ pl.isList hu'⟩
   |int c=>cases(show y=V.int c from rb);obtain⟨t,rfl⟩:=ry;exact⟨.list_int _ _ pl.isList hu',.list_int _ _ pl.isList hu'⟩
   |str c=>cases(show y=V.str c from rb);obtain⟨t,rfl⟩:=ry;exact⟨.list_str _ _ pl.isList hu',.list_str _ _ pl.isList hu'⟩
   |scr _=>simp[noS]at nb
   |exc _=>simp[noS]at nb
   |dic _ _=>simp[noS]at nb
   |dit _ _=>simp[noS]at nb
   |tup es=>
    obtain⟨p2,ys,rfl,q2,r2⟩:=rb
    cases(show v=Value.ref p2 from ry)
    obtain⟨its2,rv2,pl2,hz2⟩:=I.tuple (SqT.of (fz _ _ q2))
    exact⟨.list_tuple pl.isList pl2 hu',.list_tuple pl.isList pl2 hu'⟩
   |lst es=>
    have rb0:=rb
    obtain⟨p2,ys,rfl,q2,r2⟩:=rb
    cases(show v=Value.ref p2 from ry)
    obtain⟨its2,rv2,pl2,hz2⟩:=I.list (SqL.of (fz _ _ q2))
    simp only[depth]at hd
    have l1:=rv.length;have l2:=r.length;have l3:=rv2.length;have l4:=r2.length
    have rc:SeqAt.RcAt A s (.ref p) (.ref p2) (eqBL ds es):=by
     by_cases hl:ds.length=es.length
     ·have z:=SeqAt.RcAt.lists (A:=A) (s:=s) (e:=eqJ ds es) pl.isList pl2.isList (by simp only[List.size_toArray];lia) hu' (items ds es xs ys its its2 (by lia) (by simpa only[noS]using na) (by simpa only[noS]using nb) r r2 rv rv2)
      rw[List.size_toArray,<-l1,l2,zek ds es hl]at z
      exact z
     ·rw[zhl hl]
      refine .lists_lengths pl.isList pl2.isList ?_ hu'
      simp only[List.size_toArray,bne_iff_ne,ne_eq]
      lia
    refine⟨?_,by simp only[eqB];exact rc⟩
    by_cases hp:p=p2
    ·subst hp
     have e:=RepD.inj na nb ra0 rb0
     cases e
     rw[zj5 _ na]
     exact .same _
    ·simp only[eqB]
     exact .of_refs hp rc
  |tup ds=>
   have ra0:=ra
   obtain⟨p,xs,rfl,q,r⟩:=ra
   cases(show u=Value.ref p from rx)
   obtain⟨its,rv,pl,hz⟩:=I.tuple (SqT.of (fz _ _ q))
   cases b with
   |non=>cases(show y=V.non from rb);cases(show v=Value.none from ry);exact⟨.tuple_none pl hu',.tuple_none pl hu'⟩
   |bl c=>cases(show y=V.bl c from rb);cases(show v=Value.bool c from ry);exact⟨.tuple_bool _ pl hu',.tuple_bool _ pl hu'⟩
   |int c=>cases(show y=V.int c from rb);obtain⟨t,rfl⟩:=ry;exact⟨.tuple_int _ _ pl hu',.tuple_int _ _ pl hu'⟩
   |str c=>cases(show y=V.str c from rb);obtain⟨t,rfl⟩:=ry;exact⟨.tuple_str _ _ pl hu',.tuple_str _ _ pl hu'⟩
   |scr _=>simp[noS]at nb
   |exc _=>simp[noS]at nb
   |dic _ _=>simp[noS]at nb
   |dit _ _=>simp[noS]at nb
   |lst es=>
    obtain⟨p2,ys,rfl,q2,r2⟩:=rb
    cases(show v=Value.ref p2 from ry)
    obtain⟨its2,rv2,pl2,hz2⟩:=I.list (SqL.of (fz _ _ q2))
    exact⟨.tuple_list pl pl2.isList hu',.tuple_list pl pl2.isList hu'⟩
   |tup es=>
    have rb0:=rb
    obtain⟨p2,ys,rfl,q2,r2⟩:=rb
    cases(show v=Value.ref p2 from ry)
    obtain⟨its2,rv2,pl2,hz2⟩:=I.tuple (SqT.of (fz _ _ q2))
    simp only[depth]at hd
    have l1:=rv.length;have l2:=r.length;have l3:=rv2.length;have l4:=r2.length
    have rc:SeqAt.RcAt A s (.ref p) (.ref p2) (eqBL ds es):=by
     have z:=SeqAt.RcAt.tuples (A:=A) (s:=s) (e:=eqJ ds es) pl pl2 hu' (items ds es xs ys its its2 (by lia) (by simpa only[noS]using na) (by simpa only[noS]using nb) r r2 rv rv2)
     simp only[List.size_toArray]at z
     by_cases hl:ds.length=es.length
     ·have e1:min its.length its2.length=ds.length:=by lia
      have e2:(its.length==its2.length)=true:=by simp;lia
      rw[e1,e2,Bool.and_true,zek ds es hl]at z
      exact z
     ·have e2:(its.length==its2.length)=false:=by simp;lia
      rw[e2,Bool.and_false]at z
      rw[zhl hl]
      exact z
    refine⟨?_,by simp only[eqB];exact rc⟩
    by_cases hp:p=p2
    ·subst hp
     have e:=RepD.inj na nb ra0 rb0
     cases e
     rw[zj5 _ na]
     exact .same _
    ·simp only[eqB]
     exact .of_refs hp rc
end
noncomputable def dEq (a b:D):Option D:=if noS a&&noS b&&decide (depth a<=50)then some (.bl (eqB a b))else none
noncomputable def dNe (a b:D):Option D:=if noS a&&noS b&&decide (depth a<=50)then some (.bl (!eqB a b))else none
noncomputable def rEqD (K:W.Frag)(c:Bool->Bool):R2:=fun x y H Q=>∃G a b,Fz G H/\RepD K G x a/\RepD K G y b/\noS a=true/\noS b=true/\depth a<=50/\Q (.bl (c (eqB a b))) H
theorem op_eqD (hu:X.A.units+64<cLine):OpR X (compareOp .Eq) (rEqD X.K id):=by
 intro pins s σ H x y v u Q I rx ry h
 obtain⟨G,a,b,fz,ra,rb,na,nb,hd,q⟩:=h
 exact(eqAt_D I fz 50 X.A a b x y v u hd na nb (by lia) ra rb rx ry).2 _ _ _ _ ⟨.bl _,H,I,rfl,q⟩
theorem zo1 {ma mb:ME}(hu:X.A.units+64<cLine)(ha:SE X a ma)(hb:SE X b mb):SE X (.Compare a [.Eq] [b] pos) (m2 dEq ma mb):=by
 refine zmt (op_eqD hu) (fun B G H σ ρ x y a b d Q I ra rb hf k=>?_) ha hb (zhH _)
 unfold dEq at hf
 split at hf
 ·rename_i h
  simp only[Bool.and_eq_true,decide_eq_true_eq]at h
  cases hf
  exact⟨G,a,b,I.fz,ra,rb,h.1.1,h.1.2,h.2,k G H _ I (Fz.refl G) rfl⟩
 ·cases hf
section
variable {X:Cx} {pins:List (Addr×Obj)} {σ:St} {H G:Hp} {s:Shared}
theorem neAt_D (I:Inv X pins σ H s)(fz:Fz G H)(A:Around)(a b:D)(x y:V)(u v:Value)(hd:depth a<=50)(na:noS a=true)(nb:noS b=true)(hu:A.units+64<cLine)(ra:RepD X.K G x a)(rb:RepD X.K G y b)(rx:RelV x u)(ry:RelV y v):
  SeqAt.RcNeAt A s u v (!eqB a b):=by
 have hu':A.units<cLine:=by lia
 have items:∀(ds es:List D) (xs ys:List V) (its its2:List Value),zgC ds<=49->noSL ds=true->noSL es=true->RepL X.K G xs ds->RepL X.K G ys es->Vals xs its->Vals ys its2->
   ∀j (h1:j<its.toArray.size) (h2:j<its2.toArray.size),SeqAt.EqAt A.in1 s its.toArray[j] its2.toArray[j] (eqJ ds es j):=by
  intro ds es xs ys its its2 hd nd ne r r2 rv rv2 j h1 h2
  simp only[List.size_toArray]at h1 h2
  obtain⟨x1,d1,e1,k1,m1⟩:=zjV rv r (j:=j) (u:=its[j]) (List.getElem?_eq_getElem h1)
  obtain⟨x2,d2,e2,k2,m2⟩:=zjV rv2 r2 (j:=j) (u:=its2[j]) (List.getElem?_eq_getElem h2)
  have e:eqJ ds es j=eqB d1 d2:=by unfold eqJ;rw[e1,e2]
  rw[e]
  have:=zh1 e1
  simpa using(eqAt_D I fz 49 A.in1 d1 d2 x1 x2 _ _ (by lia) (zhB e1 nd) (zhB e2 ne) (by show A.units+1+49+1<cLine;lia) m1 m2 k1 k2).1
 cases a with
 |scr _=>simp[noS]at na
 |exc _=>simp[noS]at na
 |dic _ _=>simp[noS]at na
 |dit _ _=>simp[noS]at na
 |non=>
  cases(show x=V.non from ra);cases(show u=Value.none from rx)
  cases b with
  |non=>cases(show y=V.non from rb);cases(show v=Value.none from ry);exact .none_none
  |bl c=>cases(show y=V.bl c from rb);cases(show v=Value.bool c from ry);exact .none_bool _
  |int c=>cases(show y=V.int c from rb);obtain⟨t,rfl⟩:=ry;exact .none_int _ _
  |str c=>cases(show y=V.str c from rb);obtain⟨t,rfl⟩:=ry;exact .none_str _ _
  |lst ds=>
   obtain⟨p,xs,rfl,q,r⟩:=rb
   cases(show v=Value.ref p from ry)
   obtain⟨its,rv,pl,hz⟩:=I.list (SqL.of (fz _ _ q))
   exact .none_list pl.isList hu'
  |tup ds=>
   obtain⟨p,xs,rfl,q,r⟩:=rb
   cases(show v=Value.ref p from ry)
   obtain⟨its,rv,pl,hz⟩:=I.tuple (SqT.of (fz _ _ q))
   exact .none_tuple pl hu'
  |scr _=>simp[noS]at nb
  |exc _=>simp[noS]at nb
  |dic _ _=>simp[noS]at nb
  |dit _ _=>simp[noS]at nb
 |bl c0=>
  cases(show x=V.bl c0 from ra);cases(show u=Value.bool c0 from rx)
  cases b with
  |non=>cases(show y=V.non from rb);cases(show v=Value.none from ry);exact .bool_none _
  |bl c=>cases(show y=V.bl c from rb);cases(show v=Value.bool c from ry);exact .bool_bool _ _
  |int c=>cases(show y=V.int c from rb);obtain⟨t,rfl⟩:=ry;exact .bool_int _ _ _
  |str c=>cases(show y=V.str c from rb);obtain⟨t,rfl⟩:=ry;exact .bool_str _ _ _
  |lst ds=>
   obtain⟨p,xs,rfl,q,r⟩:=rb
   cases(show v=Value.ref p from ry)
   obtain⟨its,rv,pl,hz⟩:=I.list (SqL.of (fz _ _ q))
   exact .bool_list _ pl.isList hu'
  |tup ds=>
   obtain⟨p,xs,rfl,q,r⟩:=rb
   cases(show v=Value.ref p from ry)
   obtain⟨its,rv,pl,hz⟩:=I.tuple (SqT.of (fz _ _ q))
   exact .bool_tuple _ pl hu'
  |scr _=>simp[noS]at nb
  |exc _=>simp[noS]at nb
  |dic _ _=>simp[noS]at nb
  |dit _ _=>simp[noS]at nb
 |int c0=>
  cases(show x=V.int c0 from ra);obtain⟨t0,rfl⟩:=rx
  cases b with
  |non=>cases(show y=V.non from rb);cases(show v=Value.none from ry);exact .int_none _ _
  |bl c=>cases(show y=V.bl c from rb);cases(show v=Value.bool c from ry);exact .int_bool _ _ _
  |int c=>cases(show y=V.int c from rb);obtain⟨t,rfl⟩:=ry;exact .int_int _ _ _ _
  |str c=>cases(show y=V.str c from rb);obtain⟨t,rfl⟩:=ry;exact .int_str _ _ _ _
  |lst ds=>
   obtain⟨p,xs,rfl,q,r⟩:=rb
   cases(show v=Value.ref p from ry)
   obtain⟨its,rv,pl,hz⟩:=I.list (SqL.of (fz _ _ q))
   exact .int_list _ _ pl.isList hu'
  |tup ds=>
   obtain⟨p,xs,rfl,q,r⟩:=rb
   cases(show v=Value.ref p from ry)
   obtain⟨its,rv,pl,hz⟩:=I.tuple (SqT.of (fz _ _ q))
   exact .int_tuple _ _ pl hu'
  |scr _=>simp[noS]at nb
  |exc _=>simp[noS]at nb
  |dic _ _=>simp[noS]at nb
  |dit _ _=>simp[noS]at nb
 |str c0=>
  cases(show x=V.str c0 from ra);obtain⟨t0,rfl⟩:=rx
  cases b with
  |non=>cases(show y=V.non from rb);cases(show v=Value.none from ry);exact .str_none _ _
  |bl c=>cases(show y=V.bl c from rb);cases(show v=Value.bool c from ry);exact .str_bool _ _ _
  |int c=>cases(show y=V.int c from rb);obtain⟨t,rfl⟩:=ry;exact .str_int _ _ _ _
  |str c=>cases(show y=V.str c from rb);obtain⟨t,rfl⟩:=ry;exact .str_str _ _ _ _
  |lst ds=>
   obtain⟨p,xs,rfl,q,r⟩:=rb
   cases(show v=Value.ref p from ry)
   obtain⟨its,rv,pl,hz⟩:=I.list (SqL.of (fz _ _ q))
   exact .str_list _ _ pl.isList hu'
  |tup ds=>
   obtain⟨p,xs,rfl,q,r⟩:=rb
   cases(show v=Value.ref p from ry)
   obtain⟨its,rv,pl,hz⟩:=I.tuple (SqT.of (fz _ _ q))
   exact .str_tuple _ _ pl hu'
  |scr _=>simp[noS]at nb
  |exc _=>simp[noS]at nb
  |dic _ _=>simp[noS]at nb
  |dit _ _=>simp[noS]at nb
 |lst ds=>
  obtain⟨p,xs,rfl,q,r⟩:=ra
  cases(show u=Value.ref p from rx)
  obtain⟨its,rv,pl,hz⟩:=I.list (SqL.of (fz _ _ q))
  cases b with
  |non=>cases(show y=V.non from rb);cases(show v=Value.none from ry);exact .list_none pl.isList hu'
  |bl c=>cases(show y=V.bl c from rb);cases(show v=Value.bool c from ry);exact .list_bool _ pl.isList hu'
  |int c=>cases(show y=V.int c from rb);obtain⟨t,rfl⟩:=ry;exact .list_int _ _ pl.isList hu'
  |str c=>cases(show y=V.str c from rb);obtain⟨t,rfl⟩:=ry;exact .list_str _ _ pl.isList hu'
  |scr _=>simp[noS]at nb
  |exc _=>simp[noS]at nb
  |dic _ _=>simp[noS]at nb
  |dit _ _=>simp[noS]at nb
  |tup es=>
   obtain⟨p2,ys,rfl,q2,r2⟩:=rb
   cases(show v=Value.ref p2 from ry)
   obtain⟨its2,rv2,pl2,hz2⟩:=I.tuple (SqT.of (fz _ _ q2))
   exact .list_tuple pl.isList pl2 hu'
  |lst es=>
   obtain⟨p2,ys,rfl,q2,r2⟩:=rb
   cases(show v=Value.ref p2 from ry)
   obtain⟨its2,rv2,pl2,hz2⟩:=I.list (SqL.of (fz _ _ q2))
   simp only[depth]at hd
   have l1:=rv.length;have l2:=r.length;have l3:=rv2.length;have l4:=r2.length
   simp only[eqB]
   by_cases hl:ds.length=es.length
   ·have z:=SeqAt.RcNeAt.lists (A:=A) (s:=s) (e:=eqJ ds es) pl.isList pl2.isList (by simp only[List.size_toArray];lia) hu' (items ds es xs ys its its2 (by lia) (by simpa only[noS]using na) (by simpa only[noS]using nb) r r2 rv rv2)
    rw[List.size_toArray,<-l1,l2,zek ds es hl]at z
    exact z
   ·rw[zhl hl]
    refine .lists_lengths pl.isList pl2.isList ?_ hu'
    simp only[List.size_toArray,bne_iff_ne,ne_eq]
    lia
 |tup ds=>
  obtain⟨p,xs,rfl,q,r⟩:=ra
  cases(show u=Value.ref p from rx)
  obtain⟨its,rv,pl,hz⟩:=I.tuple (SqT.of (fz _ _ q))
  cases b with
  |non=>cases(show y=V.non from rb);cases(show v=Value.none from ry);exact .tuple_none pl hu'
  |bl c=>cases(show y=V.bl c from rb);cases(show v=Value.bool c from ry);exact .tuple_bool _ pl hu'
  |int c=>cases(show y=V.int c from rb);obtain⟨t,rfl⟩:=ry;exact .tuple_int _ _ pl hu'
  |str c=>cases(show y=V.str c from rb);obtain⟨t,rfl⟩:=ry;exact .tuple_str _ _ pl hu'
  |scr _=>simp[noS]at nb
  |exc _=>simp[noS]at nb
  |dic _ _=>simp[noS]at nb
  |dit _ _=>simp[noS]at nb
  |lst es=>
   obtain⟨p2,ys,rfl,q2,r2⟩:=rb
   cases(show v=Value.ref p2 from ry)
   obtain⟨its2,rv2,pl2,hz2⟩:=I.list (SqL.of (fz _ _ q2))
   exact .tuple_list pl pl2.isList hu'
  |tup es=>
   obtain⟨p2,ys,rfl,q2,r2⟩:=rb
   cases(show v=Value.ref p2 from ry)
   obtain⟨its2,rv2,pl2,hz2⟩:=I.tuple (SqT.of (fz _ _ q2))
   simp only[depth]at hd
   have l1:=rv.length;have l2:=r.length;have l3:=rv2.length;have l4:=r2.length
   have z:=SeqAt.RcNeAt.tuples (A:=A) (s:=s) (e:=eqJ ds es) pl pl2 hu' (items ds es xs ys its its2 (by lia) (by simpa only[noS]using na) (by simpa only[noS]using nb) r r2 rv rv2)
   simp only[List.size_toArray]at z
   simp only[eqB]
   by_cases hl:ds.length=es.length
   ·have e1:min its.length its2.length=ds.length:=by lia
    have e2:(its.length==its2.length)=true:=by simp;lia
    rw[e1,e2,Bool.and_true,zek ds es hl]at z
    exact z
   ·have e2:(its.length==its2.length)=false:=by simp;lia
    rw[e2,Bool.and_false]at z
    rw[zhl hl]
    exact z
end
theorem op_neD (hu:X.A.units+64<cLine):OpR X (compareOp .NotEq) (rEqD X.K not):=by
 intro pins s σ H x y v u Q I rx ry h
 obtain⟨G,a,b,fz,ra,rb,na,nb,hd,q⟩:=h
 exact neAt_D I fz X.A a b x y v u hd na nb hu ra rb rx ry _ _ _ _ ⟨.bl _,H,I,rfl,q⟩
theorem v2_ne:V2 X (rEqD X.K not) dNe:=by
 intro B G H σ ρ x y a b d Q I ra rb hf k
 unfold dNe at hf
 split at hf
 ·rename_i h
  simp only[Bool.and_eq_true,decide_eq_true_eq]at h
  cases hf
  exact⟨G,a,b,I.fz,ra,rb,h.1.1,h.1.2,h.2,k G H _ I (Fz.refl G) rfl⟩
 ·cases hf
theorem v2_eq:V2 X (rEqD X.K id) dEq:=by
 intro B G H σ ρ x y a b d Q I ra rb hf k
 unfold dEq at hf
 split at hf
 ·rename_i h
  simp only[Bool.and_eq_true,decide_eq_true_eq]at h
  cases hf
  exact⟨G,a,b,I.fz,ra,rb,h.1.1,h.1.2,h.2,k G H _ I (Fz.refl G) rfl⟩
 ·cases hf
noncomputable def dIx:D->D->Option D
 | .lst ds,.int i=>atI ds i
 | .tup ds,.int i=>atI ds i
 | .scr ns,.int i=>(atI ns i).map .int
 |_,_=>none
theorem atI_map {α β:Type}(f:α->β){xs:List α}{i:Int}{v:α}(h:atI xs i=some v):atI (xs.map f) i=some (f v):=by
 unfold atI at h ⊢
 rw[List.length_map]
 cases q:ixN xs.length i with
 |none=>rw[q]at h;cases h
 |some j=>
  rw[q]at h
  show(xs.map f)[j]? =_
  rw[List.getElem?_map,show xs[j]? =some v from h]
  rfl
noncomputable def ReadD (K:W.Frag)(G H:Hp)(v:V):D->Prop
 | .lst ds=>∃a xs,v= .ref a/\H a=some (.lst xs)/\RepL K G xs ds
 |d=>RepD K G v d
theorem ReadD.of (fz:Fz G H)(h:RepD K G v d):ReadD K G H v d:=by
 cases d with
 |lst ds=>obtain⟨a,xs,e,q,r⟩:=h;exact⟨a,xs,e,fz a _ q,r⟩
 |_=>exact h
noncomputable def Sl.read:Sl->Option D
 | .emp=>none
 | .two _ _=>none
 | .tre _=>none
 | .ptr _=>none
 | .val d=>some d
 | .own ds=>some (.lst ds)
 | .par ds=>some (.lst ds)
noncomputable def hasV (ρ:R)(j:Nat):Bool:=match ρ[j]? with
 |some (.val _)=>true
 |some (.own _)=>true
 |some (.par _)=>true
 |_=>false
theorem SI.has (I:SI K B G H σ ρ)(h:hasV ρ j=true):∃v,σ[j]? =some (some v):=by
 unfold hasV at h
 cases e:ρ[j]? with
 |none=>rw[e]at h;cases h
 |some s=>
  rw[e]at h
  have q:=I.slot j s e
  cases s with
  |emp=>cases h
  |two _ _=>cases h
  |tre _=>cases h
  |ptr _=>cases h
  |val d=>obtain⟨v,e,_⟩:=q;exact⟨v,e⟩
  |own d=>obtain⟨l,_,e,_⟩:=q;exact⟨_,e⟩
  |par d=>obtain⟨l,_,e,_⟩:=q;exact⟨_,e⟩
theorem SI.read (I:SI K B G H σ ρ)(hv:σ[j]? =some (some v))(e:ρ[j]? =some s)(q:s.read=some d):ReadD K G H v d:=by
 have h:=I.slot j s e
 cases s with
 |emp=>cases q
 |two _ _=>cases q
 |tre _=>cases q
 |ptr _=>cases q
 |val d'=>
  cases q
  obtain⟨w,e1,r⟩:=h
  rw[hv]at e1;cases e1
  exact .of I.fz r
 |own ds=>
  cases q
  obtain⟨l,xs,e1,_,h3,h4,_⟩:=h
  rw[hv]at e1;cases e1
  exact⟨l,xs,rfl,h3,h4⟩
 |par ds=>
  cases q
  obtain⟨l,xs,e1,_,h3,h4,_⟩:=h
  rw[hv]at e1;cases e1
  exact⟨l,xs,rfl,h3,h4⟩
theorem zpl {x y:V}{a b d:D}{Q:VK}(I:SI K B G H σ ρ)(ra:ReadD K G H x a)(rb:RepD K G y b)(hf:dIx a b=some d)(k:∀v,RepD K G v d->Q v H):rIx K x y H Q:=by
 cases a<;>cases b<;>simp only[dIx]at hf<;>try cases hf
 ·rename_i ds i
  obtain⟨p,xs,rfl,hp,r⟩:=ra
  obtain⟨v,e,q⟩:=r.at hf
  exact .inl ⟨p,xs,i,v,rfl,rb,SqL.of hp,e,k _ q⟩
 ·rename_i ds i
  obtain⟨p,xs,rfl,hp,r⟩:=I.tup ra
  obtain⟨v,e,q⟩:=r.at hf
  exact .inr (.inl ⟨p,xs,i,v,rfl,rb,SqT.of hp,e,k _ q⟩)
 ·rename_i ns i
  obtain⟨p,rfl,hp⟩:=ra
  cases e:atI ns i with
  |none=>rw[e]at hf;cases hf
  |some n=>
   rw[e]at hf
   cases hf
   exact .inl ⟨p,_,i,.int n,rfl,rb,I.fz.sql hp,atI_map V.int e,k _ rfl⟩
theorem v2_ix:V2 X (rIx X.K) dIx:=fun B G H σ ρ x y a b d Q I ra rb hf k=>zpl I (.of I.fz ra) rb hf fun v q=>k G H v I (Fz.refl G) q
theorem zaG {ma mb:ME}(ha:SE X a ma)(hb:SE X b mb)(hs:zjZ b:=by exact fun _ _=>rfl):SE X (.Subscript a b pos) (m2 dIx ma mb):=se_ix ix_seq v2_ix ha hb hs
noncomputable def eIxV (j:Nat)(mi:ME):ME:=fun ρ=>if hasV ρ j then(mi ρ).bind fun p=>(p.2[j]?.bind Sl.read).bind fun d=>(dIx d p.1).map fun e=>(e,p.2)else none
theorem zaj (j:Nat)(hb:SE X b mb)(hN:X.N[j]? =some x:=by rfl)(hv:Vis X.env.scope x:=by first|exact Or.inl rfl|exact Or.inr (Or.inl rfl)|exact Or.inr (Or.inr rfl))(hd:(x==("__debug__":Str))=false:=by decide)
    (hcd:(x==("__classdict__":Str))=false:=by decide) (hs:zjZ b:=by exact fun _ _=>rfl):SE X (.Subscript (.Name x pos') b pos) (eIxV j mb):=by
  obtain⟨tb,pb,sb⟩:=hb
  refine⟨_,pe_ix ix_seq (zff hN hv hd hcd) pb hs,fun B G H σ ρ d ρ' Q I hm k=>?_⟩
  unfold eIxV at hm
  split at hm
  . rename_i hh
    obtain⟨v,ev⟩:=I.has hh
    cases e1:mb ρ with
    |none=>rw[e1]at hm;cases hm
    |some q=>
      obtain⟨i,ρ1⟩:=q
      rw[e1]at hm
      simp only[Option.bind_some]at hm
      cases e2:ρ1[j]? with
      |none=>rw[e2]at hm;cases hm
      |some s=>
        rw[e2]at hm
        simp only[Option.bind_some]at hm
        cases e3:s.read with
        |none=>rw[e3]at hm;cases hm
        |some a=>
          rw[e3]at hm
          simp only[Option.bind_some]at hm
          cases e4:dIx a i with
          |none=>rw[e4]at hm;cases hm
          |some c=>
            rw[e4]at hm
            cases hm
            exact⟨v,ev,sb B G H σ ρ i ρ' _ I e1 fun G1 H1 y I1 f1 r1=>zpl I1 (I1.read ev e2 e3) r1 e4 fun w q=>k G1 H1 w I1 f1 q⟩
  . cases hm
noncomputable def dLen:List D->Option D
 |[.lst ds]=>some (.int ds.length)
 |[.tup ds]=>some (.int ds.length)
 |[.scr ns]=>some (.int ns.length)
 |_=>none
theorem zmU {x:V}{a d:D}{Q:VK}(I:SI K B G H σ ρ)(ra:ReadD K G H x a)(hf:dLen [a]=some d)(k:∀v,RepD K G v d->Q v H):
  ∃p ys,[x]=[V.ref p]/\(SqL K H p ys\/SqT K H p ys)/\Q (.int ys.length) H:=by
 cases a<;>simp only[dLen]at hf<;>try cases hf
 ·obtain⟨p,xs,rfl,hp,r⟩:=ra
  exact⟨p,xs,rfl,.inl (SqL.of hp),by rw[r.length];exact k _ rfl⟩
 ·obtain⟨p,xs,rfl,hp,r⟩:=I.tup ra
  exact⟨p,xs,rfl,.inr (SqT.of hp),by rw[r.length];exact k _ rfl⟩
 ·obtain⟨p,rfl,hp⟩:=ra
  exact⟨p,_,rfl,.inl (I.fz.sql hp),by rw[List.length_map];exact k _ rfl⟩
theorem RepL.one (h:RepL K G xs [d]):∃x,xs=[x]/\RepD K G x d:=by
 obtain⟨x,ys,e,q,r⟩:=h
 cases(show ys=[]from r)
 exact⟨x,e,q⟩
theorem RepL.two {a b:D}(h:RepL K G xs [a,b]):∃x y,xs=[x,y]/\RepD K G x a/\RepD K G y b:=by
 obtain⟨x,ys,e,q,r⟩:=h
 obtain⟨y,e2,q2⟩:=r.one
 subst e2
 exact⟨x,y,e,q,q2⟩
theorem dLen_one (h:dLen ds=some d):∃a,ds=[a]:=by
 match ds,h with
 |[a],_=>exact⟨a,rfl⟩
 |[],h=>cases h
 |_::_::_,h=>simp[dLen]at h
theorem vc_len:VC X (fun xs H Q=>∃p ys,xs=[.ref p]/\(SqL X.K H p ys\/SqT X.K H p ys)/\Q (.int ys.length) H) dLen:=by
 intro B G H σ ρ xs ds d Q I r hf k
 obtain⟨a,rfl⟩:=dLen_one hf
 obtain⟨x,rfl,ra⟩:=r.one
 exact zmU I (.of I.fz ra) hf fun v q=>k G H v I (Fz.refl G) q
theorem zdw {p pos:Pos}(ml:X.mg "len"=none)(ha:SA X [e] ma)(hg:Gl X "len":=by rfl)(he:starEach [e] X.env=(false,eval e X.env)::starEach [] X.env:=by rfl):SE X (.Call (.Name "len" p) [e] [] pos) (mC dLen ma):=
 zgk zh4 vc_len PySem.boot_len ml ha hg (by decide) (by decide) he rfl
noncomputable def zfm (j:Nat):ME:=fun ρ=>(ρ[j]?.bind Sl.read).bind fun d=>(dLen [d]).map fun e=>(e,ρ)
theorem zce {p pos pos':Pos}(j:Nat)(ml:X.mg "len"=none)(hN:X.N[j]? =some x:=by rfl)(hv:Vis X.env.scope x:=by first|exact Or.inl rfl|exact Or.inr (Or.inl rfl)|exact Or.inr (Or.inr rfl))(hd:(x==("__debug__":Str))=false:=by decide)
  (hcd:(x==("__classdict__":Str))=false:=by decide) (hg:Gl X "len":=by rfl) (he:starEach [.Name x pos'] X.env=(false,eval (.Name x pos') X.env)::starEach [] X.env:=by rfl):SE X (.Call (.Name "len" p) [.Name x pos'] [] pos) (zfm j):=by
 refine⟨_,zmG zh4 hg ml PySem.boot_len (ziN (zff hN hv hd hcd) zmM he) (by decide) (by decide) he rfl,fun B G H σ ρ d ρ' Q I hm k=>?_⟩
 unfold zfm at hm
 cases e2:ρ[j]? with
 |none=>rw[e2]at hm;cases hm
 |some s=>
  rw[e2]at hm
  simp only[Option.bind_some]at hm
  cases e3:s.read with
  |none=>rw[e3]at hm;cases hm
  |some a=>
   rw[e3]at hm
   simp only[Option.bind_some]at hm
   cases e4:dLen [a]with
   |none=>rw[e4]at hm;cases hm
   |some c=>
    rw[e4]at hm
    cases hm
    have hh:hasV ρ j=true:=by
     unfold hasV
     rw[e2]
     cases s<;>first|rfl|cases e3
    obtain⟨v,ev⟩:=I.has hh
    exact⟨v,ev,zmU I (I.read ev e2 e3) e4 fun w q=>k G H w I (Fz.refl G) q⟩
noncomputable def zbX:List D->Option D
 |[.lst ds]=>some (.tup ds)
 |[.tup ds]=>some (.tup ds)
 |[.scr ns]=>some (.tup (ns.map .int))
 |_=>none
theorem vc_tuple:VC X (fun xs H Q=>∃p ys,xs=[.ref p]/\((SqL X.K H p ys/\∀l,H l=none->Q (.ref l) (upd H l (.tup ys)))\/(SqT X.K H p ys/\Q (.ref p) H))) zbX:=by
 intro B G H σ ρ xs ds d Q I r hf k
 match ds,hf with
 |[a],hf=>
  obtain⟨x,rfl,ra⟩:=r.one
  cases a<;>simp only[zbX]at hf<;>try cases hf
  ·obtain⟨p,ys,rfl,hp,q⟩:=I.lst ra
   refine⟨p,ys,rfl,.inl ⟨SqL.of hp,fun l hl=>?_⟩⟩
   obtain⟨I2,f2,r2⟩:=I.newT hl q
   exact k _ _ _ I2 f2 r2
  ·obtain⟨p,ys,e,hp,q⟩:=I.tup ra
   subst e
   exact⟨p,ys,rfl,.inr ⟨SqT.of hp,k G H _ I (Fz.refl G) ra⟩⟩
  ·obtain⟨p,rfl,hp⟩:=ra
   refine⟨p,_,rfl,.inl ⟨I.fz.sql hp,fun l hl=>?_⟩⟩
   obtain⟨I2,f2,r2⟩:=I.newT hl (RepL.ints _)
   exact k _ _ _ I2 f2 r2
 |[],hf=>cases hf
 |_::_::_,hf=>simp[zbX]at hf
theorem zbO {p pos:Pos}(ml:X.mg "tuple"=none)(ha:SA X [e] ma)(hg:Gl X "tuple":=by rfl)(he:starEach [e] X.env=(false,eval e X.env)::starEach [] X.env:=by rfl)(hb:bootBuiltins "tuple"=some (.type "tuple"):=by decide+kernel):
  SE X (.Call (.Name "tuple" p) [e] [] pos) (mC zbX ma):=
 znM zjU vc_tuple hb ml ha hg (by decide) (by decide) he rfl
noncomputable def zaR:List D->Option (List D)
 |[.lst ds]=>some ds
 |[.tup ds]=>some ds
 |[.scr ns]=>some (ns.map .int)
 |_=>none
noncomputable def oC (f:List D->Option (List D))(ma:MA):MO:=fun ρ=>(ma ρ).bind fun p=>(f p.1).map fun d=>(d,p.2)
theorem oC_inv {f:List D->Option (List D)}{d:List D}(h:oC f ma ρ=some (d,ρ')):∃a,ma ρ=some (a,ρ')/\f a=some d:=by
 unfold oC at h
 cases e1:ma ρ with
 |none=>rw[e1]at h;cases h
 |some p=>
  obtain⟨a,ρ1⟩:=p
  rw[e1]at h
  simp only[Option.bind_some]at h
  cases e3:f a with
  |none=>rw[e3]at h;cases h
  |some c=>rw[e3]at h;cases h;exact⟨a,rfl,e3⟩
theorem SI.newO (I:SI K B G H σ ρ)(hp:H p=none)(xs:List V):SI K B G (upd H p (.lst xs)) σ ρ/\G p=none/\(upd H p (.lst xs)) p=some (.lst xs)/\B.H p=none/\Nw K G (upd H p (.lst xs)) σ ρ p:=
 ⟨I.allocO hp _,I.fz.free hp,zaw,I.there p hp,I.nw_move (I.nw hp) fun i s a _ _ g h=>⟨g,zau fun z=>h (by rw[z];exact hp)⟩⟩
theorem so_list {p pos:Pos}(ml:X.mg "list"=none)(ha:SA X [e] ma)(hg:Gl X "list":=by rfl)(he:starEach [e] X.env=(false,eval e X.env)::starEach [] X.env:=by rfl)(hb:bootBuiltins "list"=some (.type "list"):=by decide+kernel):
  SO X (.Call (.Name "list" p) [e] [] pos) (oC zaR ma):=by
 obtain⟨t,pa,sa⟩:=ha
 refine⟨_,zkw zkL hg ml hb pa (by decide) (by decide) he rfl,fun B G H σ ρ ds ρ' Q I hm k=>?_⟩
 obtain⟨as,e1,e2⟩:=oC_inv hm
 refine sa B G H σ ρ as ρ' _ I e1 fun G1 H1 vs I1 f1 r1=>?_
 match as,e2 with
 |[a],e2=>
  obtain⟨x,rfl,ra⟩:=r1.one
  have fin:∀(q:Addr) (ys:List V) (sq:SqL X.K H1 q ys\/SqT X.K H1 q ys),x= .ref q->RepL X.K G1 ys ds->∃p ys,[x]=[V.ref p]/\(SqL X.K H1 p ys\/SqT X.K H1 p ys)/\∀l,H1 l=none->Q (.ref l) (upd H1 l (.lst ys)):=fun q ys sq ex r=>by
   refine⟨q,ys,by rw[ex],sq,fun l hl=>?_⟩
   obtain⟨I2,g2,h2,b2,n2⟩:=I1.newO hl ys
   exact k G1 _ l ys I2 f1 g2 h2 r b2 n2
  cases a<;>simp only[zaR]at e2<;>try cases e2
  ·obtain⟨p,ys,ex,hp,q⟩:=I1.lst ra
   exact fin p ys (.inl (SqL.of hp)) ex q
  ·obtain⟨p,ys,ex,hp,q⟩:=I1.tup ra
   exact fin p ys (.inr (SqT.of hp)) ex q
  ·obtain⟨p,ex,hp⟩:=ra
   exact fin p _ (.inl (I1.fz.sql hp)) ex (RepL.ints _)
 |[],e2=>cases e2
 |_::_::_,e2=>simp[zaR]at e2
section
variable {X:Cx} {es:List Expr} {ma:MA} {pos:Pos}
noncomputable def eTup (ma:MA):ME:=fun ρ=>(ma ρ).bind fun p=>if p.1.length<=16777216 then some (.tup p.1,p.2)else none
theorem zaO {x1}(h:SA X es ma):SE X (.Tuple es x1 pos) (eTup ma):=by
 obtain⟨t,pa,sa⟩:=h
 refine⟨_,pe_tup pa,fun B G H σ ρ d ρ' Q I hm k=>?_⟩
 unfold eTup at hm
 cases e1:ma ρ with
 |none=>rw[e1]at hm;cases hm
 |some q=>
  obtain⟨ds,ρ1⟩:=q
  rw[e1]at hm
  simp only[Option.bind_some]at hm
  split at hm
  ·rename_i hl
   cases hm
   refine sa B G H σ ρ ds ρ' _ I e1 fun G1 H1 vs I1 f1 r1=>⟨by rw[r1.length,sizeLine_eq];exact hl,fun p hp=>?_⟩
   obtain⟨I2,f2,r2⟩:=I1.newT hp r1
   exact k _ _ _ I2 (f1.trans f2) r2
  ·cases hm
noncomputable def oLst (ma:MA):MO:=fun ρ=>(ma ρ).bind fun p=>if p.1.length<=16777216 then some (p.1,p.2)else none
theorem zbk (h:SA X es ma):SO X (.List es pos) (oLst ma):=by
 obtain⟨t,pa,sa⟩:=h
 refine⟨_,pe_lst pa,fun B G H σ ρ d ρ' Q I hm k=>?_⟩
 unfold oLst at hm
 cases e1:ma ρ with
 |none=>rw[e1]at hm;cases hm
 |some q=>
  obtain⟨ds,ρ1⟩:=q
  rw[e1]at hm
  simp only[Option.bind_some]at hm
  split at hm
  ·rename_i hl
   cases hm
   refine sa B G H σ ρ _ ρ' _ I e1 fun G1 H1 vs I1 f1 r1=>⟨by rw[r1.length,sizeLine_eq];exact hl,fun p hp=>?_⟩
   obtain⟨I2,g2,h2,b2,n2⟩:=I1.newO hp vs
   exact k G1 _ p vs I2 f1 g2 h2 r1 b2 n2
  ·cases hm
end
theorem zai {α β:Type}{o:Option α}{f:α->Option β}{b:β}(h:o.bind f=some b):∃a,o=some a/\f a=some b:=by
 cases o with
 |none=>cases h
 |some a=>exact⟨a,rfl,h⟩
theorem zaJ {α β:Type}{o:Option α}{f:α->β}{b:β}(h:o.map f=some b):∃a,o=some a/\f a=b:=by
 cases o with
 |none=>cases h
 |some a=>cases h;exact⟨a,rfl,rfl⟩
noncomputable def dTru:D->Option Bool
 | .bl b=>some b
 | .int i=>some (i !=0)
 | .non=>some false
 | .lst ds=>some (!ds.isEmpty)
 | .tup ds=>some (!ds.isEmpty)
 |_=>none
noncomputable def tTru (ma:ME):MT:=fun ρ=>(ma ρ).bind fun p=>(dTru p.1).map fun b=>(b,p.2)
section
variable {X:Cx} {a b c:Expr} {ma mb mc:ME} {pos:Pos}
theorem zou (h:RepL K G xs ds):(!xs.isEmpty)=!ds.isEmpty:=by
 have:=h.length
 cases xs<;>cases ds<;>simp_all
theorem zin (ha:SE X a ma)(he:∀whole,isTrue a X.env whole=(do let v<-whole;standAt a.pos;holding [v] (truthy v)):=by exact fun _=>rfl):STt X a (tTru ma):=by
  obtain⟨ta,pa,sa⟩:=ha
  refine⟨_,pt_truth pa he,fun B G H σ ρ d ρ' Q I hm k=>?_⟩
  obtain⟨⟨x,ρ1⟩,e1,e2⟩:=zai hm
  obtain⟨t,e3,e4⟩:=zaJ e2
  obtain⟨rfl,rfl⟩:=Prod.mk.inj e4
  refine sa B G H σ ρ x ρ1 _ I e1 fun G1 H1 v I1 f1 r1=>⟨t,?_,k G1 H1 I1 f1⟩
  cases x<;>simp only[dTru]at e3<;>try cases e3
  . cases r1;exact rfl
  . cases r1;exact rfl
  . cases r1;exact rfl
  . obtain⟨p,xs,rfl,hp,r⟩:=I1.lst r1
    exact .inl ⟨xs,SqL.of hp,(zou r).symm⟩
  . obtain⟨p,xs,rfl,hp,r⟩:=I1.tup r1
    exact .inr (.inl ⟨xs,SqT.of hp,(zou r).symm⟩)
theorem zie {r:R2}{f:D->D->Option D}(ho:OpR X (compareOp op) r)(hv:V2 X r f)(hB:∀x y d,f x y=some d->∃t,d= .bl t)(ha:SE X a ma)(hb:SE X b mb)(hm:behindInMarks op b=false):STt X (.Compare a [op] [b] pos) (tTru (m2 f ma mb)):=by
 obtain⟨ta,pa,sa⟩:=ha
 obtain⟨tb,pb,sb⟩:=hb
 refine⟨_,pt_cmpR ho pa pb hm,fun B G H σ ρ d ρ' Q I hm k=>?_⟩
 obtain⟨⟨x,ρ1⟩,e1,e2⟩:=zai hm
 obtain⟨t,e3,e4⟩:=zaJ e2
 obtain⟨rfl,rfl⟩:=Prod.mk.inj e4
 obtain⟨_,_,_,_,_,e5⟩:=m2_inv e1
 obtain⟨t',rfl⟩:=hB _ _ _ e5
 obtain rfl:t'=t:=Option.some.inj e3
 refine zmf hv sa sb B G H σ ρ (.bl t') ρ1 _ I e1 fun G1 H1 v I1 f1 r1=>?_
 cases(show v=V.bl t' from r1)
 exact⟨t',rfl,k G1 H1 I1 f1⟩
theorem zmX {g:Int->Int->Bool}(x y d:D)(h:dI2 (fun _ _=>true) (fun i j=> .bl (g i j)) x y=some d):∃t,d= .bl t:=by
 cases x<;>cases y<;>simp only[dI2]at h<;>try cases h
 exact⟨_,rfl⟩
theorem bl_eq (x y d:D)(h:dEq x y=some d):∃t,d= .bl t:=by
 unfold dEq at h
 split at h
 ·cases h;exact⟨_,rfl⟩
 ·cases h
theorem bl_ne (x y d:D)(h:dNe x y=some d):∃t,d= .bl t:=by
 unfold dNe at h
 split at h
 ·cases h;exact⟨_,rfl⟩
 ·cases h
theorem zlJ (ha:SE X a ma)(hb:SE X b mb):STt X (.Compare a [.Lt] [b] pos) (tTru (m2 dLt ma mb)):=zie op_lt zjt zmX ha hb (zhH _)
theorem st_le (ha:SE X a ma)(hb:SE X b mb):STt X (.Compare a [.LtE] [b] pos) (tTru (m2 dLe ma mb)):=zie op_le zjt zmX ha hb (zhH _)
theorem zm0 (ha:SE X a ma)(hb:SE X b mb):STt X (.Compare a [.Gt] [b] pos) (tTru (m2 dGt ma mb)):=zie op_gt zjt zmX ha hb (zhH _)
theorem st_ge (ha:SE X a ma)(hb:SE X b mb):STt X (.Compare a [.GtE] [b] pos) (tTru (m2 dGe ma mb)):=zie op_ge zjt zmX ha hb (zhH _)
theorem zkC (hu:X.A.units+64<cLine)(ha:SE X a ma)(hb:SE X b mb):STt X (.Compare a [.Eq] [b] pos) (tTru (m2 dEq ma mb)):=zie (op_eqD hu) v2_eq bl_eq ha hb (zhH _)
theorem zmY (hu:X.A.units+64<cLine)(ha:SE X a ma)(hb:SE X b mb):STt X (.Compare a [.NotEq] [b] pos) (tTru (m2 dNe ma mb)):=zie (op_neD hu) v2_ne bl_ne ha hb (zhH _)
end
noncomputable def STw (X:Cx)(e:Expr)(m:MT):Prop:=
 ∃t,PW X e t/\∀B G H σ ρ d ρ' (Q:Bool->Hp->Prop),SI X.K B G H σ ρ->m ρ=some (d,ρ')->(∀G' H',SI X.K B G' H' σ ρ'->Fz G G'->Q d H')->t σ H Q
theorem STw.st (h:STw X e m):STt X e m:=let⟨t,p,s⟩:=h;⟨t,p.pt,s⟩
noncomputable def tAndM (a b:MT):MT:=fun ρ=>(a ρ).bind fun p=>if p.1 then b p.2 else some (false,p.2)
noncomputable def tOrM (a b:MT):MT:=fun ρ=>(a ρ).bind fun p=>if p.1 then some (true,p.2)else b p.2
noncomputable def zoQ (a:MT):MT:=fun ρ=>(a ρ).map fun p=>(!p.1,p.2)
section
variable {X:Cx} {a b c:Expr} {ma mb:MT} {pos:Pos} {rest:List Expr}
theorem sw_and1 (h:STt X a ma):STw X (.BoolOp .And [a] pos) ma:=let⟨t,p,s⟩:=h;⟨t,pw_and1 p,s⟩
theorem zjC (h:STt X a ma):STw X (.BoolOp .Or [a] pos) ma:=let⟨t,p,s⟩:=h;⟨t,pw_or1 p,s⟩
theorem sw_and (ha:STt X a ma)(hb:STw X (.BoolOp .And (b::rest) pos) mb):STw X (.BoolOp .And (a::b::rest) pos) (tAndM ma mb):=by
 obtain⟨ta,pa,sa⟩:=ha
 obtain⟨tb,pb,sb⟩:=hb
 refine⟨_,pw_and pa pb,fun B G H σ ρ d ρ' Q I hm k=>?_⟩
 obtain⟨⟨x,ρ1⟩,e1,e2⟩:=zai hm
 refine sa B G H σ ρ x ρ1 _ I e1 fun G1 H1 I1 f1=>?_
 cases x with
 |true=>exact sb B G1 H1 σ ρ1 d ρ' Q I1 e2 fun G2 H2 I2 f2=>k G2 H2 I2 (f1.trans f2)
 |false=>cases e2;exact k G1 H1 I1 f1
theorem znr (ha:STt X a ma)(hb:STw X (.BoolOp .Or (b::rest) pos) mb):STw X (.BoolOp .Or (a::b::rest) pos) (tOrM ma mb):=by
 obtain⟨ta,pa,sa⟩:=ha
 obtain⟨tb,pb,sb⟩:=hb
 refine⟨_,pw_or pa pb,fun B G H σ ρ d ρ' Q I hm k=>?_⟩
 obtain⟨⟨x,ρ1⟩,e1,e2⟩:=zai hm
 refine sa B G H σ ρ x ρ1 _ I e1 fun G1 H1 I1 f1=>?_
 cases x with
 |false=>exact sb B G1 H1 σ ρ1 d ρ' Q I1 e2 fun G2 H2 I2 f2=>k G2 H2 I2 (f1.trans f2)
 |true=>cases e2;exact k G1 H1 I1 f1
theorem zob (ha:STt X a ma):STt X (.UnaryOp .Not a pos) (zoQ ma):=by
 obtain⟨ta,pa,sa⟩:=ha
 refine⟨_,pt_not pa,fun B G H σ ρ d ρ' Q I hm k=>?_⟩
 obtain⟨⟨x,ρ1⟩,e1,e2⟩:=zaJ hm
 cases e2
 exact sa B G H σ ρ x ρ1 _ I e1 fun G1 H1 I1 f1=>k G1 H1 I1 f1
end
noncomputable def eAnd (a b:ME):ME:=fun ρ=>(a ρ).bind fun p=>match p.1 with
 | .bl true=>b p.2
 | .bl false=>some (.bl false,p.2)
 |_=>none
noncomputable def eOr (a b:ME):ME:=fun ρ=>(a ρ).bind fun p=>match p.1 with
 | .bl true=>some (.bl true,p.2)
 | .bl false=>b p.2
 |_=>none
section
variable {X:Cx} {a b c:Expr} {ma mb:ME} {pos:Pos} {rest:List Expr} {op:BoolOp}
theorem se_one (h:SE X a ma):SE X (.BoolOp op [a] pos) ma:=let⟨t,p,s⟩:=h;⟨t,pe_one p,s⟩
theorem se_and (ha:SE X a ma)(hb:SE X (.BoolOp .And (b::rest) pos) mb):SE X (.BoolOp .And (a::b::rest) pos) (eAnd ma mb):=by
 obtain⟨ta,pa,sa⟩:=ha
 obtain⟨tb,pb,sb⟩:=hb
 refine⟨_,pe_and pa pb,fun B G H σ ρ d ρ' Q I hm k=>?_⟩
 obtain⟨⟨x,ρ1⟩,e1,e2⟩:=zai hm
 refine sa B G H σ ρ x ρ1 _ I e1 fun G1 H1 v I1 f1 r1=>?_
 cases x<;>try cases e2
 rename_i y
 refine⟨y,r1,?_⟩
 cases y with
 |true=>exact sb B G1 H1 σ ρ1 d ρ' Q I1 e2 fun G2 H2 v I2 f2 r2=>k G2 H2 v I2 (f1.trans f2) r2
 |false=>cases e2;exact k G1 H1 _ I1 f1 rfl
noncomputable def eIf (c:MT)(a b:ME):ME:=fun ρ=>(c ρ).bind fun p=>if p.1 then a p.2 else b p.2
theorem zcB (hc:STt X c mc)(ha:SE X a ma)(hb:SE X b mb):SE X (.IfExp c a b pos) (eIf mc ma mb):=by
 obtain⟨tc,pc,sc⟩:=hc
 obtain⟨ta,pa,sa⟩:=ha
 obtain⟨tb,pb,sb⟩:=hb
 refine⟨_,pe_ifExp pc pa pb,fun B G H σ ρ d ρ' Q I hm k=>?_⟩
 obtain⟨⟨x,ρ1⟩,e1,e2⟩:=zai hm
 refine sc B G H σ ρ x ρ1 _ I e1 fun G1 H1 I1 f1=>?_
 cases x with
 |true=>exact sa B G1 H1 σ ρ1 d ρ' Q I1 e2 fun G2 H2 v I2 f2 r2=>k G2 H2 v I2 (f1.trans f2) r2
 |false=>exact sb B G1 H1 σ ρ1 d ρ' Q I1 e2 fun G2 H2 v I2 f2 r2=>k G2 H2 v I2 (f1.trans f2) r2
end
noncomputable def eChain (f g:D->D->Option D)(a b c:ME):ME:=fun ρ=>(a ρ).bind fun p=>(b p.2).bind fun q=>(f p.1 q.1).bind fun t=>match t with
 | .bl true=>(c q.2).bind fun r=>(g q.1 r.1).map fun d=>(d,r.2)
 | .bl false=>some (.bl false,q.2)
 |_=>none
inductive Fl where
 |next|brk|cont|ret (r:Sl)
noncomputable abbrev MS:=R->Option (Fl×R)
noncomputable def ResOk (K:W.Frag)(B:Bs)(G H:Hp)(v:V):Sl->Prop
 | .val d=>RepD K G v d
 | .own ds=>∃l xs,v= .ref l/\G l=none/\H l=some (.lst xs)/\RepL K G xs ds/\B.H l=none
 | .tre t=>∃A,RepT K G H v t A/\A.Nodup/\∀a∈A,G a=none/\B.H a=none
 | .two ds es=>∃t l xs m ys,v= .ref t/\H t=some (.tup [.ref l,.ref m])/\l≠m/\G l=none/\H l=some (.lst xs)/\RepL K G xs ds/\B.H l=none/\G m=none/\H m=some (.lst ys)/\RepL K G ys es/\B.H m=none
 |_=>False
noncomputable def Post (K:W.Frag)(B:Bs)(G:Hp)(E:Ends)(fl:Fl)(ρ':R):Prop:=match fl with
 | .next=>∀G' H' σ',SI K B G' H' σ' ρ'->Fz G G'->E.nx σ' H'
 | .brk=>∀G' H' σ',SI K B G' H' σ' ρ'->Fz G G'->E.bk σ' H'
 | .cont=>∀G' H' σ',SI K B G' H' σ' ρ'->Fz G G'->E.ct σ' H'
 | .ret r=>∀G' H' σ' v,SI K B G' H' σ' ρ'->Fz G G'->ResOk K B G' H' v r->E.rt v H'
theorem Post.mono {G G1:Hp}{E:Ends}{fl:Fl}(h:Post K B G E fl ρ')(f:Fz G G1):Post K B G1 E fl ρ':=by
 cases fl with
 |next=>exact fun G' H' σ' I g=>h G' H' σ' I (f.trans g)
 |brk=>exact fun G' H' σ' I g=>h G' H' σ' I (f.trans g)
 |cont=>exact fun G' H' σ' I g=>h G' H' σ' I (f.trans g)
 |ret r=>exact fun G' H' σ' v I g=>h G' H' σ' v I (f.trans g)
noncomputable def SS (X:Cx)(st:Stmt)(m:MS):Prop:=∃t,PS X st t/\∀B G H σ ρ fl ρ' (E:Ends),SI X.K B G H σ ρ->m ρ=some (fl,ρ')->Post X.K B G E fl ρ'->t E σ H
noncomputable def SSs (X:Cx)(st:List Stmt)(m:MS):Prop:=∃t,PSs X st t/\∀B G H σ ρ fl ρ' (E:Ends),SI X.K B G H σ ρ->m ρ=some (fl,ρ')->Post X.K B G E fl ρ'->t E σ H
noncomputable def zdr:MS:=fun ρ=>some (.next,ρ)
noncomputable def sSeq (a b:MS):MS:=fun ρ=>(a ρ).bind fun p=>match p.1 with
 | .next=>b p.2
 |f=>some (f,p.2)
section
variable {X:Cx} {st:Stmt} {rest:List Stmt} {m n:MS} {e:Expr} {me:ME} {pos:Pos}
theorem za6:SSs X [] zdr:=⟨_,pss_nil,fun B G H σ ρ fl ρ' E I hm k=>by cases hm;exact k G H σ I (Fz.refl G)⟩
theorem zal (h:SS X st m):SSs X [st] m:=let⟨t,p,s⟩:=h;⟨t,pss_one p,s⟩
theorem zaf (h:SS X st m)(hr:SSs X rest n):SSs X (st::rest) (sSeq m n):=by
 obtain⟨t,p,s⟩:=h
 obtain⟨u,q,z⟩:=hr
 refine⟨_,pss_cons p q,fun B G H σ ρ fl ρ' E I hm k=>?_⟩
 obtain⟨⟨f,ρ1⟩,e1,e2⟩:=zai hm
 refine s B G H σ ρ f ρ1 _ I e1 ?_
 cases f with
 |next=>exact fun G1 H1 σ1 I1 f1=>z B G1 H1 σ1 ρ1 fl ρ' E I1 e2 (k.mono f1)
 |brk=>cases e2;exact k
 |cont=>cases e2;exact k
 |ret r=>cases e2;exact k
noncomputable def sRet (m:ME):MS:=fun ρ=>(m ρ).map fun p=>(.ret (.val p.1),p.2)
theorem zaB (h:SE X e me):SS X (.Return (some e) pos) (sRet me):=by
 obtain⟨t,p,s⟩:=h
 refine⟨_,zn4 p,fun B G H σ ρ fl ρ' E I hm k=>?_⟩
 obtain⟨⟨d,ρ1⟩,e1,e2⟩:=zaJ hm
 cases e2
 exact s B G H σ ρ d ρ1 _ I e1 fun G1 H1 v I1 f1 r1=>k G1 H1 σ v I1 f1 r1
noncomputable def zhP (m:MO):MS:=fun ρ=>(m ρ).map fun p=>(.ret (.own p.1),p.2)
theorem zdn {mo:MO}(h:SO X e mo):SS X (.Return (some e) pos) (zhP mo):=by
 obtain⟨t,p,s⟩:=h
 refine⟨_,zn4 p,fun B G H σ ρ fl ρ' E I hm k=>?_⟩
 obtain⟨⟨d,ρ1⟩,e1,e2⟩:=zaJ hm
 cases e2
 exact s B G H σ ρ d ρ1 _ I e1 fun G1 H1 l xs I1 f1 g1 h1 r1 b1 _=>k G1 H1 σ _ I1 f1 ⟨l,xs,rfl,g1,h1,r1,b1⟩
theorem SI.emp (I:SI K B G H σ ρ)(i:Nat):SI K B G H σ (ρ.set i .emp):=by
 by_cases hi:i<ρ.length
 ·have hs:σ[i]? =some (σ[i]'(by rw[I.len];exact hi)):=List.getElem?_eq_getElem _
  have h:=I.chg (i:=i) (ov:=σ[i]'(by rw[I.len];exact hi)) (s':= .emp) I.fz (Fz.refl G) I.new I.keep I.there (fun _ _ _ _ _ _ g _=>⟨g,rfl,id⟩) trivial
  rwa[zkr hs]at h
 ·rw[List.set_eq_of_length_le (by lia)];exact I
noncomputable def zhj (i:Nat):MS:=fun ρ=>match ρ[i]? with
 |some (.val d)=>some (.ret (.val d),ρ)
 |some (.own ds)=>some (.ret (.own ds),ρ.set i .emp)
 |_=>none
theorem zdm (i:Nat)(hN:X.N[i]? =some x:=by rfl)(hv:Vis X.env.scope x:=by first|exact Or.inl rfl|exact Or.inr (Or.inl rfl)|exact Or.inr (Or.inr rfl))(hd:(x==("__debug__":Str))=false:=by decide)
  (hcd:(x==("__classdict__":Str))=false:=by decide):SS X (.Return (some (.Name x pos')) pos) (zhj i):=by
 refine⟨_,zn4 (zff hN hv hd hcd),fun B G H σ ρ fl ρ' E I hm k=>?_⟩
 unfold zhj at hm
 cases e:ρ[i]? with
 |none=>rw[e]at hm;cases hm
 |some s=>
  rw[e]at hm
  have h:=I.slot i s e
  cases s with
  |emp=>cases hm
  |two _ _=>cases hm
  |tre _=>cases hm
  |ptr _=>cases hm
  |par ds=>cases hm
  |val d=>cases hm;obtain⟨v,h1,h2⟩:=h;exact⟨v,h1,k G H σ v I (Fz.refl G) h2⟩
  |own ds=>
   cases hm
   obtain⟨l,xs,h1,h2,h3,h4,h5⟩:=h
   exact⟨.ref l,h1,k G H σ _ (I.emp i) (Fz.refl G) ⟨l,xs,rfl,h2,h3,h4,h5⟩⟩
noncomputable def sIf (c:MT)(a b:MS):MS:=fun ρ=>(c ρ).bind fun p=>if p.1 then a p.2 else b p.2
theorem zed {c:Expr}{a b:List Stmt}{ma mb:MS}(hc:STt X c mc)(ha:SSs X a ma)(hb:SSs X b mb):SS X (.If c a b pos) (sIf mc ma mb):=by
 obtain⟨tc,pc,sc⟩:=hc
 obtain⟨ta,pa,sa⟩:=ha
 obtain⟨tb,pb,sb⟩:=hb
 refine⟨_,ps_if pc pa pb,fun B G H σ ρ fl ρ' E I hm k=>?_⟩
 obtain⟨⟨x,ρ1⟩,e1,e2⟩:=zai hm
 refine sc B G H σ ρ x ρ1 _ I e1 fun G1 H1 I1 f1=>?_
 cases x with
 |true=>exact sa B G1 H1 σ ρ1 fl ρ' E I1 e2 (k.mono f1)
 |false=>exact sb B G1 H1 σ ρ1 fl ρ' E I1 e2 (k.mono f1)
end
noncomputable def SG (X:Cx)(tg:Expr)(g:D->R->Option R):Prop:=∃t,PG X tg t/\∀B G H σ ρ v d ρ' (Q:St->Hp->Prop),SI X.K B G H σ ρ->RepD X.K G v d->g d ρ=some ρ'->(∀G' H' σ',SI X.K B G' H' σ' ρ'->Fz G G'->Q σ' H')->t v σ H Q
noncomputable def SGs (X:Cx)(tgs:List Expr)(g:List D->R->Option R):Prop:=∃t,PGs X tgs t/\∀B G H σ ρ vs ds ρ' (Q:St->Hp->Prop),SI X.K B G H σ ρ->RepL X.K G vs ds->g ds ρ=some ρ'->(∀G' H' σ',SI X.K B G' H' σ' ρ'->Fz G G'->Q σ' H')->t vs σ H Q
noncomputable def gN (i:Nat):D->R->Option R:=fun d ρ=>some (ρ.set i (.val d))
noncomputable def zb5:List D->R->Option R:=fun ds ρ=>match ds with
 |[]=>some ρ
 |_=>none
noncomputable def zar (g:D->R->Option R)(h:List D->R->Option R):List D->R->Option R:=fun ds ρ=>match ds with
 |d::ds=>(g d ρ).bind fun ρ1=>h ds ρ1
 |[]=>none
noncomputable def gT (n:Nat)(g:List D->R->Option R):D->R->Option R:=fun d ρ=>match d with
 | .tup ds=>if ds.length=n then g ds ρ else none
 |_=>none
section
variable {X:Cx} {pos:Pos}
theorem zak (i:Nat)(hN:X.N.Nodup)(hi:X.N[i]? =some x:=by rfl)(hx:Loc X.env.scope x:=by first|exact Or.inl rfl|exact Or.inr rfl)(hf:X.fn x=true\/X.env.scope.names.lookup x=some .local:=by first|exact Or.inl rfl|exact Or.inr rfl):SG X (.Name x pos) (gN i):=
 ⟨_,znN hN hi hx hf,fun B G H σ ρ v d ρ' Q I r hm k=>by cases hm;exact k G H _ (I.set r) (Fz.refl G)⟩
theorem zaI:SGs X [] zb5:=⟨_,pgs_nil,fun B G H σ ρ vs ds ρ' Q I r hm k=>by
 cases ds with
 |nil=>cases hm;exact⟨r,k G H σ I (Fz.refl G)⟩
 |cons=>cases hm⟩
theorem zam {e:Expr}(h1:SG X e g)(h2:SGs X es h)(hs:(assignEach (e::es) X.env).map (·.2)=assign e X.env::(assignEach es X.env).map (·.2):=by rfl):SGs X (e::es) (zar g h):=by
 obtain⟨t,p,s⟩:=h1
 obtain⟨u,q,z⟩:=h2
 refine⟨_,pgs_cons p q hs,fun B G H σ ρ vs ds ρ' Q I r hm k=>?_⟩
 cases ds with
 |nil=>cases hm
 |cons d ds=>
  obtain⟨x,ys,rfl,rx,ry⟩:=r
  obtain⟨ρ1,e1,e2⟩:=zai hm
  exact⟨x,ys,rfl,s B G H σ ρ x d ρ1 _ I rx e1 fun G1 H1 σ1 I1 f1=>z B G1 H1 σ1 ρ1 ys ds ρ' Q I1 (ry.mono f1) e2 fun G2 H2 σ2 I2 f2=>k G2 H2 σ2 I2 (f1.trans f2)⟩
theorem za4 {g:List D->R->Option R}(hc:X.calm=true)(h:SGs X es g)(hn:(assignEach es X.env).length=n:=by rfl)(hst:(assignEach es X.env).findIdx? (·.1)=none:=by rfl):SG X (.Tuple es k pos) (gT n g):=by
 obtain⟨t,p,s⟩:=h
 refine⟨_,pg_tup hc p hn hst,fun B G H σ ρ v d ρ' Q I r hm k=>?_⟩
 cases d<;>try cases hm
 rename_i ds
 simp only[gT]at hm
 split at hm
 ·rename_i hl
  obtain⟨a,xs,e,ha,rx⟩:=I.tup r
  exact⟨a,xs,e,SqT.of ha,by rw[rx.length];exact hl,s B G H σ ρ xs ds ρ' Q I rx hm k⟩
 ·cases hm
variable {e tg:Expr} {me:ME} {mo:MO}
noncomputable def sAsg (m:ME)(g:D->R->Option R):MS:=fun ρ=>(m ρ).bind fun p=>(g p.1 p.2).map fun ρ'=>(.next,ρ')
theorem zmE (he:SE X e me)(hg:SG X tg g)(hs:swapsWithSole [tg] e pos.line X.env=pure false:=by rfl)(hw:swappedStores [tg] e X.env=pure none:=by rfl)
  (h1:(assignEach [tg] X.env).map (·.2)=[assign tg X.env]:=by rfl):SS X (.Assign [tg] e pos) (sAsg me g):=by
 obtain⟨t,p,s⟩:=he
 obtain⟨u,q,z⟩:=hg
 refine⟨_,ps_asg p q hs hw h1,fun B G H σ ρ fl ρ' E I hm k=>?_⟩
 obtain⟨⟨d,ρ1⟩,e1,h2⟩:=zai hm
 obtain⟨ρ2,e2,e3⟩:=zaJ h2
 obtain⟨rfl,rfl⟩:=Prod.mk.inj e3
 exact s B G H σ ρ d ρ1 _ I e1 fun G1 H1 v I1 f1 r1=>z B G1 H1 σ ρ1 v d ρ2 _ I1 r1 e2 fun G2 H2 σ2 I2 f2=>k G2 H2 σ2 I2 (f1.trans f2)
noncomputable def sSet (i:Nat)(m:ME):MS:=fun ρ=>(m ρ).map fun p=>(.next,p.2.set i (.val p.1))
theorem zas (i:Nat)(he:SE X e me)(hN:X.N.Nodup)(hi:X.N[i]? =some x:=by rfl)(hx:Loc X.env.scope x:=by first|exact Or.inl rfl|exact Or.inr rfl)(hs:swapsWith e (some (.Name x pos')) pos.line X.env=pure false:=by rfl)
    (hf:X.fn x=true\/X.env.scope.names.lookup x=some .local:=by first|exact Or.inl rfl|exact Or.inr rfl):SS X (.Assign [.Name x pos'] e pos) (sSet i me):=by
  obtain⟨t,p,s⟩:=he
  refine⟨_,zmA hN hi hx p hs hf,fun B G H σ ρ fl ρ' E I hm k=>?_⟩
  obtain⟨⟨d,ρ1⟩,e1,e3⟩:=zaJ hm
  cases e3
  exact s B G H σ ρ d ρ1 _ I e1 fun G1 H1 v I1 f1 r1=>k G1 H1 _ (I1.set r1) f1
noncomputable def zgm (i:Nat)(m:MO):MS:=fun ρ=>(m ρ).map fun p=>(.next,p.2.set i (.own p.1))
theorem zcd (i:Nat)(he:SO X e mo)(hN:X.N.Nodup)(hi:X.N[i]? =some x:=by rfl)(hx:Loc X.env.scope x:=by first|exact Or.inl rfl|exact Or.inr rfl)(hs:swapsWith e (some (.Name x pos')) pos.line X.env=pure false:=by rfl)
    (hf:X.fn x=true\/X.env.scope.names.lookup x=some .local:=by first|exact Or.inl rfl|exact Or.inr rfl):SS X (.Assign [.Name x pos'] e pos) (zgm i mo):=by
  obtain⟨t,p,s⟩:=he
  refine⟨_,zmA hN hi hx p hs hf,fun B G H σ ρ fl ρ' E I hm k=>?_⟩
  obtain⟨⟨d,ρ1⟩,e1,e3⟩:=zaJ hm
  cases e3
  exact s B G H σ ρ d ρ1 _ I e1 fun G1 H1 l xs I1 f1 g1 h1 r1 b1 n1=>k G1 H1 _ (I1.setO g1 h1 r1 b1 n1) f1
noncomputable def sApp (i:Nat)(m:ME):MS:=fun ρ=>if(ρ[i]?.bind Sl.items).isSome then(m ρ).bind fun p=>p.2[i]?.bind fun s=>s.items.bind fun ds=>if ds.length<16777216 then some (.next,p.2.set i (s.put (ds++[p.1])))else none else none
theorem zf2 (i:Nat){pos' apos cpos:Pos}(he:SE X e me)(hN:X.N[i]? =some x:=by rfl)(hv:Vis X.env.scope x:=by first|exact Or.inl rfl|exact Or.inr (Or.inl rfl)|exact Or.inr (Or.inr rfl))(hd:(x==("__debug__":Str))=false:=by decide)
  (hcd:(x==("__classdict__":Str))=false:=by decide)
  (hbase:attributeBase (.Name x pos') "append" X.env (eval (.Name x pos') X.env)=eval (.Name x pos') X.env:=by rfl)
  (hfew : ((backTo cpos (starEach [e] X.env)).all (fun x => !x.1) && (backToKw cpos (keywordEach [] X.env)).all (fun x => x.1.isSome)
   &&decide ([e].length+([]:List Keyword).length+(if([]:List Keyword).isEmpty then 0 else 1)<30))=true:=by rfl)
  (hline:(apos.endLine==cpos.line)=true:=by rfl) (hs:starEach [e] X.env=(false,eval e X.env)::starEach [] X.env:=by rfl):SS X (.Expr (.Call (.Attribute (.Name x pos') "append" apos) [e] [] cpos) pos) (sApp i me):=by
 obtain⟨t,p,s⟩:=he
 refine⟨_,ps_expr (pe_bm PySem.F.plainAttrs_list PySem.F.slot_list_append PySem.F.type_list_append zku (zff hN hv hd hcd) (ziN p zmM hs) hbase hfew hline hs rfl) (by rfl),fun B G H σ ρ fl ρ' E I hm k=>?_⟩
 unfold sApp at hm
 split at hm
 ·rename_i hso
  obtain⟨ds0,hso⟩:=Option.isSome_iff_exists.mp hso
  obtain⟨s0,e0,q0⟩:=zai hso
  obtain⟨l,xs0,h1,h2,h3,h4⟩:=I.wr e0 q0
  obtain⟨⟨d,ρ1⟩,e1,hm⟩:=zai hm
  obtain⟨s1,e2,hm⟩:=zai hm
  obtain⟨ds,e3,hm⟩:=zai hm
  split at hm
  ·rename_i hl
   cases hm
   refine⟨.ref l,h1,.inl ⟨rfl,_,SqL.of h3⟩,s B G H σ ρ d ρ1 _ I e1 fun G1 H1 v I1 f1 r1=>?_⟩
   obtain⟨l',xs,k1,k2,k3,k4⟩:=I1.wr e2 e3
   rw[h1]at k1;cases k1
   refine⟨l,xs,v,rfl,rfl,k3,by rw[k4.length,sizeLine_eq];exact hl,?_⟩
   exact k G1 _ σ (I1.write e2 e3 h1 (k4.snoc r1)) f1
  ·cases hm
 ·cases hm
noncomputable def sPut (j:Nat)(mi me:ME):MS:=fun ρ=>(me ρ).bind fun p=>if hasV p.2 j then(mi p.2).bind fun q=>match q.1 with
 | .int k=>q.2[j]?.bind fun s=>s.items.bind fun ds=>(ixN ds.length k).bind fun n=>some (.next,q.2.set j (s.put (ds.set n p.1)))
 |_=>none else none
theorem zi5 (j:Nat){i:Expr}{mi:ME}{pos' tpos:Pos}(he:SE X e me)(hi:SE X i mi)(hN:X.N[j]? =some x:=by rfl)(hv:Vis X.env.scope x:=by first|exact Or.inl rfl|exact Or.inr (Or.inl rfl)|exact Or.inr (Or.inr rfl))(hd:(x==("__debug__":Str))=false:=by decide)
  (hcd:(x==("__classdict__":Str))=false:=by decide)
  (ha : ∀ v, assign (.Subscript (.Name x pos') i tpos) X.env v = (do
   let ov<-holding [v] (eval (.Name x pos') X.env)
   let iv<-holding [v,ov] (eval i X.env)
   standAt tpos
   holding [v,ov,iv] (setItem ov iv v)
   release [v,ov,iv] []):=by exact fun _=>rfl)
  (hs:swapsWithSole [.Subscript (.Name x pos') i tpos] e pos.line X.env=pure false:=by rfl) (hw:swappedStores [.Subscript (.Name x pos') i tpos] e X.env=pure none:=by rfl)
  (h1:(assignEach [.Subscript (.Name x pos') i tpos] X.env).map (·.2)=[assign (.Subscript (.Name x pos') i tpos) X.env]:=by rfl):SS X (.Assign [.Subscript (.Name x pos') i tpos] e pos) (sPut j mi me):=by
 obtain⟨t,p,s⟩:=he
 obtain⟨u,q,z⟩:=hi
 refine⟨_,ps_asg p (pg_sub (zff hN hv hd hcd) q set_list ha) hs hw h1,fun B G H σ ρ fl ρ' E I hm k=>?_⟩
 obtain⟨⟨d,ρ1⟩,e1,hm⟩:=zai hm
 refine s B G H σ ρ d ρ1 _ I e1 fun G1 H1 v I1 f1 r1=>?_
 split at hm
 ·rename_i hh
  obtain⟨w,ew⟩:=I1.has hh
  obtain⟨⟨kd,ρ2⟩,e2,hm⟩:=zai hm
  cases kd<;>try cases hm
  rename_i kk
  obtain⟨s2,e3,hm⟩:=zai hm
  obtain⟨ds,e4,hm⟩:=zai hm
  obtain⟨n,e5,hm⟩:=zai hm
  cases hm
  refine⟨w,ew,z B G1 H1 σ ρ1 (.int kk) ρ2 _ I1 e2 fun G2 H2 y I2 f2 r2=>?_⟩
  obtain⟨l,xs,k1,k2,k3,k4⟩:=I2.wr e3 e4
  rw[ew]at k1;cases k1
  refine⟨l,xs,kk,n,rfl,r2,k3,by rw[k4.length];exact e5,?_⟩
  exact k G2 _ σ (I2.write e3 e4 ew (k4.set n (r1.mono f2))) (f1.trans f2)
 ·cases hm
end
structure Itm (K:W.Frag) (J:It) (G:Hp) (items:List D):Prop where
 go:∀H i,Fz G H->i<items.length->J.go i H
 yld:∀H i x H',Fz G H->J.yld i H x H'->∀d,items[i]? =some d->(H'=H/\RepD K G x d)\/∃p xs ds,H p=none/\H'=upd H p (.tup xs)/\x= .ref p/\d= .tup ds/\RepL K G xs ds
 stop:∀H i,Fz G H->items.length<=i->J.stop i H
noncomputable def SIt (X:Cx)(tg it:Expr)(m:MA):Prop:=∃wi,PI X tg it wi/\∀B G H σ ρ ds ρ' (Q:It->Hp->Prop),SI X.K B G H σ ρ->m ρ=some (ds,ρ')->(∀J G' H',SI X.K B G' H' σ ρ'->Fz G G'->Itm X.K J G' ds->Q J H')->wi σ H Q
noncomputable def forM (f:D->R->Option (Fl×R)):List D->R->Option (Fl×R)
 |[],ρ=>some (.next,ρ)
 |d::ds,ρ=>(f d ρ).bind fun p=>match p.1 with
  | .next=>forM f ds p.2
  | .cont=>forM f ds p.2
  | .brk=>some (.next,p.2)
  | .ret r=>some (.ret r,p.2)
noncomputable def sFor (mi:MA)(g:D->R->Option R)(mb:MS):MS:=fun ρ=>(mi ρ).bind fun p=>forM (fun d ρ=>(g d ρ).bind fun ρ'=>mb ρ') p.1 p.2
theorem SI.yld {x:V}(I:SI K B G H σ ρ)
  (h:(H'=H/\RepD K G x d)\/∃p xs ds,H p=none/\H'=upd H p (.tup xs)/\x= .ref p/\d= .tup ds/\RepL K G xs ds):∃G',SI K B G' H' σ ρ/\Fz G G'/\RepD K G' x d:=by
 rcases h with⟨rfl,r⟩|⟨p,xs,ds,hp,rfl,rfl,rfl,r⟩
 ·exact⟨G,I,Fz.refl G,r⟩
 ·obtain⟨I2,f2,r2⟩:=I.newT hp r
  exact⟨_,I2,f2,r2⟩
theorem zbE {tg it:Expr}{mi:MA}{mb:MS}(hp:PassesOwn (model X.prog X.w) X.A X.env X.xe)(hc:X.calm=true)(hi:SIt X tg it mi)(hg:SG X tg g)(hb:SSs X body mb)
    (hs:∀x,foldedSetIterable it X.env x=pure x:=by exact fun _=>rfl):SS X (.For tg it body [] pos) (sFor mi g mb):=by
  obtain⟨wi,pi,si⟩:=hi
  obtain⟨tg',pg,sg⟩:=hg
  obtain⟨tb,pb,sb⟩:=hb
  refine⟨_,ps_for hp hc pi pg pb hs,fun B G H σ ρ fl ρ' E I hm k=>?_⟩
  obtain⟨⟨ds,ρ1⟩,e1,hm⟩:=zai hm
  refine si B G H σ ρ ds ρ1 _ I e1 fun J G1 H1 I1 f1 IT=>?_
  refine⟨fun i m σ H=>m=ds.length-i/\i<=ds.length/\∃G2 ρ2,SI X.K B G2 H σ ρ2/\Fz G1 G2/\forM (fun d ρ=>(g d ρ).bind fun ρ'=>mb ρ') (ds.drop i) ρ2=some (fl,ρ'),⟨ds.length,by simp,Nat.zero_le _,G1,ρ1,I1,Fz.refl _,by simpa using hm⟩,?_⟩
  rintro i m σ2 H2 ⟨rfl,hi,G2,ρ2,I2,f2,e2⟩
  by_cases hlt:i<ds.length
  . rw[List.drop_eq_getElem_cons hlt]at e2
    simp only[forM]at e2
    obtain⟨⟨f,ρ3⟩,e3,e4⟩:=zai e2
    obtain⟨ρ2',e5,e6⟩:=zai e3
    have fz2:Fz G1 H2:=f2.trans I2.fz
    refine .inr ⟨IT.go H2 i fz2 hlt,fun σ' H'=>(∃G3,SI X.K B G3 H' σ' ρ3/\Fz G1 G3)/\(f= .next\/f= .cont),?_,fun x H' y=>?_⟩
    . rintro σ' H' ⟨⟨G3,I3,f3⟩,hf⟩
      refine⟨ds.length-(i+1),by lia,rfl,hlt,G3,ρ3,I3,f3,?_⟩
      rcases hf with rfl|rfl<;>exact e4
    . have yy:=IT.yld H2 i x H' fz2 y ds[i] (List.getElem?_eq_getElem hlt)
      have yy2:(H'=H2/\RepD X.K G2 x ds[i])\/∃p xs es,H2 p=none/\H'=upd H2 p (.tup xs)/\x= .ref p/\ds[i]= .tup es/\RepL X.K G2 xs es:=by
        rcases yy with⟨a,b⟩|⟨p,xs,es,a,b,c,d,e⟩
        . exact .inl ⟨a,b.mono f2⟩
        . exact .inr ⟨p,xs,es,a,b,c,d,e.mono f2⟩
      obtain⟨G3,I3,f3,r3⟩:=I2.yld yy2
      refine sg B G3 H' σ2 ρ2 x ds[i] ρ2' _ I3 r3 e5 fun G4 H4 σ4 I4 f4=>sb B G4 H4 σ4 ρ2' f ρ3 _ I4 e6 ?_
      have ff:Fz G1 G4:=f2.trans (f3.trans f4)
      cases f with
      |next=>exact fun G5 H5 σ5 I5 f5=>⟨⟨G5,I5,ff.trans f5⟩,.inl rfl⟩
      |cont=>exact fun G5 H5 σ5 I5 f5=>⟨⟨G5,I5,ff.trans f5⟩,.inr rfl⟩
      |brk=>cases e4;exact fun G5 H5 σ5 I5 f5=>k G5 H5 σ5 I5 (f1.trans (ff.trans f5))
      |ret r=>cases e4;exact fun G5 H5 σ5 v I5 f5=>k G5 H5 σ5 v I5 (f1.trans (ff.trans f5))
  . have e:i=ds.length:=by lia
    subst e
    rw[List.drop_length]at e2
    cases e2
    exact .inl ⟨IT.stop H2 _ (f2.trans I2.fz) (Nat.le_refl _),k G2 H2 σ2 I2 (f1.trans f2)⟩
section
variable {X:Cx} {tg it:Expr} {me:ME}
noncomputable def iSeq (m:ME):MA:=fun ρ=>(m ρ).bind fun p=>(zaR [p.1]).map fun ds=>(ds,p.2)
theorem pi_or {l:Expr}{tl:TE}(hl:PE X l tl):PI X tg l (fun σ H R=>tl σ H fun x H1=>∃a,x= .ref a/\(((∃xs,SqL X.K H1 a xs)/\R (Itl X.K a) H1)\/((∃xs,SqT X.K H1 a xs)/\R (Itt X.K a) H1))):=by
 intro pins s σ H R I h
 refine thn (hl pins s σ H _ I h) fun v s1 ⟨x,H1,I1,r1,q1⟩=>?_
 obtain⟨a,e,q⟩:=q1
 subst e
 cases r1
 rcases q with⟨⟨xs,hq⟩,q⟩|⟨⟨xs,hq⟩,q⟩
 ·obtain⟨its,rv,p,hz⟩:=I1.list hq
  refine wpAny_pyIter_list p.isList ?_
  refine⟨s1.heap.objs.size,[s1.heap.objs.size],_,_,H1,rfl,I1.kept (t':=s1.toks) fun b o e=>Heap.get?_push_of_some _ e,zoe a _,⟨_,Heap.get?_push_size _ rfl,rfl,rfl⟩,fun b hb=>?_,q⟩
  have e:b=s1.heap.objs.size:=by simpa using hb
  subst e
  exact I1.fpOk (Nat.le_refl _) (I1.hok.fresh (Nat.le_refl _))
 ·obtain⟨its,rv,p,hz⟩:=I1.tuple hq
  refine wpAny_pyIter_tuple (show s1.heap.IsTuple a its.toArray from p) ?_
  refine⟨s1.heap.objs.size,[s1.heap.objs.size],_,_,H1,rfl,I1.kept (t':=s1.toks) fun b o e=>Heap.get?_push_of_some _ e,zjx a _,⟨_,Heap.get?_push_size _ rfl,rfl,rfl⟩,fun b hb=>?_,q⟩
  have e:b=s1.heap.objs.size:=by simpa using hb
  subst e
  exact I1.fpOk (Nat.le_refl _) (I1.hok.fresh (Nat.le_refl _))
theorem zmW {a:Addr}(hg:SqL K G a xs)(r:RepL K G xs ds):Itm K (Itl K a) G ds where
 go:=fun H i f hi=>by
  have hl:=r.length
  exact⟨xs,xs[i],f.sql hg,List.getElem?_eq_getElem (by lia)⟩
 yld:=fun H i x H' f y d e=>by
  obtain⟨rfl,y⟩:=y
  have hx:=y xs (f.sql hg)
  obtain⟨x',h1,h2⟩:=r.get e
  rw[hx]at h1;cases h1
  exact .inl ⟨rfl,h2⟩
 stop:=fun H i f hi=>⟨xs,f.sql hg,by rw[r.length];exact hi⟩
theorem itm_tup {a:Addr}(hg:G a=some (.tup xs))(r:RepL K G xs ds):Itm K (Itt K a) G ds where
 go:=fun H i f hi=>by
  have hl:=r.length
  exact⟨xs,xs[i],SqT.of (f _ _ hg),List.getElem?_eq_getElem (by lia)⟩
 yld:=fun H i x H' f y d e=>by
  obtain⟨rfl,y⟩:=y
  have hx:=y xs (SqT.of (f _ _ hg))
  obtain⟨x',h1,h2⟩:=r.get e
  rw[hx]at h1;cases h1
  exact .inl ⟨rfl,h2⟩
 stop:=fun H i f hi=>⟨xs,SqT.of (f _ _ hg),by rw[r.length];exact hi⟩
theorem zbW (h:SE X it me):SIt X tg it (iSeq me):=by
 obtain⟨t,p,s⟩:=h
 refine⟨_,pi_or p,fun B G H σ ρ ds ρ' Q I hm k=>?_⟩
 obtain⟨⟨d,ρ1⟩,e1,hm⟩:=zai hm
 obtain⟨es,e2,e3⟩:=zaJ hm
 cases e3
 refine s B G H σ ρ d ρ1 _ I e1 fun G1 H1 v I1 f1 r1=>?_
 cases d<;>simp only[zaR]at e2<;>try cases e2
 ·obtain⟨a,xs,rfl,ha,r⟩:=r1
  exact⟨a,rfl,.inl ⟨⟨xs,SqL.of (I1.fz _ _ ha)⟩,k _ G1 H1 I1 f1 (zmW (SqL.of ha) r)⟩⟩
 ·obtain⟨a,xs,rfl,ha,r⟩:=r1
  exact⟨a,rfl,.inr ⟨⟨xs,SqT.of (I1.fz _ _ ha)⟩,k _ G1 H1 I1 f1 (itm_tup ha r)⟩⟩
 ·obtain⟨a,rfl,ha⟩:=r1
  exact⟨a,rfl,.inl ⟨⟨_,I1.fz.sql ha⟩,k _ G1 H1 I1 f1 (zmW ha (RepL.ints _))⟩⟩
end
noncomputable def zgI (lo:Int)(n:Nat):List D:=(List.range n).map fun(i:Nat)=>D.int (lo+(i:Int))
theorem zpm (lo:Int)(n:Nat):Itm K (Itr lo n) G (zgI lo n) where
 go:=fun H i f hi=>by show i<n;simpa[zgI]using hi
 yld:=fun H i x H' f y d e=>by
  obtain⟨rfl,rfl⟩:=y
  unfold zgI at e
  rw[List.getElem?_map]at e
  cases q:(List.range n)[i]? with
  |none=>rw[q]at e;cases e
  |some j=>
   rw[q]at e
   have hj:j=i:=by
    have:=List.getElem?_eq_some_iff.mp q
    obtain⟨h1,h2⟩:=this
    simpa using h2.symm
   subst hj
   cases e
   exact .inl ⟨rfl,rfl⟩
 stop:=fun H i f hi=>by show n<=i;simpa[zgI]using hi
noncomputable def zci (j:Int):Bool:=decide (-1000000000000<=j)&&decide (j<=1000000000000)
theorem ziL {j:Int}(h:zci j=true): -(2^62)<=j/\j<2^62:=by
 unfold zci at h
 simp only[Bool.and_eq_true,decide_eq_true_eq]at h
 lia
noncomputable def iR1 (ma:MA):MA:=fun ρ=>(ma ρ).bind fun p=>match p.1 with
 |[.int j]=>if zci j then some (zgI 0 j.toNat,p.2)else none
 |_=>none
section
variable {X:Cx} {tg a b:Expr} {ma:MA} {p pos:Pos}
theorem zaD (hm:X.mg "range"=none)(ha:SA X [a] ma)(hg:Gl X "range":=by rfl)(hs:starEach [a] X.env=[(false,eval a X.env)]:=by rfl):SIt X tg (.Call (.Name "range" p) [a] [] pos) (iR1 ma):=by
 obtain⟨t,pa,sa⟩:=ha
 refine⟨_,znD hg hm pa hs,fun B G H σ ρ ds ρ' Q I hm k=>?_⟩
 obtain⟨⟨es,ρ1⟩,e1,h2⟩:=zai hm
 dsimp only at h2
 refine sa B G H σ ρ es ρ1 _ I e1 fun G1 H1 vs I1 f1 r1=>?_
 split at h2
 ·rename_i j
  split at h2
  ·rename_i hj
   cases h2
   obtain⟨x,rfl,rx⟩:=r1.one
   cases(show x=V.int j from rx)
   exact⟨j,rfl,(ziL hj).1,(ziL hj).2,k _ G1 H1 I1 f1 (zpm 0 _)⟩
  ·cases h2
 ·cases h2
end
noncomputable def ResF (K:W.Frag)(G' H' H:Hp)(v:V):Sl->Prop
 | .val d=>RepD K G' v d
 | .own ds=>∃l xs,v= .ref l/\G' l=none/\H' l=some (.lst xs)/\RepL K G' xs ds/\H l=none
 | .tre t=>∃A,RepT K G' H' v t A/\A.Nodup/\∀a∈A,G' a=none/\H a=none
 | .two ds es=>∃t l xs m ys,v= .ref t/\H' t=some (.tup [.ref l,.ref m])/\l≠m/\G' l=none/\H' l=some (.lst xs)/\RepL K G' xs ds/\H l=none/\G' m=none/\H' m=some (.lst ys)/\RepL K G' ys es/\H m=none
 |_=>False
noncomputable def spP (K:W.Frag)(n:Nat)(F:List D->Option Sl):Sp:=fun vs H Q _=>∃G ds r,F ds=some r/\ds.length=n/\Fz G H/\RepL K G vs ds/\
 ∀G' H' v,Fz G G'->Fz G' H'->(∀b o,G' b=some o->G b≠none\/H b=none)->Fz H H'->ResF K G' H' H v r->Q v H'
noncomputable def spM (K:W.Frag)(n:Nat)(F:List D->List D->Option (Sl×List D)):Sp:=fun vs H Q _=>∃G l xs cs ws ds r out,vs= .ref l::ws/\F cs ds=some (r,out)/\ds.length+1=n/\Fz G H/\G l=none/\H l=some (.lst xs)/\RepL K G xs cs/\RepL K G ws ds/\
 ∀G' H' v ys,Fz G G'->Fz G' H'->(∀b o,G' b=some o->G b≠none\/H b=none)->(∀b o,b≠l->H b=some o->H' b=some o)->G' l=none->H' l=some (.lst ys)->RepL K G' ys out->ResF K G' H' H v r->Q v H'
noncomputable def fP (N:Nat)(m:MS):List D->Option Sl:=fun ds=>(m (ds.map .val++List.replicate (N-ds.length) .emp)).bind fun p=>match p.1 with
 | .ret r=>some r
 | .next=>some (.val .non)
 |_=>none
noncomputable def fM (N:Nat)(m:MS):List D->List D->Option (Sl×List D):=fun cs ds=>(m (.par cs::(ds.map .val++List.replicate (N-(ds.length+1)) .emp))).bind fun p=>match p.1,(p.2[0]?:Option Sl)with
 |Fl.ret r,some (Sl.par out)=>some (r,out)
 |Fl.next,some (Sl.par out)=>some (.val .non,out)
 |_,_=>none
theorem zkm (h:vs.length<=N.length):(L2.start N vs).length=N.length:=by
 unfold L2.start
 rw[List.length_append,List.length_map,List.length_replicate]
 lia
theorem SI.start (fz:Fz G H)(r:RepL K G vs ds)(h:ds.length<=N.length):
  SI K ⟨G,H,[]⟩ G H (L2.start N vs) (ds.map .val++List.replicate (N.length-ds.length) .emp) where
 fz:=fz
 g0:=Fz.refl G
 new:=fun b o e=> .inl (by show G b≠none;rw[e];simp)
 keep:=fun b o e _=>e
 there:=fun b e=>e
 ob:=fun i b m=>by cases m
 len:=by rw[zkm (by rw[r.length];exact h),List.length_append,List.length_map,List.length_replicate];lia
 slot:=fun i s e=>by
  by_cases hi:i<ds.length
  ·rw[List.getElem?_append_left (by simpa using hi),List.getElem?_map,List.getElem?_eq_getElem hi]at e
   cases e
   obtain⟨x,h1,h2⟩:=r.get (List.getElem?_eq_getElem hi)
   refine⟨x,?_,h2⟩
   unfold L2.start
   rw[List.getElem?_append_left (by rw[List.length_map,r.length];exact hi),List.getElem?_map,h1]
   rfl
  ·rw[List.getElem?_append_right (by simpa using hi),List.getElem?_replicate]at e
   split at e
   ·cases e;trivial
   ·cases e
 dis:=fun i j s _ a _ e _ w=>by
  exfalso
  by_cases hi:i<ds.length
  ·rw[List.getElem?_append_left (by simpa using hi),List.getElem?_map,List.getElem?_eq_getElem hi]at e
   cases e;exact w
  ·rw[List.getElem?_append_right (by simpa using hi),List.getElem?_replicate]at e
   split at e
   ·cases e;exact w
   ·cases e
theorem SI.startM (fz:Fz G H)(hg:G l=none)(hl:H l=some (.lst xs))(rc:RepL K G xs cs)(r:RepL K G vs ds)(h:ds.length+1<=N.length):
  SI K ⟨G,H,[(0,l)]⟩ G H (L2.start N (.ref l::vs)) (.par cs::(ds.map .val++List.replicate (N.length-(ds.length+1)) .emp)) where
 fz:=fz
 g0:=Fz.refl G
 new:=fun b o e=> .inl (by show G b≠none;rw[e];simp)
 keep:=fun b o e _=>e
 there:=fun b e=>e
 ob:=fun i b m=>by
  have:b=l:=((by simpa using m):i=0/\b=l).2
  subst this
  show H b≠none
  rw[hl];simp
 len:=by
  have:=r.length
  rw[zkm (by rw[List.length_cons,r.length];exact h),List.length_cons,List.length_append,List.length_map,List.length_replicate];lia
 slot:=fun i s e=>by
  cases i with
  |zero=>simp at e;subst e;exact⟨l,xs,rfl,hg,hl,rc,by simp⟩
  |succ i=>
   rw[List.getElem?_cons_succ]at e
   by_cases hi:i<ds.length
   ·rw[List.getElem?_append_left (by simpa using hi),List.getElem?_map,List.getElem?_eq_getElem hi]at e
    cases e
    obtain⟨x,h1,h2⟩:=r.get (List.getElem?_eq_getElem hi)
    refine⟨x,?_,h2⟩
    unfold L2.start
    rw[List.map_cons,List.cons_append,List.getElem?_cons_succ,List.getElem?_append_left (by rw[List.length_map,r.length];exact hi),List.getElem?_map,h1]
    rfl
   ·rw[List.getElem?_append_right (by simpa using hi),List.getElem?_replicate]at e
    split at e
    ·cases e;trivial
    ·cases e
 dis:=fun i j s t a hij hi hj w1 w2=>by
  have z:∀(i:Nat) (s:Sl),(Sl.par cs::(ds.map .val++List.replicate (N.length-(ds.length+1)) .emp))[i]? =some s->OwS K G H (L2.start N (.ref l::vs))[i]? a s->i=0:=fun i s e q=>by
   cases i with
   |zero=>rfl
   |succ i=>
    exfalso
    rw[List.getElem?_cons_succ]at e
    by_cases hi:i<ds.length
    ·rw[List.getElem?_append_left (by simpa using hi),List.getElem?_map,List.getElem?_eq_getElem hi]at e
     cases e;exact q
    ·rw[List.getElem?_append_right (by simpa using hi),List.getElem?_replicate]at e
     split at e
     ·cases e;exact q
     ·cases e
  exact hij ((z i s hi w1).trans (z j t hj w2).symm)
section
variable {P:Program} {w:World} {K:W.Frag} {mg:Str->Option Value} {base:Heap}
theorem fnP_ok {st:Stmt}{f:Addr}{m:MS}(F:Fun K x qual st f fd)(S:FnScope N ps (zaP st))(hn:ps.length=n)(hN:n<=N.length)
  (body:∀(cdv:Value) (A:Around) (outer:List Env) (s:Shared) (H:Hp) (E:XK),Room k (A.deeper (envOfC qual (zaP st) s.heap.objs.size f cdv))->SSs (cxOf CX0 P w K mg base N qual (zaP st) f cdv A outer s H E).nox (zcY st) m):
  FnOk P w K mg base CX0 (k+1) f fd ps (spP K n (fP N.length m)):=by
 refine F.ok S (fun vs H Q E h=>?_) (fun cdv A outer s H vs Q E hr h=>?_)
 ·obtain⟨G,ds,r,_,h2,_,h4,_⟩:=h
  rw[h4.length,h2,hn]
 ·obtain⟨G,ds,r,e1,h2,fz,h4,kk⟩:=h
  obtain⟨t,pt,so⟩:=body cdv A outer s H E hr
  refine⟨t,pt,?_⟩
  obtain⟨⟨fl,ρ'⟩,e2,e3⟩:=zai e1
  refine so ⟨G,H,[]⟩ G H (L2.start N vs) _ fl ρ' _ (SI.start fz h4 (by lia)) e2 ?_
  have fin:∀G' H' σ' v,SI K ⟨G,H,[]⟩ G' H' σ' ρ'->Fz G G'->ResF K G' H' H v r->Q v H':=fun G' H' σ' v I f rr=>kk G' H' v f I.fz I.new (fun b o e=>I.keep b o e (by simp)) rr
  cases fl with
  |next=>cases e3;exact fun G' H' σ' I f=>fin G' H' σ' .non I f rfl
  |brk=>cases e3
  |cont=>cases e3
  |ret r'=>
   cases e3
   refine fun G' H' σ' v I f rr=>fin G' H' σ' v I f ?_
   cases r with
   |val d=>exact rr
   |own ds=>exact rr
   |emp=>exact rr
   |two _ _=>exact rr
   |tre _=>exact rr
   |ptr _=>exact rr
   |par ds=>exact rr
theorem fnM_ok {st:Stmt}{f:Addr}{m:MS}(F:Fun K x qual st f fd)(S:FnScope N ps (zaP st))(hn:ps.length=n)(hN:n<=N.length)
  (body:∀(cdv:Value) (A:Around) (outer:List Env) (s:Shared) (H:Hp) (E:XK),Room k (A.deeper (envOfC qual (zaP st) s.heap.objs.size f cdv))->SSs (cxOf CX0 P w K mg base N qual (zaP st) f cdv A outer s H E).nox (zcY st) m):
  FnOk P w K mg base CX0 (k+1) f fd ps (spM K n (fM N.length m)):=by
 refine F.ok S (fun vs H Q E h=>?_) (fun cdv A outer s H vs Q E hr h=>?_)
 ·obtain⟨G,l,xs,cs,ws,ds,r,out,rfl,_,h2,_,_,_,_,h4,_⟩:=h
  rw[List.length_cons,h4.length,h2,hn]
 ·obtain⟨G,l,xs,cs,ws,ds,r,out,rfl,e1,h2,fz,hg,hl,rc,h4,kk⟩:=h
  obtain⟨t,pt,so⟩:=body cdv A outer s H E hr
  refine⟨t,pt,?_⟩
  obtain⟨⟨fl,ρ'⟩,e2,e3⟩:=zai e1
  refine so ⟨G,H,[(0,l)]⟩ G H _ _ fl ρ' _ (SI.startM fz hg hl rc h4 (by lia)) e2 ?_
  have fin:∀G' H' σ' v,ρ'[0]? =some (.par out)->SI K ⟨G,H,[(0,l)]⟩ G' H' σ' ρ'->Fz G G'->ResF K G' H' H v r->Q v H':=fun G' H' σ' v e0 I f rr=>by
   obtain⟨l',ys,k1,k2,k3,k4,k5⟩:=I.slot 0 _ e0
   have:l'=l:=by simpa using k5
   subst this
   exact kk G' H' v ys f I.fz I.new (fun b o hb e=>I.keep b o e (fun i hm=>by simp at hm;exact hb hm.2)) k2 k3 k4 rr
  cases e0:ρ'[0]? with
  |none=>rw[e0]at e3;cases fl<;>cases e3
  |some s0=>
   rw[e0]at e3
   cases s0 with
   |emp=>cases fl<;>cases e3
   |two _ _=>cases fl<;>cases e3
   |tre _=>cases fl<;>cases e3
   |ptr _=>cases fl<;>cases e3
   |val d=>cases fl<;>cases e3
   |own d=>cases fl<;>cases e3
   |par o2=>
    cases fl with
    |next=>cases e3;exact fun G' H' σ' I f=>fin G' H' σ' .non e0 I f rfl
    |brk=>cases e3
    |cont=>cases e3
    |ret r'=>
     cases e3
     refine fun G' H' σ' v I f rr=>fin G' H' σ' v e0 I f ?_
     cases r with
     |val d=>exact rr
     |own ds=>exact rr
     |emp=>exact rr
     |two _ _=>exact rr
     |tre _=>exact rr
     |ptr _=>exact rr
     |par ds=>exact rr
end
structure FD (P:Program) (w:World) (K:W.Frag) (mg:Str->Option Value) (base:Heap) (k:Nat) (x:Str) (sp:Sp):Prop where
 ex:∃f fd ps,FnOk P w K mg base CX0 k f fd ps sp/\mg x=some (.ref f)/\W.keepIn K (.ref f)=true/\Binds K fd ps []
theorem zn1 (nw:∀b o,G' b=some o->G b≠none\/H b=none)(kp:Fz H H'):∀(i:Nat) (s:Sl) (a:Addr),ρ[i]? =some s->OwS K G H σ[i]? a s->G a=none->H a≠none->G' a=none/\H' a=H a:=fun i s a _ _ g h=>by
 obtain⟨u,hu⟩:=Option.ne_none_iff_exists'.mp h
 refine⟨?_,(kp a u hu).trans hu.symm⟩
 cases q:G' a with
 |none=>rfl
 |some u=>
  rcases nw a u q with z|z
  ·exact absurd g z
  ·exact absurd z h
theorem SI.grow (I:SI K B G H σ ρ)(f:Fz G G')(fz:Fz G' H')(nw:∀b o,G' b=some o->G b≠none\/H b=none)(kp:Fz H H'):SI K B G' H' σ ρ:=
 I.move fz f (fun b o e=>by
  rcases nw b o e with h|h
  ·cases q:G b with
   |none=>exact absurd q h
   |some u=>exact I.new b u q
  ·exact .inr (I.there b h)) (fun b o e n=>kp b o (I.keep b o e n)) (fun b e=>I.there b (kp.free e)) (zn1 nw kp)
theorem SI.own_ne (I:SI K B G H σ ρ)(hp:H p=none)(nw:∀b o,G' b=some o->G b≠none\/H b=none)(kp:Fz H H'):Nw K G' H' σ ρ p:=I.nw_move (I.nw hp) (zn1 nw kp)
noncomputable def zax (F:List D->Option Sl)(ma:MA):ME:=fun ρ=>(ma ρ).bind fun p=>(F p.1).bind fun r=>match r with
 | .val d=>some (d,p.2)
 | .own ds=>some (.lst ds,p.2)
 |_=>none
noncomputable def zlB (F:List D->Option Sl)(ma:MA):MO:=fun ρ=>(ma ρ).bind fun p=>(F p.1).bind fun r=>match r with
 | .own ds=>some (ds,p.2)
 |_=>none
section
variable {X:Cx} {x:Str} {p pos:Pos} {e:Expr} {es:List Expr} {ma:MA} {k k' n:Nat} {F:List D->Option Sl}
theorem zao (fd:FD X.prog X.w X.K X.mg X.base k x (spP X.K n F))(hr:Room k' X.A)(ha:SA X (e::es) ma)(hn:(e::es).length=n:=by rfl)(hk:k<=k':=by decide)(hg:Gl X x:=by rfl)(hdb:(x==("__debug__":Str))=false:=by decide)
  (he:starEach (e::es) X.env=(false,eval e X.env)::starEach es X.env:=by rfl) (hpl:(backTo pos (starEach es X.env)).any (·.1)=false:=by rfl) (hlen:∀ρ as ρ',ma ρ=some (as,ρ')->as.length=n):SE X (.Call (.Name x p) (e::es) [] pos) (zax F ma):=by
 obtain⟨f,fdd,ps,G0,h1,h2,h3⟩:=fd.ex
 obtain⟨t,pa,sa⟩:=ha
 refine⟨_,zle G0 (hr.mono hk) hg h1 h2 h3 .nil pass0 pa hdb he hpl,fun B G H σ ρ d ρ' Q I hm kk=>?_⟩
 obtain⟨⟨as,ρ1⟩,e1,hm⟩:=zai hm
 obtain⟨r,e2,hm⟩:=zai hm
 refine sa B G H σ ρ as ρ1 _ I e1 fun G1 H1 vs I1 f1 r1=>?_
 show spP X.K n F (vs++[]) H1 Q E0
 rw[List.append_nil]
 refine⟨G1,as,r,e2,hlen ρ as ρ1 e1,I1.fz,r1,fun G2 H2 v f2 fz2 nw kp rr=>?_⟩
 have I2:=I1.grow f2 fz2 nw kp
 cases r with
 |val d'=>cases hm;exact kk G2 H2 v I2 (f1.trans f2) rr
 |own ds=>
  cases hm
  obtain⟨l,xs,rfl,g3,h3,r3,b3⟩:=rr
  obtain⟨I3,f3,r4⟩:=zks I2 g3 h3 r3 (I1.there l b3) (I1.own_ne b3 nw kp)
  exact kk _ H2 _ I3 (f1.trans (f2.trans f3)) r4
 |emp=>cases hm
 |two _ _=>cases hm
 |tre _=>cases hm
 |ptr _=>cases hm
 |par _=>cases hm
theorem zi9 (fd:FD X.prog X.w X.K X.mg X.base k x (spP X.K n F))(hr:Room k' X.A)(ha:SA X (e::es) ma)(hn:(e::es).length=n:=by rfl)(hk:k<=k':=by decide)(hg:Gl X x:=by rfl)(hdb:(x==("__debug__":Str))=false:=by decide)
  (he:starEach (e::es) X.env=(false,eval e X.env)::starEach es X.env:=by rfl) (hpl:(backTo pos (starEach es X.env)).any (·.1)=false:=by rfl) (hlen:∀ρ as ρ',ma ρ=some (as,ρ')->as.length=n):SO X (.Call (.Name x p) (e::es) [] pos) (zlB F ma):=by
 obtain⟨f,fdd,ps,G0,h1,h2,h3⟩:=fd.ex
 obtain⟨t,pa,sa⟩:=ha
 refine⟨_,zle G0 (hr.mono hk) hg h1 h2 h3 .nil pass0 pa hdb he hpl,fun B G H σ ρ d ρ' Q I hm kk=>?_⟩
 obtain⟨⟨as,ρ1⟩,e1,hm⟩:=zai hm
 obtain⟨r,e2,hm⟩:=zai hm
 refine sa B G H σ ρ as ρ1 _ I e1 fun G1 H1 vs I1 f1 r1=>?_
 show spP X.K n F (vs++[]) H1 Q E0
 rw[List.append_nil]
 refine⟨G1,as,r,e2,hlen ρ as ρ1 e1,I1.fz,r1,fun G2 H2 v f2 fz2 nw kp rr=>?_⟩
 have I2:=I1.grow f2 fz2 nw kp
 cases r with
 |val d'=>cases hm
 |own ds=>
  cases hm
  obtain⟨l,xs,rfl,g3,h3,r3,b3⟩:=rr
  exact kk G2 H2 l xs I2 (f1.trans f2) g3 h3 r3 (I1.there l b3) (I1.own_ne b3 nw kp)
 |emp=>cases hm
 |two _ _=>cases hm
 |tre _=>cases hm
 |ptr _=>cases hm
 |par _=>cases hm
end
noncomputable def aLen (ma:MA)(n:Nat):Prop:=∀ρ as ρ',ma ρ=some (as,ρ')->as.length=n
theorem zah:aLen aNil 0:=fun ρ as ρ' h=>by cases h;rfl
theorem zac {m:ME}{r:MA}(h:aLen r n):aLen (zad m r) (n+1):=fun ρ as ρ' e=>by
 obtain⟨⟨d,ρ1⟩,_,h2⟩:=zai e
 obtain⟨⟨ds,ρ2⟩,e3,e4⟩:=zaJ h2
 cases e4
 rw[List.length_cons,h ρ1 ds ρ2 e3]
noncomputable def za3 (F:List D->List D->Option (Sl×List D))(j:Nat)(ma:MA):ME:=fun ρ=>if(ρ[j]?.bind Sl.items).isSome then(ma ρ).bind fun p=>p.2[j]?.bind fun s=>s.items.bind fun cs=>(F cs p.1).bind fun r=>match r.1 with
 | .val d=>some (d,p.2.set j (s.put r.2))
 | .own ds=>some (.lst ds,p.2.set j (s.put r.2))
 |_=>none else none
theorem SI.growW (I:SI K B G H σ ρ)(e:ρ[j]? =some s)(q:s.items=some cs)(hl:σ[j]? =some (some (.ref l)))
  (f:Fz G G') (fz:Fz G' H') (nw:∀b o,G' b=some o->G b≠none\/H b=none) (kp:∀b o,b≠l->H b=some o->H' b=some o) (gl:G' l=none) (hl':H' l=some (.lst ys)) (r:RepL K G' ys out):SI K B G' H' σ (ρ.set j (s.put out)):=
 I.chgW e q hl fz f nw kp gl hl' r
theorem SI.own_neW (I:SI K B G H σ ρ)(e:ρ[j]? =some s)(q:s.items=some cs)(hl:σ[j]? =some (some (.ref l)))(hp:H p=none)
  (nw:∀b o,G' b=some o->G b≠none\/H b=none) (kp:∀b o,b≠l->H b=some o->H' b=some o):Nw K G' H' σ (ρ.set j (s.put out)) p:=fun i t et w=>by
 obtain⟨l',xs,e1,e2,e3,e4⟩:=I.wr e q
 rw[hl]at e1;cases e1
 have hpl:p≠l:=fun z=>by rw[z,e3]at hp;cases hp
 by_cases z:i=j
 ·subst z
  rw[List.getElem?_set,if_pos rfl]at et
  split at et
  ·cases et
   have:=(zfp (zkD q out)).mp w
   rw[hl]at this
   exact hpl (V.ref.inj (Option.some.inj (Option.some.inj this))).symm
  ·cases et
 ·rw[List.getElem?_set_ne (Ne.symm z)]at et
  have sl:=I.slot i t et
  refine(sl.own (sl.back (fun a w g h=>?_) w)).2.1 hp
  have na:a≠l:=fun w'=>by subst w';exact I.dis i j t s a z et e w ((zfp q).mpr hl)
  obtain⟨u,hu⟩:=Option.ne_none_iff_exists'.mp h
  refine⟨?_,(kp a u na hu).trans hu.symm⟩
  cases q2:G' a with
  |none=>rfl
  |some u=>
   rcases nw a u q2 with z|z
   ·exact absurd g z
   ·exact absurd z h
section
variable {X:Cx} {x y:Str} {p py pos:Pos} {es:List Expr} {ma:MA} {k k' n:Nat} {F:List D->List D->Option (Sl×List D)}
theorem soundM {t:TA}{Q:VK}(sa:∀B G H σ ρ ds ρ' (Q:List V->Hp->Prop),SI X.K B G H σ ρ->ma ρ=some (ds,ρ')->(∀G' H' vs,SI X.K B G' H' σ ρ'->Fz G G'->RepL X.K G' vs ds->Q vs H')->t σ H Q)
  (hlen:∀ρ as ρ',ma ρ=some (as,ρ')->as.length+1=n) (I:SI X.K B G H σ ρ) {ds0:List D} (h0:ρ[j]?.bind Sl.items=some ds0) {as:List D} {ρ1:R} (e1:ma ρ=some (as,ρ1)) {s:Sl} (e2:ρ1[j]? =some s) {cs:List D} (e3:s.items=some cs)
  {r:Sl} {out:List D} (e4:F cs as=some (r,out))
  (kk:∀G' H' v,SI X.K B G' H' σ (ρ1.set j (s.put out))->Fz G G'->True->(∃H1,ResF X.K G' H' H1 v r/\(∀b,H1 b=none->B.H b=none)/\∀b,H1 b=none->Nw X.K G' H' σ (ρ1.set j (s.put out)) b)->Q v H'):
  tCall (spM X.K n F) [] E0 (tCons (tVar j) t) σ H Q:=by
 obtain⟨s0,k0,q0⟩:=zai h0
 obtain⟨l,xs0,h1,h2,h3,h4⟩:=I.wr k0 q0
 refine⟨.ref l,h1,sa B G H σ ρ as ρ1 _ I e1 fun G1 H1 vs I1 f1 r1=>?_⟩
 show spM X.K n F ((.ref l::vs)++[]) H1 Q E0
 rw[List.append_nil]
 obtain⟨l',xs,m1,m2,m3,m4⟩:=I1.wr e2 e3
 rw[h1]at m1;cases m1
 refine⟨G1,l,xs,cs,vs,as,r,out,rfl,e4,hlen ρ as ρ1 e1,I1.fz,m2,m3,m4,r1,fun G2 H2 v ys f2 fz2 nw kp gl hl r2 rr=>?_⟩
 exact kk G2 H2 v (I1.growW e2 e3 h1 f2 fz2 nw kp gl hl r2) (f1.trans f2) trivial ⟨H1,rr,fun b hb=>I1.there b hb,fun b hb=>I1.own_neW e2 e3 h1 hb nw kp⟩
theorem zaE (j:Nat)(fd:FD X.prog X.w X.K X.mg X.base k x (spM X.K n F))(hr:Room k' X.A)(ha:SA X es ma)(hlen:∀ρ as ρ',ma ρ=some (as,ρ')->as.length+1=n)(hN:X.N[j]? =some y:=by rfl)(hv:Vis X.env.scope y:=by first|exact Or.inl rfl|exact Or.inr (Or.inl rfl)|exact Or.inr (Or.inr rfl))(hd:(y==("__debug__":Str))=false:=by decide)
  (hcd:(y==("__classdict__":Str))=false:=by decide) (hk:k<=k':=by decide) (hg:Gl X x:=by rfl) (hdb:(x==("__debug__":Str))=false:=by decide)
  (he:starEach (.Name y py::es) X.env=(false,eval (.Name y py) X.env)::starEach es X.env:=by rfl) (hpl:(backTo pos (starEach es X.env)).any (·.1)=false:=by rfl):SE X (.Call (.Name x p) (.Name y py::es) [] pos) (za3 F j ma):=by
 obtain⟨f,fdd,ps,G0,h1,h2,h3⟩:=fd.ex
 obtain⟨t,pa,sa⟩:=ha
 refine⟨_,zle G0 (hr.mono hk) hg h1 h2 h3 .nil pass0 (ziN (zff hN hv hd hcd) pa he) hdb he hpl,fun B G H σ ρ d ρ' Q I hm kk=>?_⟩
 unfold za3 at hm
 split at hm
 ·rename_i hso
  obtain⟨ds0,hso⟩:=Option.isSome_iff_exists.mp hso
  obtain⟨⟨as,ρ1⟩,e1,hm⟩:=zai hm
  obtain⟨s,e2,hm⟩:=zai hm
  obtain⟨cs,e3,hm⟩:=zai hm
  obtain⟨⟨r,out⟩,e4,hm⟩:=zai hm
  refine soundM sa hlen I hso e1 e2 e3 e4 fun G' H' v I' f' _ ⟨H1,rr,bb,nn⟩=>?_
  cases r with
  |val d'=>cases hm;exact kk G' H' v I' f' rr
  |own ds=>
   cases hm
   obtain⟨l,xs,rfl,g3,h3,r3,b3⟩:=rr
   obtain⟨I3,f3,r4⟩:=zks I' g3 h3 r3 (bb l b3) (nn l b3)
   exact kk _ H' _ I3 (f'.trans f3) r4
  |emp=>cases hm
  |two _ _=>cases hm
  |tre _=>cases hm
  |ptr _=>cases hm
  |par _=>cases hm
 ·cases hm
end
noncomputable def zfL (env:Env)(cs:List (Str×Addr))(x:Str×NameKind):List (Str×Addr):=if x.2== .free then(x.1,(env.cells.lookup x.1).getD 0)::cs else cs
noncomputable def clOf (scope:Scope)(env:Env):List (Str×Addr):=scope.names.foldl (zfL env) []
theorem zif:∀(names:List (Str×NameKind)) (cs:List (Str×Addr)),(∀y∈names,y.2= .free->∃c,env.cells.lookup y.1=some c)->
  (forIn names cs (fun x r=>if x.2==NameKind.free then do let a<-cellOf env x.1;pure (ForInStep.yield ((x.1,a)::r))else pure (ForInStep.yield r)):Sem (List (Str×Addr)))=pure (names.foldl (zfL env) cs)
 |[],cs,_=>rfl
 |(n,k)::r,cs,h=>by
  have ih:=fun cs'=>zif r cs' (fun y hy=>h y (List.mem_cons_of_mem _ hy))
  rw[List.forIn_cons,List.foldl_cons]
  by_cases hk:(k==NameKind.free)=true
  ·obtain⟨c,hc⟩:=h (n,k) List.mem_cons_self (by simpa using hk)
   have e:zfL env cs (n,k)=(n,c)::cs:=by unfold zfL;simp[hk,hc]
   rw[e,<-ih]
   simp only[hk,if_true]
   unfold cellOf
   simp only at hc
   rw[hc]
   rfl
  ·have e:zfL env cs (n,k)=cs:=by unfold zfL;simp[hk]
   rw[e,<-ih]
   simp only[hk]
   rfl
theorem znj {env:Env}(h:∀y∈scope.names,y.2= .free->∃c,env.cells.lookup y.1=some c):closureFor scope env=pure (clOf scope env):=by
 unfold closureFor clOf
 have e:=zif (env:=env) scope.names [] h
 simp only[bind_pure]
 exact e
theorem zd1:∀{names:List (Str×NameKind)} {cs:List (Str×Addr)},(∀y∈names,y.2= .free->∃c,env.cells.lookup y.1=some c)->(cs.lookup x=some c->env.cells.lookup x=some c)->
  (names.foldl (zfL env) cs).lookup x=some c->env.cells.lookup x=some c
 |[],cs,_,h0,h=>h0 h
 |(n,k)::r,cs,hn,h0,h=>by
  rw[List.foldl_cons]at h
  refine zd1 (names:=r) (fun y hy=>hn y (List.mem_cons_of_mem _ hy)) ?_ h
  intro q
  unfold zfL at q
  split at q
  ·rename_i hk
   obtain⟨c',hc⟩:=hn (n,k) List.mem_cons_self (by simpa using hk)
   rw[List.lookup_cons]at q
   simp only at hc
   by_cases z:(x==n)=true
   ·rw[z]at q
    have zz:x=n:=by simpa using z
    subst zz
    simp only[hc,Option.getD_some]at q
    rw[hc];exact q
   ·have z':(x==n)=false:=by simpa using z
    rw[z']at q;exact h0 q
  ·exact h0 q
theorem zfP:∀{names:List (Str×NameKind)} {cs:List (Str×Addr)},((x,NameKind.free)∈names\/(cs.lookup x).isSome=true)->((names.foldl (zfL env) cs).lookup x).isSome=true
 |[],cs,h=>by
  rcases h with h|h
  ·simp at h
  ·exact h
 |(n,k)::r,cs,h=>by
  rw[List.foldl_cons]
  refine zfP (names:=r) ?_
  rcases h with h|h
  ·rcases List.mem_cons.mp h with h|h
   ·cases h
    refine .inr ?_
    unfold zfL
    simp
   ·exact .inl h
  ·refine .inr ?_
   unfold zfL
   split
   ·rw[List.lookup_cons]
    by_cases z:(x==n)=true
    ·rw[z];rfl
    ·have z':(x==n)=false:=by simpa using z
     rw[z'];exact h
   ·exact h
theorem ziM:∀{names:List (Str×NameKind)} {n:Nat} {acc:List (Str×Addr)},(cellsFrom n names acc).lookup x=some c->(n<=c/\(x,NameKind.cell)∈names)\/acc.lookup x=some c
 |[],n,acc,h=> .inr h
 |(m,k)::r,n,acc,h=>by
  unfold cellsFrom at h
  split at h
  ·rename_i hk
   have hk':k= .cell:=by simpa using hk
   subst hk'
   rcases ziM h with⟨h1,h2⟩|h1
   ·exact .inl ⟨Nat.le_of_succ_le h1,List.mem_cons_of_mem _ h2⟩
   ·rw[List.lookup_cons]at h1
    cases q:x==m with
    |true=>
     rw[q]at h1
     cases h1
     rw[beq_iff_eq.mp q]
     exact .inl ⟨Nat.le_refl _,List.mem_cons_self⟩
    |false=>rw[q]at h1;exact .inr h1
  ·rcases ziM h with⟨h1,h2⟩|h1
   ·exact .inl ⟨h1,List.mem_cons_of_mem _ h2⟩
   ·exact .inr h1
theorem zmD:∀{names:List (Str×NameKind)} {n:Nat} {acc:List (Str×Addr)},(x,NameKind.cell)∉names->(cellsFrom n names acc).lookup x=acc.lookup x
 |[],n,acc,_=>rfl
 |(m,k)::r,n,acc,h=>by
  unfold cellsFrom
  split
  ·rename_i hk
   have hk':k= .cell:=by simpa using hk
   subst hk'
   rw[zmD fun z=>h (List.mem_cons_of_mem _ z),List.lookup_cons]
   cases q:x==m with
   |true=>exact absurd (by rw[beq_iff_eq.mp q];exact List.mem_cons_self) h
   |false=>rfl
  ·exact zmD fun z=>h (List.mem_cons_of_mem _ z)
theorem zmC:∀{names:List (Str×NameKind)} {n:Nat} {acc:List (Str×Addr)},(x,NameKind.cell)∈names->∃c,(cellsFrom n names acc).lookup x=some c/\n<=c
 |(m,k)::r,n,acc,h=>by
  unfold cellsFrom
  by_cases hr:(x,NameKind.cell)∈r
  ·split
   ·obtain⟨c,h1,h2⟩:=zmC (n:=n+1) (acc:=(m,n)::acc) hr
    exact⟨c,h1,Nat.le_of_succ_le h2⟩
   ·exact zmC hr
  ·rcases List.mem_cons.mp h with e|e
   ·cases e
    rw[if_pos (beq_self_eq_true _),zmD hr,List.lookup_cons,beq_self_eq_true]
    exact⟨n,rfl,Nat.le_refl _⟩
   ·exact absurd e hr
theorem znJ:∀{names:List (Str×NameKind)} {n:Nat} {acc:List (Str×Addr)},(∀x c,acc.lookup x=some c->c<n)->(∀x y c,acc.lookup x=some c->acc.lookup y=some c->x=y)->
  ∀x y c,(cellsFrom n names acc).lookup x=some c->(cellsFrom n names acc).lookup y=some c->x=y
 |[],n,acc,_,hi=>hi
 |(m,k)::r,n,acc,hl,hi=>by
  unfold cellsFrom
  split
  ·refine znJ (fun x c h=>?_) (fun x y c h1 h2=>?_)
   ·rw[List.lookup_cons]at h
    cases q:x==m with
    |true=>rw[q]at h;cases h;exact Nat.lt_succ_self _
    |false=>rw[q]at h;exact Nat.lt_succ_of_lt (hl x c h)
   ·rw[List.lookup_cons]at h1 h2
    cases q:x==m with
    |true=>
     rw[q]at h1
     cases h1
     cases q2:y==m with
     |true=>rw[beq_iff_eq.mp q,beq_iff_eq.mp q2]
     |false=>rw[q2]at h2;exact absurd (hl y n h2) (Nat.lt_irrefl _)
    |false=>
     rw[q]at h1
     cases q2:y==m with
     |true=>rw[q2]at h2;cases h2;exact absurd (hl x n h1) (Nat.lt_irrefl _)
     |false=>rw[q2]at h2;exact hi x y c h1 h2
  ·exact znJ hl hi
theorem zlD:∀{names:List (Str×NameKind)} {h:Heap} {acc:List (Str×Addr)},(∀x c,acc.lookup x=some c->∃v,h.IsCell c v)->∀x c,(cellsFrom h.objs.size names acc).lookup x=some c->∃v,(pushCells h names).IsCell c v
 |[],h,acc,ha=>ha
 |(m,k)::r,h,acc,ha=>by
  unfold cellsFrom pushCells
  split
  ·intro x c e
   rw[<-Heap.size_push h {cls:= .type "cell",data:= .cell none}]at e
   refine zlD (fun y d q=>?_) x c e
   rw[List.lookup_cons]at q
   cases z:y==m with
   |true=>rw[z]at q;cases q;exact⟨none,_,Heap.get?_push_size _ rfl,rfl⟩
   |false=>
    rw[z]at q
    obtain⟨v,hv⟩:=ha y d q
    exact⟨v,hv.keeps fun b o e=>Heap.get?_push_of_some _ e⟩
  ·exact zlD ha
theorem zl7 {M:Model}{s:Shared}{globals:Addr}{Q:Env->Shared->Prop}
  (hQ : ∀ h' : Heap, h'.Ns s.heap.objs.size (fun _ => none) -> (∀ a o, s.heap.get? a = some o -> h'.get? a = some o) ->
   ((∀x c,cl.lookup x=some c->∃v,s.heap.IsCell c v)->∀x c,(cellsFrom (s.heap.objs.size+1) scope.names cl).lookup x=some c->∃v,h'.IsCell c v)->
   Q (newEnv scope s.heap.objs.size globals (cellsFrom (s.heap.objs.size+1) scope.names cl) qual none .none (some env) builtinsNs) {s with heap:=h'}):
  wpAny M A (newFunctionEnv scope globals cl [] qual none .none (some env)) Q E s:=by
 simp only[newFunctionEnv,Option.isSome_some,if_true]
 refine wpAny_bind (wpAny_alloc ?_)
 refine wpAny_bind (wpAny_layCells _ (fun name kind cells=>by cases hkc:kind==NameKind.cell<;>simp[hkc]) _ _ _ _ ?_)
 rw[show({s with heap:=s.heap.push {cls:= .type "dict",data:= .dict #[]}}:Shared).heap.objs.size=s.heap.objs.size+1 from Heap.size_push ..]
 refine wpAny_bind ?_
 rw[List.forIn_nil]
 refine wpAny_pure (wpAny_pure (hQ _ ((Heap.Ns.new s.heap (.type "dict")).keeps (pushCells_keeps _ _)) (fun a o e=>pushCells_keeps _ _ a o (Heap.get?_push_of_some _ e)) fun hc x c e=>?_))
 rw[<-Heap.size_push s.heap {cls:= .type "dict",data:= .dict #[]}]at e
 refine zlD (fun y d q=>?_) x c e
 obtain⟨v,hv⟩:=hc y d q
 exact⟨v,hv.keeps fun b o e=>Heap.get?_push_of_some _ e⟩
noncomputable def clC (scope:Scope)(env:Env)(C:Addr):List (Str×Addr):=cellsFrom (C+1) scope.names (clOf scope env)
noncomputable def ownC (scope:Scope)(x:Str):Bool:=match scope.names.lookup x with
 |some .cell=>true
 |_=>false
noncomputable def cxC (X:Cx)(N:List Str)(scope:Scope)(C:Addr)(s:Shared)(H:Hp)(fp:List Addr):Cx:=
 {X with N:=N,s₀:=s,H₀:=H,env:=compEnvC scope (clC scope X.env C) C X.env,outer:=X.stack,ex:=fp,fn:=ownC scope,pn:=[],xe:=fun _ _=>False}
structure BlkOk (X:Cx) (scope:Scope):Prop where
 kind:scope.kind= .function
 uniq:∀y∈scope.names,scope.names.lookup y.1=some y.2
 free:∀y∈scope.names,y.2= .free->X.env.kindOf y.1=some .cell\/X.env.kindOf y.1=some .free
theorem zgh {α:Type}{v:α}:∀{l:List (Str×α)},l.lookup x=some v->(x,v)∈l
 |[],h=>by simp at h
 |(n,w)::r,h=>by
  rw[List.lookup_cons]at h
  by_cases z:(x==n)=true
  ·rw[z]at h
   have zz:x=n:=by simpa using z
   subst zz
   cases h
   exact List.mem_cons_self
  ·have z':(x==n)=false:=by simpa using z
   rw[z']at h
   exact List.mem_cons_of_mem _ (zgh h)
theorem zd3 {env:Env}{x:Str}:∀{names:List (Str×NameKind)},(names.map fun(n,k)=>if(k==NameKind.free&&env.scope.kind== .function&&env.kindOf n==some .cell)then(n,NameKind.cell)else(n,k)).lookup x=
  (names.lookup x).map fun k=>if(k==NameKind.free&&env.scope.kind== .function&&env.kindOf x==some .cell)then NameKind.cell else k
 |[]=>rfl
 |(n,k)::r=>by
  have ih:=zd3 (env:=env) (x:=x) (names:=r)
  show List.lookup x ((if(k==NameKind.free&&env.scope.kind== .function&&env.kindOf n==some .cell)=true then(n,NameKind.cell)else(n,k))::_)=_
  cases hx:x==n with
  |true=>
   have zz:x=n:=by simpa using hx
   by_cases hc:(k==NameKind.free&&env.scope.kind== .function&&env.kindOf n==some .cell)=true
   ·rw[if_pos hc]
    simp only[List.lookup_cons,hx,Option.map_some]
    rw[zz,if_pos hc]
   ·rw[if_neg hc]
    simp only[List.lookup_cons,hx,Option.map_some]
    rw[zz,if_neg hc]
  |false=>
   by_cases hc:(k==NameKind.free&&env.scope.kind== .function&&env.kindOf n==some .cell)=true
   ·rw[if_pos hc];simp only[List.lookup_cons,hx];exact ih
   ·rw[if_neg hc];simp only[List.lookup_cons,hx];exact ih
section
variable {X:Cx} {pins:List (Addr×Obj)} {σ:St} {H:Hp} {s:Shared} {scope:Scope} {N:List Str} {fp:List Addr} {C:Addr}
theorem ziO (I:Inv X pins σ H s)(b:BlkOk X scope):∀y∈scope.names,y.2= .free->∃c,X.env.cells.lookup y.1=some c:=fun y hy hf=>I.ok.has y.1 (b.free y hy hf)
theorem blk_vis (h:(relabel scope X.env).names.lookup x=some .cell\/(relabel scope X.env).names.lookup x=some .free):(x,NameKind.free)∈scope.names\/(x,NameKind.cell)∈scope.names:=by
 have e:(relabel scope X.env).names.lookup x=(scope.names.lookup x).map fun k=>if(k==NameKind.free&&X.env.scope.kind== .function&&X.env.kindOf x==some .cell)then NameKind.cell else k:=zd3
 rw[e]at h
 cases q:scope.names.lookup x with
 |none=>rw[q]at h;simp at h
 |some k=>
  have hm:=zgh q
  by_cases hk:k= .free
  ·subst hk;exact .inl hm
  ·rw[q]at h
   have hkf:(k==NameKind.free)=false:=by simpa using hk
   simp only[Option.map_some,hkf,Bool.false_and,Bool.false_eq_true,if_false,Option.some.injEq]at h
   rcases h with h|h
   ·subst h;exact .inr hm
   ·exact absurd h hk
theorem zhz (I:Inv X pins σ H s)(b:BlkOk X scope)(h:(clOf scope X.env).lookup x=some c):X.env.cells.lookup x=some c:=zd1 (ziO I b) (by simp) h
theorem zhV (I:Inv X pins σ H s)(b:BlkOk X scope)(h:(clC scope X.env C).lookup x=some c):C<c\/X.env.cells.lookup x=some c:=by
 rcases ziM h with⟨h1,_⟩|h1
 ·exact .inl h1
 ·exact .inr (zhz I b h1)
theorem zmr (b:BlkOk X scope)(h:(x,NameKind.free)∈scope.names):(clC scope X.env C).lookup x=(clOf scope X.env).lookup x:=zmD fun z=>by
 have h1:=b.uniq _ h
 have h2:=b.uniq _ z
 simp only at h1 h2
 rw[h1]at h2
 cases h2
theorem blk_ok (I:Inv X pins σ H s)(b:BlkOk X scope)(hC:s.heap.objs.size<=C)(hf:∀b∈fp,FpOk X pins H b)(hfC:∀b∈fp,b<C):(cxC X N scope C s H fp).Ok where
 mod:=I.ok.mod
 kind:=b.kind
 glob:=I.ok.glob
 blt:=I.ok.blt
 above:=hC
 inj:=znJ (fun x c h=>by
  obtain⟨v,hv⟩:=I.cell x c (zhz I b h)
  exact Nat.lt_succ_of_lt (Nat.lt_of_lt_of_le hv.lt hC)) fun x y c h1 h2=>I.ok.inj x y c (zhz I b h1) (zhz I b h2)
 has:=fun x hx=>by
  rcases blk_vis (x:=x) hx with hm|hm
  ·show ∃c,(clC scope X.env C).lookup x=some c
   rw[zmr b hm]
   exact Option.isSome_iff_exists.mp (zfP (.inl hm))
  ·obtain⟨c,h,_⟩:=zmC (n:=C+1) (acc:=clOf scope X.env) hm
   exact⟨c,h⟩
 cab:=fun x c h e=>by
  have h':ownC scope x=true:=h
  unfold ownC at h'
  split at h'
  ·rename_i q
   obtain⟨c',h1,h2⟩:=zmC (n:=C+1) (acc:=clOf scope X.env) (zgh q)
   have e':some c'=some c:=h1.symm.trans e
   cases e'
   exact Nat.le_trans hC (Nat.le_of_succ_le h2)
  ·cases h'
 hd:=I.ok.hd
 frames:=I.ok.frames
 stk:= .inl rfl
 exf:=fun a ha=>⟨Nat.ne_of_lt (hfC a ha),fun x c e z=>by
  rcases zhV I b e with q|q
  ·exact Nat.lt_asymm q (z ▸ hfC a ha)
  ·exact(hf a ha).2.2.2.2.1 x c q z⟩
 bs:=I.bs
 bsz:=Nat.le_trans I.ok.bsz I.sz
 noex:=fun a o e ha=>by
  rcases(hf a ha).2.2.2.1 with z|z
  ·exact I.ok.noex a o e z
  ·exact absurd (Nat.lt_of_lt_of_le (Heap.lt_size e) (Nat.le_trans I.ok.bsz z)) (Nat.lt_irrefl _)
 exfs:=fun a ha hs=>by
  rcases List.mem_cons.mp (I.stkSub a hs)with z|z
  ·exact(hf a ha).2.1 z
  ·exact(hf a ha).2.2.1 z
 funs:=I.stack
 frf:=I.stkFree
theorem zoy {tk:Nat}(I:Inv X pins σ H s)(b:BlkOk X scope)(hf:∀b∈fp,FpOk X pins H b)(hfs:∀b∈fp,b<s.heap.objs.size)
  (hns:h'.Ns s.heap.objs.size (fun _=>none)) (hk:∀a o,s.heap.get? a=some o->h'.get? a=some o) (hcl:∀x c,(clC scope X.env s.heap.objs.size).lookup x=some c->∃v,h'.IsCell c v) (hl:σc.length=N.length)
  (hσ:∀(i:Nat) (x:Str) (v:V),N[i]? =some x->σc[i]? =some (some v)->(x,NameKind.free)∈scope.names/\∃j:Nat,X.N[j]? =some x/\σ[j]? =some (some v)) (hloc:∀(i:Nat) (x:Str) (v:V),N[i]? =some x->σc[i]? =some (some v)->¬(relabel scope X.env).names.lookup x=some .local):
  Inv (cxC X N scope s.heap.objs.size s H fp) [] σc H {s with heap:=h',toks:=tk}:=by
 have ok:=blk_ok (N:=N) I b (Nat.le_refl _) hf hfs
 refine⟨ok,rfl,I.bare,Un.kept hk,⟨_,hns,fun i x v h1 h2 h3=>?_⟩,fun x c e=>?_,I.hok.fresh (Nat.le_refl _),fun x c e=>?_,fun p hp=>absurd (show p∈([]:List (Addr×Obj))from hp) (by simp),I.hok.kept hk,hl⟩
 ·obtain⟨hm,j,hj,hv⟩:=hσ i x v h1 h2
  have hkind:=b.free _ hm rfl
  obtain⟨m,hn,hloc'⟩:=I.loc
  have hvis:Vis X.env.scope x:=by
   rcases hkind with z|z
   ·exact .inr (.inl z)
   ·exact .inr (.inr z)
  obtain⟨u,ru,lk⟩:=hloc' j x v hj hv hvis
  refine⟨u,ru,?_⟩
  rcases lk with⟨z,_⟩|⟨_,c,ec,hc⟩
  ·exfalso
   rcases hkind with w|w<;>simp only at w<;>rw[z]at w<;>cases w
  ·refine .inr ⟨?_,c,?_,?_⟩
   ·rcases h3 with z|z|z
    ·exact absurd z (hloc i x v h1 h2)
    ·exact .inl z
    ·exact .inr z
   ·have hs:((clOf scope X.env).lookup x).isSome=true:=zfP (.inl hm)
    obtain⟨c',ec'⟩:=Option.isSome_iff_exists.mp hs
    have:=zd1 (ziO I b) (by simp) ec'
    rw[ec]at this
    cases this
    exact(zmr b hm).trans ec'
   ·obtain⟨o,ho,hd⟩:=hc
    exact⟨o,hk _ _ ho,hd⟩
 ·exact hcl x c e
 ·rcases zhV I b e with q|q
  ·exact I.hok.fresh (Nat.le_of_lt q)
  ·exact I.freeC x c q
theorem znS {h':Heap}{s1:Shared}(I:Inv X pins σ H s)(hf:∀b∈fp,FpOk X pins H b)(J:Inv (cxC X N scope s.heap.objs.size s H fp) [] σc H' s1)(hs:Heap.SameBut s.heap.objs.size s1.heap h'):Inv X pins σ H' {s1 with heap:=h'}:=by
 have kp:∀a o,a≠s.heap.objs.size->s1.heap.get? a=some o->h'.get? a=some o:=fun a o ha e=>hs.extBut a o ha e
 have free:H' s.heap.objs.size=none:=J.free
 have ntr:∀a u,H' a=some u->a≠s.heap.objs.size:=fun a u e z=>by rw[z,free]at e;cases e
 have lt:∀a o,s.heap.get? a=some o->a≠s.heap.objs.size:=fun a o e=>Nat.ne_of_lt (Heap.lt_size e)
 have u:Un (frs X.stack) fp H H' s.heap s1.heap:=J.base
 have u':Un (frs X.stack) fp H H' s.heap h':=by
  refine⟨fun a o e n hb hx=>kp a o (lt a o e) (u.keep a o e n hb hx),fun a o e n hb hx=>?_,u.free,fun a o e hx=>?_,u.tups,u.frzs,u.tbls⟩
  ·obtain⟨sl,q⟩:=u.slot a o e n hb hx
   exact⟨sl,kp a _ (lt a o e) q⟩
  ·obtain⟨o',q⟩:=u.there a o e hx
   exact⟨o',kp a _ (lt a o e) q⟩
 have hok:HOk X.prog X.w H' h':=fun a o e=>(J.hok a o e).stay (fun c v hc q=>by
  refine kp c v ?_ q
  rcases hc with rfl|hc
  ·exact ntr _ _ e
  ·exact ntr _ _ hc) (fun _ q=>q) fun _ _ q=>q
 obtain⟨hh,g,d,t,os'⟩:=s1
 have os:os'=s.os:=J.os
 subst os
 have z:=I.call (h':=h') (g':=g) (d':=d) (t':=t) (ch:=fp) u' hok J.bare (fun a ha=>⟨(hf a ha).2.2.2.1,(hf a ha).2.1,(hf a ha).2.2.2.2.1,(hf a ha).2.2.2.2.2⟩)
 exact z
end
noncomputable def PTs (X:Cx)(ifs:List Expr)(t:TT):Prop:=∀(pins:List (Addr×Obj)) (s:Shared) (σ:St) (H:Hp) (Q:Bool->Hp->Prop),Inv X pins σ H s->t σ H Q->
 wpAny (model X.prog X.w) X.A (forIn ifs true fun c r=>if r=true then do let ok<-isTrue c X.env (eval c X.env);pure (ForInStep.yield ok)else pure (ForInStep.yield r)) (TP X pins σ Q) X.xe s
theorem pts_nil:PTs X [] (fun _ H Q=>Q true H):=fun pins s σ H Q I h=>wpAny_tests_nil ⟨H,I,h⟩
theorem pts_one {c:Expr}{t:TT}(h:PT X c t):PTs X [c] t:=fun pins s σ H Q I hw=>wpAny_tests_one (h pins s σ H Q I hw)
theorem zlq {R:Result->Shared->Prop}{s:Shared}{elt target iter:Expr}{it acc:Value}(I:Nat->Shared->Prop)
  (turn : ∀ n s, I n s -> wpAny (model prog w) A (pyNext it) (fun r s₁ => match r with
   |none=>R (.ok .next) s₁
   | some v => wpAny (model prog w) A (letOwnedTupleGo target it v) (fun _ s₁' => wpAny (model prog w) A (assign target env v) (fun _ s₂ =>
     wpAny (model prog w) A (forIn ifs true fun c r=>if r=true then do let ok<-isTrue c env (eval c env);pure (ForInStep.yield ok)else pure (ForInStep.yield r)) (fun ok s₃=>
      if ok=true then wpAny (model prog w) A (eval elt env) (fun x s₄=>
       wpAny (model prog w) A (call (.builtin "list.append") [acc,x]) (fun _ s₅=>∃m,m<n/\I m s₅) (fun _ _=>False) s₄) (fun _ _=>False) s₃
      else ∃m,m<n/\I m s₃) (fun _ _=>False) s₂) (fun _ _=>False) s₁') (fun _ _=>False) s₁) (fun _ _=>False) s)
  (n:Nat) (h:I n s):codeAny (model prog w) A (.compLoop (.ListComp elt [⟨target,iter,ifs,0⟩] scope pos) 0 it acc env) R s:=by
 refine codeAny_loop rfl I (fun n s hI=>?_) n h
 show wpAny _ A ((compTurn (.ListComp elt [⟨target,iter,ifs,0⟩] scope pos) 0 it acc env).onRaise (fun x=>do noteFrame x env;theTreesLotGoes x)) _ _ s
 refine wpAny_noted ?_
 rw[compTurn_list]
 have no:∀{E:Value->Shared->Prop},∀x s',(fun(_:Value) (_:Shared)=>False) x s'->E x s':=fun _ _ z=>z.elim
 refine wpAny_bind (wpAny_standAt (wpAny_bind (wpAny_mono (turn n s hI) (fun r s₁ h₁=>?_) no)))
 cases r with
 |none=>exact wpAny_pure h₁
 |some v=>
  refine wpAny_bind (wpAny_mono h₁ (fun _ s₁' h₁'=>?_) no)
  refine wpAny_bind (wpAny_mono h₁' (fun _ s₂ h₂=>wpAny_bind (wpAny_mono h₂ (fun ok s₃ h₃=>?_) no)) no)
  cases ok with
  |false=>exact wpAny_pure ⟨rfl,h₃⟩
  |true=>
   exact wpAny_bind (wpAny_bind (wpAny_mono h₃ (fun x s₄ h₄=>wpAny_bind (wpAny_mono h₄ (fun _ s₅ h₅=>wpAny_pure (wpAny_pure ⟨rfl,h₅⟩)) no)) no))
noncomputable def tLC (σ0:St->St)(wi:TI)(g:Addr->Shared->Hp->List Addr->TG)(tt:Addr->Shared->Hp->List Addr->TT)(te:Addr->Shared->Hp->List Addr->TE):TE:=fun σ H Q=>wi σ H fun J H1=>∀D,H1 D=none->∃W:Nat->Nat->St->Hp->Prop,(∃m,W 0 m (σ0 σ) (upd H1 D (.lst [])))/\∀i m σ H,W i m σ H->
 (J.stop i H /\ Q (.ref D) H) \/ (J.go i H /\ ∀ C s₀ H₀ fp x H', J.yld i H x H' -> g C s₀ H₀ fp x σ H' fun σ2 H2 => tt C s₀ H₀ fp σ2 H2 fun ok H3 => if ok = true then te C s₀ H₀ fp σ2 H3 fun v H4 => ∃ xs, H4 D = some (.lst xs) /\ xs.length < sizeLine /\ ∃ m', m' < m /\ W (i + 1) m' σ2 (upd H4 D (.lst (xs ++ [v])))
  else ∃m',m'<m/\W (i+1) m' σ2 H3)
section
variable {X:Cx} {elt iter tg:Expr} {ifs:List Expr} {scope:Scope} {pos:Pos} {N:List Str} {σ0:St->St} {wi:TI} {g:Addr->Shared->Hp->List Addr->TG} {tt:Addr->Shared->Hp->List Addr->TT} {te:Addr->Shared->Hp->List Addr->TE}
structure Cap (X:Cx) (scope:Scope) (N:List Str) (σ0:St->St):Prop where
 len:∀σ,(σ0 σ).length=N.length
 src:∀(σ:St) (i:Nat) (x:Str) (v:V),N[i]? =some x->(σ0 σ)[i]? =some (some v)->(x,NameKind.free)∈scope.names/\∃j:Nat,X.N[j]? =some x/\σ[j]? =some (some v)
 loc:∀(σ:St) (i:Nat) (x:Str) (v:V),N[i]? =some x->(σ0 σ)[i]? =some (some v)->¬(relabel scope X.env).names.lookup x=some .local
theorem zow {E:Value->Shared->Prop}(hc:X.calm=true)(b:BlkOk X scope)(cap:Cap X scope N σ0)(hi:PI X tg iter wi)(hg:∀C s H fp,PG (cxC X N scope C s H fp) tg (g C s H fp))(ht:∀C s H fp,PTs (cxC X N scope C s H fp) ifs (tt C s H fp))(he:∀C s H fp,PE (cxC X N scope C s H fp) elt (te C s H fp))
  {pins:List (Addr×Obj)} {s:Shared} {σ:St} {H:Hp} {Q:VK} (I:Inv X pins σ H s) (h:tLC σ0 wi g tt te σ H Q) {QQ:Value->Shared->Prop} {p0:Pos}
  (hs:∀x,foldedSetIterable iter X.env x=pure x)
  (fin : match use with
   |none=>∀u s',EP X pins σ Q u s'->QQ u s'
   |some f=>∀(D:Addr) (fp:List Addr) (C:Addr) (H1 H':Hp) (σc:St) (s1 s':Shared),Inv X pins σ H1 s1->(∀b∈fp,FpOk X pins H1 b)->C=s1.heap.objs.size->Inv (cxC X N scope C s1 H1 fp) [] σc H' s'->Q (.ref D) H'->
     wpAny (model X.prog X.w) X.A (f (.ref D)) (fun _ s''=>∃m,s''.heap.Ns C m/\∀h',Heap.SameBut C s''.heap h'->QQ .none {s'' with heap:=h'}) X.xe s'):
  wpAny (model X.prog X.w) X.A (comprehension (.ListComp elt [⟨tg,iter,ifs,0⟩] scope pos) scope X.env p0 (newList []) false (eval iter X.env) use) QQ X.xe s:=by
 refine wpAny_comprehension_free (cl:=clOf scope X.env) (g:=⟨tg,iter,ifs,0⟩) (gs:=[]) rfl hs (znj (ziO I b)) b.kind (fun x hx hl=>hl ▸ b.uniq x hx) ?_
 refine thn (hi pins s σ H _ I h) fun v s1 h1=>thn h1 fun itv s2 h2=>?_
 obtain⟨it,fp,tn,J,H2,e,I2,T,st2,f2,h3⟩:=h2
 subst e
 refine wpAny_newObj_type ?_ (by show(0:Nat)<=sizeLine;exact Nat.zero_le _)
 have hD:H2 s2.heap.objs.size=none:=I2.fresh
 obtain⟨W,⟨m0,w0⟩,turn⟩:=h3 _ hD
 have I3:Inv X pins σ (upd H2 s2.heap.objs.size (.lst [])) {s2 with heap:=s2.heap.push {cls:= .type "list",data:= .seq ([]:List Value).toArray}}:=I2.lnew (t':=s2.toks) .nil (Nat.zero_le _)
 have f3:∀b∈fp,FpOk X pins (upd H2 s2.heap.objs.size (.lst [])) b:=fun b hb=>by
  obtain⟨a1,a2⟩:=f2 b hb
  obtain⟨o,ho,_⟩:=T.obj _ _ st2 b hb
  exact⟨by rw[zau (Nat.ne_of_lt (Heap.lt_size ho))];exact a1,a2⟩
 have st3:tn 0 (s2.heap.push {cls:= .type "list",data:= .seq ([]:List Value).toArray}):=T.keep _ _ _ st2 fun b hb o e=>Heap.get?_push_of_some _ e
 generalize hs3:({s2 with heap:=s2.heap.push {cls:= .type "list",data:= .seq ([]:List Value).toArray}}:Shared)=s3 at I3
 have hs3':s3.heap=s2.heap.push {cls:= .type "list",data:= .seq ([]:List Value).toArray}:=by rw[<-hs3]
 rw[<-hs3']at st3
 have hfs:∀b∈fp,b<s3.heap.objs.size:=fun b hb=>by
  obtain⟨o,ho,_⟩:=T.obj _ _ st3 b hb
  exact Heap.lt_size ho
 show wpAny _ _ (newFunctionEnv scope X.env.globals (clOf scope X.env) [] X.env.qual none .none (some X.env)) _ _ s3
 refine zl7 fun h' hns hk hcl=>?_
 have hcl:=hcl fun x c e=>I3.cell x c (zhz I3 b e)
 generalize hDD:s2.heap.objs.size=DD at*
 have B0:Inv (cxC X N scope s3.heap.objs.size s3 (upd H2 DD (.lst [])) fp) [] (σ0 σ) (upd H2 DD (.lst [])) {s3 with heap:=h'}:=
  zoy (tk:=s3.toks) I3 b f3 hfs hns hk hcl (cap.len σ) (cap.src σ) (cap.loc σ)
 have stat:∀{H':Hp},(∀b∈fp,H' b=none)->∀b∈fp,FpOk (cxC X N scope s3.heap.objs.size s3 (upd H2 DD (.lst [])) fp) [] H' b:=fun hn b' hb=>by
  refine⟨hn b' hb,Nat.ne_of_lt (hfs b' hb),fun z=>?_,.inl hb,fun x c e=>?_,fun p hp=>absurd (show p∈([]:List (Addr×Obj))from hp) (by simp)⟩
  ·rcases List.mem_cons.mp (I3.stkSub b' z)with w|w
   ·exact(f3 b' hb).2.1 w
   ·exact(f3 b' hb).2.2.1 w
  ·intro z
   rcases zhV I3 b e with q|q
   ·exact Nat.lt_asymm q (z ▸ hfs b' hb)
   ·exact(f3 b' hb).2.2.2.2.1 x c q z
 have tn0:tn 0 h':=T.keep _ _ _ st3 fun b' hb o e=>hk b' o e
 have post:∀(s':Shared) (σc:St) (H':Hp),Inv (cxC X N scope s3.heap.objs.size s3 (upd H2 DD (.lst [])) fp) [] σc H' s'->Q (.ref DD) H'->compPost (model X.prog X.w) X.A X.xe use QQ (.ref DD) s3.heap.objs.size (.ok .next) s':=fun s' σc H' J' q=>by
  cases use with
  |none=>
   obtain⟨m,hn,_⟩:=J'.loc
   exact⟨m,hn,fun h'' hs''=>fin _ _ ⟨.ref DD,H',znS I3 f3 J' hs'',rfl,q⟩⟩
  |some f=>exact fin DD fp _ _ H' σc s3 s' I3 f3 rfl J' q
 have loop:codeAny (model X.prog X.w) X.A (.compLoop (.ListComp elt [⟨tg,iter,ifs,0⟩] scope pos) 0 (.ref it) (.ref DD) (compEnvC scope (clC scope X.env s3.heap.objs.size) s3.heap.objs.size X.env)) (compPost (model X.prog X.w) X.A X.xe use QQ (.ref DD) s3.heap.objs.size) {s3 with heap:=h'}:=by
  refine zlq (fun n s'=>∃i σ' H',Inv (cxC X N scope s3.heap.objs.size s3 (upd H2 DD (.lst [])) fp) [] σ' H' s'/\tn i s'.heap/\(∀b∈fp,H' b=none)/\W i n σ' H') ?_ m0 ⟨0,σ0 σ,_,B0,tn0,fun b' hb=>(f3 b' hb).1,w0⟩
  rintro n s5 ⟨i,σ5,H5,I5,st5,fr5,w5⟩
  rcases turn i n σ5 H5 w5 with⟨stop,qn⟩|⟨go,step⟩
  ·refine thn (T.done (cxC X N scope s3.heap.objs.size s3 (upd H2 DD (.lst [])) fp) rfl rfl rfl hc i [] s5 σ5 H5 (fun _ _=>False) I5 (stat fr5) st5 stop) fun r s6 ⟨hr,I6⟩=>?_
   subst hr
   exact post s6 σ5 H5 I6 qn
  ·refine thn (T.item (cxC X N scope s3.heap.objs.size s3 (upd H2 DD (.lst [])) fp) rfl rfl rfl hc i [] s5 σ5 H5 (fun _ _=>False) I5 (stat fr5) st5 go) fun r s6 ⟨u,hr,h6⟩=>?_
   subst hr
   refine thn h6 fun _ s7 ⟨x,H7,I7,r7,y7,st7,fr7⟩=>?_
   have I7':=I7.pinned (stat fr7) (T.obj _ _ st7)
   have again:∀{σ8:St} {H8:Hp} {s8:Shared} {m':Nat},Inv (cxC X N scope s3.heap.objs.size s3 (upd H2 DD (.lst [])) fp) ([]++zld fp s7.heap) σ8 H8 s8->m'<n->W (i+1) m' σ8 H8->
     ∃m,m<n/\∃i σ' H',Inv (cxC X N scope s3.heap.objs.size s3 (upd H2 DD (.lst [])) fp) [] σ' H' s8/\tn i s8.heap/\(∀b∈fp,H' b=none)/\W i m σ' H':=fun{σ8 H8 s8 m'} I8 hm w8=>by
    refine⟨m',hm,i+1,σ8,H8,I8.unpinned,T.keep _ _ _ st7 fun b' hb o e=>(I8.pin (b',o) (List.mem_append_right _ (List.mem_append_right _ (zgl hb e)))).1,fun b' hb=>?_,w8⟩
    obtain⟨o,e,d⟩:=T.obj _ _ st7 b' hb
    exact(I8.pin (b',o) (List.mem_append_right _ (List.mem_append_right _ (zgl hb e)))).2.1
   refine thn (hg _ _ _ _ _ s7 σ5 H7 x u _ I7' r7 (step _ _ _ _ x H7 y7)) fun _ s8 ⟨σ8,H8,I8,q8⟩=>?_
   refine thn (ht _ _ _ _ _ s8 σ8 H8 _ I8 q8) fun ok s9 ⟨H9,I9,q9⟩=>?_
   cases ok with
   |false=>
    obtain⟨m',hm,w9⟩:=q9
    exact again I9 hm w9
   |true=>
    refine thn (he _ _ _ _ _ s9 σ8 H9 _ I9 q9) fun u10 s10 ⟨v10,H10,I10,r10,xs,hx,hz,m',hm,w10⟩=>?_
    refine thn (zku _ s10 σ8 H10 (.ref DD) [v10] (.ref DD) [u10] (fun v H'=>v= .non/\H'=upd H10 DD (.lst (xs++[v10]))) I10 rfl (.cons r10 .nil) ⟨DD,xs,v10,rfl,rfl,hx,hz,rfl,rfl⟩) fun _ s11 ⟨_,H11,I11,_,_,e11⟩=>?_
    subst e11
    exact again I11 hm w10
 exact codeAny_compStart_list loop (T.self _ _ _ _ _ tn0 loop)
theorem pe_lc (hc:X.calm=true)(b:BlkOk X scope)(cap:Cap X scope N σ0)(hi:PI X tg iter wi)(hg:∀C s H fp,PG (cxC X N scope C s H fp) tg (g C s H fp))(ht:∀C s H fp,PTs (cxC X N scope C s H fp) ifs (tt C s H fp))(he:∀C s H fp,PE (cxC X N scope C s H fp) elt (te C s H fp))
    (hs:∀x,foldedSetIterable iter X.env x=pure x:=by exact fun _=>rfl):PE X (.ListComp elt [⟨tg,iter,ifs,0⟩] scope pos) (tLC σ0 wi g tt te):=by
  intro pins s σ H Q I h
  rw[eval_ListComp]
  exact zow (use:=none) (E:=X.xe) hc b cap hi hg ht he I h hs (fun u s' q=>q)
end
noncomputable def zdP (ρ:R):Bool:=ρ.all fun s=>match s with
 | .own _=>false
 | .par _=>false
 | .tre _=>false
 | .ptr _=>false
 |_=>true
theorem zmx (h:zdP ρ=true){a:Addr}(e:ρ[i]? =some s):¬OwS K G H ov a s:=fun w=>by
 unfold zdP at h
 rw[List.all_eq_true]at h
 have:=h s (List.mem_of_getElem? e)
 cases s with
 |emp=>exact w
 |two _ _=>exact w
 |val d=>exact w
 |_=>exact absurd (show false=true from this) Bool.false_ne_true
theorem ziu (h:zdP ρ=true)(e:ρ[i]? =some s):(∀t,s≠ .tre t)/\∀t,s≠ .ptr t:=by
 unfold zdP at h
 rw[List.all_eq_true]at h
 have:=h s (List.mem_of_getElem? e)
 constructor
 ·rintro t rfl;exact absurd (show false=true from this) Bool.false_ne_true
 ·rintro t rfl;exact absurd (show false=true from this) Bool.false_ne_true
theorem ziq (h:zdP ρ=true):¬Wr ρ i:=fun⟨s,ds,e,q⟩=>by
 unfold zdP at h
 rw[List.all_eq_true]at h
 have:=h s (List.mem_of_getElem? e)
 cases s with
 |emp=>cases q
 |two _ _=>cases q
 |tre _=>cases q
 |ptr _=>cases q
 |val d=>cases q
 |own d=>exact absurd (show false=true from this) Bool.false_ne_true
 |par d=>exact absurd (show false=true from this) Bool.false_ne_true
structure VS (K:W.Frag) (G:Hp) (σ:St) (ρ:R):Prop where
 len:σ.length=ρ.length
 no:zdP ρ=true
 val:∀(i:Nat) d,ρ[i]? =some (.val d)->∃v,σ[i]? =some (some v)/\RepD K G v d
theorem VS.si (h:VS K G σ ρ)(fz:Fz G H):SI K ⟨G,H,[]⟩ G H σ ρ where
 fz:=fz
 g0:=Fz.refl G
 new:=fun b o e=> .inl (by show G b≠none;rw[e];simp)
 keep:=fun b o e _=>e
 there:=fun b e=>e
 ob:=fun i b m=>by cases m
 len:=h.len
 slot:=fun i s e=>by
  cases s with
  |emp=>trivial
  |two _ _=>trivial
  |tre t=>exact absurd rfl ((ziu h.no e).1 t)
  |ptr t=>exact absurd rfl ((ziu h.no e).2 t)
  |val d=>exact h.val i d e
  |own ds=>exact absurd ⟨_,ds,e,rfl⟩ (ziq h.no (i:=i))
  |par ds=>exact absurd ⟨_,ds,e,rfl⟩ (ziq h.no (i:=i))
 dis:=fun i j s _ a _ e _ w=>absurd w (zmx h.no e)
theorem VS.of (I:SI K B G H σ ρ)(h:zdP ρ=true):VS K G σ ρ:=⟨I.len,h,fun i d e=>I.slot i _ e⟩
noncomputable def fz1 (i:Nat)(ρ:R):R:=match ρ[i]? with
 |some (.own ds)=>ρ.set i (.val (.lst ds))
 |_=>ρ
noncomputable def fzL:List Nat->R->R
 |[],ρ=>ρ
 |i::is,ρ=>fzL is (fz1 i ρ)
theorem SI.fz1 (I:SI K B G H σ ρ)(i:Nat):∃G',SI K B G' H σ (M.fz1 i ρ)/\Fz G G':=by
 unfold M.fz1
 cases e:ρ[i]? with
 |none=>exact⟨G,I,Fz.refl G⟩
 |some s=>
  cases s with
  |own ds=>obtain⟨l,xs,_,f,_,I'⟩:=I.freeze e;exact⟨_,I',f⟩
  |emp=>exact⟨G,I,Fz.refl G⟩
  |two _ _=>exact⟨G,I,Fz.refl G⟩
  |tre _=>exact⟨G,I,Fz.refl G⟩
  |ptr _=>exact⟨G,I,Fz.refl G⟩
  |val _=>exact⟨G,I,Fz.refl G⟩
  |par _=>exact⟨G,I,Fz.refl G⟩
theorem SI.fzL:∀(is:List Nat) {G:Hp} {ρ:R},SI K B G H σ ρ->∃G',SI K B G' H σ (M.fzL is ρ)/\Fz G G'
 |[],G,ρ,I=>⟨G,I,Fz.refl G⟩
 |i::is,G,ρ,I=>by
  obtain⟨G1,I1,f1⟩:=I.fz1 i
  obtain⟨G2,I2,f2⟩:=SI.fzL is I1
  exact⟨G2,I2,f1.trans f2⟩
noncomputable def capS (ρ:R)(i:Nat):Sl:=match ρ[i]? with
 |some (.val d)=> .val d
 |_=> .emp
theorem zno (ρ:R)(i:Nat):capS ρ i= .emp\/∃d,capS ρ i= .val d:=by
 unfold capS
 split
 ·exact .inr ⟨_,rfl⟩
 ·exact .inl rfl
noncomputable def capR (cap:List Nat)(t:Nat)(ρ:R):R:=cap.map (capS ρ)++List.replicate t .emp
noncomputable def capσ (cap:List Nat)(t:Nat)(σ:St):St:=cap.map (fun i=>(σ[i]?).join)++List.replicate t none
theorem cap_vs (I:SI K B G H σ ρ)(cap:List Nat)(t:Nat):VS K G (capσ cap t σ) (capR cap t ρ) where
 len:=by unfold capσ capR;simp
 no:=by
  unfold zdP capR
  rw[List.all_eq_true]
  intro s hs
  rcases List.mem_append.mp hs with h|h
  ·obtain⟨i,_,rfl⟩:=List.mem_map.mp h
   rcases zno ρ i with e|⟨d,e⟩
   ·rw[e]
   ·rw[e]
  ·rw[List.eq_of_mem_replicate h]
 val:=fun i d e=>by
  unfold capR at e
  by_cases hi:i<cap.length
  ·rw[List.getElem?_append_left (by simpa using hi),List.getElem?_map,List.getElem?_eq_getElem hi]at e
   have e':capS ρ cap[i]= .val d:=by simpa using e
   unfold capS at e'
   split at e'
   ·rename_i d' q
    cases e'
    obtain⟨v,h1,h2⟩:=I.slot _ _ q
    refine⟨v,?_,h2⟩
    unfold capσ
    rw[List.getElem?_append_left (by simpa using hi),List.getElem?_map,List.getElem?_eq_getElem hi]
    simp[h1]
   ·cases e'
  ·rw[List.getElem?_append_right (by simpa using hi),List.getElem?_replicate]at e
   split at e
   ·cases e
   ·cases e
noncomputable def zfj (f:D->R->Option (Option D×R)):List D->R->Option (List D×R)
 |[],ρ=>some ([],ρ)
 |d::ds,ρ=>(f d ρ).bind fun p=>(zfj f ds p.2).map fun q=>(p.1.toList++q.1,q.2)
noncomputable def zm3 (g:D->R->Option R)(mt:MT)(me:ME):D->R->Option (Option D×R):=fun d ρ=>(g d ρ).bind fun ρ1=>(mt ρ1).bind fun p=>if p.1 then(me p.2).bind fun q=>if zdP q.2 then some (some q.1,q.2)else none else if zdP p.2 then some (none,p.2)else none
noncomputable def oLC (cap:List Nat)(t:Nat)(mi:MA)(g:D->R->Option R)(mt:MT)(me:ME):MO:=fun ρ=>(mi ρ).bind fun p=>if p.1.length<=16777216 then(zfj (zm3 g mt me) p.1 (capR cap t (fzL cap p.2))).map fun q=>(q.1,fzL cap p.2)else none
noncomputable def STs (X:Cx)(ifs:List Expr)(m:MT):Prop:=
 ∃t,PTs X ifs t/\∀B G H σ ρ d ρ' (Q:Bool->Hp->Prop),SI X.K B G H σ ρ->m ρ=some (d,ρ')->(∀G' H',SI X.K B G' H' σ ρ'->Fz G G'->Q d H')->t σ H Q
noncomputable def zbp:MT:=fun ρ=>some (true,ρ)
theorem zay:STs X [] zbp:=⟨_,pts_nil,fun B G H σ ρ d ρ' Q I hm k=>by cases hm;exact k G H I (Fz.refl G)⟩
theorem sts_one {c:Expr}(h:STt X c m):STs X [c] m:=let⟨t,p,s⟩:=h;⟨t,pts_one p,s⟩
noncomputable def blkB (env:Env)(scope:Scope):Bool:=(scope.names.all fun x=>scope.names.lookup x.1==some x.2&&(x.2 != .free||(env.kindOf x.1==some .cell||env.kindOf x.1==some .free)))
theorem znX (hk:scope.kind= .function)(h:blkB X.env scope=true):BlkOk X scope:=by
 unfold blkB at h
 rw[List.all_eq_true]at h
 refine⟨hk,fun x hx=>?_,fun x hx hf=>?_⟩
 ·have:=h x hx
  simp only[Bool.and_eq_true,Bool.or_eq_true,bne_iff_ne,beq_iff_eq]at this
  exact this.1
 ·have:=h x hx
  simp only[Bool.and_eq_true,Bool.or_eq_true,bne_iff_ne,beq_iff_eq]at this
  exact(this.2).resolve_left (fun z=>z hf)
noncomputable def capB (names:List (Str×NameKind))(N XN:List Str)(cap:List Nat)(t:Nat):Bool:=N.length==cap.length+t&&(cap.zip N).all fun p=>XN[p.1]? ==some p.2&&names.lookup p.2==some .free
theorem zoS (h:capB scope.names N X.N cap t=true):Cap X scope N (capσ cap t):=by
 unfold capB at h
 rw[Bool.and_eq_true,List.all_eq_true]at h
 obtain⟨hl,h⟩:=h
 have hl:N.length=cap.length+t:=by simpa using hl
 have key:∀(σ:St) (i:Nat) (x:Str) (v:V),N[i]? =some x->(capσ cap t σ)[i]? =some (some v)->∃j,cap[i]? =some j/\σ[j]? =some (some v)/\X.N[j]? =some x/\scope.names.lookup x=some .free:=fun σ i x v h1 h2=>by
  unfold capσ at h2
  by_cases hi:i<cap.length
  ·rw[List.getElem?_append_left (by simpa using hi),List.getElem?_map,List.getElem?_eq_getElem hi]at h2
   have h3:(σ[cap[i]]?).join=some v:=by simpa using h2
   have hz:(cap[i],x)∈cap.zip N:=by
    refine List.mem_of_getElem? (i:=i) ?_
    rw[List.getElem?_zip_eq_some]
    exact⟨List.getElem?_eq_getElem hi,h1⟩
   have:=h _ hz
   simp only[Bool.and_eq_true,beq_iff_eq]at this
   refine⟨cap[i],List.getElem?_eq_getElem hi,?_,this.1,this.2⟩
   cases q:σ[cap[i]]? with
   |none=>rw[q]at h3;cases h3
   |some o=>rw[q]at h3;rw[show o=some v from h3]
  ·rw[List.getElem?_append_right (by simpa using hi),List.getElem?_replicate]at h2
   split at h2<;>cases h2
 refine⟨fun σ=>by unfold capσ;simp[hl],fun σ i x v h1 h2=>?_,fun σ i x v h1 h2 z=>?_⟩
 ·obtain⟨j,_,a,b,c⟩:=key σ i x v h1 h2
  exact⟨zgh c,j,b,a⟩
 ·obtain⟨j,_,a,b,c⟩:=key σ i x v h1 h2
  have e:(relabel scope X.env).names.lookup x=(scope.names.lookup x).map fun k=>if(k==NameKind.free&&X.env.scope.kind== .function&&X.env.kindOf x==some .cell)then NameKind.cell else k:=zd3
  rw[e,c]at z
  simp only[Option.map_some,Option.some.injEq]at z
  split at z<;>cases z
structure LcV (K:W.Frag) (g:D->R->Option R) (mt:MT) (me:ME) (items all:List D) (G2 H1:Hp) (DD:Addr) (i:Nat) (σc:St) (Hc Gc:Hp) (ρc:R) (acc:List D) (xs:List V) (rest:List D) (ρe:R):Prop where
 fc:Fz G2 Gc
 fcH:Fz Gc Hc
 nw:∀b o,Gc b=some o->G2 b≠none\/H1 b=none
 kp:∀b o,H1 b=some o->Hc b=some o
 gD:Gc DD=none
 hDc:Hc DD=some (.lst xs)
 ra:RepL K Gc xs acc
 hx:xs.length<=i
 vs:VS K Gc σc ρc
 ec:zfj (zm3 g mt me) (items.drop i) ρc=some (rest,ρe)
 eall:all=acc++rest
section
variable {X:Cx} {elt iter tg:Expr} {ifs:List Expr} {scope:Scope} {pos:Pos} {N:List Str} {cap:List Nat} {t:Nat} {mi:MA} {g:D->R->Option R} {mt:MT} {me:ME}
theorem zmz
  (si:∀B G H σ ρ ds ρ' (Q:It->Hp->Prop),SI X.K B G H σ ρ->mi ρ=some (ds,ρ')->(∀J G' H',SI X.K B G' H' σ ρ'->Fz G G'->Itm X.K J G' ds->Q J H')->wi σ H Q)
  (sg:∀C s H₀ fp B G H σ ρ v d ρ' (Q:St->Hp->Prop),SI X.K B G H σ ρ->RepD X.K G v d->g d ρ=some ρ'->(∀G' H' σ',SI X.K B G' H' σ' ρ'->Fz G G'->Q σ' H')->tg' C s H₀ fp v σ H Q)
  (st:∀C s H₀ fp B G H σ ρ d ρ' (Q:Bool->Hp->Prop),SI X.K B G H σ ρ->mt ρ=some (d,ρ')->(∀G' H',SI X.K B G' H' σ ρ'->Fz G G'->Q d H')->tt C s H₀ fp σ H Q)
  (se:∀C s H₀ fp B G H σ ρ d ρ' (Q:VK),SI X.K B G H σ ρ->me ρ=some (d,ρ')->(∀G' H' v,SI X.K B G' H' σ ρ'->Fz G G'->RepD X.K G' v d->Q v H')->te C s H₀ fp σ H Q):
  ∀B G H σ ρ ds ρ' (Q:VK),SI X.K B G H σ ρ->oLC cap t mi g mt me ρ=some (ds,ρ')->
   (∀G' H' l xs,SI X.K B G' H' σ ρ'->Fz G G'->G' l=none->H' l=some (.lst xs)->RepL X.K G' xs ds->B.H l=none->Nw X.K G' H' σ ρ' l->Q (.ref l) H')->tLC (capσ cap t) wi tg' tt te σ H Q:=by
 intro B G H σ ρ ds ρ' Q I hm k
 obtain⟨⟨items,ρ1⟩,e1,hm⟩:=zai hm
 refine si B G H σ ρ items ρ1 _ I e1 fun J G1 H1 I1 f1 IT DD hD=>?_
 dsimp only at hm
 split at hm
 ·rename_i hlen
  obtain⟨⟨all,ρf⟩,e2,e3⟩:=zaJ hm
  obtain⟨rfl,rfl⟩:=Prod.mk.inj e3
  obtain⟨G2,I2,f2⟩:=SI.fzL cap I1
  have hDG:G2 DD=none:=I2.fz.free hD
  refine⟨fun i m σc Hc=>m=items.length-i/\i<=items.length/\∃Gc ρc acc xs rest ρe,LcV X.K g mt me items all G2 H1 DD i σc Hc Gc ρc acc xs rest ρe,
   ⟨items.length,by simp,Nat.zero_le _,G2,capR cap t (M.fzL cap ρ1),[],[],all,ρf,{fc:=Fz.refl _,fcH:=I2.fz.right hDG _,nw:=fun b o e=> .inl (by rw[e];simp),kp:=fun b o e=>by rw[zau (zaL e hD)];exact e,gD:=hDG,hDc:=zaw,ra:= .nil,hx:=Nat.le_refl _,vs:=cap_vs I2 cap t,ec:=by simpa using e2,eall:=rfl}⟩,?_⟩
  rintro i m σc Hc ⟨rfl,hi,Gc,ρc,acc,xs,rest,ρe,J0⟩
  obtain⟨fc,fcH,nw,kp,gD,hDc,ra,hx,vs,ec,eall⟩:=J0
  by_cases hlt:i<items.length
  ·refine .inr ⟨IT.go Hc i (f2.trans (fc.trans fcH)) hlt,fun C s₀ H₀ fp x H' y=>?_⟩
   rw[List.drop_eq_getElem_cons hlt]at ec
   simp only[zfj]at ec
   obtain⟨⟨o,ρ3⟩,h3,ec⟩:=zai ec
   obtain⟨⟨rest2,ρ4⟩,h4,ec⟩:=zaJ ec
   obtain⟨rfl,rfl⟩:=Prod.mk.inj ec
   dsimp only at h4
   unfold zm3 at h3
   obtain⟨ρ5,h5,h3⟩:=zai h3
   obtain⟨⟨ok,ρ6⟩,h6,h3⟩:=zai h3
   dsimp only at h3
   have Ic:SI X.K ⟨Gc,Hc,[]⟩ Gc Hc σc ρc:=vs.si fcH
   have fz2:Fz G1 Hc:=f2.trans (fc.trans fcH)
   have yy:=IT.yld Hc i x H' fz2 y items[i] (List.getElem?_eq_getElem hlt)
   have yy2:(H'=Hc/\RepD X.K Gc x items[i])\/∃p xs es,Hc p=none/\H'=upd Hc p (.tup xs)/\x= .ref p/\items[i]= .tup es/\RepL X.K Gc xs es:=by
    rcases yy with⟨a,b⟩|⟨p,xs,es,a,b,c,d,e⟩
    ·exact .inl ⟨a,b.mono (f2.trans fc)⟩
    ·exact .inr ⟨p,xs,es,a,b,c,d,e.mono (f2.trans fc)⟩
   obtain⟨G3,I3,f3,r3⟩:=Ic.yld yy2
   refine sg C s₀ H₀ fp _ G3 H' σc ρc x items[i] ρ5 _ I3 r3 h5 fun G4 H4 σ4 I4 f4=>st C s₀ H₀ fp _ G4 H4 σ4 ρ5 ok ρ6 _ I4 h6 fun G5 H5 I5 f5=>?_
   have facts:∀(G' H':Hp) (σ':St) (ρ':R),SI X.K ⟨Gc,Hc,[]⟩ G' H' σ' ρ'->(∀b o,G' b=some o->G2 b≠none\/H1 b=none)/\(∀b o,H1 b=some o->H' b=some o)/\G' DD=none/\H' DD=some (.lst xs):=fun G' H' σ' ρ' I'=>by
    refine⟨fun b o e=>?_,fun b o e=>I'.keep b o (kp b o e) (by simp),?_,I'.keep DD _ hDc (by simp)⟩
    ·rcases I'.new b o e with h|h
     ·have h:Gc b≠none:=h
      cases q:Gc b with
      |none=>exact absurd q h
      |some u=>exact nw b u q
     ·refine .inr ?_
      cases q:H1 b with
      |none=>rfl
      |some u=>have:=kp b u q;rw[show Hc b=none from h]at this;cases this
    ·cases q:G' DD with
     |none=>rfl
     |some u=>
      rcases I'.new DD u q with h|h
      ·exact absurd gD h
      ·rw[show Hc DD=none from h]at hDc;cases hDc
   cases ok with
   |false=>
    simp only[Bool.false_eq_true,if_false]at h3
    split at h3
    ·rename_i hno
     cases h3
     obtain⟨a1,a2,a3,a4⟩:=facts G5 H5 σ4 _ I5
     exact⟨items.length-(i+1),by lia,rfl,hlt,G5,_,acc,xs,rest2,ρ4,{fc:=fc.trans (f3.trans (f4.trans f5)),fcH:=I5.fz,nw:=a1,kp:=a2,gD:=a3,hDc:=a4,ra:=ra.mono (f3.trans (f4.trans f5)),hx:=by lia,vs:=VS.of I5 hno,ec:=h4,eall:=by simpa using eall}⟩
    ·cases h3
   |true=>
    simp only[if_true]at h3 ⊢
    obtain⟨⟨dv,ρ7⟩,h7,h3⟩:=zai h3
    dsimp only at h3
    split at h3
    ·rename_i hno
     cases h3
     refine se C s₀ H₀ fp _ G5 H5 σ4 ρ6 dv _ _ I5 h7 fun G6 H6 v I6 f6 r6=>?_
     obtain⟨a1,a2,a3,a4⟩:=facts G6 H6 σ4 _ I6
     have ff:Fz Gc G6:=f3.trans (f4.trans (f5.trans f6))
     exact⟨xs,a4,by rw[sizeLine_eq];lia,items.length-(i+1),by lia,rfl,hlt,G6,_,acc++[dv],xs++[v],rest2,ρ4,{fc:=fc.trans ff,fcH:=I6.fz.right a3 _,nw:=a1,kp:=fun b o e=>by rw[zau (zaL e hD)];exact a2 b o e,gD:=a3,hDc:=zaw,ra:=(ra.mono ff).snoc r6,hx:=by rw[List.length_append,List.length_singleton];lia,vs:=VS.of I6 hno,ec:=h4,eall:=by rw[eall];simp}⟩
    ·cases h3
  ·have e:i=items.length:=by lia
   subst e
   rw[List.drop_length]at ec
   cases ec
   have hall:all=acc:=by rw[eall,List.append_nil]
   refine .inl ⟨IT.stop Hc _ (f2.trans (fc.trans fcH)) (Nat.le_refl _),?_⟩
   rw[<-hall]at ra
   exact k Gc Hc DD xs (I2.grow fc fcH nw kp) (f1.trans (f2.trans fc)) gD hDc ra (I2.there DD hD) (I2.own_ne hD nw kp)
 ·cases hm
theorem zcU (cap:List Nat)(t:Nat)(N:List Str)(hc:X.calm=true)(hi:SIt X tg iter mi)(hg:∀C s H fp,SG (cxC X N scope C s H fp) tg g)(ht:∀C s H fp,STs (cxC X N scope C s H fp) ifs mt)(he:∀C s H fp,SE (cxC X N scope C s H fp) elt me)
    (hk:scope.kind= .function:=by rfl) (hb:blkB X.env scope=true:=by kernel_rfl) (hcap:capB scope.names N X.N cap t=true:=by kernel_rfl)
    (hs:∀x,foldedSetIterable iter X.env x=pure x:=by exact fun _=>rfl):SO X (.ListComp elt [⟨tg,iter,ifs,0⟩] scope pos) (oLC cap t mi g mt me):=by
  obtain⟨wi,pi,si⟩:=hi
  exact⟨_,pe_lc hc (znX hk hb) (zoS hcap) pi (fun C s H fp=>(hg C s H fp).choose_spec.1) (fun C s H fp=>(ht C s H fp).choose_spec.1) (fun C s H fp=>(he C s H fp).choose_spec.1) hs,
    zmz si (fun C s H fp=>(hg C s H fp).choose_spec.2) (fun C s H fp=>(ht C s H fp).choose_spec.2) (fun C s H fp=>(he C s H fp).choose_spec.2)⟩
end
section
variable {X:Cx} {elt iter tg:Expr} {ifs:List Expr} {scope:Scope} {pos lpos pos':Pos} {N:List Str} {cap:List Nat} {t:Nat} {mi:MA} {g:D->R->Option R} {mt:MT} {me:ME}
theorem zmJ {σ0:St->St}(hN:X.N.Nodup)(hxi:X.N[i]? =some x)(hx:Loc X.env.scope x)(hf:X.fn x=true\/X.env.scope.names.lookup x=some .local)
  (hsw:swapsWith (.ListComp elt [⟨tg,iter,ifs,0⟩] scope lpos) (some (.Name x pos')) pos.line X.env=pure true) (hc:X.calm=true) (b:BlkOk X scope) (cap:Cap X scope N σ0) (hi:PI X tg iter wi) (hg:∀C s H fp,PG (cxC X N scope C s H fp) tg (tg' C s H fp)) (ht:∀C s H fp,PTs (cxC X N scope C s H fp) ifs (tt C s H fp)) (he:∀C s H fp,PE (cxC X N scope C s H fp) elt (te C s H fp))
  (hs:∀x,foldedSetIterable iter X.env x=pure x):PS X (.Assign [.Name x pos'] (.ListComp elt [⟨tg,iter,ifs,0⟩] scope lpos) pos) (fun E σ H=>tLC σ0 wi tg' tt te σ H fun v H'=>E.nx (σ.set i (some v)) H'):=by
 intro pins s σ H E I h
 rw[exec_Assign_Name_used _ _ _ _ hsw]
 refine wpAny_bind (wpAny_standAt (wpAny_bind ?_))
 show wpAny _ _ (do let _<-comprehension (.ListComp elt [⟨tg,iter,ifs,0⟩] scope lpos) scope X.env _ (newList []) false (eval iter X.env) (some (assign (.Name x pos') X.env))) _ _ s
 refine wpAny_bind (thn (zow (use:=some (assign (.Name x pos') X.env)) (QQ:=fun _ s'=>SP X pins E .next s') (E:=X.xe) hc b cap hi hg ht he I h hs ?_) fun _ s' hq=>wpAny_pure (wpAny_pure hq))
 intro D fp C H1 H' σc s1 s' I1 f1 eC J q
 subst eC
 have I2:Inv X pins σ H' s':=by
  have z:=znS (h':=s'.heap) I1 f1 J (Heap.SameBut.refl _ _)
  exact z
 obtain⟨m,⟨o,es,ep,ho,hd,hrest⟩,_⟩:=J.loc
 have fpk:FpOk X pins H' s1.heap.objs.size:=I1.fpOk (Nat.le_refl _) J.free
 have I3:Inv X (pins++[(s1.heap.objs.size,o)]) σ H' s':=I2.pins_of fun p hp=>by
  rcases List.mem_append.mp hp with hp|hp
  ·exact I2.pin p (List.mem_append_right _ hp)
  ·have e:p=(s1.heap.objs.size,o):=by simpa using hp
   subst e
   exact⟨ho,fpk.1,fpk.2.1,fpk.2.2.1,fun v z=>by rw[hd]at z;cases z⟩
 refine thn (znN hN hxi hx hf (pins++[(s1.heap.objs.size,o)]) s' σ H' (.ref D) (.ref D) (fun σ2 H2=>E.nx σ2 H2) I3 rfl q) fun _ s'' ⟨σ2,H2,I4,q4⟩=>?_
 have pC:=I4.pin (s1.heap.objs.size,o) (List.mem_append_right _ (List.mem_append_right _ (by simp)))
 refine⟨m,⟨o,es,ep,pC.1,hd,hrest⟩,fun h' hs'=>?_⟩
 have I5:Inv X pins σ2 H2 s'':=I4.unpinned
 have fp2:FpOk X pins H2 s1.heap.objs.size:=I1.fpOk (Nat.le_refl _) pC.2.1
 have I6:=I5.turned (t':=s''.toks) (h':=h') (it:=s1.heap.objs.size) (fun b' o' hb e=>hs'.extBut b' o' hb e) fp2.1 fp2.2.1 fp2.2.2.2.1 fp2.2.2.2.2.1 fp2.2.2.2.2.2
 exact⟨σ2,H2,I6,q4⟩
end
section
variable {X:Cx} {pins:List (Addr×Obj)} {σ:St} {H:Hp} {s:Shared}
theorem zkh {A:Around}(hh:A.handled=none)(I:Inv X pins σ H s)(hq:SqL X.K H p ys\/SqT X.K H p ys)
  (k : ∀ (its : List Value) (s₂ : Shared) (St : Nat -> Heap -> Prop), Vals ys its -> Walks X.prog X.w A s.heap.objs.size [s.heap.objs.size, p] [s.heap.objs.size] its.length (fun i v => its[i]? = some v) St -> St 0 s₂.heap -> (∀ b ∈ [s.heap.objs.size, p], b < s₂.heap.objs.size) ->
   (∀h' tk,(∀b o,b∉[s.heap.objs.size]->s₂.heap.get? b=some o->h'.get? b=some o)->Inv X pins σ H {s₂ with heap:=h',toks:=tk})->Q (.ref s.heap.objs.size) s₂):wpAny (model X.prog X.w) A (pyIter (.ref p)) Q E s:=by
 have fin:∀(o:Obj),∀h' tk,(∀b o',b∉[s.heap.objs.size]->(s.heap.push o).get? b=some o'->h'.get? b=some o')->Inv X pins σ H {({s with heap:=s.heap.push o}:Shared)with heap:=h',toks:=tk}:=fun o h' tk hk=>by
  have z:=I.kept (h':=h') (t':=tk) fun b o' e=>hk b o' (by simpa using Nat.ne_of_lt (Heap.lt_size e)) (Heap.get?_push_of_some _ e)
  exact z
 rcases hq with hq|hq
 ·obtain⟨its,r,pl,hz⟩:=I.list hq
  have hlt:p<s.heap.objs.size:=by obtain⟨_,_,e,_⟩:=pl;exact Heap.lt_size e
  refine wpAny_pyIter_list pl.isList (k its _ (fun i h=>h.IsListIter s.heap.objs.size p i/\h.IsList p its.toArray) r ?_ ⟨⟨_,Heap.get?_push_size _ rfl,rfl,rfl⟩,pl.isList.push _⟩ (fun b hb=>?_) (fin _))
  ·have w:=Walks.list (prog:=X.prog) (w:=X.w) (A:=A) hh s.heap.objs.size p (Nat.ne_of_lt hlt) its.toArray
   simpa using w
  ·show b<(s.heap.push _).objs.size
   rw[Heap.size_push]
   simp at hb
   rcases hb with z|z
   ·rw[z];exact Nat.lt_succ_self _
   ·rw[z];exact Nat.lt_succ_of_lt hlt
 ·obtain⟨its,r,pl,hz⟩:=I.tuple hq
  have hlt:p<s.heap.objs.size:=pl.lt
  refine wpAny_pyIter_tuple (show s.heap.IsTuple p its.toArray from pl) (k its _ (fun i h=>h.IsTupleIter s.heap.objs.size p i/\h.IsTuple p its.toArray) r ?_ ⟨⟨_,Heap.get?_push_size _ rfl,rfl,rfl⟩,(show s.heap.IsTuple p its.toArray from pl).push _⟩ (fun b hb=>?_) (fin _))
  ·have w:=Walks.tuple (prog:=X.prog) (w:=X.w) (A:=A) hh s.heap.objs.size p (Nat.ne_of_lt hlt) its.toArray
   simpa using w
  ·show b<(s.heap.push _).objs.size
   rw[Heap.size_push]
   simp at hb
   rcases hb with z|z
   ·rw[z];exact Nat.lt_succ_self _
   ·rw[z];exact Nat.lt_succ_of_lt hlt
end
theorem zjo (ns:List Int):∀j,preSum (fun i=>ns.getD i 0) j=(ns.take j).sum
 |0=>by simp[preSum]
 |j+1=>by
  rw[preSum,zjo ns j]
  by_cases h:j<ns.length
  ·rw[List.take_succ_eq_append_getElem h,List.sum_append]
   simp[h]
  ·rw[List.take_of_length_le (by lia),List.take_of_length_le (by lia)]
   simp[List.getElem?_eq_none (by lia:ns.length<=j)]
theorem zhc (r:Vals (ns.map V.int) its){v:Value}(e:its[i]? =some v):∃t,v= .int (ns.getD i 0) t:=by
 have hl:=r.length
 have hi:i<its.length:=(List.getElem?_eq_some_iff.mp e).1
 rw[List.length_map]at hl
 have e2:(ns.map V.int)[i]? =some (.int ns[i]):=by rw[List.getElem?_map,List.getElem?_eq_getElem (by lia)];rfl
 obtain⟨u,h1,t,h2⟩:=r.get e2
 rw[e]at h1;cases h1
 exact⟨t,by rw[h2];simp[show i<ns.length by lia]⟩
noncomputable def rSum (K:W.Frag):List V->Hp->VK->Prop:=fun xs H Q=>∃(p:Addr) (ns:List Int),xs=[.ref p]/\(SqL K H p (ns.map V.int)\/SqT K H p (ns.map V.int))/\Q (.int ns.sum) H
theorem zop (hc:X.calm=true):zik X (.builtin "sum") (rSum X.K):=by
 intro pins s σ H xs us Q I r h
 obtain⟨p,ns,rfl,hq,q⟩:=h
 obtain⟨u,rfl,ru⟩:=zlU r
 cases ru
 refine call_sum_walkG (zkh (A:=X.A.in1) (I.ok.hd hc) I hq fun its s₂ St rv W st hfp fin=>?_)
 refine⟨_,_,_,_,_,_,fun i=>ns.getD i 0,rfl,W,st,hfp,fun i v e=>zhc rv e,fun h' tk t' hk=>⟨.int ns.sum,H,fin h' tk hk,⟨t',?_⟩,q⟩⟩
 have hl:=rv.length
 rw[List.length_map]at hl
 rw[zjo,<-hl,List.take_of_length_le (Nat.le_refl _)]
noncomputable def zb8:List D->Option (List Int)
 |[]=>some []
 | .int i::ds=>(zb8 ds).map (i:: ·)
 |_=>none
theorem zga:∀{ds:List D} {ns:List Int},zb8 ds=some ns->ds=ns.map .int
 |[],ns,h=>by cases h;rfl
 |d::ds,ns,h=>by
  cases d<;>simp only[zb8]at h<;>try cases h
  obtain⟨ms,e1,e2⟩:=zaJ h
  subst e2
  rw[zga e1];rfl
@[simp] theorem intsOf_map:∀(ns:List Int),zb8 (ns.map .int)=some ns
 |[]=>rfl
 |n::ns=>by simp[zb8,intsOf_map ns]
noncomputable def dSum:List D->Option D
 |[d]=>(zaR [d]).bind fun ds=>(zb8 ds).map fun ns=> .int ns.sum
 |_=>none
theorem zms (I:SI K B G H σ ρ){x:V}(r:RepD K G x d)(e:zaR [d]=some ds):∃p ys,x= .ref p/\(SqL K H p ys\/SqT K H p ys)/\RepL K G ys ds:=by
 cases d<;>simp only[zaR]at e<;>try cases e
 ·obtain⟨p,ys,ex,hp,q⟩:=I.lst r
  exact⟨p,ys,ex,.inl (SqL.of hp),q⟩
 ·obtain⟨p,ys,ex,hp,q⟩:=I.tup r
  exact⟨p,ys,ex,.inr (SqT.of hp),q⟩
 ·obtain⟨p,ex,hp⟩:=r
  exact⟨p,_,ex,.inl (I.fz.sql hp),RepL.ints _⟩
theorem vc_sum:VC X (rSum X.K) dSum:=by
 intro B G H σ ρ xs ds d Q I r hf k
 match ds,hf with
 |[a],hf=>
  obtain⟨es,e1,hf⟩:=zai hf
  obtain⟨ns,e2,e3⟩:=zaJ hf
  subst e3
  obtain⟨x,rfl,ra⟩:=r.one
  obtain⟨p,ys,rfl,hq,ry⟩:=zms I ra e1
  rw[zga e2]at ry
  rw[RepL.ints_eq ry]at hq
  exact⟨p,ns,rfl,hq,k G H _ I (Fz.refl G) rfl⟩
 |[],hf=>cases hf
 |_::_::_,hf=>cases hf
theorem ze2 {p pos:Pos}(hc:X.calm=true)(ml:X.mg "sum"=none)(ha:SA X [e] ma)(hg:Gl X "sum":=by rfl)(he:starEach [e] X.env=(false,eval e X.env)::starEach [] X.env:=by rfl):SE X (.Call (.Name "sum" p) [e] [] pos) (mC dSum ma):=
 zgk (zop hc) vc_sum (by decide+kernel) ml ha hg (by decide) (by decide) he rfl
noncomputable def zlS:List D->Option (List Bool)
 |[]=>some []
 | .bl b::ds=>(zlS ds).map (b:: ·)
 |_=>none
@[simp] theorem boolsOf_map:∀(bs:List Bool),zlS (bs.map .bl)=some bs
 |[]=>rfl
 |n::ns=>by simp[zlS,boolsOf_map ns]
noncomputable def d2I (g:Int->Int->Int):List D->Option D
 |[.int i,.int j]=>some (.int (g i j))
 |_=>none
theorem vc_2I (g:Int->Int->Int):VC X (fun xs H Q=>∃i j,xs=[.int i,.int j]/\Q (.int (g i j)) H) (d2I g):=by
 intro B G H σ ρ xs ds d Q I r hf k
 unfold d2I at hf
 split at hf
 ·rename_i i j
  cases hf
  obtain⟨x,y,rfl,rx,ry⟩:=r.two
  cases(show x=V.int i from rx)
  cases(show y=V.int j from ry)
  exact⟨i,j,rfl,k G H _ I (Fz.refl G) rfl⟩
 ·cases hf
noncomputable def max2 (i j:Int):Int:=if j>i then j else i
theorem zln {p pos:Pos}(hc:X.calm=true)(ml:X.mg "max"=none)(ha:SA X [a,b] ma)(hg:Gl X "max":=by rfl)(he:starEach [a,b] X.env=(false,eval a X.env)::starEach [b] X.env:=by rfl)(hpl:(backTo pos (starEach [b] X.env)).any (·.1)=false:=by rfl):SE X (.Call (.Name "max" p) [a,b] [] pos) (mC (d2I max2) ma):=
 zgk (zn0 hc) (vc_2I max2) (by decide+kernel) ml ha hg (by decide) (by decide) he hpl
noncomputable def abs1 (i:Int):Int:=if i<0 then-i else i
noncomputable def dAbs:List D->Option D
 |[.int i]=>some (.int (abs1 i))
 |_=>none
theorem se_abs {p pos:Pos}(ml:X.mg "abs"=none)(ha:SA X [a] ma)(hg:Gl X "abs":=by rfl)(he:starEach [a] X.env=(false,eval a X.env)::starEach [] X.env:=by rfl):SE X (.Call (.Name "abs" p) [a] [] pos) (mC dAbs ma):=
 zgk call_abs (fun B G H σ ρ xs ds d Q I r hf k=>by
  unfold dAbs at hf
  split at hf
  ·rename_i i
   cases hf
   obtain⟨x,rfl,rx⟩:=r.one
   cases(show x=V.int i from rx)
   exact⟨i,rfl,k G H _ I (Fz.refl G) rfl⟩
  ·cases hf) (by decide+kernel) ml ha hg (by decide) (by decide) he rfl
noncomputable def isI (T:String):D->Bool
 | .non=>false
 | .bl _=>T=="bool"||T=="int"
 | .int _=>T=="int"
 | .str _=>T=="str"
 | .lst _=>T=="list"
 | .tup _=>T=="tuple"
 | .scr _=>T=="list"
 | .exc _=>false
 | .dic _ _=>false
 | .dit _ _=>false
noncomputable def okT (T:String):Bool:=["int","bool","tuple","list","str"].contains T
noncomputable def eIsI (T:String)(ma:ME):ME:=fun ρ=>(ma ρ).bind fun p=>if okT T&&noS1 p.1 then some (.bl (isI T p.1),p.2)else none
where noS1:D->Bool
 | .scr _=>false
 | .exc _=>false
 | .dic _ _=>false
 | .dit _ _=>false
 |_=>true
noncomputable def cutD {α:Type}(xs:List α)(lo hi:Option Int):List α:=(xs.drop (HT.sIx xs.length 0 lo)).take (HT.sIx xs.length xs.length hi-HT.sIx xs.length 0 lo)
theorem RepL.cut (h:RepL K G xs ds)(lo hi:Option Int):RepL K G (cutV xs lo hi) (cutD ds lo hi):=by
 unfold cutV cutD
 rw[h.length]
 exact(h.drop _).take _
section
variable {prog:Program} {w:World} {A:Around} {E:Value->Shared->Prop} {s:Shared}
theorem zg3 {t sl:Addr}{items:Array Value}{vl vu:Value}{lo hi:Option Int}(ht:IsTup s.heap t items)(hs:s.heap.IsSliceOf sl vl vu .none)(pl:IsPart vl lo)(pu:IsPart vu hi)
  (hw:HT.sIx items.size 0 lo=0/\HT.sIx items.size items.size hi=items.size) (h:Q (.ref t) s):wpAny (model prog w) A (getItem (.ref t) (.ref sl)) Q E s:=by
 obtain⟨os,hos,hcs,hds⟩:=id hs
 have hTs:s.TypeIs (.ref sl) "slice":=⟨os,hos,hcs⟩
 unfold getItem
 try with_reducible refine wpAny_holding ?_
 first|refine wpAny_bind (wpAny_pure ?_)|skip
 refine wpAny_bind (wpAny_sequenceKey ht.typeIs (by decide) ?_)
 refine wpAny_bind (wpAny_callSpecial?_slot (name:=Str.ofString "__getitem__") ht.typeIs PyProof.Rows.slot_tuple_getitem
  (wpAny_call_entry PyProof.Rows.slot_tuple_getitem ht.typeIs entry_tuple_getitem ?_ (args_tuple_getitem _ _)))
 show wpAny _ _ (Builtin.Tuple.tupleItemsOf (.ref t)>>=_) _ _ s
 refine wpAny_bind (tupleItemsOf_ ht ?_)
 refine wpAny_bind (wpAny_typeOf hTs ?_)
 rw[if_pos (by decide)]
 refine wpAny_bind (HT.ze8 hs pl pu ?_)
 have hyes:(((HT.sIx items.size 0 lo:Nat):Int)==0&&(1:Int)==1&&(HT.sIx items.size items.size hi-HT.sIx items.size 0 lo)==items.size)=true:=by
  rw[hw.1,hw.2];simp
 show wpAny _ _ (if(((HT.sIx items.size 0 lo:Nat):Int)==0&&(1:Int)==1&&(HT.sIx items.size items.size hi-HT.sIx items.size 0 lo)==items.size)=true then _ else _) _ _ s
 rw[if_pos hyes]
 refine wpAny_bind (m:=Builtin.Tuple.tupleIsExact _) ?_
 unfold Builtin.Tuple.tupleIsExact
 refine wpAny_bind (wpAny_typeOf ht.typeIs (wpAny_pure ?_))
 rw[if_pos (by decide)]
 refine wpAny_bind (wpAny_rule ?_)
 exact wpAny_pure ⟨_,rfl,wpAny_pure h⟩
end
noncomputable def rSlTW (K:W.Frag):V->Option Int->Option Int->Hp->VK->Prop:=fun x lo hi H Q=>∃a xs,x= .ref a/\SqT K H a xs/\(HT.sIx xs.length 0 lo=0/\HT.sIx xs.length xs.length hi=xs.length)/\Q (.ref a) H
theorem sl_tupW:SlR X (rSlTW X.K):=by
 intro pins s σ H x v vl vu lo hi sl Q I rx hs pl pu h
 obtain⟨a,xs,rfl,hx,hw,q⟩:=h
 cases rx
 obtain⟨its,r,ht,hz⟩:=I.tuple hx
 have hlen:its.toArray.size=xs.length:=by rw[List.size_toArray];exact r.length.symm
 refine⟨"tuple",_,PyProof.Rows.slot_tuple_getitem.lookup,ht.typeIs,?_⟩
 exact zg3 ht hs pl pu (by rw[hlen];exact hw) ⟨.ref a,H,I,rfl,q⟩
noncomputable abbrev MP:=R->Option (Option Int×R)
noncomputable def SPt (X:Cx)(e:Option Expr)(m:MP):Prop:=∃t,PO X e t/\∀B G H σ ρ o ρ' (Q:Option Int->Hp->Prop),SI X.K B G H σ ρ->m ρ=some (o,ρ')->(∀G' H',SI X.K B G' H' σ ρ'->Fz G G'->Q o H')->t σ H Q
noncomputable def pNo:MP:=fun ρ=>some (none,ρ)
noncomputable def zb4 (m:ME):MP:=fun ρ=>(m ρ).bind fun p=>match p.1 with
 | .int i=>some (some i,p.2)
 |_=>none
theorem zhZ:SPt X none pNo:=⟨_,po_none,fun B G H σ ρ o ρ' Q I hm k=>by cases hm;exact k G H I (Fz.refl G)⟩
theorem zaK {m:ME}(h:SE X e m):SPt X (some e) (zb4 m):=by
 obtain⟨t,p,s⟩:=h
 refine⟨_,po_some p,fun B G H σ ρ o ρ' Q I hm k=>?_⟩
 obtain⟨⟨d,ρ1⟩,e1,hm⟩:=zai hm
 refine s B G H σ ρ d ρ1 _ I e1 fun G1 H1 v I1 f1 r1=>?_
 cases d<;>try cases hm
 rename_i i
 exact⟨i,r1,k G1 H1 I1 f1⟩
noncomputable def dCut (d:D)(lo hi:Option Int):Option D:=match d with
 | .lst ds=>some (.lst (cutD ds lo hi))
 | .tup ds=>some (.tup (cutD ds lo hi))
 | .scr ns=>some (.lst ((cutD ns lo hi).map .int))
 |_=>none
noncomputable def eCut (ma:ME)(ml mh:MP):ME:=fun ρ=>(ma ρ).bind fun p=>(ml p.2).bind fun q=>(mh q.2).bind fun r=>(dCut p.1 q.1 r.1).map fun d=>(d,r.2)
theorem zpj (ns:List Int)(lo hi:Option Int):cutV (ns.map V.int) lo hi=(cutD ns lo hi).map V.int:=by
 unfold cutV cutD
 rw[List.length_map,<-List.map_drop,<-List.map_take]
theorem zd9 {lo hi:Option Expr}{ma:ME}{ml mh:MP}{pos p2:Pos}(he:SE X e ma)(hl:SPt X lo ml)(hu:SPt X hi mh):SE X (.Subscript e (.Slice lo hi none p2) pos) (eCut ma ml mh):=by
 obtain⟨ta,pa,sa⟩:=he
 obtain⟨tl,pl,sl⟩:=hl
 obtain⟨th,ph,sh⟩:=hu
 refine⟨_,pe_slice (sl_list.or (sl_tup.or sl_tupW)) pa pl ph,fun B G H σ ρ d ρ' Q I hm k=>?_⟩
 obtain⟨⟨x,ρ1⟩,e1,hm⟩:=zai hm
 obtain⟨⟨l,ρ2⟩,e2,hm⟩:=zai hm
 obtain⟨⟨u,ρ3⟩,e3,hm⟩:=zai hm
 obtain⟨c,e4,e5⟩:=zaJ hm
 obtain⟨rfl,rfl⟩:=Prod.mk.inj e5
 refine sa B G H σ ρ x ρ1 _ I e1 fun G1 H1 v I1 f1 r1=>sl B G1 H1 σ ρ1 l ρ2 _ I1 e2 fun G2 H2 I2 f2=>sh B G2 H2 σ ρ2 u ρ3 _ I2 e3 fun G3 H3 I3 f3=>?_
 have r3:=r1.mono (f2.trans f3)
 dsimp only at e4
 cases x with
 |exc _=>cases e4
 |dic _ _=>cases e4
 |dit _ _=>cases e4
 |non=>cases e4
 |bl _=>cases e4
 |int _=>cases e4
 |str _=>cases e4
 |lst ds=>
  cases e4
  obtain⟨a,xs,rfl,ha,r⟩:=I3.lst r3
  refine .inl ⟨a,xs,rfl,SqL.of ha,fun p hp=>?_⟩
  obtain⟨I4,f4,r4⟩:=I3.newL hp (r.cut l u)
  exact k _ _ _ I4 (f1.trans (f2.trans (f3.trans f4))) r4
 |tup ds=>
  cases e4
  obtain⟨a,xs,rfl,ha,r⟩:=I3.tup r3
  by_cases hw:HT.sIx xs.length 0 l=0/\HT.sIx xs.length xs.length u=xs.length
  ·refine .inr (.inr ⟨a,xs,rfl,SqT.of ha,hw,?_⟩)
   have e:cutD ds l u=ds:=by
    unfold cutD
    rw[<-r.length,hw.1,hw.2,List.drop_zero,Nat.sub_zero,List.take_of_length_le (by rw[r.length];exact Nat.le_refl _)]
   rw[e]at k
   exact k G3 H3 _ I3 (f1.trans (f2.trans f3)) r3
  ·refine .inr (.inl ⟨a,xs,rfl,SqT.of ha,hw,fun p hp=>?_⟩)
   obtain⟨I4,f4,r4⟩:=I3.newT hp (r.cut l u)
   exact k _ _ _ I4 (f1.trans (f2.trans (f3.trans f4))) r4
 |scr ns=>
  cases e4
  obtain⟨a,rfl,ha⟩:=r3
  refine .inl ⟨a,_,rfl,I3.fz.sql ha,fun p hp=>?_⟩
  rw[zpj]
  obtain⟨I4,f4,r4⟩:=I3.newL hp (RepL.ints (cutD ns l u))
  exact k _ _ _ I4 (f1.trans (f2.trans (f3.trans f4))) r4
theorem zcT (h:aLen ma n):∀ρ as ρ',ma ρ=some (as,ρ')->as.length+1=n+1:=fun ρ as ρ' e=>congrArg (· +1) (h ρ as ρ' e)
section
variable {X:Cx} {elt iter tg:Expr} {ifs:List Expr} {scope:Scope} {pos lpos pos':Pos} {N:List Str} {cap:List Nat} {t:Nat} {mi:MA} {g:D->R->Option R} {mt:MT} {me:ME}
theorem zet (i:Nat)(cap:List Nat)(t:Nat)(N:List Str)(hc:X.calm=true)(hi:SIt X tg iter mi)(hg:∀C s H fp,SG (cxC X N scope C s H fp) tg g)(ht:∀C s H fp,STs (cxC X N scope C s H fp) ifs mt)(he:∀C s H fp,SE (cxC X N scope C s H fp) elt me)(hN:X.N.Nodup)
    (hxi:X.N[i]? =some x:=by rfl) (hx:Loc X.env.scope x:=by first|exact Or.inl rfl|exact Or.inr rfl) (hf:X.fn x=true\/X.env.scope.names.lookup x=some .local:=by first|exact Or.inl rfl|exact Or.inr rfl)
    (hsw:swapsWith (.ListComp elt [⟨tg,iter,ifs,0⟩] scope lpos) (some (.Name x pos')) pos.line X.env=pure true:=by rfl)
    (hk:scope.kind= .function:=by rfl) (hb:blkB X.env scope=true:=by kernel_rfl) (hcap:capB scope.names N X.N cap t=true:=by kernel_rfl)
    (hs:∀x,foldedSetIterable iter X.env x=pure x:=by exact fun _=>rfl):SS X (.Assign [.Name x pos'] (.ListComp elt [⟨tg,iter,ifs,0⟩] scope lpos) pos) (sSet i (eFz (oLC cap t mi g mt me))):=by
  obtain⟨wi,pi,si⟩:=hi
  refine⟨_,zmJ hN hxi hx hf hsw hc (znX hk hb) (zoS hcap) pi (fun C s H fp=>(hg C s H fp).choose_spec.1) (fun C s H fp=>(ht C s H fp).choose_spec.1) (fun C s H fp=>(he C s H fp).choose_spec.1) hs,fun B G H σ ρ fl ρ' E I hm k=>?_⟩
  obtain⟨⟨d,ρ1⟩,e1,e3⟩:=zaJ hm
  obtain⟨⟨ds,ρ2⟩,e4,e5⟩:=zaJ e1
  obtain⟨rfl,rfl⟩:=Prod.mk.inj e5
  obtain⟨rfl,rfl⟩:=Prod.mk.inj e3
  refine zmz si (fun C s H fp=>(hg C s H fp).choose_spec.2) (fun C s H fp=>(ht C s H fp).choose_spec.2) (fun C s H fp=>(he C s H fp).choose_spec.2) B G H σ ρ ds ρ2 _ I e4 fun G1 H1 l xs I1 f1 g1 h1 r1 b1 n1=>?_
  obtain⟨I2,f2,r2⟩:=zks I1 g1 h1 r1 b1 n1
  exact k _ H1 _ (I2.set r2) (f1.trans f2)
end
end M
namespace M
open L2 PySem
@[simp] theorem atI_nat' {α:Type} (xs:List α) (i:Nat):atI xs (i:Int)=xs[i]?:=by
 unfold atI ixN
 rw[if_pos (by lia)]
 by_cases h:i<xs.length
 ·rw[if_pos (by lia)];simp
 ·rw[if_neg (by lia)];simp[List.getElem?_eq_none (by lia:xs.length<=i)]
end M
namespace M
open L2 PyProof.Rows PySem PySem.Spec
noncomputable def znu (i:Nat)(g:Int->Int->Int)(me:ME):MS:=fun ρ=>match ρ[i]? with
 |some (.val (.int a))=>(me ρ).bind fun p=>match p.1 with
  | .int b=>some (.next,p.2.set i (.val (.int (g a b))))
  |_=>none
 |_=>none
section
variable {X:Cx} {e:Expr} {me:ME} {pos:Pos}
theorem ss_augI (i:Nat){x:Str}{pos':Pos}{op:Operator}{g:Int->Int->Int}(ho:PIp X op (ipI g))(he:SE X e me)(hN:X.N.Nodup)(hi:X.N[i]? =some x:=by rfl)(hx:Loc X.env.scope x:=by first|exact Or.inl rfl|exact Or.inr rfl)
    (hf:X.fn x=true\/X.env.scope.names.lookup x=some .local:=by first|exact Or.inl rfl|exact Or.inr rfl):SS X (.AugAssign (.Name x pos') op e pos) (znu i g me):=by
  obtain⟨t,p,s⟩:=he
  refine⟨_,ps_aug hN hi hx p ho hf,fun B G H σ ρ fl ρ' E I hm k=>?_⟩
  unfold znu at hm
  split at hm
  . rename_i a e0
    obtain⟨⟨d,ρ1⟩,e1,h2⟩:=zai hm
    dsimp only at h2
    split at h2
    . rename_i b
      cases h2
      obtain⟨v,h1,hv⟩:=I.slot i _ e0
      cases(show v=V.int a from hv)
      refine⟨_,h1,s B G H σ ρ (.int b) ρ1 _ I e1 fun G1 H1 w I1 f1 r1=>?_⟩
      cases(show w=V.int b from r1)
      exact⟨a,b,rfl,rfl,k G1 H1 _ (I1.set (d:= .int (g a b)) rfl) f1⟩
    . cases h2
  . cases hm
theorem zkj (i:Nat){x:Str}{pos':Pos}(he:SE X e me)(hN:X.N.Nodup)(hi:X.N[i]? =some x:=by rfl)(hx:Loc X.env.scope x:=by first|exact Or.inl rfl|exact Or.inr rfl)
  (hf:X.fn x=true\/X.env.scope.names.lookup x=some .local:=by first|exact Or.inl rfl|exact Or.inr rfl):SS X (.AugAssign (.Name x pos') .Sub e pos) (znu i (fun i j=>i-j) me):=ss_augI i ip_sub he hN hi hx hf
end
noncomputable def zca {α:Type}(xs:List α)(lo hi st:Option Int):List α:=
 (sliceRange (sliceBounds lo hi st xs.length).1 (sliceBounds lo hi st xs.length).2.1 (sliceBounds lo hi st xs.length).2.2).filterMap (xs[·]?)
theorem zh6 (its:List Value)(lo hi st:Option Int):slicePick its.toArray lo hi st=(zca its lo hi st).toArray:=by
 unfold slicePick zca
 simp
theorem zky {xs:List V}{its:List Value}(h:xs.length=its.length)(lo hi st:Option Int):(zca its lo hi st).length<=xs.length:=by
 have:=slicePick_size_le its.toArray lo hi st
 rw[zh6]at this
 simpa[h]using this
theorem picks {its:List Value}{xs:List V}(r:Vals xs its):∀js:List Nat,Vals (js.filterMap (xs[·]?)) (js.filterMap (its[·]?))
 |[]=> .nil
 |j::js=>by
  have hl:=r.length
  by_cases h:j<xs.length
  ·have h2:j<its.length:=by lia
   obtain⟨u,e1,e2⟩:=r.get (List.getElem?_eq_getElem h)
   rw[List.filterMap_cons,List.filterMap_cons,List.getElem?_eq_getElem h,e1]
   exact .cons e2 (picks r js)
  ·rw[List.filterMap_cons,List.filterMap_cons,List.getElem?_eq_none (by lia),List.getElem?_eq_none (by lia)]
   exact picks r js
theorem RepL.pickJ {K:W.Frag}{G:Hp}{xs:List V}{ds:List D}(r:RepL K G xs ds):∀js:List Nat,RepL K G (js.filterMap (xs[·]?)) (js.filterMap (ds[·]?))
 |[]=>RepL.nil
 |j::js=>by
  have hl:=r.length
  by_cases h:j<xs.length
  ·have h2:j<ds.length:=by lia
   obtain⟨u,e1,e2⟩:=r.get (List.getElem?_eq_getElem h2)
   rw[List.filterMap_cons,List.filterMap_cons,List.getElem?_eq_getElem h2,e1]
   exact RepL.cons e2 (r.pickJ js)
  ·rw[List.filterMap_cons,List.filterMap_cons,List.getElem?_eq_none (by lia),List.getElem?_eq_none (by lia)]
   exact r.pickJ js
section
variable {X:Cx} {e st:Expr} {lo hi:Option Expr} {te:TE} {tl th ts:TO} {p2 pos:Pos}
theorem zjy (he:PE X e te)(hl:PO X lo tl)(hu:PO X hi th)(hst:PO X (some st) ts):PE X (.Subscript e (.Slice lo hi (some st) p2) pos)
  (fun σ H Q=>te σ H fun x H1=>tl σ H1 fun l H2=>th σ H2 fun u H3=>ts σ H3 fun c H4=>∃a xs,x= .ref a/\SqL X.K H4 a xs/\c≠some 0/\∀p,H4 p=none->Q (.ref p) (upd H4 p (.lst (zca xs l u c)))):=by
 intro pins s σ H Q I h
 refine Subscript_ (thn (he pins s σ H _ I h) fun v s1 ⟨x,H1,I1,r1,q1⟩=>?_)
 refine wpAny_Slice (thn (hl pins s1 σ H1 _ I1 q1) fun vl s2 ⟨l,H2,I2,pl,q2⟩=>thn (hu pins s2 σ H2 _ I2 q2) fun vu s3 ⟨u,H3,I3,pu,q3⟩=>thn (hst pins s3 σ H3 _ I3 q3) fun vs s4 ⟨c,H4,I4,pc,q4⟩=>?_)
 have I5:Inv X pins σ H4 {s4 with heap:=s4.heap.push {cls:= .type "slice",data:= .fields #[vl,vu,vs]}}:=I4.kept (t':=s4.toks) fun b ob q=>Heap.get?_push_of_some _ q
 obtain⟨a,xs,rfl,hx,h0,q⟩:=q4
 cases r1
 obtain⟨its,r,ht,hz⟩:=I5.list hx
 have hlen:=r.length
 have hg:wpAny (model X.prog X.w) X.A (getItem (.ref a) (.ref s4.heap.objs.size)) (EP X pins σ Q) X.xe {s4 with heap:=s4.heap.push {cls:= .type "slice",data:= .fields #[vl,vu,vs]}}:=by
  refine wpAny_getItem_list_slice ht.isList (Heap.IsSliceOf.new ..) pl pu pc h0 ?_ (by rw[List.size_toArray]<;>lia)
  rw[zh6]
  refine⟨.ref _,_,I5.laid (t':=s4.toks) (o:= .lst (zca xs l u c)) (fun b ob q=>Heap.get?_push_of_some _ q) (Nat.le_refl _) ?_,rfl,q _ (I5.hok.fresh (Nat.le_refl _))⟩
  refine⟨?_,_,0,?_,Heap.get?_push_size _ rfl⟩
  ·have:=zky hlen l u c
   have e2:(zca xs l u c).length=(zca its l u c).length:=by
    unfold zca;rw[hlen];exact(picks r _).length
   lia
  ·unfold zca;rw[hlen];exact picks r _
 show wpAny (model X.prog X.w) X.A (subscriptTail e (.Slice lo hi (some st) p2) (.ref a) (.ref s4.heap.objs.size)) (EP X pins σ Q) X.xe {s4 with heap:=s4.heap.push {cls:= .type "slice",data:= .fields #[vl,vu,vs]}}
 exact tail_any (ops:=[.ref a,.ref s4.heap.objs.size]) ht.isList.typeIs slot_list_getitem.lookup hg (by with_unfolding_all rfl)
end
noncomputable def zoz (d:D)(lo hi st:Option Int):Option D:=match d with
 | .lst ds=>if st=some 0 then none else some (.lst (zca ds lo hi st))
 |_=>none
noncomputable def zoh (ma:ME)(ml mh ms:MP):ME:=fun ρ=>(ma ρ).bind fun p=>(ml p.2).bind fun q=>(mh q.2).bind fun r=>(ms r.2).bind fun t=>(zoz p.1 q.1 r.1 t.1).map fun d=>(d,t.2)
theorem RepL.pick {K:W.Frag}{G:Hp}{xs:List V}{ds:List D}(r:RepL K G xs ds)(lo hi st:Option Int):RepL K G (zca xs lo hi st) (zca ds lo hi st):=by
 unfold zca
 rw[r.length]
 exact r.pickJ _
theorem zlr {X:Cx}{e st:Expr}{lo hi:Option Expr}{ma:ME}{ml mh ms:MP}{pos p2:Pos}(he:SE X e ma)(hl:SPt X lo ml)(hu:SPt X hi mh)(hs:SPt X (some st) ms):SE X (.Subscript e (.Slice lo hi (some st) p2) pos) (zoh ma ml mh ms):=by
 obtain⟨ta,pa,sa⟩:=he
 obtain⟨tl,pl,sl⟩:=hl
 obtain⟨th,ph,sh⟩:=hu
 obtain⟨tc,pc,sc⟩:=hs
 refine⟨_,zjy pa pl ph pc,fun B G H σ ρ d ρ' Q I hm k=>?_⟩
 obtain⟨⟨x,ρ1⟩,e1,hm⟩:=zai hm
 obtain⟨⟨l,ρ2⟩,e2,hm⟩:=zai hm
 obtain⟨⟨u,ρ3⟩,e3,hm⟩:=zai hm
 obtain⟨⟨c,ρ4⟩,e4,hm⟩:=zai hm
 obtain⟨y,e5,e6⟩:=zaJ hm
 obtain⟨rfl,rfl⟩:=Prod.mk.inj e6
 refine sa B G H σ ρ x ρ1 _ I e1 fun G1 H1 v I1 f1 r1=>sl B G1 H1 σ ρ1 l ρ2 _ I1 e2 fun G2 H2 I2 f2=>sh B G2 H2 σ ρ2 u ρ3 _ I2 e3 fun G3 H3 I3 f3=>sc B G3 H3 σ ρ3 c ρ4 _ I3 e4 fun G4 H4 I4 f4=>?_
 have r3:=r1.mono (f2.trans (f3.trans f4))
 dsimp only at e5
 cases x<;>simp only[zoz]at e5<;>try cases e5
 rename_i ds
 split at e5
 ·cases e5
 ·rename_i h0
  cases e5
  obtain⟨a,xs,rfl,ha,r⟩:=I4.lst r3
  refine⟨a,xs,rfl,SqL.of ha,h0,fun p hp=>?_⟩
  obtain⟨I5,f5,r5⟩:=I4.newL hp (r.pick l u c)
  exact k _ _ _ I5 (f1.trans (f2.trans (f3.trans (f4.trans f5)))) r5
end M
namespace M
open L2 PySem PySem.Spec
open PyProof.Rows hiding St
noncomputable def cntS (lo hi st:Int):Nat:=if lo<hi then((hi-lo-1)/st+1).toNat else 0
noncomputable def Itrs (lo st:Int)(n:Nat):It:=⟨fun i _=>i<n,fun i H x H'=>H'=H/\x= .int (lo+i*st),fun i _=>n<=i⟩
theorem zlV {P:Program}{w:World}{K:W.Frag}{tg:Expr}(it:Addr)(lo st:Int)(n:Nat):Turn P w K tg (Itrs lo st n) [it] it (fun i h=>IsRangeIter h it (lo+(i:Nat)*st) ((n:Int)-(i:Nat)) st) where
 mem:=by simp
 obj:=fun i h st b hb=>by
  have e:b=it:=by simpa using hb
  subst e
  exact⟨_,st,fun v z=>by
   have z':Data.fields _=Data.cell v:=z
   cases z'⟩
 keep:=fun i h h' st k=>k it (by simp) _ st
 item:=by
  intro X hP hw hK hc i pins s σ H E I hf st' hg
  subst hP hw hK
  obtain⟨f0,f1,f2,f3,f4,f5⟩:=hf it (by simp)
  have W:=Walks.range (prog:=X.prog) (w:=X.w) (I.ok.hd hc) it lo st n
  refine W.item i s _ _ hg st' fun v h' tk hv st' kk=>?_
  obtain⟨t,rfl⟩:=hv
  have I1:Inv X pins σ H {s with heap:=h',toks:=tk}:=I.turned (fun b o hb e=>kk b o (by simpa using hb) e) f0 f1 f3 f4 f5
  exact⟨_,rfl,znU (s:={s with heap:=h',toks:=tk}) (n:="range_iterator") st' rfl rfl (by decide) ⟨.int (lo+i*st),H,I1,⟨t,rfl⟩,⟨rfl,rfl⟩,st',fun b hb=>(hf b hb).1⟩⟩
 done:=by
  intro X hP hw hK hc i pins s σ H E I hf st' hg
  subst hP hw hK
  obtain⟨f0,f1,f2,f3,f4,f5⟩:=hf it (by simp)
  exact wpAny_pyNext_range_end (I.ok.hd hc) st' (by have:n<=i:=hg;lia) fun h' eb=>⟨rfl,I.turned (t':=s.toks) (fun b o hb e=>eb b o hb e) f0 f1 f3 f4 f5⟩
 self:=fun _ _ _ _ _ st h=>wpAny_pyIter_rangeiter st h
noncomputable def zkH (lo st:Int)(n:Nat):List D:=(List.range n).map fun(i:Nat)=>D.int (lo+(i:Int)*st)
theorem zny {K:W.Frag}{G:Hp}(lo st:Int)(n:Nat):Itm K (Itrs lo st n) G (zkH lo st n) where
 go:=fun H i f hi=>by show i<n;simpa[zkH]using hi
 yld:=fun H i x H' f y d e=>by
  obtain⟨rfl,rfl⟩:=y
  unfold zkH at e
  rw[List.getElem?_map]at e
  cases q:(List.range n)[i]? with
  |none=>rw[q]at e;cases e
  |some j=>
   rw[q]at e
   have hj:j=i:=by
    have:=List.getElem?_eq_some_iff.mp q
    obtain⟨h1,h2⟩:=this
    simpa using h2.symm
   subst hj
   cases e
   exact .inl ⟨rfl,rfl⟩
 stop:=fun H i f hi=>by show n<=i;simpa[zkH]using hi
theorem zkU {j:Int}(h:zci j=true): -(2^60)<=j/\j<2^60:=by
 unfold zci at h
 simp only[Bool.and_eq_true,decide_eq_true_eq]at h
 lia
noncomputable def zix (lt:Int->Int->Bool)(ns:List Int):Int:=ns.getD (argBest (fun i j=>lt (ns.getD i 0) (ns.getD j 0)) (ns.length-1)) 0
noncomputable def rBest (K:W.Frag)(lt:Int->Int->Bool):List V->Hp->VK->Prop:=fun xs H Q=>∃(p:Addr) (ns:List Int),xs=[.ref p]/\ns≠[]/\(SqL K H p (ns.map V.int)\/SqT K H p (ns.map V.int))/\Q (.int (zix lt ns)) H
theorem znH {X:Cx}(hc:X.calm=true):zik X (.builtin "max") (rBest X.K fun i j=>decide (i>j)):=by
 intro pins s σ H xs us Q I r h
 obtain⟨p,ns,rfl,ne,hq,q⟩:=h
 obtain⟨u,rfl,ru⟩:=zlU r
 cases ru
 refine call_max_walk (zkh (A:=X.A.in1) (I.ok.hd hc) I hq fun its s₂ St rv W st hfp fin=>?_)
 have hl:=rv.length
 rw[List.length_map]at hl
 have hp:0<its.length:=by rw[<-hl];exact List.length_pos_iff.mpr ne
 refine⟨_,_,_,_,_,_,_,rfl,W,st,hfp,hp,CmpOf.ints_gt (fun i=>ns.getD i 0) (fun i v e=>zhc rv e),fun v h' tk hP hk=>?_⟩
 obtain⟨t,rfl⟩:=zhc rv hP
 refine⟨.int (zix _ ns),H,fin h' tk hk,⟨t,?_⟩,q⟩
 unfold zix
 rw[hl]
theorem znT {X:Cx}(hc:X.calm=true):zik X (.builtin "min") (rBest X.K fun i j=>decide (i<j)):=by
 intro pins s σ H xs us Q I r h
 obtain⟨p,ns,rfl,ne,hq,q⟩:=h
 obtain⟨u,rfl,ru⟩:=zlU r
 cases ru
 refine call_min_walk (zkh (A:=X.A.in1) (I.ok.hd hc) I hq fun its s₂ St rv W st hfp fin=>?_)
 have hl:=rv.length
 rw[List.length_map]at hl
 have hp:0<its.length:=by rw[<-hl];exact List.length_pos_iff.mpr ne
 refine⟨_,_,_,_,_,_,_,rfl,W,st,hfp,hp,CmpOf.ints_lt (fun i=>ns.getD i 0) (fun i v e=>zhc rv e),fun v h' tk hP hk=>?_⟩
 obtain⟨t,rfl⟩:=zhc rv hP
 refine⟨.int (zix _ ns),H,fin h' tk hk,⟨t,?_⟩,q⟩
 unfold zix
 rw[hl]
noncomputable def zli (lt:Int->Int->Bool):List D->Option D
 |[d]=>(zaR [d]).bind fun ds=>(zb8 ds).bind fun ns=>if ns.isEmpty then none else some (.int (zix lt ns))
 |_=>none
theorem zoZ {X:Cx}(lt:Int->Int->Bool):VC X (rBest X.K lt) (zli lt):=by
 intro B G H σ ρ xs ds d Q I r hf k
 match ds,hf with
 |[a],hf=>
  obtain⟨es,e1,hf⟩:=zai hf
  obtain⟨ns,e2,hf⟩:=zai hf
  split at hf
  ·cases hf
  ·rename_i ne
   cases hf
   obtain⟨x,rfl,ra⟩:=r.one
   obtain⟨p,ys,rfl,hq,ry⟩:=zms I ra e1
   rw[zga e2]at ry
   rw[RepL.ints_eq ry]at hq
   exact⟨p,ns,rfl,fun z=>ne (by rw[z];rfl),hq,k G H _ I (Fz.refl G) rfl⟩
 |[],hf=>cases hf
 |_::_::_,hf=>cases hf
noncomputable def ziy:List D->Option D:=zli fun i j=>decide (i>j)
noncomputable def zj4:List D->Option D:=zli fun i j=>decide (i<j)
theorem zl4 {X:Cx}{e:Expr}{ma:MA}{p pos:Pos}(hc:X.calm=true)(ml:X.mg "max"=none)(ha:SA X [e] ma)(hg:Gl X "max":=by rfl)(he:starEach [e] X.env=(false,eval e X.env)::starEach [] X.env:=by rfl):SE X (.Call (.Name "max" p) [e] [] pos) (mC ziy ma):=
 zgk (znH hc) (zoZ _) (by decide+kernel) ml ha hg (by decide) (by decide) he rfl
theorem zoT {X:Cx}{e:Expr}{ma:MA}{p pos:Pos}(hc:X.calm=true)(ml:X.mg "min"=none)(ha:SA X [e] ma)(hg:Gl X "min":=by rfl)(he:starEach [e] X.env=(false,eval e X.env)::starEach [] X.env:=by rfl):SE X (.Call (.Name "min" p) [e] [] pos) (mC zj4 ma):=
 zgk (znT hc) (zoZ _) (by decide+kernel) ml ha hg (by decide) (by decide) he rfl
noncomputable def oRep (ma mb:ME):MO:=fun ρ=>(ma ρ).bind fun p=>(mb p.2).bind fun q=>match p.1,q.1 with
 | .lst xs,.int k=>if zci k&&decide (xs.length*k.toNat<=16777216)then some ((List.replicate k.toNat xs).flatten,q.2)else none
 |_,_=>none
theorem RepL.times {K:W.Frag}{G:Hp}{xs:List V}{ds:List D}(h:RepL K G xs ds):∀n:Nat,RepL K G (List.replicate n xs).flatten (List.replicate n ds).flatten
 |0=>RepL.nil
 |n+1=>by
  rw[List.replicate_succ,List.flatten_cons,List.replicate_succ,List.flatten_cons]
  exact h.append (h.times n)
theorem zmR {X:Cx}{a b:Expr}{ma mb:ME}{pos:Pos}(ha:SE X a ma)(hb:SE X b mb):SO X (.BinOp a .Mult b pos) (oRep ma mb):=by
 obtain⟨ta,pa,sa⟩:=ha
 obtain⟨tb,pb,sb⟩:=hb
 refine⟨_,pe_op op_rep pa pb,fun B G H σ ρ d ρ' Q I hm k=>?_⟩
 obtain⟨⟨x,ρ1⟩,e1,hm⟩:=zai hm
 obtain⟨⟨y,ρ2⟩,e2,hm⟩:=zai hm
 refine sa B G H σ ρ x ρ1 _ I e1 fun G1 H1 v I1 f1 r1=>sb B G1 H1 σ ρ1 y ρ2 _ I1 e2 fun G2 H2 u I2 f2 r2=>?_
 dsimp only at hm
 split at hm
 ·rename_i xs n _
  split at hm
  ·rename_i hs
   cases hm
   simp only[Bool.and_eq_true,decide_eq_true_eq]at hs
   cases(show u=V.int n from r2)
   obtain⟨l,ys,rfl,hl,r⟩:=I2.lst (r1.mono f2)
   have a1:=ziL hs.1
   refine⟨l,n,ys,rfl,rfl,hl,by lia,by lia,by rw[r.length,sizeLine_eq];exact hs.2,fun p hp=>?_⟩
   obtain⟨I3,g3,h3,b3,n3⟩:=I2.newO hp (List.replicate n.toNat ys).flatten
   exact k G2 _ p _ I3 (f1.trans f2) g3 h3 (r.times _) b3 n3
  ·cases hm
 ·cases hm
end M
namespace M
open L2 PySem PySem.Spec
open PyProof.Rows hiding St
open Sem (wp)
variable {b N i k:Nat} {a it l:Addr} {t:Bool} {h h':Heap} {is xs ys:Array Value} {Q:Value->Shared->Prop}
theorem nin2 {b x y z:Nat}(h:b∈[x,y])(h1:x≠z)(h2:y≠z):b≠z:=by
 simp at h
 rcases h with rfl|rfl<;>assumption
theorem nA {N a b:Nat}(h:a≠b):N+a≠N+b:=fun e=>h (Nat.add_left_cancel e)
theorem nB (h:0≠b):N≠N+b:=fun e=>h (Nat.add_left_cancel (show N+0=N+b from e))
theorem nC (h:b≠0):N+b≠N:=fun e=>h (Nat.add_left_cancel (show N+b=N+0 from e))
theorem nL {a N b:Nat}(h:a<N):a≠N+b:=Nat.ne_of_lt (Nat.lt_of_lt_of_le h (Nat.le_add_right _ _))
theorem ne_ {a b:Nat}(h:a≠b):a≠b:=h
local macro_rules | `(tactic| ac_rfl) => `(tactic| first | exact M.nA (by decide) | exact M.nB (by decide) | exact M.nC (by decide) | exact M.nL (by assumption) | exact Nat.ne_of_lt (by assumption) | lia)
noncomputable def SrcIt:Bool->Heap->Addr->Addr->Nat->Prop
 |true,h,it,a,i=>h.IsTupleIter it a i
 |false,h,it,a,i=>h.IsListIter it a i
noncomputable def SrcH:Bool->Heap->Addr->Array Value->Prop
 |true,h,a,its=>h.IsTuple a its
 |false,h,a,its=>h.IsList a its
theorem SrcIt.at (x:SrcIt t h it a i)(e:∀o,h.get? it=some o->h'.get? it=some o):SrcIt t h' it a i:=by
 cases t
 ·exact Heap.IsListIter.at x e
 ·exact Heap.IsTupleIter.at x e
theorem SrcH.at (x:SrcH t h a is)(e:∀o,h.get? a=some o->h'.get? a=some o):SrcH t h' a is:=by
 cases t
 ·exact Heap.IsList.at x e
 ·obtain⟨o,ho,r⟩:=x;exact⟨o,e _ ho,r⟩
theorem SrcIt.obj (x:SrcIt t h it a i):∃o,h.get? it=some o/\∀v,o.data≠ .cell v:=by
 cases t<;>(obtain⟨o,e,c,d⟩:=x;exact⟨o,e,fun v z=>by rw[d]at z;cases z⟩)
theorem SrcH.lt (x:SrcH t h a is):a<h.objs.size:=by
 cases t<;>(obtain⟨o,e,_⟩:=x;exact Heap.lt_size e)
section
variable {prog:Program} {w:World} {A:Around} {E:Value->Shared->Prop} {s:Shared}
theorem zmQ {items}(hit:s.heap.IsTupleIter it l i)(hl:s.heap.IsTuple l items)
  (k : (∃ x, items[i]? = some x /\ ∀ h', h'.IsTupleIter it l (i + 1) -> Heap.SameBut it s.heap h' -> Q x { s with heap := h' }) \/
   (items[i]? =none/\A.handled=none/\∀h' e,Heap.ExtBut it s.heap h'->(∃o,h'.get? e=some o/\o.cls= .type "StopIteration")->E (.ref e) {s with heap:=h'})):
  wpAny (model prog w) A (Builtin.SmallTypes.nextOf (.ref it)) Q E s:=by
 obtain⟨o,ho,hc,hd⟩:=id hit
 obtain⟨ol,hol,-,nl,hdl⟩:=hl
 have ne:¬((Value.ref l==Value.none)=true):=Bool.false_ne_true
 unfold Builtin.SmallTypes.nextOf
 refine wpAny_bind (wpAny_callSpecial?_slot (name:=Str.ofString "__next__") hit.typeIs slot_tupleiter_next (wpAny_call_entry slot_tupleiter_next hit.typeIs entry_tupleiter_next ?_ (args_tupleiter_next _)))
 refine(?_:wpAny _ _ (field (.ref it) 0>>=_) _ _ s)
 refine wpAny_bind (wpAny_field ho hd (x:= .ref l) rfl (?_:wpAny _ _ (if(Value.ref l==Value.none)=true then _ else _) _ _ s))
 rw[if_neg ne]
 refine(?_:wpAny _ _ (field (.ref it) 1>>=_) _ _ s)
 refine wpAny_bind (wpAny_field ho hd (x:= .int i 0) rfl (?_:wpAny _ _ (seqItems? (.ref l)>>=_) _ _ s))
 refine wpAny_bind (wpAny_seqItems hol hdl ?_)
 rcases k with⟨x,hx,k⟩|⟨hx,hh,k⟩<;>simp only[Int.toNat_natCast,hx]
 ·have upd:∀h':Heap,h'.get? it=some (o.mapFields fun a=>a.setIfInBounds 1 (rawInt (((i:Nat):Int)+1)))->h'.IsTupleIter it l (i+1):=fun h' e=>⟨_,e,(Obj.cls_mapFields ..).trans hc,by rw[Obj.data_mapFields hd];simp[rawInt]⟩
  refine wpAny_bind (wpAny_setField ho hd (by simp) (wpAny_pure ⟨x,rfl,wpAny_pure (k _ ?_ (Heap.SameBut.update ..))⟩))
  refine⟨_,Heap.get?_update_self _ ho (Obj.isFreed_of_fields (Obj.data_mapFields hd _)),(Obj.cls_mapFields ..).trans hc,?_⟩
  rw[Obj.data_mapFields hd]
  simp[rawInt]
 ·refine wpAny_bind (wpAny_rule (wpAny_bind (wpAny_setField ho hd (by simp) (?_:wpAny _ _ (newExc (.type "StopIteration") []>>=_) _ _ _))))
  refine wpAny_bind ?_
  simp only[newExc,newTuple]
  refine wpAny_bind (wpAny_newObj_type (wpAny_bind (m:=firstArgMember _ _) (wpAny_of_eq (a:=Value.none) (by first|rfl|(simp only[firstArgMember];rfl)) (wpAny_newObj_type ?_ (by size_fits)))) (by size_fits))
  simp only[raiseNew]
  refine wpAny_bind (wpAny_handled ?_)
  first|rw[show A.in1.handled=none from hh]|rw[hh]
  exact wpAny_bind (wpAny_pure (wpAny_throw (k _ _ (((Heap.SameBut.update ..).extBut.push _).push _) ⟨_,Heap.get?_push_size _ rfl,rfl⟩)))
theorem zbj (hh:A.handled=none)(it l:Addr)(hne:l≠it)(items:Array Value):Draws prog w A it [it,l] items.size (fun i v=>items[i]? =some v) (fun i h=>SrcIt t h it l i/\SrcH t h l items):=by
 cases t
 ·exact Draws.list hh it l hne items
 ·refine⟨fun _ _ st=>?_,fun _ _ _ st hk=>⟨SrcIt.at st.1 fun o e=>hk it (by simp) o e,SrcH.at st.2 fun o e=>hk l (by simp) o e⟩,fun i s Q E hi st hQ=>?_,fun s Q E st hE=>zmQ st.1 st.2 (.inr ⟨by simp,hh,hE⟩)⟩
  ·obtain⟨o,e,-⟩:=SrcIt.obj st.1
   exact⟨o,e⟩
  ·exact zmQ st.1 st.2 (.inl ⟨items[i],by simp[hi],fun h' a b=>hQ _ h' s.toks (by simp[hi]) ⟨a,SrcH.at st.2 fun o e=>(b.2 l hne).trans e⟩ b⟩)
noncomputable def srcO (t:Bool)(a:Addr):Obj:={cls:= .type (if t then "tuple_iterator" else "list_iterator"),data:= .fields #[.ref a,.int 0 0]}
theorem zhL (e:h.get? it=some (srcO t a)):SrcIt t h it a 0:=by
 cases t<;>exact⟨_,e,rfl,rfl⟩
theorem zeh (t:Bool)(a:Addr):(srcO t a).isFreed=false:=by cases t<;>rfl
theorem zcx {items}(hl:SrcH t s.heap a items)(hQ:Q (.ref s.heap.objs.size) {s with heap:=s.heap.push (srcO t a)}):
  wpAny (model prog w) A (pyIter (.ref a)) Q E s:=by
 cases t
 ·exact wpAny_pyIter_list hl hQ
 ·exact wpAny_pyIter_tuple hl hQ
noncomputable abbrev zdS (h:Heap)(T:Addr)(a b c:Value):Prop:=h.get? T=some {cls:= .type "tuple",data:= .seq #[a,b,c]}
theorem ziZ {T:Addr}{a b c x:Value}{Q:Unit->Shared->Prop}(hT:zdS s.heap T a b c)
  (h:∀h',h'.get? T=some {cls:= .type "tuple",data:= .seq ((#[a,b,c]:Array Value).setIfInBounds k x)}->Heap.SameBut T s.heap h'->Q () {s with heap:=h'}):
  wpAny (model prog w) A (updateSeq T (·.setIfInBounds k x)) Q E s:=
 wpAny_updateSeq hT rfl (h _ (by rw[Heap.get?_update_self _ hT rfl];simp[Obj.mapSeq]) (Heap.SameBut.update ..))
section
variable {N a1 a2 a3:Nat} {n1 n2 n3:Nat} {P1 P2 P3:Nat->Value->Prop} {S1 S2 S3:Nat->Heap->Prop}
theorem zo5 {a b c:Value}(D1:Draws prog w A N [N,a1] n1 P1 S1)(D2:Draws prog w A (N+1) [N+1,a2] n2 P2 S2)(D3:Draws prog w A (N+2) [N+2,a3] n3 P3 S3)(l1:a1<N)(l2:a2<N)(l3:a3<N)
  (hz:IsZip s.heap (N+5) (N+3) (N+4) .none) (hTI:zdS s.heap (N+3) (.ref N) (.ref (N+1)) (.ref (N+2))) (hTO:zdS s.heap (N+4) a b c) (h1:S1 i s.heap) (h2:S2 i s.heap) (h3:S3 i s.heap) (i1:i<n1) (i2:i<n2) (i3:i<n3)
  (k : ∀ x y z h' tk, P1 i x -> P2 i y -> P3 i z -> IsZip h' (N + 5) (N + 3) (N + 4) (rawInt s.heap.objs.size) -> zdS h' (N + 4) x y z -> S1 (i + 1) h' -> S2 (i + 1) h' -> S3 (i + 1) h' -> zdS h' s.heap.objs.size x y z ->
   (∀c o,c≠N->c≠N+1->c≠N+2->c≠N+4->c≠N+5->s.heap.get? c=some o->h'.get? c=some o)->Q (.ref s.heap.objs.size) {s with heap:=h',toks:=tk}):
  wpAny (model prog w) A (Builtin.«zip.__next__» ⟨[.ref (N+5)],[]⟩) (fun fin s'=>∃v,fin= .done (.ret v)/\Q v s') E s:=by
 refine(?_:wpAny _ _ (field (.ref (N+5)) 2>>=_) _ _ _)
 refine wpAny_bind (wpAny_field hz rfl (x:= .bool false) rfl (?_:wpAny _ _ (field (.ref (N+5)) 3>>=_) _ _ _))
 refine wpAny_bind (wpAny_field hz rfl (x:= .ref (N+3)) rfl (wpAny_bind (wpAny_seqItems hTI rfl (?_:wpAny _ _ (Builtin.SmallTypes.ownedTupleIsFree (.ref (N+5))>>=_) _ _ _))))
 refine wpAny_bind ?_
 unfold Builtin.SmallTypes.ownedTupleIsFree
 refine wpAny_bind (wpAny_field hz rfl (x:= .none) rfl (wpAny_pure ?_))
 simp only[if_true]
 refine wpAny_bind (wpAny_rule (wpAny_bind (wpAny_field hz rfl (x:= .ref (N+4)) rfl (wpAny_bind (wpAny_setField_rec hz (by simp) fun g1 z1 s1=>wpAny_bind ?_)))))
 replace z1:IsZip g1 (N+5) (N+3) (N+4) .ellipsis:=z1
 simp only[List.zipIdx_cons,List.zipIdx_nil,List.forIn_cons,List.forIn_nil]
 refine wpAny_bind (wpAny_bind (wpAny_onRaise (?_:wpAny _ _ (Builtin.SmallTypes.nextOf (.ref N)>>=_) _ _ _)))
 have e1:S1 i g1:=D1.frame _ _ _ h1 fun b hb o e=>(s1.2 b (nin2 hb (by ac_rfl) (by ac_rfl))).trans e
 refine wpAny_bind (D1.item i _ _ _ i1 e1 fun x g2 t2 p1 f2 s2=>wpAny_pure ?_)
 have q2:zdS g2 (N+4) a b c:=(s2.2 _ (ne_ (by ac_rfl))).trans ((s1.2 _ (ne_ (by ac_rfl))).trans hTO)
 refine wpAny_bind (wpAny_seqItems q2 rfl (wpAny_bind (ziZ q2 fun g3 q3 s3=>wpAny_bind (wpAny_letGo (wpAny_pure ?_)))))
 replace q3:zdS g3 (N+4) x b c:=q3
 have k3:∀d o,d≠N->d≠N+4->d≠N+5->s.heap.get? d=some o->g3.get? d=some o:=fun d o c1 c2 c3 e=>(s3.2 d c2).trans ((s2.2 d c1).trans ((s1.2 d c3).trans e))
 refine wpAny_bind (wpAny_bind (wpAny_onRaise (?_:wpAny _ _ (Builtin.SmallTypes.nextOf (.ref (N+1))>>=_) _ _ _)))
 have e3:S2 i g3:=D2.frame _ _ _ h2 fun b hb o e=>k3 b o (nin2 hb (by ac_rfl) (by ac_rfl)) (nin2 hb (by ac_rfl) (by ac_rfl)) (nin2 hb (by ac_rfl) (by ac_rfl)) e
 refine wpAny_bind (D2.item i _ _ _ i2 e3 fun y g4 t4 p2 f4 s4=>wpAny_pure ?_)
 have q4:zdS g4 (N+4) x b c:=(s4.2 _ (ne_ (by ac_rfl))).trans q3
 refine wpAny_bind (wpAny_seqItems q4 rfl (wpAny_bind (ziZ q4 fun g5 q5 s5=>wpAny_bind (wpAny_letGo (wpAny_pure ?_)))))
 replace q5:zdS g5 (N+4) x y c:=q5
 refine wpAny_bind (wpAny_bind (wpAny_onRaise (?_:wpAny _ _ (Builtin.SmallTypes.nextOf (.ref (N+2))>>=_) _ _ _)))
 have e5:S3 i g5:=D3.frame _ _ _ h3 fun b hb o e=>(s5.2 b (nin2 hb (by ac_rfl) (by ac_rfl))).trans ((s4.2 b (nin2 hb (by ac_rfl) (by ac_rfl))).trans (k3 b o (nin2 hb (by ac_rfl) (by ac_rfl)) (nin2 hb (by ac_rfl) (by ac_rfl)) (nin2 hb (by ac_rfl) (by ac_rfl)) e))
 refine wpAny_bind (D3.item i _ _ _ i3 e5 fun z g6 t6 p3 f6 s6=>wpAny_pure ?_)
 have q6:zdS g6 (N+4) x y c:=(s6.2 _ (ne_ (by ac_rfl))).trans q5
 refine wpAny_bind (wpAny_seqItems q6 rfl (wpAny_bind (ziZ q6 fun g7 q7 s7=>wpAny_bind (wpAny_letGo (wpAny_pure (wpAny_pure ?_))))))
 replace q7:zdS g7 (N+4) x y z:=q7
 have sz:g7.objs.size=s.heap.objs.size:=by rw[s7.1,s6.1,s5.1,s4.1,s3.1,s2.1,s1.1]
 have z7:IsZip g7 (N+5) (N+3) (N+4) .ellipsis:=(s7.2 _ (ne_ (by ac_rfl))).trans ((s6.2 _ (ne_ (by ac_rfl))).trans ((s5.2 _ (ne_ (by ac_rfl))).trans ((s4.2 _ (ne_ (by ac_rfl))).trans ((s3.2 _ (ne_ (by ac_rfl))).trans ((s2.2 _ (ne_ (by ac_rfl))).trans z1)))))
 have zl:(N+5:Nat)<g7.objs.size:=Heap.lt_size z7
 have k7:∀d o,d≠N->d≠N+1->d≠N+2->d≠N+4->d≠N+5->s.heap.get? d=some o->g7.get? d=some o:=fun d o c1 c2 c3 c4 c5 e=>(s7.2 d c4).trans ((s6.2 d c3).trans ((s5.2 d c4).trans ((s4.2 d c2).trans (k3 d o c1 c4 c5 e))))
 have f7:S1 (i+1) g7:=D1.frame _ _ _ f2 fun b hb o e=>(s7.2 b (nin2 hb (by ac_rfl) (by ac_rfl))).trans ((s6.2 b (nin2 hb (by ac_rfl) (by ac_rfl))).trans ((s5.2 b (nin2 hb (by ac_rfl) (by ac_rfl))).trans ((s4.2 b (nin2 hb (by ac_rfl) (by ac_rfl))).trans ((s3.2 b (nin2 hb (by ac_rfl) (by ac_rfl))).trans e))))
 have f7':S2 (i+1) g7:=D2.frame _ _ _ f4 fun b hb o e=>(s7.2 b (nin2 hb (by ac_rfl) (by ac_rfl))).trans ((s6.2 b (nin2 hb (by ac_rfl) (by ac_rfl))).trans ((s5.2 b (nin2 hb (by ac_rfl) (by ac_rfl))).trans e))
 have f7'':S3 (i+1) g7:=D3.frame _ _ _ f6 fun b hb o e=>(s7.2 b (nin2 hb (by ac_rfl) (by ac_rfl))).trans e
 refine wpAny_bind (wpAny_seqItems q7 rfl (wpAny_bind (wpAny_newTuple (?_:wpAny _ _ (Builtin.SmallTypes.ownedTupleHandOut (.ref (N+5)) (.ref g7.objs.size)>>=_) _ _ _))))
 refine wpAny_bind ?_
 unfold Builtin.SmallTypes.ownedTupleHandOut
 refine wpAny_bind (wpAny_setField_rec (show IsZip (g7.push {cls:= .type "tuple",data:= .seq #[x,y,z]}) (N+5) (N+3) (N+4) .ellipsis from Heap.get?_push_of_some _ z7) (by simp) fun g9 z9 s9=>?_)
 replace z9:IsZip g9 (N+5) (N+3) (N+4) (rawInt g7.objs.size):=z9
 refine wpAny_setField_rec z9 (by simp) fun g8 z8 s8=>wpAny_pure ⟨_,rfl,?_⟩
 replace z8:IsZip g8 (N+5) (N+3) (N+4) (rawInt g7.objs.size):=z8
 have up:∀c o,c≠N+5->g7.get? c=some o->g8.get? c=some o:=fun c o c1 e=>(s8.2 c c1).trans ((s9.2 c c1).trans (Heap.get?_push_of_some _ e))
 have T8:zdS g8 g7.objs.size x y z:=(s8.2 _ (ne_ (by ac_rfl))).trans ((s9.2 _ (ne_ (by ac_rfl))).trans (Heap.get?_push_size _ rfl))
 rw[sz]at z8 T8
 refine(?_:Q (.ref g7.objs.size) _)
 rw[sz]
 exact k x y z g8 _ p1 p2 p3 z8 (up _ _ (ne_ (by ac_rfl)) q7) (D1.frame _ _ _ f7 fun b hb o e=>up b o (nin2 hb (by ac_rfl) (by ac_rfl)) e) (D2.frame _ _ _ f7' fun b hb o e=>up b o (nin2 hb (by ac_rfl) (by ac_rfl)) e) (D3.frame _ _ _ f7'' fun b hb o e=>up b o (nin2 hb (by ac_rfl) (by ac_rfl)) e) T8 fun c o c1 c2 c3 c4 c5 e=>up c o c5 (k7 c o c1 c2 c3 c4 c5 e)
theorem zip3_end {a b c:Value}{Q:Fin->Shared->Prop}(D1:Draws prog w A N [N,a1] n1 P1 S1)(D2:Draws prog w A (N+1) [N+1,a2] n2 P2 S2)(D3:Draws prog w A (N+2) [N+2,a3] n3 P3 S3)(l1:a1<N)(l2:a2<N)(l3:a3<N)
  (hz:IsZip s.heap (N+5) (N+3) (N+4) .none) (hTI:zdS s.heap (N+3) (.ref N) (.ref (N+1)) (.ref (N+2))) (hTO:zdS s.heap (N+4) a b c) (h1:S1 i s.heap) (h2:S2 i s.heap) (h3:S3 i s.heap) (hi:i=n1\/(i<n1/\(i=n2\/(i<n2/\i=n3))))
  (k:∀h' e tk,(∀c o,c≠N->c≠N+1->c≠N+2->c≠N+4->c≠N+5->s.heap.get? c=some o->h'.get? c=some o)->(∃o,h'.get? e=some o/\o.cls= .type "StopIteration")->E (.ref e) {s with heap:=h',toks:=tk}):
  wpAny (model prog w) A (Builtin.«zip.__next__» ⟨[.ref (N+5)],[]⟩) Q E s:=by
 refine(?_:wpAny _ _ (field (.ref (N+5)) 2>>=_) _ _ _)
 refine wpAny_bind (wpAny_field hz rfl (x:= .bool false) rfl (?_:wpAny _ _ (field (.ref (N+5)) 3>>=_) _ _ _))
 refine wpAny_bind (wpAny_field hz rfl (x:= .ref (N+3)) rfl (wpAny_bind (wpAny_seqItems hTI rfl (?_:wpAny _ _ (Builtin.SmallTypes.ownedTupleIsFree (.ref (N+5))>>=_) _ _ _))))
 refine wpAny_bind ?_
 unfold Builtin.SmallTypes.ownedTupleIsFree
 refine wpAny_bind (wpAny_field hz rfl (x:= .none) rfl (wpAny_pure ?_))
 simp only[if_true]
 refine wpAny_bind (wpAny_rule (wpAny_bind (wpAny_field hz rfl (x:= .ref (N+4)) rfl (wpAny_bind (wpAny_setField_rec hz (by simp) fun g1 z1 s1=>wpAny_bind ?_)))))
 replace z1:IsZip g1 (N+5) (N+3) (N+4) .ellipsis:=z1
 simp only[List.zipIdx_cons,List.zipIdx_nil,List.forIn_cons,List.forIn_nil]
 refine wpAny_bind (wpAny_bind (wpAny_onRaise (?_:wpAny _ _ (Builtin.SmallTypes.nextOf (.ref N)>>=_) _ _ _)))
 have e1:S1 i g1:=D1.frame _ _ _ h1 fun b hb o e=>(s1.2 b (nin2 hb (by ac_rfl) (by ac_rfl))).trans e
 rcases hi with rfl|⟨i1,hi⟩
 ·refine wpAny_bind (D1.done _ _ _ e1 fun g2 e x2 he=>?_)
  obtain⟨oe,hoe,hce⟩:=he
  have z2:IsZip g2 (N+5) (N+3) (N+4) .ellipsis:=x2 _ _ (ne_ (by ac_rfl)) z1
  have hez:e≠N+5:=fun x=>by subst x;rw[z2]at hoe;cases hoe;simp at hce
  exact wpAny_setField_rec z2 (by simp) fun g3 _ s3=>k g3 e _ (fun c o c1 c2 c3 c4 c5 x=>(s3.2 c c5).trans (x2 c o c1 ((s1.2 c c5).trans x))) ⟨oe,(s3.2 _ hez).trans hoe,hce⟩
 refine wpAny_bind (D1.item i _ _ _ i1 e1 fun x g2 t2 p1 f2 s2=>wpAny_pure ?_)
 have q2:zdS g2 (N+4) a b c:=(s2.2 _ (ne_ (by ac_rfl))).trans ((s1.2 _ (ne_ (by ac_rfl))).trans hTO)
 refine wpAny_bind (wpAny_seqItems q2 rfl (wpAny_bind (ziZ q2 fun g3 q3 s3=>wpAny_bind (wpAny_letGo (wpAny_pure ?_)))))
 replace q3:zdS g3 (N+4) x b c:=q3
 have k3:∀d o,d≠N->d≠N+4->d≠N+5->s.heap.get? d=some o->g3.get? d=some o:=fun d o c1 c2 c3 e=>(s3.2 d c2).trans ((s2.2 d c1).trans ((s1.2 d c3).trans e))
 have z3:IsZip g3 (N+5) (N+3) (N+4) .ellipsis:=(s3.2 _ (ne_ (by ac_rfl))).trans ((s2.2 _ (ne_ (by ac_rfl))).trans z1)
 refine wpAny_bind (wpAny_bind (wpAny_onRaise (?_:wpAny _ _ (Builtin.SmallTypes.nextOf (.ref (N+1))>>=_) _ _ _)))
 have e3:S2 i g3:=D2.frame _ _ _ h2 fun b hb o e=>k3 b o (nin2 hb (by ac_rfl) (by ac_rfl)) (nin2 hb (by ac_rfl) (by ac_rfl)) (nin2 hb (by ac_rfl) (by ac_rfl)) e
 rcases hi with rfl|⟨i2,rfl⟩
 ·refine wpAny_bind (D2.done _ _ _ e3 fun g4 e x4 he=>?_)
  obtain⟨oe,hoe,hce⟩:=he
  have z4:IsZip g4 (N+5) (N+3) (N+4) .ellipsis:=x4 _ _ (ne_ (by ac_rfl)) z3
  have hez:e≠N+5:=fun x=>by subst x;rw[z4]at hoe;cases hoe;simp at hce
  exact wpAny_setField_rec z4 (by simp) fun g5 _ s5=>k g5 e _ (fun c o c1 c2 c3 c4 c5 x=>(s5.2 c c5).trans (x4 c o c2 (k3 c o c1 c4 c5 x))) ⟨oe,(s5.2 _ hez).trans hoe,hce⟩
 refine wpAny_bind (D2.item i _ _ _ i2 e3 fun y g4 t4 p2 f4 s4=>wpAny_pure ?_)
 have q4:zdS g4 (N+4) x b c:=(s4.2 _ (ne_ (by ac_rfl))).trans q3
 refine wpAny_bind (wpAny_seqItems q4 rfl (wpAny_bind (ziZ q4 fun g5 q5 s5=>wpAny_bind (wpAny_letGo (wpAny_pure ?_)))))
 have z5:IsZip g5 (N+5) (N+3) (N+4) .ellipsis:=(s5.2 _ (ne_ (by ac_rfl))).trans ((s4.2 _ (ne_ (by ac_rfl))).trans z3)
 refine wpAny_bind (wpAny_bind (wpAny_onRaise (?_:wpAny _ _ (Builtin.SmallTypes.nextOf (.ref (N+2))>>=_) _ _ _)))
 have e5:S3 i g5:=D3.frame _ _ _ h3 fun b hb o e=>(s5.2 b (nin2 hb (by ac_rfl) (by ac_rfl))).trans ((s4.2 b (nin2 hb (by ac_rfl) (by ac_rfl))).trans (k3 b o (nin2 hb (by ac_rfl) (by ac_rfl)) (nin2 hb (by ac_rfl) (by ac_rfl)) (nin2 hb (by ac_rfl) (by ac_rfl)) e))
 refine wpAny_bind (D3.done _ _ _ e5 fun g6 e x6 he=>?_)
 obtain⟨oe,hoe,hce⟩:=he
 have z6:IsZip g6 (N+5) (N+3) (N+4) .ellipsis:=x6 _ _ (ne_ (by ac_rfl)) z5
 have hez:e≠N+5:=fun x=>by subst x;rw[z6]at hoe;cases hoe;simp at hce
 exact wpAny_setField_rec z6 (by simp) fun g7 _ s7=>k g7 e _ (fun c o c1 c2 c3 c4 c5 x=>(s7.2 c c5).trans (x6 c o c3 ((s5.2 c c4).trans ((s4.2 c c2).trans (k3 c o c1 c4 c5 x))))) ⟨oe,(s7.2 _ hez).trans hoe,hce⟩
end
end
noncomputable abbrev tup_ (vs:Array Value):Obj:={cls:= .type "tuple",data:= .seq vs}
noncomputable abbrev zip_ (ti to:Addr):Obj:={cls:= .type "zip",data:= .fields #[.none,.bool false,.bool false,.ref ti,.ref to]}
noncomputable abbrev z2a (h:Heap)(t1 t2:Bool)(l1 l2:Addr):Heap:=(h.push (srcO t1 l1)).push (srcO t2 l2)
noncomputable abbrev z2b (h:Heap)(t1 t2:Bool)(l1 l2:Addr):Heap:=(z2a h t1 t2 l1 l2).push (tup_ #[.ref h.objs.size,.ref (h.push (srcO t1 l1)).objs.size])
noncomputable abbrev z2c (h:Heap)(t1 t2:Bool)(l1 l2:Addr):Heap:=(z2b h t1 t2 l1 l2).push (tup_ #[.none,.none])
noncomputable abbrev z2d (h:Heap)(t1 t2:Bool)(l1 l2:Addr):Heap:=(z2c h t1 t2 l1 l2).push (zip_ (z2a h t1 t2 l1 l2).objs.size (z2b h t1 t2 l1 l2).objs.size)
theorem znl (t1 t2:Bool)(l1 l2:Addr)(xs ys:Array Value):Meets (Builtin.«zip.__new__» ⟨[.type "zip",.ref l1,.ref l2],[]⟩) (fun _ R s=>SrcH t1 s.heap l1 xs/\SrcH t2 s.heap l2 ys/\
   R (.ok (.ret (.ref (z2c s.heap t1 t2 l1 l2).objs.size))) {s with heap:=z2d s.heap t1 t2 l1 l2}):=
 .of_wp fun prog w A R s h=>by
  obtain⟨hp,g,d,tk,os⟩:=s
  obtain⟨b1,b2,h⟩:=h
  have hsub:=sub_zip
  have L1:SrcH t1 (Shared.heap ⟨hp,g,d,tk,os⟩) l1 xs:=b1
  have L2:SrcH t2 (Shared.heap ⟨hp.push (srcO t1 l1),g,d,tk,os⟩) l2 ys:=SrcH.at b2 fun o e=>Heap.get?_push_of_some _ e
  wp_walk using zcx L1,zcx L2
  exact⟨_,rfl,h⟩
noncomputable abbrev z3a (h:Heap)(t1 t2 t3:Bool)(l1 l2 l3:Addr):Heap:=((h.push (srcO t1 l1)).push (srcO t2 l2)).push (srcO t3 l3)
noncomputable abbrev z3b (h:Heap)(t1 t2 t3:Bool)(l1 l2 l3:Addr):Heap:=(z3a h t1 t2 t3 l1 l2 l3).push (tup_ #[.ref h.objs.size,.ref (h.push (srcO t1 l1)).objs.size,.ref ((h.push (srcO t1 l1)).push (srcO t2 l2)).objs.size])
noncomputable abbrev z3c (h:Heap)(t1 t2 t3:Bool)(l1 l2 l3:Addr):Heap:=(z3b h t1 t2 t3 l1 l2 l3).push (tup_ #[.none,.none,.none])
noncomputable abbrev z3d (h:Heap)(t1 t2 t3:Bool)(l1 l2 l3:Addr):Heap:=(z3c h t1 t2 t3 l1 l2 l3).push (zip_ (z3a h t1 t2 t3 l1 l2 l3).objs.size (z3b h t1 t2 t3 l1 l2 l3).objs.size)
set_option maxHeartbeats 4000000 in
theorem zna (t1 t2 t3:Bool)(l1 l2 l3:Addr)(xs ys zs:Array Value):Meets (Builtin.«zip.__new__» ⟨[.type "zip",.ref l1,.ref l2,.ref l3],[]⟩) (fun _ R s=>SrcH t1 s.heap l1 xs/\SrcH t2 s.heap l2 ys/\SrcH t3 s.heap l3 zs/\
   R (.ok (.ret (.ref (z3c s.heap t1 t2 t3 l1 l2 l3).objs.size))) {s with heap:=z3d s.heap t1 t2 t3 l1 l2 l3}):=
 .of_wp fun prog w A R s h=>by
  obtain⟨hp,g,d,tk,os⟩:=s
  obtain⟨b1,b2,b3,h⟩:=h
  have hsub:=sub_zip
  have L1:SrcH t1 (Shared.heap ⟨hp,g,d,tk,os⟩) l1 xs:=b1
  have L2:SrcH t2 (Shared.heap ⟨hp.push (srcO t1 l1),g,d,tk,os⟩) l2 ys:=SrcH.at b2 fun o e=>Heap.get?_push_of_some _ e
  have L3:SrcH t3 (Shared.heap ⟨(hp.push (srcO t1 l1)).push (srcO t2 l2),g,d,tk,os⟩) l3 zs:=SrcH.at b3 fun o e=>Heap.get?_push_of_some _ (Heap.get?_push_of_some _ e)
  wp_walk using zcx L1,zcx L2,zcx L3
  exact⟨_,rfl,h⟩
theorem zkc (a b c:Value):checkTypeCall "zip" ⟨[a,b,c],[]⟩=pure ():=by kernel_rfl
theorem zkO (a b c:Value):checkBuiltinCall "zip.__new__" ⟨[.type "zip",a,b,c],[]⟩=pure ():=by kernel_rfl
theorem zm2 (a b c d:Value):argsOk "object.__init__" ⟨[a,b,c,d],[]⟩:=by
 unfold argsOk;rw[signature?_of (id:="object.__init__") (n:=['_','_','t','i','n','i','_','_']) (o:=['t','c','e','j','b','o']) (by kernel_rfl) F.owner_object];kernel_rfl
section
variable {prog:Program} {w:World} {A:Around} {E:Value->Shared->Prop} {s:Shared}
theorem zos {t1 t2:Bool}{l1 l2:Addr}(h1:SrcH t1 s.heap l1 xs)(h2:SrcH t2 s.heap l2 ys)
  (k : ∀ h', IsZip h' (s.heap.objs.size + 4) (s.heap.objs.size + 2) (s.heap.objs.size + 3) .none -> IsPair h' (s.heap.objs.size + 2) (.ref s.heap.objs.size) (.ref (s.heap.objs.size + 1)) ->
   IsPair h' (s.heap.objs.size+3) .none .none->SrcIt t1 h' s.heap.objs.size l1 0->SrcIt t2 h' (s.heap.objs.size+1) l2 0->
   (∀c o,s.heap.get? c=some o->h'.get? c=some o)->Q (.ref (s.heap.objs.size+4)) {s with heap:=h'}):wpAny (model prog w) A (call (.type "zip") [.ref l1,.ref l2]) Q E s:=by
 refine callType_new F.called_zip (by decide) (F.typeCall_zip_2 _ _) (F.newCall_zip_2 _ _) (fun obj=>F.args_object_init_3 obj _ _) F.entry_zip_new (znl t1 t2 l1 l2 xs ys) ⟨h1,h2,(?_:_/\_)⟩
 have y1:(s.heap.push (srcO t1 l1)).objs.size=s.heap.objs.size+1:=Heap.size_push ..
 have y2:(z2a s.heap t1 t2 l1 l2).objs.size=s.heap.objs.size+2:=by rw[Heap.size_push,y1]
 have y3:(z2b s.heap t1 t2 l1 l2).objs.size=s.heap.objs.size+3:=by rw[Heap.size_push,y2]
 have y4:(z2c s.heap t1 t2 l1 l2).objs.size=s.heap.objs.size+4:=by rw[Heap.size_push,y3]
 have g5:(z2d s.heap t1 t2 l1 l2).get? (z2c s.heap t1 t2 l1 l2).objs.size=some _:=Heap.get?_push_size _ rfl
 have g4:(z2d s.heap t1 t2 l1 l2).get? (z2b s.heap t1 t2 l1 l2).objs.size=some _:=Heap.get?_push_of_some _ (Heap.get?_push_size _ rfl)
 have g3:(z2d s.heap t1 t2 l1 l2).get? (z2a s.heap t1 t2 l1 l2).objs.size=some _:=Heap.get?_push_of_some _ (Heap.get?_push_of_some _ (Heap.get?_push_size _ rfl))
 have g2:(z2d s.heap t1 t2 l1 l2).get? (s.heap.push (srcO t1 l1)).objs.size=some (srcO t2 l2):=Heap.get?_push_of_some _ (Heap.get?_push_of_some _ (Heap.get?_push_of_some _ (Heap.get?_push_size _ (zeh ..))))
 have g1:(z2d s.heap t1 t2 l1 l2).get? s.heap.objs.size=some (srcO t1 l1):=Heap.get?_push_of_some _ (Heap.get?_push_of_some _ (Heap.get?_push_of_some _ (Heap.get?_push_of_some _ (Heap.get?_push_size _ (zeh ..)))))
 rw[y2,y3,y4]at g5
 rw[y1,y2]at g3
 rw[y3]at g4
 rw[y1]at g2
 rw[y4]
 exact⟨⟨_,g5,rfl⟩,k _ g5 g3 g4 (zhL g1) (zhL g2) fun c o x=>Heap.get?_push_of_some _ (Heap.get?_push_of_some _ (Heap.get?_push_of_some _ (Heap.get?_push_of_some _ (Heap.get?_push_of_some _ x))))⟩
theorem zox {t1 t2 t3:Bool}{l1 l2 l3:Addr}{xs ys zs:Array Value}(h1:SrcH t1 s.heap l1 xs)(h2:SrcH t2 s.heap l2 ys)(h3:SrcH t3 s.heap l3 zs)
  (k : ∀ h', IsZip h' (s.heap.objs.size + 5) (s.heap.objs.size + 3) (s.heap.objs.size + 4) .none -> zdS h' (s.heap.objs.size + 3) (.ref s.heap.objs.size) (.ref (s.heap.objs.size + 1)) (.ref (s.heap.objs.size + 2)) ->
   zdS h' (s.heap.objs.size+4) .none .none .none->SrcIt t1 h' s.heap.objs.size l1 0->SrcIt t2 h' (s.heap.objs.size+1) l2 0->SrcIt t3 h' (s.heap.objs.size+2) l3 0->
   (∀c o,s.heap.get? c=some o->h'.get? c=some o)->Q (.ref (s.heap.objs.size+5)) {s with heap:=h'}):wpAny (model prog w) A (call (.type "zip") [.ref l1,.ref l2,.ref l3]) Q E s:=by
 refine callType_new F.called_zip (by decide) (zkc _ _ _) (zkO _ _ _) (fun obj=>zm2 obj _ _ _) F.entry_zip_new (zna t1 t2 t3 l1 l2 l3 xs ys zs) ⟨h1,h2,h3,(?_:_/\_)⟩
 have y1:(s.heap.push (srcO t1 l1)).objs.size=s.heap.objs.size+1:=Heap.size_push ..
 have y2:((s.heap.push (srcO t1 l1)).push (srcO t2 l2)).objs.size=s.heap.objs.size+2:=by rw[Heap.size_push,y1]
 have y3:(z3a s.heap t1 t2 t3 l1 l2 l3).objs.size=s.heap.objs.size+3:=by rw[Heap.size_push,y2]
 have y4:(z3b s.heap t1 t2 t3 l1 l2 l3).objs.size=s.heap.objs.size+4:=by rw[Heap.size_push,y3]
 have y5:(z3c s.heap t1 t2 t3 l1 l2 l3).objs.size=s.heap.objs.size+5:=by rw[Heap.size_push,y4]
 have g6:(z3d s.heap t1 t2 t3 l1 l2 l3).get? (z3c s.heap t1 t2 t3 l1 l2 l3).objs.size=some _:=Heap.get?_push_size _ rfl
 have g5:(z3d s.heap t1 t2 t3 l1 l2 l3).get? (z3b s.heap t1 t2 t3 l1 l2 l3).objs.size=some _:=Heap.get?_push_of_some _ (Heap.get?_push_size _ rfl)
 have g4:(z3d s.heap t1 t2 t3 l1 l2 l3).get? (z3a s.heap t1 t2 t3 l1 l2 l3).objs.size=some _:=Heap.get?_push_of_some _ (Heap.get?_push_of_some _ (Heap.get?_push_size _ rfl))
 have g3:(z3d s.heap t1 t2 t3 l1 l2 l3).get? ((s.heap.push (srcO t1 l1)).push (srcO t2 l2)).objs.size=some (srcO t3 l3):=Heap.get?_push_of_some _ (Heap.get?_push_of_some _ (Heap.get?_push_of_some _ (Heap.get?_push_size _ (zeh ..))))
 have g2:(z3d s.heap t1 t2 t3 l1 l2 l3).get? (s.heap.push (srcO t1 l1)).objs.size=some (srcO t2 l2):=Heap.get?_push_of_some _ (Heap.get?_push_of_some _ (Heap.get?_push_of_some _ (Heap.get?_push_of_some _ (Heap.get?_push_size _ (zeh ..)))))
 have g1:(z3d s.heap t1 t2 t3 l1 l2 l3).get? s.heap.objs.size=some (srcO t1 l1):=Heap.get?_push_of_some _ (Heap.get?_push_of_some _ (Heap.get?_push_of_some _ (Heap.get?_push_of_some _ (Heap.get?_push_of_some _ (Heap.get?_push_size _ (zeh ..))))))
 rw[y3,y4,y5]at g6
 rw[y1,y2,y3]at g4
 rw[y4]at g5
 rw[y2]at g3
 rw[y1]at g2
 rw[y5]
 exact⟨⟨_,g6,rfl⟩,k _ g6 g4 g5 (zhL g1) (zhL g2) (zhL g3) fun c o x=>Heap.get?_push_of_some _ (Heap.get?_push_of_some _ (Heap.get?_push_of_some _ (Heap.get?_push_of_some _ (Heap.get?_push_of_some _ (Heap.get?_push_of_some _ x)))))⟩
noncomputable abbrev en_ (it:Addr):Obj:={cls:= .type "enumerate",data:= .fields #[.none,.bool false,.ref it,rawInt 0,.none,.none]}
theorem znw (t:Bool)(l:Addr)(o:Obj)(xs:Array Value):Meets (Builtin.«enumerate.__new__» ⟨[.type "enumerate",.ref l],[]⟩) (fun _ R s=>s.heap.get? l=some o/\SrcH t s.heap l xs/\
   R (.ok (.ret (.ref (s.heap.push (srcO t l)).objs.size))) {s with heap:=(s.heap.push (srcO t l)).push (en_ s.heap.objs.size)}):=
 .of_wp fun prog w A R s h=>by
  obtain⟨hp,g,d,tk,os⟩:=s
  obtain⟨hl,b,h⟩:=h
  have hsub:=sub_enumerate
  have hL:SrcH t (Shared.heap ⟨hp,g,d,tk,os⟩) l xs:=b
  wp_walk using AutoSeq1.wpAny_loadPart' hl
  refine wpAny_stack_any fun st=>wpAny_pure ?_
  split
  ·rename_i c _ _ _ _ _
   cases(c==Value.type "enumerate")<;>(wp_walk using AutoSeq1.wpAny_loadPart' hl,zcx hL;exact⟨_,rfl,h⟩)
  ·wp_walk using AutoSeq1.wpAny_loadPart' hl,zcx hL
   exact⟨_,rfl,h⟩
theorem zn5 (h1:SrcH t s.heap l xs)
  (k:∀h',IsEnum h' (s.heap.objs.size+1) s.heap.objs.size 0 .none->SrcIt t h' s.heap.objs.size l 0->(∀b o,s.heap.get? b=some o->h'.get? b=some o)->Q (.ref (s.heap.objs.size+1)) {s with heap:=h'}):
  wpAny (model prog w) A (call (.type "enumerate") [.ref l]) Q E s:=by
 have⟨o,ho⟩:∃o,s.heap.get? l=some o:=by cases t<;>(obtain⟨o,e,-⟩:=h1;exact⟨o,e⟩)
 refine callType_new F.called_enumerate (by decide) (F.typeCall_enumerate_1 _) (F.newCall_enumerate_1 _) (fun obj=>F.args_object_init_2 obj _) F.entry_enumerate_new (znw t l o xs) ⟨ho,h1,(?_:_/\_)⟩
 have y1:(s.heap.push (srcO t l)).objs.size=s.heap.objs.size+1:=Heap.size_push ..
 have g2:((s.heap.push (srcO t l)).push (en_ s.heap.objs.size)).get? (s.heap.push (srcO t l)).objs.size=some _:=Heap.get?_push_size _ rfl
 have g1:((s.heap.push (srcO t l)).push (en_ s.heap.objs.size)).get? s.heap.objs.size=some (srcO t l):=Heap.get?_push_of_some _ (Heap.get?_push_size _ (zeh ..))
 rw[y1]at g2
 rw[y1]
 exact⟨⟨_,g2,rfl⟩,k _ g2 (zhL g1) fun b o x=>Heap.get?_push_of_some _ (Heap.get?_push_of_some _ x)⟩
end
end M
namespace M
local macro_rules | `(tactic| ac_rfl) => `(tactic| first | exact M.nA (by decide) | exact M.nB (by decide) | exact M.nC (by decide) | exact M.nL (by assumption) | exact Nat.ne_of_lt (by assumption) | lia)
open L2 PySem PySem.Spec
open PyProof.Rows hiding St
open Sem (wp)
variable {t' ek:Nat} {h':Heap} {fp:List Addr} {vs xs:List V} {its:List Value} {t:Bool} {X:Cx} {pins:List (Addr×Obj)} {σ:St} {H:Hp} {s:Shared} {a:Expr} {K:W.Frag} {elts:List Expr} {ep p pos:Pos} {ta:TA} {es:List D} {ma:MA}
section
variable {X:Cx} {pins:List (Addr×Obj)} {σ:St} {H:Hp} {s:Shared}
theorem zjE (I:Inv X pins σ H s)(k:∀b o,b∉fp->s.heap.get? b=some o->h'.get? b=some o)(hf:∀b∈fp,FpOk X pins H b):Inv X pins σ H {s with heap:=h',toks:=t'}:=by
 have nit:∀b u,H b=some u->b∉fp:=fun b u e z=>by rw[(hf b z).1]at e;cases e
 refine I.step (g':=s.gens) (d':=s.drawn) (ch:=fp) (fun b hb=>?_) (fun b o _ _ hc e _=>k b o hc e) (fun b o _ _ hc e _=>⟨o.slots,k b o hc e⟩) (fun _ _ _ _ n=>n)
  (fun b o hc e=>⟨o,k b o hc e⟩) (fun _ _ e=>e) (fun _ _ _ e=>e) (fun b ps e=>⟨#[],by rw[e];simp⟩) (fun m hm=>?_) (fun b u e=>?_) I.bare
 ·obtain⟨f0,f1,f2,f3,f4,f5⟩:=hf b hb
  exact⟨f3,f1,f4,f5⟩
 ·obtain⟨o,es,ep,ho,r⟩:=hm
  exact⟨o,es,ep,k _ o (fun z=>(hf _ z).2.1 rfl) ho,r⟩
 ·refine(I.hok b u e).stay (fun c v hc q=>k c v ?_ q) (fun _ q=>q) fun _ _ q=>q
  rcases hc with z|z
  ·rw[z];exact nit b u e
  ·exact nit c _ z
theorem zlX {t':Nat}{h':Heap}{fp:List Addr}(I:Inv X pins σ H s)(k:∀b o,b∉fp->s.heap.get? b=some o->h'.get? b=some o)(hf:∀b∈fp,FpOk X pins H b)(hl:∀b∈fp,b<s.heap.objs.size)
  (hT:h'.get? s.heap.objs.size=some (tup_ its.toArray)) (hz:vs.length<=sizeLine) (r:Vals vs its):Inv X pins σ (upd H s.heap.objs.size (.tup vs)) {s with heap:=h',toks:=t'}:=by
 have I1:=I.laid (t':=s.toks) (a:=s.heap.objs.size) (o:= .tup vs) (h':=s.heap.push (tup_ its.toArray)) (fun b u q=>Heap.get?_push_of_some _ q) (Nat.le_refl _) ⟨hz,its,r,IsTup.new _ _⟩
 refine zjE (s:={s with heap:=s.heap.push (tup_ its.toArray),toks:=s.toks}) (t':=t') (fp:=fp) I1 (fun b o hb e=>?_) fun b hb=>?_
 ·have e':(s.heap.push (tup_ its.toArray)).get? b=some o:=e
  rcases Heap.get?_push_cases e' with⟨rfl,rfl⟩|q
  ·exact hT
  ·exact k b o hb q
 ·obtain⟨f0,fr⟩:=hf b hb
  refine⟨?_,fr⟩
  rw[zau (Nat.ne_of_lt (hl b hb))]
  exact f0
end
noncomputable def SrcSq (t:Bool)(K:W.Frag)(H:Hp)(a:Addr)(xs:List V):Prop:=match t with
 |true=>SqT K H a xs
 |false=>SqL K H a xs
theorem SrcSq.heap {a:Addr}(I:Inv X pins σ H s)(h:SrcSq t X.K H a xs):∃its:List Value,Vals xs its/\SrcH t s.heap a its.toArray/\xs.length<=sizeLine:=by
 cases t
 ·obtain⟨its,r,p,z⟩:=I.list h
  exact⟨its,r,p.isList,z⟩
 ·obtain⟨its,r,p,z⟩:=I.tuple h
  exact⟨its,r,p,z⟩
theorem SrcSq.inj {a:Addr}{xs ys:List V}(I:Inv X pins σ H s)(h:SrcSq t X.K H a xs)(h':SrcSq t X.K H a ys):xs=ys:=by
 cases t
 ·exact I.list_inj h h'
 ·exact I.tuple_inj h h'
noncomputable def Itz2 (K:W.Frag)(t1:Bool)(a1:Addr)(t2:Bool)(a2:Addr)(n:Nat):It where
 go:=fun i H=>i<n/\∃xs ys,SrcSq t1 K H a1 xs/\SrcSq t2 K H a2 ys/\n=min xs.length ys.length
 yld:=fun i H x H'=>∃p x1 x2,H p=none/\H'=upd H p (.tup [x1,x2])/\x= .ref p/\∀xs ys,SrcSq t1 K H a1 xs->SrcSq t2 K H a2 ys->xs[i]? =some x1/\ys[i]? =some x2
 stop:=fun i H=>n<=i/\∃xs ys,SrcSq t1 K H a1 xs/\SrcSq t2 K H a2 ys/\n=min xs.length ys.length
theorem nin4 {c N:Nat}(h:c∉([N,N+1,N+2,N+3,N+4]:List Nat)):c≠N/\c≠N+1/\c≠N+3/\c≠N+4:=
 ⟨fun e=>h (e ▸ .head _),fun e=>h (e ▸ .tail _ (.head _)),fun e=>h (e ▸ .tail _ (.tail _ (.tail _ (.head _)))),fun e=>h (e ▸ .tail _ (.tail _ (.tail _ (.tail _ (.head _)))))⟩
theorem nin5 {c N:Nat}(h:c∉([N,N+1,N+2,N+3,N+4,N+5]:List Nat)):c≠N/\c≠N+1/\c≠N+2/\c≠N+4/\c≠N+5:=
 ⟨fun e=>h (e ▸ .head _),fun e=>h (e ▸ .tail _ (.head _)),fun e=>h (e ▸ .tail _ (.tail _ (.head _))),fun e=>h (e ▸ .tail _ (.tail _ (.tail _ (.tail _ (.head _))))),fun e=>h (e ▸ .tail _ (.tail _ (.tail _ (.tail _ (.tail _ (.head _))))))⟩
noncomputable def Itz3 (K:W.Frag)(t1:Bool)(a1:Addr)(t2:Bool)(a2:Addr)(t3:Bool)(a3:Addr)(n:Nat):It where
 go:=fun i H=>i<n/\∃xs ys zs,SrcSq t1 K H a1 xs/\SrcSq t2 K H a2 ys/\SrcSq t3 K H a3 zs/\n=min xs.length (min ys.length zs.length)
 yld:=fun i H x H'=>∃p x1 x2 x3,H p=none/\H'=upd H p (.tup [x1,x2,x3])/\x= .ref p/\∀xs ys zs,SrcSq t1 K H a1 xs->SrcSq t2 K H a2 ys->SrcSq t3 K H a3 zs->xs[i]? =some x1/\ys[i]? =some x2/\zs[i]? =some x3
 stop:=fun i H=>n<=i/\∃xs ys zs,SrcSq t1 K H a1 xs/\SrcSq t2 K H a2 ys/\SrcSq t3 K H a3 zs/\n=min xs.length (min ys.length zs.length)
theorem zo6 {P:Program}{w:World}(t1:Bool)(a1:Nat)(t2:Bool)(a2:Nat)(t3:Bool)(a3:Nat)(n N:Nat)(l1:a1<N)(l2:a2<N)(l3:a3<N):
  Turn P w K (.Tuple elts ek ep) (Itz3 K t1 a1 t2 a2 t3 a3 n) ([N,N+1,N+2,N+3,N+4,N+5]:List Nat) (N+5:Nat)
   (fun i h=>i<=n/\IsZip h (N+5:Nat) (N+3:Nat) (N+4:Nat) .none/\zdS h (N+3:Nat) (.ref N) (.ref (N+1:Nat)) (.ref (N+2:Nat))/\(∃a b c,zdS h (N+4:Nat) a b c)/\SrcIt t1 h N a1 i/\SrcIt t2 h (N+1:Nat) a2 i/\SrcIt t3 h (N+2:Nat) a3 i) where
 mem:=by simp
 obj:=fun i h st b hb=>by
  obtain⟨-,h5,h3,⟨a,c,d,h4⟩,h0,h1,h2⟩:=st
  simp only[List.mem_cons,List.not_mem_nil,or_false]at hb
  rcases hb with rfl|rfl|rfl|rfl|rfl|rfl
  ·exact h0.obj
  ·exact h1.obj
  ·exact h2.obj
  ·exact⟨_,h3,fun v z=>by cases z⟩
  ·exact⟨_,h4,fun v z=>by cases z⟩
  ·exact⟨_,h5,fun v z=>by cases z⟩
 keep:=fun i h h' st k=>by
  obtain⟨hi,h5,h3,⟨a,c,d,h4⟩,h0,h1,h2⟩:=st
  exact⟨hi,k _ (by simp) _ h5,k _ (by simp) _ h3,⟨a,c,d,k _ (by simp) _ h4⟩,h0.at fun o e=>k _ (by simp) o e,h1.at fun o e=>k _ (by simp) o e,h2.at fun o e=>k _ (by simp) o e⟩
 item:=by
  intro X hP hw hK hc i pins s σ H E I hf st hg
  subst hP hw hK
  obtain⟨hi,h5,h3,⟨a,c,d,h4⟩,h0,h1,h2⟩:=st
  obtain⟨hn,xs,ys,zs,q1,q2,q3,en⟩:=hg
  obtain⟨us,ru,hu,zu⟩:=q1.heap I
  obtain⟨ws,rw',hw',zw⟩:=q2.heap I
  obtain⟨os,ro,ho',zo⟩:=q3.heap I
  have lu:=ru.length
  have lw:=rw'.length
  have lo:=ro.length
  have D1:=zbj (prog:=X.prog) (w:=X.w) (A:=X.A.in1) (t:=t1) (I.ok.hd hc) N a1 (ne_ (by ac_rfl)) us.toArray
  have D2:=zbj (prog:=X.prog) (w:=X.w) (A:=X.A.in1) (t:=t2) (I.ok.hd hc) (N+1) a2 (ne_ (by ac_rfl)) ws.toArray
  have D3:=zbj (prog:=X.prog) (w:=X.w) (A:=X.A.in1) (t:=t3) (I.ok.hd hc) (N+2) a3 (ne_ (by ac_rfl)) os.toArray
  have hT:s.TypeIs (.ref (N+5:Nat)) "zip":=⟨_,h5,rfl⟩
  unfold pyNext
  refine wpAny_bind (wpAny_attempt (wpAny_callSpecial?_slot (name:=Str.ofString "__next__") hT F.slot_zip_next (wpAny_call_entry F.slot_zip_next hT F.entry_zip_next
   (zo5 D1 D2 D3 l1 l2 l3 h5 h3 h4 ⟨h0,hu⟩ ⟨h1,hw'⟩ ⟨h2,ho'⟩ (by simp;lia) (by simp;lia) (by simp;lia) fun x y z h' tk p1 p2 p3 g5 g4 g0 g1 g2 gT kk=>wpAny_pure ?_) (F.args_zip_next_1 _))))
  obtain⟨x1,hx1⟩:∃x1,xs[i]? =some x1:=⟨xs[i]'(by lia),List.getElem?_eq_getElem _⟩
  obtain⟨x2,hx2⟩:∃x2,ys[i]? =some x2:=⟨ys[i]'(by lia),List.getElem?_eq_getElem _⟩
  obtain⟨x3,hx3⟩:∃x3,zs[i]? =some x3:=⟨zs[i]'(by lia),List.getElem?_eq_getElem _⟩
  obtain⟨u1,hu1,r1⟩:=ru.get hx1
  obtain⟨u2,hu2,r2⟩:=rw'.get hx2
  obtain⟨u3,hu3,r3⟩:=ro.get hx3
  have e1:u1=x:=by
   have:us[i]? =some x:=by simpa using p1
   rw[hu1]at this;cases this;rfl
  have e2:u2=y:=by
   have:ws[i]? =some y:=by simpa using p2
   rw[hu2]at this;cases this;rfl
  have e3:u3=z:=by
   have:os[i]? =some z:=by simpa using p3
   rw[hu3]at this;cases this;rfl
  subst e1 e2 e3
  refine⟨_,rfl,wpAny_letOwnedTupleGo_zip (s:={s with heap:=h',toks:=tk}) g5 fun h'' g5' sb=>?_⟩
  replace sb:Heap.SameBut (N+5:Nat) h' h'':=sb
  have lz:N+5<s.heap.objs.size:=Heap.lt_size h5
  have kk':∀b o,b∉([N,N+1,N+2,N+3,N+4,N+5]:List Nat)->s.heap.get? b=some o->h''.get? b=some o:=fun b o hb e=>by
   obtain⟨c1,c2,c3,c4,c5⟩:=nin5 hb
   exact(sb.2 b c5).trans (kk b o c1 c2 c3 c4 c5 e)
  have I1:=zlX (t':=tk) (vs:=[x1,x2,x3]) (its:=[u1,u2,u3]) I kk' hf (fun b hb=>by
   have:b=N\/b=N+1\/b=N+2\/b=N+3\/b=N+4\/b=N+5:=by simpa using hb
   exact Nat.lt_of_le_of_lt (show(b:Nat)<=N+5 by rcases this with h|h|h|h|h|h<;>rw[h]<;>simp) lz) ((sb.2 _ (ne_ (by ac_rfl))).trans gT) (by simp;rw[sizeLine_eq];decide) (.cons r1 (.cons r2 (.cons r3 .nil)))
  refine⟨.ref s.heap.objs.size,_,I1,rfl,⟨_,x1,x2,x3,I.hok.fresh (Nat.le_refl _),rfl,rfl,fun xs' ys' zs' b1 b2 b3=>?_⟩,⟨hn,g5',(sb.2 _ (ne_ (by ac_rfl))).trans (kk _ _ (ne_ (by ac_rfl)) (ne_ (by ac_rfl)) (ne_ (by ac_rfl)) (ne_ (by ac_rfl)) (ne_ (by ac_rfl)) h3),⟨_,_,_,(sb.2 _ (ne_ (by ac_rfl))).trans g4⟩,SrcIt.at g0.1 fun o e=>(sb.2 _ (ne_ (by ac_rfl))).trans e,SrcIt.at g1.1 fun o e=>(sb.2 _ (ne_ (by ac_rfl))).trans e,SrcIt.at g2.1 fun o e=>(sb.2 _ (ne_ (by ac_rfl))).trans e⟩,fun b hb=>?_⟩
  ·rw[SrcSq.inj I b1 q1,SrcSq.inj I b2 q2,SrcSq.inj I b3 q3]
   exact⟨hx1,hx2,hx3⟩
  ·have:b=N\/b=N+1\/b=N+2\/b=N+3\/b=N+4\/b=N+5:=by simpa using hb
   rw[zau (Nat.ne_of_lt (Nat.lt_of_le_of_lt (show(b:Nat)<=N+5 by rcases this with h|h|h|h|h|h<;>rw[h]<;>simp) lz))]
   exact(hf b hb).1
 done:=by
  intro X hP hw hK hc i pins s σ H E I hf st hg
  subst hP hw hK
  obtain⟨hi,h5,h3,⟨a,c,d,h4⟩,h0,h1,h2⟩:=st
  obtain⟨hn,xs,ys,zs,q1,q2,q3,en⟩:=hg
  obtain⟨us,ru,hu,zu⟩:=q1.heap I
  obtain⟨ws,rw',hw',zw⟩:=q2.heap I
  obtain⟨os,ro,ho',zo⟩:=q3.heap I
  have lu:=ru.length
  have lw:=rw'.length
  have lo:=ro.length
  have D1:=zbj (prog:=X.prog) (w:=X.w) (A:=X.A.in1) (t:=t1) (I.ok.hd hc) N a1 (ne_ (by ac_rfl)) us.toArray
  have D2:=zbj (prog:=X.prog) (w:=X.w) (A:=X.A.in1) (t:=t2) (I.ok.hd hc) (N+1) a2 (ne_ (by ac_rfl)) ws.toArray
  have D3:=zbj (prog:=X.prog) (w:=X.w) (A:=X.A.in1) (t:=t3) (I.ok.hd hc) (N+2) a3 (ne_ (by ac_rfl)) os.toArray
  have hT:s.TypeIs (.ref (N+5:Nat)) "zip":=⟨_,h5,rfl⟩
  unfold pyNext
  refine wpAny_bind (wpAny_attempt (wpAny_callSpecial?_slot (name:=Str.ofString "__next__") hT F.slot_zip_next (wpAny_call_entry F.slot_zip_next hT F.entry_zip_next
   (zip3_end D1 D2 D3 l1 l2 l3 h5 h3 h4 ⟨h0,hu⟩ ⟨h1,hw'⟩ ⟨h2,ho'⟩ (by simp;lia) fun h' e tk kk he=>?_) (F.args_zip_next_1 _))))
  obtain⟨o,ho,hce⟩:=he
  refine wpAny_bind (wpAny_isInstance (T:="StopIteration") (b:=true) ⟨o,ho,hce⟩ isSubtype_stop (wpAny_pure ⟨rfl,zjE I (fun b o hb e=>?_) hf⟩))
  obtain⟨c1,c2,c3,c4,c5⟩:=nin5 hb
  exact kk b o c1 c2 c3 c4 c5 e
 self:=fun _ _ _ _ _ st h=>wpAny_pyIter_zip st.2.1 h
noncomputable def Ite (K:W.Frag)(t1:Bool)(a1:Addr)(n:Nat):It where
 go:=fun i H=>i<n/\∃xs,SrcSq t1 K H a1 xs/\n=xs.length
 yld:=fun i H x H'=>∃p x1,H p=none/\H'=upd H p (.tup [.int i,x1])/\x= .ref p/\∀xs,SrcSq t1 K H a1 xs->xs[i]? =some x1
 stop:=fun i H=>n<=i/\∃xs,SrcSq t1 K H a1 xs/\n=xs.length
theorem zn7 {P:Program}{w:World}(t1:Bool)(a1:Nat)(n N:Nat)(l1:a1<N):
  Turn P w K (.Tuple elts ek ep) (Ite K t1 a1 n) ([N+1,N]:List Nat) (N+1:Nat) (fun i h=>i<=n/\(∃old,IsEnum h (N+1:Nat) N i old)/\SrcIt t1 h N a1 i) where
 mem:=by simp
 obj:=fun i h st b hb=>by
  obtain⟨-,⟨old,h1⟩,h0⟩:=st
  simp only[List.mem_cons,List.not_mem_nil,or_false]at hb
  rcases hb with rfl|rfl
  ·exact⟨_,h1,fun v z=>by cases z⟩
  ·exact h0.obj
 keep:=fun i h h' st k=>by
  obtain⟨hi,⟨old,h1⟩,h0⟩:=st
  exact⟨hi,⟨old,k _ (by simp) _ h1⟩,h0.at fun o e=>k _ (by simp) o e⟩
 item:=by
  intro X hP hw hK hc i pins s σ H E I hf st hg
  subst hP hw hK
  obtain⟨hi,⟨old,h1⟩,h0⟩:=st
  obtain⟨hn,xs,q1,en⟩:=hg
  obtain⟨us,ru,hu,zu⟩:=q1.heap I
  have lu:=ru.length
  have D1:=zbj (prog:=X.prog) (w:=X.w) (A:=X.A.in1) (t:=t1) (I.ok.hd hc) N a1 (ne_ (by ac_rfl)) us.toArray
  refine wpAny_pyNext_enum_itemD D1 h1 ⟨h0,hu⟩ (by simp;lia) (ne_ (by ac_rfl)) (fun z=>nin2 (z:=N+1) z (by lia) (by lia) rfl) fun x h' tk p1 ho g0 gT gz kk=>?_
  obtain⟨x1,hx1⟩:∃x1,xs[i]? =some x1:=⟨xs[i]'(by lia),List.getElem?_eq_getElem _⟩
  obtain⟨u1,hu1,r1⟩:=ru.get hx1
  have e1:u1=x:=by
   have:us[i]? =some x:=by simpa using p1
   rw[hu1]at this;cases this;rfl
  subst e1
  refine⟨_,rfl,wpAny_letOwnedTupleGo_enum (s:={s with heap:=h',toks:=tk+1}) ho fun h'' he' sb=>?_⟩
  replace sb:Heap.SameBut (N+1:Nat) h' h'':=sb
  have lz:N+1<s.heap.objs.size:=Heap.lt_size h1
  have kk':∀b o,b∉([N+1,N]:List Nat)->s.heap.get? b=some o->h''.get? b=some o:=fun b o hb e=>
   (sb.2 b fun z=>hb (by simp[z])).trans (kk b o (fun z=>hb (by simp[z])) (fun z=>hb (by simp[z])) e)
  have I1:=zlX (t':=tk+1) (vs:=[.int i,x1]) (its:=[.int i tk,u1]) I kk' hf (fun b hb=>by
   have:b=N+1\/b=N:=by simpa using hb
   exact Nat.lt_of_le_of_lt (show(b:Nat)<=N+1 by rcases this with h|h<;>rw[h]<;>simp) lz) ((sb.2 _ (ne_ (by ac_rfl))).trans gT) (by simp;rw[sizeLine_eq];decide) (.cons ⟨_,rfl⟩ (.cons r1 .nil))
  refine⟨.ref s.heap.objs.size,_,I1,rfl,⟨_,x1,I.hok.fresh (Nat.le_refl _),rfl,rfl,fun xs' b1=>?_⟩,⟨hn,⟨_,by simpa using he'⟩,SrcIt.at g0.1 fun o e=>(sb.2 _ (ne_ (by ac_rfl))).trans e⟩,fun b hb=>?_⟩
  ·rw[SrcSq.inj I b1 q1]
   exact hx1
  ·have:b=N+1\/b=N:=by simpa using hb
   rw[zau (Nat.ne_of_lt (Nat.lt_of_le_of_lt (show(b:Nat)<=N+1 by rcases this with h|h<;>rw[h]<;>simp) lz))]
   exact(hf b hb).1
 done:=by
  intro X hP hw hK hc i pins s σ H E I hf st hg
  subst hP hw hK
  obtain⟨hi,⟨old,h1⟩,h0⟩:=st
  obtain⟨hn,xs,q1,en⟩:=hg
  obtain⟨us,ru,hu,zu⟩:=q1.heap I
  have lu:=ru.length
  have D1:=zbj (prog:=X.prog) (w:=X.w) (A:=X.A.in1) (t:=t1) (I.ok.hd hc) N a1 (ne_ (by ac_rfl)) us.toArray
  have W:=WalksT.enumerateD D1 (N+1:Nat) (ne_ (by ac_rfl)) (fun z=>nin2 (z:=N+1) z (by lia) (by lia) rfl) (by simp)
  have ei:i=us.toArray.size:=by simp;lia
  subst ei
  exact W.done s _ _ ⟨⟨old,h1⟩,h0,hu⟩ fun h' tk kk=>⟨rfl,zjE I kk hf⟩
 self:=fun _ _ _ _ _ st h=>by
  obtain⟨hi,⟨old,h1⟩,h0⟩:=st
  exact wpAny_pyIter_enum h1 h
theorem zmv:bootBuiltins "zip"=some (.type "zip"):=by decide+kernel
theorem zjc:bootBuiltins "enumerate"=some (.type "enumerate"):=by decide+kernel
section
variable {X:Cx} {elts:List Expr} {ek:Nat} {ep:Pos}
theorem pi_zip3 {a b c:Expr}(hg:Gl X "zip")(hm:X.mg "zip"=none)(ha:PA X [a,b,c] ta)(hs:starEach [a,b,c] X.env=(false,eval a X.env)::starEach [b,c] X.env:=by rfl)(hs2:(backTo pos (starEach [b,c] X.env)).any (·.1)=false:=by rfl):
  PI X (.Tuple elts ek ep) (.Call (.Name "zip" p) [a,b,c] [] pos) (fun σ H R=>ta σ H fun vs H1=>∃t1 a1 xs t2 a2 ys t3 a3 zs,vs=[.ref a1,.ref a2,.ref a3]/\SrcSq t1 X.K H1 a1 xs/\SrcSq t2 X.K H1 a2 ys/\SrcSq t3 X.K H1 a3 zs/\R (Itz3 X.K t1 a1 t2 a2 t3 a3 (min xs.length (min ys.length zs.length))) H1):=by
 intro pins s σ H R I h
 refine Call_ (ziC I hg hm zmv (PyProof.Rows.callWith_type1 (thn (ha pos pins s σ H _ I h) fun us s1 ⟨vs,H1,I1,r1,q1⟩=>?_) hs hs2))
 obtain⟨t1,a1,xs,t2,a2,ys,t3,a3,zs,e,q1,q2,q3,q⟩:=q1
 subst e
 cases r1 with
 |cons r rr=>
  cases rr with
  |cons r' rr=>
   cases rr with
   |cons r'' rr=>
    cases rr
    cases r
    cases r'
    cases r''
    obtain⟨us,ru,hu,-⟩:=q1.heap I1
    obtain⟨ws,rw',hw',-⟩:=q2.heap I1
    obtain⟨os,ro,ho',-⟩:=q3.heap I1
    refine zox hu hw' ho' fun h' g5 g3 g4 g0 g1 g2 kk=>wpAny_pyIter_zip g5 ⟨_,_,_,_,H1,rfl,I1.kept (t':=s1.toks) kk,zo6 t1 a1 t2 a2 t3 a3 (min xs.length (min ys.length zs.length)) s1.heap.objs.size hu.lt hw'.lt ho'.lt,⟨Nat.zero_le _,g5,g3,⟨_,_,_,g4⟩,g0,g1,g2⟩,fun b hb=>?_,q⟩
    have:b=s1.heap.objs.size\/b=s1.heap.objs.size+1\/b=s1.heap.objs.size+2\/b=s1.heap.objs.size+3\/b=s1.heap.objs.size+4\/b=s1.heap.objs.size+5:=by simpa using hb
    have le:s1.heap.objs.size<=b:=by rcases this with h|h|h|h|h|h<;>rw[h]<;>simp
    exact I1.fpOk le (I1.hok.fresh le)
theorem pi_enum (hg:Gl X "enumerate")(hm:X.mg "enumerate"=none)(ha:PA X [a] ta)(hs:starEach [a] X.env=(false,eval a X.env)::starEach [] X.env:=by rfl)(hs2:(backTo pos (starEach [] X.env)).any (·.1)=false:=by rfl):
  PI X (.Tuple elts ek ep) (.Call (.Name "enumerate" p) [a] [] pos) (fun σ H R=>ta σ H fun vs H1=>∃t1 a1 xs,vs=[.ref a1]/\SrcSq t1 X.K H1 a1 xs/\R (Ite X.K t1 a1 xs.length) H1):=by
 intro pins s σ H R I h
 refine Call_ (ziC I hg hm zjc (PyProof.Rows.callWith_type1 (thn (ha pos pins s σ H _ I h) fun us s1 ⟨vs,H1,I1,r1,q1⟩=>?_) hs hs2))
 obtain⟨t1,a1,xs,e,q1,q⟩:=q1
 subst e
 cases r1 with
 |cons r rr=>
  cases rr
  cases r
  obtain⟨us,ru,hu,-⟩:=q1.heap I1
  refine zn5 hu fun h' g1 g0 kk=>wpAny_pyIter_enum g1 ⟨_,_,_,_,H1,rfl,I1.kept (t':=s1.toks) kk,zn7 t1 a1 xs.length s1.heap.objs.size hu.lt,⟨Nat.zero_le _,⟨_,g1⟩,g0⟩,fun b hb=>?_,q⟩
  have:b=s1.heap.objs.size+1\/b=s1.heap.objs.size:=by simpa using hb
  have le:s1.heap.objs.size<=b:=by rcases this with h|h<;>rw[h]<;>simp
  exact I1.fpOk le (I1.hok.fresh le)
end
theorem zjA {G:Hp}{x:V}{d:D}(r:RepD K G x d)(e:zaR [d]=some es):∃t a xs,x= .ref a/\(∀H,Fz G H->SrcSq t K H a xs)/\RepL K G xs es:=by
 cases d<;>simp only[zaR]at e<;>try cases e
 ·obtain⟨a,xs,rfl,ha,r⟩:=r
  exact⟨false,a,xs,rfl,fun H f=>SqL.of (f _ _ ha),r⟩
 ·obtain⟨a,xs,rfl,ha,r⟩:=r
  exact⟨true,a,xs,rfl,fun H f=>SqT.of (f _ _ ha),r⟩
 ·obtain⟨a,rfl,ha⟩:=r
  exact⟨false,a,_,rfl,fun H f=>f.sql ha,RepL.ints _⟩
noncomputable def zlv (xs ys:List D):List D:=List.zipWith (fun x y=>D.tup [x,y]) xs ys
noncomputable def zlM (xs ys zs:List D):List D:=List.zipWith (fun x (p:D×D)=>D.tup [x,p.1,p.2]) xs (List.zip ys zs)
noncomputable def zlm (xs:List D):List D:=List.zipWith (fun x (i:Nat)=>D.tup [.int i,x]) xs (List.range xs.length)
noncomputable def iZ2 (ma:MA):MA:=fun ρ=>(ma ρ).bind fun p=>match p.1 with
 |[a,b]=>(zaR [a]).bind fun xs=>(zaR [b]).bind fun ys=>some (zlv xs ys,p.2)
 |_=>none
noncomputable def iZ3 (ma:MA):MA:=fun ρ=>(ma ρ).bind fun p=>match p.1 with
 |[a,b,c]=>(zaR [a]).bind fun xs=>(zaR [b]).bind fun ys=>(zaR [c]).bind fun zs=>some (zlM xs ys zs,p.2)
 |_=>none
noncomputable def iEn (ma:MA):MA:=fun ρ=>(ma ρ).bind fun p=>(zaR p.1).map fun xs=>(zlm xs,p.2)
theorem zo7 {a b c:Expr}(hm:X.mg "zip"=none)(ha:SA X [a,b,c] ma)(hg:Gl X "zip":=by rfl)(hs:starEach [a,b,c] X.env=(false,eval a X.env)::starEach [b,c] X.env:=by rfl)(hs2:(backTo pos (starEach [b,c] X.env)).any (·.1)=false:=by rfl):
  SIt X (.Tuple elts ek ep) (.Call (.Name "zip" p) [a,b,c] [] pos) (iZ3 ma):=by
 obtain⟨t,pa,sa⟩:=ha
 refine⟨_,pi_zip3 hg hm pa hs hs2,fun B G H σ ρ ds ρ' Q I hm k=>?_⟩
 obtain⟨⟨es,ρ1⟩,e1,h2⟩:=zai hm
 dsimp only at h2
 refine sa B G H σ ρ es ρ1 _ I e1 fun G1 H1 vs I1 f1 r1=>?_
 split at h2
 ·obtain⟨xs,ex,h2⟩:=zai h2
  obtain⟨ys,ey,h2⟩:=zai h2
  obtain⟨zs,ez,h2⟩:=zai h2
  cases h2
  obtain⟨x,us,rfl,rx,r2⟩:=r1
  obtain⟨y,ws,rfl,ry,r3⟩:=r2
  obtain⟨z,os,rfl,rz,r4⟩:=r3
  cases(show os=[]from r4)
  obtain⟨t1,a1,us,rfl,s1,c1⟩:=zjA rx ex
  obtain⟨t2,a2,ws,rfl,s2,c2⟩:=zjA ry ey
  obtain⟨t3,a3,os,rfl,s3,c3⟩:=zjA rz ez
  have n1:=c1.length
  have n2:=c2.length
  have n3:=c3.length
  refine⟨t1,a1,us,t2,a2,ws,t3,a3,os,rfl,s1 _ I1.fz,s2 _ I1.fz,s3 _ I1.fz,k _ G1 H1 I1 f1 ⟨fun H i f hi=>?_,fun H i x H' f y d e=>?_,fun H i f hi=>?_⟩⟩
  ·exact⟨by simp[zlM]at hi;lia,us,ws,os,s1 _ f,s2 _ f,s3 _ f,rfl⟩
  ·obtain⟨p,x1,x2,x3,hp,eh,ex',q⟩:=y
   obtain⟨q1,q2,q3⟩:=q us ws os (s1 _ f) (s2 _ f) (s3 _ f)
   simp only[zlM,List.zip,List.getElem?_zipWith]at e
   have hi:i<us.length/\i<ws.length/\i<os.length:=⟨(List.getElem?_eq_some_iff.mp q1).1,(List.getElem?_eq_some_iff.mp q2).1,(List.getElem?_eq_some_iff.mp q3).1⟩
   have g1:xs[i]? =some (xs[i]'(by lia)):=List.getElem?_eq_getElem _
   have g2:ys[i]? =some (ys[i]'(by lia)):=List.getElem?_eq_getElem _
   have g3:zs[i]? =some (zs[i]'(by lia)):=List.getElem?_eq_getElem _
   rw[g1,g2,g3]at e
   cases e
   obtain⟨v1,b1,r1⟩:=c1.get g1
   obtain⟨v2,b2,r2⟩:=c2.get g2
   obtain⟨v3,b3,r3⟩:=c3.get g3
   rw[q1]at b1;cases b1
   rw[q2]at b2;cases b2
   rw[q3]at b3;cases b3
   exact .inr ⟨p,_,_,hp,eh,ex',rfl,⟨_,_,rfl,r1,_,_,rfl,r2,_,_,rfl,r3,rfl⟩⟩
  ·exact⟨by simp[zlM]at hi;lia,us,ws,os,s1 _ f,s2 _ f,s3 _ f,rfl⟩
 ·cases h2
theorem zb7 (hm:X.mg "enumerate"=none)(ha:SA X [a] ma)(hg:Gl X "enumerate":=by rfl)(hs:starEach [a] X.env=(false,eval a X.env)::starEach [] X.env:=by rfl)(hs2:(backTo pos (starEach [] X.env)).any (·.1)=false:=by rfl):
  SIt X (.Tuple elts ek ep) (.Call (.Name "enumerate" p) [a] [] pos) (iEn ma):=by
 obtain⟨t,pa,sa⟩:=ha
 refine⟨_,pi_enum hg hm pa hs hs2,fun B G H σ ρ ds ρ' Q I hm k=>?_⟩
 obtain⟨⟨es,ρ1⟩,e1,h2⟩:=zai hm
 obtain⟨xs,ex,h2⟩:=zaJ h2
 cases h2
 refine sa B G H σ ρ es ρ1 _ I e1 fun G1 H1 vs I1 f1 r1=>?_
 match es,ex,r1 with
 |[],ex,_=>cases ex
 |_::_::_,ex,_=>exact absurd ex (by simp[zaR])
 |[d],ex,r1=>
  obtain⟨x,rfl,rx⟩:=r1.one
  obtain⟨t1,a1,us,rfl,s1,c1⟩:=zjA rx ex
  have n1:=c1.length
  refine⟨t1,a1,us,rfl,s1 _ I1.fz,k _ G1 H1 I1 f1 ⟨fun H i f hi=>?_,fun H i x H' f y d e=>?_,fun H i f hi=>?_⟩⟩
  ·exact⟨by simp[zlm]at hi;lia,us,s1 _ f,rfl⟩
  ·obtain⟨p,x1,hp,eh,ex',q⟩:=y
   have q1:=q us (s1 _ f)
   have hi:i<us.length:=(List.getElem?_eq_some_iff.mp q1).1
   have g1:xs[i]? =some (xs[i]'(by lia)):=List.getElem?_eq_getElem _
   simp only[zlm,List.getElem?_zipWith]at e
   rw[g1,show(List.range xs.length)[i]? =some i from by rw[List.getElem?_range (by lia)]]at e
   cases e
   obtain⟨v1,b1,r1⟩:=c1.get g1
   rw[q1]at b1;cases b1
   exact .inr ⟨p,_,_,hp,eh,ex',rfl,⟨_,_,rfl,rfl,_,_,rfl,r1,rfl⟩⟩
  ·exact⟨by simp[zlm]at hi;lia,us,s1 _ f,rfl⟩
end M
namespace M
open L2 PySem PySem.Spec
open PyProof.Rows hiding St
variable {X:Cx} {K:W.Frag} {G H:Hp} {x:Str} {σ:St} {ρ:R} {b:Nat} {cs:List D} {l:Addr} {ys:List V} {tg':Addr->Shared->Hp->List Addr->TG} {tt:Addr->Shared->Hp->List Addr->TT} {te:Addr->Shared->Hp->List Addr->TE} {c:Expr} {body:List Stmt}
theorem ss_never {st:Stmt}:SS X st (fun _=>none):=⟨_,ps_never,fun B G H σ ρ fl ρ' E I hm k=>by cases hm⟩
noncomputable def rIndex (K:W.Frag):V->List V->Hp->VK->Prop:=fun x vs H Q=>∃(l:Addr) (ns:List Int) (k:Int),x= .ref l/\vs=[.int k]/\SqL K H l (ns.map V.int)/\k∈ns/\Q (.int (ns.idxOf k:Nat)) H
theorem mt_index:MtR X "list.index" (rIndex X.K):=by
 intro pins s σ H x vs v us Q I rx rv h
 obtain⟨l,ns,k,rfl,rfl,hq,hk,q⟩:=h
 cases rx
 obtain⟨u,rfl,t,rfl⟩:=rv.one
 obtain⟨its,r,p,hz⟩:=I.list hq
 have hi:=zm1 r
 have hlen:=hi.length
 have hj:ns.idxOf k<ns.length:=List.idxOf_lt_length_iff.mpr hk
 have hb:ns.length<=sizeLine:=by simpa using hz
 rw[sizeLine_eq]at hb
 obtain⟨⟨cls,dd,data,sl⟩,ho,hc,n,hd⟩:=p.isList
 simp only at hc hd
 subst hc hd
 refine call_meets PySem.F.slot_list_index ⟨_,ho,rfl⟩ PySem.F.entry_list_index (PySem.F.args_list_index_2 _ _)
  (PySem.SeqAt.list_indexAt l its.toArray n dd sl (.int k t) (isInt k) (ns.idxOf k) (by simpa[hlen]using hj) (by lia) ?_ ?_) ⟨ho,fun y hy=>(eq_isInt k t hi y (by simpa using hy)).at _ _,⟨.int (ns.idxOf k:Nat),H,I.tok _,⟨_,rfl⟩,q⟩⟩
 ·show isInt k its[ns.idxOf k]=true
  rw[isInt_at k hi _ (by lia) hj]
  simpa using List.getElem_idxOf hj
 ·intro j hjs hlt
  show isInt k its[j]=false
  rw[isInt_at k hi j (by simpa using hjs) (by lia)]
  exact ne_of_lt_idxOf hlt _
noncomputable def zk8:D->D->Option D
 | .lst ds,.int k=>(zb8 ds).bind fun ns=>if k∈ns then some (.int (ns.idxOf k:Nat))else none
 |_,_=>none
theorem se_index {o e:Expr}{mo me:ME}{apos cpos:Pos}(ho:SE X o mo)(he:SE X e me)
  (hbase:attributeBase o "index" X.env (eval o X.env)=eval o X.env:=by rfl)
  (hfew : ((backTo cpos (starEach [e] X.env)).all (fun x => !x.1) && (backToKw cpos (keywordEach [] X.env)).all (fun x => x.1.isSome)
   &&decide ([e].length+([]:List Keyword).length+(if([]:List Keyword).isEmpty then 0 else 1)<30))=true:=by rfl)
  (hline:(apos.endLine==cpos.line)=true:=by rfl) (hs:starEach [e] X.env=(false,eval e X.env)::starEach [] X.env:=by rfl):SE X (.Call (.Attribute o "index" apos) [e] [] cpos) (m2 zk8 mo me):=by
 obtain⟨to,po,so⟩:=ho
 obtain⟨te,pe,se⟩:=he
 refine⟨_,pe_bm PySem.F.plainAttrs_list PySem.F.slot_list_index PySem.F.type_list_index mt_index po (ziN pe zmM hs) hbase hfew hline hs rfl,fun B G H σ ρ d ρ' Q I hm k=>?_⟩
 obtain⟨⟨d1,ρ1⟩,e1,hm⟩:=zai hm
 obtain⟨⟨d2,ρ2⟩,e2,hm⟩:=zai hm
 obtain⟨d3,e3,hm⟩:=zaJ hm
 cases hm
 refine so B G H σ ρ d1 ρ1 _ I e1 fun G1 H1 v I1 f1 r1=>?_
 cases d1 with
 |lst ds=>
  cases d2 with
  |int i=>
   obtain⟨ns,e4,e3⟩:=zai e3
   obtain⟨a,xs,rfl,ha,rr⟩:=r1
   refine⟨.inl ⟨rfl,xs,SqL.of (I1.fz _ _ ha)⟩,?_⟩
   refine se B G1 H1 σ ρ1 _ ρ2 _ I1 e2 fun G2 H2 u I2 f2 r2=>?_
   cases(show u=V.int i from r2)
   split at e3
   ·rename_i hk
    cases e3
    cases zga e4
    have rl:=rr.mono f2
    have ex:xs=ns.map V.int:=RepL.ints_eq rl
    subst ex
    exact⟨a,ns,i,rfl,rfl,SqL.of (I2.fz _ _ (f2 _ _ ha)),hk,k G2 H2 _ I2 (f1.trans f2) rfl⟩
   ·cases e3
  |_=>cases e3
 |_=>cases e3
noncomputable def isN:D->Bool
 | .non=>true
 |_=>false
theorem isN_ok {x:V}{d:D}(r:RepD K G x d):decide (x= .non)=isN d:=by
 cases d with
 |non=>cases(show x=V.non from r);rfl
 |bl b=>cases(show x=V.bl b from r);rfl
 |int i=>cases(show x=V.int i from r);rfl
 |str s=>cases(show x=V.str s from r);rfl
 |lst ds=>obtain⟨a,xs,rfl,-⟩:=r;rfl
 |tup ds=>obtain⟨a,xs,rfl,-⟩:=r;rfl
 |scr ns=>obtain⟨a,rfl,-⟩:=r;rfl
 |exc c=>obtain⟨a,C,rfl,-⟩:=r;rfl
 |dic _ _=>obtain⟨a,ys,rfl,-⟩:=r;rfl
 |dit _ _=>obtain⟨a,ys,o,xs,rfl,-⟩:=r;rfl
noncomputable def dIsN:D->D->Option D
 |a,.non=>some (.bl (isN a))
 |_,_=>none
noncomputable def zkQ:D->D->Option D
 |a,.non=>some (.bl (!isN a))
 |_,_=>none
theorem v2_isN:V2 X (fun x y H Q=>y= .non/\Q (.bl (decide (x= .non))) H) dIsN:=by
 intro B G H σ ρ x y a b d Q I ra rb hf k
 cases b<;>simp only[dIsN]at hf<;>cases hf
 exact⟨rb,k G H _ I (Fz.refl G) (by rw[isN_ok ra];rfl)⟩
theorem v2_notN:V2 X (fun x y H Q=>y= .non/\Q (.bl (!decide (x= .non))) H) zkQ:=by
 intro B G H σ ρ x y a b d Q I ra rb hf k
 cases b<;>simp only[zkQ]at hf<;>cases hf
 exact⟨rb,k G H _ I (Fz.refl G) (by rw[isN_ok ra];rfl)⟩
theorem bl_isN:∀x y d,dIsN x y=some d->∃t,d= .bl t:=by
 intro x y d hf
 cases y<;>simp only[dIsN]at hf<;>cases hf
 exact⟨_,rfl⟩
theorem bl_notN:∀x y d,zkQ x y=some d->∃t,d= .bl t:=by
 intro x y d hf
 cases y<;>simp only[zkQ]at hf<;>cases hf
 exact⟨_,rfl⟩
section
variable {X:Cx} {a b:Expr} {ma mb:ME} {pos:Pos}
theorem se_is (ha:SE X a ma)(hb:SE X b mb)(hm:behindInMarks .Is b=false:=by rfl):SE X (.Compare a [.Is] [b] pos) (m2 dIsN ma mb):=zmt op_isN v2_isN ha hb hm
theorem st_is (ha:SE X a ma)(hb:SE X b mb)(hm:behindInMarks .Is b=false:=by rfl):STt X (.Compare a [.Is] [b] pos) (tTru (m2 dIsN ma mb)):=zie op_isN v2_isN bl_isN ha hb hm
theorem zma (ha:SE X a ma)(hb:SE X b mb)(hm:behindInMarks .IsNot b=false:=by rfl):STt X (.Compare a [.IsNot] [b] pos) (tTru (m2 zkQ ma mb)):=zie op_notN v2_notN bl_notN ha hb hm
end
noncomputable def zls (b:Nat)(ρ:R):Bool:=match ρ[b]? with
 |some (.par _)=>zdP (ρ.set b .emp)
 |_=>false
noncomputable def zo2 (b:Nat)(ρ:R):List D:=match ρ[b]? with
 |some (.par cs)=>cs
 |_=>[]
noncomputable def znv (b:Nat)(g:D->R->Option R)(mt:MT)(me:ME):D->R->Option (Option D×R):=fun d ρ=>(g d ρ).bind fun ρ1=>(mt ρ1).bind fun p=>if p.1 then(me p.2).bind fun q=>if zls b q.2 then some (some q.1,q.2)else none else if zls b p.2 then some (none,p.2)else none
noncomputable def oLCM (cap:List Nat)(t b w:Nat)(mi:MA)(g:D->R->Option R)(mt:MT)(me:ME):MO:=fun ρ=>(mi ρ).bind fun p=>if p.1.length<=16777216 then
    ((fzL (cap.filter (· !=w)) p.2)[w]?).bind fun s=>s.items.bind fun cs=>(zfj (znv b g mt me) p.1 ((capR cap t (fzL (cap.filter (· !=w)) p.2)).set b (.par cs))).map fun q=>(q.1,(fzL (cap.filter (· !=w)) p.2).set w (s.put (zo2 b q.2)))
  else none
theorem VS.setEmp (h:VS K G σ ρ)(b:Nat):VS K G σ (ρ.set b .emp) where
 len:=by rw[List.length_set];exact h.len
 no:=by
  have h0:=h.no
  unfold zdP at*
  rw[List.all_eq_true]at*
  intro s hs
  rcases List.mem_or_eq_of_mem_set hs with z|z
  ·exact h0 s z
  ·rw[z]
 val:=fun i d e=>by
  rw[List.getElem?_set]at e
  split at e
  ·split at e
   ·cases e
   ·cases e
  ·exact h.val i d e
theorem VS.siP (h:VS K G σ (ρ.set b .emp))(fz:Fz G H)(hb:ρ[b]? =some (.par cs))(hs:σ[b]? =some (some (.ref l)))(gl:G l=none)(hl:H l=some (.lst ys))(r:RepL K G ys cs):SI K ⟨G,H,[(b,l)]⟩ G H σ ρ where
 fz:=fz
 g0:=Fz.refl G
 new:=fun b o e=> .inl (by show G b≠none;rw[e];simp)
 keep:=fun b o e _=>e
 there:=fun b e=>e
 ob:=fun i c m=>by
  have:i=b/\c=l:=by simpa using m
  rw[this.2]
  show H l≠none
  rw[hl];simp
 len:=by rw[h.len,List.length_set]
 slot:=fun i s e=>by
  by_cases z:i=b
  ·subst z
   rw[hb]at e;cases e
   exact⟨l,ys,hs,gl,hl,r,by simp⟩
  ·have e':(ρ.set b .emp)[i]? =some s:=by rw[List.getElem?_set_ne (Ne.symm z)];exact e
   cases s with
   |emp=>trivial
   |two _ _=>trivial
   |tre t=>exact absurd rfl ((ziu h.no e').1 t)
   |ptr t=>exact absurd rfl ((ziu h.no e').2 t)
   |val d=>exact h.val i d e'
   |own ds=>exact absurd ⟨_,ds,e',rfl⟩ (ziq h.no (i:=i))
   |par ds=>exact absurd ⟨_,ds,e',rfl⟩ (ziq h.no (i:=i))
 dis:=fun i j s t a hij e1 e2 w1 w2=>by
  have key:∀(i:Nat) (s:Sl) ov,ρ[i]? =some s->OwS K G H ov a s->i=b:=fun i s ov e w=>by
   by_cases z:i=b
   ·exact z
   ·exact absurd w (zmx h.no (show(ρ.set b .emp)[i]? =some s by rw[List.getElem?_set_ne (Ne.symm z)];exact e))
  exact hij ((key i s _ e1 w1).trans (key j t _ e2 w2).symm)
theorem VS.ofP {B:Bs}(I:SI K B G H σ ρ)(hO:B.O=[(b,l)])(h:zls b ρ=true):∃cs ys,ρ[b]? =some (.par cs)/\σ[b]? =some (some (.ref l))/\G l=none/\H l=some (.lst ys)/\RepL K G ys cs/\VS K G σ (ρ.set b .emp):=by
 unfold zls at h
 split at h
 ·rename_i cs e
  obtain⟨l',ys,h1,h2,h3,h4,h5⟩:=I.slot b _ e
  have hl:l'=l:=by rw[hO]at h5;simpa using h5
  subst hl
  refine⟨cs,ys,e,h1,h2,h3,h4,⟨by rw[List.length_set];exact I.len,h,fun i d e'=>?_⟩⟩
  rw[List.getElem?_set]at e'
  split at e'
  ·split at e'
   ·cases e'
   ·cases e'
  ·exact I.slot i _ e'
 ·cases h
structure LcP (K:W.Frag) (bk:Nat) (g:D->R->Option R) (mt:MT) (me:ME) (items all:List D) (ρf:R) (G2 H1:Hp) (DD l:Addr) (i:Nat) (σc:St) (Hc Gc:Hp) (ρc:R) (acc:List D) (xs:List V) (rest cs:List D) (ys:List V):Prop where
 fc:Fz G2 Gc
 fcH:Fz Gc Hc
 nw:∀b o,Gc b=some o->G2 b≠none\/H1 b=none
 kp:∀b o,b≠l->H1 b=some o->Hc b=some o
 gD:Gc DD=none
 hDc:Hc DD=some (.lst xs)
 ra:RepL K Gc xs acc
 hx:xs.length<=i
 eb:ρc[bk]? =some (.par cs)
 sb:σc[bk]? =some (some (.ref l))
 glc:Gc l=none
 hlc:Hc l=some (.lst ys)
 rlc:RepL K Gc ys cs
 vs:VS K Gc σc (ρc.set bk .emp)
 ec:zfj (znv bk g mt me) (items.drop i) ρc=some (rest,ρf)
 eall:all=acc++rest
section
variable {X:Cx} {elt iter tg:Expr} {ifs:List Expr} {scope:Scope} {pos:Pos} {N:List Str} {cap:List Nat} {t bk wk:Nat} {mi:MA} {g:D->R->Option R} {mt:MT} {me:ME}
theorem zoc (hbw:cap[bk]? =some wk){wi:TI}
    (si:∀B G H σ ρ ds ρ' (Q:It->Hp->Prop),SI X.K B G H σ ρ->mi ρ=some (ds,ρ')->(∀J G' H',SI X.K B G' H' σ ρ'->Fz G G'->Itm X.K J G' ds->Q J H')->wi σ H Q)
    (sg:∀C s H₀ fp B G H σ ρ v d ρ' (Q:St->Hp->Prop),SI X.K B G H σ ρ->RepD X.K G v d->g d ρ=some ρ'->(∀G' H' σ',SI X.K B G' H' σ' ρ'->Fz G G'->Q σ' H')->tg' C s H₀ fp v σ H Q)
    (st:∀C s H₀ fp B G H σ ρ d ρ' (Q:Bool->Hp->Prop),SI X.K B G H σ ρ->mt ρ=some (d,ρ')->(∀G' H',SI X.K B G' H' σ ρ'->Fz G G'->Q d H')->tt C s H₀ fp σ H Q)
    (se:∀C s H₀ fp B G H σ ρ d ρ' (Q:VK),SI X.K B G H σ ρ->me ρ=some (d,ρ')->(∀G' H' v,SI X.K B G' H' σ ρ'->Fz G G'->RepD X.K G' v d->Q v H')->te C s H₀ fp σ H Q):
    ∀B G H σ ρ ds ρ' (Q:VK),SI X.K B G H σ ρ->oLCM cap t bk wk mi g mt me ρ=some (ds,ρ')->
      (∀G' H' l xs,SI X.K B G' H' σ ρ'->Fz G G'->G' l=none->H' l=some (.lst xs)->RepL X.K G' xs ds->B.H l=none->Nw X.K G' H' σ ρ' l->Q (.ref l) H')->tLC (capσ cap t) wi tg' tt te σ H Q:=by
  intro B G H σ ρ ds ρ' Q I hm k
  obtain⟨⟨items,ρ1⟩,e1,hm⟩:=zai hm
  refine si B G H σ ρ items ρ1 _ I e1 fun J G1 H1 I1 f1 IT DD hD=>?_
  dsimp only at hm
  split at hm
  . rename_i hlen
    obtain⟨sw,ew,hm⟩:=zai hm
    obtain⟨cs0,qw,hm⟩:=zai hm
    obtain⟨⟨all,ρf⟩,e2,e3⟩:=zaJ hm
    obtain⟨rfl,rfl⟩:=Prod.mk.inj e3
    obtain⟨G2,I2,f2⟩:=SI.fzL (cap.filter (· !=wk)) I1
    have hDG:G2 DD=none:=I2.fz.free hD
    obtain⟨l,ys0,hσ,gl0,hl0,rl0⟩:=I2.wr ew qw
    have hlD:DD≠l:=(zaL hl0 hD).symm
    have hb:bk<cap.length:=(List.getElem?_eq_some_iff.mp hbw).1
    have hbe:cap[bk]=wk:=(List.getElem?_eq_some_iff.mp hbw).2
    have hσb:(capσ cap t σ)[bk]? =some (some (.ref l)):=by
      unfold capσ
      rw[List.getElem?_append_left (by simpa using hb),List.getElem?_map,List.getElem?_eq_getElem hb,hbe]
      simp[hσ]
    have hcl:bk<(capR cap t (M.fzL (cap.filter (· !=wk)) ρ1)).length:=by unfold capR;simp;lia
    refine⟨fun i m σc Hc=>m=items.length-i/\i<=items.length/\∃Gc ρc acc xs rest cs ys,LcP X.K bk g mt me items all ρf G2 H1 DD l i σc Hc Gc ρc acc xs rest cs ys,
      ⟨items.length,by simp,Nat.zero_le _,G2,(capR cap t (M.fzL (cap.filter (· !=wk)) ρ1)).set bk (.par cs0),[],[],all,cs0,ys0,{fc:=Fz.refl _,fcH:=I2.fz.right hDG _,nw:=fun b o e=> .inl (by rw[e];simp),kp:=fun b o _ e=>by rw[zau (zaL e hD)];exact e,gD:=hDG,hDc:=zaw,ra:= .nil,hx:=Nat.le_refl _,eb:=by rw[List.getElem?_set];simp[hcl],sb:=hσb,glc:=gl0,hlc:=by rw[zau (zaL hl0 hD)];exact hl0,rlc:=rl0,vs:=by rw[List.set_set];exact(cap_vs I2 cap t).setEmp bk,ec:=by simpa using e2,eall:=rfl}⟩,?_⟩
    rintro i m σc Hc ⟨rfl,hi,Gc,ρc,acc,xs,rest,cs,ys,J0⟩
    obtain⟨fc,fcH,nw,kp,gD,hDc,ra,hx,eb,sb,glc,hlc,rlc,vs,ec,eall⟩:=J0
    by_cases hlt:i<items.length
    . refine .inr ⟨IT.go Hc i (f2.trans (fc.trans fcH)) hlt,fun C s₀ H₀ fp x H' y=>?_⟩
      rw[List.drop_eq_getElem_cons hlt]at ec
      simp only[zfj]at ec
      obtain⟨⟨o,ρ3⟩,h3,ec⟩:=zai ec
      obtain⟨⟨rest2,ρ4⟩,h4,ec⟩:=zaJ ec
      obtain⟨rfl,rfl⟩:=Prod.mk.inj ec
      dsimp only at h4
      unfold znv at h3
      obtain⟨ρ5,h5,h3⟩:=zai h3
      obtain⟨⟨ok,ρ6⟩,h6,h3⟩:=zai h3
      dsimp only at h3
      have Ic:SI X.K ⟨Gc,Hc,[(bk,l)]⟩ Gc Hc σc ρc:=vs.siP fcH eb sb glc hlc rlc
      have fz2:Fz G1 Hc:=f2.trans (fc.trans fcH)
      have yy:=IT.yld Hc i x H' fz2 y items[i] (List.getElem?_eq_getElem hlt)
      have yy2:(H'=Hc/\RepD X.K Gc x items[i])\/∃p xs es,Hc p=none/\H'=upd Hc p (.tup xs)/\x= .ref p/\items[i]= .tup es/\RepL X.K Gc xs es:=by
        rcases yy with⟨a,b⟩|⟨p,xs,es,a,b,c,d,e⟩
        . exact .inl ⟨a,b.mono (f2.trans fc)⟩
        . exact .inr ⟨p,xs,es,a,b,c,d,e.mono (f2.trans fc)⟩
      obtain⟨G3,I3,f3,r3⟩:=Ic.yld yy2
      refine sg C s₀ H₀ fp _ G3 H' σc ρc x items[i] ρ5 _ I3 r3 h5 fun G4 H4 σ4 I4 f4=>st C s₀ H₀ fp _ G4 H4 σ4 ρ5 ok ρ6 _ I4 h6 fun G5 H5 I5 f5=>?_
      have facts:∀(G' H':Hp) (σ':St) (ρ':R),SI X.K ⟨Gc,Hc,[(bk,l)]⟩ G' H' σ' ρ'->(∀b o,G' b=some o->G2 b≠none\/H1 b=none)/\(∀b o,b≠l->H1 b=some o->H' b=some o)/\G' DD=none/\H' DD=some (.lst xs):=fun G' H' σ' ρ' I'=>by
        refine⟨fun b o e=>?_,fun b o ne e=>I'.keep b o (kp b o ne e) (by simp;exact ne),?_,I'.keep DD _ hDc (by simp;exact hlD)⟩
        . rcases I'.new b o e with h|h
          . have h:Gc b≠none:=h
            cases q:Gc b with
            |none=>exact absurd q h
            |some u=>exact nw b u q
          . refine .inr ?_
            cases q:H1 b with
            |none=>rfl
            |some u=>
              have hn:Hc b=none:=h
              have nb:b≠l:=fun z=>by rw[z,hlc]at hn;cases hn
              have:=kp b u nb q
              rw[hn]at this;cases this
        . cases q:G' DD with
          |none=>rfl
          |some u=>
            rcases I'.new DD u q with h|h
            . exact absurd gD h
            . rw[show Hc DD=none from h]at hDc;cases hDc
      cases ok with
      |false=>
        simp only[Bool.false_eq_true,if_false]at h3
        split at h3
        . rename_i hno
          cases h3
          obtain⟨a1,a2,a3,a4⟩:=facts G5 H5 σ4 _ I5
          obtain⟨cs',ys',w1,w2,w3,w4,w5,w6⟩:=VS.ofP I5 rfl hno
          exact⟨items.length-(i+1),by lia,rfl,hlt,G5,_,acc,xs,rest2,cs',ys',{fc:=fc.trans (f3.trans (f4.trans f5)),fcH:=I5.fz,nw:=a1,kp:=a2,gD:=a3,hDc:=a4,ra:=ra.mono (f3.trans (f4.trans f5)),hx:=by lia,eb:=w1,sb:=w2,glc:=w3,hlc:=w4,rlc:=w5,vs:=w6,ec:=h4,eall:=by simpa using eall}⟩
        . cases h3
      |true=>
        simp only[if_true]at h3 ⊢
        obtain⟨⟨dv,ρ7⟩,h7,h3⟩:=zai h3
        dsimp only at h3
        split at h3
        . rename_i hno
          cases h3
          refine se C s₀ H₀ fp _ G5 H5 σ4 ρ6 dv _ _ I5 h7 fun G6 H6 v I6 f6 r6=>?_
          obtain⟨a1,a2,a3,a4⟩:=facts G6 H6 σ4 _ I6
          obtain⟨cs',ys',w1,w2,w3,w4,w5,w6⟩:=VS.ofP I6 rfl hno
          have ff:Fz Gc G6:=f3.trans (f4.trans (f5.trans f6))
          exact⟨xs,a4,by rw[sizeLine_eq];lia,items.length-(i+1),by lia,rfl,hlt,G6,_,acc++[dv],xs++[v],rest2,cs',ys',{fc:=fc.trans ff,fcH:=I6.fz.right a3 _,nw:=a1,kp:=fun b o ne e=>by rw[zau (zaL e hD)];exact a2 b o ne e,gD:=a3,hDc:=zaw,ra:=(ra.mono ff).snoc r6,hx:=by rw[List.length_append,List.length_singleton];lia,eb:=w1,sb:=w2,glc:=w3,hlc:=by rw[zau (Ne.symm hlD)];exact w4,rlc:=w5,vs:=w6,ec:=h4,eall:=by rw[eall];simp}⟩
        . cases h3
    . have e:i=items.length:=by lia
      subst e
      rw[List.drop_length]at ec
      obtain⟨rfl,rfl⟩:=Prod.mk.inj (Option.some.inj ec)
      have hall:all=acc:=by rw[eall,List.append_nil]
      refine .inl ⟨IT.stop Hc _ (f2.trans (fc.trans fcH)) (Nat.le_refl _),?_⟩
      rw[<-hall]at ra
      have hp:zo2 bk ρc=cs:=by unfold zo2;rw[eb]
      rw[hp]at k
      exact k Gc Hc DD xs (I2.growW ew qw hσ fc fcH nw kp glc hlc rlc) (f1.trans (f2.trans fc)) gD hDc ra (I2.there DD hD) (I2.own_neW ew qw hσ hD nw kp)
  . cases hm
theorem zeb (i:Nat){lpos pos':Pos}(cap:List Nat)(t bk wk:Nat)(N:List Str)(hc:X.calm=true)(hi:SIt X tg iter mi)(hg:∀C s H fp,SG (cxC X N scope C s H fp) tg g)(ht:∀C s H fp,STs (cxC X N scope C s H fp) ifs mt)(he:∀C s H fp,SE (cxC X N scope C s H fp) elt me)(hN:X.N.Nodup)(hbw:cap[bk]? =some wk:=by rfl)
    (hxi:X.N[i]? =some x:=by rfl) (hx:Loc X.env.scope x:=by first|exact Or.inl rfl|exact Or.inr rfl) (hf:X.fn x=true\/X.env.scope.names.lookup x=some .local:=by first|exact Or.inl rfl|exact Or.inr rfl)
    (hsw:swapsWith (.ListComp elt [⟨tg,iter,ifs,0⟩] scope lpos) (some (.Name x pos')) pos.line X.env=pure true:=by rfl)
    (hk:scope.kind= .function:=by rfl) (hb:blkB X.env scope=true:=by kernel_rfl) (hcap:capB scope.names N X.N cap t=true:=by kernel_rfl)
    (hs:∀x,foldedSetIterable iter X.env x=pure x:=by exact fun _=>rfl):SS X (.Assign [.Name x pos'] (.ListComp elt [⟨tg,iter,ifs,0⟩] scope lpos) pos) (sSet i (eFz (oLCM cap t bk wk mi g mt me))):=by
  obtain⟨wi,pi,si⟩:=hi
  refine⟨_,zmJ hN hxi hx hf hsw hc (znX hk hb) (zoS hcap) pi (fun C s H fp=>(hg C s H fp).choose_spec.1) (fun C s H fp=>(ht C s H fp).choose_spec.1) (fun C s H fp=>(he C s H fp).choose_spec.1) hs,fun B G H σ ρ fl ρ' E I hm k=>?_⟩
  obtain⟨⟨d,ρ1⟩,e1,e3⟩:=zaJ hm
  obtain⟨⟨ds,ρ2⟩,e4,e5⟩:=zaJ e1
  obtain⟨rfl,rfl⟩:=Prod.mk.inj e5
  obtain⟨rfl,rfl⟩:=Prod.mk.inj e3
  refine zoc hbw si (fun C s H fp=>(hg C s H fp).choose_spec.2) (fun C s H fp=>(ht C s H fp).choose_spec.2) (fun C s H fp=>(he C s H fp).choose_spec.2) B G H σ ρ ds ρ2 _ I e4 fun G1 H1 l xs I1 f1 g1 h1 r1 b1 n1=>?_
  obtain⟨I2,f2,r2⟩:=zks I1 g1 h1 r1 b1 n1
  exact k _ H1 _ (I2.set r2) (f1.trans f2)
end
noncomputable def iR2L (ma:MA):MA:=fun ρ=>(ma ρ).bind fun p=>match p.1 with
 |[.int i,.int j]=>some (zgI i (j-i).toNat,p.2)
 |_=>none
theorem nn {α:Type}{o:Option α}{x:α}(e:o=some x):o≠none:=by rw[e];exact fun z=>by cases z
noncomputable abbrev MX:=R->Option Str
noncomputable def fX (N:Nat)(x:MX):List D->Option Str:=fun ds=>x (ds.map .val++List.replicate (N-ds.length) .emp)
noncomputable def zib (mc:MT)(mb:MS):Nat->MS
 |0,_=>none
 |n+1,ρ=>(mc ρ).bind fun p=>if p.1 then(mb p.2).bind fun q=>match q.1 with
  | .next=>zib mc mb n q.2
  | .cont=>zib mc mb n q.2
  | .brk=>some (.next,q.2)
  | .ret r=>some (.ret r,q.2)
  else some (.next,p.2)
theorem ss_while {mc:MT}{mb:MS}{pos:Pos}(fuel:Nat)(hp:PassesOwn (model X.prog X.w) X.A X.env X.xe)(hc:STt X c mc)(hb:SSs X body mb):SS X (.While c body [] pos) (zib mc mb fuel):=by
 obtain⟨tc,pc,sc⟩:=hc
 obtain⟨tb,pb,sb⟩:=hb
 refine⟨_,ps_while hp pc pb,fun B G H σ ρ fl ρ' E I hm k=>?_⟩
 refine⟨fun m σ' H'=>∃G' ρ1,SI X.K B G' H' σ' ρ1/\Fz G G'/\zib mc mb m ρ1=some (fl,ρ'),⟨fuel,G,ρ,I,Fz.refl G,hm⟩,fun m σ1 H1 w=>?_⟩
 obtain⟨G1,ρ1,I1,f1,e1⟩:=w
 cases m with
 |zero=>cases e1
 |succ m=>
  obtain⟨⟨b,ρ2⟩,e2,e1⟩:=zai e1
  refine sc B G1 H1 σ1 ρ1 b ρ2 _ I1 e2 fun G2 H2 I2 f2=>?_
  dsimp only at e1
  cases b with
  |false=>
   rw[if_neg (by simp)]at e1 ⊢
   cases e1
   exact k G2 H2 σ1 I2 (f1.trans f2)
  |true=>
   rw[if_pos rfl]at e1 ⊢
   obtain⟨⟨f,ρ3⟩,e3,e1⟩:=zai e1
   refine⟨fun σ' H'=>∃G' ρ1,SI X.K B G' H' σ' ρ1/\Fz G G'/\zib mc mb m ρ1=some (fl,ρ'),fun σ' H' h=>⟨m,Nat.lt_succ_self m,h⟩,?_⟩
   refine sb B G2 H2 σ1 ρ2 f ρ3 _ I2 e3 ?_
   have ff:=f1.trans f2
   cases f with
   |next=>exact fun G' H' σ' I3 f3=>⟨G',ρ3,I3,ff.trans f3,e1⟩
   |cont=>exact fun G' H' σ' I3 f3=>⟨G',ρ3,I3,ff.trans f3,e1⟩
   |brk=>cases e1;exact fun G' H' σ' I3 f3=>k G' H' σ' I3 (ff.trans f3)
   |ret r=>cases e1;exact fun G' H' σ' v I3 f3 rr=>k G' H' σ' v I3 (ff.trans f3) rr
end M
namespace M
open L2 PySem
noncomputable def likeS:Sl->Sl->Bool
 | .own ds,.own es=>match zb8 ds,zb8 es with
  |some a,some b=>a==b
  |_,_=>false
 | .par ds,.par es=>match zb8 ds,zb8 es with
  |some a,some b=>a==b
  |_,_=>false
 | .own _,_=>false
 | .par _,_=>false
 | .tre _,_=>false
 | .ptr _,_=>false
 |_,_=>true
end M
namespace M
open L2 PySem PySem.Spec
open PyProof.Rows hiding St
noncomputable def Sl.putT (s:Sl)(t:T):Sl:=match s with
 | .tre _=> .tre t
 | .ptr _=> .ptr t
 |s=>s
noncomputable def Sl.tree:Sl->Option T
 | .tre t=>some t
 | .ptr t=>some t
 |_=>none
section
variable {K:W.Frag} {B:Bs} {G G' H H':Hp} {σ:St} {ρ:R}
theorem zmV {s:Sl}{t:T}(q:s.tree=some t){ov:Option (Option V)}{a:Addr}:OwS K G H ov a s↔∃v A,ov=some (some v)/\RepT K G H v t A/\a∈A:=by
 cases s with
 |tre _=>cases q;exact Iff.rfl
 |ptr _=>cases q;exact Iff.rfl
 |_=>cases q
theorem zoL {s:Sl}{t:T}(q:s.tree=some t)(t':T):(s.putT t').tree=some t':=by
 cases s with
 |tre _=>rfl
 |ptr _=>rfl
 |_=>cases q
theorem SI.tree (I:SI K B G H σ ρ){i:Nat}{s:Sl}{t:T}(e:ρ[i]? =some s)(q:s.tree=some t):∃v A,σ[i]? =some (some v)/\RepT K G H v t A/\A.Nodup/\(∀a∈A,G a=none)/\∀a∈A,B.H a=none\/(i,a)∈B.O:=by
 have h:=I.slot i s e
 cases s with
 |tre _=>cases q;obtain⟨v,A,h1,h2,h3,h4⟩:=h;exact⟨v,A,h1,h2,h3,fun a m=>(h4 a m).1,fun a m=> .inl (h4 a m).2⟩
 |ptr _=>cases q;obtain⟨v,A,h1,h2,h3,h4⟩:=h;exact⟨v,A,h1,h2,h3,fun a m=>(h4 a m).1,fun a m=>(h4 a m).2⟩
 |_=>cases q
theorem SI.chT (I:SI K B G H σ ρ){i:Nat}{s:Sl}{t t':T}{v:V}{A A':List Addr}(e:ρ[i]? =some s)(q:s.tree=some t)(hv:σ[i]? =some (some v))(r:RepT K G H v t A)(fz:Fz G H')(kp:∀b o,b∉A->H b=some o->H' b=some o)(th:∀b,H' b=none->H b=none)
  (r':RepT K G H' v t' A') (nd:A'.Nodup) (sub:∀a∈A',a∈A\/H a=none):SI K B G H' σ (ρ.set i (s.putT t')):=by
 obtain⟨v1,A1,h1,h2,h3,h4,h5⟩:=I.tree e q
 rw[hv]at h1;cases h1
 have:A1=A:=h2.det r fun _ _=>rfl
 subst this
 have g':∀a∈A',G a=none:=fun a m=>by
  rcases sub a m with z|z
  ·exact h4 a z
  ·exact I.fz.free z
 have b':∀a∈A',B.H a=none\/(i,a)∈B.O:=fun a m=>by
  rcases sub a m with z|z
  ·exact h5 a z
  ·exact .inl (I.there a z)
 have h:=I.chg (i:=i) (ov:=some v) (s':=s.putT t') (G':=G) (H':=H') fz (Fz.refl G) I.new (fun b o k1 k2=>kp b o (fun m=>?_) (I.keep b o k1 k2)) (fun b k=>I.there b (th b k)) (fun j u a z ej w g ha=>?_) ?_
 ·rwa[zkr hv]at h
 ·rcases h5 b m with z|z
  ·rw[k1]at z;cases z
  ·exact k2 i z
 ·have na:a∉A1:=fun m=>I.dis j i u s a z ej e w ((zmV q).mpr ⟨v,A1,hv,h2,m⟩)
  obtain⟨x,hx⟩:=Option.ne_none_iff_exists'.mp ha
  refine⟨g,(kp a x na hx).trans hx.symm,fun w'=>?_⟩
  obtain⟨v2,A2,k1,k2,k3⟩:=(zmV (zoL q t')).mp w'
  cases k1
  rw[k2.det r' fun _ _=>rfl]at k3
  rcases sub a k3 with z|z
  ·exact na z
  ·exact ha z
 ·have sl:=I.slot i s e
  cases s with
  |tre _=>
   obtain⟨v2,A2,k1,k2,k3,k4⟩:=sl
   rw[hv]at k1;cases k1
   cases q
   have:A2=A1:=k2.det h2 fun _ _=>rfl
   subst this
   refine⟨v,A',rfl,r',nd,fun a m=>⟨g' a m,?_⟩⟩
   rcases sub a m with z|z
   ·exact(k4 a z).2
   ·exact I.there a z
  |ptr _=>exact⟨v,A',rfl,r',nd,fun a m=>⟨g' a m,b' a m⟩⟩
  |_=>cases q
theorem SI.setT (I:SI K B G H σ ρ){i:Nat}{v:V}{t:T}{A:List Addr}(r:RepT K G H v t A)(nd:A.Nodup)(hA:∀a∈A,G a=none/\B.H a=none/\Nw K G H σ ρ a):SI K B G H (σ.set i (some v)) (ρ.set i (.tre t)):=
 I.chg I.fz (Fz.refl G) I.new I.keep I.there (fun j s a _ e w g _=>⟨g,rfl,fun⟨v2,A2,k1,k2,k3⟩=>by
  cases k1
  rw[k2.det r fun _ _=>rfl]at k3
  exact(hA a k3).2.2 j s e w⟩) ⟨v,A,rfl,r,nd,fun a m=>⟨(hA a m).1,(hA a m).2.1⟩⟩
open Classical in
end
section
variable {J κ:Type} [DecidableEq J] [DecidableEq κ]
noncomputable def lkD:List J->List D->J->Option D
 |k::ks,d::ds,j=>if k=j then some d else lkD ks ds j
 |_,_,_=>none
noncomputable def ptD (ks:List J)(ds:List D)(j:J)(d:D):List J×List D:=if ks.contains j then(ks,List.zipWith (fun k x=>if k=j then d else x) ks ds)else(ks++[j],ds++[d])
variable {K:W.Frag} {G:Hp} {em:J->κ}
theorem zl3 (inj:∀a b,em a=em b->a=b):∀{ks:List J} {ds:List D} {ys:List (κ×V)} {j:J} {d:D},ys.map (·.1)=ks.map em->RepL K G (ys.map (·.2)) ds->lkD ks ds j=some d->∃v,valV ys (em j)=some v/\RepD K G v d
 |[],_,_,_,_,_,_,h=>by cases h
 |_::_,[],_,_,_,_,_,h=>by cases h
 |k::ks,x::ds,[],j,d,e,_,_=>by cases e
 |k::ks,x::ds,y::ys,j,d,e,⟨z,zs,e1,r1,r2⟩,h=>by
  cases e1
  have e2:=List.cons.inj e
  unfold lkD at h
  by_cases q:k=j
  ·rw[if_pos q]at h;cases h
   subst q
   exact⟨y.2,zkb e2.1,r1⟩
  ·rw[if_neg q]at h
   obtain⟨v,h1,h2⟩:=zl3 inj e2.2 r2 h
   refine⟨v,?_,h2⟩
   rw[zio fun z=>q (inj _ _ (e2.1.symm.trans z)),h1]
theorem zoa (inj:∀a b,em a=em b->a=b):∀{ks:List J} {ds:List D} {ys:List (κ×V)} {j:J},ys.map (·.1)=ks.map em->RepL K G (ys.map (·.2)) ds->lkD ks ds j=none->valV ys (em j)=none
 |[],_,[],_,_,_,_=>rfl
 |[],_,_::_,_,e,_,_=>by cases e
 |_::_,_,[],_,e,_,_=>by cases e
 |k::ks,[],y::ys,_,_,r,_=>by cases r
 |k::ks,x::ds,y::ys,j,e,⟨z,zs,e1,r1,r2⟩,h=>by
  cases e1
  have e2:=List.cons.inj e
  unfold lkD at h
  by_cases q:k=j
  ·rw[if_pos q]at h;cases h
  ·rw[if_neg q]at h
   rw[zio fun z=>q (inj _ _ (e2.1.symm.trans z)),zoa inj e2.2 r2 h]
theorem zoD (inj:∀a b,em a=em b->a=b){ks:List J}{ds:List D}{ys:List (κ×V)}{j:J}(e:ys.map (·.1)=ks.map em)(r:RepL K G (ys.map (·.2)) ds):(valV ys (em j)).isSome=(lkD ks ds j).isSome:=by
 cases h:lkD ks ds j with
 |none=>rw[zoa inj e r h];rfl
 |some d=>obtain⟨v,h1,_⟩:=zl3 inj e r h;rw[h1];rfl
theorem pt_rep (inj:∀a b,em a=em b->a=b){ks:List J}{ds:List D}{ys:List (κ×V)}{j:J}{v:V}{d:D}(e:ys.map (·.1)=ks.map em)(r:RepL K G (ys.map (·.2)) ds)(rv:RepD K G v d):
  (putK ys (em j) v).map (·.1)=(ptD ks ds j d).1.map em/\RepL K G ((putK ys (em j) v).map (·.2)) (ptD ks ds j d).2:=by
 have any:(ys.any fun kv=>decide (kv.1=em j))=ks.contains j:=by
  clear r
  induction ys generalizing ks with
  |nil=>cases ks with
   |nil=>rfl
   |cons _ _=>cases e
  |cons y ys ih=>cases ks with
   |nil=>cases e
   |cons k ks=>
    have e2:=List.cons.inj e
    rw[List.any_cons,ih e2.2,List.contains_cons]
    congr 1
    by_cases q:j=k
    ·subst q;simp[e2.1]
    ·rw[decide_eq_false (fun z=>q (inj _ _ (e2.1.symm.trans z)).symm)]
     simp[q]
 unfold putK ptD
 rw[any]
 by_cases q:ks.contains j=true
 ·rw[if_pos q,if_pos q]
  constructor
  ·rw[List.map_map,<-e]
   apply List.map_congr_left
   intro a _
   simp only[Function.comp]
   split<;>rfl
  ·clear any q
   rw[List.map_map]
   induction ys generalizing ks ds with
   |nil=>cases ks with
    |nil=>exact RepL.nil
    |cons _ _=>cases e
   |cons y ys ih=>cases ks with
    |nil=>cases e
    |cons k ks=>
     have e2:=List.cons.inj e
     cases ds with
     |nil=>cases r
     |cons x ds=>
      obtain⟨z,zs,e1,r1,r2⟩:=r
      cases e1
      refine RepL.cons ?_ (ih e2.2 r2)
      simp only[Function.comp]
      by_cases q:k=j
      ·rw[if_pos q,if_pos (by rw[<-q];exact e2.1)];exact rv
      ·rw[if_neg q,if_neg fun z=>q (inj _ _ (e2.1.symm.trans z))];exact r1
 ·rw[if_neg q,if_neg q]
  rw[List.map_append,List.map_append,List.map_append,e]
  exact⟨rfl,r.append (.cons rv .nil)⟩
end
theorem kI_inj (a b:Int)(h:kI a=kI b):a=b:=by cases h;rfl
theorem zlh (a b:List Int)(h:a.map kI=b.map kI):a=b:=by
 induction a generalizing b with
 |nil=>cases b with
  |nil=>rfl
  |cons _ _=>cases h
 |cons x a ih=>cases b with
  |nil=>cases h
  |cons y b=>
   have:=List.cons.inj h
   rw[kI_inj _ _ this.1,ih b this.2]
noncomputable def Sl.dic:Sl->Option (List Int×List D)
 | .tre (.dic ks ds)=>some (ks,ds)
 | .ptr (.dic ks ds)=>some (ks,ds)
 | .val (.dic ks ds)=>some (ks,ds)
 |_=>none
noncomputable def tDI (j:Nat)(neg:Bool)(mk:ME):MT:=fun ρ=>(mk ρ).bind fun p=>match p.1 with
 | .int k=>(p.2[j]?.bind Sl.dic).map fun q=>(((lkD q.1 q.2 k).isSome !=neg),p.2)
 |_=>none
noncomputable def fzD (j:Nat)(ρ:R):R:=match ρ[j]? with
 |some (.tre (.dic ks ds))=>ρ.set j (.val (.dic ks ds))
 |_=>ρ
noncomputable def Ch.sl:Ch->Sl
 | .d x=> .val x
 | .l ds=> .own ds
 | .t xss=> .tre (.lst (xss.map .l))
noncomputable def putCs:List Nat->List Ch->R->R
 |i::is,c::cs,ρ=>putCs is cs (ρ.set i c.sl)
 |_,_,ρ=>ρ
end M
namespace M
open L2 PySem PySem.Spec
open PyProof.Rows hiding St
open Classical in
noncomputable def fMT (N:Nat)(m:MS):List D->T->List D->Option (Sl×List D):=fun cs t ds=>(m (.par cs:: .tre t::(ds.map .val++List.replicate (N-(ds.length+2)) .emp))).bind fun p=>match p.1,(p.2[0]?:Option Sl)with
 |Fl.ret r,some (Sl.par out)=>some (r,out)
 |Fl.next,some (Sl.par out)=>some (.val .non,out)
 |_,_=>none
noncomputable abbrev MP':=R->Option (List Ch×R)
end M
namespace M
open L2 PySem PySem.Spec
open PyProof.Rows hiding St
noncomputable def Ch.D:Ch->M.D
 | .d x=>x
 | .l ds=> .lst ds
 | .t xss=> .lst (xss.map .lst)
noncomputable def sTA (i j:Nat):MS:=fun ρ=>match ρ[i]?,ρ[j]? with
 |some (.tre (.lst cs)),some (.own ds)=>if cs.length<16777216 then some (.next,(ρ.set j .emp).set i (.tre (.lst (cs++[.l ds]))))else none
 |_,_=>none
noncomputable abbrev MQ:=R->Option D
noncomputable def fzT (j:Nat)(ρ:R):R:=match ρ[j]? with
 |some (.tre (.lst cs))=>ρ.set j (.val (.lst (cs.map Ch.D)))
 |_=>ρ
section
variable {X:Cx} {x y:Str} {pos p' q' tpos:Pos}
variable {e:Expr} {es:List Expr} {ma:MA} {k k' n:Nat} {F:List D->Option Sl}
variable {a b:Expr} {mi mk:MQ}
noncomputable def sPar (i j:Nat)(ma:MA):MS:=fun ρ=>(ma ρ).bind fun p=>match p.1 with
 |[c,d]=>some (.next,(p.2.set i (.val c)).set j (.val d))
 |_=>none
end
end M
namespace M
local macro_rules | `(tactic| ac_rfl) => `(tactic| first | exact M.nA (by decide) | exact M.nB (by decide) | exact M.nC (by decide) | exact M.nL (by assumption) | exact Nat.ne_of_lt (by assumption) | lia)
open L2 PySem PySem.Spec
open PyProof.Rows hiding St
open Sem (wp)
variable {a b u:Value} {Q E:Value->Shared->Prop} {i:Nat} {prog:Program} {w:World} {A:Around} {s:Shared} {tg:Expr} {K:W.Frag} {X:Cx} {p pos:Pos}
noncomputable abbrev zef (h:Heap)(z TI TO:Addr)(f0:Value)(b:Bool):Prop:=h.get? z=some {cls:= .type "zip",data:= .fields #[f0,.bool b,.bool false,.ref TI,.ref TO]}
noncomputable def ZipAt (h:Heap)(z TI TO:Addr):Prop:=∃f0 b,zef h z TI TO f0 b/\(f0= .none\/∃T:Nat,f0=rawInt T)
section
variable {prog:Program} {w:World} {A:Around} {E:Value->Shared->Prop} {s:Shared}
theorem znR {a:Addr}{Q:Option Obj->Shared->Prop}(h:Q (s.heap.get? a) s):wpAny (model prog w) A (loadIfAlive a) Q E s:=fun Γ p hΓ=>by
 show Sem.wp _ _ (Sem.loadIfAlive a Sem.pure) _ _ p s
 rw[Sem.wp_loadIfAlive]
 exact(wpAny_pure (M:=model prog w) (A:=A) (E:=E) h) Γ p hΓ
theorem znY {z TI TO:Addr}{f0:Value}{b:Bool}(hz:zef s.heap z TI TO f0 b)(hf:f0= .none\/∃T:Nat,f0=rawInt T){Q:Bool->Shared->Prop}(h1:Q true s)
  (h2:∀h',zef h' z TI TO f0 true->Heap.SameBut z s.heap h'->Q false {s with heap:=h'}):wpAny (model prog w) A (Builtin.SmallTypes.ownedTupleIsFree (.ref z)) Q E s:=by
 unfold Builtin.SmallTypes.ownedTupleIsFree
 refine wpAny_bind (wpAny_field hz rfl (x:=f0) rfl ?_)
 rcases hf with rfl|⟨T,rfl⟩
 ·exact wpAny_pure h1
 ·refine(?_:wpAny _ _ (loadIfAlive _>>=_) _ _ _)
  refine wpAny_bind (znR ?_)
  cases e:s.heap.get? (T:Int).toNat with
  |none=>exact wpAny_pure h1
  |some o=>
   refine(?_:wpAny _ _ (field (.ref z) 1>>=_) _ _ _)
   refine wpAny_bind (wpAny_field hz rfl (x:= .bool b) rfl ?_)
   cases b
   ·refine(?_:wpAny _ _ (setField (.ref z) 1 (.bool true)>>=_) _ _ _)
    exact wpAny_bind (wpAny_setField_rec hz (by simp) fun g1 z1 s1=>wpAny_pure (h2 g1 z1 s1))
   ·exact wpAny_pure (h2 s.heap hz ⟨rfl,fun _ _=>rfl⟩)
variable {N a1 a2:Nat} {n1 n2:Nat} {P1 P2:Nat->Value->Prop} {S1 S2:Nat->Heap->Prop}
theorem znt (D1:Draws prog w A N [N,a1] n1 P1 S1)(D2:Draws prog w A (N+1) [N+1,a2] n2 P2 S2)(l1:a1<N)(l2:a2<N)
  (hz':ZipAt s.heap (N+4) (N+2) (N+3)) (hTI:IsPair s.heap (N+2) (.ref N) (.ref (N+1))) (hTO:IsPair s.heap (N+3) a b) (h1:S1 i s.heap) (h2:S2 i s.heap) (i1:i<n1) (i2:i<n2)
  (k : ∀ x y h' tk, P1 i x -> P2 i y -> ZipAt h' (N + 4) (N + 2) (N + 3) -> (∃ a b, IsPair h' (N + 3) a b) -> S1 (i + 1) h' -> S2 (i + 1) h' -> IsPair h' s.heap.objs.size x y ->
   (∀c o,c≠N->c≠N+1->c≠N+3->c≠N+4->s.heap.get? c=some o->h'.get? c=some o)->Q (.ref s.heap.objs.size) {s with heap:=h',toks:=tk}):
  wpAny (model prog w) A (Builtin.«zip.__next__» ⟨[.ref (N+4)],[]⟩) (fun fin s'=>∃v,fin= .done (.ret v)/\Q v s') E s:=by
 obtain⟨f0,bb,hz,hf⟩:=hz'
 refine(?_:wpAny _ _ (field (.ref (N+4)) 2>>=_) _ _ _)
 refine wpAny_bind (wpAny_field hz rfl (x:= .bool false) rfl (?_:wpAny _ _ (field (.ref (N+4)) 3>>=_) _ _ _))
 refine wpAny_bind (wpAny_field hz rfl (x:= .ref (N+2)) rfl (wpAny_bind (wpAny_seqItems hTI rfl (?_:wpAny _ _ (Builtin.SmallTypes.ownedTupleIsFree (.ref (N+4))>>=_) _ _ _))))
 refine wpAny_bind (znY hz hf ?_ fun g0 z0 s0=>?_)
 ·simp only[if_true]
  refine wpAny_bind (wpAny_rule (wpAny_bind (wpAny_field hz rfl (x:= .ref (N+3)) rfl (wpAny_bind (wpAny_setField_rec hz (by simp) fun g1 z1 s1=>wpAny_bind ?_)))))
  replace z1:zef g1 (N+4) (N+2) (N+3) .ellipsis bb:=z1
  simp only[List.zipIdx_cons,List.zipIdx_nil,List.forIn_cons,List.forIn_nil]
  refine wpAny_bind (wpAny_bind (wpAny_onRaise (?_:wpAny _ _ (Builtin.SmallTypes.nextOf (.ref N)>>=_) _ _ _)))
  have e1:S1 i g1:=D1.frame _ _ _ h1 fun b hb o e=>(s1.2 b (nin2 hb (by ac_rfl) (by ac_rfl))).trans e
  refine wpAny_bind (D1.item i _ _ _ i1 e1 fun x g2 t2 p1 f2 s2=>wpAny_pure ?_)
  have q2:IsPair g2 (N+3) a b:=(s2.2 _ (ne_ (by ac_rfl))).trans ((s1.2 _ (ne_ (by ac_rfl))).trans hTO)
  refine wpAny_bind (wpAny_seqItems q2 rfl (wpAny_bind (wpAny_updateSeq_pair q2 fun g3 q3 s3=>wpAny_bind (wpAny_letGo (wpAny_pure ?_)))))
  replace q3:IsPair g3 (N+3) x b:=q3
  refine wpAny_bind (wpAny_bind (wpAny_onRaise (?_:wpAny _ _ (Builtin.SmallTypes.nextOf (.ref (N+1))>>=_) _ _ _)))
  have e3:S2 i g3:=D2.frame _ _ _ h2 fun b hb o e=>(s3.2 b (nin2 hb (by ac_rfl) (by ac_rfl))).trans ((s2.2 b (nin2 hb (by ac_rfl) (by ac_rfl))).trans ((s1.2 b (nin2 hb (by ac_rfl) (by ac_rfl))).trans e))
  refine wpAny_bind (D2.item i _ _ _ i2 e3 fun y g4 t4 p2 f4 s4=>wpAny_pure ?_)
  have q4:IsPair g4 (N+3) x b:=(s4.2 _ (ne_ (by ac_rfl))).trans q3
  refine wpAny_bind (wpAny_seqItems q4 rfl (wpAny_bind (wpAny_updateSeq_pair q4 fun g5 q5 s5=>wpAny_bind (wpAny_letGo (wpAny_pure (wpAny_pure ?_))))))
  replace q5:IsPair g5 (N+3) x y:=q5
  have sz:g5.objs.size=s.heap.objs.size:=by rw[s5.1,s4.1,s3.1,s2.1,s1.1]
  have z5:zef g5 (N+4) (N+2) (N+3) .ellipsis bb:=(s5.2 _ (ne_ (by ac_rfl))).trans ((s4.2 _ (ne_ (by ac_rfl))).trans ((s3.2 _ (ne_ (by ac_rfl))).trans ((s2.2 _ (ne_ (by ac_rfl))).trans z1)))
  have zl:(N+4:Nat)<g5.objs.size:=Heap.lt_size z5
  have k5:∀c o,c≠N->c≠N+1->c≠N+3->c≠N+4->s.heap.get? c=some o->g5.get? c=some o:=fun c o c1 c2 c3 c4 e=>(s5.2 c c3).trans ((s4.2 c c2).trans ((s3.2 c c3).trans ((s2.2 c c1).trans ((s1.2 c c4).trans e))))
  have f5:S1 (i+1) g5:=D1.frame _ _ _ f2 fun b hb o e=>(s5.2 b (nin2 hb (by ac_rfl) (by ac_rfl))).trans ((s4.2 b (nin2 hb (by ac_rfl) (by ac_rfl))).trans ((s3.2 b (nin2 hb (by ac_rfl) (by ac_rfl))).trans e))
  have f5':S2 (i+1) g5:=D2.frame _ _ _ f4 fun b hb o e=>(s5.2 b (nin2 hb (by ac_rfl) (by ac_rfl))).trans e
  refine wpAny_bind (wpAny_seqItems q5 rfl (wpAny_bind (wpAny_newTuple (?_:wpAny _ _ (Builtin.SmallTypes.ownedTupleHandOut (.ref (N+4)) (.ref g5.objs.size)>>=_) _ _ _))))
  refine wpAny_bind ?_
  unfold Builtin.SmallTypes.ownedTupleHandOut
  refine wpAny_bind (wpAny_setField_rec (show zef (g5.push {cls:= .type "tuple",data:= .seq #[x,y]}) (N+4) (N+2) (N+3) .ellipsis bb from Heap.get?_push_of_some _ z5) (by simp) fun g7 z7 s7=>?_)
  replace z7:zef g7 (N+4) (N+2) (N+3) (rawInt g5.objs.size) bb:=z7
  refine wpAny_setField_rec z7 (by simp) fun g8 z8 s8=>wpAny_pure ⟨_,rfl,?_⟩
  replace z8:zef g8 (N+4) (N+2) (N+3) (rawInt g5.objs.size) false:=z8
  have up:∀c o,c≠N+4->g5.get? c=some o->g8.get? c=some o:=fun c o c1 e=>(s8.2 c c1).trans ((s7.2 c c1).trans (Heap.get?_push_of_some _ e))
  have T8:IsPair g8 g5.objs.size x y:=(s8.2 _ (ne_ (by ac_rfl))).trans ((s7.2 _ (ne_ (by ac_rfl))).trans (Heap.get?_push_size _ rfl))
  rw[sz]at z8 T8
  refine(?_:Q (.ref g5.objs.size) _)
  rw[sz]
  exact k x y g8 _ p1 p2 ⟨_,_,z8,.inr ⟨_,rfl⟩⟩ ⟨_,_,up _ _ (ne_ (by ac_rfl)) q5⟩ (D1.frame _ _ _ f5 fun b hb o e=>up b o (nin2 hb (by ac_rfl) (by ac_rfl)) e) (D2.frame _ _ _ f5' fun b hb o e=>up b o (nin2 hb (by ac_rfl) (by ac_rfl)) e) T8 fun c o c1 c2 c3 c4 e=>up c o c4 (k5 c o c1 c2 c3 c4 e)
 ·simp only[Bool.false_eq_true,if_false]
  simp only[List.forIn_toArray,List.forIn_cons,List.forIn_nil]
  have e0:S1 i g0:=D1.frame _ _ _ h1 fun b hb o e=>(s0.2 b (nin2 hb (by ac_rfl) (by ac_rfl))).trans e
  refine wpAny_bind (wpAny_bind (wpAny_bind (wpAny_holding (?_:wpAny _ _ (Builtin.SmallTypes.nextOf (.ref N)>>=_) _ _ _))))
  refine wpAny_bind (D1.item i _ _ _ i1 e0 fun x g2 t2 p1 f2 s2=>wpAny_pure (wpAny_pure ?_))
  refine wpAny_bind (wpAny_bind (wpAny_holding (?_:wpAny _ _ (Builtin.SmallTypes.nextOf (.ref (N+1))>>=_) _ _ _)))
  have e3:S2 i g2:=D2.frame _ _ _ h2 fun b hb o e=>(s2.2 b (nin2 hb (by ac_rfl) (by ac_rfl))).trans ((s0.2 b (nin2 hb (by ac_rfl) (by ac_rfl))).trans e)
  refine wpAny_bind (D2.item i _ _ _ i2 e3 fun y g4 t4 p2 f4 s4=>wpAny_pure (wpAny_pure (wpAny_pure ?_)))
  have sz:g4.objs.size=s.heap.objs.size:=by rw[s4.1,s2.1,s0.1]
  have z4:zef g4 (N+4) (N+2) (N+3) f0 true:=(s4.2 _ (ne_ (by ac_rfl))).trans ((s2.2 _ (ne_ (by ac_rfl))).trans z0)
  have f4':S1 (i+1) g4:=D1.frame _ _ _ f2 fun b hb o e=>(s4.2 b (nin2 hb (by ac_rfl) (by ac_rfl))).trans e
  refine(?_:wpAny _ _ (newTuple [x,y]>>=_) _ _ _)
  refine wpAny_bind (wpAny_newTuple (wpAny_pure ⟨_,rfl,?_⟩))
  have k5:∀c o,c≠N->c≠N+1->c≠N+3->c≠N+4->s.heap.get? c=some o->g4.get? c=some o:=fun c o c1 c2 c3 c4 e=>(s4.2 c c2).trans ((s2.2 c c1).trans ((s0.2 c c4).trans e))
  have q4:IsPair g4 (N+3) a b:=(s4.2 _ (ne_ (by ac_rfl))).trans ((s2.2 _ (ne_ (by ac_rfl))).trans ((s0.2 _ (ne_ (by ac_rfl))).trans hTO))
  have T8:IsPair (g4.push {cls:= .type "tuple",data:= .seq #[x,y]}) g4.objs.size x y:=Heap.get?_push_size _ rfl
  rw[sz]at T8
  refine(?_:Q (.ref g4.objs.size) _)
  rw[sz]
  exact k x y _ _ p1 p2 ⟨_,_,Heap.get?_push_of_some _ z4,hf⟩ ⟨_,_,Heap.get?_push_of_some _ q4⟩ (D1.frame _ _ _ f4' fun b hb o e=>Heap.get?_push_of_some _ e) (D2.frame _ _ _ f4 fun b hb o e=>Heap.get?_push_of_some _ e) T8 fun c o c1 c2 c3 c4 e=>Heap.get?_push_of_some _ (k5 c o c1 c2 c3 c4 e)
theorem znz {Q:Fin->Shared->Prop}(D1:Draws prog w A N [N,a1] n1 P1 S1)(D2:Draws prog w A (N+1) [N+1,a2] n2 P2 S2)(l1:a1<N)(l2:a2<N)
  (hz':ZipAt s.heap (N+4) (N+2) (N+3)) (hTI:IsPair s.heap (N+2) (.ref N) (.ref (N+1))) (hTO:IsPair s.heap (N+3) a b) (h1:S1 i s.heap) (h2:S2 i s.heap) (hi:i=n1\/(i<n1/\i=n2))
  (k:∀h' e tk,(∀c o,c≠N->c≠N+1->c≠N+3->c≠N+4->s.heap.get? c=some o->h'.get? c=some o)->(∃o,h'.get? e=some o/\o.cls= .type "StopIteration")->E (.ref e) {s with heap:=h',toks:=tk}):
  wpAny (model prog w) A (Builtin.«zip.__next__» ⟨[.ref (N+4)],[]⟩) Q E s:=by
 obtain⟨f0,bb,hz,hf⟩:=hz'
 refine(?_:wpAny _ _ (field (.ref (N+4)) 2>>=_) _ _ _)
 refine wpAny_bind (wpAny_field hz rfl (x:= .bool false) rfl (?_:wpAny _ _ (field (.ref (N+4)) 3>>=_) _ _ _))
 refine wpAny_bind (wpAny_field hz rfl (x:= .ref (N+2)) rfl (wpAny_bind (wpAny_seqItems hTI rfl (?_:wpAny _ _ (Builtin.SmallTypes.ownedTupleIsFree (.ref (N+4))>>=_) _ _ _))))
 refine wpAny_bind (znY hz hf ?_ fun g0 z0 s0=>?_)
 ·simp only[if_true]
  refine wpAny_bind (wpAny_rule (wpAny_bind (wpAny_field hz rfl (x:= .ref (N+3)) rfl (wpAny_bind (wpAny_setField_rec hz (by simp) fun g1 z1 s1=>wpAny_bind ?_)))))
  replace z1:zef g1 (N+4) (N+2) (N+3) .ellipsis bb:=z1
  simp only[List.zipIdx_cons,List.zipIdx_nil,List.forIn_cons,List.forIn_nil]
  refine wpAny_bind (wpAny_bind (wpAny_onRaise (?_:wpAny _ _ (Builtin.SmallTypes.nextOf (.ref N)>>=_) _ _ _)))
  have e1:S1 i g1:=D1.frame _ _ _ h1 fun b hb o e=>(s1.2 b (nin2 hb (by ac_rfl) (by ac_rfl))).trans e
  rcases hi with rfl|⟨i1,rfl⟩
  ·refine wpAny_bind (D1.done _ _ _ e1 fun g2 e x2 he=>?_)
   obtain⟨oe,hoe,hce⟩:=he
   have z2:zef g2 (N+4) (N+2) (N+3) .ellipsis bb:=x2 _ _ (ne_ (by ac_rfl)) z1
   have hez:e≠N+4:=fun x=>by subst x;rw[z2]at hoe;cases hoe;simp at hce
   exact wpAny_setField_rec z2 (by simp) fun g3 _ s3=>k g3 e _ (fun c o c1 c2 c3 c4 x=>(s3.2 c c4).trans (x2 c o c1 ((s1.2 c c4).trans x))) ⟨oe,(s3.2 _ hez).trans hoe,hce⟩
  ·refine wpAny_bind (D1.item i _ _ _ i1 e1 fun x g2 t2 p1 f2 s2=>wpAny_pure ?_)
   have q2:IsPair g2 (N+3) a b:=(s2.2 _ (ne_ (by ac_rfl))).trans ((s1.2 _ (ne_ (by ac_rfl))).trans hTO)
   refine wpAny_bind (wpAny_seqItems q2 rfl (wpAny_bind (wpAny_updateSeq_pair q2 fun g3 q3 s3=>wpAny_bind (wpAny_letGo (wpAny_pure ?_)))))
   replace q3:IsPair g3 (N+3) x b:=q3
   refine wpAny_bind (wpAny_bind (wpAny_onRaise (?_:wpAny _ _ (Builtin.SmallTypes.nextOf (.ref (N+1))>>=_) _ _ _)))
   have e3:S2 i g3:=D2.frame _ _ _ h2 fun b hb o e=>(s3.2 b (nin2 hb (by ac_rfl) (by ac_rfl))).trans ((s2.2 b (nin2 hb (by ac_rfl) (by ac_rfl))).trans ((s1.2 b (nin2 hb (by ac_rfl) (by ac_rfl))).trans e))
   refine wpAny_bind (D2.done _ _ _ e3 fun g4 e x4 he=>?_)
   obtain⟨oe,hoe,hce⟩:=he
   have z3:zef g3 (N+4) (N+2) (N+3) .ellipsis bb:=(s3.2 _ (ne_ (by ac_rfl))).trans ((s2.2 _ (ne_ (by ac_rfl))).trans z1)
   have z4:zef g4 (N+4) (N+2) (N+3) .ellipsis bb:=x4 _ _ (ne_ (by ac_rfl)) z3
   have hez:e≠N+4:=fun x=>by subst x;rw[z4]at hoe;cases hoe;simp at hce
   exact wpAny_setField_rec z4 (by simp) fun g5 _ s5=>k g5 e _ (fun c o c1 c2 c3 c4 x=>(s5.2 c c4).trans (x4 c o c2 ((s3.2 c c3).trans ((s2.2 c c1).trans ((s1.2 c c4).trans x))))) ⟨oe,(s5.2 _ hez).trans hoe,hce⟩
 ·simp only[Bool.false_eq_true,if_false,List.forIn_toArray,List.forIn_cons,List.forIn_nil]
  have e0:S1 i g0:=D1.frame _ _ _ h1 fun b hb o e=>(s0.2 b (nin2 hb (by ac_rfl) (by ac_rfl))).trans e
  refine wpAny_bind (wpAny_bind (wpAny_bind (wpAny_holding (?_:wpAny _ _ (Builtin.SmallTypes.nextOf (.ref N)>>=_) _ _ _))))
  rcases hi with rfl|⟨i1,rfl⟩
  ·refine wpAny_bind (D1.done _ _ _ e0 fun g2 e x2 he=>?_)
   exact k g2 e _ (fun c o c1 c2 c3 c4 x=>x2 c o c1 ((s0.2 c c4).trans x)) he
  ·refine wpAny_bind (D1.item i _ _ _ i1 e0 fun x g2 t2 p1 f2 s2=>wpAny_pure (wpAny_pure ?_))
   refine wpAny_bind (wpAny_bind (wpAny_holding (?_:wpAny _ _ (Builtin.SmallTypes.nextOf (.ref (N+1))>>=_) _ _ _)))
   have e3:S2 i g2:=D2.frame _ _ _ h2 fun b hb o e=>(s2.2 b (nin2 hb (by ac_rfl) (by ac_rfl))).trans ((s0.2 b (nin2 hb (by ac_rfl) (by ac_rfl))).trans e)
   refine wpAny_bind (D2.done _ _ _ e3 fun g4 e x4 he=>?_)
   exact k g4 e _ (fun c o c1 c2 c3 c4 x=>x4 c o c2 ((s2.2 c c1).trans ((s0.2 c c4).trans x))) he
end
theorem ZipAt.at {h h':Heap}{z TI TO:Addr}(x:ZipAt h z TI TO)(e:∀o,h.get? z=some o->h'.get? z=some o):ZipAt h' z TI TO:=by
 obtain⟨f0,b,q,r⟩:=x
 exact⟨f0,b,e _ q,r⟩
theorem zlj {z TI TO:Addr}(hz:ZipAt s.heap z TI TO)(h:Q (.ref z) s):wpAny (model prog w) A (pyIter (.ref z)) Q E s:=by
 obtain⟨f0,b,q,r⟩:=hz
 have hT:s.TypeIs (.ref z) "zip":=⟨_,q,rfl⟩
 exact wpAny_pyIter_slot hT F.slot_zip_iter (wpAny_call_entry F.slot_zip_iter hT F.entry_zip_iter (wpAny_pure ⟨.ref z,rfl,"zip",.builtin "zip.__next__",hT,F.slot_zip_next.lookup,h⟩) (F.args_zip_iter_1 (.ref z)))
theorem letGoZ {z TI TO:Addr}{Q:Unit->Shared->Prop}(hz:ZipAt s.heap z TI TO)(h1:Q () s)
  (h2:∀h',ZipAt h' z TI TO->Heap.SameBut z s.heap h'->Q () {s with heap:=h'}):wpAny (model prog w) A (letOwnedTupleGo tg (.ref z) u) Q E s:=by
 obtain⟨f0,b,q,r⟩:=hz
 have core:∀a:Addr,wpAny (model prog w) A (do
   let o<-load z
   match o.cls,o.data with
    |Value.type n,Data.fields vs=>
     if(["enumerate","zip","dict_itemiterator","dict_reverseitemiterator","odict_iterator","itertools.zip_longest","itertools.pairwise"].contains n&&vs[0]? ==some (rawInt ↑a))=true then do
      rule "for.unpacks-the-owned-tuple"
      updateField z 0 Value.none
     else pure ()
    |x,x_1=>pure ()) Q E s:=fun a=>by
  refine wpAny_bind (wpAny_load q ?_)
  dsimp only
  split
  ·refine wpAny_bind (wpAny_rule ?_)
   refine(?_:wpAny _ _ (setField (.ref z) 0 .none) _ _ _)
   exact wpAny_setField_rec q (by simp) fun g1 z1 s1=>h2 g1 ⟨_,_,z1,.inl rfl⟩ s1
  ·exact wpAny_pure h1
 unfold letOwnedTupleGo
 cases tg<;>first|exact wpAny_pure h1|(cases u<;>first|exact wpAny_pure h1|exact core _)
theorem zni {P:Program}{w:World}(t1:Bool)(a1:Nat)(t2:Bool)(a2:Nat)(n N:Nat)(l1:a1<N)(l2:a2<N):
  Turn P w K tg (Itz2 K t1 a1 t2 a2 n) ([N,N+1,N+2,N+3,N+4]:List Nat) (N+4:Nat)
   (fun i h=>i<=n/\ZipAt h (N+4:Nat) (N+2:Nat) (N+3:Nat)/\IsPair h (N+2:Nat) (.ref N) (.ref (N+1:Nat))/\(∃a b,IsPair h (N+3:Nat) a b)/\SrcIt t1 h N a1 i/\SrcIt t2 h (N+1:Nat) a2 i) where
 mem:=by simp
 obj:=fun i h st b hb=>by
  obtain⟨-,h4,h2,⟨a,c,h3⟩,h0,h1⟩:=st
  simp only[List.mem_cons,List.not_mem_nil,or_false]at hb
  rcases hb with rfl|rfl|rfl|rfl|rfl
  ·exact h0.obj
  ·exact h1.obj
  ·exact⟨_,h2,fun v z=>by cases z⟩
  ·exact⟨_,h3,fun v z=>by cases z⟩
  ·obtain⟨f0,bb,z4,-⟩:=h4
   exact⟨_,z4,fun v z=>by cases z⟩
 keep:=fun i h h' st k=>by
  obtain⟨hi,h4,h2,⟨a,c,h3⟩,h0,h1⟩:=st
  exact⟨hi,h4.at fun o e=>k _ (by simp) o e,k _ (by simp) _ h2,⟨a,c,k _ (by simp) _ h3⟩,h0.at fun o e=>k _ (by simp) o e,h1.at fun o e=>k _ (by simp) o e⟩
 item:=by
  intro X hP hw hK hc i pins s σ H E I hf st hg
  subst hP hw hK
  obtain⟨hi,h4,h2,⟨a,c,h3⟩,h0,h1⟩:=st
  obtain⟨hn,xs,ys,q1,q2,en⟩:=hg
  obtain⟨us,ru,hu,zu⟩:=q1.heap I
  obtain⟨ws,rw',hw',zw⟩:=q2.heap I
  have lu:=ru.length
  have lw:=rw'.length
  have D1:=zbj (prog:=X.prog) (w:=X.w) (A:=X.A.in1) (t:=t1) (I.ok.hd hc) N a1 (ne_ (by ac_rfl)) us.toArray
  have D2:=zbj (prog:=X.prog) (w:=X.w) (A:=X.A.in1) (t:=t2) (I.ok.hd hc) (N+1) a2 (ne_ (by ac_rfl)) ws.toArray
  have z4:=h4
  obtain⟨f0,bb,z4,-⟩:=z4
  have hT:s.TypeIs (.ref (N+4:Nat)) "zip":=⟨_,z4,rfl⟩
  unfold pyNext
  refine wpAny_bind (wpAny_attempt (wpAny_callSpecial?_slot (name:=Str.ofString "__next__") hT F.slot_zip_next (wpAny_call_entry F.slot_zip_next hT F.entry_zip_next
   (znt D1 D2 l1 l2 h4 h2 h3 ⟨h0,hu⟩ ⟨h1,hw'⟩ (by simp;lia) (by simp;lia) fun x y h' tk p1 p2 g4 g3 g0 g1 gT kk=>wpAny_pure ?_) (F.args_zip_next_1 _))))
  obtain⟨x1,hx1⟩:∃x1,xs[i]? =some x1:=⟨xs[i]'(by lia),List.getElem?_eq_getElem _⟩
  obtain⟨x2,hx2⟩:∃x2,ys[i]? =some x2:=⟨ys[i]'(by lia),List.getElem?_eq_getElem _⟩
  obtain⟨u1,hu1,r1⟩:=ru.get hx1
  obtain⟨u2,hu2,r2⟩:=rw'.get hx2
  have e1:u1=x:=by
   have:us[i]? =some x:=by simpa using p1
   rw[hu1]at this;cases this;rfl
  have e2:u2=y:=by
   have:ws[i]? =some y:=by simpa using p2
   rw[hu2]at this;cases this;rfl
  subst e1 e2
  refine⟨_,rfl,?_⟩
  have fin:∀h'',ZipAt h'' (N+4:Nat) (N+2:Nat) (N+3:Nat)->Heap.SameBut (N+4:Nat) h' h''->∃x H',L2.Inv X pins σ H' {s with heap:=h'',toks:=tk}/\RelV x (.ref s.heap.objs.size)/\(Itz2 X.K t1 a1 t2 a2 n).yld i H x H'/\(i+1<=n/\ZipAt h'' (N+4:Nat) (N+2:Nat) (N+3:Nat)/\IsPair h'' (N+2:Nat) (.ref N) (.ref (N+1:Nat))/\(∃a b,IsPair h'' (N+3:Nat) a b)/\SrcIt t1 h'' N a1 (i+1)/\SrcIt t2 h'' (N+1:Nat) a2 (i+1))/\∀b∈([N,N+1,N+2,N+3,N+4]:List Nat),H' b=none:=fun h'' z'' sb=>by
   have lz:N+4<s.heap.objs.size:=Heap.lt_size z4
   have kk':∀b o,b∉([N,N+1,N+2,N+3,N+4]:List Nat)->s.heap.get? b=some o->h''.get? b=some o:=fun b o hb e=>by
    obtain⟨c1,c2,c3,c4⟩:=nin4 hb
    exact(sb.2 b c4).trans (kk b o c1 c2 c3 c4 e)
   have I1:=zlX (t':=tk) (vs:=[x1,x2]) (its:=[u1,u2]) I kk' hf (fun b hb=>by
    have:b=N\/b=N+1\/b=N+2\/b=N+3\/b=N+4:=by simpa using hb
    exact Nat.lt_of_le_of_lt (show(b:Nat)<=N+4 by rcases this with h|h|h|h|h<;>rw[h]<;>simp) lz) ((sb.2 _ (ne_ (by ac_rfl))).trans gT) (by simp;rw[sizeLine_eq];decide) (.cons r1 (.cons r2 .nil))
   refine⟨.ref s.heap.objs.size,_,I1,rfl,⟨_,x1,x2,I.hok.fresh (Nat.le_refl _),rfl,rfl,fun xs' ys' b1 b2=>?_⟩,⟨hn,z'',(sb.2 _ (ne_ (by ac_rfl))).trans (kk _ _ (ne_ (by ac_rfl)) (ne_ (by ac_rfl)) (ne_ (by ac_rfl)) (ne_ (by ac_rfl)) h2),(let⟨a',b',e'⟩:=g3;⟨a',b',(sb.2 _ (ne_ (by ac_rfl))).trans e'⟩),SrcIt.at g0.1 fun o e=>(sb.2 _ (ne_ (by ac_rfl))).trans e,SrcIt.at g1.1 fun o e=>(sb.2 _ (ne_ (by ac_rfl))).trans e⟩,fun b hb=>?_⟩
   ·rw[SrcSq.inj I b1 q1,SrcSq.inj I b2 q2]
    exact⟨hx1,hx2⟩
   ·have:b=N\/b=N+1\/b=N+2\/b=N+3\/b=N+4:=by simpa using hb
    rw[zau (Nat.ne_of_lt (Nat.lt_of_le_of_lt (show(b:Nat)<=N+4 by rcases this with h|h|h|h|h<;>rw[h]<;>simp) lz))]
    exact(hf b hb).1
  exact letGoZ (s:={s with heap:=h',toks:=tk}) g4 (fin h' g4 ⟨rfl,fun _ _=>rfl⟩) fun h'' z'' sb=>fin h'' z'' sb
 done:=by
  intro X hP hw hK hc i pins s σ H E I hf st hg
  subst hP hw hK
  obtain⟨hi,h4,h2,⟨a,c,h3⟩,h0,h1⟩:=st
  obtain⟨hn,xs,ys,q1,q2,en⟩:=hg
  obtain⟨us,ru,hu,zu⟩:=q1.heap I
  obtain⟨ws,rw',hw',zw⟩:=q2.heap I
  have lu:=ru.length
  have lw:=rw'.length
  have D1:=zbj (prog:=X.prog) (w:=X.w) (A:=X.A.in1) (t:=t1) (I.ok.hd hc) N a1 (ne_ (by ac_rfl)) us.toArray
  have D2:=zbj (prog:=X.prog) (w:=X.w) (A:=X.A.in1) (t:=t2) (I.ok.hd hc) (N+1) a2 (ne_ (by ac_rfl)) ws.toArray
  have z4:=h4
  obtain⟨f0,bb,z4,-⟩:=z4
  have hT:s.TypeIs (.ref (N+4:Nat)) "zip":=⟨_,z4,rfl⟩
  unfold pyNext
  refine wpAny_bind (wpAny_attempt (wpAny_callSpecial?_slot (name:=Str.ofString "__next__") hT F.slot_zip_next (wpAny_call_entry F.slot_zip_next hT F.entry_zip_next
   (znz D1 D2 l1 l2 h4 h2 h3 ⟨h0,hu⟩ ⟨h1,hw'⟩ (by simp;lia) fun h' e tk kk he=>?_) (F.args_zip_next_1 _))))
  obtain⟨o,ho,hce⟩:=he
  refine wpAny_bind (wpAny_isInstance (T:="StopIteration") (b:=true) ⟨o,ho,hce⟩ isSubtype_stop (wpAny_pure ⟨rfl,zjE I (fun b o hb e=>?_) hf⟩))
  obtain⟨c1,c2,c3,c4⟩:=nin4 hb
  exact kk b o c1 c2 c3 c4 e
 self:=fun _ _ _ _ _ st h=>zlj st.2.1 h
theorem pi_zip2N {a b:Expr}{ta:TA}(hg:Gl X "zip")(hm:X.mg "zip"=none)(ha:PA X [a,b] ta)(hs:starEach [a,b] X.env=(false,eval a X.env)::starEach [b] X.env:=by rfl)(hs2:(backTo pos (starEach [b] X.env)).any (·.1)=false:=by rfl):
  PI X tg (.Call (.Name "zip" p) [a,b] [] pos) (fun σ H R=>ta σ H fun vs H1=>∃t1 a1 xs t2 a2 ys,vs=[.ref a1,.ref a2]/\SrcSq t1 X.K H1 a1 xs/\SrcSq t2 X.K H1 a2 ys/\R (Itz2 X.K t1 a1 t2 a2 (min xs.length ys.length)) H1):=by
 intro pins s σ H R I h
 refine Call_ (ziC I hg hm zmv (PyProof.Rows.callWith_type1 (thn (ha pos pins s σ H _ I h) fun us s1 ⟨vs,H1,I1,r1,q1⟩=>?_) hs hs2))
 obtain⟨t1,a1,xs,t2,a2,ys,e,q1,q2,q⟩:=q1
 subst e
 cases r1 with
 |cons r rr=>
  cases rr with
  |cons r' rr=>
   cases rr
   cases r
   cases r'
   obtain⟨us,ru,hu,-⟩:=q1.heap I1
   obtain⟨ws,rw',hw',-⟩:=q2.heap I1
   refine zos hu hw' fun h' g4 g2 g3 g0 g1 kk=>wpAny_pyIter_zip g4 ⟨_,_,_,_,H1,rfl,I1.kept (t':=s1.toks) kk,zni t1 a1 t2 a2 (min xs.length ys.length) s1.heap.objs.size hu.lt hw'.lt,⟨Nat.zero_le _,⟨_,_,g4,.inl rfl⟩,g2,⟨_,_,g3⟩,g0,g1⟩,fun b hb=>?_,q⟩
   have:b=s1.heap.objs.size\/b=s1.heap.objs.size+1\/b=s1.heap.objs.size+2\/b=s1.heap.objs.size+3\/b=s1.heap.objs.size+4:=by simpa using hb
   have le:s1.heap.objs.size<=b:=by rcases this with h|h|h|h|h<;>rw[h]<;>simp
   exact I1.fpOk le (I1.hok.fresh le)
theorem zeG {a b:Expr}{ma:MA}(hm:X.mg "zip"=none)(ha:SA X [a,b] ma)(hg:Gl X "zip":=by rfl)(hs:starEach [a,b] X.env=(false,eval a X.env)::starEach [b] X.env:=by rfl)(hs2:(backTo pos (starEach [b] X.env)).any (·.1)=false:=by rfl):
  SIt X tg (.Call (.Name "zip" p) [a,b] [] pos) (iZ2 ma):=by
 obtain⟨t,pa,sa⟩:=ha
 refine⟨_,pi_zip2N hg hm pa hs hs2,fun B G H σ ρ ds ρ' Q I hm k=>?_⟩
 obtain⟨⟨es,ρ1⟩,e1,h2⟩:=zai hm
 dsimp only at h2
 refine sa B G H σ ρ es ρ1 _ I e1 fun G1 H1 vs I1 f1 r1=>?_
 split at h2
 ·obtain⟨xs,ex,h2⟩:=zai h2
  obtain⟨ys,ey,h2⟩:=zai h2
  cases h2
  obtain⟨x,y,rfl,rx,ry⟩:=r1.two
  obtain⟨t1,a1,us,rfl,s1,c1⟩:=zjA rx ex
  obtain⟨t2,a2,ws,rfl,s2,c2⟩:=zjA ry ey
  have n1:=c1.length
  have n2:=c2.length
  refine⟨t1,a1,us,t2,a2,ws,rfl,s1 _ I1.fz,s2 _ I1.fz,k _ G1 H1 I1 f1 ⟨fun H i f hi=>?_,fun H i x H' f y d e=>?_,fun H i f hi=>?_⟩⟩
  ·exact⟨by simp[zlv]at hi;lia,us,ws,s1 _ f,s2 _ f,rfl⟩
  ·obtain⟨p,x1,x2,hp,eh,ex',q⟩:=y
   obtain⟨q1,q2⟩:=q us ws (s1 _ f) (s2 _ f)
   simp only[zlv,List.getElem?_zipWith]at e
   split at e
   ·rename_i d1 d2 g1 g2
    cases e
    obtain⟨v1,b1,r1⟩:=c1.get g1
    obtain⟨v2,b2,r2⟩:=c2.get g2
    rw[q1]at b1;cases b1
    rw[q2]at b2;cases b2
    exact .inr ⟨p,_,_,hp,eh,ex',rfl,⟨_,_,rfl,r1,_,_,rfl,r2,rfl⟩⟩
   ·cases e
  ·exact⟨by simp[zlv]at hi;lia,us,ws,s1 _ f,s2 _ f,rfl⟩
 ·cases h2
end M
namespace M
open L2 PySem PySem.Spec
open PyProof.Rows hiding St
theorem ndk {l:List Str}(h:decide l.Nodup=true:=by kernel_rfl):l.Nodup:=of_decide_eq_true h
theorem us_0 {p:List Value->Prop}(h:p []):∀us:List Value,us.length=0->p us:=fun us e=>by
 cases us with
 |nil=>exact h
 |cons=>cases e
theorem us_s {p:List Value->Prop}{n:Nat}(h:∀(a:Value) (us:List Value),us.length=n->p (a::us)):∀us:List Value,us.length=n+1->p us:=fun us e=>by
 cases us with
 |nil=>cases e
 |cons a us=>exact h a us (Nat.succ.inj e)
section
variable {P:Program} {w:World} {K:W.Frag} {mg:Str->Option Value} {base hp:Heap} {x:Str} {st:Stmt} {f:Addr}
noncomputable def FnAt (K:W.Frag)(x:Str)(st:Stmt):Prop:=∃f fd,W.nsIn K mainGlobals x=some (some (.ref f))/\Fun K x x st f fd
theorem FnAt.mk {oc:Value}{od an:Option Addr}{osl:Array (Option Value)}{kV doc pm cdv ct:Value}(a:W.nsIn K mainGlobals x=some (some (.ref f)))(l:K.lookup f=some ⟨oc,od,.func (W.fnOf x x (zfZ st) (zcY st) (zaP st) .none kV doc pm an cdv ct),osl⟩)
  (c:W.codeIn K cdv x=true) (k:W.keepIn K (.ref f)=true):FnAt K x st:=⟨f,_,a,fun_mk l c k⟩
noncomputable abbrev BindsAt (x:Str)(st:Stmt)(ps:List Str):Prop:=∀(kV doc pm:Value) (an:Option Addr) (cdv ct:Value) (us:List Value),us.length=ps.length->bindArgs (W.fnOf x x (zfZ st) (zcY st) (zaP st) .none kV doc pm an cdv ct) ⟨us,[]⟩=pure (ps.zip us)
theorem FnAt.law (h:FnAt K x st)(X:K.In hp)(G:hp.Ns mainGlobals mg)(hf:mg x=some (.ref f)):∃kV doc pm an cdv ct,Fun K x x st f (W.fnOf x x (zfZ st) (zcY st) (zaP st) .none kV doc pm an cdv ct):=by
 obtain⟨f',fd,a,T⟩:=h
 have e:=hf.symm.trans (W.mg_of X G a)
 cases e
 obtain⟨oc,od,kV,doc,pm,an,cdv,ct,osl,rfl,lk,hcd⟩:=id T.ex
 exact⟨kV,doc,pm,an,cdv,ct,T⟩
variable {N:List Str} {k n:Nat} {m:MS}
noncomputable abbrev Bd (P:Program)(w:World)(K:W.Frag)(mg:Str->Option Value)(base:Heap)(x:Str)(st:Stmt)(N:List Str)(k:Nat)(m:MS):Prop:=∀(f:Addr) (cdv:Value) (A:Around) (outer:List Env) (s:Shared) (H:Hp) (E:XK),Room k (A.deeper (PyProof.Rows.envOfC x (zaP st) s.heap.objs.size f cdv))->N.Nodup->SSs (cxOf CX0 P w K mg base N x (zaP st) f cdv A outer s H E).nox (zcY st) m
structure DefOk (x:Str) (st:Stmt) (N:List Str) (n:Nat):Prop where
 sc:FnScope N (N.take n) (zaP st)
 len:(N.take n).length=n
 le:n<=N.length
 bs:BindsAt x st (N.take n)
theorem lawP {fd:FuncData}(F:Fun K x x st f fd)(b:Bd P w K mg base x st N k m)(d:DefOk x st N n:=by exact⟨⟨rfl,rfl,rfl,by decide+kernel,rfl,by decide+kernel,by decide+kernel⟩,rfl,by decide,fun _ _ _ _ _ _=>by first|exact us_s fun _=>us_0 rfl|exact us_s fun _=>us_s fun _=>us_0 rfl|exact us_s fun _=>us_s fun _=>us_s fun _=>us_0 rfl|exact us_s fun _=>us_s fun _=>us_s fun _=>us_s fun _=>us_0 rfl|exact us_0 rfl|exact us_s fun _=>us_s fun _=>us_s fun _=>us_s fun _=>us_s fun _=>us_0 rfl⟩):FnOk P w K mg base CX0 (k+1) f fd (N.take n) (spP K n (fP N.length m)):=fnP_ok F d.sc d.len d.le fun cdv A outer s H E hr=>b _ cdv A outer s H E hr d.sc.nd
theorem fdP (X:K.In hp)(G:hp.Ns mainGlobals mg)(h:FnAt K x st)(b:Bd P w K mg base x st N k m)(d:DefOk x st N n:=by exact⟨⟨rfl,rfl,rfl,by decide+kernel,rfl,by decide+kernel,by decide+kernel⟩,rfl,by decide,fun _ _ _ _ _ _=>by first|exact us_s fun _=>us_0 rfl|exact us_s fun _=>us_s fun _=>us_0 rfl|exact us_s fun _=>us_s fun _=>us_s fun _=>us_0 rfl|exact us_s fun _=>us_s fun _=>us_s fun _=>us_s fun _=>us_0 rfl|exact us_0 rfl|exact us_s fun _=>us_s fun _=>us_s fun _=>us_s fun _=>us_s fun _=>us_0 rfl⟩):FD P w K mg base (k+1) x (spP K n (fP N.length m)):=
 let⟨f,fd,a,T⟩:=h
 ⟨⟨f,fd,_,fnP_ok T d.sc d.len d.le fun cdv A outer s H E hr=>b _ cdv A outer s H E hr d.sc.nd,W.mg_of X G a,T.kp,T.binds d.bs⟩⟩
theorem fdM (X:K.In hp)(G:hp.Ns mainGlobals mg)(h:FnAt K x st)(b:Bd P w K mg base x st N k m)(d:DefOk x st N n:=by exact⟨⟨rfl,rfl,rfl,by decide+kernel,rfl,by decide+kernel,by decide+kernel⟩,rfl,by decide,fun _ _ _ _ _ _=>by first|exact us_s fun _=>us_0 rfl|exact us_s fun _=>us_s fun _=>us_0 rfl|exact us_s fun _=>us_s fun _=>us_s fun _=>us_0 rfl|exact us_s fun _=>us_s fun _=>us_s fun _=>us_s fun _=>us_0 rfl|exact us_0 rfl|exact us_s fun _=>us_s fun _=>us_s fun _=>us_s fun _=>us_s fun _=>us_0 rfl⟩):FD P w K mg base (k+1) x (spM K n (fM N.length m)):=
 let⟨f,fd,a,T⟩:=h
 ⟨⟨f,fd,_,fnM_ok T d.sc d.len d.le fun cdv A outer s H E hr=>b _ cdv A outer s H E hr d.sc.nd,W.mg_of X G a,T.kp,T.binds d.bs⟩⟩
end
end M
namespace M
open PySem
section
variable {prog:Program} {w:World} {A:Around} {E:Value->Shared->Prop} {s:Shared} {it d:Addr} {i ep:Nat} {es:Array DictEntry} {od:Obj}
theorem raw_item {Q:Option Value->Shared->Prop}(ki:s.heap.IsKeyIter it d i es.size ep)(g1:s.heap.get? d=some od)(g2:od.data= .dict es ep)(hi:i<es.size)
  (k:∀h',h'.IsKeyIter it d (i+1) es.size ep->Heap.SameBut it s.heap h'->Q (some es[i].key) {s with heap:=h'}):wpAny (model prog w) A (pyNext (.ref it)) Q E s:=by
 obtain⟨oi,q1,q2,q3⟩:=id ki
 have no:Builtin.Dict_items.ownsTuple "dict_keyiterator"=false:=by decide
 unfold pyNext
 refine wpAny_bind (wpAny_attempt (wpAny_callSpecial?_slot (name:=Str.ofString "__next__") ki.typeIs F.slot_dict_keyiterator_next (wpAny_call_entry F.slot_dict_keyiterator_next ki.typeIs F.entry_dict_keyiterator_next ?_ (F.args_dict_keyiterator_next_1 _))))
 refine wpAny_bind (wpAny_pure (wpAny_bind (wpAny_bind ?_)))
 first|refine wpAny_bind (wpAny_typeNameOfWhole_keyiter ki.typeIs (wpAny_pure ?_))|refine wpAny_bind (wpAny_typeNameOf_keyiter ki.typeIs (wpAny_pure ?_))
 refine wpAny_bind (wpAny_fieldsOf q1 q3 ?_)
 simp only[no,Bool.false_eq_true,if_false]
 show wpAny _ _ (if(Value.ref d==Value.none)=true then _ else _) _ _ s
 rw[if_neg (show ¬((Value.ref d==Value.none)=true)from Bool.false_ne_true)]
 refine wpAny_bind (wpAny_pure (wpAny_bind (wpAny_dictEntries g1 g2 ?_)))
 rw[if_neg (by simp)]
 refine wpAny_bind (wpAny_pure (wpAny_bind (wpAny_dictEpoch g1 g2 ?_)))
 rw[if_neg (by simp)]
 refine wpAny_pure ?_
 simp only[show ¬((i:Int)<0)from by lia,if_false,Int.toNat_natCast,Array.getElem?_eq_getElem hi]
 refine wpAny_bind ?_
 first|refine wpAny_bind (wpAny_typeNameOfWhole_keyiter ki.typeIs (wpAny_pure ?_))|refine wpAny_bind (wpAny_typeNameOf_keyiter ki.typeIs (wpAny_pure ?_))
 refine wpAny_bind (wpAny_isOneOf_keyiter ki.typeIs ?_)
 show wpAny _ _ (setField (.ref it) 1 (rawInt ((i:Int)+1))>>=_) _ _ s
 refine wpAny_bind (wpAny_setField q1 q3 (by simp) ?_)
 have ki':(s.heap.update it (Obj.mapFields (·.setIfInBounds 1 (rawInt ((i:Int)+1))))).IsKeyIter it d (i+1) es.size ep:=
  ⟨_,Heap.get?_update_self _ q1 (Obj.isFreed_of_fields (Obj.data_mapFields q3 _)),(Obj.cls_mapFields ..).trans q2,by rw[Obj.data_mapFields q3];simp[rawInt]⟩
 refine wpAny_bind (wpAny_holding (wpAny_bind (wpAny_isOneOf_keyiter (s:={s with heap:=s.heap.update it (Obj.mapFields (·.setIfInBounds 1 (rawInt ((i:Int)+1))))}) ki'.typeIs ?_)))
 show wpAny _ _ (pure es[i].key) _ _ _
 exact wpAny_pure (wpAny_pure ⟨_,rfl,wpAny_pure (k _ ki' (Heap.SameBut.update ..))⟩)
theorem raw_end {Q:Option Value->Shared->Prop}(hh:A.handled=none)(ki:s.heap.IsKeyIter it d i es.size ep)(g1:s.heap.get? d=some od)(g2:od.data= .dict es ep)(hi:es.size<=i)
  (k:∀h',Heap.ExtBut it s.heap h'->Q none {s with heap:=h'}):wpAny (model prog w) A (pyNext (.ref it)) Q E s:=by
 obtain⟨oi,q1,q2,q3⟩:=id ki
 have no:Builtin.Dict_items.ownsTuple "dict_keyiterator"=false:=by decide
 unfold pyNext
 refine wpAny_bind (wpAny_attempt (wpAny_callSpecial?_slot (name:=Str.ofString "__next__") ki.typeIs F.slot_dict_keyiterator_next (wpAny_call_entry F.slot_dict_keyiterator_next ki.typeIs F.entry_dict_keyiterator_next ?_ (F.args_dict_keyiterator_next_1 _))))
 refine wpAny_bind (wpAny_pure (wpAny_bind (wpAny_bind ?_)))
 first|refine wpAny_bind (wpAny_typeNameOfWhole_keyiter ki.typeIs (wpAny_pure ?_))|refine wpAny_bind (wpAny_typeNameOf_keyiter ki.typeIs (wpAny_pure ?_))
 refine wpAny_bind (wpAny_fieldsOf q1 q3 ?_)
 simp only[no,Bool.false_eq_true,if_false]
 show wpAny _ _ (if(Value.ref d==Value.none)=true then _ else _) _ _ s
 rw[if_neg (show ¬((Value.ref d==Value.none)=true)from Bool.false_ne_true)]
 refine wpAny_bind (wpAny_pure (wpAny_bind (wpAny_dictEntries g1 g2 ?_)))
 rw[if_neg (by simp)]
 refine wpAny_bind (wpAny_pure (wpAny_bind (wpAny_dictEpoch g1 g2 ?_)))
 rw[if_neg (by simp)]
 refine wpAny_pure ?_
 simp only[show ¬((i:Int)<0)from by lia,if_false,Int.toNat_natCast,Array.getElem?_eq_none hi]
 refine wpAny_bind ?_
 first|refine wpAny_bind (wpAny_typeNameOfWhole_keyiter ki.typeIs (wpAny_pure ?_))|refine wpAny_bind (wpAny_typeNameOf_keyiter ki.typeIs (wpAny_pure ?_))
 show wpAny _ _ (setField (.ref it) 0 .none>>=_) _ _ s
 refine wpAny_bind (wpAny_setField q1 q3 (by simp) ?_)
 show wpAny _ _ (newExc (.type "StopIteration") []>>=_) _ _ _
 refine wpAny_bind ?_
 simp only[newExc,newTuple]
 refine wpAny_bind (wpAny_newObj_type ?_ (by size_fits))
 refine wpAny_bind (m:=firstArgMember _ _) (wpAny_of_eq (a:=Value.none) (by first|rfl|(simp only[firstArgMember];rfl)) ?_)
 refine wpAny_newObj_type ?_ (by size_fits)
 simp only[raiseNew]
 refine wpAny_bind (wpAny_handled ?_)
 rw[show A.in1.handled=none from hh]
 refine wpAny_bind (wpAny_pure (wpAny_throw ?_))
 refine wpAny_bind (wpAny_isInstance (b:=true) (T:="StopIteration") ⟨_,Heap.get?_push_size _ rfl,rfl⟩ isSubtype_stop ?_)
 exact wpAny_pure (k _ (((Heap.SameBut.update ..).extBut.push _).push _))
theorem raw_iter {Q:Value->Shared->Prop}(nm:(d==sysModules)=false)(g1:s.heap.get? d=some od)(g0:od.ExactDict)(g2:od.data= .dict es ep)
  (k:Q (.ref s.heap.objs.size) {s with heap:=s.heap.push {cls:= .type "dict_keyiterator",data:= .fields #[.ref d,.int 0 0,.int es.size 0,.int ep 0]}}):wpAny (model prog w) A (pyIter (.ref d)) Q E s:=by
 have hT:s.TypeIs (.ref d) "dict":=⟨od,g1,g0.1⟩
 refine wpAny_pyIter_slot hT F.slot_dict_iter (wpAny_call_entry F.slot_dict_iter hT F.entry_dict_iter ?_ (F.args_dict_iter_1 _))
 unfold Builtin.«dict.__iter__»
 refine wpAny_bind ?_
 unfold Builtin.Dict.dictSlotNone
 refine wpAny_bind (wpAny_notOrdered_dict hT ?_)
 show wpAny _ _ (pure (Value.ref d)) _ _ s
 refine wpAny_pure ?_
 show wpAny _ _ (Builtin.Dict.showsAll d>>=_) _ _ s
 unfold Builtin.Dict.showsAll
 rw[if_neg (by rw[nm];exact Bool.false_ne_true)]
 refine wpAny_bind (wpAny_pure (wpAny_bind (wpAny_dictEntries g1 g2 (wpAny_bind (wpAny_dictEpoch g1 g2 ?_)))))
 refine wpAny_bind (wpAny_newObj_type (wpAny_pure ⟨_,rfl,"dict_keyiterator",_,⟨_,Heap.get?_push_size _ rfl,rfl⟩,F.slot_dict_keyiterator_next.lookup,?_⟩))
 simpa[rawInt]using k
end
end M
namespace M
open L2 PySem PySem.Spec
open PyProof.Rows hiding St
variable {k n ns:List Int} {u:Value} {v:V} {K:W.Frag} {tg:Expr} {B:Bs} {G H:Hp} {σ:St} {ρ:R} {j i:Nat} {s:Sl} {q:List (List Int)×List D} {d:D} {p:Addr} {ks:List (List Int)} {ds es:List D} {ov:Option (Option V)}
variable {P:Program} {w:World} {H G:Hp} {h:Heap} {a b:Addr} {o:Obj} {xs:List (List L2.Key×Addr×Value)} {ks:List (List Int)} {ys:List (List L2.Key×V)}
theorem th_eq (k:List Int):reduceHash (Builtin.Tuple.tupleHashOf ((k.map kI).map hI))=(tupleKind (zcg P w)).hash (k.map kI):=by
 have e:(k.map kI).map hI=(k.map kI).map (keyH w):=by rw[List.map_map,List.map_map];exact List.map_congr_left fun _ _=>rfl
 rw[e]
 rfl
theorem te_one {q:List L2.Key×Addr×Value}(e:q.1=k.map kI):(⟨reduceHash (Builtin.Tuple.tupleHashOf (q.1.map hI)),.ref q.2.1,q.2.2⟩:DictEntry)=entryOfKey (tupleKind (zcg P w)) q:=by
 unfold entryOfKey
 rw[e,th_eq (P:=P) (w:=w)]
theorem te_eq (kt:KT G ys xs)(e:ys.map (·.1)=ks.map (·.map kI)):(xs.map fun x=>(⟨reduceHash (Builtin.Tuple.tupleHashOf (x.1.map hI)),.ref x.2.1,x.2.2⟩:DictEntry))=xs.map (entryOfKey (tupleKind (zcg P w))):=by
  induction kt generalizing ks with
  |nil=>rw[List.map_nil,List.map_nil]
  | @cons p q ps qs h t ih=>
    cases ks with
    |nil=>cases e
    |cons k ks=>
      have e2:=List.cons.inj e
      rw[List.map_cons,List.map_cons,ih e2.2]
      exact congrArg (· ::_) (te_one (h.1.symm.trans e2.1))
theorem kn_at (ok:HOk P w H h)(e:H a=some (kn a o)):h.get? a=some o:=(show ObjOk P w H h a (kn a o)from ok a _ e).1
theorem kn_ok (e:h.get? a=some o):ObjOk P w H h a (kn a o):=⟨e,⟨o,e⟩,fun _ _ e1 k=>k o e1⟩
theorem DtI.of (d:DtI H a o xs ks ys)(ok:HOk P w H h)(e:H a=some (kn a o)):h.DictOfH (tupleKind (zcg P w)) a xs:=by
 obtain⟨h1,⟨es,ep,h2,h3⟩,h4⟩:=d.dn
 refine⟨o,es,ep,kn_at ok e,h1,h2,h3.trans (te_eq d.kt d.key),?_,h4⟩
 have all:∀{l:List (List L2.Key×V)} {m:List (List L2.Key×Addr×Value)},KT H l m->∀x∈m,(tupleKind (zcg P w)).is h x.1 x.2.1:=by
  intro l m q
  induction q with
  |nil=>intro x hx;exact nomatch hx
  | @cons p q ps qs hq t ih=>
   intro x hx
   rcases List.mem_cons.mp hx with e|hx
   ·subst e
    exact zkY ok (by rw[<-hq.1];exact hq.2.1)
   ·exact ih x hx
 exact all d.kt
theorem DtN.of (d:DtI H a o xs ks ys)(rv:RelV v u)(hb:H b=some (.tup ((k.map kI).map kV)))(dd:h.DictOfH (tupleKind (zcg P w)) a (storedH xs (k.map kI) b u)):∃o',h.get? a=some o'/\DtN o' (storedH xs (k.map kI) b u):=by
 obtain⟨o',es,ep,h1,h2,h3,h4,h5,h6⟩:=dd
 have kt:=KT.put d.kt (k.map kI) hb rv
 have key:∃ks':List (List Int),(putK ys (k.map kI) v).map (·.1)=ks'.map (·.map kI):=by
  unfold putK
  split
  ·refine⟨ks,?_⟩
   rw[<-d.key,List.map_map]
   refine List.map_congr_left fun p _=>?_
   show(if p.1=k.map kI then(p.1,v)else p).1=p.1
   split<;>rfl
  ·exact⟨ks++[k],by rw[List.map_append,List.map_append,d.key];rfl⟩
 obtain⟨ks',key⟩:=key
 exact⟨o',h1,h2,⟨es,ep,h3,h4.trans (te_eq kt key).symm⟩,h6⟩
noncomputable def Itk (d:Addr)(o:Obj)(xs:List (List L2.Key×Addr×Value)):It:=
 ⟨fun i H=>H d=some (kn d o)/\i<xs.length,fun i H x H'=>H'=H/\∃q,xs[i]? =some q/\x= .ref q.2.1,fun i H=>H d=some (kn d o)/\xs.length<=i⟩
theorem zm6 (d it:Addr)(dn:DtN o xs):Turn P w K tg (Itk d o xs) [it] it (fun i h=>∃es ep,o.data= .dict es ep/\h.IsKeyIter it d i xs.length ep) where
 mem:=by simp
 obj:=fun i h ⟨es,ep,_,st⟩ b hb=>by
  have e:b=it:=by simpa using hb
  subst e
  obtain⟨o,e,c,d⟩:=st
  exact⟨o,e,fun v z=>by rw[d]at z;cases z⟩
 keep:=fun i h h' ⟨es,ep,q,st⟩ k=>⟨es,ep,q,st.at fun o e=>k it (by simp) o e⟩
 item:=by
  intro X hP hw hK hc i pins s σ H E I hf ⟨es,ep,q,st⟩ hg
  subst hP hw hK
  have g:=kn_at I.hok hg.1
  obtain⟨h1,⟨es',ep',h2,he⟩,-⟩:=dn
  rw[h2]at q;cases q
  have hz:es.size=xs.length:=by have:=congrArg List.length he;simpa using this
  obtain⟨f0,f1,f2,f3,f4,f5⟩:=hf it (by simp)
  have hi:i<es.size:=by rw[hz];exact hg.2
  rw[<-hz]at st
  refine raw_item st g h2 hi fun h' st' sb=>?_
  have I1:Inv X pins σ H {s with heap:=h'}:=I.turned (t':=s.toks) (fun b o hb e=>(sb.2 b hb).trans e) f0 f1 f3 f4 f5
  obtain⟨o',e,c,d'⟩:=id st'
  have hx:xs[i]? =some (xs[i]'hg.2):=List.getElem?_eq_getElem hg.2
  have key:es[i].key= .ref (xs[i]'hg.2).2.1:=by
   have h1:es.toList[i]? =some es[i]:=by simp[hi]
   rw[he,List.getElem?_map,hx]at h1
   rw[<-Option.some.inj h1]
  rw[key]
  exact⟨_,rfl,znU (s:={s with heap:=h'}) e c d' (by decide) ⟨.ref (xs[i]'hg.2).2.1,H,I1,rfl,⟨rfl,_,hx,rfl⟩,⟨es,ep,h2,by rw[<-hz];exact st'⟩,fun b hb=>(hf b hb).1⟩⟩
 done:=by
  intro X hP hw hK hc i pins s σ H E I hf ⟨es,ep,q,st⟩ hg
  subst hP hw hK
  have g:=kn_at I.hok hg.1
  obtain⟨h1,⟨es',ep',h2,he⟩,-⟩:=dn
  rw[h2]at q;cases q
  have hz:es.size=xs.length:=by have:=congrArg List.length he;simpa using this
  obtain⟨f0,f1,f2,f3,f4,f5⟩:=hf it (by simp)
  rw[<-hz]at st
  exact raw_end (I.ok.hd hc) st g h2 (by rw[hz];exact hg.2) fun h' eb=>⟨rfl,I.turned (t':=s.toks) (fun b o hb e=>eb b o hb e) f0 f1 f3 f4 f5⟩
 self:=fun _ _ _ _ _ ⟨_,_,_,st⟩ h=>wpAny_pyIter_keyiter st h
noncomputable def iKnown (tl:TE):TI:=fun σ H R=>tl σ H fun x H1=>∃d o xs,x= .ref d/\H1 d=some (kn d o)/\DtN o xs/\(d==sysModules)=false/\R (Itk d o xs) H1
theorem pi_known {X:Cx}{tg l:Expr}{tl:TE}(hl:PE X l tl):PI X tg l (iKnown tl):=by
 intro pins s σ H R I h
 refine thn (hl pins s σ H _ I h) fun v s1 ⟨x,H1,I1,r1,q1⟩=>?_
 obtain⟨d,o,xs,e,hd,dn,ns,q⟩:=q1
 subst e
 cases r1
 have g:=kn_at I1.hok hd
 obtain⟨h1,⟨es,ep,h2,he⟩,-⟩:=id dn
 have hz:es.size=xs.length:=by have:=congrArg List.length he;simpa using this
 refine raw_iter ns g h1 h2 ?_
 refine⟨s1.heap.objs.size,[s1.heap.objs.size],_,_,H1,rfl,I1.kept (t':=s1.toks) fun b o e=>Heap.get?_push_of_some _ e,zm6 d _ dn,⟨es,ep,h2,_,Heap.get?_push_size _ rfl,rfl,by rw[hz];rfl⟩,fun b hb=>?_,q⟩
 have e:b=s1.heap.objs.size:=by simpa using hb
 subst e
 exact I1.fpOk (Nat.le_refl _) (I1.hok.fresh (Nat.le_refl _))
noncomputable def DtG (H:Hp)(x y:V)(r:Option V):Prop:=∃(a b:Addr) (o:Obj) (xs:List (List L2.Key×Addr×Value)) (ks:List (List Int)) (ys:List (List L2.Key×V)) (k:List Int),x= .ref a/\y= .ref b/\H a=some (kn a o)/\DtI H a o xs ks ys/\H b=some (.tup ((k.map kI).map kV))/\r=valV ys (k.map kI)
section
variable {X:Cx} {e i value:Expr} {td ty tv:TE} {pos pos':Pos}
noncomputable def tDGT (td ty:TE):TE:=fun σ H Q=>td σ H fun x H1=>ty σ H1 fun y H2=>∃v,DtG H2 x y (some v)/\Q v H2
theorem pe_dgetT (hu:X.A.units+1<cLine)(ho:PE X e td)(hi:PE X i ty)(hs:NoSl i):PE X (.Subscript e i pos) (tDGT td ty):=by
 intro pins s σ H Q I h
 refine subD_of PySem.F.slot_dict_getitem.lookup hs (thn (ho pins s σ H _ I h) fun u s1 ⟨x,H1,I1,rx,q1⟩=>thn (hi pins s1 σ H1 _ I1 q1) fun iv s2 ⟨y,H2,I2,ry,v,g,q2⟩=>?_)
 obtain⟨a,b,o,xs,ks,ys,k,rfl,rfl,g1,g2,g3,g4⟩:=g
 obtain rfl:u=Value.ref a:=rx
 obtain rfl:iv=Value.ref b:=ry
 have dd:=g2.of I2.hok g1
 obtain⟨w',hw,rw'⟩:=RelO.some_of (v:=v) (o:=(atKey xs (k.map kI)).map (·.2)) (by rw[g4];exact KT.val g2.kt _)
 obtain⟨p,hp,hp2⟩:=Option.map_eq_some_iff.mp hw
 refine⟨dd.typeIs,wpAny_getItem_heap (tupleKind_room_in1 hu) (zkY I2.hok g3) dd hp ?_⟩
 rw[hp2]
 exact⟨v,H2,I2.tok _,rw',q2⟩
noncomputable def tDNT (ty td:TE):TE:=fun σ H Q=>ty σ H fun y H1=>td σ H1 fun x H2=>∃r,DtG H2 x y r/\Q (.bl (!r.isSome)) H2
theorem zm5 (hu:X.A.units+1<cLine)(hi:PE X i ty)(ho:PE X e td):PC X .NotIn i e (tDNT ty td):=by
 intro pins s σ H Q I h
 refine thn (hi pins s σ H _ I h) fun iv s1 ⟨y,H1,I1,ry,q1⟩=>thn (ho pins s1 σ H1 _ I1 q1) fun u s2 ⟨x,H2,I2,rx,r,g,q2⟩=>?_
 obtain⟨a,b,o,xs,ks,ys,k,rfl,rfl,g1,g2,g3,g4⟩:=g
 obtain rfl:u=Value.ref a:=rx
 obtain rfl:iv=Value.ref b:=ry
 have dd:=g2.of I2.hok g1
 refine wpAny_notIn_heap (tupleKind_room_in1 hu) (zkY I2.hok g3) g2.sys dd ?_
 have q:=(KT.val g2.kt (k.map kI)).isSome_eq
 rw[Option.isSome_map]at q
 rw[<-q,<-g4]
 exact⟨.bl (!r.isSome),H2,I2.tok _,rfl,q2⟩
noncomputable def DtP (ys:List (List L2.Key×V))(xs:List (List L2.Key×Addr×Value))(b:Addr)(k:List Int)(v:V)(xs':List (List L2.Key×Addr×Value)):Prop:=∀G:Hp,KT G ys xs->G b=some (.tup ((k.map kI).map kV))->KT G (putK ys (k.map kI) v) xs'
noncomputable def sDPt (td ty tv:TE):TS:=fun D σ H=>tv σ H fun v H1=>td σ H1 fun x H2=>ty σ H2 fun y H3=>∃(a b:Addr) (o:Obj) (xs:List (List L2.Key×Addr×Value)) (ks:List (List Int)) (ys:List (List L2.Key×V)) (k:List Int),x= .ref a/\y= .ref b/\H3 a=some (kn a o)/\DtI H3 a o xs ks ys/\H3 b=some (.tup ((k.map kI).map kV))/\∀o' xs',DtN o' xs'->DtP ys xs b k v xs'->D.nx σ (upd H3 a (kn a o'))
theorem ps_dputT (hu:X.A.units+1<cLine)(ho:PE X e td)(hi:PE X i ty)(hv:PE X value tv)(hs:swapsWith value (some (.Subscript e i pos')) pos.line X.env=pure false):
  PS X (.Assign [.Subscript e i pos'] value pos) (sDPt td ty tv):=by
 intro pins s σ H D I h
 refine wpAny_Assign_Subscript (thn (hv pins s σ H _ I h) fun r s1 ⟨v,H1,I1,rv,q1⟩=>thn (ho pins s1 σ H1 _ I1 q1) fun u s2 ⟨x,H2,I2,rx,q2⟩=>thn (hi pins s2 σ H2 _ I2 q2) fun iv s3 ⟨y,H3,I3,ry,a,b,o,xs,ks,ys,k,e1,e2,g1,g2,g3,q3⟩=>?_) hs
 subst e1 e2
 obtain rfl:u=Value.ref a:=rx
 obtain rfl:iv=Value.ref b:=ry
 have hz:xs.length<=sizeLine:=by rw[<-Paired.length g2.kt];exact g2.len
 refine wpAny_setItem_heap (hsz:=hz) (tupleKind_room_in1 hu) (zkY I3.hok g3) (g2.of I3.hok g1) fun h' dd' hs=>?_
 obtain⟨o',go,dn⟩:=DtN.of g2 rv g3 dd'
 exact⟨σ,_,zoB I3 (by rw[g1];exact True.intro) hs ⟨o',go⟩ (kn_ok go),q3 o' _ dn fun G kt gb=>KT.put kt _ gb rv⟩
noncomputable def tDNewt:TE:=fun _ H Q=>∀p o,H p=none->(p==sysModules)=false->DtN o []->Q (.ref p) (upd H p (kn p o))
theorem pe_dnewt:PE X (.Dict [] [] pos) tDNewt:=fun pins s σ H Q I h=>
 wpAny_Dict_empty ⟨.ref s.heap.objs.size,_,I.laid (a:=s.heap.objs.size) (o:=kn s.heap.objs.size {cls:= .type "dict",data:= .dict #[]}) (t':=s.toks) (fun _ _ q=>Heap.get?_push_of_some _ q) (Nat.le_refl _) (kn_ok (Heap.get?_push_size _ rfl)),rfl,h _ _ (I.hok.fresh (Nat.le_refl _)) (beq_eq_false_iff_ne.mpr (Ne.symm (Nat.ne_of_lt I.big))) ⟨⟨rfl,rfl,rfl⟩,⟨#[],0,rfl,rfl⟩,List.nodup_nil⟩⟩
noncomputable def tD1T (tk tv:TE):TE:=fun σ H Q=>∀p o,H p=none->(p==sysModules)=false->DtN o []->zo9 [(tk,tv)] σ (upd H p (kn p o)) fun ps H2=>∃(b:Addr) (k:List Int) (v:V),ps=[(.ref b,v)]/\H2 p=some (kn p o)/\H2 b=some (.tup ((k.map kI).map kV))/\∀o' xs',DtN o' xs'->DtP [] [] b k v xs'->Q (.ref p) (upd H2 p (kn p o'))
theorem zpc {k v:Expr}{tk tv:TE}(hu:X.A.units+1<cLine)(hk:PE X k tk)(hv:PE X v tv):PE X (.Dict [some k] [v] pos) (tD1T tk tv):=by
 intro pins s σ H Q I q
 have ns:(s.heap.objs.size==sysModules)=false:=beq_eq_false_iff_ne.mpr (Ne.symm (Nat.ne_of_lt I.big))
 have d0:DtN {cls:= .type "dict",data:= .dict #[]} []:=⟨⟨rfl,rfl,rfl⟩,⟨#[],0,rfl,rfl⟩,List.nodup_nil⟩
 have I1:=I.laid (a:=s.heap.objs.size) (o:=kn s.heap.objs.size {cls:= .type "dict",data:= .dict #[]}) (h':=s.heap.push {cls:= .type "dict",data:= .dict #[]}) (t':=s.toks) (fun _ _ q=>Heap.get?_push_of_some _ q) (Nat.le_refl _) (kn_ok (Heap.get?_push_size _ rfl))
 refine wpAny_Dict_any rfl rfl (by simp) (by simp) (thn (pps_cons hk hv pps_nil pins _ σ _ _ I1 (q _ _ (I.hok.fresh (Nat.le_refl s.heap.objs.size)) ns d0)) fun ws s2 ⟨ps,H2,I2,rel,b,k,v,e1,g1,g2,q2⟩=>?_)
 subst e1
 cases rel with
 | @cons _ w' _ _ r1 rt=>
 cases rt
 obtain⟨wk,wv⟩:=w'
 obtain rfl:wk=Value.ref b:=r1.1
 have d1:DtI H2 s.heap.objs.size {cls:= .type "dict",data:= .dict #[]} [] [] []:=⟨ns,d0,Nat.zero_le _,rfl,.nil⟩
 unfold storeAll
 rw[List.forIn_cons]
 refine wpAny_bind (wpAny_bind (wpAny_dictSet_heap (hsz:=Nat.zero_le _) (by show _<cLine;lia) (zkY I2.hok g2) (d1.of I2.hok g1) fun h' dd' hs=>wpAny_pure ?_))
 show wpAny _ _ (forIn ([]:List (Value×Value)) PUnit.unit _) _ _ _
 rw[List.forIn_nil]
 refine wpAny_pure ?_
 obtain⟨o',go,dn⟩:=DtN.of d1 r1.2 g2 dd'
 exact⟨.ref s.heap.objs.size,_,zoB I2 (by rw[g1];exact True.intro) hs ⟨o',go⟩ (kn_ok go),rfl,q2 o' _ dn fun G kt gb=>KT.put kt _ gb r1.2⟩
end
noncomputable def Sl.dit:Sl->Option (List (List Int)×List D)
 | .tre (.dit ks ds)=>some (ks,ds)
 | .ptr (.dit ks ds)=>some (ks,ds)
 | .val (.dit ks ds)=>some (ks,ds)
 |_=>none
noncomputable def keyT:D->Option (List Int)
 | .tup es=>zb8 es
 |_=>none
theorem SI.dit (I:SI K B G H σ ρ)(e:ρ[j]? =some s)(h:s.dit=some q):∃p ys o xs,σ[j]? =some (some (.ref p))/\H p=some (kn p o)/\DtI G p o xs q.1 ys/\RepL K G (ys.map (·.2)) q.2:=by
 have tr:∀{t:T},s.tree=some t->t= .dit q.1 q.2->∃p ys o xs,σ[j]? =some (some (.ref p))/\H p=some (kn p o)/\DtI G p o xs q.1 ys/\RepL K G (ys.map (·.2)) q.2:=fun{t} h1 h2=>by
  subst h2
  obtain⟨v,A,k1,⟨p,ys,o,xs,rfl,e2,e3,e4,-⟩,_⟩:=I.tree e h1
  exact⟨p,ys,o,xs,k1,e2,e3,e4⟩
 cases s with
 |tre t=>cases t with
  |dit ks ds=>cases h;exact tr rfl rfl
  |_=>cases h
 |ptr t=>cases t with
  |dit ks ds=>cases h;exact tr rfl rfl
  |_=>cases h
 |val d=>cases d with
  |dit ks ds=>
   cases h
   obtain⟨v,k1,a,ys,o,xs,rfl,e2,e3,e4⟩:=I.slot j _ e
   exact⟨a,ys,o,xs,k1,I.fz _ _ e2,e3,e4⟩
  |_=>cases h
 |_=>cases h
theorem zkd (r:RepD K G v d)(e:keyT d=some k):∃b,v= .ref b/\G b=some (.tup ((k.map kI).map kV)):=by
 cases d with
 |tup es=>
  obtain⟨b,xs,rfl,h,rl⟩:=r
  cases zga e
  rw[RepL.ints_eq rl]at h
  refine⟨b,rfl,h.trans ?_⟩
  rw[List.map_map]
  rfl
 |_=>cases e
noncomputable def tDIT (j:Nat)(neg:Bool)(mk:ME):MT:=fun ρ=>(mk ρ).bind fun p=>(keyT p.1).bind fun k=>(p.2[j]?.bind Sl.dit).map fun q=>(((lkD q.1 q.2 k).isSome !=neg),p.2)
noncomputable def eDGT (j:Nat)(mk:ME):ME:=fun ρ=>if(ρ[j]?.bind Sl.dit).isSome then(mk ρ).bind fun p=>(keyT p.1).bind fun k=>(p.2[j]?.bind Sl.dit).bind fun q=>(lkD q.1 q.2 k).map fun d=>(d,p.2)else none
noncomputable def sDPT (j:Nat)(mk me:ME):MS:=fun ρ=>(me ρ).bind fun p=>if(p.2[j]?.bind Sl.dit).isSome then(mk p.2).bind fun q=>(keyT q.1).bind fun k=>q.2[j]?.bind fun s=>match s.tree with
  |some (.dit ks ds)=>if ks.length<16777216 then some (.next,q.2.set j (s.putT (.dit (ptD ks ds k p.1).1 (ptD ks ds k p.1).2)))else none
  |_=>none else none
noncomputable def sDNT (i:Nat):MS:=fun ρ=>some (.next,ρ.set i (.tre (.dit [] [])))
noncomputable def sDNT1 (i:Nat)(mk me:ME):MS:=fun ρ=>(mk ρ).bind fun p=>(keyT p.1).bind fun k=>(me p.2).bind fun q=>some (.next,q.2.set i (.tre (.dit [k] [q.1])))
noncomputable def iDKT (j:Nat):MA:=fun ρ=>match ρ[j]? with
 |some (.val (.dit ks ds))=>some (ks.map fun k=> .tup (k.map .int),ρ)
 |_=>none
noncomputable def eKn (j:Nat):ME:=fun ρ=>match ρ[j]? with
 |some (.tre (.dit ks ds))=>some (.dit ks ds,ρ.set j (.val (.dit ks ds)))
 |some (.val d)=>some (d,ρ)
 |_=>none
noncomputable def iCt (ds:List D):MA:=fun ρ=>some (ds,ρ)
section
variable {X:Cx} {x:Str} {a e:Expr} {tg:Expr} {mk me:ME} {pos p' tpos:Pos}
theorem zm9 (j:Nat)(hu:X.A.units+64<cLine)(ha:SE X a mk)(hN:X.N[j]? =some x:=by rfl)(hv:Vis X.env.scope x:=by first|exact Or.inl rfl|exact Or.inr (Or.inl rfl)|exact Or.inr (Or.inr rfl))(hd:(x==("__debug__":Str))=false:=by decide)
  (hcd:(x==("__classdict__":Str))=false:=by decide) (hm:behindInMarks .NotIn (.Name x p')=false:=by rfl):STt X (.Compare a [.NotIn] [.Name x p'] pos) (tDIT j true mk):=by
 obtain⟨t,pa,sa⟩:=ha
 refine⟨_,pt_cmp (zm5 (by lia) pa (zff hN hv hd hcd)) hm,fun B G H σ ρ b ρ' Q I hm k=>?_⟩
 obtain⟨⟨y,ρ1⟩,e1,hm⟩:=zai hm
 refine sa B G H σ ρ y ρ1 _ I e1 fun G1 H1 v I1 f1 r1=>?_
 obtain⟨n,en,hm⟩:=zai hm
 obtain⟨q,e2,e3⟩:=zaJ hm
 cases e3
 obtain⟨s,e4,e5⟩:=zai e2
 obtain⟨p,ys,o,xs,k1,k2,k3,k4⟩:=I1.dit e4 e5
 obtain⟨b,rfl,hb⟩:=zkd r1 en
 refine⟨.ref p,k1,valV ys (n.map kI),⟨p,b,o,xs,q.1,ys,n,rfl,rfl,k2,k3.mono I1.fz,I1.fz _ _ hb,rfl⟩,_,rfl,?_⟩
 rw[zoD zlh k3.key k4]
 have:=k G1 H1 I1 f1
 simpa using this
theorem zhx (j:Nat)(hu:X.A.units+64<cLine)(ha:SE X a mk)(hs:NoSl a:=by exact fun _ _=>rfl)(hN:X.N[j]? =some x:=by rfl)(hv:Vis X.env.scope x:=by first|exact Or.inl rfl|exact Or.inr (Or.inl rfl)|exact Or.inr (Or.inr rfl))(hd:(x==("__debug__":Str))=false:=by decide)
  (hcd:(x==("__classdict__":Str))=false:=by decide):SE X (.Subscript (.Name x p') a pos) (eDGT j mk):=by
 obtain⟨t,pa,sa⟩:=ha
 refine⟨_,pe_dgetT (by lia) (zff hN hv hd hcd) pa hs,fun B G H σ ρ d ρ' Q I hm k=>?_⟩
 unfold eDGT at hm
 split at hm
 ·rename_i hso
  obtain⟨q0,hso⟩:=Option.isSome_iff_exists.mp hso
  obtain⟨s0,e0,d0⟩:=zai hso
  obtain⟨p,_,_,_,k1,_⟩:=I.dit e0 d0
  obtain⟨⟨y,ρ1⟩,e1,hm⟩:=zai hm
  refine⟨.ref p,k1,sa B G H σ ρ y ρ1 _ I e1 fun G1 H1 v I1 f1 r1=>?_⟩
  obtain⟨n,en,hm⟩:=zai hm
  obtain⟨q,e2,hm⟩:=zai hm
  obtain⟨d',e3,e4⟩:=zaJ hm
  cases e4
  obtain⟨s,e5,e6⟩:=zai e2
  obtain⟨p',ys,o,xs,m1,m2,m3,m4⟩:=I1.dit e5 e6
  rw[k1]at m1;cases m1
  obtain⟨b,rfl,hb⟩:=zkd r1 en
  obtain⟨w,h1,h2⟩:=zl3 zlh m3.key m4 e3
  exact⟨w,⟨p,b,o,xs,q.1,ys,n,rfl,rfl,m2,m3.mono I1.fz,I1.fz _ _ hb,h1.symm⟩,k G1 H1 w I1 f1 h2⟩
 ·cases hm
theorem DtI.put {p b:Addr}{o o':Obj}{xs xs':List (List L2.Key×Addr×Value)}{ys:List (List L2.Key×V)}(i:DtI G p o xs ks ys)(r:RepL K G (ys.map (·.2)) ds)(rv:RepD K G v d)(hl:ks.length<16777216)(hb:G b=some (.tup ((n.map kI).map kV)))(dn:DtN o' xs')(dp:DtP ys xs b n v xs'):DtI G p o' xs' (ptD ks ds n d).1 (putK ys (n.map kI) v)/\RepL K G ((putK ys (n.map kI) v).map (·.2)) (ptD ks ds n d).2:=by
 obtain⟨m1,m2⟩:=pt_rep zlh (j:=n) i.key r rv
 have len:ys.length=ks.length:=by have:=congrArg List.length i.key;simpa using this
 refine⟨⟨i.sys,dn,?_,m1,dp G i.kt hb⟩,m2⟩
 have:=zlg ys (n.map kI) v
 rw[sizeLine_eq];lia
theorem zmd (j:Nat)(hu:X.A.units+64<cLine)(he:SE X e me)(ha:SE X a mk)(hN:X.N[j]? =some x:=by rfl)(hv:Vis X.env.scope x:=by first|exact Or.inl rfl|exact Or.inr (Or.inl rfl)|exact Or.inr (Or.inr rfl))(hd:(x==("__debug__":Str))=false:=by decide)
    (hcd:(x==("__classdict__":Str))=false:=by decide) (hs:swapsWith e (some (.Subscript (.Name x p') a tpos)) pos.line X.env=pure false:=by rfl):SS X (.Assign [.Subscript (.Name x p') a tpos] e pos) (sDPT j mk me):=by
  obtain⟨t,pa,sa⟩:=ha
  obtain⟨u,pe,se⟩:=he
  refine⟨_,ps_dputT (by lia) (zff hN hv hd hcd) pa pe hs,fun B G H σ ρ fl ρ' E I hm k=>?_⟩
  obtain⟨⟨d,ρ1⟩,e1,hm⟩:=zai hm
  refine se B G H σ ρ d ρ1 _ I e1 fun G1 H1 v I1 f1 r1=>?_
  split at hm
  . rename_i hso
    obtain⟨q0,hso⟩:=Option.isSome_iff_exists.mp hso
    obtain⟨s0,e0,d0⟩:=zai hso
    obtain⟨p,_,_,_,k1,_⟩:=I1.dit e0 d0
    obtain⟨⟨y,ρ2⟩,e2,hm⟩:=zai hm
    refine⟨.ref p,k1,sa B G1 H1 σ ρ1 y ρ2 _ I1 e2 fun G2 H2 w I2 f2 r2=>?_⟩
    obtain⟨n,en,hm⟩:=zai hm
    obtain⟨s,e3,hm⟩:=zai hm
    split at hm
    . rename_i ks ds q
      split at hm
      . rename_i hl
        cases hm
        obtain⟨b,rfl,hb⟩:=zkd r2 en
        obtain⟨v2,A,h1,h2,h3,h4,h5⟩:=I2.tree e3 q
        rw[k1]at h1;cases h1
        obtain⟨p2,ys,o,xs,z,g2,g3,g4,rfl⟩:=h2
        cases z
        refine⟨p,b,o,xs,ks,ys,n,rfl,rfl,g2,g3.mono I2.fz,I2.fz _ _ hb,fun o' xs' dn dp=>?_⟩
        obtain⟨m1,m2⟩:=g3.put g4 (r1.mono f2) hl hb dn dp
        have rep:RepT X.K G2 (upd H2 p (kn p o')) (.ref p) (.dit (ptD ks ds n d).1 (ptD ks ds n d).2) [p]:=⟨p,_,o',xs',rfl,zaw,m1,m2,rfl⟩
        exact k G2 _ σ (I2.chT e3 q k1 ⟨p,ys,o,xs,rfl,g2,g3,g4,rfl⟩ (I2.fz.right (h4 p (by simp)) _) (fun b o n h=>by rw[zau (fun z=>n (by simp[z]))];exact h) (fun b h=>by
          by_cases z:b=p
          . subst z;rw[zaw]at h;cases h
          . rw[zau z]at h;exact h) rep (by simp) (fun a m=> .inl m)) (f1.trans f2)
      . cases hm
    . cases hm
  . cases hm
theorem zmP (i:Nat)(hN:X.N.Nodup)(hi:X.N[i]? =some x:=by rfl)(hx:Loc X.env.scope x:=by first|exact Or.inl rfl|exact Or.inr rfl)(hs:swapsWith (.Dict [] [] tpos) (some (.Name x p')) pos.line X.env=pure false:=by rfl)
    (hf:X.fn x=true\/X.env.scope.names.lookup x=some .local:=by first|exact Or.inl rfl|exact Or.inr rfl):SS X (.Assign [.Name x p'] (.Dict [] [] tpos) pos) (sDNT i):=by
  refine⟨_,zmA hN hi hx pe_dnewt hs hf,fun B G H σ ρ fl ρ' E I hm k=>?_⟩
  cases hm
  intro p o hp ns dn
  have nw:Nw X.K G (upd H p (kn p o)) σ ρ p:=I.nw_move (I.nw hp) fun i s a _ _ g h=>⟨g,zau fun z=>h (by rw[z];exact hp)⟩
  exact k G _ _ ((I.allocO hp _).setT (A:=[p]) ⟨p,[],o,[],rfl,zaw,⟨ns,dn,Nat.zero_le _,rfl,.nil⟩,RepL.nil,rfl⟩ (by simp) (fun a m=>by
    have:a=p:=by simpa using m
    subst this
    exact⟨I.fz.free hp,I.there a hp,nw⟩)) (Fz.refl G)
theorem SlotOk.base {B B':Bs}(h:SlotOk K B G H i ov s)(f:∀a,OwS K G H ov a s->B.H a=none->B'.H a=none)(eo:B'.O=B.O):SlotOk K B' G H i ov s:=by
 cases s with
 |emp=>trivial
 |two=>trivial
 |val d=>exact h
 |own ds=>obtain⟨l,xs,h1,h2,h3,h4,h5⟩:=h;exact⟨l,xs,h1,h2,h3,h4,f l h1 h5⟩
 |par ds=>obtain⟨l,xs,h1,h2,h3,h4,h5⟩:=h;exact⟨l,xs,h1,h2,h3,h4,eo ▸ h5⟩
 |tre t=>obtain⟨v,A,h1,h2,h3,h4⟩:=h;exact⟨v,A,h1,h2,h3,fun a m=>⟨(h4 a m).1,f a ⟨v,A,h1,h2,m⟩ (h4 a m).2⟩⟩
 |ptr t=>obtain⟨v,A,h1,h2,h3,h4⟩:=h;exact⟨v,A,h1,h2,h3,fun a m=>⟨(h4 a m).1,(h4 a m).2.imp (f a ⟨v,A,h1,h2,m⟩) fun z=>eo ▸ z⟩⟩
theorem SI.hold (I:SI K B G H σ ρ)(hp:H p=none)(o:HO):SI K ⟨B.G,upd B.H p o,B.O⟩ G (upd H p o) σ ρ:=by
 have I0:=I.allocO hp o
 have bp:=I.there p hp
 refine⟨I0.fz,I0.g0,fun b u e=>?_,fun b u e n=>?_,fun b e=>?_,I0.len,fun i b m=>?_,fun i s e=>(I0.slot i s e).base (fun a w e2=>?_) rfl,I0.dis⟩
 ·refine(I0.new b u e).imp id fun z=>?_
  show upd B.H p o b=none
  rw[zau (fun q=>by rw[q,I.fz.free hp]at e;cases e)];exact z
 ·by_cases z:b=p
  ·subst z
   have e':upd B.H b o b=some u:=e
   rw[zaw]at e';cases e';exact zaw
  ·have e':upd B.H p o b=some u:=e
   rw[zau z]at e';exact I0.keep b u e' n
 ·have z:b≠p:=fun z=>by subst z;rw[zaw]at e;cases e
  show upd B.H p o b=none
  rw[zau z];exact I0.there b e
 ·show upd B.H p o b≠none
  rw[zau (fun z=>by subst z;exact I.ob i b m bp)];exact I.ob i b m
 ·show upd B.H p o a=none
  rw[zau (fun z=>?_)]
  ·exact e2
  ·subst z
   have nw:Nw K G (upd H a o) σ ρ a:=I.nw_move (I.nw hp) fun i s b _ _ g h=>⟨g,zau fun z=>h (by rw[z];exact hp)⟩
   exact nw i s e w
theorem SI.let {o:HO}(I:SI K ⟨B.G,upd B.H p o,B.O⟩ G H σ ρ)(ob:∀i b,(i,b)∈B.O->B.H b≠none)(bp:B.H p=none)(bg:B.G p=none):SI K B G H σ ρ/\H p=some o/\G p=none/\Nw K G H σ ρ p:=by
 have no:∀i,(i,p)∉B.O:=fun i m=>ob i p m bp
 have same:∀{b},upd B.H p o b=none->B.H b=none:=fun{b} e=>by
  by_cases z:b=p
  ·subst z;rw[zaw]at e;cases e
  ·rwa[zau z]at e
 refine⟨⟨I.fz,I.g0,fun b u e=>(I.new b u e).imp id same,fun b u e n=>I.keep b u ?_ n,fun b e=>same (I.there b e),I.len,ob,fun i s e=>(I.slot i s e).base (fun a w e2=>same e2) rfl,I.dis⟩,I.keep p o zaw no,?_,fun i s e w=>?_⟩
 ·show upd B.H p o b=some u
  rw[zau (fun z=>by subst z;rw[bp]at e;cases e)];exact e
 ·cases q:G p with
  |none=>rfl
  |some u=>
   rcases I.new p u q with h|h
   ·exact absurd bg h
   ·have h':upd B.H p o p=none:=h
    rw[zaw]at h';cases h'
 ·rcases((I.slot i s e).own w).2.2 with h|h
  ·have h':upd B.H p o p=none:=h
   rw[zaw]at h';cases h'
  ·exact no i h
theorem zoi (i:Nat)(hu:X.A.units+64<cLine)(ha:SE X a mk)(he:SE X e me)(hN:X.N.Nodup)(hi:X.N[i]? =some x:=by rfl)(hx:Loc X.env.scope x:=by first|exact Or.inl rfl|exact Or.inr rfl)(hs:swapsWith (.Dict [some a] [e] tpos) (some (.Name x p')) pos.line X.env=pure false:=by rfl)
    (hf:X.fn x=true\/X.env.scope.names.lookup x=some .local:=by first|exact Or.inl rfl|exact Or.inr rfl):SS X (.Assign [.Name x p'] (.Dict [some a] [e] tpos) pos) (sDNT1 i mk me):=by
  obtain⟨t,pa,sa⟩:=ha
  obtain⟨u,pe,se⟩:=he
  refine⟨_,zmA hN hi hx (zpc (by lia) pa pe) hs hf,fun B G H σ ρ fl ρ' E I hm k=>?_⟩
  obtain⟨⟨y,ρ1⟩,e1,hm⟩:=zai hm
  obtain⟨n,en,hm⟩:=zai hm
  obtain⟨⟨d,ρ2⟩,e2,hm⟩:=zai hm
  cases hm
  intro p o hp ns dn
  have bg:B.G p=none:=I.g0.free (I.fz.free hp)
  have bp:=I.there p hp
  refine sa ⟨B.G,upd B.H p (kn p o),B.O⟩ G _ σ ρ y ρ1 _ (I.hold hp (kn p o)) e1 fun G1 H1 v I1 f1 r1=>?_
  refine se _ G1 H1 σ ρ1 d ρ2 _ I1 e2 fun G2 H2 u I2 f2 r2=>?_
  obtain⟨b,rfl,hb⟩:=zkd r1 en
  obtain⟨I3,h1,h2,h3⟩:=I2.let I.ob bp bg
  refine⟨b,n,u,rfl,h1,I2.fz _ _ (f2 _ _ hb),fun o' xs' dn' dp=>?_⟩
  have d1:DtI G2 p o [] [] []:=⟨ns,dn,Nat.zero_le _,rfl,.nil⟩
  obtain⟨m1,m2⟩:=d1.put (ds:=[]) RepL.nil r2 (by simp) (f2 _ _ hb) dn' dp
  exact k G2 _ _ (I3.chg (i:=i) (ov:=some (.ref p)) (s':= .tre (.dit [n] [d])) (G':=G2) (H':=upd H2 p (kn p o')) (I3.fz.right h2 _) (Fz.refl G2) I3.new (fun c q e nn=>by
      rw[zau (fun z=>by subst z;rw[bp]at e;cases e)];exact I3.keep c q e nn) (fun c e=>by
      by_cases z:c=p
      . subst z;exact bp
      . rw[zau z]at e;exact I3.there c e) (fun j s c z ej w g _=>by
      have nc:c≠p:=fun q=>by subst q;exact h3 j s ej w
      refine⟨g,zau nc,fun⟨v2,A2,k1,k2,k3⟩=>?_⟩
      cases k1
      obtain⟨p3,_,_,_,e4,_,_,_,rfl⟩:=k2
      cases e4
      exact nc (by simpa using k3)) ⟨.ref p,[p],rfl,⟨p,_,o',xs',rfl,zaw,m1,m2,rfl⟩,by simp,fun c m=>by
      have:c=p:=by simpa using m
      subst this
      exact⟨h2,bp⟩⟩) (f1.trans f2)
theorem SI.know (I:SI K B G H σ ρ)(e:ρ[j]? =some (.tre (.dit ks es))):∃p G',σ[j]? =some (some (.ref p))/\SI K B G' H σ (ρ.set j (.val (.dit ks es)))/\Fz G G'/\RepD K G' (.ref p) (.dit ks es):=by
 obtain⟨v,A,h1,⟨p,ys,o,xs,rfl,h2,h3,h4,rfl⟩,h5,h6⟩:=I.slot j _ e
 obtain⟨g,hb⟩:=h6 p (by simp)
 have fz:=Fz.new g (kn p o)
 have rep:RepD K (upd G p (kn p o)) (.ref p) (.dit ks es):=⟨p,ys,o,xs,rfl,zaw,h3.mono fz,h4.mono fz⟩
 have I2:=I.chg (i:=j) (ov:=some (.ref p)) (s':= .val (.dit ks es)) (G':=upd G p (kn p o)) (H':=H) (fun a u q=>by
   by_cases z:a=p
   ·subst z;rw[zaw]at q;cases q;exact h2
   ·rw[zau z]at q;exact I.fz a u q) fz (fun b u q=>by
   by_cases z:b=p
   ·subst z;exact .inr hb
   ·rw[zau z]at q;exact I.new b u q) I.keep I.there (fun i t a z ei w g' _=>by
   have na:a≠p:=fun q=>by subst q;exact I.dis i j t _ a z ei e w ⟨_,_,h1,⟨a,ys,o,xs,rfl,h2,h3,h4,rfl⟩,by simp⟩
   exact⟨by rw[zau na];exact g',rfl,id⟩) ⟨.ref p,rfl,rep⟩
 rw[zkr h1]at I2
 exact⟨p,_,h1,I2,fz,rep⟩
theorem zo4 (j:Nat)(hN:X.N[j]? =some x:=by rfl)(hv:Vis X.env.scope x:=by first|exact Or.inl rfl|exact Or.inr (Or.inl rfl)|exact Or.inr (Or.inr rfl))(hd:(x==("__debug__":Str))=false:=by decide)
  (hcd:(x==("__classdict__":Str))=false:=by decide):SE X (.Name x p') (eKn j):=by
 refine⟨_,zff hN hv hd hcd,fun B G H σ ρ d ρ' Q I hm k=>?_⟩
 unfold eKn at hm
 split at hm
 ·rename_i ks es e
  cases hm
  obtain⟨p,G',h1,h2,h3,h4⟩:=I.know e
  exact⟨.ref p,h1,k _ _ _ h2 h3 h4⟩
 ·rename_i d' e
  cases hm
  obtain⟨v,h1,h2⟩:=I.slot j _ e
  exact⟨v,h1,k G H v I (Fz.refl G) h2⟩
 ·cases hm
theorem it_dictT (j:Nat)(hN:X.N[j]? =some x:=by rfl)(hv:Vis X.env.scope x:=by first|exact Or.inl rfl|exact Or.inr (Or.inl rfl)|exact Or.inr (Or.inr rfl))(hd:(x==("__debug__":Str))=false:=by decide)
  (hcd:(x==("__classdict__":Str))=false:=by decide):SIt X tg (.Name x p') (iDKT j):=by
 refine⟨_,pi_known (zff hN hv hd hcd),fun B G H σ ρ ds ρ' Q I hm k=>?_⟩
 unfold iDKT at hm
 split at hm
 ·rename_i ks es e
  cases hm
  obtain⟨v,h1,p,ys,o,xs,rfl,h2,h3,h4⟩:=I.slot j _ e
  have len:ys.length=ks.length:=by have:=congrArg List.length h3.key;simpa using this
  have len2:ys.length=xs.length:=Paired.length h3.kt
  refine⟨.ref p,h1,p,o,xs,rfl,I.fz _ _ h2,h3.dn,h3.sys,k _ _ _ I (Fz.refl G) ⟨fun H' i f hi=>⟨f _ _ h2,by simp at hi;lia⟩,fun H' i x H'' f y d ed=>?_,fun H' i f hi=>⟨f _ _ h2,by simp at hi;lia⟩⟩⟩
  obtain⟨rfl,q,eq,rfl⟩:=y
  refine .inl ⟨rfl,?_⟩
  rw[List.getElem?_map]at ed
  obtain⟨n,en,rfl⟩:=zaJ ed
  have kt:∀{ys:List (List L2.Key×V)} {xs:List (List L2.Key×Addr×Value)},KT G ys xs->∀{i:Nat} {q:List L2.Key×Addr×Value},xs[i]? =some q->∃y,ys[i]? =some y/\G q.2.1=some (.tup (y.1.map kV)):=by
   intro ys xs r
   induction r with
   |nil=>intro i q h;simp at h
   |cons h _ ih=>
    intro i q h2
    cases i with
    |zero=>simp only[List.getElem?_cons_zero,Option.some.injEq]at h2;subst h2;exact⟨_,rfl,h.2.1⟩
    |succ i=>exact ih (by simpa using h2)
  obtain⟨y,ey,hg⟩:=kt h3.kt eq
  have h5:(ys.map (·.1))[i]? =(ks.map (·.map kI))[i]?:=by rw[h3.key]
  rw[List.getElem?_map,List.getElem?_map,ey,en]at h5
  have h5:y.1=n.map kI:=by simpa using h5
  rw[h5,List.map_map]at hg
  exact⟨_,_,rfl,hg,RepL.ints n⟩
 ·cases hm
noncomputable def TCon (K:W.Frag)(mg:Str->Option Value)(x:Str)(ns:List Int):Prop:=∃a,mg x=some (.ref a)/\∀H,SqT K H a (ns.map V.int)
theorem it_const (h:TCon X.K X.mg x ns)(hg:Gl X x:=by rfl)(hd:(x==("__debug__":Str))=false:=by decide):SIt X tg (.Name x pos) (iCt (ns.map .int)):=by
 obtain⟨a,h1,h2⟩:=h
 refine⟨_,pi_tup (pe_glob (v:= .ref a) hg h1 rfl hd),fun B G H σ ρ ds ρ' Q I hm k=>?_⟩
 cases hm
 refine⟨a,rfl,⟨_,h2 H⟩,k _ G H I (Fz.refl G) ⟨fun H' i f hi=>⟨_,V.int (ns[i]'(by simpa using hi)),h2 H',by simp at hi;simp[hi]⟩,fun H' i x H'' f y d ed=>?_,fun H' i f hi=>⟨_,h2 H',by simpa using hi⟩⟩⟩
 obtain⟨rfl,y⟩:=y
 have hx:=y _ (h2 _)
 rw[List.getElem?_map]at ed hx
 obtain⟨n,en,rfl⟩:=zaJ ed
 rw[en]at hx
 cases hx
 exact .inl ⟨rfl,rfl⟩
end
end M
namespace M
open PySem
open Sem (wp)
open Builtin
theorem znp (l:Addr)(items:Array Value)(n:Nat)(dd:Option Addr)(sl:Array (Option Value))(x:Int)(u:Tok)(h0:¬(decide (x< -(2^63))||decide (x>=2^63))=true)(h1:¬(items.isEmpty||x==1)=true)(h2:¬(decide (x<=0)||items.isEmpty)=true)(h3:¬(items.size*x>(2^63-1)/8))(h4:¬Builtin.Tuple.tupleTooMany (items.size*x)=true)(hsz:(List.foldl (fun x1 x2=>x1++x2) #[] (List.replicate x.toNat items)).size<=sizeLine):
  Meets (Builtin.«tuple.__mul__» ⟨[.ref l,.int x u],[]⟩) (fun _ R s=>s.heap.get? l=some {cls:= .type "tuple",dict:=dd,data:= .seq items n,slots:=sl}/\R (.ok (.ret (Value.ref s.heap.objs.size))) {s with heap:=s.heap.push {cls:=Value.type "tuple",data:=Data.seq (List.foldl (fun x1 x2=>x1++x2) #[] (List.replicate x.toNat items))},toks:=s.toks}):=
 .of_wp fun prog w A R s h=>by
  obtain⟨hp,g,d,tk,os⟩:=s;obtain⟨hl,h⟩:=h
  have f1:=AutoSeq1.idx_int
  wp_walk
  rw[if_neg h0]
  wp_walk using AutoSeq1.wpAny_loadPart' hl
  rw[if_neg h3]
  wp_walk using AutoSeq1.wpAny_loadPart' hl
  exact⟨_,rfl,h⟩
theorem zlf (l:Addr)(items:Array Value)(n:Nat)(dd:Option Addr)(sl:Array (Option Value))(u:Tok):
  Meets (Builtin.«tuple.__mul__» ⟨[.ref l,.int 1 u],[]⟩) (fun _ R s=>s.heap.get? l=some {cls:= .type "tuple",dict:=dd,data:= .seq items n,slots:=sl}/\R (.ok (.ret (Value.ref l))) s):=
 .of_wp fun prog w A R s h=>by
  obtain⟨hp,g,d,tk,os⟩:=s;obtain⟨hl,h⟩:=h
  have f1:=AutoSeq1.idx_int
  wp_walk
  exact⟨_,rfl,h⟩
theorem zih:fillsNumberSlot (.type "tuple") "mul"=pure false:=
 fillsNumberSlot_seq (id:="tuple.__mul__") (r:=some (.builtin "tuple.__rmul__")) F.slot_tuple_mul.lookup (by decide+kernel) F.slot_tuple_rmul.lookup (by decide+kernel)
theorem zkI:seqRepeat? (.type "tuple")=pure (some (.builtin "tuple.__mul__")):=by
 unfold seqRepeat?
 rw[seqSlot_of (T:="tuple") (name:="__mul__") (id:="tuple.__mul__") F.slot_tuple_mul.lookup (by decide+kernel),seqSlot_of (T:="tuple") (name:="__rmul__") (id:="tuple.__rmul__") F.slot_tuple_rmul.lookup (by decide+kernel)]
 rfl
theorem zjb (a:Int)(t:Tok)(l:Addr)(items:Array Value)(n:Nat)(dd:Option Addr)(sl:Array (Option Value)):
  Meets (Builtin.«int.__rmul__» ⟨[.int a t,.ref l],[]⟩) (fun _ R s=>s.heap.get? l=some {cls:= .type "tuple",dict:=dd,data:= .seq items n,slots:=sl}/\R (.ok (.ret Value.notImplemented)) s):=
 .of_wp fun prog w A R s h=>by obtain⟨hp,g,d,tk,os⟩:=s;obtain⟨hl,h⟩:=h;wp_walk;exact⟨_,rfl,h⟩
end M
namespace M
open L2 PySem PySem.Spec
open PyProof.Rows hiding St
noncomputable def rRepT (K:W.Frag):R2:=fun x y H Q=>∃l k xs,x= .ref l/\y= .int k/\SqT K H l xs/\xs≠[]/\1<=k/\k<=1000000/\xs.length*k.toNat<=sizeLine/\(k=1->Q (.ref l) H)/\∀p,H p=none->Q (.ref p) (upd H p (.tup (List.replicate k.toNat xs).flatten))
theorem op_repT {X:Cx}:OpR X (binaryOp .Mult) (rRepT X.K):=by
 intro pins s σ H x y v u Q I rx ry h
 obtain⟨l,k,xs,rfl,rfl,hH,h0,h1,h2,hz,q1,q⟩:=h
 cases rx
 obtain⟨t,rfl⟩:=ry
 obtain⟨its,r,p1,_⟩:=I.tuple hH
 obtain⟨⟨cls,dd,data,sl⟩,e,hc,n,hd⟩:=id p1
 simp only at hc hd
 subst hc hd
 have hl:=r.length
 have hne:its≠[]:=fun z=>h0 (r.nil_iff.mp z)
 have hnew:List.foldl (fun x1 x2=>x1++x2) #[] (List.replicate k.toNat its.toArray)=(List.replicate k.toNat its).flatten.toArray:=by
  have:=ziQ its k.toNat []
  rw[List.nil_append]at this
  exact this
 have hs:(List.replicate k.toNat its).flatten.length<=sizeLine:=by rw[zl6,<-hl,Nat.mul_comm];exact hz
 refine wpAny_binaryOp_repeat_ref (T:="tuple") (U:="int") (by decide) ⟨_,e,rfl⟩ (fun s'=>typeIs_int s' k t) zih F.fills_int_mul F.slot_int_rmul zkI F.slot_int_index.lookup
  (call_meets F.slot_int_rmul (typeIs_int s k t) F.entry_int_rmul (F.args_int_rmul_2 _ _) (zjb k t l its.toArray n dd sl) ⟨e,rfl,⟨_,e,rfl⟩,?_⟩)
 by_cases z:k=1
 ·subst z
  exact call_meets F.slot_tuple_mul ⟨_,e,rfl⟩ F.entry_tuple_mul (F.args_tuple_mul_2 _ _) (zlf l its.toArray n dd sl t) ⟨e,⟨.ref l,H,I,rfl,q1 rfl⟩⟩
 ·have hm:(its.toArray.size:Int)*k=((its.length*k.toNat:Nat):Int):=by
   rw[List.size_toArray]
   push_cast
   rw[Int.toNat_of_nonneg (by lia)]
  have hz':its.length*k.toNat<=sizeLine:=by rw[<-hl];exact hz
  have sl0:(sizeLine:Nat)=16777216:=sizeLine_eq
  refine call_meets F.slot_tuple_mul ⟨_,e,rfl⟩ F.entry_tuple_mul (F.args_tuple_mul_2 _ _) (znp l its.toArray n dd sl k t (by simp;lia) (by simp[hne];lia) (by simp[hne];lia) (by rw[hm];lia) (fun z=>by unfold Builtin.Tuple.tupleTooMany at z;rw[hm]at z;have:=of_decide_eq_true z;lia) (by rw[hnew];simpa using hs)) ⟨e,?_⟩
  rw[hnew]
  refine⟨.ref s.heap.objs.size,_,I.laid (t':=s.toks) (o:= .tup (List.replicate k.toNat xs).flatten) (fun b ob q=>Heap.get?_push_of_some _ q) (Nat.le_refl _) ?_,rfl,q _ (I.hok.fresh (Nat.le_refl _))⟩
  exact⟨by rw[zl6,Nat.mul_comm];exact hz,_,r.rep k.toNat,IsTup.new _ _⟩
noncomputable def dRepT:D->D->Option D
 | .tup ds,.int k=>if !ds.isEmpty&&decide (1<=k)&&decide (k<=1000000)&&decide (ds.length*k.toNat<=1000000)then some (.tup (List.replicate k.toNat ds).flatten)else none
 |_,_=>none
theorem se_repT {X:Cx}{a b:Expr}{ma mb:ME}{pos:Pos}(ha:SE X a ma)(hb:SE X b mb):SE X (.BinOp a .Mult b pos) (m2 dRepT ma mb):=by
 refine zlW op_repT (fun B G H σ ρ x y a b d Q I ra rb hf k=>?_) ha hb
 cases a<;>cases b<;>simp only[dRepT]at hf<;>try cases hf
 rename_i ds j
 split at hf
 ·rename_i h
  cases hf
  simp only[Bool.and_eq_true,Bool.not_eq_true',List.isEmpty_eq_false_iff,decide_eq_true_eq]at h
  obtain⟨a,xs,rfl,ha,r⟩:=I.tup ra
  have hl:=r.length
  refine⟨a,j,xs,rfl,rb,SqT.of ha,fun z=>?_,by lia,by lia,by rw[hl,sizeLine_eq];lia,fun z=>?_,fun p hp=>?_⟩
  ·subst z
   exact h.1.1.1 (List.eq_nil_of_length_eq_zero hl.symm)
  ·subst z
   rw[show(List.replicate (1:Int).toNat ds).flatten=ds by simp]at k
   exact k G H _ I (Fz.refl G) ra
  ·obtain⟨I2,f2,r2⟩:=I.newT hp (r.rep j.toNat)
   exact k _ _ _ I2 f2 r2
 ·cases hf
end M
namespace M
open L2 PyProof.Rows PySem PySem.Spec
theorem zok {α β:Type}(f:α->β)(xs:List α)(lo hi st:Option Int):zca (xs.map f) lo hi st=(zca xs lo hi st).map f:=by
 unfold zca
 rw[List.length_map,List.map_filterMap]
 simp
noncomputable def eCutZ (ma:ME)(ml mh ms:MP):ME:=fun ρ=>(ma ρ).bind fun p=>(ml p.2).bind fun q=>(mh q.2).bind fun r=>(ms r.2).bind fun t=>match p.1 with
 | .scr ns=>if t.1=some 0 then none else some (.lst ((zca ns q.1 r.1 t.1).map .int),t.2)
 |_=>none
theorem zov {X:Cx}{e st:Expr}{lo hi:Option Expr}{ma:ME}{ml mh ms:MP}{pos p2:Pos}(he:SE X e ma)(hl:SPt X lo ml)(hu:SPt X hi mh)(hs:SPt X (some st) ms):SE X (.Subscript e (.Slice lo hi (some st) p2) pos) (eCutZ ma ml mh ms):=by
 obtain⟨ta,pa,sa⟩:=he
 obtain⟨tl,pl,sl⟩:=hl
 obtain⟨th,ph,sh⟩:=hu
 obtain⟨tc,pc,sc⟩:=hs
 refine⟨_,zjy pa pl ph pc,fun B G H σ ρ d ρ' Q I hm k=>?_⟩
 obtain⟨⟨x,ρ1⟩,e1,hm⟩:=zai hm
 obtain⟨⟨l,ρ2⟩,e2,hm⟩:=zai hm
 obtain⟨⟨u,ρ3⟩,e3,hm⟩:=zai hm
 obtain⟨⟨c,ρ4⟩,e4,hm⟩:=zai hm
 refine sa B G H σ ρ x ρ1 _ I e1 fun G1 H1 v I1 f1 r1=>sl B G1 H1 σ ρ1 l ρ2 _ I1 e2 fun G2 H2 I2 f2=>sh B G2 H2 σ ρ2 u ρ3 _ I2 e3 fun G3 H3 I3 f3=>sc B G3 H3 σ ρ3 c ρ4 _ I3 e4 fun G4 H4 I4 f4=>?_
 have r3:=r1.mono (f2.trans (f3.trans f4))
 dsimp only at hm
 obtain⟨ns,rfl⟩:∃ns,x= .scr ns:=by
  cases x<;>first|exact⟨_,rfl⟩|cases hm
 dsimp only at hm
 split at hm
 ·cases hm
 ·rename_i h0
  obtain⟨rfl,rfl⟩:=Prod.mk.inj (Option.some.inj hm)
  obtain⟨a,rfl,ha⟩:=r3
  refine⟨a,ns.map V.int,rfl,I4.fz.sql ha,h0,fun p hp=>?_⟩
  rw[zok]
  obtain⟨I5,f5,r5⟩:=I4.newL hp (RepL.ints (zca ns l u c))
  exact k _ _ _ I5 (f1.trans (f2.trans (f3.trans (f4.trans f5)))) r5
end M
namespace M
open L2 PySem PySem.Spec
open PyProof.Rows hiding St
theorem zog (lo hi:Int):(((lo-hi).toNat:Nat):Int)=Builtin.Range.rangeSize lo hi (-1):=by
 unfold Builtin.Range.rangeSize
 rw[if_neg (by decide)]
 split
 ·simp only[Int.neg_neg,Int.ediv_one];lia
 ·lia
theorem zoP {a b:Int}(ha: -(2^60)<=a)(ha':a<2^60)(hb: -(2^60)<=b)(hb':b<2^60):Builtin.Range.small a b (-1)=true:=by
 have h1:=zog a b
 unfold Builtin.Range.small
 simp only[Builtin.Range.rangeFitsLong,Bool.and_eq_true,Bool.or_eq_true,decide_eq_true_eq,beq_iff_eq,<-h1]
 simp
 lia
section
variable {X:Cx} {tg:Expr}
theorem zoW {pins:List (Addr×Obj)}{σ:St}{H:Hp}{s:Shared}{R:It->Hp->Prop}{E:Value->Shared->Prop}{lo hi:Int}{t u v:Tok}{tk:Nat}(I:Inv X pins σ H s)(h1: -(2^60)<=lo)(h2:lo<2^60)(h3: -(2^60)<=hi)(h4:hi<2^60)
  (q:R (Itrs lo (-1) (lo-hi).toNat) H):wpAny (model X.prog X.w) X.A (pyIter (.ref s.heap.objs.size)) (PIE X pins σ tg R) E {s with heap:=s.heap.push {cls:= .type "range",data:= .fields #[.int lo t,.int hi u,.int (-1) v]},toks:=tk}:=by
 refine wpAny_pyIter_range (IsRange.new ..) (zoP h1 h2 h3 h4) ?_
 have I1:Inv X pins σ H {s with heap:=s.heap.push {cls:= .type "range",data:= .fields #[.int lo t,.int hi u,.int (-1) v]},toks:=tk}:=I.kept fun b o e=>Heap.get?_push_of_some _ e
 refine⟨(s.heap.push {cls:= .type "range",data:= .fields #[.int lo t,.int hi u,.int (-1) v]}).objs.size,[(s.heap.push {cls:= .type "range",data:= .fields #[.int lo t,.int hi u,.int (-1) v]}).objs.size],_,_,H,rfl,
  I1.kept (t':=tk) fun b o e=>Heap.get?_push_of_some _ e,zlV _ lo (-1) (lo-hi).toNat,?_,fun b hb=>?_,q⟩
 ·have e1:lo+((0:Nat):Int)*(-1)=lo:=by simp
  show IsRangeIter _ _ (lo+((0:Nat):Int)*(-1)) ((((lo-hi).toNat:Nat):Int)-((0:Nat):Int)) (-1)
  rw[e1,zog,show(((0:Nat):Int))=0 from rfl,Int.sub_zero]
  exact Heap.get?_push_size _ rfl
 ·have e:b=(s.heap.push {cls:= .type "range",data:= .fields #[.int lo t,.int hi u,.int (-1) v]}).objs.size:=by simpa using hb
  subst e
  exact I1.fpOk (Nat.le_refl _) (I1.hok.fresh (Nat.le_refl _))
theorem zne {a b c:Expr}{ta:TA}{p pos:Pos}(hg:Gl X "range")(hm:X.mg "range"=none)(ha:PA X [a,b,c] ta)(hs:starEach [a,b,c] X.env=(false,eval a X.env)::starEach [b,c] X.env:=by rfl)(hs2:(backTo pos (starEach [b,c] X.env)).any (·.1)=false:=by rfl):
  PI X tg (.Call (.Name "range" p) [a,b,c] [] pos) (fun σ H R=>ta σ H fun vs H1=>∃i j:Int,vs=[.int i,.int j,.int (-1)]/\(-(2^60)<=i/\i<2^60/\ -(2^60)<=j/\j<2^60)/\R (Itrs i (-1) (i-j).toNat) H1):=by
 intro pins s σ H R I h
 refine Call_ (ziC I hg hm boot_range (PyProof.Rows.callWith_type1 (thn (ha pos pins s σ H _ I h) fun us s1 ⟨vs,H1,I1,r1,q1⟩=>?_) hs hs2))
 obtain⟨i,j,e,⟨q1,q2,q3,q4⟩,q⟩:=q1
 subst e
 cases r1 with
 |cons r rr=>
  cases rr with
  |cons r' rr=>
   cases rr with
   |cons r'' rr=>
    cases rr
    obtain⟨t,rfl⟩:=r
    obtain⟨t',rfl⟩:=r'
    obtain⟨t'',rfl⟩:=r''
    exact call_range_3 (by lia) (zoW I1 q1 q2 q3 q4 q) (Or.inl (PyProof.noPylong_small (by lia)))
end
noncomputable def iR3N (ma:MA):MA:=fun ρ=>(ma ρ).bind fun p=>match p.1 with
 |[.int i,.int j,.int k]=>if zci i&&zci j&&decide (k= -1)then some (zkH i (-1) (i-j).toNat,p.2)else none
 |_=>none
theorem zmZ {X:Cx}{tg a b c:Expr}{ma:MA}{p pos:Pos}(hm:X.mg "range"=none)(ha:SA X [a,b,c] ma)(hg:Gl X "range":=by rfl)(hs:starEach [a,b,c] X.env=(false,eval a X.env)::starEach [b,c] X.env:=by rfl)(hs2:(backTo pos (starEach [b,c] X.env)).any (·.1)=false:=by rfl):SIt X tg (.Call (.Name "range" p) [a,b,c] [] pos) (iR3N ma):=by
 obtain⟨t,pa,sa⟩:=ha
 refine⟨_,zne hg hm pa hs hs2,fun B G H σ ρ ds ρ' Q I hm k=>?_⟩
 obtain⟨⟨es,ρ1⟩,e1,h2⟩:=zai hm
 dsimp only at h2
 refine sa B G H σ ρ es ρ1 _ I e1 fun G1 H1 vs I1 f1 r1=>?_
 split at h2
 ·rename_i i j l
  split at h2
  ·rename_i hj
   simp only[Bool.and_eq_true,decide_eq_true_eq]at hj
   cases h2
   obtain⟨x,xs,rfl,rx,r2⟩:=r1
   obtain⟨y,ys,rfl,ry,r3⟩:=r2
   obtain⟨z,zs,rfl,rz,r4⟩:=r3
   cases(show x=V.int i from rx)
   cases(show y=V.int j from ry)
   cases(show z=V.int l from rz)
   cases(show zs=[]from r4)
   obtain rfl:=hj.2
   have a1:=zkU hj.1.1
   have a2:=zkU hj.1.2
   exact⟨i,j,rfl,⟨a1.1,a1.2,a2.1,a2.2⟩,k _ G1 H1 I1 f1 (zny i (-1) _)⟩
  ·cases h2
 ·cases h2
noncomputable def fzDT (j:Nat)(ρ:R):R:=match ρ[j]? with
 |some (.tre (.dit ks ds))=>ρ.set j (.val (.dit ks ds))
 |_=>ρ
noncomputable def sFzDT (j:Nat)(m:MS):MS:=fun ρ=>m (fzDT j ρ)
theorem SI.fzDT {K:W.Frag}{B:Bs}{G H:Hp}{σ:St}{ρ:R}(I:SI K B G H σ ρ)(j:Nat):∃G',SI K B G' H σ (fzDT j ρ)/\Fz G G':=by
 unfold M.fzDT
 split
 ·rename_i ks ds e
  obtain⟨p,G',h1,h2,h3,h4⟩:=I.know e
  exact⟨G',h2,h3⟩
 ·exact⟨G,I,Fz.refl G⟩
theorem ss_fzDT {X:Cx}{st:Stmt}{m:MS}(j:Nat)(h:SS X st m):SS X st (sFzDT j m):=by
 obtain⟨t,p,s⟩:=h
 refine⟨t,p,fun B G H σ ρ fl ρ' E I hm k=>?_⟩
 obtain⟨G',I',f⟩:=I.fzDT j
 exact s B G' H σ _ fl ρ' E I' hm (k.mono f)
noncomputable def eCallU (F:List D->Option Sl)(ma:MA):ME:=fun ρ=>(ma ρ).bind fun p=>(F p.1).bind fun r=>match r with
 | .tre (.tup cs)=>some (.tup (cs.map Ch.D),p.2)
 |_=>none
noncomputable def fzU (j:Nat)(ρ:R):R:=match ρ[j]? with
 |some (.tre (.tup cs))=>ρ.set j (.val (.tup (cs.map Ch.D)))
 |_=>ρ
noncomputable def turnT (g:D->R->Option R)(mt:MT)(mo:MO):D->R->Option (Option (List D)×R):=fun d ρ=>(g d ρ).bind fun ρ1=>(mt ρ1).bind fun p=>if p.1 then(mo p.2).bind fun q=>if zdP q.2 then some (some q.1,q.2)else none else if zdP p.2 then some (none,p.2)else none
noncomputable def rowsOf:List Ch->Option (List (List D))
 |[]=>some []
 | .l ds::cs=>(rowsOf cs).map (ds:: ·)
 |_=>none
noncomputable def zn8 (b c:Nat)(ρ:R):Bool:=match ρ[b]?,ρ[c]? with
 |some (.par _),some (.par _)=>zdP ((ρ.set b .emp).set c .emp)
 |_,_=>false
noncomputable def turnQ (b c:Nat)(g:D->R->Option R)(mt:MT)(me:ME):D->R->Option (Option D×R):=fun d ρ=>(g d ρ).bind fun ρ1=>(mt ρ1).bind fun p=>if p.1 then(me p.2).bind fun q=>if zn8 b c q.2 then some (some q.1,q.2)else none else if zn8 b c p.2 then some (none,p.2)else none
end M
namespace M
open PySem PySem.W
open PyProof.Rows (bubble mirror bubble_size bubble_perm mirror_size mirror_perm getElem?_bubble getElem?_mirror_all)
noncomputable def kv (p:Array Nat)(k:Nat):Nat:=p.getD k 0
end M
namespace M
open L2 PySem
variable {c:Prop} {z:Bool} {Q:Fl×R->Prop} {me m:ME} {b:MS} {g:D->R->Option R} {mt:MT} {d:D} {ρ:R} {r:Sl} {i n j t N k:Nat} {h:List D->R->Option R} {ds:List D} {mi ma:MA} {F:List D->Option Sl} {cap:List Nat} {I:R->Prop} {ns:List Int}
structure Lock {α:Type} (Q:α->Prop):Type where
noncomputable def Ok {α:Type}(o:Option α)(Q:α->Prop)(l:Lock Q:=⟨⟩):Prop:=∃a,o=some a/\Q a
section
variable {α β:Type} {o:Option α} {Q Q':α->Prop}
theorem ok_some {a:α}:Ok (some a) Q↔Q a:=⟨fun⟨_,e,q⟩=>by cases e;exact q,fun q=>⟨a,rfl,q⟩⟩
theorem ok_none:Ok (none:Option α) Q↔False:=⟨fun⟨_,e,_⟩=>(by cases e),False.elim⟩
theorem ok_bind {f:α->Option β}{Q:β->Prop}:Ok (o.bind f) Q↔Ok o fun a=>Ok (f a) Q:=by
 cases o with
 |none=>exact⟨fun⟨_,e,_⟩=>(by cases e),fun⟨_,e,_⟩=>(by cases e)⟩
 |some a=>exact⟨fun h=>⟨a,rfl,h⟩,fun⟨_,e,h⟩=>by cases e;exact h⟩
theorem ok_map {f:α->β}{Q:β->Prop}:Ok (o.map f) Q↔Ok o fun a=>Q (f a):=by
 cases o with
 |none=>exact⟨fun⟨_,e,_⟩=>(by cases e),fun⟨_,e,_⟩=>(by cases e)⟩
 |some a=>exact⟨fun h=>⟨a,rfl,ok_some.mp h⟩,fun⟨_,e,h⟩=>by cases e;exact ok_some.mpr h⟩
theorem zgd [Decidable c]:Ok (if c then o else none) Q↔c/\Ok o Q:=by
 by_cases h:c
 ·rw[if_pos h];exact⟨fun k=>⟨h,k⟩,fun k=>k.2⟩
 ·rw[if_neg h];exact⟨fun k=>(ok_none.mp k).elim,fun k=>absurd k.1 h⟩
theorem Ok.mono (h:Ok o Q)(k:∀a,Q a->Q' a):Ok o Q':=by obtain⟨a,e,q⟩:=h;exact⟨a,e,k a q⟩
theorem zaN {Q':α->Prop}(h:∀a,Q a↔Q' a):Ok o Q↔Ok o Q':=⟨fun⟨a,e,q⟩=>⟨a,e,(h a).mp q⟩,fun⟨a,e,q⟩=>⟨a,e,(h a).mpr q⟩⟩
end
section
variable {c:MT} {a b:MS} {ρ:R}
theorem zkN {α:Type}{o u:Option α}{Q:α->Prop}:Ok (if z then o else u) Q↔(z=true->Ok o Q)/\(z=false->Ok u Q):=by cases z<;>simp
theorem ok_sIf:Ok (sIf c a b ρ) Q↔Ok (c ρ) fun p=>(p.1=true->Ok (a p.2) Q)/\(p.1=false->Ok (b p.2) Q):=by
 unfold sIf;rw[ok_bind];exact zaN fun p=>zkN
theorem ok_eIf {a b:ME}{Q:D×R->Prop}:Ok (eIf c a b ρ) Q↔Ok (c ρ) fun p=>(p.1=true->Ok (a p.2) Q)/\(p.1=false->Ok (b p.2) Q):=by
 unfold eIf;rw[ok_bind];exact zaN fun p=>zkN
theorem ok_tAnd {a b:MT}{Q:Bool×R->Prop}:Ok (tAndM a b ρ) Q↔Ok (a ρ) fun p=>(p.1=true->Ok (b p.2) Q)/\(p.1=false->Q (false,p.2)):=by
 unfold tAndM;rw[ok_bind];exact zaN fun p=>by rw[zkN,ok_some]
theorem ok_tOr {a b:MT}{Q:Bool×R->Prop}:Ok (tOrM a b ρ) Q↔Ok (a ρ) fun p=>(p.1=true->Q (true,p.2))/\(p.1=false->Ok (b p.2) Q):=by
 unfold tOrM;rw[ok_bind];exact zaN fun p=>by rw[zkN,ok_some]
theorem ok_eAnd {a b:ME}{Q:D×R->Prop}:Ok (eAnd a b ρ) Q↔Ok (a ρ) fun p=>∃z,p.1= .bl z/\(z=true->Ok (b p.2) Q)/\(z=false->Q (.bl false,p.2)):=by
 unfold eAnd;rw[ok_bind]
 have:∀p:D×R,Ok (match p.1 with
  | .bl true=>b p.2
  | .bl false=>some (.bl false,p.2)
  |_=>none) Q↔∃z,p.1= .bl z/\(z=true->Ok (b p.2) Q)/\(z=false->Q (.bl false,p.2)):=by
  rintro⟨d,ρ⟩
  cases d with
  |bl z=>cases z<;>simp[ok_some]
  |_=>simp[ok_none]
 exact zaN this
theorem ok_eOr {a b:ME}{Q:D×R->Prop}:Ok (eOr a b ρ) Q↔Ok (a ρ) fun p=>∃z,p.1= .bl z/\(z=true->Q (.bl true,p.2))/\(z=false->Ok (b p.2) Q):=by
 unfold eOr;rw[ok_bind]
 have:∀p:D×R,Ok (match p.1 with
  | .bl true=>some (.bl true,p.2)
  | .bl false=>b p.2
  |_=>none) Q↔∃z,p.1= .bl z/\(z=true->Q (.bl true,p.2))/\(z=false->Ok (b p.2) Q):=by
  rintro⟨d,ρ⟩
  cases d with
  |bl z=>cases z<;>simp[ok_some]
  |_=>simp[ok_none]
 exact zaN this
theorem ok_chain {f g:D->D->Option D}{a b c:ME}{Q:D×R->Prop}:Ok (eChain f g a b c ρ) Q↔Ok (a ρ) fun p=>Ok (b p.2) fun q=>Ok (f p.1 q.1) fun t=>∃z,t= .bl z/\(z=true->Ok (c q.2) fun r=>Ok (g q.1 r.1) fun d=>Q (d,r.2))/\(z=false->Q (.bl false,q.2)):=by
 unfold eChain;rw[ok_bind]
 have:∀(p q:D×R) (t:D),Ok (match t with
  | .bl true=>(c q.2).bind fun r=>(g q.1 r.1).map fun d=>(d,r.2)
  | .bl false=>some (.bl false,q.2)
  |_=>none) Q↔∃z,t= .bl z/\(z=true->Ok (c q.2) fun r=>Ok (g q.1 r.1) fun d=>Q (d,r.2))/\(z=false->Q (.bl false,q.2)):=by
  intro p q t
  cases t with
  |bl z=>
   cases z
   ·simp[ok_some]
   ·simp only[ok_bind,D.bl.injEq,exists_eq_left',forall_const,reduceCtorEq,false_implies,and_true]
    exact zaN fun r=>ok_map
  |_=>simp[ok_none]
 exact zaN fun p=>by rw[ok_bind];exact zaN fun q=>by rw[ok_bind];exact zaN fun t=>this p q t
theorem ok_turnM {Q:Option D×R->Prop}:Ok (zm3 g mt me d ρ) Q↔Ok (g d ρ) fun ρ1=>Ok (mt ρ1) fun p=>(p.1=true->Ok (me p.2) fun q=>zdP q.2=true/\Q (some q.1,q.2))/\(p.1=false->zdP p.2=true/\Q (none,p.2)):=by
 unfold zm3;rw[ok_bind];exact zaN fun ρ1=>by rw[ok_bind];exact zaN fun p=>by rw[zkN,ok_bind,zgd,ok_some];exact and_congr (imp_congr Iff.rfl (zaN fun q=>by rw[zgd,ok_some])) Iff.rfl
theorem ok_turnP {bk:Nat}{Q:Option D×R->Prop}:Ok (znv bk g mt me d ρ) Q↔Ok (g d ρ) fun ρ1=>Ok (mt ρ1) fun p=>(p.1=true->Ok (me p.2) fun q=>zls bk q.2=true/\Q (some q.1,q.2))/\(p.1=false->zls bk p.2=true/\Q (none,p.2)):=by
 unfold znv;rw[ok_bind];exact zaN fun ρ1=>by rw[ok_bind];exact zaN fun p=>by rw[zkN,ok_bind,zgd,ok_some];exact and_congr (imp_congr Iff.rfl (zaN fun q=>by rw[zgd,ok_some])) Iff.rfl
theorem znb (n:Nat):Int.natAbs (no_index (OfNat.ofNat n))=n:=rfl
end
section
theorem ok_sNext:Ok (zdr ρ) Q↔Q (.next,ρ):=ok_some
noncomputable def SeqK (b:MS)(Q:Fl×R->Prop)(p:Fl×R):Prop:=Ok (match p.1 with
 | .next=>b p.2
 |f=>some (f,p.2)) Q
theorem zpg:SeqK b Q (.next,ρ)↔Ok (b ρ) Q:=Iff.rfl
theorem seqK_ret:SeqK b Q (.ret r,ρ)↔Q (.ret r,ρ):=ok_some
theorem seqK_brk:SeqK b Q (.brk,ρ)↔Q (.brk,ρ):=ok_some
theorem zpf:SeqK b Q (.cont,ρ)↔Q (.cont,ρ):=ok_some
theorem ok_sSeq {a b:MS}:Ok (sSeq a b ρ) Q↔Ok (a ρ) (SeqK b Q):=ok_bind
theorem ok_sRet:Ok (sRet m ρ) Q↔Ok (m ρ) fun p=>Q (.ret (.val p.1),p.2):=ok_map
theorem ok_sRetO {m:MO}:Ok (zhP m ρ) Q↔Ok (m ρ) fun p=>Q (.ret (.own p.1),p.2):=ok_map
theorem ok_sRetV:Ok (zhj i ρ) Q=Ok (match ρ[i]? with
 |some (.val d)=>some (.ret (.val d),ρ)
 |some (.own ds)=>some (.ret (.own ds),ρ.set i .emp)
 |_=>none) Q:=rfl
theorem ok_gN {Q:R->Prop}:Ok (gN i d ρ) Q↔Q (ρ.set i (.val d)):=ok_some
theorem ok_gsNil {ds:List D}{ρ:R}{Q:R->Prop}:Ok (zb5 ds ρ) Q=Ok (match ds with
 |[]=>some ρ
 |_=>none) Q:=rfl
theorem zn2 {Q:R->Prop}:Ok (zar g h ds ρ) Q=Ok (match ds with
 |d::ds=>(g d ρ).bind fun ρ1=>h ds ρ1
 |[]=>none) Q:=rfl
theorem ok_gT {g:List D->R->Option R}{Q:R->Prop}:Ok (gT n g d ρ) Q=Ok (match d with
 | .tup ds=>if ds.length=n then g ds ρ else none
 |_=>none) Q:=rfl
theorem ok_sAsg:Ok (sAsg m g ρ) Q↔Ok (m ρ) fun p=>Ok (g p.1 p.2) fun ρ'=>Q (.next,ρ'):=ok_bind.trans (zaN fun _=>ok_map)
theorem ok_sSet:Ok (sSet i m ρ) Q↔Ok (m ρ) fun p=>Q (.next,p.2.set i (.val p.1)):=ok_map
theorem ok_sSetO {m:MO}:Ok (zgm i m ρ) Q↔Ok (m ρ) fun p=>Q (.next,p.2.set i (.own p.1)):=ok_map
theorem ok_sApp:Ok (sApp i m ρ) Q=Ok (if(ρ[i]?.bind Sl.items).isSome then(m ρ).bind fun p=>p.2[i]?.bind fun s=>s.items.bind fun ds=>if ds.length<16777216 then some (.next,p.2.set i (s.put (ds++[p.1])))else none else none) Q:=rfl
theorem ok_sPut {mi me:ME}:Ok (sPut j mi me ρ) Q=Ok ((me ρ).bind fun p=>if hasV p.2 j then(mi p.2).bind fun q=>match q.1 with
 | .int k=>q.2[j]?.bind fun s=>s.items.bind fun ds=>(ixN ds.length k).bind fun n=>some (.next,q.2.set j (s.put (ds.set n p.1)))
 |_=>none else none) Q:=rfl
theorem ok_eC {Q:D×R->Prop}:Ok (eC d ρ) Q↔Q (d,ρ):=ok_some
theorem ok_eVar {Q:D×R->Prop}:Ok (eVar i ρ) Q=Ok (match ρ[i]? with
 |some (.val d)=>some (d,ρ)
 |some (.own ds)=>some (.lst ds,ρ.set i (.val (.lst ds)))
 |_=>none) Q:=rfl
theorem ok_aNil {Q:List D×R->Prop}:Ok (aNil ρ) Q↔Q ([],ρ):=ok_some
theorem ok_aCons {r:MA}{Q:List D×R->Prop}:Ok (zad m r ρ) Q↔Ok (m ρ) fun p=>Ok (r p.2) fun q=>Q (p.1::q.1,q.2):=ok_bind.trans (zaN fun _=>ok_map)
theorem ok_m2 {f:D->D->Option D}{ma mb:ME}{Q:D×R->Prop}:Ok (m2 f ma mb ρ) Q↔Ok (ma ρ) fun p=>Ok (mb p.2) fun q=>Ok (f p.1 q.1) fun d=>Q (d,q.2):=ok_bind.trans (zaN fun _=>ok_bind.trans (zaN fun _=>ok_map))
theorem ok_m1 {f:D->Option D}{ma:ME}{Q:D×R->Prop}:Ok (m1 f ma ρ) Q↔Ok (ma ρ) fun p=>Ok (f p.1) fun d=>Q (d,p.2):=ok_bind.trans (zaN fun _=>ok_map)
theorem ok_mC {f:List D->Option D}{Q:D×R->Prop}:Ok (mC f ma ρ) Q↔Ok (ma ρ) fun p=>Ok (f p.1) fun d=>Q (d,p.2):=ok_bind.trans (zaN fun _=>ok_map)
theorem ok_eIxV {mi:ME}{Q:D×R->Prop}:Ok (eIxV j mi ρ) Q=Ok (if hasV ρ j then(mi ρ).bind fun p=>(p.2[j]?.bind Sl.read).bind fun d=>(dIx d p.1).map fun e=>(e,p.2)else none) Q:=rfl
theorem ok_eLenV {Q:D×R->Prop}:Ok (zfm j ρ) Q=Ok ((ρ[j]?.bind Sl.read).bind fun d=>(dLen [d]).map fun e=>(e,ρ)) Q:=rfl
theorem ok_oC {f:List D->Option (List D)}{Q:List D×R->Prop}:Ok (oC f ma ρ) Q↔Ok (ma ρ) fun p=>Ok (f p.1) fun d=>Q (d,p.2):=ok_bind.trans (zaN fun _=>ok_map)
theorem ok_eTup {Q:D×R->Prop}:Ok (eTup ma ρ) Q↔Ok (ma ρ) fun p=>p.1.length<=16777216/\Q (.tup p.1,p.2):=ok_bind.trans (zaN fun _=>by rw[zgd,ok_some])
theorem ok_oLst {Q:List D×R->Prop}:Ok (oLst ma ρ) Q↔Ok (ma ρ) fun p=>p.1.length<=16777216/\Q (p.1,p.2):=ok_bind.trans (zaN fun _=>by rw[zgd,ok_some])
theorem ok_tTru {ma:ME}{Q:Bool×R->Prop}:Ok (tTru ma ρ) Q↔Ok (ma ρ) fun p=>Ok (dTru p.1) fun b=>Q (b,p.2):=ok_bind.trans (zaN fun _=>ok_map)
theorem ok_tNotM {a:MT}{Q:Bool×R->Prop}:Ok (zoQ a ρ) Q↔Ok (a ρ) fun p=>Q (!p.1,p.2):=ok_map
theorem ok_eCall {Q:D×R->Prop}:Ok (zax F ma ρ) Q=Ok ((ma ρ).bind fun p=>(F p.1).bind fun r=>match r with
 | .val d=>some (d,p.2)
 | .own ds=>some (.lst ds,p.2)
 |_=>none) Q:=rfl
theorem ok_oCall {Q:List D×R->Prop}:Ok (zlB F ma ρ) Q=Ok ((ma ρ).bind fun p=>(F p.1).bind fun r=>match r with
 | .own ds=>some (ds,p.2)
 |_=>none) Q:=rfl
theorem zoj {F:List D->List D->Option (Sl×List D)}{Q:D×R->Prop}:Ok (za3 F j ma ρ) Q=Ok (if(ρ[j]?.bind Sl.items).isSome then(ma ρ).bind fun p=>p.2[j]?.bind fun s=>s.items.bind fun cs=>(F cs p.1).bind fun r=>match r.1 with
 | .val d=>some (d,p.2.set j (s.put r.2))
 | .own ds=>some (.lst ds,p.2.set j (s.put r.2))
 |_=>none else none) Q:=rfl
theorem ok_iR2L {Q:List D×R->Prop}:Ok (iR2L ma ρ) Q=Ok ((ma ρ).bind fun p=>match p.1 with
 |[.int i,.int j]=>some (zgI i (j-i).toNat,p.2)
 |_=>none) Q:=rfl
theorem ok_eFz {m:MO}{Q:D×R->Prop}:Ok (eFz m ρ) Q↔Ok (m ρ) fun p=>Q (.lst p.1,p.2):=ok_map
theorem ok_eCut {ma:ME}{ml mh:MP}{Q:D×R->Prop}:Ok (eCut ma ml mh ρ) Q=Ok ((ma ρ).bind fun p=>(ml p.2).bind fun q=>(mh q.2).bind fun r=>(dCut p.1 q.1 r.1).map fun d=>(d,r.2)) Q:=rfl
theorem ok_pNo {Q:Option Int×R->Prop}:Ok (pNo ρ) Q↔Q (none,ρ):=ok_some
theorem ok_pSome {Q:Option Int×R->Prop}:Ok (zb4 m ρ) Q=Ok ((m ρ).bind fun p=>match p.1 with
 | .int i=>some (some i,p.2)
 |_=>none) Q:=rfl
theorem ok_iSeq {Q:List D×R->Prop}:Ok (iSeq m ρ) Q↔Ok (m ρ) fun p=>Ok (zaR [p.1]) fun ds=>Q (ds,p.2):=ok_bind.trans (zaN fun _=>ok_map)
theorem ok_iR1 {Q:List D×R->Prop}:Ok (iR1 ma ρ) Q=Ok ((ma ρ).bind fun p=>match p.1 with
 |[.int j]=>if zci j then some (zgI 0 j.toNat,p.2)else none
 |_=>none) Q:=rfl
theorem ok_sFor {mb:MS}:Ok (sFor mi g mb ρ) Q↔Ok (mi ρ) fun p=>Ok (forM (fun d ρ=>(g d ρ).bind fun ρ'=>mb ρ') p.1 p.2) Q:=ok_bind
theorem ok_oLC {Q:List D×R->Prop}:Ok (oLC cap t mi g mt me ρ) Q=Ok ((mi ρ).bind fun p=>if p.1.length<=16777216 then(zfj (zm3 g mt me) p.1 (capR cap t (fzL cap p.2))).map fun q=>(q.1,fzL cap p.2)else none) Q:=rfl
theorem ok_tTrue {Q:Bool×R->Prop}:Ok (zbp ρ) Q↔Q (true,ρ):=ok_some
theorem ok_sAugI {g:Int->Int->Int}:Ok (znu i g me ρ) Q=Ok (match ρ[i]? with
 |some (.val (.int a))=>(me ρ).bind fun p=>match p.1 with
  | .int b=>some (.next,p.2.set i (.val (.int (g a b))))
  |_=>none
 |_=>none) Q:=rfl
theorem ok_eCutS {ma:ME}{ml mh ms:MP}{Q:D×R->Prop}:Ok (zoh ma ml mh ms ρ) Q=Ok ((ma ρ).bind fun p=>(ml p.2).bind fun q=>(mh q.2).bind fun r=>(ms r.2).bind fun t=>(zoz p.1 q.1 r.1 t.1).map fun d=>(d,t.2)) Q:=rfl
theorem ok_oRep {ma mb:ME}{Q:List D×R->Prop}:Ok (oRep ma mb ρ) Q=Ok ((ma ρ).bind fun p=>(mb p.2).bind fun q=>match p.1,q.1 with
 | .lst xs,.int k=>if zci k&&decide (xs.length*k.toNat<=16777216)then some ((List.replicate k.toNat xs).flatten,q.2)else none
 |_,_=>none) Q:=rfl
theorem ok_iZ2 {Q:List D×R->Prop}:Ok (iZ2 ma ρ) Q=Ok ((ma ρ).bind fun p=>match p.1 with
 |[a,b]=>(zaR [a]).bind fun xs=>(zaR [b]).bind fun ys=>some (zlv xs ys,p.2)
 |_=>none) Q:=rfl
theorem ok_iZ3 {Q:List D×R->Prop}:Ok (iZ3 ma ρ) Q=Ok ((ma ρ).bind fun p=>match p.1 with
 |[a,b,c]=>(zaR [a]).bind fun xs=>(zaR [b]).bind fun ys=>(zaR [c]).bind fun zs=>some (zlM xs ys zs,p.2)
 |_=>none) Q:=rfl
theorem ok_iEn {Q:List D×R->Prop}:Ok (iEn ma ρ) Q=Ok ((ma ρ).bind fun p=>(zaR p.1).map fun xs=>(zlm xs,p.2)) Q:=rfl
theorem ok_oLCM {t b w:Nat}{Q:List D×R->Prop}:Ok (oLCM cap t b w mi g mt me ρ) Q=Ok ((mi ρ).bind fun p=>if p.1.length<=16777216 then
    ((fzL (cap.filter (· !=w)) p.2)[w]?).bind fun s=>s.items.bind fun cs=>(zfj (znv b g mt me) p.1 ((capR cap t (fzL (cap.filter (· !=w)) p.2)).set b (.par cs))).map fun q=>(q.1,(fzL (cap.filter (· !=w)) p.2).set w (s.put (zo2 b q.2)))
  else none) Q:=rfl
theorem ok_fP {m:MS}{Q:Sl->Prop}:Ok (fP N m ds) Q=Ok ((m (ds.map .val++List.replicate (N-ds.length) .emp)).bind fun p=>match p.1 with
 | .ret r=>some r
 | .next=>some (.val .non)
 |_=>none) Q:=rfl
theorem ok_fM {m:MS}{cs:List D}{Q:Sl×List D->Prop}:Ok (fM N m cs ds) Q=Ok ((m (.par cs::(ds.map .val++List.replicate (N-(ds.length+1)) .emp))).bind fun p=>match p.1,(p.2[0]?:Option Sl)with
 |Fl.ret r,some (Sl.par out)=>some (r,out)
 |Fl.next,some (Sl.par out)=>some (.val .non,out)
 |_,_=>none) Q:=rfl
end
noncomputable def Turn (I:R->Prop)(Q:Fl×R->Prop)(p:Fl×R):Prop:=match p.1 with
 | .next=>I p.2
 | .cont=>I p.2
 | .brk=>Q (.next,p.2)
 | .ret r=>Q (.ret r,p.2)
theorem zoE:Turn I Q (.next,ρ)↔I ρ:=Iff.rfl
theorem zpk:Turn I Q (.cont,ρ)↔I ρ:=Iff.rfl
theorem turn_brk:Turn I Q (.brk,ρ)↔Q (.next,ρ):=Iff.rfl
theorem turn_ret:Turn I Q (.ret r,ρ)↔Q (.ret r,ρ):=Iff.rfl
theorem znA {α:Type}{f:D->R->Option (Fl×R)}(enc:α->D)(I:Nat->R->Prop):∀(l:List α) (b:Nat) (ρ:R),I b ρ->
  (∀i a ρ,l[i]? =some a->I (b+i) ρ->Ok (f (enc a) ρ) (Turn (I (b+i+1)) Q))->(∀ρ,I (b+l.length) ρ->Q (.next,ρ))->Ok (forM f (l.map enc) ρ) Q
 |[],b,ρ,h0,_,hq=>ok_some.mpr (hq ρ h0)
 |a::l,b,ρ,h0,hs,hq=>by
  obtain⟨p,e,t⟩:=hs 0 a ρ rfl h0
  obtain⟨fl,ρ1⟩:=p
  have go:∀ρ1,I (b+1) ρ1->Ok (forM f (l.map enc) ρ1) Q:=fun ρ1 h1=>znA enc I l (b+1) ρ1 h1 (fun i a' ρ' hi hp=>by
   have:=hs (i+1) a' ρ' (by simpa using hi) (by rw[show b+(i+1)=b+1+i by lia];exact hp)
   rw[show b+(i+1)+1=b+1+i+1 by lia]at this
   exact this) (fun ρ h=>hq ρ (by rw[List.length_cons,show b+(l.length+1)=b+1+l.length by lia];exact h))
  have e':forM f ((a::l).map enc) ρ=(f (enc a) ρ).bind fun p=>match p.1 with
   | .next=>forM f (l.map enc) p.2
   | .cont=>forM f (l.map enc) p.2
   | .brk=>some (.next,p.2)
   | .ret r=>some (.ret r,p.2):=rfl
  rw[e',e]
  cases fl with
  |next=>exact go ρ1 t
  |cont=>exact go ρ1 t
  |brk=>exact ok_some.mpr t
  |ret r=>exact ok_some.mpr t
theorem ziw {α:Type}{f:D->R->Option (Fl×R)}{enc:α->D}{l:List α}(I:Nat->R->Prop)(h0:I 0 ρ)
  (hs:∀i a ρ,l[i]? =some a->I i ρ->Ok (f (enc a) ρ) (Turn (I (i+1)) Q)) (hq:∀ρ,I l.length ρ->Q (.next,ρ)):Ok (forM f (l.map enc) ρ) Q:=
 znA enc I l 0 ρ h0 (fun i a ρ hi h=>by rw[Nat.zero_add]at h ⊢;exact hs i a ρ hi h) (fun ρ h=>hq ρ (by rw[Nat.zero_add]at h;exact h))
theorem zkx {α:Type}{f:D->R->Option (Option D×R)}(enc:α->D){Q:List D×R->Prop}(I:Nat->List D->R->Prop):∀(l:List α) (b:Nat) (acc:List D) (ρ:R),I b acc ρ->
  (∀i a acc ρ,l[i]? =some a->I (b+i) acc ρ->Ok (f (enc a) ρ) fun p=>I (b+i+1) (acc++p.1.toList) p.2)->(∀ds ρ,I (b+l.length) (acc++ds) ρ->Q (ds,ρ))->Ok (zfj f (l.map enc) ρ) Q
 |[],b,acc,ρ,h0,_,hq=>ok_some.mpr (hq [] ρ (by rw[List.append_nil];exact h0))
 |a::l,b,acc,ρ,h0,hs,hq=>by
  obtain⟨p,e,t⟩:=hs 0 a acc ρ rfl h0
  have go:=zkx enc (Q:=fun q=>Q (p.1.toList++q.1,q.2)) I l (b+1) (acc++p.1.toList) p.2 t (fun i a' acc' ρ' hi hp=>by
   have:=hs (i+1) a' acc' ρ' (by simpa using hi) (by rw[show b+(i+1)=b+1+i by lia];exact hp)
   rw[show b+(i+1)+1=b+1+i+1 by lia]at this
   exact this) (fun ds ρ h=>hq _ ρ (by rw[List.length_cons,show b+(l.length+1)=b+1+l.length by lia,<-List.append_assoc];exact h))
  have e':zfj f ((a::l).map enc) ρ=(f (enc a) ρ).bind fun p=>(zfj f (l.map enc) p.2).map fun q=>(p.1.toList++q.1,q.2):=rfl
  rw[e',e]
  exact ok_map.mpr go
theorem zmL {α:Type}{f:D->R->Option (Option D×R)}{enc:α->D}{l:List α}{Q:List D×R->Prop}(I:Nat->List D->R->Prop)(h0:I 0 [] ρ)
  (hs:∀i a acc ρ,l[i]? =some a->I i acc ρ->Ok (f (enc a) ρ) fun p=>I (i+1) (acc++p.1.toList) p.2) (hq:∀ds ρ,I l.length ds ρ->Q (ds,ρ)):Ok (zfj f (l.map enc) ρ) Q:=
 zkx enc I l 0 [] ρ h0 (fun i a acc ρ hi h=>by rw[Nat.zero_add]at h ⊢;exact hs i a acc ρ hi h) (fun ds ρ h=>hq ds ρ (by rw[Nat.zero_add]at h;exact h))
theorem zml {α:Type}{f:D->R->Option (Option D×R)}{enc:α->D}{l:List α}{Q:List D×R->Prop}(P:R->Prop)(g:α->Option D)(h0:P ρ)
  (hs:∀a ρ,a∈l->P ρ->Ok (f (enc a) ρ) fun p=>p.1=g a/\P p.2) (hq:∀ρ,P ρ->Q (l.filterMap g,ρ)):Ok (zfj f (l.map enc) ρ) Q:=
 zmL (fun i ds ρ=>ds=(l.take i).filterMap g/\P ρ) ⟨rfl,h0⟩ (fun i a acc ρ hi ⟨e,p⟩=>by
  refine(hs a ρ (List.mem_of_getElem? hi) p).mono fun r h=>⟨?_,h.2⟩
  obtain⟨h1,h2⟩:=List.getElem?_eq_some_iff.mp hi
  rw[h.1,e,List.take_add_one,hi,List.filterMap_append]
  cases q:g a<;>simp[q]) (fun ds ρ ⟨e,p⟩=>by rw[List.take_length]at e;rw[e];exact hq ρ p)
theorem zhX {α:Type}{f:D->R->Option (Option D×R)}{enc:α->D}{l:List α}{Q:List D×R->Prop}(P:R->Prop)(g:α->D)(h0:P ρ)
  (hs:∀a ρ,a∈l->P ρ->Ok (f (enc a) ρ) fun p=>p.1=some (g a)/\P p.2) (hq:∀ρ,P ρ->Q (l.map g,ρ)):Ok (zfj f (l.map enc) ρ) Q:=
 zml P (fun a=>some (g a)) h0 hs (fun ρ p=>by rw[<-Function.comp_def some g,List.filterMap_eq_map];exact hq ρ p)
theorem dEq_int (i j:Int):dEq (.int i) (.int j)=some (.bl (i==j)):=by
 unfold dEq
 rw[show noS (.int i)=true from rfl,show noS (.int j)=true from rfl,show depth (.int i)=0 from rfl]
 rfl
theorem dNe_int (i j:Int):dNe (.int i) (.int j)=some (.bl (i !=j)):=by
 unfold dNe
 rw[show noS (.int i)=true from rfl,show noS (.int j)=true from rfl,show depth (.int i)=0 from rfl]
 rfl
theorem atI_n {α:Type}(xs:List α)(i:Nat):atI xs (i:Int)=xs[i]?:=by
 unfold atI ixN
 rw[if_pos (by lia)]
 by_cases h:i<xs.length
 ·rw[if_pos (by lia)];simp
 ·rw[if_neg (by lia)];simp[List.getElem?_eq_none (by lia:xs.length<=i)]
theorem atI_lit {α:Type}(xs:List α)(n:Nat):atI xs (no_index (@OfNat.ofNat Int n _))=xs[n]?:=atI_n xs n
theorem atI_n1 {α:Type}(xs:List α)(i:Nat):atI xs ((i:Int)+1)=xs[i+1]?:=atI_n xs (i+1)
theorem ixN_n (n i:Nat):ixN n (i:Int)=if i<n then some i else none:=by
 unfold ixN
 rw[if_pos (by lia)]
 by_cases h:i<n
 ·rw[if_pos (by lia),if_pos h];simp
 ·rw[if_neg (by lia),if_neg h]
theorem ixN_lit (n i:Nat):ixN n (no_index (@OfNat.ofNat Int i _))=if i<n then some i else none:=ixN_n n i
theorem zmo {α:Type}(xs:List α)(x:α):atI (xs++[x]) (-1)=some x:=by
 unfold atI ixN
 rw[if_neg (by lia),if_pos (by simp;lia)]
 have:(-1+((xs++[x]).length:Int)).toNat=xs.length:=by simp;lia
 simp only[Option.bind_some,this]
 simp
theorem zcs {i j:Int}(h:i.natAbs<18446744073709551616):zlt i j=true:=by
 unfold zlt
 have:decide (i.natAbs<2^64)=true:=decide_eq_true h
 rw[this];rfl
theorem zjP {i j:Int}(h:j.natAbs<18446744073709551616):zlt i j=true:=by
 unfold zlt
 have:decide (j.natAbs<2^64)=true:=decide_eq_true h
 rw[this];simp
theorem zaA {j:Int}(h1: -1000000000000<=j)(h2:j<=1000000000000):zci j=true:=by
 unfold zci;rw[decide_eq_true h1,decide_eq_true h2];rfl
noncomputable def wL (n:Nat)(f:Nat->D):List D:=(List.range n).map f
noncomputable abbrev wI (n:Nat)(f:Nat->Int):List D:=wL n fun i=> .int (f i)
theorem zaT (n:Nat)(f:Nat->D):(wL n f).length=n:=by simp[wL]
theorem zat (f:Nat->D)(h:i<n):(wL n f)[i]? =some (f i):=by simp[wL,h]
theorem zdL (n:Nat)(f:Nat->D):wL (n+1) f=wL n f++[f n]:=by simp[wL,List.range_succ]
theorem zeE {f g:Nat->D}(h:∀i,i<n->f i=g i):wL n f=wL n g:=List.map_congr_left fun i hi=>h i (List.mem_range.mp hi)
theorem wL_snoc (n:Nat)(f:Nat->D)(x:D):wL n f++[x]=wL (n+1) fun j=>if j<n then f j else x:=by
 rw[zdL];congr 1
 ·exact zeE fun i hi=>by rw[if_pos hi]
 ·rw[if_neg (by lia)]
theorem wL_set (f:Nat->D)(x:D)(h:i<n):(wL n f).set i x=wL n fun j=>if j=i then x else f j:=by
 apply List.ext_getElem?
 intro j
 by_cases hj:j<n
 ·rw[zat _ hj,List.getElem?_set]
  by_cases e:i=j
  ·subst e;simp[zaT,h]
  ·simp[e,zat _ hj,Ne.symm e]
 ·rw[List.getElem?_eq_none (by simp[zaT];lia),List.getElem?_eq_none (by simp[zaT];lia)]
theorem atI_w1 (f:Nat->D):atI (wL (n+1) f) (-1)=some (f n):=by rw[zdL];exact zmo _ _
theorem ziA (n:Nat)(f:Nat->D):zlm (wL n f)=wL n fun i=> .tup [.int (i:Nat),f i]:=by
 apply List.ext_getElem?
 intro j
 unfold zlm
 by_cases hj:j<n
 ·rw[List.getElem?_zipWith,zat _ hj,zat _ hj]
  simp[zaT,hj]
 ·rw[List.getElem?_eq_none (by simp[zaT];lia),List.getElem?_eq_none (by simp[zaT];lia)]
theorem zgX (n:Nat)(f g:Nat->D):zlv (wL n f) (wL n g)=wL n fun i=> .tup [f i,g i]:=by
 apply List.ext_getElem?
 intro j
 unfold zlv
 by_cases hj:j<n
 ·rw[List.getElem?_zipWith,zat _ hj,zat _ hj,zat _ hj]
 ·rw[List.getElem?_eq_none (by simp[zaT];lia),List.getElem?_eq_none (by simp[zaT];lia)]
theorem zis {α:Type}(xs:List α)(i:Nat):cutD xs none (some (i:Int))=xs.take i:=by
 unfold cutD
 rw[HT.zhR,HT.zmh,Nat.sub_zero,List.drop_zero]
 by_cases h:i<=xs.length
 ·rw[Nat.min_eq_left h]
 ·rw[Nat.min_eq_right (by lia),List.take_of_length_le (Nat.le_refl _),List.take_of_length_le (by lia)]
theorem zmB {α:Type}(xs:List α)(i:Nat):cutD xs (some (i:Int)) none=xs.drop i:=by
 unfold cutD
 rw[HT.zhR,HT.zmh]
 by_cases h:i<=xs.length
 ·rw[Nat.min_eq_left h,List.take_of_length_le (by simp)]
 ·rw[Nat.min_eq_right (by lia),List.drop_of_length_le (Nat.le_refl _),List.drop_of_length_le (by lia)];simp
theorem zbU:∀(l:List Int),zb8 (l.map .int)=some l
 |[]=>rfl
 |i::l=>by simp[zb8,zbU l]
theorem ziS (bt:Nat->Nat->Bool):∀n,argBest bt n<=n
 |0=>Nat.le_refl 0
 |n+1=>by
  have:=ziS bt n
  unfold argBest
  split<;>lia
theorem zkW (lt:Int->Int->Bool)(h:ns≠[]):zix lt ns∈ns:=by
 unfold zix
 have hl:0<ns.length:=List.length_pos_iff.mpr h
 have:=ziS (fun i j=>lt (ns.getD i 0) (ns.getD j 0)) (ns.length-1)
 generalize argBest (fun i j=>lt (ns.getD i 0) (ns.getD j 0)) (ns.length-1)=k at*
 rw[List.getD_eq_getElem?_getD,List.getElem?_eq_getElem (by lia)]
 exact List.getElem_mem _
theorem zjq (lt:Int->Int->Bool)(h:ns≠[]):zli lt [.lst (ns.map .int)]=some (.int (zix lt ns)):=by
 have hne:ns.isEmpty=false:=by cases ns with|nil=>exact absurd rfl h|cons=>rfl
 simp only[zli,zaR,Option.bind_some,zbU,hne]
 rfl
theorem zo8:∀{ds:List D},(∀d∈ds,noS d=true)->noSL ds=true
 |[],_=>rfl
 |d::ds,h=>by simp only[noSL,Bool.and_eq_true];exact⟨h d List.mem_cons_self,zo8 fun e he=>h e (List.mem_cons_of_mem _ he)⟩
theorem zk3:∀{ds:List D},(∀d∈ds,depth d<=k)->zgC ds<=k
 |[],_=>Nat.zero_le _
 |d::ds,h=>by simp only[zgC];exact Nat.max_le.mpr ⟨h d List.mem_cons_self,zk3 fun e he=>h e (List.mem_cons_of_mem _ he)⟩
noncomputable def Pl (k:Nat)(d:D):Prop:=noS d=true/\depth d<=k
theorem pl_int (k:Nat)(i:Int):Pl k (.int i):=⟨rfl,Nat.zero_le _⟩
theorem pl_tup (h:∀d∈ds,Pl k d):Pl (k+1) (.tup ds):=⟨by simp only[noS];exact zo8 fun d hd=>(h d hd).1,by simp only[depth];exact Nat.succ_le_succ (zk3 fun d hd=>(h d hd).2)⟩
theorem rangeD_w (n:Nat):zgI 0 n=wL n fun i=> .int (i:Nat):=by unfold zgI wL;simp only[Int.zero_add]
section
variable {n:Nat} {e:Nat->D} {ρ:R}
theorem zbG {f:D->R->Option (Fl×R)}(I:Nat->R->Prop)(h0:I 0 ρ)
  (hs:∀i ρ,i<n->I i ρ->Ok (f (e i) ρ) (Turn (I (i+1)) Q)) (hq:∀ρ,I n ρ->Q (.next,ρ)):Ok (forM f (wL n e) ρ) Q:=
 ziw (enc:=e) (l:=List.range n) I h0 (fun i a ρ hi h=>by
  obtain⟨h1,h2⟩:=List.getElem?_eq_some_iff.mp hi
  have:a=i:=by simpa using h2.symm
  subst this
  exact hs a ρ (by simpa using h1) h) (fun ρ h=>hq ρ (by simpa using h))
variable {f:D->R->Option (Option D×R)} {Q:List D×R->Prop}
theorem zfz (I:Nat->List D->R->Prop)(h0:I 0 [] ρ)
  (hs:∀i acc ρ,i<n->I i acc ρ->Ok (f (e i) ρ) fun p=>I (i+1) (acc++p.1.toList) p.2) (hq:∀ds ρ,I n ds ρ->Q (ds,ρ)):Ok (zfj f (wL n e) ρ) Q:=
 zmL (enc:=e) (l:=List.range n) I h0 (fun i a acc ρ hi h=>by
  obtain⟨h1,h2⟩:=List.getElem?_eq_some_iff.mp hi
  have:a=i:=by simpa using h2.symm
  subst this
  exact hs a acc ρ (by simpa using h1) h) (fun ds ρ h=>hq ds ρ (by simpa using h))
theorem zof (P:R->Prop)(g:Nat->Option D)(h0:P ρ)
  (hs:∀i ρ,i<n->P ρ->Ok (f (e i) ρ) fun p=>p.1=g i/\P p.2) (hq:∀ρ,P ρ->Q ((List.range n).filterMap g,ρ)):Ok (zfj f (wL n e) ρ) Q:=
 zml (enc:=e) (l:=List.range n) P g h0 (fun a ρ ha hp=>hs a ρ (List.mem_range.mp ha) hp) hq
theorem zaF (P:R->Prop)(g:Nat->D)(h0:P ρ)
  (hs:∀i ρ,i<n->P ρ->Ok (f (e i) ρ) fun p=>p.1=some (g i)/\P p.2) (hq:∀ρ,P ρ->Q (wL n g,ρ)):Ok (zfj f (wL n e) ρ) Q:=
 zhX (enc:=e) (l:=List.range n) P g h0 (fun a ρ ha hp=>hs a ρ (List.mem_range.mp ha) hp) hq
end
end M
namespace M
theorem zhK (n:Nat)(f:Nat->Int)(x:Int):wI n f++[.int x]=wI (n+1) fun j=>if j<n then f j else x:=by
 rw[wI,wL_snoc];exact zeE fun j _=>by dsimp only;split<;>rfl
theorem zi4 {j:Int}(h0:0<j)(h1:j<1073741824):znh j=true:=by
 have h:j.natAbs.log2<9000:=by
  have:j.natAbs.log2<30:=(Nat.log2_lt (by lia)).mpr (by lia)
  lia
 unfold znh;rw[decide_eq_true h0,decide_eq_true h];rfl
theorem znV {j:Int}(h0:0<j)(h1:j<2^250):znh j=true:=by
 have h:j.natAbs.log2<9000:=by
  have:j.natAbs.log2<250:=(Nat.log2_lt (by lia)).mpr (by lia)
  lia
 unfold znh;rw[decide_eq_true h0,decide_eq_true h];rfl
theorem wI_set {n i:Nat}(f:Nat->Int)(x:Int)(h:i<n):(wI n f).set i (.int x)=wI n fun j=>if j=i then x else f j:=by
 rw[wI,wL_set _ _ h];exact zeE fun j _=>by dsimp only;split<;>rfl
theorem isN_non:isN .non=true:=rfl
theorem isN_int (i:Int):isN (.int i)=false:=rfl
theorem isN_bl (b:Bool):isN (.bl b)=false:=rfl
theorem isN_str (s:PySem.Str):isN (.str s)=false:=rfl
theorem isN_lst (ds:List D):isN (.lst ds)=false:=rfl
theorem isN_tup (ds:List D):isN (.tup ds)=false:=rfl
end M
namespace M
open L2 PySem
variable {i b c N:Nat} {g:D->R->Option R} {v:Int} {Q:Fl×R->Prop} {neg:Bool} {ds:List D} {ma:MA} {mt:MT} {d:D}
theorem dItems_l (ds:List D):zaR [.lst ds]=some ds:=rfl
theorem dItems_t (ds:List D):zaR [.tup ds]=some ds:=rfl
theorem dItems_s (ns:List Int):zaR [.scr ns]=some (ns.map .int):=rfl
theorem dLen_l (ds:List D):dLen [.lst ds]=some (.int ds.length):=rfl
theorem dLen_t (ds:List D):dLen [.tup ds]=some (.int ds.length):=rfl
theorem dLen_s (ns:List Int):dLen [.scr ns]=some (.int ns.length):=rfl
theorem dTuple_l (ds:List D):zbX [.lst ds]=some (.tup ds):=rfl
theorem dTuple_t (ds:List D):zbX [.tup ds]=some (.tup ds):=rfl
theorem dTuple_s (ns:List Int):zbX [.scr ns]=some (.tup (ns.map .int)):=rfl
theorem dCut_l (ds:List D)(a b:Option Int):dCut (.lst ds) a b=some (.lst (cutD ds a b)):=rfl
theorem dCut_t (ds:List D)(a b:Option Int):dCut (.tup ds) a b=some (.tup (cutD ds a b)):=rfl
theorem dCut_s (ns:List Int)(a b:Option Int):dCut (.scr ns) a b=some (.lst ((cutD ns a b).map .int)):=rfl
theorem dIx_l (ds:List D)(i:Int):dIx (.lst ds) (.int i)=atI ds i:=rfl
theorem dIx_t (ds:List D)(i:Int):dIx (.tup ds) (.int i)=atI ds i:=rfl
theorem dIx_s (ns:List Int)(i:Int):dIx (.scr ns) (.int i)=(atI ns i).map .int:=rfl
theorem dEq_str (a b:Str):dEq (.str a) (.str b)=some (.bl (a==b)):=by
 unfold dEq
 rw[show noS (.str a)=true from rfl,show noS (.str b)=true from rfl,show depth (.str a)=0 from rfl]
 rfl
theorem zl2 (n:Nat)(f g h:Nat->D):zlM (wL n f) (wL n g) (wL n h)=wL n fun i=> .tup [f i,g i,h i]:=by
 apply List.ext_getElem?
 intro j
 unfold zlM
 by_cases hj:j<n
 ·have e:(List.zip (wL n g) (wL n h))[j]? =some (g j,h j):=by
   rw[List.getElem?_zip_eq_some];exact⟨zat g hj,zat h hj⟩
  rw[List.getElem?_zipWith,e,zat _ hj,zat _ hj]
 ·rw[List.getElem?_eq_none (by simp[zaT];lia),List.getElem?_eq_none (by simp[zaT];lia)]
structure Sq (d:D) (n:Nat) (f:Nat->Int):Prop where
 it:zaR [d]=some (wI n f)
 ln:dLen [d]=some (.int n)
 tp:zbX [d]=some (.tup (wI n f))
 ix:∀i,dIx d (.int i)=atI (wI n f) i
 ct:∀lo hi,∃d',dCut d lo hi=some d'/\zaR [d']=some (cutD (wI n f) lo hi)
theorem Sq.tup (n:Nat)(f:Nat->Int):Sq (.tup (wI n f)) n f:=⟨rfl,by rw[dLen_t,zaT],rfl,fun _=>rfl,fun lo hi=>⟨_,rfl,rfl⟩⟩
theorem zeA {j n m i:Nat}(hm:0<m):i<cntS (j:Int) (n:Int) (m:Int)↔j+i*m<n:=by
 unfold cntS
 by_cases h:(j:Int)<(n:Int)
 ·rw[if_pos h]
  have e:((n:Int)-(j:Int)-1)/(m:Int)=(((n-j-1)/m:Nat):Int):=by
   rw[Int.natCast_ediv];congr 1;lia
  have e2:∀q:Nat,((q:Int)+1).toNat=q+1:=fun q=>by lia
  rw[e,e2,Nat.lt_succ_iff,Nat.le_div_iff_mul_le hm]
  lia
 ·rw[if_neg h]
  constructor
  ·intro h;lia
  ·intro h;lia
theorem zoK {α β:Type}{h:α->Option β}{g:α->β}:∀(l:List α),(∀a∈l,h a=some (g a))->l.filterMap h=l.map g
 |[],_=>rfl
 |a::l,e=>by rw[List.filterMap_cons,e a List.mem_cons_self,List.map_cons,zoK l fun b hb=>e b (List.mem_cons_of_mem _ hb)]
theorem zoC {n j m:Nat}(f:Nat->D)(hm:0<m)(hj:j<n):zca (wL n f) (some (j:Int)) none (some (m:Int))=wL (cntS (j:Int) (n:Int) (m:Int)) fun i=>f (j+i*m):=by
 have hb:sliceBounds (some (j:Int)) none (some (m:Int)) n=((j:Int),(n:Int),(m:Int)):=by
  have:(m:Int)>0:=by lia
  simp[sliceBounds,this]
  lia
 unfold zca
 rw[zaT,hb]
 unfold sliceRange
 have h1:(m:Int)>0:=by lia
 have h2:(j:Int)<(n:Int):=by lia
 simp only[h1,h2,if_true]
 have ec:(((n:Int)-(j:Int)+(m:Int)-1)/(m:Int)).toNat=cntS (j:Int) (n:Int) (m:Int):=by
  unfold cntS
  rw[if_pos h2,show((n:Int)-(j:Int)+(m:Int)-1)=((n:Int)-(j:Int)-1)+(m:Int) by lia,Int.add_ediv_of_dvd_right (Int.dvd_refl _),Int.ediv_self (by lia)]
 rw[ec]
 rw[List.filterMap_map]
 apply zoK
 intro i hi
 have hi:j+i*m<n:=(zeA hm).mp (List.mem_range.mp hi)
 have ht:((j:Int)+(m:Int)*(i:Int)).toNat=j+i*m:=by
  rw[show((j:Int)+(m:Int)*(i:Int))=((j+i*m:Nat):Int) by push_cast;rw[Int.mul_comm]];lia
 simp only[Function.comp_def,ht]
 exact zat f hi
noncomputable def sumR:Nat->(Nat->Int)->Int
 |0,_=>0
 |n+1,f=>sumR n f+f n
theorem zan {f g:Nat->Int}:∀{n:Nat},(∀i,i<n->f i=g i)->sumR n f=sumR n g
 |0,_=>rfl
 |n+1,h=>by rw[sumR,sumR,zan fun i hi=>h i (by lia),h n (by lia)]
theorem zmw (f g:Nat->Int):∀n,sumR n (fun i=>f i+g i)=sumR n f+sumR n g
 |0=>rfl
 |n+1=>by simp only[sumR,zmw f g n];lia
theorem zmN (f g:Nat->Int):∀n,sumR n (fun i=>f i-g i)=sumR n f-sumR n g
 |0=>rfl
 |n+1=>by simp only[sumR,zmN f g n];lia
theorem zaW:∀n,sumR n (fun _=>0)=0
 |0=>rfl
 |n+1=>by simp only[sumR,zaW n];lia
theorem zmS (a:Int)(f:Nat->Int):∀n,sumR n (fun i=>a*f i)=a*sumR n f
 |0=>by simp[sumR]
 |n+1=>by simp only[sumR,zmS a f n,Int.mul_add]
theorem ziR {f g:Nat->Int}:∀{n:Nat},(∀i,i<n->f i<=g i)->sumR n f<=sumR n g
 |0,_=>Int.le_refl _
 |n+1,h=>by
  have h1:=ziR (n:=n) fun i hi=>h i (by lia)
  have h2:=h n (by lia)
  simp only[sumR];lia
theorem zcG (f:Nat->Nat->Int)(m:Nat):∀n,sumR n (fun i=>sumR m (f i))=sumR m (fun j=>sumR n fun i=>f i j)
 |0=>(zaW m).symm
 |n+1=>by simp only[sumR,zcG f m n,zmw]
theorem zbA (f:Nat->Int)(a:Nat):∀b,sumR (a+b) f=sumR a f+sumR b fun i=>f (a+i)
 |0=>by simp[sumR]
 |b+1=>by rw[show a+(b+1)=a+b+1 by lia,sumR,sumR,zbA f a b];lia
theorem zbI (f:Nat->Int):∀n,((List.range n).map f).sum=sumR n f
 |0=>rfl
 |n+1=>by simp[List.range_succ,zbI f n,sumR]
theorem zcC (n:Nat)(f:Nat->Int):zb8 (wI n f)=some ((List.range n).map f):=by
 have:wI n f=((List.range n).map f).map .int:=by simp[wL,List.map_map,Function.comp_def]
 rw[this,zbU]
theorem cut_w {n a b:Nat}(f:Nat->D)(h:a+b<=n):cutD (wL n f) (some (a:Int)) (some ((a:Int)+(b:Int)))=wL b fun i=>f (a+i):=by
 have e:cutD (wL n f) (some (a:Int)) (some ((a:Int)+(b:Int)))=((wL n f).drop a).take b:=by
  unfold cutD
  rw[HT.zhR,show((a:Int)+(b:Int))=((a+b:Nat):Int) by lia,HT.zhR,zaT]
  rw[Nat.min_eq_left h,Nat.min_eq_left (by lia:a<=n),Nat.add_sub_cancel_left]
 rw[e]
 apply List.ext_getElem?
 intro j
 by_cases hj:j<b
 ·rw[List.getElem?_take_of_lt hj,List.getElem?_drop,zat _ (by lia),zat _ hj]
 ·rw[List.getElem?_eq_none (by simp[zaT];lia),List.getElem?_eq_none (by rw[zaT];lia)]
theorem zfD (v:Nat->Int):∀n i,i<=n->v i<=v (argBest (fun i j=>decide (v i>v j)) n)
 |0,i,h=>by rw[show i=0 by lia];exact Int.le_refl _
 |n+1,i,h=>by
  simp only[argBest]
  by_cases c:v (n+1)>v (argBest (fun i j=>decide (v i>v j)) n)
  ·rw[if_pos (decide_eq_true c)]
   by_cases e:i=n+1
   ·rw[e];exact Int.le_refl _
   ·have:=zfD v n i (by lia);lia
  ·rw[if_neg (by simpa using c)]
   by_cases e:i=n+1
   ·rw[e];lia
   ·exact zfD v n i (by lia)
theorem zfX (v:Nat->Int):∀n i,i<=n->v (argBest (fun i j=>decide (v i<v j)) n)<=v i
 |0,i,h=>by rw[show i=0 by lia];exact Int.le_refl _
 |n+1,i,h=>by
  simp only[argBest]
  by_cases c:v (n+1)<v (argBest (fun i j=>decide (v i<v j)) n)
  ·rw[if_pos (decide_eq_true c)]
   by_cases e:i=n+1
   ·rw[e];exact Int.le_refl _
   ·have:=zfX v n i (by lia);lia
  ·rw[if_neg (by simpa using c)]
   by_cases e:i=n+1
   ·rw[e];lia
   ·exact zfX v n i (by lia)
theorem zme (g:Nat->Int)(h:i<c):((List.range c).map g).getD i 0=g i:=by
 rw[List.getD_eq_getElem?_getD];simp[h]
theorem max_w (g:Nat->Int)(hc:0<c):∃v,ziy [.lst (wI c g)]=some (.int v)/\(∃i,i<c/\g i=v)/\∀i,i<c->g i<=v:=by
 have hne:(List.range c).map g≠[]:=fun h=>by have:=congrArg List.length h;simp at this;lia
 have e1:wI c g=((List.range c).map g).map .int:=by simp[wL,List.map_map,Function.comp_def]
 refine⟨_,by rw[e1];exact zjq _ hne,?_,?_⟩
 ·obtain⟨i,hi,e⟩:=List.mem_map.mp (zkW (fun i j=>decide (i>j)) hne)
  exact⟨i,List.mem_range.mp hi,e⟩
 ·intro i hi
  have:=zfD (fun i=>((List.range c).map g).getD i 0) (c-1) i (by lia)
  rw[zme g hi]at this
  unfold zix
  rw[List.length_map,List.length_range]
  exact this
theorem min_w (g:Nat->Int)(hc:0<c):∃v,zj4 [.lst (wI c g)]=some (.int v)/\(∃i,i<c/\g i=v)/\∀i,i<c->v<=g i:=by
 have hne:(List.range c).map g≠[]:=fun h=>by have:=congrArg List.length h;simp at this;lia
 have e1:wI c g=((List.range c).map g).map .int:=by simp[wL,List.map_map,Function.comp_def]
 refine⟨_,by rw[e1];exact zjq _ hne,?_,?_⟩
 ·obtain⟨i,hi,e⟩:=List.mem_map.mp (zkW (fun i j=>decide (i<j)) hne)
  exact⟨i,List.mem_range.mp hi,e⟩
 ·intro i hi
  have:=zfX (fun i=>((List.range c).map g).getD i 0) (c-1) i (by lia)
  rw[zme g hi]at this
  unfold zix
  rw[List.length_map,List.length_range]
  exact this
theorem max_pick (f:Nat->Int){n m j:Nat}(hm:0<m)(hj:j<m)(hn:m<=n):∃v,ziy [.lst (zca (wI n f) (some (j:Int)) none (some (m:Int)))]=some (.int v)/\(∃p,p<n/\p%m=j/\f p=v)/\∀p,p<n->p%m=j->f p<=v:=by
 rw[wI,zoC _ hm (by lia)]
 obtain⟨v,e,⟨i,hi,ei⟩,h⟩:=max_w (fun i=>f (j+i*m)) (c:=cntS (j:Int) (n:Int) (m:Int)) ((zeA hm).mpr (by lia))
 refine⟨v,e,⟨j+i*m,(zeA hm).mp hi,by rw[Nat.add_mul_mod_self_right,Nat.mod_eq_of_lt hj],ei⟩,fun p hp hpm=>?_⟩
 have e2:j+p/m*m=p:=by have:=Nat.mod_add_div p m;rw[Nat.mul_comm];lia
 have:=h (p/m) ((zeA hm).mpr (by lia))
 rw[e2]at this
 exact this
theorem min_pick (f:Nat->Int){n m j:Nat}(hm:0<m)(hj:j<m)(hn:m<=n):∃v,zj4 [.lst (zca (wI n f) (some (j:Int)) none (some (m:Int)))]=some (.int v)/\(∃p,p<n/\p%m=j/\f p=v)/\∀p,p<n->p%m=j->v<=f p:=by
 rw[wI,zoC _ hm (by lia)]
 obtain⟨v,e,⟨i,hi,ei⟩,h⟩:=min_w (fun i=>f (j+i*m)) (c:=cntS (j:Int) (n:Int) (m:Int)) ((zeA hm).mpr (by lia))
 refine⟨v,e,⟨j+i*m,(zeA hm).mp hi,by rw[Nat.add_mul_mod_self_right,Nat.mod_eq_of_lt hj],ei⟩,fun p hp hpm=>?_⟩
 have e2:j+p/m*m=p:=by have:=Nat.mod_add_div p m;rw[Nat.mul_comm];lia
 have:=h (p/m) ((zeA hm).mpr (by lia))
 rw[e2]at this
 exact this
theorem znk (f:Nat->Int){n m j:Nat}(hm:0<m)(hj:j<m)(h:∃p,p<n/\p%m=j/\f p=v):∃i:Nat,zk8 (.lst (zca (wI n f) (some (j:Int)) none (some (m:Int)))) (.int v)=some (.int i)/\j+i*m<n/\f (j+i*m)=v:=by
 obtain⟨p,hp,hpm,hv⟩:=h
 have hjn:j<n:=by have:=Nat.mod_le p m;lia
 rw[wI,zoC _ hm hjn]
 have e2:j+p/m*m=p:=by have:=Nat.mod_add_div p m;rw[Nat.mul_comm];lia
 have hc:p/m<cntS (j:Int) (n:Int) (m:Int):=(zeA hm).mpr (by lia)
 have mem:v∈(List.range (cntS (j:Int) (n:Int) (m:Int))).map fun i=>f (j+i*m):=List.mem_map.mpr ⟨p/m,List.mem_range.mpr hc,by rw[e2];exact hv⟩
 have e3:zb8 (wL (cntS (j:Int) (n:Int) (m:Int)) fun i=>D.int (f (j+i*m)))=some ((List.range (cntS (j:Int) (n:Int) (m:Int))).map fun i=>f (j+i*m)):=zcC _ fun i=>f (j+i*m)
 have hl:=List.idxOf_lt_length_iff.mpr mem
 have hg:=List.getElem_idxOf hl
 refine⟨List.idxOf v ((List.range (cntS (j:Int) (n:Int) (m:Int))).map fun i=>f (j+i*m)),by simp only[zk8,e3,Option.bind_some,mem,if_true],?_,?_⟩
 ·exact(zeA hm).mp (by simpa using hl)
 ·rw[List.getElem_map,List.getElem_range]at hg
  exact hg
theorem zmT {mc:MT}{mb:MS}(I:Nat->R->Prop)(turn:∀m ρ,I m ρ->Ok (mc ρ) fun p=>(p.1=true->∃m',m=m'+1/\Ok (mb p.2) fun q=>q.1= .next/\I m' q.2)/\(p.1=false->Q (.next,p.2))):∀(fuel m:Nat) (ρ:R),m<fuel->I m ρ->Ok (zib mc mb fuel ρ) Q
 |0,m,ρ,h,_=>by lia
 |n+1,m,ρ,h,hI=>by
  obtain⟨⟨b,ρ1⟩,e,h1,h2⟩:=turn m ρ hI
  unfold zib
  rw[e]
  cases b with
  |false=>exact ok_some.mpr (h2 rfl)
  |true=>
   obtain⟨m',rfl,⟨f,ρ2⟩,e2,ef,hI2⟩:=h1 rfl
   show Ok ((mb ρ1).bind _) Q
   rw[e2]
   cases(show f= .next from ef)
   exact zmT I turn n m' ρ2 (by lia) hI2
theorem like_par (ns:List Int):likeS (.par (ns.map .int)) (.par (ns.map .int))=true:=by
 show(match zb8 (ns.map D.int),zb8 (ns.map D.int)with
  |some a,some b=>a==b
  |_,_=>false)=true
 rw[zbU];exact beq_self_eq_true ns
section
variable {j:Nat} {mk me:ME} {ρ:R}
theorem ok_tDI {Q:Bool×R->Prop}:Ok (tDI j neg mk ρ) Q↔Ok (mk ρ) fun p=>Ok (match p.1 with
 | .int k=>(p.2[j]?.bind Sl.dic).map fun q=>(((lkD q.1 q.2 k).isSome !=neg),p.2)
 |_=>none) Q:=ok_bind
theorem ok_fMT {m:MS}{cs:List D}{t:T}{Q:Sl×List D->Prop}:Ok (fMT N m cs t ds) Q=Ok ((m (.par cs:: .tre t::(ds.map .val++List.replicate (N-(ds.length+2)) .emp))).bind fun p=>match p.1,(p.2[0]?:Option Sl)with
 |Fl.ret r,some (Sl.par out)=>some (r,out)
 |Fl.next,some (Sl.par out)=>some (.val .non,out)
 |_,_=>none) Q:=rfl
theorem ok_sPar:Ok (sPar i j ma ρ) Q=Ok ((ma ρ).bind fun p=>match p.1 with
 |[c,d]=>some (.next,(p.2.set i (.val c)).set j (.val d))
 |_=>none) Q:=rfl
theorem ok_tDIT {Q:Bool×R->Prop}:Ok (tDIT j neg mk ρ) Q↔Ok (mk ρ) fun p=>Ok (keyT p.1) fun k=>Ok ((p.2[j]?.bind Sl.dit).map fun q=>(((lkD q.1 q.2 k).isSome !=neg),p.2)) Q:=ok_bind.trans (zaN fun _=>ok_bind)
theorem ok_eDGT {Q:D×R->Prop}:Ok (eDGT j mk ρ) Q=Ok (if(ρ[j]?.bind Sl.dit).isSome then(mk ρ).bind fun p=>(keyT p.1).bind fun k=>(p.2[j]?.bind Sl.dit).bind fun q=>(lkD q.1 q.2 k).map fun d=>(d,p.2)else none) Q:=rfl
theorem ok_sDPT:Ok (sDPT j mk me ρ) Q=Ok ((me ρ).bind fun p=>if(p.2[j]?.bind Sl.dit).isSome then(mk p.2).bind fun q=>(keyT q.1).bind fun k=>q.2[j]?.bind fun s=>match s.tree with
  |some (.dit ks ds)=>if ks.length<16777216 then some (.next,q.2.set j (s.putT (.dit (ptD ks ds k p.1).1 (ptD ks ds k p.1).2)))else none
  |_=>none else none) Q:=rfl
theorem ok_sDNT:Ok (sDNT j ρ) Q↔Q (.next,ρ.set j (.tre (.dit [] []))):=ok_some
theorem ok_sDNT1:Ok (sDNT1 j mk me ρ) Q=Ok ((mk ρ).bind fun p=>(keyT p.1).bind fun k=>(me p.2).bind fun q=>some (.next,q.2.set j (.tre (.dit [k] [q.1])))) Q:=rfl
theorem ok_iDKT {Q:List D×R->Prop}:Ok (iDKT j ρ) Q=Ok (match ρ[j]? with
 |some (.val (.dit ks ds))=>some (ks.map fun k=> .tup (k.map .int),ρ)
 |_=>none) Q:=rfl
theorem ok_eKn {Q:D×R->Prop}:Ok (eKn j ρ) Q=Ok (match ρ[j]? with
 |some (.tre (.dit ks ds))=>some (.dit ks ds,ρ.set j (.val (.dit ks ds)))
 |some (.val d)=>some (d,ρ)
 |_=>none) Q:=rfl
theorem ok_iCt {Q:List D×R->Prop}:Ok (iCt ds ρ) Q↔Q (ds,ρ):=ok_some
theorem ok_eCutZ {ma:ME}{ml mh ms:MP}{Q:D×R->Prop}:Ok (eCutZ ma ml mh ms ρ) Q=Ok ((ma ρ).bind fun p=>(ml p.2).bind fun q=>(mh q.2).bind fun r=>(ms r.2).bind fun t=>match p.1 with
 | .scr ns=>if t.1=some 0 then none else some (.lst ((zca ns q.1 r.1 t.1).map .int),t.2)
 |_=>none) Q:=rfl
theorem ok_sFzDT {m:MS}:Ok (sFzDT j m ρ) Q=Ok (m (fzDT j ρ)) Q:=rfl
theorem ok_iR3N {Q:List D×R->Prop}:Ok (iR3N ma ρ) Q=Ok ((ma ρ).bind fun p=>match p.1 with
 |[.int i,.int j,.int k]=>if zci i&&zci j&&decide (k= -1)then some (zkH i (-1) (i-j).toNat,p.2)else none
 |_=>none) Q:=rfl
theorem ok_turnT {mo:MO}{Q:Option (List D)×R->Prop}:Ok (turnT g mt mo d ρ) Q↔Ok (g d ρ) fun ρ1=>Ok (mt ρ1) fun p=>(p.1=true->Ok (mo p.2) fun q=>zdP q.2=true/\Q (some q.1,q.2))/\(p.1=false->zdP p.2=true/\Q (none,p.2)):=by
 unfold turnT;rw[ok_bind];exact zaN fun ρ1=>by rw[ok_bind];exact zaN fun p=>by rw[zkN,ok_bind,zgd,ok_some];exact and_congr (imp_congr Iff.rfl (zaN fun q=>by rw[zgd,ok_some])) Iff.rfl
theorem ok_turnQ {me:ME}{Q:Option D×R->Prop}:Ok (turnQ b c g mt me d ρ) Q↔Ok (g d ρ) fun ρ1=>Ok (mt ρ1) fun p=>(p.1=true->Ok (me p.2) fun q=>zn8 b c q.2=true/\Q (some q.1,q.2))/\(p.1=false->zn8 b c p.2=true/\Q (none,p.2)):=by
 unfold turnQ;rw[ok_bind];exact zaN fun ρ1=>by rw[ok_bind];exact zaN fun p=>by rw[zkN,ok_bind,zgd,ok_some];exact and_congr (imp_congr Iff.rfl (zaN fun q=>by rw[zgd,ok_some])) Iff.rfl
end
end M
local macro_rules | `(tactic| simp! only [$ls,*]) => `(tactic| simp only [↓M.ok_sIf, ↓M.ok_eIf, ↓M.ok_tAnd, ↓M.ok_tOr, ↓M.ok_eAnd, ↓M.ok_eOr, ↓M.ok_chain, ↓M.ok_turnM, ↓M.ok_turnP, ↓M.ok_turnQ, ↓M.ok_bind, ↓M.ok_map, ↓M.zgd, ↓M.ok_some, ↓M.ok_sNext, ↓M.ok_sSeq, ↓M.ok_sRet, ↓M.ok_sRetO, ↓M.ok_sRetV, ↓M.ok_gN, ↓M.ok_gsNil, ↓M.zn2, ↓M.ok_gT, ↓M.ok_sAsg, ↓M.ok_sSet, ↓M.ok_sSetO, ↓M.ok_sApp, ↓M.ok_sPut, ↓M.ok_eC, ↓M.ok_eVar, ↓M.ok_aNil, ↓M.ok_aCons, ↓M.ok_m2, ↓M.ok_m1, ↓M.ok_mC, ↓M.ok_eIxV, ↓M.ok_eLenV, ↓M.ok_oC, ↓M.ok_eTup, ↓M.ok_oLst, ↓M.ok_tTru, ↓M.ok_tNotM, ↓M.ok_eCall, ↓M.ok_oCall, ↓M.zoj, ↓M.ok_eFz, ↓M.ok_eCut, ↓M.ok_pNo, ↓M.ok_pSome, ↓M.ok_iSeq, ↓M.ok_iR1, ↓M.ok_sFor, ↓M.ok_oLC, ↓M.ok_tTrue, ↓M.ok_fP, ↓M.ok_fM, ↓M.ok_sAugI, ↓M.ok_eCutS, ↓M.ok_oRep, ↓M.ok_iZ2, ↓M.ok_iZ3, ↓M.ok_iEn, ↓M.ok_oLCM, ↓M.ok_fMT, ↓M.ok_tDIT, ↓M.ok_eDGT, ↓M.ok_sDPT, ↓M.ok_sDNT, ↓M.ok_sDNT1, ↓M.ok_iDKT, ↓M.ok_eKn, ↓M.ok_iCt, ↓M.ok_eCutZ, ↓M.ok_sFzDT, ↓M.ok_iR3N, ↓M.ok_turnT, M.dI2, M.dSub, M.dDiv, M.dMod, M.dPow, M.dLt, M.dLe, M.dGt, M.dGe, M.dNeg, M.dMul, M.dRepT, M.dAdd, M.dTru, M.Sl.read, M.Sl.items, M.Sl.put, M.hasV, M.zdP, M.fz1, M.fzL, M.capS, M.capR, M.eIsI.noS1, M.okT, M.isI, M.d2I, M.dAbs, M.dSum, M.ziy, M.zj4, M.dIsN, M.zkQ, M.zls, M.zo2, M.fzD, M.putCs, M.Ch.sl, M.Sl.dic, M.Sl.dit, M.Sl.tree, M.Sl.putT, M.Sl.dit, M.fzT, M.Ch.D, M.fzDT, M.fzU, M.rowsOf, M.zn8, M.zpg, M.seqK_ret, M.seqK_brk, M.zpf, M.zoE, M.zpk, M.turn_brk, M.turn_ret, List.getElem?_cons_zero, List.getElem?_cons_succ, List.set_cons_zero, List.set_cons_succ, Option.bind_some, Option.isSome_some, Option.map_some, if_true, List.map_cons, List.map_nil, List.replicate_succ, List.replicate_zero, List.length_cons, List.length_nil, List.cons_append, List.nil_append, List.all_cons, List.all_nil, Bool.and_true, Bool.true_and, Bool.and_self, Bool.true_eq_false, Bool.false_eq_true, if_false, M.dEq_int, M.dNe_int, List.length_map, List.length_append, M.atI_n, M.atI_lit, M.ixN_n, M.ixN_lit, M.atI_n1, M.ok_none, M.dItems_l, M.dItems_t, M.dItems_s, M.dLen_l, M.dLen_t, M.dLen_s, M.dTuple_l, M.dTuple_t, M.dTuple_s, M.dCut_l, M.dCut_t, M.dCut_s, M.dIx_l, M.dIx_t, M.dIx_s, M.dEq_str, M.zl2, M.isN_non, M.isN_int, M.isN_bl, M.isN_str, M.isN_lst, M.isN_tup, M.zbU, Int.toNat_natCast, M.rangeD_w, M.zaT, decide_eq_true_eq, Bool.and_eq_true, true_and, and_true, Nat.reduceAdd, Nat.reduceLeDiff, Int.reduceLT, Int.reduceLE, Int.reduceNeg, Nat.reduceSub, Int.reducePow, Int.reduceMul, Int.reduceAdd, Int.reduceSub, Int.reduceMod, Int.reduceDiv, Nat.reduceLT, Nat.reduceBNe, Nat.reduceEqDiff, List.filter_cons, List.filter_nil, bne_self_eq_false, Int.reduceToNat, Nat.reducePow, M.znb, Int.reduceEq, Int.reduceBEq, Int.reduceBNe, Nat.reduceMod, decide_true, decide_false, beq_iff_eq, beq_eq_false_iff_ne, bne_iff_ne, bne_eq_false_iff_eq, decide_eq_false_iff_not, Int.not_le, Int.not_lt, ne_eq, forall_const, true_implies, false_implies, reduceCtorEq, imp_self, implies_true, M.D.bl.injEq, exists_eq_left', Bool.not_true, Bool.not_false, $ls,*])
namespace Prf
open L2 M PySem
noncomputable def top (i:Nat):Stmt:=PySem.Challenge.pw_tellsum_k76_whole_fitting_changes_and_wr.main.body.getD i (.Pass ⟨0,0,0,0⟩)
structure BN (K:W.Frag) (mg:Str->Option Value):Prop where
 abs':mg "abs"=none
 enumerate':mg "enumerate"=none
 len':mg "len"=none
 list':mg "list"=none
 max':mg "max"=none
 min':mg "min"=none
 range':mg "range"=none
 sum':mg "sum"=none
 tuple':mg "tuple"=none
 zip':mg "zip"=none
 k_SIGNS:TCon K mg "SIGNS" [-1,0,1]
section
variable {P:Program} {w:World} {K:W.Frag} {mg:Str->Option Value} {base hp:Heap} {f:Addr} {fd:FuncData} (X:K.In hp) (G:hp.Ns mainGlobals mg) (bn:BN K mg)
include X G bn
noncomputable abbrev zh8:Stmt:=top 4
noncomputable def zgH:ME:=
 (mC dSum (zad (eCut (eVar 0) (zb4 (eVar 2)) (zb4 (m2 dAdd (eVar 2) (eVar 1)))) aNil))
noncomputable def zgA:MO:=
 oLC [0,1] 1 (iR1 (zad (m2 dAdd (m2 dSub (zfm 0) (eVar 1)) (eC (.int 1))) aNil)) (gN 2) zbp zgH
noncomputable def zgV:MS:=
 (sRet (mC zbX (zad (eFz zgA) aNil)))
noncomputable def zbf:List D->Option Sl:=fP 2 zgV
theorem zkA (h:FnAt K "line_sums" zh8):FD P w K mg base 1 "line_sums" (spP K 2 zbf):=
 fdP (N:=["row","k"]) (k:=0) (m:=zgV) X G h fun _ _ _ _ _ _ _ hr nd=>(zal (zaB (zbO bn.tuple' (zaa (SO.se (zcU [0,1] 1 ["row","k","i"] rfl (zaD bn.range' (zaa (zav (zbh (zce 0 bn.len') (zab 1)) zag) zae)) (fun C s H fp=>(zak 2 ndk)) (fun C s H fp=>zay) (fun C s H fp=>(ze2 rfl bn.sum' (zaa (zd9 (zab 0) (zaK (zab 2)) (zaK (zav (zab 2) (zab 1)))) zae))))) zae))))
noncomputable abbrev zdA:Stmt:=top 6
noncomputable def zc5:MS:=
 (sIf (tAndM (tTru (m2 zkQ (eIxV 3 (eVar 8)) (eC .non))) (tOrM (tTru (m2 dIsN (eIxV 3 (eVar 7)) (eC .non))) (tTru (m2 dGt (eIxV 3 (eVar 7)) (m2 dAdd (eIxV 3 (eVar 8)) (eVar 9))))))
  (sSeq (sPut 3 (eVar 7) (m2 dAdd (eIxV 3 (eVar 8)) (eVar 9)))
  (sSeq (sPut 4 (eVar 7) (eVar 8))
  (sSet 5 (eVar 7))))
  zdr)
noncomputable def zc3:MS:=
 sFor (iSeq (eVar 0)) (gT 3 (zar (gN 7) (zar (gN 8) (zar (gN 9) zb5)))) zc5
noncomputable def zc1:MS:=
 (sSeq (sSet 5 (eC .non))
  zc3)
noncomputable def zc4:MS:=
 sFor (iR1 (zad (eVar 1) aNil)) (gN 6) zc1
noncomputable def zcv:MS:=
 (sSeq (zgm 3 (oRep (eFz (oLst (zad (eC .non) aNil))) (eVar 1)))
  (sSeq (sPut 3 (eVar 2) (eC (.int 0)))
  (sSeq (zgm 4 (oRep (eFz (oLst (zad (eC .non) aNil))) (eVar 1)))
  (sSeq (sSet 5 (eC .non))
  (sSeq zc4
  (sRet (eTup (zad (eVar 3) (zad (eVar 4) (zad (eVar 5) aNil))))))))))
noncomputable def zaM:List D->Option Sl:=fP 10 zcv
theorem zg8 (h:FnAt K "greatest_shifts" zdA):FD P w K mg base 1 "greatest_shifts" (spP K 3 zaM):=
 fdP (N:=["ties","many","start","shifts","unders","falling","turn","lane","under","above"]) (k:=0) (m:=zcv) X G h fun _ _ _ _ _ _ _ hr nd=>(zaf (zcd 3 (zmR (SO.se (zbk (zaa zfh zae))) (zab 1)) nd)
  (zaf (zi5 3 zag (zab 2))
  (zaf (zcd 4 (zmR (SO.se (zbk (zaa zfh zae))) (zab 1)) nd)
  (zaf (zas 5 zfh nd)
  (zaf (zbE PassesOwn.never rfl (zaD bn.range' (zaa (zab 1) zae)) (zak 6 nd)
  (zaf (zas 5 zfh nd)
  (zal (zbE PassesOwn.never rfl (zbW (zab 0)) (za4 rfl (zam (zak 7 nd) (zam (zak 8 nd) (zam (zak 9 nd) zaI))))
  (zal (zed (STw.st (sw_and (zma (zaj 3 (zab 8)) zfh) (sw_and1 (STw.st (znr (st_is (zaj 3 (zab 7)) zfh) (zjC (zm0 (zaj 3 (zab 7)) (zav (zaj 3 (zab 8)) (zab 9)))))))))
  (zaf (zi5 3 (zav (zaj 3 (zab 8)) (zab 9)) (zab 7))
  (zaf (zi5 4 (zab 8) (zab 7))
  (zal (zas 5 (zab 7) nd))))
  za6))))))
  (zal (zaB (zaO (zaa (zab 3) (zaa (zab 4) (zaa (zab 5) zae)))))))))))
noncomputable abbrev zfT:Stmt:=top 7
noncomputable def zei:MS:=
 (sSet 2 (eIxV 0 (eVar 2)))
noncomputable def zej:MS:=
 sFor (iR1 (zad (zfm 0) aNil)) (gN 3) zei
noncomputable def zes:MT:=
 (tTru (m2 dNe (eIxV 0 (eIxV 4 (m1 dNeg (eC (.int 1))))) (eVar 2)))
noncomputable def zd6:MS:=
 (sApp 4 (eIxV 0 (eIxV 4 (m1 dNeg (eC (.int 1))))))
noncomputable def zd8:MS:=
 zib zes zd6 400
noncomputable def zdV:MS:=
 (sSeq (sSet 2 (eVar 1))
  (sSeq zej
  (sSeq (zgm 4 (oLst (zad (eVar 2) aNil)))
  (sSeq zd8
  (zhj 4)))))
noncomputable def zbM:List D->Option Sl:=fP 5 zdV
theorem zi0 (h:FnAt K "falling_loop" zfT):FD P w K mg base 1 "falling_loop" (spP K 2 zbM):=
 fdP (N:=["unders","falling","lane","step","loop"]) (k:=0) (m:=zdV) X G h fun _ _ _ _ _ _ _ hr nd=>(zaf (zas 2 (zab 1) nd)
  (zaf (zbE PassesOwn.never rfl (zaD bn.range' (zaa (zce 0 bn.len') zae)) (zak 3 nd)
  (zal (zas 2 (zaj 0 (zab 2)) nd)))
  (zaf (zcd 4 (zbk (zaa (zab 2) zae)) nd)
  (zaf (ss_while 400 PassesOwn.never (zmY hr.units (zaj 0 (zaj 4 (zdE zag))) (zab 2))
  (zal (zf2 4 (zaj 0 (zaj 4 (zdE zag))))))
  (zal (zdm 4))))))
noncomputable abbrev zhu:Stmt:=top 10
noncomputable def zf7:ME:=
 (mC dAbs (zad (m2 dSub (eVar 0) (eVar 1)) aNil))
noncomputable def zfK:MO:=
 oLC [] 2 (iZ2 (zad (zax zbf (zad (eVar 1) (zad (eIxV 0 (eC (.int 0))) aNil))) (zad (eIxV 0 (eC (.int 1))) aNil))) (gT 2 (zar (gN 0) (zar (gN 1) zb5))) zbp zf7
noncomputable def zfW:MS:=
 (sRet (mC dSum (zad (eFz zfK) aNil)))
noncomputable def zcE:List D->Option Sl:=fP 2 zfW
theorem zkf (zaZ:FD P w K mg base 1 "line_sums" (spP K 2 zbf))(h:FnAt K "changes_of" zhu):FD P w K mg base 2 "changes_of" (spP K 2 zcE):=
 fdP (N:=["line","row"]) (k:=1) (m:=zfW) X G h fun _ _ _ _ _ _ _ hr nd=>(zal (zaB (ze2 rfl bn.sum' (zaa (SO.se (zcU [] 2 ["total","told"] rfl (zeG bn.zip' (zaa (zao zaZ hr (zaa (zab 1) (zaa (zaj 0 zag) zae)) (hlen:=(zac (zac zah)))) (zaa (zaj 0 zag) zae))) (fun C s H fp=>(za4 rfl (zam (zak 0 ndk) (zam (zak 1 ndk) zaI)))) (fun C s H fp=>zay) (fun C s H fp=>(se_abs bn.abs' (zaa (zbh (zab 0) (zab 1)) zae))))) zae))))
noncomputable abbrev zge:Stmt:=top 11
noncomputable def zec:ME:=
 (mC dSum (zad (eCut (eVar 0) (zb4 (mC (d2I max2) (zad (eC (.int 0)) (zad (m2 dAdd (m2 dSub (eVar 2) (eVar 1)) (eC (.int 1))) aNil)))) (zb4 (m2 dAdd (eVar 2) (eC (.int 1))))) aNil))
noncomputable def zeq:MO:=
 oLC [1,2] 1 (iR1 (zad (mC dLen (zad (eIxV 0 (eC (.int 2))) aNil)) aNil)) (gN 2) zbp zec
noncomputable def zdR:MS:=
 (sSeq (sSet 2 (eIxV 0 (eC (.int 0))))
  (zhP zeq))
noncomputable def za1:List D->Option Sl:=fP 3 zdR
theorem ziW (h:FnAt K "place_counts" zge):FD P w K mg base 1 "place_counts" (spP K 2 za1):=
 fdP (N:=["line","signs","k"]) (k:=0) (m:=zdR) X G h fun _ _ _ _ _ _ _ hr nd=>(zaf (zas 2 (zaj 0 zag) nd)
  (zal (zdn (zcU [1,2] 1 ["signs","k","place"] rfl (zaD bn.range' (zaa (zdw bn.len' (zaa (zaj 0 zag) zae)) zae)) (fun C s H fp=>(zak 2 ndk)) (fun C s H fp=>zay) (fun C s H fp=>(ze2 rfl bn.sum' (zaa (zd9 (zab 0) (zaK (zln rfl bn.max' (zaa zag (zaa (zav (zbh (zab 2) (zab 1)) zag) zae)))) (zaK (zav (zab 2) zag))) zae)))))))
noncomputable abbrev zhC:Stmt:=top 12
noncomputable def zgf:MS:=
 (sRet (m2 dMul (eVar 2) (eIf (tTru (m2 dGt (eVar 2) (eC (.int 0)))) (m2 dIx (eIxV 0 (eC (.int 3))) (eVar 1)) (m2 dIx (eIxV 0 (eC (.int 2))) (eVar 1)))))
noncomputable def zbv:List D->Option Sl:=fP 3 zgf
theorem zj8 (h:FnAt K "place_most" zhC):FD P w K mg base 1 "place_most" (spP K 3 zbv):=
 fdP (N:=["line","place","count"]) (k:=0) (m:=zgf) X G h fun _ _ _ _ _ _ _ hr nd=>(zal (zaB (zb1 (zab 2) (zcB (zm0 (zab 2) zag) (zaG (zaj 0 zag) (zab 1)) (zaG (zaj 0 zag) (zab 1))))))
noncomputable abbrev zgB:Stmt:=top 13
noncomputable def zfi:ME:=
 (m2 dMul (eVar 0) (eVar 1))
noncomputable def zfe:MO:=
 oLC [] 2 (iZ2 (zad (eVar 1) (zad (eIxV 0 (eC (.int 1))) aNil))) (gT 2 (zar (gN 0) (zar (gN 1) zb5))) zbp zfi
noncomputable def zeZ:ME:=
 (zax zbv (zad (eVar 0) (zad (eVar 1) (zad (eVar 2) aNil))))
noncomputable def zfb:MO:=
 oLC [0] 2 (iEn (zad (zax za1 (zad (eVar 0) (zad (eVar 1) aNil))) aNil)) (gT 2 (zar (gN 1) (zar (gN 2) zb5))) zbp zeZ
noncomputable def zez:MS:=
 (sSeq (sSet 2 (mC dSum (zad (eFz zfe) aNil)))
  (sRet (m2 dSub (eVar 2) (mC dSum (zad (eFz zfb) aNil)))))
noncomputable def zb6:List D->Option Sl:=fP 3 zez
theorem zja (za9:FD P w K mg base 1 "place_counts" (spP K 2 za1))(zby:FD P w K mg base 1 "place_most" (spP K 3 zbv))(h:FnAt K "signs_worth" zgB):FD P w K mg base 2 "signs_worth" (spP K 2 zb6):=
 fdP (N:=["line","signs","worth"]) (k:=1) (m:=zez) X G h fun _ _ _ _ _ _ _ hr nd=>(zaf (zas 2 (ze2 rfl bn.sum' (zaa (SO.se (zcU [] 2 ["sign","total"] rfl (zeG bn.zip' (zaa (zab 1) (zaa (zaj 0 zag) zae))) (fun C s H fp=>(za4 rfl (zam (zak 0 ndk) (zam (zak 1 ndk) zaI)))) (fun C s H fp=>zay) (fun C s H fp=>(zb1 (zab 0) (zab 1))))) zae)) nd)
  (zal (zaB (zbh (zab 2) (ze2 rfl bn.sum' (zaa (SO.se (zcU [0] 2 ["line","place","count"] rfl (zb7 bn.enumerate' (zaa (zao za9 hr (zaa (zab 0) (zaa (zab 1) zae)) (hlen:=(zac (zac zah)))) zae)) (fun C s H fp=>(za4 rfl (zam (zak 1 ndk) (zam (zak 2 ndk) zaI)))) (fun C s H fp=>zay) (fun C s H fp=>(zao zby hr (zaa (zab 0) (zaa (zab 1) (zaa (zab 2) zae))) (hlen:=(zac (zac (zac zah)))))))) zae))))))
noncomputable abbrev zfY:Stmt:=top 14
noncomputable def zeu:ME:=
 (eTup (zad (eVar 2) (zad (m2 dMul (eVar 2) (m2 dIx (eIxV 0 (eC (.int 1))) (eVar 1))) aNil)))
noncomputable def zev:MO:=
 oLC [0,1] 1 (iCt (List.map .int [-1,0,1])) (gN 2) zbp zeu
noncomputable def zen:MS:=
 (sSeq (sSet 8 (m2 dAdd (eVar 5) (eTup (zad (eVar 6) aNil))))
  (sSeq (sSet 9 (m2 dSub (m2 dAdd (m2 dIx (eDGT 2 (eVar 5)) (eC (.int 0))) (eVar 7)) (zax zbv (zad (eVar 0) (zad (eVar 1) (zad (mC dSum (zad (eVar 8) aNil)) aNil))))))
  (sIf (tOrM (tDIT 4 true (eCut (eVar 8) (zb4 (eC (.int 1))) pNo)) (tTru (m2 dLt (m2 dIx (eDGT 4 (eCut (eVar 8) (zb4 (eC (.int 1))) pNo)) (eC (.int 0))) (eVar 9))))
  (sDPT 4 (eCut (eVar 8) (zb4 (eC (.int 1))) pNo) (eTup (zad (eVar 9) (zad (m2 dAdd (m2 dIx (eDGT 2 (eVar 5)) (eC (.int 1))) (eTup (zad (eVar 6) aNil))) aNil))))
  zdr)))
noncomputable def zew:MS:=
 sFor (iSeq (eVar 3)) (gT 2 (zar (gN 6) (zar (gN 7) zb5))) zen
noncomputable def zd5:MS:=
 zew
noncomputable def zcu:MS:=
 sFor (iDKT 2) (gN 5) zd5
noncomputable def zdM:MS:=
 (sSeq (sSet 3 (eIf (tTru (m2 dLt (eVar 1) (mC dLen (zad (eIxV 0 (eC (.int 1))) aNil)))) (eFz zev) (eFz (oLst (zad (eTup (zad (eC (.int 0)) (zad (eC (.int 0)) aNil))) aNil)))))
  (sSeq (sDNT 4)
  (sSeq zcu
  (sRet (eKn 4)))))
noncomputable def zbK:List D->Option Sl:=fP 10 zdM
theorem ziU (zby:FD P w K mg base 1 "place_most" (spP K 3 zbv))(h:FnAt K "grown_worths" zfY):FD P w K mg base 2 "grown_worths" (spP K 3 zbK):=
 fdP (N:=["line","place","worths","choices","grown","recent","sign","added","here","worth"]) (k:=1) (m:=zdM) X G h fun _ _ _ _ _ _ _ hr nd=>(zaf (zas 3 (zcB (zlJ (zab 1) (zdw bn.len' (zaa (zaj 0 zag) zae))) (SO.se (zcU [0,1] 1 ["line","place","sign"] rfl (it_const bn.k_SIGNS) (fun C s H fp=>(zak 2 ndk)) (fun C s H fp=>zay) (fun C s H fp=>(zaO (zaa (zab 2) (zaa (zb1 (zab 2) (zaG (zaj 0 zag) (zab 1))) zae)))))) (SO.se (zbk (zaa (zaO (zaa zag (zaa zag zae))) zae)))) nd)
  (zaf (zmP 4 nd)
  (zaf (zbE PassesOwn.never rfl (it_dictT 2) (zak 5 nd)
  (zal (zbE PassesOwn.never rfl (zbW (zab 3)) (za4 rfl (zam (zak 6 nd) (zam (zak 7 nd) zaI)))
  (zaf (zas 8 (zav (zab 5) (zaO (zaa (zab 6) zae))) nd)
  (zaf (zas 9 (zbh (zav (zaG (zhx 2 hr.units (zab 5)) zag) (zab 7)) (zao zby hr (zaa (zab 0) (zaa (zab 1) (zaa (ze2 rfl bn.sum' (zaa (zab 8) zae)) zae))) (hlen := (zac (zac (zac zah)))))) nd)
  (zal (zed (STw.st (znr (zm9 4 hr.units (zd9 (zab 8) (zaK zag) zhZ)) (zjC (zlJ (zaG (zhx 4 hr.units (zd9 (zab 8) (zaK zag) zhZ)) zag) (zab 9)))))
  (zal (zmd 4 hr.units (zaO (zaa (zab 9) (zaa (zav (zaG (zhx 2 hr.units (zab 5)) zag) (zaO (zaa (zab 6) zae))) zae))) (zd9 (zab 8) (zaK zag) zhZ)))
  za6)))))))
  (zal (zaB (zo4 4))))))
noncomputable abbrev zdJ:Stmt:=top 15
noncomputable def zbF:MS:=
 (sSet 2 (zax zbK (zad (eVar 0) (zad (eVar 3) (zad (eKn 2) aNil)))))
noncomputable def zc2:MS:=
 sFor (iR1 (zad (mC dLen (zad (eIxV 0 (eC (.int 2))) aNil)) aNil)) (gN 3) zbF
noncomputable def zcq:MS:=
 (sSeq (sSet 1 (m2 dRepT (eTup (zad (eC (.int 0)) aNil)) (m2 dSub (eIxV 0 (eC (.int 0))) (eC (.int 1)))))
  (sSeq (sDNT1 2 (eVar 1) (eTup (zad (eC (.int 0)) (zad (eTup aNil) aNil))))
  (sSeq zc2
  (sRet (eCut (m2 dIx (eDGT 2 (eVar 1)) (eC (.int 1))) pNo (zb4 (mC dLen (zad (eIxV 0 (eC (.int 1))) aNil))))))))
noncomputable def zba:List D->Option Sl:=fP 4 zcq
theorem zhh (zc8:FD P w K mg base 2 "grown_worths" (spP K 3 zbK))(h:FnAt K "worthiest_signs" zdJ):FD P w K mg base 3 "worthiest_signs" (spP K 1 zba):=
 fdP (N:=["line","ends","worths","place"]) (k:=2) (m:=zcq) X G h fun _ _ _ _ _ _ _ hr nd=>(zaf (zas 1 (se_repT (zaO (zaa zag zae)) (zbh (zaj 0 zag) zag)) nd)
  (zaf (zoi 2 hr.units (zab 1) (zaO (zaa zag (zaa (zaO zae) zae))) nd)
  (zaf (zbE PassesOwn.never rfl (zaD bn.range' (zaa (zdw bn.len' (zaa (zaj 0 zag) zae)) zae)) (zak 3 nd)
  (zal (zas 2 (zao zc8 hr (zaa (zab 0) (zaa (zab 3) (zaa (zo4 2) zae))) (hlen:=(zac (zac (zac zah))))) nd)))
  (zal (zaB (zd9 (zaG (zhx 2 hr.units (zab 1)) zag) zhZ (zaK (zdw bn.len' (zaa (zaj 0 zag) zae)))))))))
noncomputable abbrev zhw:Stmt:=top 16
noncomputable def zfw:MS:=
 (sSeq (sApp 2 (eTup (zad (m2 dAdd (eVar 3) (eC (.int 1))) (zad (eVar 3) (zad (eIxV 1 (eVar 3)) aNil)))))
  (sApp 2 (eTup (zad (eVar 3) (zad (m2 dAdd (eVar 3) (eC (.int 1))) (zad (m1 dNeg (eVar 4)) aNil))))))
noncomputable def zfv:MS:=
 sFor (iEn (zad (eVar 0) aNil)) (gT 2 (zar (gN 3) (zar (gN 4) zb5))) zfw
noncomputable def zf5:MS:=
 (sSeq (zgm 2 (oLst aNil))
  (sSeq zfv
  (zhj 2)))
noncomputable def zcP:List D->Option Sl:=fP 5 zf5
theorem zjF (h:FnAt K "place_ties" zhw):FD P w K mg base 1 "place_ties" (spP K 2 zcP):=
 fdP (N:=["least","greatest","ties","place","low"]) (k:=0) (m:=zf5) X G h fun _ _ _ _ _ _ _ hr nd=>(zaf (zcd 2 (zbk zae) nd)
  (zaf (zbE PassesOwn.never rfl (zb7 bn.enumerate' (zaa (zab 0) zae)) (za4 rfl (zam (zak 3 nd) (zam (zak 4 nd) zaI)))
  (zaf (zf2 2 (zaO (zaa (zav (zab 3) zag) (zaa (zab 3) (zaa (zaj 1 (zab 3)) zae)))))
  (zal (zf2 2 (zaO (zaa (zab 3) (zaa (zav (zab 3) zag) (zaa (zdE (zab 4)) zae))))))))
  (zal (zdm 2))))
noncomputable abbrev zgz:Stmt:=top 17
noncomputable def zeQ:ME:=
 (m2 dSub (eIxV 0 (m2 dAdd (eVar 1) (eC (.int 1)))) (eIxV 0 (eVar 1)))
noncomputable def ze3:MO:=
 oLC [2] 1 (iR1 (zad (eVar 1) aNil)) (gN 1) zbp zeQ
noncomputable def zeD:MS:=
 (sSeq (sSet 2 (m2 dIx (zax zaM (zad (eVar 0) (zad (m2 dAdd (eVar 1) (eC (.int 1))) (zad (eC (.int 0)) aNil)))) (eC (.int 0))))
  (sRet (mC zbX (zad (eFz ze3) aNil))))
noncomputable def za0:List D->Option Sl:=fP 3 zeD
theorem zjf (zaQ:FD P w K mg base 1 "greatest_shifts" (spP K 3 zaM))(h:FnAt K "row_by_cuts" zgz):FD P w K mg base 2 "row_by_cuts" (spP K 2 za0):=
 fdP (N:=["ties","many","upto"]) (k:=1) (m:=zeD) X G h fun _ _ _ _ _ _ _ hr nd=>(zaf (zas 2 (zaG (zao zaQ hr (zaa (zab 0) (zaa (zav (zab 1) zag) (zaa zag zae))) (hlen:=(zac (zac (zac zah))))) zag) nd)
  (zal (zaB (zbO bn.tuple' (zaa (SO.se (zcU [2] 1 ["upto","place"] rfl (zaD bn.range' (zaa (zab 1) zae)) (fun C s H fp=>(zak 1 ndk)) (fun C s H fp=>zay) (fun C s H fp=>(zbh (zaj 0 (zav (zab 1) zag)) (zaj 0 (zab 1)))))) zae)))))
noncomputable abbrev zhb:Stmt:=top 18
noncomputable def zfM:ME:=
 (eIf (tTru (m2 dGt (eVar 0) (eC (.int 0)))) (eVar 2) (eVar 1))
noncomputable def zfJ:MO:=
 oLC [] 3 (iZ3 (zad (eVar 2) (zad (eIxV 0 (eC (.int 2))) (zad (eIxV 0 (eC (.int 3))) aNil)))) (gT 3 (zar (gN 0) (zar (gN 1) (zar (gN 2) zb5)))) zbp zfM
noncomputable def zft:ME:=
 (eIf (tTru (m2 dLt (eVar 0) (eC (.int 0)))) (eVar 1) (eVar 2))
noncomputable def zgb:MO:=
 oLC [] 3 (iZ3 (zad (eVar 2) (zad (eIxV 0 (eC (.int 2))) (zad (eIxV 0 (eC (.int 3))) aNil)))) (gT 3 (zar (gN 0) (zar (gN 1) (zar (gN 2) zb5)))) zbp zft
noncomputable def zfG:MS:=
 (sIf (tTru (m2 dLe (eIxV 1 (eVar 6)) (eC (.int 0))))
  (sApp 5 (eTup (zad (eVar 6) (zad (m2 dAdd (eVar 6) (eIxV 0 (eC (.int 0)))) (zad (m1 dNeg (eVar 7)) aNil)))))
  zdr)
noncomputable def zf3:MS:=
 (sSeq (sIf (tTru (m2 dGe (eIxV 1 (eVar 6)) (eC (.int 0))))
  (sApp 5 (eTup (zad (m2 dAdd (eVar 6) (eIxV 0 (eC (.int 0)))) (zad (eVar 6) (zad (eVar 7) aNil)))))
  zdr)
  zfG)
noncomputable def zfO:MS:=
 sFor (iEn (zad (eIxV 0 (eC (.int 1))) aNil)) (gT 2 (zar (gN 6) (zar (gN 7) zb5))) zf3
noncomputable def zfl:MS:=
 (sSeq (sSet 2 (zax za1 (zad (eVar 0) (zad (eVar 1) aNil))))
  (sSeq (sSet 3 (eFz zfJ))
  (sSeq (sSet 4 (eFz zgb))
  (sSeq (zgm 5 (zlB zcP (zad (eVar 3) (zad (eVar 4) aNil))))
  (sSeq zfO
  (zhj 5))))))
noncomputable def zcM:List D->Option Sl:=fP 8 zfl
theorem zj9 (za9:FD P w K mg base 1 "place_counts" (spP K 2 za1))(zeB:FD P w K mg base 1 "place_ties" (spP K 2 zcP))(h:FnAt K "signs_ties" zhb):FD P w K mg base 2 "signs_ties" (spP K 2 zcM):=
 fdP (N:=["line","signs","counts","least","greatest","ties","i","total"]) (k:=1) (m:=zfl) X G h fun _ _ _ _ _ _ _ hr nd=>(zaf (zas 2 (zao za9 hr (zaa (zab 0) (zaa (zab 1) zae)) (hlen:=(zac (zac zah)))) nd)
  (zaf (zet 3 [] 3 ["count", "low", "high"] rfl (zo7 bn.zip' (zaa (zab 2) (zaa (zaj 0 zag) (zaa (zaj 0 zag) zae)))) (fun C s H fp => (za4 rfl (zam (zak 0 ndk) (zam (zak 1 ndk) (zam (zak 2 ndk) zaI))))) (fun C s H fp => zay) (fun C s H fp => (zcB (zm0 (zab 0) zag) (zab 2) (zab 1))) nd)
  (zaf (zet 4 [] 3 ["count", "low", "high"] rfl (zo7 bn.zip' (zaa (zab 2) (zaa (zaj 0 zag) (zaa (zaj 0 zag) zae)))) (fun C s H fp => (za4 rfl (zam (zak 0 ndk) (zam (zak 1 ndk) (zam (zak 2 ndk) zaI))))) (fun C s H fp => zay) (fun C s H fp => (zcB (zlJ (zab 0) zag) (zab 1) (zab 2))) nd)
  (zaf (zcd 5 (zi9 zeB hr (zaa (zab 3) (zaa (zab 4) zae)) (hlen := (zac (zac zah)))) nd)
  (zaf (zbE PassesOwn.never rfl (zb7 bn.enumerate' (zaa (zaj 0 zag) zae)) (za4 rfl (zam (zak 6 nd) (zam (zak 7 nd) zaI)))
  (zaf (zed (st_ge (zaj 1 (zab 6)) zag)
  (zal (zf2 5 (zaO (zaa (zav (zab 6) (zaj 0 zag)) (zaa (zab 6) (zaa (zab 7) zae))))))
  za6)
  (zal (zed (st_le (zaj 1 (zab 6)) zag)
  (zal (zf2 5 (zaO (zaa (zab 6) (zaa (zav (zab 6) (zaj 0 zag)) (zaa (zdE (zab 7)) zae))))))
  za6))))
  (zal (zdm 5)))))))
noncomputable abbrev zgL:Stmt:=top 19
noncomputable def zeN:MS:=
 (sSeq (sSet 1 (zax zba (zad (eVar 0) aNil)))
  (sRet (eTup (zad (zax zb6 (zad (eVar 0) (zad (eVar 1) aNil))) (zad (zax za0 (zad (zax zcM (zad (eVar 0) (zad (eVar 1) aNil))) (zad (mC dLen (zad (eIxV 0 (eC (.int 2))) aNil)) aNil))) (zad (eVar 1) aNil))))))
noncomputable def zaX:List D->Option Sl:=fP 2 zeN
theorem zjj (zbn:FD P w K mg base 2 "row_by_cuts" (spP K 2 za0))(zeI:FD P w K mg base 2 "signs_ties" (spP K 2 zcM))(zdW:FD P w K mg base 2 "signs_worth" (spP K 2 zb6))(zcb:FD P w K mg base 3 "worthiest_signs" (spP K 1 zba))(h:FnAt K "line_change" zgL):FD P w K mg base 4 "line_change" (spP K 1 zaX):=
 fdP (N:=["line","signs"]) (k:=3) (m:=zeN) X G h fun _ _ _ _ _ _ _ hr nd=>(zaf (zas 1 (zao zcb hr (zaa (zab 0) zae) (hlen:=(zac zah))) nd)
  (zal (zaB (zaO (zaa (zao zdW hr (zaa (zab 0) (zaa (zab 1) zae)) (hlen:=(zac (zac zah)))) (zaa (zao zbn hr (zaa (zao zeI hr (zaa (zab 0) (zaa (zab 1) zae)) (hlen:=(zac (zac zah)))) (zaa (zdw bn.len' (zaa (zaj 0 zag) zae)) zae)) (hlen:=(zac (zac zah)))) (zaa (zab 1) zae)))))))
noncomputable abbrev zfy:Stmt:=top 21
noncomputable def zd0:MS:=
 (sRet (eIf (tTru (m2 dEq (eVar 1) (eC (.str "sum")))) (mC dLen (zad (eIxV 0 (eC (.int 1))) aNil)) (mC dLen (zad (eIxV 0 (eC (.int 2))) aNil))))
noncomputable def zbH:List D->Option Sl:=fP 2 zd0
theorem ziB (h:FnAt K "numbers_many" zfy):FD P w K mg base 1 "numbers_many" (spP K 2 zbH):=
 fdP (N:=["line","kind"]) (k:=0) (m:=zd0) X G h fun _ _ _ _ _ _ _ hr nd=>(zal (zaB (zcB (zkC hr.units (zab 1) zc9) (zdw bn.len' (zaa (zaj 0 zag) zae)) (zdw bn.len' (zaa (zaj 0 zag) zae)))))
noncomputable abbrev zic:Stmt:=top 22
noncomputable def zgQ:MS:=
 (sRet (eTup (zad (eVar 4) (zad (eVar 3) (zad (eIf (tTru (m2 dEq (eVar 2) (eC (.str "sum")))) (m1 dNeg (m2 dIx (eIxV 0 (eC (.int 1))) (eVar 3))) (m1 dNeg (m2 dIx (eIxV 0 (eC (.int 3))) (eVar 3)))) aNil)))))
noncomputable def zgS:MS:=
 (sSeq (sSet 2 (eIxV 1 (eC (.int 0))))
  (sSeq (sSet 3 (eIxV 1 (eC (.int 1))))
  (sSeq (sSet 4 (m2 dAdd (eVar 3) (eIf (tTru (m2 dEq (eVar 2) (eC (.str "sum")))) (eIxV 0 (eC (.int 0))) (eC (.int 1)))))
  (sSeq (sIf (tTru (eIxV 1 (eC (.int 2))))
  (sRet (eTup (zad (eVar 3) (zad (eVar 4) (zad (eIf (tTru (m2 dEq (eVar 2) (eC (.str "sum")))) (m2 dIx (eIxV 0 (eC (.int 1))) (eVar 3)) (m2 dIx (eIxV 0 (eC (.int 2))) (eVar 3))) aNil)))))
  zdr)
  zgQ))))
noncomputable def zbR:List D->Option Sl:=fP 5 zgS
theorem zkJ (h:FnAt K "step_walk" zic):FD P w K mg base 1 "step_walk" (spP K 2 zbR):=
 fdP (N:=["line","step","kind","i","over"]) (k:=0) (m:=zgS) X G h fun _ _ _ _ _ _ _ hr nd=>(zaf (zas 2 (zaj 1 zag) nd)
  (zaf (zas 3 (zaj 1 zag) nd)
  (zaf (zas 4 (zav (zab 3) (zcB (zkC hr.units (zab 2) zc9) (zaj 0 zag) zag)) nd)
  (zaf (zed (zin (zaj 1 zag))
  (zal (zaB (zaO (zaa (zab 3) (zaa (zab 4) (zaa (zcB (zkC hr.units (zab 2) zc9) (zaG (zaj 0 zag) (zab 3)) (zaG (zaj 0 zag) (zab 3))) zae))))))
  za6)
  (zal (zaB (zaO (zaa (zab 4) (zaa (zab 3) (zaa (zcB (zkC hr.units (zab 2) zc9) (zdE (zaG (zaj 0 zag) (zab 3))) (zdE (zaG (zaj 0 zag) (zab 3)))) zae))))))))))
noncomputable abbrev ziX:Stmt:=top 23
noncomputable def zg7:ME:=
 (eTup (zad (eVar 0) (zad (eVar 1) (zad (eC (.bl true)) aNil))))
noncomputable def zhr:MO:=
 oLC [1] 1 (iR1 (zad (eVar 2) aNil)) (gN 1) zbp zg7
noncomputable def zg6:ME:=
 (eTup (zad (eVar 0) (zad (eVar 1) (zad (eC (.bl false)) aNil))))
noncomputable def zhA:MO:=
 oLC [1] 1 (iR3N (zad (m2 dSub (eVar 2) (eC (.int 1))) (zad (m1 dNeg (eC (.int 1))) (zad (m1 dNeg (eC (.int 1))) aNil)))) (gN 1) zbp zg6
noncomputable def zhM:MS:=
 (sSeq (sSet 2 (zax zbH (zad (eVar 0) (zad (eVar 1) aNil))))
  (sRet (m2 dAdd (eFz zhr) (eFz zhA))))
noncomputable def zbZ:List D->Option Sl:=fP 3 zhM
theorem zlK (zdc:FD P w K mg base 1 "numbers_many" (spP K 2 zbH))(h:FnAt K "steps_of" ziX):FD P w K mg base 2 "steps_of" (spP K 2 zbZ):=
 fdP (N:=["line","kind","many"]) (k:=1) (m:=zhM) X G h fun _ _ _ _ _ _ _ hr nd=>(zaf (zas 2 (zao zdc hr (zaa (zab 0) (zaa (zab 1) zae)) (hlen:=(zac (zac zah)))) nd)
  (zal (zaB (zav (SO.se (zcU [1] 1 ["kind","i"] rfl (zaD bn.range' (zaa (zab 2) zae)) (fun C s H fp=>(zak 1 ndk)) (fun C s H fp=>zay) (fun C s H fp=>(zaO (zaa (zab 0) (zaa (zab 1) (zaa zll zae))))))) (SO.se (zcU [1] 1 ["kind","i"] rfl (zmZ bn.range' (zaa (zbh (zab 2) zag) (zaa (zdE zag) (zaa (zdE zag) zae)))) (fun C s H fp=>(zak 1 ndk)) (fun C s H fp=>zay) (fun C s H fp=>(zaO (zaa (zab 0) (zaa (zab 1) (zaa zll zae)))))))))))
noncomputable abbrev ziP:Stmt:=top 24
noncomputable def zhq:ME:=
 (zax zbR (zad (eVar 0) (zad (eVar 1) aNil)))
noncomputable def zg5:MO:=
 oLC [0] 1 (iSeq (zax zbZ (zad (eVar 0) (zad (eVar 1) aNil)))) (gN 1) zbp zhq
noncomputable def zhI:MS:=
 (zhP zg5)
noncomputable def zbz:List D->Option Sl:=fP 2 zhI
theorem zlG (zb2:FD P w K mg base 1 "step_walk" (spP K 2 zbR))(zbV:FD P w K mg base 2 "steps_of" (spP K 2 zbZ))(h:FnAt K "walks_of" ziP):FD P w K mg base 3 "walks_of" (spP K 2 zbz):=
 fdP (N:=["line","kind"]) (k:=2) (m:=zhI) X G h fun _ _ _ _ _ _ _ hr nd=>(zal (zdn (zcU [0] 1 ["line","step"] rfl (zbW (zao zbV hr (zaa (zab 0) (zaa (zab 1) zae)) (hlen:=(zac (zac zah))))) (fun C s H fp=>(zak 1 ndk)) (fun C s H fp=>zay) (fun C s H fp=>(zao zb2 hr (zaa (zab 0) (zaa (zab 1) zae)) (hlen:=(zac (zac zah))))))))
noncomputable abbrev zjp:Stmt:=top 25
noncomputable def ziK:MS:=
 (sRet (eIf (tTru (m2 dIsN (eVar 0) (eC .non))) (eVar 1) (mC (d2I max2) (zad (eVar 0) (zad (eVar 1) aNil)))))
noncomputable def zep:List D->Option Sl:=fP 2 ziK
theorem zns (h:FnAt K "more_of" zjp):FD P w K mg base 1 "more_of" (spP K 2 zep):=
 fdP (N:=["asks","other"]) (k:=0) (m:=ziK) X G h fun _ _ _ _ _ _ _ hr nd=>(zal (zaB (zcB (st_is (zab 0) zfh) (zab 1) (zln rfl bn.max' (zaa (zab 0) (zaa (zab 1) zae))))))
noncomputable abbrev zhp:Stmt:=top 26
noncomputable def zfr:MS:=
 (sPut 3 (eVar 5) (zax zep (zad (eIxV 3 (eVar 5)) (zad (m2 dAdd (eIxV 2 (eVar 4)) (eVar 6)) aNil))))
noncomputable def zdf:MS:=
 sFor (iSeq (eVar 0)) (gT 3 (zar (gN 4) (zar (gN 5) (zar (gN 6) zb5)))) zfr
noncomputable def zdg:MS:=
 (sPut 3 (eVar 5) (zax zep (zad (eIxV 3 (eVar 5)) (zad (m2 dAdd (eIxV 3 (eVar 4)) (eVar 6)) aNil))))
noncomputable def zdi:MS:=
 sFor (iSeq (eVar 1)) (gT 3 (zar (gN 4) (zar (gN 5) (zar (gN 6) zb5)))) zdg
noncomputable def zfE:MS:=
 (sSeq (zgm 3 (oRep (eFz (oLst (zad (eC .non) aNil))) (zfm 2)))
  (sSeq zdf
  (sSeq zdi
  (zhj 3))))
noncomputable def zcS:List D->Option Sl:=fP 7 zfE
theorem zjH (zgj:FD P w K mg base 1 "more_of" (spP K 2 zep))(h:FnAt K "one_sum_on" zhp):FD P w K mg base 2 "one_sum_on" (spP K 3 zcS):=
 fdP (N:=["sum_walks","place_walks","asks","grown","start","end","ask"]) (k:=1) (m:=zfE) X G h fun _ _ _ _ _ _ _ hr nd=>(zaf (zcd 3 (zmR (SO.se (zbk (zaa zfh zae))) (zce 2 bn.len')) nd)
  (zaf (zbE PassesOwn.never rfl (zbW (zab 0)) (za4 rfl (zam (zak 4 nd) (zam (zak 5 nd) (zam (zak 6 nd) zaI))))
  (zal (zi5 3 (zao zgj hr (zaa (zaj 3 (zab 5)) (zaa (zav (zaj 2 (zab 4)) (zab 6)) zae)) (hlen:=(zac (zac zah)))) (zab 5))))
  (zaf (zbE PassesOwn.never rfl (zbW (zab 1)) (za4 rfl (zam (zak 4 nd) (zam (zak 5 nd) (zam (zak 6 nd) zaI))))
  (zal (zi5 3 (zao zgj hr (zaa (zaj 3 (zab 5)) (zaa (zav (zaj 3 (zab 4)) (zab 6)) zae)) (hlen:=(zac (zac zah)))) (zab 5))))
  (zal (zdm 3)))))
noncomputable abbrev zha:Stmt:=top 27
noncomputable def zf1:ME:=
 (m1 dNeg (m2 dDiv (m2 dSub (m2 dIx (eIxV 0 (eVar 3)) (eVar 1)) (m2 dIx (eIxV 0 (m1 dNeg (eC (.int 1)))) (eVar 1))) (m2 dSub (eVar 2) (eVar 3))))
noncomputable def zf9:MO:=
 oLC [0,1,2] 1 (iR1 (zad (eVar 2) aNil)) (gN 3) zbp zf1
noncomputable def zfH:MS:=
 (sSeq (sSet 2 (m2 dSub (zfm 0) (eC (.int 1))))
  (sRet (mC zj4 (zad (eFz zf9) aNil))))
noncomputable def zbq:List D->Option Sl:=fP 3 zfH
theorem zjQ (h:FnAt K "least_mean" zha):FD P w K mg base 1 "least_mean" (spP K 2 zbq):=
 fdP (N:=["layers","cut","longest"]) (k:=0) (m:=zfH) X G h fun _ _ _ _ _ _ _ hr nd=>(zaf (zas 2 (zbh (zce 0 bn.len') zag) nd)
  (zal (zaB (zoT rfl bn.min' (zaa (SO.se (zcU [0,1,2] 1 ["layers","cut","longest","j"] rfl (zaD bn.range' (zaa (zab 2) zae)) (fun C s H fp=>(zak 3 ndk)) (fun C s H fp=>zay) (fun C s H fp=>(zdE (zkB (zbh (zaG (zaj 0 (zab 3)) (zab 1)) (zaG (zaj 0 (zdE zag)) (zab 1))) (zbh (zab 2) (zab 3))))))) zae)))))
noncomputable abbrev zh9:Stmt:=top 28
noncomputable def zgv:MS:=
 (sApp 4 (zax zcS (zad (eVar 1) (zad (eVar 2) (zad (eIxV 4 (m1 dNeg (eC (.int 1)))) aNil)))))
noncomputable def zgJ:MS:=
 sFor (iR1 (zad (eVar 3) aNil)) (gN 5) zgv
noncomputable def zgo:ME:=
 (zax zbq (zad (eVar 0) (zad (eVar 1) aNil)))
noncomputable def zgF:MO:=
 oLC [4] 1 (iR1 (zad (eVar 3) aNil)) (gN 1) zbp zgo
noncomputable def zgW:MS:=
 (sSeq (sSet 1 (zax zbz (zad (eVar 0) (zad (eC (.str "sum")) aNil))))
  (sSeq (sSet 2 (zax zbz (zad (eVar 0) (zad (eC (.str "place")) aNil))))
  (sSeq (sSet 3 (m2 dAdd (mC dLen (zad (eIxV 0 (eC (.int 2))) aNil)) (eC (.int 1))))
  (sSeq (zgm 4 (oLst (zad (m2 dMul (eFz (oLst (zad (eC (.int 0)) aNil))) (eVar 3)) aNil)))
  (sSeq zgJ
  (sRet (mC ziy (zad (eFz zgF) aNil))))))))
noncomputable def zdk:List D->Option Sl:=fP 6 zgW
theorem zk2 (zeM:FD P w K mg base 1 "least_mean" (spP K 2 zbq))(zeJ:FD P w K mg base 2 "one_sum_on" (spP K 3 zcS))(zbs:FD P w K mg base 3 "walks_of" (spP K 2 zbz))(h:FnAt K "least_far" zh9):FD P w K mg base 4 "least_far" (spP K 1 zdk):=
 fdP (N:=["line","sum_walks","place_walks","cuts","layers","turn"]) (k:=3) (m:=zgW) X G h fun _ _ _ _ _ _ _ hr nd=>(zaf (zas 1 (zao zbs hr (zaa (zab 0) (zaa zc9 zae)) (hlen:=(zac (zac zah)))) nd)
  (zaf (zas 2 (zao zbs hr (zaa (zab 0) (zaa zc9 zae)) (hlen := (zac (zac zah)))) nd)
  (zaf (zas 3 (zav (zdw bn.len' (zaa (zaj 0 zag) zae)) zag) nd)
  (zaf (zcd 4 (zbk (zaa (zb1 (SO.se (zbk (zaa zag zae))) (zab 3)) zae)) nd)
  (zaf (zbE PassesOwn.never rfl (zaD bn.range' (zaa (zab 3) zae)) (zak 5 nd)
  (zal (zf2 4 (zao zeJ hr (zaa (zab 1) (zaa (zab 2) (zaa (zaj 4 (zdE zag)) zae))) (hlen:=(zac (zac (zac zah))))))))
  (zal (zaB (zl4 rfl bn.max' (zaa (SO.se (zcU [4] 1 ["layers","cut"] rfl (zaD bn.range' (zaa (zab 3) zae)) (fun C s H fp=>(zak 1 ndk)) (fun C s H fp=>zay) (fun C s H fp=>(zao zeM hr (zaa (zab 0) (zaa (zab 1) zae)) (hlen:=(zac (zac zah))))))) zae)))))))))
noncomputable abbrev ziv:Stmt:=top 29
noncomputable def zhe:ME:=
 (eTup (zad (eVar 0) (zad (eVar 1) (zad (m1 dNeg (eVar 2)) aNil))))
noncomputable def zhF:MO:=
 oLC [] 3 (iSeq (zax zbz (zad (eVar 0) (zad (eC (.str "place")) aNil)))) (gT 3 (zar (gN 0) (zar (gN 1) (zar (gN 2) zb5)))) zbp zhe
noncomputable def zhy:ME:=
 (eTup (zad (eVar 1) (zad (eVar 2) (zad (m2 dSub (eVar 0) (eVar 3)) aNil))))
noncomputable def zhE:MO:=
 oLC [1] 3 (iSeq (zax zbz (zad (eVar 0) (zad (eC (.str "sum")) aNil)))) (gT 3 (zar (gN 1) (zar (gN 2) (zar (gN 3) zb5)))) zbp zhy
noncomputable def zhQ:MS:=
 (sSeq (sSet 2 (eFz zhF))
  (sRet (m2 dAdd (eVar 2) (eFz zhE))))
noncomputable def zcz:List D->Option Sl:=fP 3 zhQ
theorem zlu (zbs:FD P w K mg base 3 "walks_of" (spP K 2 zbz))(h:FnAt K "far_ties" ziv):FD P w K mg base 4 "far_ties" (spP K 2 zcz):=
 fdP (N:=["line","far","ties"]) (k:=3) (m:=zhQ) X G h fun _ _ _ _ _ _ _ hr nd=>(zaf (zet 2 [] 3 ["start","end","ask"] rfl (zbW (zao zbs hr (zaa (zab 0) (zaa zc9 zae)) (hlen:=(zac (zac zah))))) (fun C s H fp=>(za4 rfl (zam (zak 0 ndk) (zam (zak 1 ndk) (zam (zak 2 ndk) zaI))))) (fun C s H fp=>zay) (fun C s H fp=>(zaO (zaa (zab 0) (zaa (zab 1) (zaa (zdE (zab 2)) zae))))) nd)
  (zal (zaB (zav (zab 2) (SO.se (zcU [1] 3 ["far","start","end","ask"] rfl (zbW (zao zbs hr (zaa (zab 0) (zaa zc9 zae)) (hlen:=(zac (zac zah))))) (fun C s H fp=>(za4 rfl (zam (zak 1 ndk) (zam (zak 2 ndk) (zam (zak 3 ndk) zaI))))) (fun C s H fp=>zay) (fun C s H fp=>(zaO (zaa (zab 1) (zaa (zab 2) (zaa (zbh (zab 0) (zab 3)) zae)))))))))))
noncomputable abbrev zg9:Stmt:=top 30
noncomputable def zfQ:MS:=
 (sDPT 4 (eCut (zax zbR (zad (eVar 0) (zad (eVar 5) aNil))) pNo (zb4 (eC (.int 2)))) (eVar 5))
noncomputable def zde:MS:=
 sFor (iSeq (m2 dAdd (zax zbZ (zad (eVar 0) (zad (eC (.str "place")) aNil))) (zax zbZ (zad (eVar 0) (zad (eC (.str "sum")) aNil))))) (gN 5) zfQ
noncomputable def zgg:ME:=
 (eDGT 0 (eVar 1))
noncomputable def zfn:MO:=
 oLC [4] 1 (iZ2 (zad (eVar 3) (zad (m2 dAdd (eCut (eVar 3) (zb4 (eC (.int 1))) pNo) (eCut (eVar 3) pNo (zb4 (eC (.int 1))))) aNil))) (gN 1) zbp zgg
noncomputable def zfq:MS:=
 (sSeq (sSet 2 (zax zaM (zad (zax zcz (zad (eVar 0) (zad (eVar 1) aNil))) (zad (m2 dAdd (mC dLen (zad (eIxV 0 (eC (.int 2))) aNil)) (eC (.int 1))) (zad (eC (.int 0)) aNil)))))
  (sSeq (sSet 3 (zax zbM (zad (eIxV 2 (eC (.int 1))) (zad (eIxV 2 (eC (.int 2))) aNil))))
  (sSeq (sDNT 4)
  (sSeq zde
  (sFzDT 4 (zhP zfn))))))
noncomputable def zcL:List D->Option Sl:=fP 6 zfq
theorem zjL (zdj:FD P w K mg base 1 "falling_loop" (spP K 2 zbM))(zcn:FD P w K mg base 4 "far_ties" (spP K 2 zcz))(zaQ:FD P w K mg base 1 "greatest_shifts" (spP K 3 zaM))(zb2:FD P w K mg base 1 "step_walk" (spP K 2 zbR))(zbV:FD P w K mg base 2 "steps_of" (spP K 2 zbZ))(h:FnAt K "way_beyond" zg9):FD P w K mg base 5 "way_beyond" (spP K 2 zcL):=
 fdP (N:=["line","far","found","cuts","steps","step"]) (k:=4) (m:=zfq) X G h fun _ _ _ _ _ _ _ hr nd=>(zaf (zas 2 (zao zaQ hr (zaa (zao zcn hr (zaa (zab 0) (zaa (zab 1) zae)) (hlen:=(zac (zac zah)))) (zaa (zav (zdw bn.len' (zaa (zaj 0 zag) zae)) zag) (zaa zag zae))) (hlen:=(zac (zac (zac zah))))) nd)
  (zaf (zas 3 (zao zdj hr (zaa (zaj 2 zag) (zaa (zaj 2 zag) zae)) (hlen := (zac (zac zah)))) nd)
  (zaf (zmP 4 nd)
  (zaf (zbE PassesOwn.never rfl (zbW (zav (zao zbV hr (zaa (zab 0) (zaa zc9 zae)) (hlen := (zac (zac zah)))) (zao zbV hr (zaa (zab 0) (zaa zc9 zae)) (hlen := (zac (zac zah)))))) (zak 5 nd)
  (zal (zmd 4 hr.units (zab 5) (zd9 (zao zb2 hr (zaa (zab 0) (zaa (zab 5) zae)) (hlen:=(zac (zac zah)))) zhZ (zaK zag)))))
  (zal (ss_fzDT 4 (zdn (zcU [4] 1 ["steps","pair"] rfl (zeG bn.zip' (zaa (zab 3) (zaa (zav (zd9 (zab 3) (zaK zag) zhZ) (zd9 (zab 3) zhZ (zaK zag))) zae))) (fun C s H fp=>(zak 1 ndk)) (fun C s H fp=>zay) (fun C s H fp=>(zhx 0 hr.units (zab 1)))))))))))
noncomputable abbrev ziF:Stmt:=top 31
noncomputable def zhN:MS:=
 (sSeq (sSet 1 (zax zdk (zad (eVar 0) aNil)))
  (sSeq (sSet 2 (zax za0 (zad (zax zcz (zad (eVar 0) (zad (eVar 1) aNil))) (zad (mC dLen (zad (eIxV 0 (eC (.int 2))) aNil)) aNil))))
  (sRet (eTup (zad (eVar 1) (zad (eVar 2) (zad (eIf (tTru (m2 dEq (eVar 1) (eC (.int 0)))) (eC .non) (zax zcL (zad (eVar 0) (zad (m2 dSub (eVar 1) (eC (.int 1))) aNil)))) aNil)))))))
noncomputable def zb0:List D->Option Sl:=fP 3 zhN
theorem zlw (zcn:FD P w K mg base 4 "far_ties" (spP K 2 zcz))(zfA:FD P w K mg base 4 "least_far" (spP K 1 zdk))(zbn:FD P w K mg base 2 "row_by_cuts" (spP K 2 za0))(zeF:FD P w K mg base 5 "way_beyond" (spP K 2 zcL))(h:FnAt K "line_off" ziF):FD P w K mg base 6 "line_off" (spP K 1 zb0):=
 fdP (N:=["line","far","row"]) (k:=5) (m:=zhN) X G h fun _ _ _ _ _ _ _ hr nd=>(zaf (zas 1 (zao zfA hr (zaa (zab 0) zae) (hlen:=(zac zah))) nd)
  (zaf (zas 2 (zao zbn hr (zaa (zao zcn hr (zaa (zab 0) (zaa (zab 1) zae)) (hlen := (zac (zac zah)))) (zaa (zdw bn.len' (zaa (zaj 0 zag) zae)) zae)) (hlen := (zac (zac zah)))) nd)
  (zal (zaB (zaO (zaa (zab 1) (zaa (zab 2) (zaa (zcB (zkC hr.units (zab 1) zag) zfh (zao zeF hr (zaa (zab 0) (zaa (zbh (zab 1) zag) zae)) (hlen:=(zac (zac zah))))) zae))))))))
noncomputable abbrev zhD:Stmt:=top 33
noncomputable def zf4:ME:=
 (m2 dSub (eVar 0) (eVar 1))
noncomputable def zfS:MO:=
 oLC [] 2 (iZ2 (zad (eVar 0) (zad (eVar 1) aNil))) (gT 2 (zar (gN 0) (zar (gN 1) zb5))) zbp zf4
noncomputable def zfu:MS:=
 (zhP zfS)
noncomputable def zbt:List D->Option Sl:=fP 2 zfu
theorem zj1 (h:FnAt K "less_mores" zhD):FD P w K mg base 1 "less_mores" (spP K 2 zbt):=
 fdP (N:=["bounds","mores"]) (k:=0) (m:=zfu) X G h fun _ _ _ _ _ _ _ hr nd=>(zal (zdn (zcU [] 2 ["bound","more"] rfl (zeG bn.zip' (zaa (zab 0) (zaa (zab 1) zae))) (fun C s H fp=>(za4 rfl (zam (zak 0 ndk) (zam (zak 1 ndk) zaI)))) (fun C s H fp=>zay) (fun C s H fp=>(zbh (zab 0) (zab 1))))))
noncomputable abbrev zhd:Stmt:=top 34
noncomputable def zgc:ME:=
 (eTup (zad (mC ziy (zad (zoh (eVar 0) (zb4 (eVar 3)) pNo (zb4 (eVar 1))) aNil)) (zad (mC zj4 (zad (zoh (eVar 2) (zb4 (eVar 3)) pNo (zb4 (eVar 1))) aNil)) aNil)))
noncomputable def zfB:MO:=
 oLC [0,2,1] 1 (iR1 (zad (eVar 2) aNil)) (gN 3) zbp zgc
noncomputable def zfV:MS:=
 (zhP zfB)
noncomputable def zbr:List D->Option Sl:=fP 3 zfV
theorem zj7 (h:FnAt K "head_spans" zhd):FD P w K mg base 1 "head_spans" (spP K 3 zbr):=
 fdP (N:=["lows","highs","many"]) (k:=0) (m:=zfV) X G h fun _ _ _ _ _ _ _ hr nd=>(zal (zdn (zcU [0,2,1] 1 ["lows","many","highs","j"] rfl (zaD bn.range' (zaa (zab 2) zae)) (fun C s H fp=>(zak 3 ndk)) (fun C s H fp=>zay) (fun C s H fp=>(zaO (zaa (zl4 rfl bn.max' (zaa (zlr (zab 0) (zaK (zab 3)) zhZ (zaK (zab 1))) zae)) (zaa (zoT rfl bn.min' (zaa (zlr (zab 2) (zaK (zab 3)) zhZ (zaK (zab 1))) zae)) zae)))))))
noncomputable abbrev zf0:Stmt:=top 35
noncomputable def zd7:ME:=
 (m2 dAdd (eIxV 0 (m2 dMod (eVar 2) (eVar 1))) (eVar 3))
noncomputable def zer:MO:=
 oLC [0,2] 2 (iEn (zad (eVar 1) aNil)) (gT 2 (zar (gN 2) (zar (gN 3) zb5))) zbp zd7
noncomputable def zdO:MS:=
 (sSeq (sSet 2 (zfm 0))
  (sRet (mC zbX (zad (eFz zer) aNil))))
noncomputable def zbL:List D->Option Sl:=fP 3 zdO
theorem zi2 (h:FnAt K "row_by_heads" zf0):FD P w K mg base 1 "row_by_heads" (spP K 2 zbL):=
 fdP (N:=["heads","mores","many"]) (k:=0) (m:=zdO) X G h fun _ _ _ _ _ _ _ hr nd=>(zaf (zas 2 (zce 0 bn.len') nd)
  (zal (zaB (zbO bn.tuple' (zaa (SO.se (zcU [0,2] 2 ["heads","many","place","more"] rfl (zb7 bn.enumerate' (zaa (zab 1) zae)) (fun C s H fp=>(za4 rfl (zam (zak 2 ndk) (zam (zak 3 ndk) zaI)))) (fun C s H fp=>zay) (fun C s H fp=>(zav (zaj 0 (zhn (zab 2) (zab 1))) (zab 3))))) zae)))))
noncomputable abbrev zeS:Stmt:=top 36
noncomputable def zdu:ME:=
 (m2 dAdd (eVar 3) (m2 dMul (eVar 0) (m2 zk8 (zoh (eVar 1) (zb4 (eVar 3)) pNo (zb4 (eVar 0))) (eIxV 2 (eVar 3)))))
noncomputable def zdG:MO:=
 oLC [2,0,1] 1 (iR1 (zad (eVar 2) aNil)) (gN 3) zbp zdu
noncomputable def zda:MS:=
 (sSeq (sSet 2 (zfm 1))
  (sRet (mC zbX (zad (eFz zdG) aNil))))
noncomputable def za7:List D->Option Sl:=fP 3 zda
theorem zij (h:FnAt K "places_asking" zeS):FD P w K mg base 1 "places_asking" (spP K 2 za7):=
 fdP (N:=["asks","ends","many"]) (k:=0) (m:=zda) X G h fun _ _ _ _ _ _ _ hr nd=>(zaf (zas 2 (zce 1 bn.len') nd)
  (zal (zaB (zbO bn.tuple' (zaa (SO.se (zcU [2,0,1] 1 ["many","asks","ends","j"] rfl (zaD bn.range' (zaa (zab 2) zae)) (fun C s H fp=>(zak 3 ndk)) (fun C s H fp=>zay) (fun C s H fp=>(zav (zab 3) (zb1 (zab 0) (se_index (zlr (zab 1) (zaK (zab 3)) zhZ (zaK (zab 0))) (zaj 2 (zab 3)))))))) zae)))))
noncomputable abbrev zgq:Stmt:=top 37
noncomputable def zeT:ME:=
 (eVar 0)
noncomputable def zeX:MO:=
 oLC [] 2 (iSeq (eVar 4)) (gT 2 (zar (gN 0) (zar (gN 1) zb5))) zbp zeT
noncomputable def zfg:ME:=
 (eVar 1)
noncomputable def ze0:MO:=
 oLC [] 2 (iSeq (eVar 4)) (gT 2 (zar (gN 0) (zar (gN 1) zb5))) zbp zfg
noncomputable def zeR:MS:=
 (sIf (tTru (m2 dGt (eIxV 5 (eVar 9)) (eIxV 6 (eVar 9))))
  (sRet (eTup (zad (eC (.str "clash")) (zad (eIxV 7 (eVar 9)) (zad (eIxV 8 (eVar 9)) aNil)))))
  zdr)
noncomputable def zeV:MS:=
 sFor (iR1 (zad (eVar 2) aNil)) (gN 9) zeR
noncomputable def ze7:MS:=
 (sRet (eC .non))
noncomputable def ze4:MS:=
 (sSeq (sIf (tTru (m2 dLt (mC dSum (zad (eVar 6) aNil)) (eVar 3)))
  (sRet (eTup (zad (eC (.str "high")) (zad (eVar 8) aNil))))
  zdr)
  ze7)
noncomputable def zeC:MS:=
 (sSeq (sSet 4 (zax zbr (zad (eVar 0) (zad (eVar 1) (zad (eVar 2) aNil)))))
  (sSeq (sSet 5 (eFz zeX))
  (sSeq (sSet 6 (eFz ze0))
  (sSeq (sSet 7 (zax za7 (zad (eVar 0) (zad (eVar 5) aNil))))
  (sSeq (sSet 8 (zax za7 (zad (eVar 1) (zad (eVar 6) aNil))))
  (sSeq zeV
  (sSeq (sIf (tTru (m2 dGt (mC dSum (zad (eVar 5) aNil)) (eVar 3)))
  (sRet (eTup (zad (eC (.str "low")) (zad (eVar 7) aNil))))
  zdr)
  ze4)))))))
noncomputable def zcf:List D->Option Sl:=fP 10 zeC
theorem zji (zbx:FD P w K mg base 1 "head_spans" (spP K 3 zbr))(zbN:FD P w K mg base 1 "places_asking" (spP K 2 za7))(h:FnAt K "heads_paper" zgq):FD P w K mg base 2 "heads_paper" (spP K 4 zcf):=
 fdP (N:=["lows","highs","many","total","spans","low_ends","high_ends","low_places","high_places","j"]) (k:=1) (m:=zeC) X G h fun _ _ _ _ _ _ _ hr nd=>(zaf (zas 4 (zao zbx hr (zaa (zab 0) (zaa (zab 1) (zaa (zab 2) zae))) (hlen:=(zac (zac (zac zah))))) nd)
  (zaf (zet 5 [] 2 ["low", "high"] rfl (zbW (zab 4)) (fun C s H fp => (za4 rfl (zam (zak 0 ndk) (zam (zak 1 ndk) zaI)))) (fun C s H fp => zay) (fun C s H fp => (zab 0)) nd)
  (zaf (zet 6 [] 2 ["low", "high"] rfl (zbW (zab 4)) (fun C s H fp => (za4 rfl (zam (zak 0 ndk) (zam (zak 1 ndk) zaI)))) (fun C s H fp => zay) (fun C s H fp => (zab 1)) nd)
  (zaf (zas 7 (zao zbN hr (zaa (zab 0) (zaa (zab 5) zae)) (hlen := (zac (zac zah)))) nd)
  (zaf (zas 8 (zao zbN hr (zaa (zab 1) (zaa (zab 6) zae)) (hlen := (zac (zac zah)))) nd)
  (zaf (zbE PassesOwn.never rfl (zaD bn.range' (zaa (zab 2) zae)) (zak 9 nd)
  (zal (zed (zm0 (zaj 5 (zab 9)) (zaj 6 (zab 9)))
  (zal (zaB (zaO (zaa zc9 (zaa (zaj 7 (zab 9)) (zaa (zaj 8 (zab 9)) zae))))))
  za6)))
  (zaf (zed (zm0 (ze2 rfl bn.sum' (zaa (zab 5) zae)) (zab 3))
  (zal (zaB (zaO (zaa zc9 (zaa (zab 7) zae)))))
  za6)
  (zaf (zed (zlJ (ze2 rfl bn.sum' (zaa (zab 6) zae)) (zab 3))
  (zal (zaB (zaO (zaa zc9 (zaa (zab 8) zae)))))
  za6)
  (zal (zaB zfh))))))))))
noncomputable abbrev zgP:Stmt:=top 38
noncomputable def zfa:ME:=
 (eVar 1)
noncomputable def ze1:MO:=
 oLC [] 2 (iSeq (eVar 0)) (gT 2 (zar (gN 0) (zar (gN 1) zb5))) zbp zfa
noncomputable def zeY:MS:=
 (sSeq (znu 4 (fun i j => i - j) (eVar 6))
  (sSeq (sSet 7 (mC (d2I max2) (zad (eVar 5) (zad (m2 dSub (eVar 3) (eVar 4)) aNil))))
  (sSeq (sApp 2 (eVar 7))
  (znu 3 (fun i j=>i-j) (eVar 7)))))
noncomputable def ze9:MS:=
 sFor (iSeq (eVar 0)) (gT 2 (zar (gN 5) (zar (gN 6) zb5))) zeY
noncomputable def zeP:MS:=
 (sSeq (zgm 2 (oLst aNil))
  (sSeq (sSet 3 (eVar 1))
  (sSeq (sSet 4 (mC dSum (zad (eFz ze1) aNil)))
  (sSeq ze9
  (zhj 2)))))
noncomputable def zcl:List D->Option Sl:=fP 8 zeP
theorem zjd (h:FnAt K "least_heads" zgP):FD P w K mg base 1 "least_heads" (spP K 2 zcl):=
 fdP (N:=["spans","total","heads","left","room","low","high","head"]) (k:=0) (m:=zeP) X G h fun _ _ _ _ _ _ _ hr nd=>(zaf (zcd 2 (zbk zae) nd)
  (zaf (zas 3 (zab 1) nd)
  (zaf (zas 4 (ze2 rfl bn.sum' (zaa (SO.se (zcU [] 2 ["low", "high"] rfl (zbW (zab 0)) (fun C s H fp => (za4 rfl (zam (zak 0 ndk) (zam (zak 1 ndk) zaI)))) (fun C s H fp => zay) (fun C s H fp => (zab 1)))) zae)) nd)
  (zaf (zbE PassesOwn.never rfl (zbW (zab 0)) (za4 rfl (zam (zak 5 nd) (zam (zak 6 nd) zaI)))
  (zaf (zkj 4 (zab 6) nd)
  (zaf (zas 7 (zln rfl bn.max' (zaa (zab 5) (zaa (zbh (zab 3) (zab 4)) zae))) nd)
  (zaf (zf2 2 (zab 7))
  (zal (zkj 3 (zab 7) nd))))))
  (zal (zdm 2))))))
noncomputable abbrev zi8:Stmt:=top 40
noncomputable def zhm:MS:=
 (sApp 2 (m2 dSub (m2 dAdd (eIxV 2 (eVar 3)) (eIxV 1 (m2 dAdd (eVar 3) (eC (.int 1))))) (eIxV 1 (eVar 3))))
noncomputable def zho:MS:=
 sFor (iR1 (zad (m2 dSub (zfm 1) (eC (.int 1))) aNil)) (gN 3) zhm
noncomputable def zhW:MS:=
 (sSeq (sSet 1 (eIxV 0 (eC (.int 1))))
  (sSeq (zgm 2 (oRep (eFz (oLst (zad (eC (.int 0)) aNil))) (eIxV 0 (eC (.int 0)))))
  (sSeq zho
  (zhj 2))))
noncomputable def zbD:List D->Option Sl:=fP 4 zhW
theorem zlp (h:FnAt K "mores_of" zi8):FD P w K mg base 1 "mores_of" (spP K 1 zbD):=
 fdP (N:=["line","sums","mores","i"]) (k:=0) (m:=zhW) X G h fun _ _ _ _ _ _ _ hr nd=>(zaf (zas 1 (zaj 0 zag) nd)
  (zaf (zcd 2 (zmR (SO.se (zbk (zaa zag zae))) (zaj 0 zag)) nd)
  (zaf (zbE PassesOwn.never rfl (zaD bn.range' (zaa (zbh (zce 1 bn.len') zag) zae)) (zak 3 nd)
  (zal (zf2 2 (zbh (zav (zaj 2 (zab 3)) (zaj 1 (zav (zab 3) zag))) (zaj 1 (zab 3))))))
  (zal (zdm 2)))))
noncomputable abbrev ziT:Stmt:=top 41
noncomputable def zhT:MS:=
 (zhP (zlB zbt (zad (eIxV 0 (eC (.int 2))) (zad (zax zbD (zad (eVar 0) aNil)) aNil))))
noncomputable def zco:List D->Option Sl:=fP 1 zhT
theorem zl0 (zbC:FD P w K mg base 1 "less_mores" (spP K 2 zbt))(zbg:FD P w K mg base 1 "mores_of" (spP K 1 zbD))(h:FnAt K "low_asks" ziT):FD P w K mg base 2 "low_asks" (spP K 1 zco):=
 fdP (N:=["line"]) (k:=1) (m:=zhT) X G h fun _ _ _ _ _ _ _ hr nd=>(zal (zdn (zi9 zbC hr (zaa (zaj 0 zag) (zaa (zao zbg hr (zaa (zab 0) zae) (hlen:=(zac zah))) zae)) (hlen:=(zac (zac zah))))))
noncomputable abbrev zig:Stmt:=top 42
noncomputable def zg4:MS:=
 (zhP (zlB zbt (zad (eIxV 0 (eC (.int 3))) (zad (zax zbD (zad (eVar 0) aNil)) aNil))))
noncomputable def zbS:List D->Option Sl:=fP 1 zg4
theorem zkP (zbC:FD P w K mg base 1 "less_mores" (spP K 2 zbt))(zbg:FD P w K mg base 1 "mores_of" (spP K 1 zbD))(h:FnAt K "high_asks" zig):FD P w K mg base 2 "high_asks" (spP K 1 zbS):=
 fdP (N:=["line"]) (k:=1) (m:=zg4) X G h fun _ _ _ _ _ _ _ hr nd=>(zal (zdn (zi9 zbC hr (zaa (zaj 0 zag) (zaa (zao zbg hr (zaa (zab 0) zae) (hlen:=(zac zah))) zae)) (hlen:=(zac (zac zah))))))
noncomputable abbrev zhk:Stmt:=top 43
noncomputable def zf8:MS:=
 (zhP (zlB zbr (zad (zax zco (zad (eVar 0) aNil)) (zad (zax zbS (zad (eVar 0) aNil)) (zad (eIxV 0 (eC (.int 0))) aNil)))))
noncomputable def zcK:List D->Option Sl:=fP 1 zf8
theorem zjJ (zbx:FD P w K mg base 1 "head_spans" (spP K 3 zbr))(zb3:FD P w K mg base 2 "high_asks" (spP K 1 zbS))(zct:FD P w K mg base 2 "low_asks" (spP K 1 zco))(h:FnAt K "rest_spans" zhk):FD P w K mg base 3 "rest_spans" (spP K 1 zcK):=
 fdP (N:=["line"]) (k:=2) (m:=zf8) X G h fun _ _ _ _ _ _ _ hr nd=>(zal (zdn (zi9 zbx hr (zaa (zao zct hr (zaa (zab 0) zae) (hlen:=(zac zah))) (zaa (zao zb3 hr (zaa (zab 0) zae) (hlen:=(zac zah))) (zaa (zaj 0 zag) zae))) (hlen:=(zac (zac (zac zah)))))))
noncomputable abbrev zkS:Stmt:=top 44
noncomputable def zkg:MS:=
 (sRet (zax zbL (zad (eVar 1) (zad (zax zbD (zad (eVar 0) aNil)) aNil))))
noncomputable def zhv:List D->Option Sl:=fP 2 zkg
theorem zor (zbg:FD P w K mg base 1 "mores_of" (spP K 1 zbD))(zdb:FD P w K mg base 1 "row_by_heads" (spP K 2 zbL))(h:FnAt K "row_of" zkS):FD P w K mg base 2 "row_of" (spP K 2 zhv):=
 fdP (N:=["line","heads"]) (k:=1) (m:=zkg) X G h fun _ _ _ _ _ _ _ hr nd=>(zal (zaB (zao zdb hr (zaa (zab 1) (zaa (zao zbg hr (zaa (zab 0) zae) (hlen:=(zac zah))) zae)) (hlen:=(zac (zac zah))))))
noncomputable abbrev zhi:Stmt:=top 45
noncomputable def zdD:MS:=
 (sRet (zax zcf (zad (zax zco (zad (eVar 0) aNil)) (zad (zax zbS (zad (eVar 0) aNil)) (zad (eIxV 0 (eC (.int 0))) (zad (m2 dIx (eIxV 0 (eC (.int 1))) (eC (.int 0))) aNil))))))
noncomputable def zaU:List D->Option Sl:=fP 1 zdD
theorem zki (zdK:FD P w K mg base 2 "heads_paper" (spP K 4 zcf))(zb3:FD P w K mg base 2 "high_asks" (spP K 1 zbS))(zct:FD P w K mg base 2 "low_asks" (spP K 1 zco))(h:FnAt K "line_paper" zhi):FD P w K mg base 3 "line_paper" (spP K 1 zaU):=
 fdP (N:=["line"]) (k:=2) (m:=zdD) X G h fun _ _ _ _ _ _ _ hr nd=>(zal (zaB (zao zdK hr (zaa (zao zct hr (zaa (zab 0) zae) (hlen:=(zac zah))) (zaa (zao zb3 hr (zaa (zab 0) zae) (hlen:=(zac zah))) (zaa (zaj 0 zag) (zaa (zaG (zaj 0 zag) zag) zae)))) (hlen:=(zac (zac (zac (zac zah))))))))
noncomputable abbrev zgN:Stmt:=top 46
noncomputable def ze6:MS:=
 (sRet (eTup (zad (eC (.str "row")) (zad (zax zhv (zad (eVar 0) (zad (zax zcl (zad (zax zcK (zad (eVar 0) aNil)) (zad (m2 dIx (eIxV 0 (eC (.int 1))) (eC (.int 0))) aNil))) aNil))) aNil))))
noncomputable def zeO:MS:=
 (sSeq (sSet 1 (zax zaU (zad (eVar 0) aNil)))
  (sSeq (sIf (tTru (m2 zkQ (eVar 1) (eC .non)))
  (zhj 1)
  zdr)
  ze6))
noncomputable def zbd:List D->Option Sl:=fP 2 zeO
theorem zjh (zd2:FD P w K mg base 1 "least_heads" (spP K 2 zcl))(zbB:FD P w K mg base 3 "line_paper" (spP K 1 zaU))(zeL:FD P w K mg base 3 "rest_spans" (spP K 1 zcK))(zi7:FD P w K mg base 2 "row_of" (spP K 2 zhv))(h:FnAt K "fitted_line" zgN):FD P w K mg base 4 "fitted_line" (spP K 1 zbd):=
 fdP (N:=["line","paper"]) (k:=3) (m:=zeO) X G h fun _ _ _ _ _ _ _ hr nd=>(zaf (zas 1 (zao zbB hr (zaa (zab 0) zae) (hlen:=(zac zah))) nd)
  (zaf (zed (zma (zab 1) zfh)
  (zal (zdm 1))
  za6)
  (zal (zaB (zaO (zaa zc9 (zaa (zao zi7 hr (zaa (zab 0) (zaa (zao zd2 hr (zaa (zao zeL hr (zaa (zab 0) zae) (hlen:=(zac zah))) (zaa (zaG (zaj 0 zag) zag) zae)) (hlen:=(zac (zac zah)))) zae)) (hlen:=(zac (zac zah)))) zae)))))))
noncomputable abbrev zfR:Stmt:=top 48
noncomputable def zdX:MS:=
 (sRet (eTup (zad (eC (.int 2)) (zad (eCut (eIxV 0 (eC (.int 1))) (zb4 (eVar 1)) (zb4 (m2 dAdd (eVar 2) (eC (.int 1))))) (zad (eCut (eIxV 0 (eC (.int 2))) (zb4 (eVar 1)) (zb4 (m2 dAdd (eVar 2) (eC (.int 2))))) (zad (eCut (eIxV 0 (eC (.int 3))) (zb4 (eVar 1)) (zb4 (m2 dAdd (eVar 2) (eC (.int 2))))) aNil))))))
noncomputable def za2:List D->Option Sl:=fP 3 zdX
theorem ziG (h:FnAt K "stretch_line" zfR):FD P w K mg base 1 "stretch_line" (spP K 3 za2):=
 fdP (N:=["line","a","b"]) (k:=0) (m:=zdX) X G h fun _ _ _ _ _ _ _ hr nd=>(zal (zaB (zaO (zaa zag (zaa (zd9 (zaj 0 zag) (zaK (zab 1)) (zaK (zav (zab 2) zag))) (zaa (zd9 (zaj 0 zag) (zaK (zab 1)) (zaK (zav (zab 2) zag))) (zaa (zd9 (zaj 0 zag) (zaK (zab 1)) (zaK (zav (zab 2) zag))) zae)))))))
noncomputable abbrev zfo:Stmt:=top 49
noncomputable def zdT:MS:=
 (sRet (m2 dIsN (zax zaU (zad (zax za2 (zad (eVar 0) (zad (eVar 1) (zad (eVar 2) aNil)))) aNil)) (eC .non)))
noncomputable def zbJ:List D->Option Sl:=fP 3 zdT
theorem ziJ (zbB:FD P w K mg base 3 "line_paper" (spP K 1 zaU))(zbc:FD P w K mg base 1 "stretch_line" (spP K 3 za2))(h:FnAt K "stretch_fits" zfo):FD P w K mg base 4 "stretch_fits" (spP K 3 zbJ):=
 fdP (N:=["line","a","b"]) (k:=3) (m:=zdT) X G h fun _ _ _ _ _ _ _ hr nd=>(zal (zaB (se_is (zao zbB hr (zaa (zao zbc hr (zaa (zab 0) (zaa (zab 1) (zaa (zab 2) zae))) (hlen:=(zac (zac (zac zah))))) zae) (hlen:=(zac zah))) zfh)))
noncomputable abbrev zds:Stmt:=top 50
noncomputable def zc6:MS:=
 (sIf (zoQ (tTru (zax zbJ (zad (eVar 0) (zad (eVar 2) (zad (eVar 3) aNil))))))
  (sSeq (sApp 1 (eTup (zad (eVar 2) (zad (eVar 3) aNil))))
  (sSet 2 (m2 dAdd (eVar 3) (eC (.int 1)))))
  zdr)
noncomputable def zc0:MS:=
 sFor (iR1 (zad (mC dLen (zad (eIxV 0 (eC (.int 1))) aNil)) aNil)) (gN 3) zc6
noncomputable def zcw:MS:=
 (sSeq (zgm 1 (oLst aNil))
  (sSeq (sSet 2 (eC (.int 0)))
  (sSeq zc0
  (zhj 1))))
noncomputable def zbb:List D->Option Sl:=fP 4 zcw
theorem zhs (zdh:FD P w K mg base 4 "stretch_fits" (spP K 3 zbJ))(h:FnAt K "short_stretches" zds):FD P w K mg base 5 "short_stretches" (spP K 1 zbb):=
 fdP (N:=["line","stretches","a","b"]) (k:=4) (m:=zcw) X G h fun _ _ _ _ _ _ _ hr nd=>(zaf (zcd 1 (zbk zae) nd)
  (zaf (zas 2 zag nd)
  (zaf (zbE PassesOwn.never rfl (zaD bn.range' (zaa (zdw bn.len' (zaa (zaj 0 zag) zae)) zae)) (zak 3 nd)
  (zal (zed (zob (zin (zao zdh hr (zaa (zab 0) (zaa (zab 2) (zaa (zab 3) zae))) (hlen := (zac (zac (zac zah)))))))
  (zaf (zf2 1 (zaO (zaa (zab 2) (zaa (zab 3) zae))))
  (zal (zas 2 (zav (zab 3) zag) nd)))
  za6)))
  (zal (zdm 1)))))
noncomputable abbrev zi3:Stmt:=top 51
noncomputable def zhf:MS:=
 (sRet (m2 dIx (zax zbd (zad (zax za2 (zad (eVar 0) (zad (eVar 1) (zad (m2 dSub (eVar 2) (eC (.int 1))) aNil)))) aNil)) (eC (.int 1))))
noncomputable def zhS:MS:=
 (sSeq (sIf (tTru (m2 dEq (eVar 1) (eVar 2)))
  (sRet (eCut (eIxV 0 (eC (.int 2))) (zb4 (eVar 1)) (zb4 (m2 dAdd (eVar 1) (eC (.int 1))))))
  zdr)
  zhf)
noncomputable def zee:List D->Option Sl:=fP 3 zhS
theorem zlN (zbo:FD P w K mg base 4 "fitted_line" (spP K 1 zbd))(zbc:FD P w K mg base 1 "stretch_line" (spP K 3 za2))(h:FnAt K "part_row" zi3):FD P w K mg base 5 "part_row" (spP K 3 zee):=
 fdP (N:=["line","a","b"]) (k:=4) (m:=zhS) X G h fun _ _ _ _ _ _ _ hr nd=>(zaf (zed (zkC hr.units (zab 1) (zab 2))
  (zal (zaB (zd9 (zaj 0 zag) (zaK (zab 1)) (zaK (zav (zab 1) zag)))))
  za6)
  (zal (zaB (zaG (zao zbo hr (zaa (zao zbc hr (zaa (zab 0) (zaa (zab 1) (zaa (zbh (zab 2) zag) zae))) (hlen:=(zac (zac (zac zah))))) zae) (hlen:=(zac zah))) zag))))
noncomputable abbrev zgK:Stmt:=top 52
noncomputable def zfc:MS:=
 (sSeq (sSet 2 (m2 dAdd (eVar 2) (zax zee (zad (eVar 0) (zad (eVar 3) (zad (eVar 4) aNil))))))
  (sSet 3 (m2 dAdd (eVar 4) (eC (.int 1)))))
noncomputable def ze5:MS:=
 sFor (iSeq (m2 dAdd (eVar 1) (eTup (zad (mC dLen (zad (eIxV 0 (eC (.int 1))) aNil)) aNil)))) (gN 4) zfc
noncomputable def zeK:MS:=
 (sSeq (sSet 2 (eTup aNil))
  (sSeq (sSet 3 (eC (.int 0)))
  (sSeq ze5
  (zhj 2))))
noncomputable def zb9:List D->Option Sl:=fP 5 zeK
theorem zje (zgT:FD P w K mg base 5 "part_row" (spP K 3 zee))(h:FnAt K "row_without" zgK):FD P w K mg base 6 "row_without" (spP K 2 zb9):=
 fdP (N:=["line","wrong","row","a","b"]) (k:=5) (m:=zeK) X G h fun _ _ _ _ _ _ _ hr nd=>(zaf (zas 2 (zaO zae) nd)
  (zaf (zas 3 zag nd)
  (zaf (zbE PassesOwn.never rfl (zbW (zav (zab 1) (zaO (zaa (zdw bn.len' (zaa (zaj 0 zag) zae)) zae)))) (zak 4 nd)
  (zaf (zas 2 (zav (zab 2) (zao zgT hr (zaa (zab 0) (zaa (zab 3) (zaa (zab 4) zae))) (hlen := (zac (zac (zac zah)))))) nd)
  (zal (zas 3 (zav (zab 4) zag) nd))))
  (zal (zdm 2)))))
noncomputable abbrev zht:Stmt:=top 53
noncomputable def zfC:ME:=
 (eVar 1)
noncomputable def zfI:MO:=
 oLC [] 2 (iSeq (eVar 1)) (gT 2 (zar (gN 0) (zar (gN 1) zb5))) zbp zfC
noncomputable def zfx:MS:=
 (sSeq (sSet 1 (zax zbb (zad (eVar 0) aNil)))
  (sSeq (sSet 2 (mC zbX (zad (eFz zfI) aNil)))
  (sRet (eTup (zad (eVar 2) (zad (zax zb9 (zad (eVar 0) (zad (eVar 2) aNil))) (zad (eVar 1) aNil)))))))
noncomputable def zfs:MS:=
 (sSeq (sIf (tTru (m2 dNe (eIxV 0 (eC (.int 0))) (eC (.int 2))))
  (fun _=>none)
  zdr)
  zfx)
noncomputable def zcJ:List D->Option Sl:=fP 3 zfs
theorem zjG (zdQ:FD P w K mg base 6 "row_without" (spP K 2 zb9))(zck:FD P w K mg base 5 "short_stretches" (spP K 1 zbb))(h:FnAt K "twos_wrong" zht):FD P w K mg base 7 "twos_wrong" (spP K 1 zcJ):=
 fdP (N:=["line","stretches","wrong"]) (k:=6) (m:=zfs) X G h fun _ _ _ _ _ _ _ hr nd=>(zaf (zed (zmY hr.units (zaj 0 zag) zag)
  (zal ss_never)
  za6)
  (zaf (zas 1 (zao zck hr (zaa (zab 0) zae) (hlen := (zac zah))) nd)
  (zaf (zas 2 (zbO bn.tuple' (zaa (SO.se (zcU [] 2 ["a", "b"] rfl (zbW (zab 1)) (fun C s H fp => (za4 rfl (zam (zak 0 ndk) (zam (zak 1 ndk) zaI)))) (fun C s H fp => zay) (fun C s H fp => (zab 1)))) zae)) nd)
  (zal (zaB (zaO (zaa (zab 2) (zaa (zao zdQ hr (zaa (zab 0) (zaa (zab 2) zae)) (hlen:=(zac (zac zah)))) (zaa (zab 1) zae)))))))))
noncomputable abbrev zid:Stmt:=top 55
noncomputable def zgw:MS:=
 (sSeq (sSet 3 (m2 dMod (m2 dAdd (m2 dMul (eVar 3) (eC (.int 48271))) (eC (.int 12345))) (eC (.int 2147483647))))
  (sSet 4 (m2 dAdd (m2 dMul (eVar 4) (eC (.int 16777216))) (m2 dMod (m2 dDiv (m2 dMod (m2 dMul (eVar 3) (eVar 3)) (eC (.int 2147483629))) (eC (.int 64))) (eC (.int 16777216))))))
noncomputable def zdN:MS:=
 sFor (iR1 (zad (eC (.int 40)) aNil)) (gN 5) zgw
noncomputable def zgs:MS:=
 (sSeq (sSet 3 (m2 dAdd (m2 dAdd (m2 dMod (eVar 2) (eC (.int 2147483629))) (m2 dMul (eC (.int 7919)) (eVar 1))) (eC (.int 1))))
  (sSeq (sSet 4 (eC (.int 0)))
  (sSeq zdN
  (zhP (oLst (zad (eVar 4) aNil))))))
noncomputable def zdY:MS:=
 (sSeq (sIf (tTru (m2 dGe (eVar 2) (m2 dPow (eC (.int 10)) (eC (.int 18)))))
  (zhP (oLst (zad (m2 dSub (eVar 2) (m2 dPow (eC (.int 10)) (eC (.int 18)))) aNil)))
  zdr)
  zgs)
noncomputable def zgZ:MS:=
 (sSeq (sSet 2 (eC (.int 0)))
  (sSeq (sIf (tTru (m2 dLt (eVar 1) (zfm 0)))
  (sSet 2 (m2 dMod (eIxV 0 (eVar 1)) (m2 dMul (m2 dMul (m2 dMul (m2 dPow (eC (.int 10)) (eC (.int 60))) (m2 dPow (eC (.int 10)) (eC (.int 60)))) (m2 dPow (eC (.int 10)) (eC (.int 60)))) (m2 dPow (eC (.int 10)) (eC (.int 60))))))
  zdr)
  zdY))
noncomputable def zdo:List D->Option Sl:=fP 6 zgZ
theorem zkZ (h:FnAt K "_law_deal" zid):FD P w K mg base 1 "_law_deal" (spP K 2 zdo):=
 fdP (N:=["script","k","cell","seed","number","turn"]) (k:=0) (m:=zgZ) X G h fun _ _ _ _ _ _ _ hr nd=>(zaf (zas 2 zag nd)
  (zaf (zed (zlJ (zab 1) (zce 0 bn.len'))
  (zal (zas 2 (zhn (zaj 0 (zab 1)) (zb1 (zb1 (zb1 (zeW zag zag) (zeW zag zag)) (zeW zag zag)) (zeW zag zag))) nd))
  za6)
  (zaf (zed (st_ge (zab 2) (zeW zag zag))
  (zal (zdn (zbk (zaa (zbh (zab 2) (zeW zag zag)) zae))))
  za6)
  (zaf (zas 3 (zav (zav (zhn (zab 2) zag) (zb1 zag (zab 1))) zag) nd)
  (zaf (zas 4 zag nd)
  (zaf (zbE PassesOwn.never rfl (zaD bn.range' (zaa zag zae)) (zak 5 nd)
  (zaf (zas 3 (zhn (zav (zb1 (zab 3) zag) zag) zag) nd)
  (zal (zas 4 (zav (zb1 (zab 4) zag) (zhn (zkB (zhn (zb1 (zab 3) (zab 3)) zag) zag) zag)) nd))))
  (zal (zdn (zbk (zaa (zab 4) zae))))))))))
noncomputable abbrev zia:Stmt:=top 56
noncomputable def zg0:MS:=
 (sSeq (sSet 2 (m2 dMod (eIxV 0 (eC (.int 0))) (eVar 1)))
  (sSeq (sPut 0 (eC (.int 0)) (m2 dDiv (eIxV 0 (eC (.int 0))) (eVar 1)))
  (zhj 2)))
noncomputable def zaq:List D->List D->Option (Sl×List D):=fM 3 zg0
theorem zlc (h:FnAt K "_law_take" zia):FD P w K mg base 1 "_law_take" (spM K 2 zaq):=
 fdM (N:=["pot","many","digit"]) (k:=0) (m:=zg0) X G h fun _ _ _ _ _ _ _ hr nd=>(zaf (zas 2 (zhn (zaj 0 zag) (zab 1)) nd)
  (zaf (zi5 0 (zkB (zaj 0 zag) (zab 1)) zag)
  (zal (zdm 2))))
noncomputable abbrev zh5:Stmt:=top 57
noncomputable def zgE:ME:=
 (eIxV 0 (m2 dAdd (eVar 1) (eVar 2)))
noncomputable def zgr:MO:=
 oLC [0,3] 1 (iR1 (zad (eVar 1) aNil)) (gN 2) zbp zgE
noncomputable def zdZ:MS:=
 (sApp 2 (mC dSum (zad (eFz zgr) aNil)))
noncomputable def zgG:MS:=
 sFor (iR1 (zad (m2 dAdd (m2 dSub (zfm 0) (eVar 1)) (eC (.int 1))) aNil)) (gN 3) zdZ
noncomputable def zgU:MS:=
 (sSeq (zgm 2 (oLst aNil))
  (sSeq zgG
  (sRet (mC zbX (zad (eVar 2) aNil)))))
noncomputable def zcm:List D->Option Sl:=fP 4 zgU
theorem zkp (h:FnAt K "_law_sums" zh5):FD P w K mg base 1 "_law_sums" (spP K 2 zcm):=
 fdP (N:=["row","k","told","at"]) (k:=0) (m:=zgU) X G h fun _ _ _ _ _ _ _ hr nd=>(zaf (zcd 2 (zbk zae) nd)
  (zaf (zbE PassesOwn.never rfl (zaD bn.range' (zaa (zav (zbh (zce 0 bn.len') (zab 1)) zag) zae)) (zak 3 nd)
  (zal (zf2 2 (ze2 rfl bn.sum' (zaa (SO.se (zcU [0,3] 1 ["row","at","j"] rfl (zaD bn.range' (zaa (zab 1) zae)) (fun C s H fp=>(zak 2 ndk)) (fun C s H fp=>zay) (fun C s H fp=>(zaj 0 (zav (zab 1) (zab 2)))))) zae)))))
  (zal (zaB (zbO bn.tuple' (zaa (zab 2) zae))))))
noncomputable abbrev zh7:Stmt:=top 58
noncomputable def zgy:ME:=
 (m2 dIx (eFz (oLst (zad (eC (.int 1)) (zad (eC (.int 1000)) (zad (m2 dPow (eC (.int 10)) (eC (.int 30))) (zad (eVar 0) aNil)))))) (za3 zaq 1 (zad (eC (.int 4)) aNil)))
noncomputable def zgu:MO:=
 oLCM [5,0] 1 1 0 (iR1 (zad (eVar 4) aNil)) (gN 2) zbp zgy
noncomputable def zgM:ME:=
 (m2 dMul (eVar 1) (m2 dSub (za3 zaq 0 (zad (eC (.int 9)) aNil)) (eC (.int 4))))
noncomputable def zgO:MO:=
 oLCM [0] 1 0 0 (iSeq (eVar 6)) (gN 1) zbp zgM
noncomputable def zgx:ME:=
 (m2 dSub (eVar 2) (m2 dMul (za3 zaq 0 (zad (eVar 1) aNil)) (eVar 3)))
noncomputable def zgt:MO:=
 oLCM [0,3] 2 0 0 (iZ2 (zad (eVar 7) (zad (eVar 6) aNil))) (gT 2 (zar (gN 2) (zar (gN 3) zb5))) zbp zgx
noncomputable def zgD:ME:=
 (m2 dAdd (eVar 2) (m2 dMul (za3 zaq 0 (zad (eVar 1) aNil)) (eVar 3)))
noncomputable def zgn:MO:=
 oLCM [0,3] 2 0 0 (iZ2 (zad (eVar 7) (zad (eVar 6) aNil))) (gT 2 (zar (gN 2) (zar (gN 3) zb5))) zbp zgD
noncomputable def zdU:MS:=
 (sSeq (sSet 12 (za3 zaq 0 (zad (zfm 10) aNil)))
  (sPut 10 (eVar 12) (m2 dAdd (eIxV 10 (eVar 12)) (m2 dMul (m2 dSub (za3 zaq 0 (zad (eC (.int 9)) aNil)) (eC (.int 4))) (m2 dIx (eFz (oLst (zad (eC (.int 1)) (zad (eIxV 6 (eVar 12)) aNil)))) (za3 zaq 0 (zad (eC (.int 2)) aNil)))))))
noncomputable def zgp:MS:=
 sFor (iR1 (zad (m2 dIx (eFz (oLst (zad (eC (.int 0)) (zad (eC (.int 1)) (zad (eC (.int 3)) (zad (zfm 10) aNil)))))) (za3 zaq 0 (zad (eC (.int 4)) aNil))) aNil)) (gN 11) zdU
noncomputable def zd4:MS:=
 (sSeq (sSet 7 (eFz zgO))
  (sSeq (sSet 8 (eFz zgt))
  (sSeq (sSet 9 (eFz zgn))
  (sSeq (zgm 10 (oC zaR (zad (zax zcm (zad (eVar 7) (zad (eVar 1) aNil))) aNil)))
  (sSeq zgp
  (sRet (eTup (zad (eVar 1) (zad (mC zbX (zad (eVar 10) aNil)) (zad (mC zbX (zad (eVar 8) aNil)) (zad (mC zbX (zad (eVar 9) aNil)) aNil)))))))))))
noncomputable def zg1:MS:=
 (sSeq (sSet 4 (m2 dAdd (eVar 1) (za3 zaq 0 (zad (m2 dAdd (m2 dSub (eVar 2) (eVar 1)) (eC (.int 1))) aNil))))
  (sSeq (sSet 5 (m2 dIx (eFz (oLst (zad (eC (.int 1)) (zad (eC (.int 1)) (zad (eC (.int 1)) (zad (m2 dPow (eC (.int 10)) (eC (.int 57))) aNil)))))) (za3 zaq 0 (zad (eC (.int 4)) aNil))))
  (sSeq (sSet 6 (m2 dMul (eFz (oLst (zad (eVar 5) aNil))) (eVar 4)))
  (sSeq (sIf (tTru (m2 dEq (za3 zaq 0 (zad (eC (.int 4)) aNil)) (eC (.int 0))))
  (sSet 6 (eFz zgu))
  zdr)
  zd4))))
noncomputable def zbP:List D->List D->Option (Sl×List D):=fM 13 zg1
theorem zkG (zf6:FD P w K mg base 1 "_law_sums" (spP K 2 zcm))(zap:FD P w K mg base 1 "_law_take" (spM K 2 zaq))(h:FnAt K "_law_line" zh7):FD P w K mg base 2 "_law_line" (spM K 4 zbP):=
 fdM (N:=["pot","k","most","wide","many","great","scales","row","least","greatest","sums","turn","at"]) (k:=1) (m:=zg1) X G h fun _ _ _ _ _ _ _ hr nd=>(zaf (zas 4 (zav (zab 1) (zaE 0 zap hr (zaa (zav (zbh (zab 2) (zab 1)) zag) zae) (zcT (zac zah)))) nd)
  (zaf (zas 5 (zaG (SO.se (zbk (zaa zag (zaa zag (zaa zag (zaa (zeW zag zag) zae)))))) (zaE 0 zap hr (zaa zag zae) (zcT (zac zah)))) nd)
  (zaf (zas 6 (zb1 (SO.se (zbk (zaa (zab 5) zae))) (zab 4)) nd)
  (zaf (zed (zkC hr.units (zaE 0 zap hr (zaa zag zae) (zcT (zac zah))) zag)
  (zal (zeb 6 [5,0] 1 1 0 ["great","pot","place"] rfl (zaD bn.range' (zaa (zab 4) zae)) (fun C s H fp=>(zak 2 ndk)) (fun C s H fp=>zay) (fun C s H fp=>(zaG (SO.se (zbk (zaa zag (zaa zag (zaa (zeW zag zag) (zaa (zab 0) zae)))))) (zaE 1 zap hr (zaa zag zae) (zcT (zac zah))))) nd))
  za6)
  (zaf (zeb 7 [0] 1 0 0 ["pot", "scale"] rfl (zbW (zab 6)) (fun C s H fp => (zak 1 ndk)) (fun C s H fp => zay) (fun C s H fp => (zb1 (zab 1) (zbh (zaE 0 zap hr (zaa zag zae) (zcT (zac zah))) zag))) nd)
  (zaf (zeb 8 [0, 3] 2 0 0 ["pot", "wide", "number", "scale"] rfl (zeG bn.zip' (zaa (zab 7) (zaa (zab 6) zae))) (fun C s H fp => (za4 rfl (zam (zak 2 ndk) (zam (zak 3 ndk) zaI)))) (fun C s H fp => zay) (fun C s H fp => (zbh (zab 2) (zb1 (zaE 0 zap hr (zaa (zab 1) zae) (zcT (zac zah))) (zab 3)))) nd)
  (zaf (zeb 9 [0, 3] 2 0 0 ["pot", "wide", "number", "scale"] rfl (zeG bn.zip' (zaa (zab 7) (zaa (zab 6) zae))) (fun C s H fp => (za4 rfl (zam (zak 2 ndk) (zam (zak 3 ndk) zaI)))) (fun C s H fp => zay) (fun C s H fp => (zav (zab 2) (zb1 (zaE 0 zap hr (zaa (zab 1) zae) (zcT (zac zah))) (zab 3)))) nd)
  (zaf (zcd 10 (so_list bn.list' (zaa (zao zf6 hr (zaa (zab 7) (zaa (zab 1) zae)) (hlen := (zac (zac zah)))) zae)) nd)
  (zaf (zbE PassesOwn.never rfl (zaD bn.range' (zaa (zaG (SO.se (zbk (zaa zag (zaa zag (zaa zag (zaa (zce 10 bn.len') zae)))))) (zaE 0 zap hr (zaa zag zae) (zcT (zac zah)))) zae)) (zak 11 nd)
  (zaf (zas 12 (zaE 0 zap hr (zaa (zce 10 bn.len') zae) (zcT (zac zah))) nd)
  (zal (zi5 10 (zav (zaj 10 (zab 12)) (zb1 (zbh (zaE 0 zap hr (zaa zag zae) (zcT (zac zah))) zag) (zaG (SO.se (zbk (zaa zag (zaa (zaj 6 (zab 12)) zae)))) (zaE 0 zap hr (zaa zag zae) (zcT (zac zah)))))) (zab 12)))))
  (zal (zaB (zaO (zaa (zab 1) (zaa (zbO bn.tuple' (zaa (zab 10) zae)) (zaa (zbO bn.tuple' (zaa (zab 8) zae)) (zaa (zbO bn.tuple' (zaa (zab 9) zae)) zae))))))))))))))))
noncomputable abbrev zeU:Stmt:=top 62
noncomputable def zdv:MS:=
 (sApp 7 (m2 dAdd (m2 dMod (eVar 8) (m2 dPow (eC (.int 10)) (eC (.int 9)))) (m2 dMul (m2 dIx (eFz (oLst (zad (eC (.int 0)) (zad (eC (.int 9)) (zad (m1 dNeg (eC (.int 9))) aNil))))) (za3 zaq 0 (zad (eC (.int 3)) aNil))) (m2 dPow (eC (.int 10)) (eC (.int 59))))))
noncomputable def zdB:MS:=
 sFor (iSeq (eVar 3)) (gN 8) zdv
noncomputable def zdy:ME:=
 (m2 dMod (eVar 0) (m2 dPow (eC (.int 10)) (eC (.int 9))))
noncomputable def zdH:MO:=
 oLC [] 1 (iSeq (eVar 4)) (gN 0) zbp zdy
noncomputable def zdt:ME:=
 (m2 dAdd (eVar 1) (za3 zaq 0 (zad (eC (.int 9)) aNil)))
noncomputable def zdC:MO:=
 oLCM [0] 1 0 0 (iSeq (eVar 4)) (gN 1) zbp zdt
noncomputable def zdI:ME:=
 (m2 dAdd (eVar 0) (eVar 1))
noncomputable def zdF:MO:=
 oLC [6] 1 (iSeq (eVar 5)) (gN 1) zbp zdI
noncomputable def zdz:ME:=
 (m2 dAdd (eVar 0) (eVar 1))
noncomputable def zdx:MO:=
 oLC [6] 1 (iSeq (eVar 4)) (gN 1) zbp zdz
noncomputable def zdl:MS:=
 (sSeq (sAsg (eVar 1) (gT 4 (zar (gN 2) (zar (gN 3) (zar (gN 4) (zar (gN 5) zb5))))))
  (sSeq (sSet 6 (m2 dMul (m2 dIx (eFz (oLst (zad (eC (.int 9)) (zad (m1 dNeg (eC (.int 9))) aNil)))) (za3 zaq 0 (zad (eC (.int 2)) aNil))) (m2 dPow (eC (.int 10)) (eC (.int 59)))))
  (sSeq (zgm 7 (oLst aNil))
  (sSeq zdB
  (sSeq (sSet 4 (eFz zdH))
  (sSeq (sSet 5 (eFz zdC))
  (sRet (eTup (zad (eVar 2) (zad (mC zbX (zad (eVar 7) aNil)) (zad (mC zbX (zad (eFz zdx) aNil)) (zad (mC zbX (zad (eFz zdF) aNil)) aNil))))))))))))
noncomputable def zbw:List D->List D->Option (Sl×List D):=fM 9 zdl
theorem zil (zap:FD P w K mg base 1 "_law_take" (spM K 2 zaq))(h:FnAt K "_law_far_line" zeU):FD P w K mg base 2 "_law_far_line" (spM K 2 zbw):=
 fdM (N:=["pot","line","k","sums","least","greatest","far","moved","number"]) (k:=1) (m:=zdl) X G h fun _ _ _ _ _ _ _ hr nd=>(zaf (zmE (zab 1) (za4 rfl (zam (zak 2 nd) (zam (zak 3 nd) (zam (zak 4 nd) (zam (zak 5 nd) zaI))))))
  (zaf (zas 6 (zb1 (zaG (SO.se (zbk (zaa zag (zaa (zdE zag) zae)))) (zaE 0 zap hr (zaa zag zae) (zcT (zac zah)))) (zeW zag zag)) nd)
  (zaf (zcd 7 (zbk zae) nd)
  (zaf (zbE PassesOwn.never rfl (zbW (zab 3)) (zak 8 nd)
  (zal (zf2 7 (zav (zhn (zab 8) (zeW zag zag)) (zb1 (zaG (SO.se (zbk (zaa zag (zaa zag (zaa (zdE zag) zae))))) (zaE 0 zap hr (zaa zag zae) (zcT (zac zah)))) (zeW zag zag))))))
  (zaf (zet 4 [] 1 ["low"] rfl (zbW (zab 4)) (fun C s H fp => (zak 0 ndk)) (fun C s H fp => zay) (fun C s H fp => (zhn (zab 0) (zeW zag zag))) nd)
  (zaf (zeb 5 [0] 1 0 0 ["pot", "low"] rfl (zbW (zab 4)) (fun C s H fp => (zak 1 ndk)) (fun C s H fp => zay) (fun C s H fp => (zav (zab 1) (zaE 0 zap hr (zaa zag zae) (zcT (zac zah))))) nd)
  (zal (zaB (zaO (zaa (zab 2) (zaa (zbO bn.tuple' (zaa (zab 7) zae)) (zaa (zbO bn.tuple' (zaa (SO.se (zcU [6] 1 ["far","low"] rfl (zbW (zab 4)) (fun C s H fp=>(zak 1 ndk)) (fun C s H fp=>zay) (fun C s H fp=>(zav (zab 0) (zab 1))))) zae)) (zaa (zbO bn.tuple' (zaa (SO.se (zcU [6] 1 ["far","high"] rfl (zbW (zab 5)) (fun C s H fp=>(zak 1 ndk)) (fun C s H fp=>zay) (fun C s H fp=>(zav (zab 0) (zab 1))))) zae)) zae)))))))))))))
noncomputable abbrev zfd:Stmt:=top 59
noncomputable def zcj:MS:=
 (zhj 2)
noncomputable def zdp:MS:=
 (sSeq (sSet 1 (m2 dAdd (eC (.int 2)) (za3 zaq 0 (zad (eC (.int 4)) aNil))))
  (sSeq (sSet 2 (za3 zbP 0 (zad (eVar 1) (zad (m2 dIx (eFz (oLst (zad (eC (.int 12)) (zad (eC (.int 24)) aNil)))) (m2 dDiv (za3 zaq 0 (zad (eC (.int 6)) aNil)) (eC (.int 5)))) (zad (m2 dAdd (eC (.int 1)) (za3 zaq 0 (zad (eC (.int 5)) aNil))) aNil)))))
  (sSeq (sIf (tTru (m2 dEq (za3 zaq 0 (zad (eC (.int 8)) aNil)) (eC (.int 7))))
  (sSet 2 (za3 zbw 0 (zad (eVar 2) aNil)))
  zdr)
  zcj)))
noncomputable def zbu:List D->List D->Option (Sl×List D):=fM 3 zdp
theorem zii (zcZ:FD P w K mg base 2 "_law_far_line" (spM K 2 zbw))(zbY:FD P w K mg base 2 "_law_line" (spM K 4 zbP))(zap:FD P w K mg base 1 "_law_take" (spM K 2 zaq))(h:FnAt K "_law_any_line" zfd):FD P w K mg base 3 "_law_any_line" (spM K 1 zbu):=
 fdM (N:=["pot","k","line"]) (k:=2) (m:=zdp) X G h fun _ _ _ _ _ _ _ hr nd=>(zaf (zas 1 (zav zag (zaE 0 zap hr (zaa zag zae) (zcT (zac zah)))) nd)
  (zaf (zas 2 (zaE 0 zbY hr (zaa (zab 1) (zaa (zaG (SO.se (zbk (zaa zag (zaa zag zae)))) (zkB (zaE 0 zap hr (zaa zag zae) (zcT (zac zah))) zag)) (zaa (zav zag (zaE 0 zap hr (zaa zag zae) (zcT (zac zah)))) zae))) (zcT (zac (zac (zac zah))))) nd)
  (zaf (zed (zkC hr.units (zaE 0 zap hr (zaa zag zae) (zcT (zac zah))) zag)
  (zal (zas 2 (zaE 0 zcZ hr (zaa (zab 2) zae) (zcT (zac zah))) nd))
  za6)
  (zal (zdm 2)))))
noncomputable abbrev ziY:Stmt:=top 60
noncomputable def zhY:MS:=
 (zhP (oLst (zad (mC dSum (zad (eCutZ (eVar 0) pNo pNo (zb4 (eC (.int 2)))) aNil)) (zad (mC dSum (zad (eCutZ (eVar 0) (zb4 (eC (.int 1))) pNo (zb4 (eC (.int 2)))) aNil)) aNil))))
noncomputable def zeg:List D->Option Sl:=fP 1 zhY
theorem zlo (h:FnAt K "_law_two" ziY):FD P w K mg base 1 "_law_two" (spP K 1 zeg):=
 fdP (N:=["script"]) (k:=0) (m:=zhY) X G h fun _ _ _ _ _ _ _ hr nd=>(zal (zdn (zbk (zaa (ze2 rfl bn.sum' (zaa (zov (zab 0) zhZ zhZ (zaK zag)) zae)) (zaa (ze2 rfl bn.sum' (zaa (zov (zab 0) (zaK zag) zhZ (zaK zag)) zae)) zae)))))
noncomputable abbrev zea:Stmt:=top 61
noncomputable def zcW:MS:=
 (sRet (za3 zbP 0 (zad (eC (.int 2)) (zad (m2 dIx (eFz (oLst (zad (eC (.int 12)) (zad (eC (.int 24)) aNil)))) (m2 dDiv (za3 zaq 0 (zad (eC (.int 6)) aNil)) (eC (.int 5)))) (zad (m2 dAdd (eC (.int 1)) (za3 zaq 0 (zad (eC (.int 5)) aNil))) aNil)))))
noncomputable def zbi:List D->List D->Option (Sl×List D):=fM 1 zcW
theorem zhO (zbY:FD P w K mg base 2 "_law_line" (spM K 4 zbP))(zap:FD P w K mg base 1 "_law_take" (spM K 2 zaq))(h:FnAt K "_law_twos_line" zea):FD P w K mg base 3 "_law_twos_line" (spM K 1 zbi):=
 fdM (N:=["pot"]) (k:=2) (m:=zcW) X G h fun _ _ _ _ _ _ _ hr nd=>(zal (zaB (zaE 0 zbY hr (zaa zag (zaa (zaG (SO.se (zbk (zaa zag (zaa zag zae)))) (zkB (zaE 0 zap hr (zaa zag zae) (zcT (zac zah))) zag)) (zaa (zav zag (zaE 0 zap hr (zaa zag zae) (zcT (zac zah)))) zae))) (zcT (zac (zac (zac zah)))))))
noncomputable abbrev zdq:Stmt:=top 63
noncomputable def zcQ:ME:=
 (eVar 1)
noncomputable def zcN:MT:=
 (tTru (m2 dNe (eVar 2) (m2 dIx (eIxV 0 (eC (.int 1))) (eVar 1))))
noncomputable def zcR:MO:=
 oLC [0] 2 (iEn (zad (zax zbf (zad (eVar 1) (zad (eIxV 0 (eC (.int 0))) aNil))) aNil)) (gT 2 (zar (gN 1) (zar (gN 2) zb5))) zcN zcQ
noncomputable def zch:MS:=
 (sRet (mC dLen (zad (eFz zcR) aNil)))
noncomputable def zaH:List D->Option Sl:=fP 2 zch
theorem zgY (zaZ:FD P w K mg base 1 "line_sums" (spP K 2 zbf))(h:FnAt K "_law_unlike_many" zdq):FD P w K mg base 2 "_law_unlike_many" (spP K 2 zaH):=
 fdP (N:=["line","row"]) (k:=1) (m:=zch) X G h fun _ _ _ _ _ _ _ hr nd=>(zal (zaB (zdw bn.len' (zaa (SO.se (zcU [0] 2 ["line","at","number"] rfl (zb7 bn.enumerate' (zaa (zao zaZ hr (zaa (zab 1) (zaa (zaj 0 zag) zae)) (hlen:=(zac (zac zah)))) zae)) (fun C s H fp=>(za4 rfl (zam (zak 1 ndk) (zam (zak 2 ndk) zaI)))) (fun C s H fp=>(sts_one (zmY hr.units (zab 2) (zaG (zaj 0 zag) (zab 1))))) (fun C s H fp=>(zab 1)))) zae))))
noncomputable abbrev zem:Stmt:=top 64
noncomputable def zbT:MS:=
 (sRet (eAnd (m2 dLe (eVar 2) (eVar 1)) (m2 dLe (eVar 1) (m2 dMul (eVar 2) (mC dLen (zad (eIxV 0 (eC (.int 1))) aNil))))))
noncomputable def zcV:MS:=
 (sSeq (sSet 1 (m2 dIx (zax zaX (zad (eVar 0) aNil)) (eC (.int 0))))
  (sSeq (sSet 2 (m2 dIx (zax zb0 (zad (eVar 0) aNil)) (eC (.int 0))))
  (sSeq (sSet 3 (m2 dEq (m2 dIx (zax zbd (zad (eVar 0) aNil)) (eC (.int 0))) (eC (.str "row"))))
  (sSeq (sIf (tOrM (tTru (m2 dNe (m2 dEq (eVar 2) (eC (.int 0))) (eVar 3))) (tTru (m2 dNe (m2 dEq (eVar 1) (eC (.int 0))) (eVar 3))))
  (sRet (eC (.bl false)))
  zdr)
  zbT))))
noncomputable def zbl:List D->Option Sl:=fP 4 zcV
theorem zh3 (zbo:FD P w K mg base 4 "fitted_line" (spP K 1 zbd))(zbm:FD P w K mg base 4 "line_change" (spP K 1 zaX))(zcy:FD P w K mg base 6 "line_off" (spP K 1 zb0))(h:FnAt K "_law_two_right" zem):FD P w K mg base 7 "_law_two_right" (spP K 1 zbl):=
 fdP (N:=["line","total","far","fits"]) (k:=6) (m:=zcV) X G h fun _ _ _ _ _ _ _ hr nd=>(zaf (zas 1 (zaG (zao zbm hr (zaa (zab 0) zae) (hlen:=(zac zah))) zag) nd)
  (zaf (zas 2 (zaG (zao zcy hr (zaa (zab 0) zae) (hlen := (zac zah))) zag) nd)
  (zaf (zas 3 (zo1 hr.units (zaG (zao zbo hr (zaa (zab 0) zae) (hlen := (zac zah))) zag) zc9) nd)
  (zaf (zed (STw.st (znr (zmY hr.units (zo1 hr.units (zab 2) zag) (zab 3)) (zjC (zmY hr.units (zo1 hr.units (zab 1) zag) (zab 3)))))
  (zal (zaB zll))
  za6)
  (zal (zaB (se_and (se_le (zab 2) (zab 1)) (se_one (se_le (zab 1) (zb1 (zab 2) (zdw bn.len' (zaa (zaj 0 zag) zae))))))))))))
noncomputable abbrev zdd:Stmt:=top 65
noncomputable def zcI:ME:=
 (mC dAbs (zad (m2 dSub (eVar 0) (eVar 1)) aNil))
noncomputable def zcH:MO:=
 oLC [] 2 (iZ2 (zad (zax zbf (zad (eVar 2) (zad (eC (.int 2)) aNil))) (zad (eIxV 0 (eC (.int 1))) aNil))) (gT 2 (zar (gN 0) (zar (gN 1) zb5))) zbp zcI
noncomputable def zcO:MS:=
 (sSeq (sSet 10 (mC ziy (zad (eFz zcH) aNil)))
  (sRet (eAnd (m2 dGe (zax zcE (zad (eVar 0) (zad (eVar 2) aNil))) (eVar 4)) (m2 dGe (eVar 10) (eVar 7)))))
noncomputable def zcF:MS:=
 (sSeq (sIf (tOrM (tTru (m2 dLt (zax zaH (zad (eVar 0) (zad (eVar 5) aNil))) (zfm 1))) (tTru (m2 dLt (zax zaH (zad (eVar 0) (zad (eVar 8) aNil))) (zfm 1))))
  (sRet (eC (.bl false)))
  zdr)
  zcO)
noncomputable def zcc:MS:=
 (sSeq (sAsg (zax zcJ (zad (eVar 0) aNil)) (gT 3 (zar (gN 1) (zar (gN 2) (zar (gN 3) zb5)))))
  (sSeq (sAsg (zax zaX (zad (eVar 0) aNil)) (gT 3 (zar (gN 4) (zar (gN 5) (zar (gN 6) zb5)))))
  (sSeq (sAsg (zax zb0 (zad (eVar 0) aNil)) (gT 3 (zar (gN 7) (zar (gN 8) (zar (gN 9) zb5)))))
  (sSeq (sIf (tOrM (tTru (m2 dNe (m2 dEq (eVar 1) (eTup aNil)) (m2 dEq (eVar 4) (eC (.int 0))))) (tTru (m2 dGt (zax zaH (zad (eVar 0) (zad (eVar 2) aNil))) (zfm 1))))
  (sRet (eC (.bl false)))
  zdr)
  zcF))))
noncomputable def zaY:List D->Option Sl:=fP 11 zcc
theorem zg2 (zaS:FD P w K mg base 2 "_law_unlike_many" (spP K 2 zaH))(zeH:FD P w K mg base 2 "changes_of" (spP K 2 zcE))(zbm:FD P w K mg base 4 "line_change" (spP K 1 zaX))(zcy:FD P w K mg base 6 "line_off" (spP K 1 zb0))(zaZ:FD P w K mg base 1 "line_sums" (spP K 2 zbf))(zex:FD P w K mg base 7 "twos_wrong" (spP K 1 zcJ))(h:FnAt K "_law_wrong_right" zdd):FD P w K mg base 8 "_law_wrong_right" (spP K 1 zaY):=
 fdP (N:=["line","wrong","row","stretches","total","one","signs","far","other","way","most"]) (k:=7) (m:=zcc) X G h fun _ _ _ _ _ _ _ hr nd=>(zaf (zmE (zao zex hr (zaa (zab 0) zae) (hlen:=(zac zah))) (za4 rfl (zam (zak 1 nd) (zam (zak 2 nd) (zam (zak 3 nd) zaI)))))
  (zaf (zmE (zao zbm hr (zaa (zab 0) zae) (hlen := (zac zah))) (za4 rfl (zam (zak 4 nd) (zam (zak 5 nd) (zam (zak 6 nd) zaI)))))
  (zaf (zmE (zao zcy hr (zaa (zab 0) zae) (hlen := (zac zah))) (za4 rfl (zam (zak 7 nd) (zam (zak 8 nd) (zam (zak 9 nd) zaI)))))
  (zaf (zed (STw.st (znr (zmY hr.units (zo1 hr.units (zab 1) (zaO zae)) (zo1 hr.units (zab 4) zag)) (zjC (zm0 (zao zaS hr (zaa (zab 0) (zaa (zab 2) zae)) (hlen := (zac (zac zah)))) (zce 1 bn.len')))))
  (zal (zaB zll))
  za6)
  (zaf (zed (STw.st (znr (zlJ (zao zaS hr (zaa (zab 0) (zaa (zab 5) zae)) (hlen := (zac (zac zah)))) (zce 1 bn.len')) (zjC (zlJ (zao zaS hr (zaa (zab 0) (zaa (zab 8) zae)) (hlen := (zac (zac zah)))) (zce 1 bn.len')))))
  (zal (zaB zll))
  za6)
  (zaf (zas 10 (zl4 rfl bn.max' (zaa (SO.se (zcU [] 2 ["a", "b"] rfl (zeG bn.zip' (zaa (zao zaZ hr (zaa (zab 2) (zaa zag zae)) (hlen := (zac (zac zah)))) (zaa (zaj 0 zag) zae))) (fun C s H fp => (za4 rfl (zam (zak 0 ndk) (zam (zak 1 ndk) zaI)))) (fun C s H fp => zay) (fun C s H fp => (se_abs bn.abs' (zaa (zbh (zab 0) (zab 1)) zae))))) zae)) nd)
  (zal (zaB (se_and (se_ge (zao zeH hr (zaa (zab 0) (zaa (zab 2) zae)) (hlen:=(zac (zac zah)))) (zab 4)) (se_one (se_ge (zab 10) (zab 7))))))))))))
noncomputable abbrev zkF:Stmt:=top 66
noncomputable def zmq:MS:=
 (sSeq (zgm 2 (zlB zdo (zad (zax zeg (zad (eVar 0) aNil)) (zad (eVar 1) aNil))))
  (sIf (tOrM (zoQ (tTru (zax zbl (zad (za3 zbu 2 aNil) aNil)))) (zoQ (tTru (zax zaY (zad (za3 zbi 2 aNil) aNil)))))
  (sRet (eC (.bl false)))
  zdr))
noncomputable def zmp:MS:=
 sFor (iR1 (zad (eC (.int 2)) aNil)) (gN 1) zmq
noncomputable def m_law:MS:=
 (sSeq zmp
  (sRet (eC (.bl true))))
noncomputable def zk1:List D->Option Sl:=fP 3 m_law
theorem ok_law (zcX:FD P w K mg base 3 "_law_any_line" (spM K 1 zbu))(zfN:FD P w K mg base 1 "_law_deal" (spP K 2 zdo))(zgR:FD P w K mg base 1 "_law_two" (spP K 1 zeg))(zcp:FD P w K mg base 7 "_law_two_right" (spP K 1 zbl))(zcA:FD P w K mg base 3 "_law_twos_line" (spM K 1 zbi))(zbQ:FD P w K mg base 8 "_law_wrong_right" (spP K 1 zaY))(F:Fun K "law" "law" zkF f fd):FnOk P w K mg base CX0 9 f fd ["script"] (spP K 1 zk1):=
 lawP (N:=["script","k","pot"]) (k:=8) (n:=1) (m:=m_law) F fun _ _ _ _ _ _ _ hr nd=>(zaf (zbE PassesOwn.never rfl (zaD bn.range' (zaa zag zae)) (zak 1 nd)
  (zaf (zcd 2 (zi9 zfN hr (zaa (zao zgR hr (zaa (zab 0) zae) (hlen := (zac zah))) (zaa (zab 1) zae)) (hlen := (zac (zac zah)))) nd)
  (zal (zed (STw.st (znr (zob (zin (zao zcp hr (zaa (zaE 2 zcX hr zae (zcT zah)) zae) (hlen := (zac zah))))) (zjC (zob (zin (zao zbQ hr (zaa (zaE 2 zcA hr zae (zcT zah)) zae) (hlen := (zac zah))))))))
  (zal (zaB zll))
  za6))))
  (zal (zaB zll)))
end
set_option maxHeartbeats 0 in
theorem all_mk {l:W.OpenLaw}{w:World}{K:W.Frag}{h:Heap}{mg:Str->Option Value}{fa:Addr}(X:K.In h)(G:h.Ns mainGlobals mg)(hfa:mg "law"=some (.ref fa))
  (h1:FnAt K "line_sums" zh8)
  (h2:FnAt K "greatest_shifts" zdA)
  (h3:FnAt K "falling_loop" zfT)
  (h4:FnAt K "changes_of" zhu)
  (h5:FnAt K "place_counts" zge)
  (h6:FnAt K "place_most" zhC)
  (h7:FnAt K "signs_worth" zgB)
  (h8:FnAt K "grown_worths" zfY)
  (h9:FnAt K "worthiest_signs" zdJ)
  (h10:FnAt K "place_ties" zhw)
  (h11:FnAt K "row_by_cuts" zgz)
  (h12:FnAt K "signs_ties" zhb)
  (h13:FnAt K "line_change" zgL)
  (h14:FnAt K "numbers_many" zfy)
  (h15:FnAt K "step_walk" zic)
  (h16:FnAt K "steps_of" ziX)
  (h17:FnAt K "walks_of" ziP)
  (h18:FnAt K "more_of" zjp)
  (h19:FnAt K "one_sum_on" zhp)
  (h20:FnAt K "least_mean" zha)
  (h21:FnAt K "least_far" zh9)
  (h22:FnAt K "far_ties" ziv)
  (h23:FnAt K "way_beyond" zg9)
  (h24:FnAt K "line_off" ziF)
  (h25:FnAt K "less_mores" zhD)
  (h26:FnAt K "head_spans" zhd)
  (h27:FnAt K "row_by_heads" zf0)
  (h28:FnAt K "places_asking" zeS)
  (h29:FnAt K "heads_paper" zgq)
  (h30:FnAt K "least_heads" zgP)
  (h31:FnAt K "mores_of" zi8)
  (h32:FnAt K "low_asks" ziT)
  (h33:FnAt K "high_asks" zig)
  (h34:FnAt K "rest_spans" zhk)
  (h35:FnAt K "row_of" zkS)
  (h36:FnAt K "line_paper" zhi)
  (h37:FnAt K "fitted_line" zgN)
  (h38:FnAt K "stretch_line" zfR)
  (h39:FnAt K "stretch_fits" zfo)
  (h40:FnAt K "short_stretches" zds)
  (h41:FnAt K "part_row" zi3)
  (h42:FnAt K "row_without" zgK)
  (h43:FnAt K "twos_wrong" zht)
  (h44:FnAt K "_law_deal" zid)
  (h45:FnAt K "_law_take" zia)
  (h46:FnAt K "_law_sums" zh5)
  (h47:FnAt K "_law_line" zh7)
  (h48:FnAt K "_law_far_line" zeU)
  (h49:FnAt K "_law_any_line" zfd)
  (h50:FnAt K "_law_two" ziY)
  (h51:FnAt K "_law_twos_line" zea)
  (h52:FnAt K "_law_unlike_many" zdq)
  (h53:FnAt K "_law_two_right" zem)
  (h54:FnAt K "_law_wrong_right" zdd)
  (h55:FnAt K "law" zkF)
  (z0:W.nsIn K mainGlobals "abs"=some none) (z1:W.nsIn K mainGlobals "enumerate"=some none) (z2:W.nsIn K mainGlobals "len"=some none) (z3:W.nsIn K mainGlobals "list"=some none) (z4:W.nsIn K mainGlobals "max"=some none) (z5:W.nsIn K mainGlobals "min"=some none) (z6:W.nsIn K mainGlobals "range"=some none) (z7:W.nsIn K mainGlobals "sum"=some none) (z8:W.nsIn K mainGlobals "tuple"=some none) (z9:W.nsIn K mainGlobals "zip"=some none) {zlC:Addr} (zlk:W.nsIn K mainGlobals "SIGNS"=some (some (.ref zlC))) {od_SIGNS:Option Addr} {sl_SIGNS:Array (Option Value)} {m_SIGNS:Nat} {tk0_SIGNS tk1_SIGNS tk2_SIGNS:Tok} (zjR:K.lookup zlC=some ⟨.type "tuple",od_SIGNS,.seq #[.int (-1) tk0_SIGNS,.int (0) tk1_SIGNS,.int (1) tk2_SIGNS] m_SIGNS,sl_SIGNS⟩):
  ∃fd:FuncData,(∀(s:Shared) (v:Value),BindsTo s fd ⟨[v],[]⟩ [("script",v)])/\∀base:Heap,K.In base->base.Ns mainGlobals mg->FnOk l.prog w K mg base CX0 9 fa fd ["script"] (spP K 1 zk1):=by
 have bn:BN K mg:=⟨W.mg_none_of X G z0,W.mg_none_of X G z1,W.mg_none_of X G z2,W.mg_none_of X G z3,W.mg_none_of X G z4,W.mg_none_of X G z5,W.mg_none_of X G z6,W.mg_none_of X G z7,W.mg_none_of X G z8,W.mg_none_of X G z9,⟨zlC,W.mg_of X G zlk,fun _=> .inr ⟨_,_,_,zjR,rfl,rfl,show 3<=sizeLine by decide,(.cons ⟨_,rfl⟩ (.cons ⟨_,rfl⟩ (.cons ⟨_,rfl⟩ .nil)))⟩⟩⟩
 obtain⟨a,b,c,d,e,f,T⟩:=h55.law X G hfa
 refine⟨W.fnOf "law" "law" (zfZ zkF) (zcY zkF) (zaP zkF) .none a b c d e f,fun s v=> .of_eq rfl,fun base _ _=>?_⟩
 have zaZ:=zkA (P:=l.prog) (w:=w) (base:=base) X G bn h1
 have zaQ:=zg8 (P:=l.prog) (w:=w) (base:=base) X G bn h2
 have zdj:=zi0 (P:=l.prog) (w:=w) (base:=base) X G bn h3
 have zeH:=zkf (P:=l.prog) (w:=w) (base:=base) X G bn zaZ h4
 have za9:=ziW (P:=l.prog) (w:=w) (base:=base) X G bn h5
 have zby:=zj8 (P:=l.prog) (w:=w) (base:=base) X G bn h6
 have zdW:=zja (P:=l.prog) (w:=w) (base:=base) X G bn za9 zby h7
 have zc8:=ziU (P:=l.prog) (w:=w) (base:=base) X G bn zby h8
 have zcb:=zhh (P:=l.prog) (w:=w) (base:=base) X G bn zc8 h9
 have zeB:=zjF (P:=l.prog) (w:=w) (base:=base) X G bn h10
 have zbn:=zjf (P:=l.prog) (w:=w) (base:=base) X G bn zaQ h11
 have zeI:=zj9 (P:=l.prog) (w:=w) (base:=base) X G bn za9 zeB h12
 have zbm:=zjj (P:=l.prog) (w:=w) (base:=base) X G bn zbn zeI zdW zcb h13
 have zdc:=ziB (P:=l.prog) (w:=w) (base:=base) X G bn h14
 have zb2:=zkJ (P:=l.prog) (w:=w) (base:=base) X G bn h15
 have zbV:=zlK (P:=l.prog) (w:=w) (base:=base) X G bn zdc h16
 have zbs:=zlG (P:=l.prog) (w:=w) (base:=base) X G bn zb2 zbV h17
 have zgj:=zns (P:=l.prog) (w:=w) (base:=base) X G bn h18
 have zeJ:=zjH (P:=l.prog) (w:=w) (base:=base) X G bn zgj h19
 have zeM:=zjQ (P:=l.prog) (w:=w) (base:=base) X G bn h20
 have zfA:=zk2 (P:=l.prog) (w:=w) (base:=base) X G bn zeM zeJ zbs h21
 have zcn:=zlu (P:=l.prog) (w:=w) (base:=base) X G bn zbs h22
 have zeF:=zjL (P:=l.prog) (w:=w) (base:=base) X G bn zdj zcn zaQ zb2 zbV h23
 have zcy:=zlw (P:=l.prog) (w:=w) (base:=base) X G bn zcn zfA zbn zeF h24
 have zbC:=zj1 (P:=l.prog) (w:=w) (base:=base) X G bn h25
 have zbx:=zj7 (P:=l.prog) (w:=w) (base:=base) X G bn h26
 have zdb:=zi2 (P:=l.prog) (w:=w) (base:=base) X G bn h27
 have zbN:=zij (P:=l.prog) (w:=w) (base:=base) X G bn h28
 have zdK:=zji (P:=l.prog) (w:=w) (base:=base) X G bn zbx zbN h29
 have zd2:=zjd (P:=l.prog) (w:=w) (base:=base) X G bn h30
 have zbg:=zlp (P:=l.prog) (w:=w) (base:=base) X G bn h31
 have zct:=zl0 (P:=l.prog) (w:=w) (base:=base) X G bn zbC zbg h32
 have zb3:=zkP (P:=l.prog) (w:=w) (base:=base) X G bn zbC zbg h33
 have zeL:=zjJ (P:=l.prog) (w:=w) (base:=base) X G bn zbx zb3 zct h34
 have zi7:=zor (P:=l.prog) (w:=w) (base:=base) X G bn zbg zdb h35
 have zbB:=zki (P:=l.prog) (w:=w) (base:=base) X G bn zdK zb3 zct h36
 have zbo:=zjh (P:=l.prog) (w:=w) (base:=base) X G bn zd2 zbB zeL zi7 h37
 have zbc:=ziG (P:=l.prog) (w:=w) (base:=base) X G bn h38
 have zdh:=ziJ (P:=l.prog) (w:=w) (base:=base) X G bn zbB zbc h39
 have zck:=zhs (P:=l.prog) (w:=w) (base:=base) X G bn zdh h40
 have zgT:=zlN (P:=l.prog) (w:=w) (base:=base) X G bn zbo zbc h41
 have zdQ:=zje (P:=l.prog) (w:=w) (base:=base) X G bn zgT h42
 have zex:=zjG (P:=l.prog) (w:=w) (base:=base) X G bn zdQ zck h43
 have zfN:=zkZ (P:=l.prog) (w:=w) (base:=base) X G bn h44
 have zap:=zlc (P:=l.prog) (w:=w) (base:=base) X G bn h45
 have zf6:=zkp (P:=l.prog) (w:=w) (base:=base) X G bn h46
 have zbY:=zkG (P:=l.prog) (w:=w) (base:=base) X G bn zf6 zap h47
 have zcZ:=zil (P:=l.prog) (w:=w) (base:=base) X G bn zap h48
 have zcX:=zii (P:=l.prog) (w:=w) (base:=base) X G bn zcZ zbY zap h49
 have zgR:=zlo (P:=l.prog) (w:=w) (base:=base) X G bn h50
 have zcA:=zhO (P:=l.prog) (w:=w) (base:=base) X G bn zbY zap h51
 have zaS:=zgY (P:=l.prog) (w:=w) (base:=base) X G bn zaZ h52
 have zcp:=zh3 (P:=l.prog) (w:=w) (base:=base) X G bn zbo zbm zcy h53
 have zbQ:=zg2 (P:=l.prog) (w:=w) (base:=base) X G bn zaS zeH zbm zcy zaZ zex h54
 exact ok_law X G bn zcX zfN zgR zcp zcA zbQ T
theorem walk {l:W.OpenLaw}{q:Program}{loose:List Str}{XP:(Str->Option Value)->Heap->Prop}{YP:World->Heap->Prop}{d:DefRec}{K:Params->W.Frag}(hn:l.most=some 63)(hdf:d.params.defaults=[])
  (hm:∀ns:List Int,ns.length<=63->zk1 [.scr ns]=some (.val (.bl true)))
  (hY:∀(w:World) (h:Heap),YP w h->(K w.params).In h)
  (F : ∀ (w : World) (mg : Str -> Option Value) (fa : Addr) (h : Heap), (K w.params).In h -> h.Ns mainGlobals mg -> mg d.name = some (.ref fa) ->
   ∃fd:FuncData,(∀(s:Shared) (u:Value),BindsTo s fd ⟨[u],[]⟩ [("script",u)])/\∀base:Heap,(K w.params).In base->base.Ns mainGlobals mg->FnOk l.prog w (K w.params) mg base CX0 9 fa fd ["script"] (spP (K w.params) 1 zk1)):
  W.WalkO q loose XP YP l.row.toRowW d [] (fun f vs=>PySem.call f vs):=
 L2.walk_of (n:=63) (k:=9) (x:="script") (CX:=fun _=>CX0) (sp:=fun w=>spP (K w.params) 1 zk1) hn (by decide) hdf ⟨rfl,by decide,by decide,rfl⟩ hY F
  (fun w H a ns hl _ hS=>⟨H,[.scr ns],.val (.bl true),hm ns hl,rfl,Fz.refl H,.cons ⟨a,rfl,hS⟩ .nil,fun _ _ _ _ _ _ _ rr=>rr⟩) fun _ _ _ _ _ z=>z
end Prf
set_option exponentiation.threshold 5000
namespace Prf
open L2 M PySem
variable {i j q s n v a c b N p k m e:Nat} {t y x F F':Int} {d:Nat->Option Int} {u:Nat->Option Nat} {ts qs us:Nat->Nat} {o:Option Int} {S X L G lo hi r h:Nat->Int} {Q:Fl×R->Prop} {ds:List D} {w:List Int} {ks:List (List Int)}
noncomputable def ckf (m t j q:Nat):Nat:=if q<j then t*m+q+1 else t*m+q+1-m
noncomputable def upf {α:Type}(f:Nat->α)(i:Nat)(x:α):Nat->α:=fun j=>if j=i then x else f j
theorem zaV {α:Type}(f:Nat->α)(i:Nat)(x:α):upf f i x i=x:=if_pos rfl
theorem zaC {α:Type}(f:Nat->α)(x:α)(h:j≠i):upf f i x j=f j:=if_neg h
section
variable {m n:Nat} {tl tu:Nat->Nat} {ta:Nat->Int}
noncomputable def Kept (tl tu:Nat->Nat)(ta:Nat->Int)(d:Nat->Option Int)(q:Nat):Prop:=∀y,d (tu q)=some y->∃x,d (tl q)=some x/\x<=y+ta q
structure BI (m:Nat) (tl tu:Nat->Nat) (ta:Nat->Int) (s t j:Nat) (d:Nat->Option Int) (u:Nat->Option Nat) (ts:Nat->Nat):Prop where
 le:∀v,ts v<=t*m+j
 st:∃x,d s=some x
 inj:∀v w,0<ts v->ts v=ts w->v=w
 un:∀l,0<ts l->∃q,q<m/\tl q=l/\u l=some (tu q)/\∃x y,d l=some x/\d (tu q)=some y/\y+ta q<=x/\(ts l<ts (tu q)->y+ta q<x)/\(m<ts l->ts l+1<=ts (tu q)+m)
 ck:∀q,q<m->0<ckf m t j q->ckf m t j q<ts (tu q)\/Kept tl tu ta d q
theorem zjY {t j q:Nat}(h:q≠j):ckf m t (j+1) q=ckf m t j q:=by
 unfold ckf
 by_cases z:q<j
 ·rw[if_pos z,if_pos (by lia)]
 ·rw[if_neg z,if_neg (by lia)]
theorem ckf_le {t j q:Nat}(hq:q<m):ckf m t j q<=t*m+j:=by
 unfold ckf
 split<;>lia
theorem BI.keep {s t j:Nat}(b:BI m tl tu ta s t j d u ts)(k:Kept tl tu ta d j):BI m tl tu ta s t (j+1) d u ts where
 le:=fun v=>by have:=b.le v;lia
 st:=b.st
 inj:=b.inj
 un:=b.un
 ck:=fun q hq h=>by
  by_cases e:q=j
  ·subst e;exact .inr k
  ·rw[zjY e]at h ⊢;exact b.ck q hq h
theorem BI.change {s t j:Nat}(b:BI m tl tu ta s t j d u ts)(hj:j<m)(ne:tl j≠tu j)(hy:d (tu j)=some y)(hx:∀x,d (tl j)=some x->y+ta j<x):
  BI m tl tu ta s t (j+1) (upf d (tl j) (some (y+ta j))) (upf u (tl j) (some (tu j))) (upf ts (tl j) (t*m+j+1)) where
 le:=fun v=>by
  by_cases e:v=tl j
  ·rw[e,zaV];lia
  ·rw[zaC _ _ e];have:=b.le v;lia
 st:=by
  obtain⟨x,h⟩:=b.st
  by_cases e:s=tl j
  ·exact⟨_,by rw[e,zaV]⟩
  ·exact⟨x,by rw[zaC _ _ e];exact h⟩
 inj:=fun v w h e=>by
  have lv:=b.le v
  have lw:=b.le w
  by_cases ev:v=tl j
  ·by_cases ew:w=tl j
   ·rw[ev,ew]
   ·rw[ev,zaV,zaC _ _ ew]at e;lia
  ·by_cases ew:w=tl j
   ·rw[ew,zaV,zaC _ _ ev]at e;lia
   ·rw[zaC _ _ ev]at h e;rw[zaC _ _ ew]at e;exact b.inj v w h e
 un:=fun l h=>by
  by_cases e:l=tl j
  ·subst e
   refine⟨j,hj,rfl,zaV _ _ _,y+ta j,y,zaV _ _ _,by rw[zaC _ _ ne.symm];exact hy,Int.le_refl _,fun z=>?_,fun z=>?_⟩
   ·rw[zaV,zaC _ _ ne.symm]at z
    have:=b.le (tu j)
    lia
   ·rw[zaV]at z ⊢
    rw[zaC _ _ ne.symm]
    have e1:ckf m t j j=t*m+j+1-m:=by unfold ckf;rw[if_neg (by lia)]
    rcases b.ck j hj (by rw[e1];lia)with c|c
    ·rw[e1]at c;lia
    ·obtain⟨x,h1,h2⟩:=c y hy
     have:=hx x h1
     lia
  ·rw[zaC _ _ e]at h
   obtain⟨q,hq,eq,eu,x,y',h1,h2,h3,h4,h5⟩:=b.un l h
   refine⟨q,hq,eq,by rw[zaC _ _ e];exact eu,?_⟩
   by_cases z:tu q=tl j
   ·have lt:=hx y' (by rw[<-z];exact h2)
    refine⟨x,y+ta j,by rw[zaC _ _ e];exact h1,by rw[z,zaV],by lia,fun _=>by lia,fun g=>?_⟩
    rw[zaC _ _ e]at g ⊢
    have:=h5 g
    have:=b.le (tu q)
    rw[z,zaV]
    lia
   ·refine⟨x,y',by rw[zaC _ _ e];exact h1,by rw[zaC _ _ z];exact h2,h3,fun g=>?_,fun g=>?_⟩
    ·rw[zaC _ _ e,zaC _ _ z]at g;exact h4 g
    ·rw[zaC _ _ e]at g ⊢;rw[zaC _ _ z];exact h5 g
 ck:=fun q hq h=>by
  by_cases z:tu q=tl j
  ·by_cases e:q=j
   ·subst e;exact absurd z.symm ne
   ·left
    rw[zjY e,z,zaV]
    have:=ckf_le (t:=t) (j:=j) hq
    lia
  ·have sat:Kept tl tu ta d q->Kept tl tu ta (upf d (tl j) (some (y+ta j))) q:=fun k y' hy'=>by
    rw[zaC _ _ z]at hy'
    obtain⟨x,h1,h2⟩:=k y' hy'
    by_cases g:tl q=tl j
    ·refine⟨y+ta j,by rw[g,zaV],?_⟩
     have:=hx x (by rw[<-g];exact h1)
     lia
    ·exact⟨x,by rw[zaC _ _ g];exact h1,h2⟩
   by_cases e:q=j
   ·subst e
    right
    intro y' hy'
    rw[zaC _ _ z,hy]at hy'
    cases hy'
    exact⟨_,zaV _ _ _,Int.le_refl _⟩
   ·rw[zjY e]at h ⊢
    rw[zaC _ _ z]
    exact(b.ck q hq h).imp id sat
theorem BI.turn {s t:Nat}(b:BI m tl tu ta s t m d u ts):BI m tl tu ta s (t+1) 0 d u ts where
 le:=fun v=>by have:=b.le v;rw[Nat.add_mul];lia
 st:=b.st
 inj:=b.inj
 un:=b.un
 ck:=fun q hq h=>by
  have e:ckf m (t+1) 0 q=ckf m t m q:=by
   unfold ckf
   rw[if_neg (by lia),if_pos hq,Nat.add_mul]
   lia
  rw[e]at h ⊢
  exact b.ck q hq h
theorem BI.start:BI m tl tu ta s 0 0 (fun v=>if v=s then some 0 else none) (fun _=>none) (fun _=>0) where
 le:=fun v=>by lia
 st:=⟨0,if_pos rfl⟩
 inj:=fun v w h=>by lia
 un:=fun l h=>by lia
 ck:=fun q hq h=>by
  unfold ckf at h
  rw[if_neg (by lia)]at h
  lia
theorem BI.kept {s t:Nat}(b:BI m tl tu ta s (t+1) 0 d u ts)(h:∀v,ts v<=t*m)(hq:q<m):Kept tl tu ta d q:=by
 have e:ckf m (t+1) 0 q=t*m+q+1:=by unfold ckf;rw[if_neg (by lia),Nat.add_mul];lia
 rcases b.ck q hq (by lia)with c|c
 ·have:=h (tu q);lia
 ·exact c
end
noncomputable def back (u:Nat->Option Nat)(l:Nat):Nat->Nat
 |0=>l
 |i+1=>(u (back u l i)).getD 0
theorem zcD (u:Nat->Option Nat)(l i:Nat):∀j,back u (back u l i) j=back u l (i+j)
 |0=>rfl
 |j+1=>by
  show(u (back u (back u l i) j)).getD 0=(u (back u l (i+j))).getD 0
  rw[zcD u l i j]
theorem fewN:∀(c:Nat) (ks:List Nat),ks.Nodup->(∀x,x∈ks->x<c)->ks.length<=c
 |0,[],_,_=>by simp
 |0,x::ks,_,h=>by have:=h x (by simp);lia
 |c+1,ks,nd,h=>by
  by_cases q:c∈ks
  ·have ih:=fewN c (ks.erase c) (nd.erase _) fun x hx=>by
    have hm:=(nd.mem_erase_iff).mp hx
    have:=h x hm.2
    have:=hm.1
    lia
   rw[List.length_erase_of_mem q]at ih
   lia
  ·have:=fewN c ks nd fun x hx=>by
    have:=h x hx
    have:x≠c:=fun z=>q (z ▸ hx)
    lia
   lia
theorem pigeon {f:Nat->Nat}(h:∀i,i<=n->f i<n):∃i j,i<j/\j<=n/\f i=f j:=by
 apply Classical.byContradiction
 intro no
 have nd:((List.range (n+1)).map f).Nodup:=by
  rw[List.nodup_iff_pairwise_ne,List.pairwise_map]
  refine(List.Pairwise.and_mem.mp List.pairwise_lt_range).imp fun{a b} hh e=>no ⟨a,b,hh.2.2,?_,e⟩
  have:=List.mem_range.mp hh.2.1
  lia
 have:=fewN n _ nd fun x hx=>by
  obtain⟨i,hi,rfl⟩:=List.mem_map.mp hx
  exact h i (by have:=List.mem_range.mp hi;lia)
 rw[List.length_map,List.length_range]at this
 lia
section
variable {m n:Nat} {tl tu:Nat->Nat} {ta:Nat->Int} {s:Nat} {d:Nat->Option Int} {u:Nat->Option Nat} {ts:Nat->Nat} {l:Nat}
theorem BI.next (b:BI m tl tu ta s n 0 d u ts)(h:0<ts v):∃q,q<m/\tl q=v/\tu q=(u v).getD 0:=by
 obtain⟨q,hq,e,eu,_⟩:=b.un v h
 exact⟨q,hq,e,by rw[eu];rfl⟩
theorem BI.live (b:BI m tl tu ta s (n+1) 0 d u ts)(h:n*m<ts l):∀i,i<=n->n*m+1<=ts (back u l i)+i*(m-1)
 |0,_=>by show n*m+1<=ts l+0*(m-1);lia
 |i+1,hi=>by
  have ih:=BI.live b h i (by lia)
  have m1:1<=m:=by
   obtain⟨q,hq,_⟩:=b.un l (by lia)
   lia
  obtain⟨m',rfl⟩:∃m',m=m'+1:=⟨m-1,by lia⟩
  obtain⟨n',rfl⟩:∃n',n=n'+1:=⟨n-1,by lia⟩
  rw[Nat.add_sub_cancel]at ih ⊢
  have le:i*m'<=n'*m':=Nat.mul_le_mul_right _ (by lia)
  have e1:(n'+1)*(m'+1)=n'*m'+m'+n'+1:=by rw[Nat.add_mul,Nat.mul_add];lia
  obtain⟨q,hq,e,eu,x,y,_,_,_,_,h5⟩:=b.un (back u l i) (by lia)
  have h6:=h5 (by lia)
  have e2:back u l (i+1)=tu q:=by show(u (back u l i)).getD 0=_;rw[eu];rfl
  have e3:(i+1)*m'=i*m'+m':=Nat.succ_mul i m'
  rw[e2]
  lia
theorem BI.all (b:BI m tl tu ta s (n+1) 0 d u ts)(h:n*m<ts l)(hl:∀q,q<m->tl q<n+1)(hu:∀q,q<m->tu q<n+1):
  (∀t,0<ts (back u l t))/\∃p,1<=p/\p<=n+1/\back u l (n+1+p)=back u l (n+1):=by
 have pos:∀i,i<=n->0<ts (back u l i):=fun i hi=>by
  have:=b.live h i hi
  have m1:1<=m:=by
   obtain⟨q,hq,_⟩:=b.un l (by lia)
   lia
  obtain⟨m',rfl⟩:∃m',m=m'+1:=⟨m-1,by lia⟩
  rw[Nat.add_sub_cancel]at this
  have le:i*m'<=n*m':=Nat.mul_le_mul_right _ hi
  rw[Nat.mul_add]at this
  lia
 have lt:∀i,i<=n+1->back u l i<n+1:=fun i hi=>by
  cases i with
  |zero=>
   obtain⟨q,hq,e,_⟩:=b.next (pos 0 (by lia))
   have:=hl q hq
   rw[e]at this;exact this
  |succ i=>
   obtain⟨q,hq,_,e⟩:=b.next (pos i (by lia))
   have:=hu q hq
   rw[e]at this;exact this
 obtain⟨i,j,hij,hj,e⟩:=pigeon lt
 have per:∀t,back u l (i+t)=back u l (j+t):=fun t=>by rw[<-zcD,<-zcD,e]
 refine⟨fun t=>?_,j-i,by lia,by lia,?_⟩
 ·induction t using Nat.strongRecOn with
  |_ t ih=>
   by_cases z:t<j
   ·exact pos t (by lia)
   ·have:=per (t-j)
    rw[show j+(t-j)=t by lia]at this
    rw[<-this]
    exact ih _ (by lia)
 ·have:=per (n+1-i)
  rw[show i+(n+1-i)=n+1 by lia,show j+(n+1-i)=n+1+(j-i) by lia]at this
  exact this.symm
theorem least_p {P:Nat->Prop}:∀p,P p->∃c,P c/\c<=p/\∀i,i<c->¬P i:=by
 intro p
 induction p using Nat.strongRecOn with
 |_ p ih=>
  intro h
  by_cases z:∃i,i<p/\P i
  ·obtain⟨i,hi,hP⟩:=z
   obtain⟨c,h1,h2,h3⟩:=ih i hi hP
   exact⟨c,h1,by lia,h3⟩
  ·exact⟨p,h,Nat.le_refl p,fun i hi hP=>z ⟨i,hi,hP⟩⟩
structure Round (m:Nat) (tl tu:Nat->Nat) (ta:Nat->Int) (u:Nat->Option Nat) (a c:Nat) (qs:Nat->Nat):Prop where
 pos:1<=c
 home:back u a c=a
 first:∀i,1<=i->i<c->back u a i≠a
 tie:∀i,i<c->qs i<m/\tl (qs i)=back u a i/\tu (qs i)=back u a (i+1)
 neg:sumR c (fun i=>ta (qs i))<0
theorem Round.apart (r:Round m tl tu ta u a c qs)(hij:i<j)(hj:j<c):back u a i≠back u a j:=fun e=>by
 have h1:=zcD u a i (c-j)
 have h2:=zcD u a j (c-j)
 rw[show j+(c-j)=c by lia,r.home]at h2
 rw[e,h2]at h1
 exact r.first (i+(c-j)) (by lia) (by lia) h1.symm
theorem BI.round (b:BI m tl tu ta s (n+1) 0 d u ts)(h:n*m<ts l)(hl:∀q,q<m->tl q<n+1)(hu:∀q,q<m->tu q<n+1)(ne:∀q,q<m->tl q≠tu q):
  ∃c qs,c<=n+1/\Round m tl tu ta u (back u l (n+1)) c qs:=by
 obtain⟨pos,p,p1,p2,ep⟩:=b.all h hl hu
 obtain⟨c,⟨c1,ec⟩,cp,cm⟩:=least_p (P:=fun c=>1<=c/\back u l (n+1+c)=back u l (n+1)) p ⟨p1,ep⟩
 have pos':∀i,0<ts (back u (back u l (n+1)) i):=fun i=>by rw[zcD];exact pos _
 have un:∀i,∃q,q<m/\tl q=back u (back u l (n+1)) i/\tu q=back u (back u l (n+1)) (i+1)/\∃x y,d (back u (back u l (n+1)) i)=some x/\d (back u (back u l (n+1)) (i+1))=some y/\y+ta q<=x/\(ts (back u (back u l (n+1)) i)<ts (back u (back u l (n+1)) (i+1))->y+ta q<x):=fun i=>by
  obtain⟨q,hq,e,eu,x,y,h1,h2,h3,h4,_⟩:=b.un _ (pos' i)
  have e2:back u (back u l (n+1)) (i+1)=tu q:=by show(u (back u (back u l (n+1)) i)).getD 0=_;rw[eu];rfl
  rw[e2]
  exact⟨q,hq,e,rfl,x,y,h1,h2,h3,h4⟩
 let a:=back u l (n+1)
 let qs:Nat->Nat:=fun i=>(un i).choose
 have sp:=fun i=>(un i).choose_spec
 have home:back u a c=a:=by show back u (back u l (n+1)) c=_;rw[zcD];exact ec
 refine⟨c,qs,by lia,c1,home,fun i i1 ic e=>cm i ic ⟨i1,by rw[<-zcD];exact e⟩,fun i _=>⟨(sp i).1,(sp i).2.1,(sp i).2.2.1⟩,?_⟩
 let x:Nat->Int:=fun i=>(d (back u a i)).getD 0
 have step:∀i,x (i+1)+ta (qs i)<=x i/\(ts (back u a i)<ts (back u a (i+1))->x (i+1)+ta (qs i)<x i):=fun i=>by
  obtain⟨_,_,_,X,Y,h1,h2,h3,h4⟩:=sp i
  have e1:x i=X:=by show(d (back u (back u l (n+1)) i)).getD 0=X;rw[h1];rfl
  have e2:x (i+1)=Y:=by show(d (back u (back u l (n+1)) (i+1))).getD 0=Y;rw[h2];rfl
  rw[e1,e2]
  exact⟨h3,h4⟩
 obtain⟨i0,hi0,lt⟩:∃i,i<c/\ts (back u a i)<ts (back u a (i+1)):=by
  apply Classical.byContradiction
  intro no
  have dec:∀i,i<=c->ts (back u a i)<=ts a:=by
   intro i
   induction i with
   |zero=>intro _;exact Nat.le_refl _
   |succ i ih=>
    intro hi
    have:=ih (by lia)
    have:¬ts (back u a i)<ts (back u a (i+1)):=fun z=>no ⟨i,by lia,z⟩
    lia
  have inc:∀i,i<=c->ts a<=ts (back u a (c-i)):=by
   intro i
   induction i with
   |zero=>intro _;rw[Nat.sub_zero,home];exact Nat.le_refl _
   |succ i ih=>
    intro hi
    have h1:=ih (by lia)
    have h2:¬ts (back u a (c-(i+1)))<ts (back u a (c-(i+1)+1)):=fun z=>no ⟨_,by lia,z⟩
    rw[show c-(i+1)+1=c-i by lia]at h2
    lia
  have h1:=inc (c-1) (by lia)
  rw[show c-(c-1)=1 by lia]at h1
  have h2:=dec 1 c1
  have e:=b.inj (back u a 1) a (pos' 1) (by lia)
  obtain⟨q1,q2,q3,_⟩:=sp 0
  exact ne (qs 0) q1 (by rw[show tl (qs 0)=a from q2,show tu (qs 0)=back u a 1 from q3,e])
 have tele:∀i,sumR i (fun j=>ta (qs j))<=x 0-x i/\(i0<i->sumR i (fun j=>ta (qs j))<x 0-x i):=by
  intro i
  induction i with
  |zero=>exact⟨by show(0:Int)<=_;lia,fun z=>by lia⟩
  |succ i ih=>
   have st:=step i
   have e:sumR (i+1) (fun j=>ta (qs j))=sumR i (fun j=>ta (qs j))+ta (qs i):=rfl
   rw[e]
   refine⟨by lia,fun z=>?_⟩
   by_cases g:i0<i
   ·have:=ih.2 g;lia
   ·have:i=i0:=by lia
    subst this
    have:=st.2 lt
    lia
 have:=(tele c).2 hi0
 have e0:x c=x 0:=by show(d (back u a c)).getD 0=(d a).getD 0;rw[home]
 lia
end
noncomputable def dO:Option Int->D
 |none=> .non
 |some x=> .int x
noncomputable def uO:Option Nat->D
 |none=> .non
 |some v=> .int (v:Nat)
theorem dO_n:dO none= .non:=rfl
theorem dO_s (x:Int):dO (some x)= .int x:=rfl
noncomputable def tieL (m:Nat)(tl tu:Nat->Nat)(ta:Nat->Int):List D:=wL m fun q=> .tup [.int (tl q:Nat),.int (tu q:Nat),.int (ta q)]
theorem zjw (f:Nat->D)(x:D)(h:i<n):(wL n f).set i x=wL n (upf f i x):=by
 apply List.ext_getElem?
 intro j
 rw[List.getElem?_set]
 by_cases e:i=j
 ·subst e
  rw[if_pos rfl,if_pos (by rw[zaT];exact h),zat _ h,zaV]
 ·rw[if_neg e]
  by_cases hj:j<n
  ·rw[zat _ hj,zat _ hj,zaC _ _ (Ne.symm e)]
  ·rw[List.getElem?_eq_none (by rw[zaT];lia),List.getElem?_eq_none (by rw[zaT];lia)]
theorem zmn (d:Nat->Option Int)(i:Nat)(x:Int):upf (fun v=>dO (d v)) i (.int x)=fun v=>dO (upf d i (some x) v):=by
 funext v
 unfold upf
 split<;>rfl
theorem uO_put (d:Nat->Option Nat)(i x:Nat):upf (fun v=>uO (d v)) i (.int (x:Nat))=fun v=>uO (upf d i (some x) v):=by
 funext v
 unfold upf
 split<;>rfl
theorem zoA (n:Nat)(x:D):(List.replicate n [x]).flatten=wL n fun _=>x:=by
 induction n with
 |zero=>rfl
 |succ n ih=>rw[List.replicate_succ',List.flatten_append,ih,zdL];rfl
section
variable {m n:Nat} {tl tu:Nat->Nat} {ta:Nat->Int} {s:Nat}
noncomputable def Shifts (m n:Nat)(tl tu:Nat->Nat)(ta:Nat->Int)(s:Nat)(d:Nat->Option Int)(u:Nat->Option Nat)(f:Option Nat):Prop:=
 ∃ts,BI m tl tu ta s n 0 d u ts/\((f=none/\∀v,ts v<=(n-1)*m)\/∃l,f=some l/\(n-1)*m<ts l)
theorem zkX (n1:1<=n)(n9:n<=1000)(hs:s<n)(hl:∀q,q<m->tl q<n)(hu:∀q,q<m->tu q<n)(ne:∀q,q<m->tl q≠tu q):
  Ok (zaM [.lst (tieL m tl tu ta),.int n,.int s]) fun x=>∃d u f,Shifts m n tl tu ta s d u f/\x= .val (.tup [.lst (wL n fun v=>dO (d v)),.lst (wL n fun v=>uO (u v)),uO f]):=by
 have e0:upf (fun _=>D.non) s (.int 0)=fun v=>dO ((fun v=>if v=s then some 0 else none) v):=by
  funext v
  unfold upf
  (try dsimp only)
  split<;>rfl
 simp! only[↓zaM,↓zcv,zoA,↓zc4]
 rw[zjw _ _ hs,e0]
 have sm:zci (n:Int)=true:=zaA (by lia) (by lia)
 refine⟨⟨sm,by lia⟩,hs,⟨sm,by lia⟩,sm,zbG (fun t ρ=>∃(d:Nat->Option Int) (u:Nat->Option Nat) (f:Option Nat) (ts:Nat->Nat) (s6 s7 s8 s9:Sl),BI m tl tu ta s t 0 d u ts/\((f=none/\∀v,ts v<=(t-1)*m)\/∃l,f=some l/\(t-1)*m<ts l)/\ρ=[.val (.lst (tieL m tl tu ta)),.val (.int n),.val (.int s),.own (wL n fun v=>dO (d v)),.own (wL n fun v=>uO (u v)),.val (uO f),s6,s7,s8,s9]) ⟨_,fun _=>none,none,fun _=>0,_,_,_,_,BI.start,.inl ⟨rfl,fun v=>Nat.zero_le _⟩,rfl⟩ ?_ ?_⟩
 ·rintro t _ ht ⟨d,u,f,ts,s6,s7,s8,s9,b,-,rfl⟩
  simp! only[↓zc1,↓zc3,tieL]
  refine zbG (fun j ρ=>∃(d:Nat->Option Int) (u:Nat->Option Nat) (f:Option Nat) (ts:Nat->Nat) (s7 s8 s9:Sl),BI m tl tu ta s t j d u ts/\((f=none/\∀v,ts v<=t*m)\/∃l,f=some l/\t*m<ts l)/\ρ=[.val (.lst (tieL m tl tu ta)),.val (.int n),.val (.int s),.own (wL n fun v=>dO (d v)),.own (wL n fun v=>uO (u v)),.val (uO f),.val (.int t),s7,s8,s9]) ⟨d,u,none,ts,_,_,_,b,.inl ⟨rfl,fun v=>by have:=b.le v;lia⟩,rfl⟩ ?_ ?_
  ·rintro j _ hj ⟨d,u,f,ts,s7,s8,s9,b,hf,rfl⟩
   have a1:=hl j hj
   have a2:=hu j hj
   simp! only[↓zc5,zat _ a1,zat _ a2]
   cases hy:d (tu j)with
   |none=>
    have k:Kept tl tu ta d j:=fun y e=>by rw[hy]at e;cases e
    simp! only[dO_n]
    exact⟨d,u,f,ts,_,_,_,b.keep k,hf,rfl⟩
   |some y=>
    have chg:(∀x,d (tl j)=some x->y+ta j<x)->∃(d':Nat->Option Int) (u':Nat->Option Nat) (f':Option Nat) (ts':Nat->Nat) (s7 s8 s9:Sl),BI m tl tu ta s t (j+1) d' u' ts'/\((f'=none/\∀v,ts' v<=t*m)\/∃l,f'=some l/\t*m<ts' l)/\[Sl.val (.lst (wL m fun q=> .tup [.int (tl q:Nat),.int (tu q:Nat),.int (ta q)])),.val (.int n),.val (.int s),.own ((wL n fun v=>dO (d v)).set (tl j) (.int (y+ta j))),.own ((wL n fun v=>uO (u v)).set (tl j) (.int (tu j:Nat))),.val (.int (tl j:Nat)),.val (.int t),.val (.int (tl j:Nat)),.val (.int (tu j:Nat)),.val (.int (ta j))]=[.val (.lst (tieL m tl tu ta)),.val (.int n),.val (.int s),.own (wL n fun v=>dO (d' v)),.own (wL n fun v=>uO (u' v)),.val (uO f'),.val (.int t),s7,s8,s9]:=fun hx=>by
     rw[zjw _ _ a1,zjw _ _ a1,zmn,uO_put]
     exact⟨_,_,some (tl j),_,.val (.int (tl j:Nat)),.val (.int (tu j:Nat)),.val (.int (ta j)),b.change hj (ne j hj) hy hx,.inr ⟨tl j,rfl,by rw[zaV];lia⟩,rfl⟩
    cases hx:d (tl j)with
    |none=>
     simp! only[dO_n,dO_s,zat _ a2,hy,a1,if_true]
     exact chg fun x e=>by rw[hx]at e;cases e
    |some x=>
     simp! only[dO_s,zat _ a2,zat _ a1,hy,hx,a1,if_true]
     exact⟨fun z=>chg fun x' e=>by rw[hx]at e;cases e;exact z,fun z=>⟨d,u,f,ts,_,_,_,b.keep fun y' e=>by rw[hy]at e;cases e;exact⟨x,hx,z⟩,hf,rfl⟩⟩
  ·rintro _ ⟨d,u,f,ts,s7,s8,s9,b,hf,rfl⟩
   simp! only[]
   exact⟨d,u,f,ts,_,_,_,_,b.turn,by simpa using hf,rfl⟩
 ·rintro _ ⟨d,u,f,ts,s6,s7,s8,s9,b,hf,rfl⟩
  simp! only[]
  cases f with
  |none=>simp! only[uO];exact⟨d,u,none,⟨ts,b,hf⟩,rfl⟩
  |some l=>simp! only[uO];exact⟨d,u,some l,⟨ts,b,hf⟩,rfl⟩
end
theorem zpe (i:Nat)(f:Nat->D):atI (wL (i+1) f) (-1)=some (f i):=by
 unfold atI ixN
 rw[if_neg (by lia),zaT,if_pos (by lia)]
 show(wL (i+1) f)[(((i+1:Nat):Int)+ -1).toNat]? =_
 rw[show(((i+1:Nat):Int)+ -1).toNat=i by lia,zat _ (by lia)]
section
variable {m n:Nat} {tl tu:Nat->Nat} {ta:Nat->Int} {s:Nat} {d:Nat->Option Int} {u:Nat->Option Nat} {ts:Nat->Nat} {l:Nat}
theorem loop_ok (b:BI m tl tu ta s (n+1) 0 d u ts)(h:n*m<ts l)(n9:n<=300)(hl:∀q,q<m->tl q<n+1)(hu:∀q,q<m->tu q<n+1)(ne:∀q,q<m->tl q≠tu q):
  Ok (zbM [.lst (wL (n+1) fun v=>uO (u v)),.int l]) fun x=>∃c qs,c<=n+1/\Round m tl tu ta u (back u l (n+1)) c qs/\x= .own (wI c fun i=>((back u (back u l (n+1)) i:Nat):Int)):=by
 obtain⟨c,qs,cn,R⟩:=b.round h hl hu ne
 obtain⟨pos,-⟩:=b.all h hl hu
 have nx:∀t,back u l t<n+1/\uO (u (back u l t))= .int ((back u l (t+1):Nat):Int):=fun t=>by
  obtain⟨q,hq,e,eu,_⟩:=b.un _ (pos t)
  refine⟨by rw[<-e];exact hl q hq,?_⟩
  show uO (u (back u l t))= .int (((u (back u l t)).getD 0:Nat):Int)
  rw[eu]
  rfl
 have sm:zci ((n+1:Nat):Int)=true:=zaA (by lia) (by lia)
 simp! only[↓zbM,↓zdV,↓zej]
 refine⟨sm,zbG (fun t ρ=>∃s3,ρ=[.val (.lst (wL (n+1) fun v=>uO (u v))),.val (.int l),.val (.int (back u l t:Nat)),s3,.emp]) ⟨_,rfl⟩ ?_ ?_⟩
 ·rintro t _ ht ⟨s3,rfl⟩
  simp! only[↓zei,zat _ (nx t).1,(nx t).2]
  exact⟨_,rfl⟩
 ·rintro _ ⟨s3,rfl⟩
  simp! only[↓zd8]
  have nx':∀i,back u (back u l (n+1)) i<n+1/\uO (u (back u (back u l (n+1)) i))= .int ((back u (back u l (n+1)) (i+1):Nat):Int):=fun i=>by
   rw[zcD,zcD]
   exact nx _
  generalize back u l (n+1)=a at R nx'
  have last:∀i,atI (wI (i+1) fun i=>((back u a i:Nat):Int)) (-1)=some (.int (back u a i:Nat)):=fun i=>by
   rw[zpe i]
  refine zmT (fun k ρ=>∃i,i<c/\k=c-1-i/\ρ=[.val (.lst (wL (n+1) fun v=>uO (u v))),.val (.int l),.val (.int (a:Nat)),s3,.own (wI (i+1) fun i=>((back u a i:Nat):Int))]) ?_ 400 (c-1) _ (by lia) ⟨0,R.pos,by lia,rfl⟩
  rintro k _ ⟨i,hi,rfl,rfl⟩
  simp! only[↓zes,last,zat _ (nx' i).1,(nx' i).2]
  refine⟨fun z=>⟨c-1-(i+1),?_,?_⟩,fun z=>⟨c,qs,cn,R,?_⟩⟩
  ·have:i+1≠c:=fun e=>z (by rw[e,R.home])
   lia
  ·have:i+1≠c:=fun e=>z (by rw[e,R.home])
   have ew:(wI (i+1) fun i=>((back u a i:Nat):Int))++[D.int (back u a (i+1):Nat)]=wI (i+1+1) fun i=>((back u a i:Nat):Int):=(zdL _ _).symm
   simp! only[↓zd6,last,zat _ (nx' i).1,(nx' i).2,ew]
   exact⟨by lia,i+1,by lia,rfl,rfl⟩
  ·have:i+1=c:=by
    by_cases e:i+1=c
    ·exact e
    ·exact absurd (by lia) (R.first (i+1) (by lia) (by lia))
   rw[this]
end
noncomputable abbrev zaz (k m n:Nat)(T L G:Nat->Int):D:= .tup [.int k,.tup (wI m T),.tup (wI n L),.tup (wI n G)]
noncomputable def absI (x:Int):Int:=if x<0 then-x else x
noncomputable def win (k:Nat)(r:Nat->Int)(i:Nat):Int:=sumR k fun j=>r (i+j)
theorem zit (X:Nat->Int)(i:Nat):∀k,win k (fun p=>X (p+1)-X p) i=X (i+k)-X i
 |0=>by show(0:Int)=_;rw[Nat.add_zero];lia
 |k+1=>by
  show win k (fun p=>X (p+1)-X p) i+(X (i+k+1)-X (i+k))=_
  rw[zit X i k,show i+(k+1)=i+k+1 by lia]
  lia
noncomputable abbrev Tt:=Nat×Nat×Int
noncomputable def tD (t:Tt):D:= .tup [.int (t.1:Nat),.int (t.2.1:Nat),.int t.2.2]
section
variable {k m n:Nat} {T L G s:Nat->Int} {ts:List Tt}
noncomputable def tAt (ts:List Tt)(q:Nat):Tt:=ts.getD q (0,0,0)
theorem znW (h:q<ts.length):tAt ts q∈ts:=by
 unfold tAt
 rw[List.getD_eq_getElem?_getD,List.getElem?_eq_getElem h]
 exact List.getElem_mem h
theorem ties_w (ts:List Tt):ts.map tD=tieL ts.length (fun q=>(tAt ts q).1) (fun q=>(tAt ts q).2.1) (fun q=>(tAt ts q).2.2):=by
 unfold tieL
 apply List.ext_getElem?
 intro q
 by_cases h:q<ts.length
 ·rw[zat _ h,List.getElem?_map,List.getElem?_eq_getElem h]
  have e:tAt ts q=ts[q]:=by unfold tAt;rw[List.getD_eq_getElem?_getD,List.getElem?_eq_getElem h];rfl
  (try dsimp only)
  rw[e]
  rfl
 ·rw[List.getElem?_eq_none (by rw[List.length_map];lia),List.getElem?_eq_none (by rw[zaT];lia)]
theorem znO (n9:n<=900)(hb:∀t,t∈ts->t.1<n+1/\t.2.1<n+1/\t.1≠t.2.1)(nr:∀(c:Nat) (v:Nat->Nat) (w:Nat->Int),v c=v 0->(∀i j,i<j->j<c->v i≠v j)->(∀i,i<c->(v i,v (i+1),w i)∈ts)->0<=sumR c w)
  (ch:∀p,p<n->∃a,(p+1,p,a)∈ts):Ok (za0 [.lst (ts.map tD),.int n]) fun x=>∃X:Nat->Int,(∀t,t∈ts->X t.1<=X t.2.1+t.2.2)/\x= .val (.tup (wI n fun p=>X (p+1)-X p)):=by
 have e1:(n:Int)+1=((n+1:Nat):Int):=by lia
 have at_:∀q,q<ts.length->tAt ts q∈ts:=fun q h=>znW h
 simp! only[↓za0,↓zeD,ties_w,e1]
 refine(zkX (s:=0) (by lia) (by lia) (by lia) (fun q hq=>(hb _ (at_ q hq)).1) (fun q hq=>(hb _ (at_ q hq)).2.1) (fun q hq=>(hb _ (at_ q hq)).2.2)).mono ?_
 rintro _ ⟨d,u,f,⟨us,b,hf⟩,rfl⟩
 have kept:∀q,q<ts.length->Kept (fun q=>(tAt ts q).1) (fun q=>(tAt ts q).2.1) (fun q=>(tAt ts q).2.2) d q:=fun q hq=>by
  rcases hf with⟨_,h⟩|⟨l,_,h⟩
  ·exact b.kept (t:=n) h hq
  ·exfalso
   obtain⟨c,qs,_,R⟩:=b.round h (fun q hq=>(hb _ (at_ q hq)).1) (fun q hq=>(hb _ (at_ q hq)).2.1) (fun q hq=>(hb _ (at_ q hq)).2.2)
   have:=nr c (fun i=>back u (back u l (n+1)) i) (fun i=>(tAt ts (qs i)).2.2) R.home (fun i j hij hj=>R.apart hij hj) fun i hi=>by
    obtain⟨h1,h2,h3⟩:=R.tie i hi
    (try dsimp only)
    rw[<-h2,<-h3]
    exact at_ _ h1
   have:=R.neg
   lia
 have kt:∀t,t∈ts->∀y,d t.2.1=some y->∃x,d t.1=some x/\x<=y+t.2.2:=fun t ht=>by
  obtain⟨q,hq,rfl⟩:=List.getElem_of_mem ht
  have:=kept q hq
  unfold Kept at this
  have e:tAt ts q=ts[q]:=by unfold tAt;rw[List.getD_eq_getElem?_getD,List.getElem?_eq_getElem hq];rfl
  (try dsimp only at this)
  rw[e]at this
  exact this
 have dv:∀v,v<=n->∃x,d v=some x:=fun v=>by
  induction v with
  |zero=>exact fun _=>b.st
  |succ v ih=>
   intro hv
   obtain⟨x,hx⟩:=ih (by lia)
   obtain⟨a,ha⟩:=ch v (by lia)
   obtain⟨y,hy,_⟩:=kt _ ha x hx
   exact⟨y,hy⟩
 have dX:∀v,v<=n->d v=some ((d v).getD 0):=fun v hv=>by
  obtain⟨x,hx⟩:=dv v hv
  rw[hx];rfl
 have sm:zci (n:Int)=true:=zaA (by lia) (by lia)
 simp! only[↓ze3]
 refine⟨sm,by lia,zaF (fun ρ=>∃a,ρ=[.val (.lst (wL (n+1) fun v=>dO (d v))),a]) (fun p=> .int ((d (p+1)).getD 0-(d p).getD 0)) ⟨_,rfl⟩ ?_ ?_⟩
 ·rintro p _ hp ⟨a,rfl⟩
  have e2:(p:Int)+1=((p+1:Nat):Int):=by lia
  have h1:=dX p (by lia)
  have h2:=dX (p+1) (by lia)
  simp! only[↓zeQ,e2,zat _ (show p<n+1 by lia),zat _ (show p+1<n+1 by lia)]
  rw[h1,h2]
  simp! only[dO_s]
  exact⟨by simp,_,rfl⟩
 ·rintro _ ⟨a,rfl⟩
  simp! only[]
  refine⟨fun v=>(d v).getD 0,fun t ht=>?_,rfl⟩
  obtain⟨h1,h2,_⟩:=hb t ht
  have e:=dX t.2.1 (by lia)
  obtain⟨x,hx,hl⟩:=kt t ht _ e
  (try dsimp only)
  rw[hx]
  exact hl
end
noncomputable def kS:Bool->Str
 |true=>"sum"
 |false=>"place"
theorem kS_sum (b:Bool):(kS b==("sum":Str))=b:=by cases b<;>decide+kernel
noncomputable abbrev Sp:=Bool×Nat×Bool
noncomputable def sD (s:Sp):D:= .tup [.str (kS s.1),.int (s.2.1:Nat),.bl s.2.2]
noncomputable abbrev cnt (m n:Nat)(b:Bool):Nat:=if b then m else n
noncomputable def spw (k:Nat)(T L G:Nat->Int):Sp->Tt
 |(true,i,true)=>(i,i+k,T i)
 |(true,i,false)=>(i+k,i,-T i)
 |(false,i,true)=>(i,i+1,L i)
 |(false,i,false)=>(i+1,i,-G i)
noncomputable def stL (b:Bool)(c:Nat):List Sp:=(List.range c).map (fun i=>(b,i,true))++(List.range c).map (fun i=>(b,c-1-i,false))
theorem zhU (b:Bool)(c:Nat):(stL b c).length=2*c:=by simp[stL];lia
theorem mem_stL {b:Bool}{s:Sp}:s∈stL b c↔s.1=b/\s.2.1<c:=by
 obtain⟨b',i,u⟩:=s
 simp only[stL,List.mem_append,List.mem_map,List.mem_range,Prod.mk.injEq]
 constructor
 ·rintro(⟨a,ha,rfl,rfl,rfl⟩|⟨a,ha,rfl,rfl,rfl⟩)
  ·exact⟨rfl,ha⟩
  ·exact⟨rfl,by lia⟩
 ·rintro⟨rfl,hi⟩
  cases u
  ·exact .inr ⟨c-1-i,by lia,rfl,by lia,rfl⟩
  ·exact .inl ⟨i,hi,rfl,rfl,rfl⟩
theorem stepD_w (c:Nat):zkH ((c:Int)-1) (-1) ((c:Int)-1- -1).toNat=wL c fun i=> .int ((c-1-i:Nat):Int):=by
 rw[show((c:Int)-1- -1).toNat=c by lia]
 unfold zkH wL
 refine List.map_congr_left fun i hi=>?_
 have:=List.mem_range.mp hi
 congr 1;lia
section
variable {k m n:Nat} {T L G:Nat->Int}
theorem many_ok (b:Bool):Ok (zbH [zaz k m n T L G,.str (kS b)]) fun x=>x= .val (.int (cnt m n b:Nat)):=by
 simp! only[↓zbH,↓zd0,kS_sum]
 cases b
 ·exact⟨fun h=>(by cases h),fun _=>rfl⟩
 ·exact⟨fun _=>rfl,fun h=>(by cases h)⟩
theorem zo3 (s:Sp)(h:s.2.1<cnt m n s.1):Ok (zbR [zaz k m n T L G,sD s]) fun x=>x= .val (tD (spw k T L G s)):=by
 obtain⟨b,i,u⟩:=s
 cases b<;>cases u<;>
 ·simp only[cnt,if_true,Bool.false_eq_true,if_false]at h
  simp! only[↓zbR,↓zgS,sD,kS_sum,zat _ h,↓zgQ,spw,tD]
  simp
theorem zjW (b:Bool)(m9:m<=1000)(n9:n<=1000):Ok (zbZ [zaz k m n T L G,.str (kS b)]) fun x=>x= .val (.lst ((stL b (cnt m n b)).map sD)):=by
 simp! only[↓zbZ,↓zhM]
 refine(many_ok b).mono ?_
 rintro _ rfl
 have c9:cnt m n b<=1000:=by unfold cnt;split<;>lia
 generalize cnt m n b=c at*
 simp! only[↓zhr]
 refine⟨zaA (by lia) (by lia),by lia,zaF (fun ρ=>∃z,ρ=[.val (.str (kS b)),z]) (fun i=>sD (b,i,true)) ⟨_,rfl⟩ ?_ ?_⟩
 ·rintro i _ hi ⟨z,rfl⟩
  simp! only[↓zg7]
  exact⟨rfl,_,rfl⟩
 rintro _ ⟨z,rfl⟩
 simp! only[↓zhA,stepD_w]
 refine⟨⟨zaA (by lia) (by lia),rfl⟩,by lia,zaF (fun ρ=>∃z,ρ=[.val (.str (kS b)),z]) (fun i=>sD (b,c-1-i,false)) ⟨_,rfl⟩ ?_ ?_⟩
 ·rintro i _ hi ⟨z,rfl⟩
  simp! only[↓zg6]
  exact⟨rfl,_,rfl⟩
 rintro _ ⟨z,rfl⟩
 simp! only[]
 refine⟨by lia,?_⟩
 unfold stL wL
 rw[List.map_append,List.map_map,List.map_map]
 rfl
theorem zim (b:Bool)(m9:m<=1000)(n9:n<=1000):Ok (zbz [zaz k m n T L G,.str (kS b)]) fun x=>x= .own (((stL b (cnt m n b)).map (spw k T L G)).map tD):=by
 simp! only[↓zbz,↓zhI,↓zg5]
 refine(zjW b m9 n9).mono ?_
 rintro _ rfl
 have c9:cnt m n b<=1000:=by unfold cnt;split<;>lia
 have l9:=zhU b (cnt m n b)
 simp! only[]
 refine⟨by lia,zhX (enc:=sD) (l:=stL b (cnt m n b)) (fun ρ=>∃z,ρ=[.val (zaz k m n T L G),z]) (fun s=>tD (spw k T L G s)) ⟨_,rfl⟩ ?_ ?_⟩
 ·rintro s _ hs ⟨z,rfl⟩
  obtain⟨e,h⟩:=mem_stL.mp hs
  simp! only[↓zhq]
  refine(zo3 s (by rw[e];exact h)).mono ?_
  rintro _ rfl
  simp! only[]
  exact⟨_,rfl⟩
 ·rintro _ ⟨z,rfl⟩
  simp! only[List.map_map]
  rfl
end
noncomputable def mx (o:Option Int)(x:Int):Int:=match o with
 |none=>x
 |some y=>max2 y x
theorem mx_ge (o:Option Int)(x:Int):x<=mx o x:=by unfold mx;split<;>(try unfold max2)<;>(try split)<;>lia
theorem zmy (x:Int)(h:o=some y):y<=mx o x:=by subst h;unfold mx max2;(try dsimp only);split<;>lia
theorem mx_is (o:Option Int)(x:Int):mx o x=x\/o=some (mx o x):=by
 cases o with
 |none=>exact .inl rfl
 |some y=>unfold mx max2;(try dsimp only);split<;>simp
theorem zlQ (o:Option Int)(x:Int):Ok (zep [dO o,.int x]) fun r=>r= .val (.int (mx o x)):=by
 cases o<;>simp! only[↓zep,↓ziK,dO,mx]
inductive Rc (S P:List Tt) (d:Nat->Int):Nat->Int->Prop
 |sum {t:Tt}:t∈S->Rc S P d t.2.1 (d t.1+t.2.2)
 |place {t:Tt} {x:Int}:Rc S P d t.1 x->t∈P->Rc S P d t.2.1 (x+t.2.2)
noncomputable abbrev gL (N:Nat)(g:Nat->Option Int):List D:=wL N fun v=>dO (g v)
theorem zkz {α:Type}{l:List α}{a:α}(h:l[i]? =some a):l.take (i+1)=l.take i++[a]:=by
 rw[List.take_succ,h];rfl
theorem znP {S P:List Tt}{d:Nat->Int}(hb:∀t,t∈S->t.1<N/\t.2.1<N)(a1 a4 a5 a6:Sl)
  (hQ:∀g a4 a5 a6,(∀t,t∈S->∃x,g t.2.1=some x/\d t.1+t.2.2<=x)->(∀v x,g v=some x->Rc S P d v x)->Q (.next,[.val (.lst (S.map tD)),a1,.val (.lst (wI N d)),.own (gL N g),a4,a5,a6])):
  Ok (zdf [.val (.lst (S.map tD)),a1,.val (.lst (wI N d)),.own (gL N fun _=>none),a4,a5,a6]) Q:=by
 simp! only[↓zdf]
 refine ziw (enc:=tD) (l:=S) (fun i ρ=>∃g a4 a5 a6,(∀t,t∈S.take i->∃x,g t.2.1=some x/\d t.1+t.2.2<=x)/\(∀v x,g v=some x->Rc S P d v x)/\ρ=[.val (.lst (S.map tD)),a1,.val (.lst (wI N d)),.own (gL N g),a4,a5,a6]) ⟨_,_,_,_,by simp,fun v x h=>(by cases h),rfl⟩ ?_ ?_
 ·rintro i t _ hi ⟨g,a4,a5,a6,lb,ub,rfl⟩
  have mem:=List.mem_of_getElem? hi
  obtain⟨h1,h2⟩:=hb t mem
  simp! only[tD,↓zfr,zat _ h1,zat _ h2]
  refine(zlQ (g t.2.1) (d t.1+t.2.2)).mono ?_
  rintro _ rfl
  simp! only[h2,zjw _ _ h2,zmn]
  refine⟨upf g t.2.1 (some (mx (g t.2.1) (d t.1+t.2.2))),_,_,_,fun t' ht'=>?_,fun v x hx=>?_,rfl⟩
  ·rw[zkz hi,List.mem_append,List.mem_singleton]at ht'
   by_cases e:t'.2.1=t.2.1
   ·rw[e,zaV]
    refine⟨_,rfl,?_⟩
    rcases ht' with h|rfl
    ·obtain⟨x,hx,hx'⟩:=lb t' h
     rw[e]at hx
     exact Int.le_trans hx' (zmy _ hx)
    ·exact mx_ge _ _
   ·rw[zaC _ _ e]
    rcases ht' with h|rfl
    ·exact lb t' h
    ·exact absurd rfl e
  ·by_cases e:v=t.2.1
   ·subst e
    rw[zaV]at hx
    cases hx
    rcases mx_is (g t.2.1) (d t.1+t.2.2)with h|h
    ·rw[h];exact .sum mem
    ·exact ub _ _ h
   ·rw[zaC _ _ e]at hx
    exact ub v x hx
 ·rintro _ ⟨g,a4,a5,a6,lb,ub,rfl⟩
  rw[List.take_of_length_le (Nat.le_refl _)]at lb
  exact hQ g a4 a5 a6 lb ub
theorem stL_get {b:Bool}{s:Sp}(h:(stL b c)[i]? =some s):(i<c/\s=(b,i,true))\/(c<=i/\i<2*c/\s=(b,2*c-1-i,false)):=by
 unfold stL at h
 by_cases z:i<c
 ·rw[List.getElem?_append_left (by simp;lia),List.getElem?_map,List.getElem?_range z]at h
  exact .inl ⟨z,(Option.some.inj h).symm⟩
 ·rw[List.getElem?_append_right (by simp;lia),List.getElem?_map]at h
  simp only[List.length_map,List.length_range]at h
  by_cases y:i-c<c
  ·rw[List.getElem?_range y]at h
   have:=(Option.some.inj h).symm
   exact .inr ⟨by lia,by lia,by rw[this];show(b,c-1-(i-c),false)=_;rw[show c-1-(i-c)=2*c-1-i by lia]⟩
  ·rw[List.getElem?_eq_none (by simp;lia)]at h
   cases h
structure Pg (n:Nat) (L G:Nat->Int) (S P:List Tt) (d:Nat->Int) (g0:Nat->Option Int) (i:Nat) (g:Nat->Option Int):Prop where
 so:∀v,v<=n->v<=i->∃x,g v=some x
 old:∀v x,g0 v=some x->∃y,g v=some y/\x<=y
 up:∀p x,p<n->p<i->g p=some x->∃y,g (p+1)=some y/\x+L p<=y
 dn:∀q x,q<n->2*n<=i+q->g (q+1)=some x->∃y,g q=some y/\x-G q<=y
 rc:∀v x,g v=some x->Rc S P d v x
section
variable {k m n:Nat} {T L G d:Nat->Int} {S:List Tt} {g0 g:Nat->Option Int} {i:Nat}
noncomputable abbrev plP (k n:Nat)(T L G:Nat->Int):List Tt:=(stL false n).map (spw k T L G)
theorem mem_pl {t:Tt}:t∈plP k n T L G↔∃p,p<n/\(t=(p,p+1,L p)\/t=(p+1,p,-G p)):=by
 unfold plP
 rw[List.mem_map]
 constructor
 ·rintro⟨⟨b,i,u⟩,hs,rfl⟩
  obtain⟨rfl,h⟩:=mem_stL.mp hs
  refine⟨i,h,?_⟩
  cases u
  ·exact .inr rfl
  ·exact .inl rfl
 ·rintro⟨p,hp,rfl|rfl⟩
  ·exact⟨(false,p,true),mem_stL.mpr ⟨rfl,hp⟩,rfl⟩
  ·exact⟨(false,p,false),mem_stL.mpr ⟨rfl,hp⟩,rfl⟩
theorem Pg.goUp (b:Pg n L G S (plP k n T L G) d g0 i g)(hi:i<n){x0:Int}(h0:g i=some x0):Pg n L G S (plP k n T L G) d g0 (i+1) (upf g (i+1) (some (mx (g (i+1)) (x0+L i)))) where
 so:=fun v h1 h2=>by
  by_cases e:v=i+1
  ·exact⟨_,by rw[e,zaV]⟩
  ·rw[zaC _ _ e];exact b.so v h1 (by lia)
 old:=fun v x h=>by
  obtain⟨y,h1,h2⟩:=b.old v x h
  by_cases e:v=i+1
  ·subst e
   exact⟨_,zaV _ _ _,Int.le_trans h2 (zmy _ h1)⟩
  ·rw[zaC _ _ e];exact⟨y,h1,h2⟩
 up:=fun p x h1 h2 h3=>by
  rw[zaC _ _ (show p≠i+1 by lia)]at h3
  by_cases e:p=i
  ·subst e
   rw[h0]at h3
   cases h3
   exact⟨_,zaV _ _ _,mx_ge _ _⟩
  ·rw[zaC _ _ (by lia)];exact b.up p x h1 (by lia) h3
 dn:=fun q x h1 h2=>by lia
 rc:=fun v x h=>by
  by_cases e:v=i+1
  ·subst e
   rw[zaV]at h
   cases h
   rcases mx_is (g (i+1)) (x0+L i)with h|h
   ·rw[h]
    exact Rc.place (t:=(i,i+1,L i)) (b.rc i x0 h0) (mem_pl.mpr ⟨i,hi,.inl rfl⟩)
   ·exact b.rc _ _ h
  ·rw[zaC _ _ e]at h;exact b.rc v x h
theorem Pg.goDn (le:∀p,p<n->L p<=G p)(b:Pg n L G S (plP k n T L G) d g0 i g)(h1:n<=i)(h2:i<2*n){x0:Int}(h0:g (2*n-1-i+1)=some x0):Pg n L G S (plP k n T L G) d g0 (i+1) (upf g (2*n-1-i) (some (mx (g (2*n-1-i)) (x0+ -G (2*n-1-i))))):=by
 obtain⟨q,hq⟩:∃q,2*n-1-i=q:=⟨_,rfl⟩
 rw[hq]at h0 ⊢
 have qn:q<n:=by lia
 exact{
  so:=fun v h1 h2=>by
   by_cases e:v=q
   ·exact⟨_,by rw[e,zaV]⟩
   ·rw[zaC _ _ e];exact b.so v h1 (by lia)
  old:=fun v x h=>by
   obtain⟨y,h1,h2⟩:=b.old v x h
   by_cases e:v=q
   ·subst e
    exact⟨_,zaV _ _ _,Int.le_trans h2 (zmy _ h1)⟩
   ·rw[zaC _ _ e];exact⟨y,h1,h2⟩
  up:=fun p x h1 h2 h3=>by
   by_cases e:p=q
   ·subst e
    rw[zaV]at h3
    cases h3
    rw[zaC _ _ (by lia)]
    refine⟨x0,h0,?_⟩
    rcases mx_is (g p) (x0+ -G p)with h|h
    ·rw[h];have:=le p qn;lia
    ·obtain⟨y,h4,h5⟩:=b.up p _ h1 (by lia) h
     rw[h0]at h4
     cases h4
     exact h5
   ·rw[zaC _ _ e]at h3
    obtain⟨y,h4,h5⟩:=b.up p x h1 (by lia) h3
    by_cases e2:p+1=q
    ·rw[e2,zaV]
     rw[e2]at h4
     exact⟨_,rfl,Int.le_trans h5 (zmy _ h4)⟩
    ·rw[zaC _ _ e2];exact⟨y,h4,h5⟩
  dn:=fun p x h1 h2 h3=>by
   rw[zaC _ _ (show p+1≠q by lia)]at h3
   by_cases e:p=q
   ·subst e
    rw[h0]at h3
    cases h3
    refine⟨_,zaV _ _ _,?_⟩
    have:=mx_ge (g p) (x0+ -G p)
    lia
   ·rw[zaC _ _ e];exact b.dn p x h1 (by lia) h3
  rc:=fun v x h=>by
   by_cases e:v=q
   ·subst e
    rw[zaV]at h
    cases h
    rcases mx_is (g v) (x0+ -G v)with h|h
    ·rw[h]
     exact Rc.place (t:=(v+1,v,-G v)) (b.rc _ x0 h0) (mem_pl.mpr ⟨v,qn,.inr rfl⟩)
    ·exact b.rc _ _ h
   ·rw[zaC _ _ e]at h;exact b.rc v x h}
theorem zlx (le:∀p,p<n->L p<=G p)(b0:Pg n L G S (plP k n T L G) d g0 0 g0)(a0 a2 a4 a5 a6:Sl)
  (hQ:∀g a4 a5 a6,Pg n L G S (plP k n T L G) d g0 (2*n) g->Q (.next,[a0,.val (.lst ((plP k n T L G).map tD)),a2,.own (gL (n+1) g),a4,a5,a6])):
  Ok (zdi [a0,.val (.lst ((plP k n T L G).map tD)),a2,.own (gL (n+1) g0),a4,a5,a6]) Q:=by
 simp! only[↓zdi]
 refine ziw (enc:=tD) (l:=plP k n T L G) (fun i ρ=>∃g a4 a5 a6,Pg n L G S (plP k n T L G) d g0 i g/\ρ=[a0,.val (.lst ((plP k n T L G).map tD)),a2,.own (gL (n+1) g),a4,a5,a6]) ⟨g0,_,_,_,b0,rfl⟩ ?_ ?_
 ·rintro i t _ hi ⟨g,a4,a5,a6,b,rfl⟩
  unfold plP at hi
  rw[List.getElem?_map]at hi
  obtain⟨s,hs,rfl⟩:=Option.map_eq_some_iff.mp hi
  rcases stL_get hs with⟨h1,rfl⟩|⟨h1,h2,rfl⟩
  ·obtain⟨x0,h0⟩:=b.so i (by lia) (Nat.le_refl _)
   simp! only[spw,tD,↓zdg,zat _ (show i<n+1 by lia),zat _ (show i+1<n+1 by lia),h0,dO_s]
   refine(zlQ (g (i+1)) (x0+L i)).mono ?_
   rintro _ rfl
   simp! only[show i+1<n+1 by lia,zjw _ _ (show i+1<n+1 by lia),zmn]
   exact⟨_,_,_,_,b.goUp h1 h0,rfl⟩
  ·have e1:2*n-1-i+1<n+1:=by lia
   have e2:2*n-1-i<n+1:=by lia
   obtain⟨x0,h0⟩:=b.so (2*n-1-i+1) (by lia) (by lia)
   simp! only[spw,tD,↓zdg,zat _ e1,zat _ e2,h0,dO_s]
   refine(zlQ (g (2*n-1-i)) (x0+ -G (2*n-1-i))).mono ?_
   rintro _ rfl
   simp! only[e2,zjw _ _ e2,zmn]
   exact⟨_,_,_,_,b.goDn le h1 h2 h0,rfl⟩
 ·rintro _ ⟨g,a4,a5,a6,b,rfl⟩
  have e:(plP k n T L G).length=2*n:=by unfold plP;rw[List.length_map,zhU]
  rw[e]at b
  exact hQ g a4 a5 a6 b
noncomputable abbrev suP (k m:Nat)(T L G:Nat->Int):List Tt:=(stL true m).map (spw k T L G)
theorem mem_su {t:Tt}:t∈suP k m T L G↔∃i,i<m/\(t=(i,i+k,T i)\/t=(i+k,i,-T i)):=by
 unfold suP
 rw[List.mem_map]
 constructor
 ·rintro⟨⟨b,i,u⟩,hs,rfl⟩
  obtain⟨rfl,h⟩:=mem_stL.mp hs
  refine⟨i,h,?_⟩
  cases u
  ·exact .inr rfl
  ·exact .inl rfl
 ·rintro⟨p,hp,rfl|rfl⟩
  ·exact⟨(true,p,true),mem_stL.mpr ⟨rfl,hp⟩,rfl⟩
  ·exact⟨(true,p,false),mem_stL.mpr ⟨rfl,hp⟩,rfl⟩
structure Lay (k m n:Nat) (T L G d g:Nat->Int):Prop where
 up:∀i,i<m->d i+T i<=g (i+k)
 dn:∀i,i<m->d (i+k)-T i<=g i
 lo:∀p,p<n->g p+L p<=g (p+1)
 hi:∀p,p<n->g (p+1)-G p<=g p
 rc:∀v,v<=n->Rc (suP k m T L G) (plP k n T L G) d v (g v)
theorem znm (hn:n+1=m+k)(m1:1<=m)(n9:n<=900)(le:∀p,p<n->L p<=G p):
  Ok (zcS [.lst ((suP k m T L G).map tD),.lst ((plP k n T L G).map tD),.lst (wI (n+1) d)]) fun x=>∃g,Lay k m n T L G d g/\x= .own (wI (n+1) g):=by
 obtain⟨N,hN⟩:∃N,N=n+1:=⟨_,rfl⟩
 rw[<-hN]
 simp! only[↓zcS,↓zfE,zoA]
 rw[hN]
 refine⟨⟨zaA (by lia) (by lia),by lia⟩,?_⟩
 refine znP (P:=plP k n T L G) (fun t ht=>?_) _ _ _ _ fun g0 a4 a5 a6 lb ub=>?_
 ·obtain⟨i,hi,rfl|rfl⟩:=mem_su.mp ht<;>exact⟨by(try dsimp only);lia,by(try dsimp only);lia⟩
 ·simp! only[]
  refine zlx le ⟨fun v _ h2=>?_,fun v x h=>⟨x,h,Int.le_refl _⟩,fun p x _ h=>by lia,fun q x h1 h2=>by lia,ub⟩ _ _ _ _ _ fun g a4 a5 a6 b=>?_
  ·obtain⟨x,hx,_⟩:=lb (0+k,0,-T 0) (mem_su.mpr ⟨0,by lia,.inr rfl⟩)
   exact⟨x,by rw[show v=0 by lia];exact hx⟩
  ·have dX:∀v,v<=n->g v=some ((g v).getD 0):=fun v hv=>by
    obtain⟨x,hx⟩:=b.so v hv (by lia)
    rw[hx];rfl
   simp! only[]
   refine⟨fun v=>(g v).getD 0,⟨fun i hi=>?_,fun i hi=>?_,fun p hp=>?_,fun p hp=>?_,fun v hv=>?_⟩,?_⟩
   ·obtain⟨x,h1,h2⟩:=lb (i,i+k,T i) (mem_su.mpr ⟨i,hi,.inl rfl⟩)
    obtain⟨y,h3,h4⟩:=b.old _ x h1
    (try dsimp only at h2 h3)
    rw[h3]
    show _<=y
    lia
   ·obtain⟨x,h1,h2⟩:=lb (i+k,i,-T i) (mem_su.mpr ⟨i,hi,.inr rfl⟩)
    obtain⟨y,h3,h4⟩:=b.old _ x h1
    (try dsimp only at h2 h3)
    rw[h3]
    show _<=y
    lia
   ·obtain⟨y,h1,h2⟩:=b.up p _ hp (by lia) (dX p (by lia))
    rw[h1]
    exact h2
   ·obtain⟨y,h1,h2⟩:=b.dn p _ hp (by lia) (dX (p+1) (by lia))
    rw[h1]
    exact h2
   ·exact b.rc v _ (dX v hv)
   ·congr 1
    exact zeE fun v hv=>by rw[dX v (by lia)];rfl
end
structure Feas (k m n:Nat) (T L G:Nat->Int) (F:Int) (X:Nat->Int):Prop where
 up:∀i,i<m->X i+T i-F<=X (i+k)
 dn:∀i,i<m->X (i+k)-T i-F<=X i
 lo:∀p,p<n->X p+L p<=X (p+1)
 hi:∀p,p<n->X (p+1)-G p<=X p
theorem max_ex (f:Nat->Int):∀N,1<=N->∃j,1<=j/\j<=N/\∀i,1<=i->i<=N->f i<=f j
 |0,h=>by lia
 |1,_=>⟨1,by lia,by lia,fun i h1 h2=>by rw[show i=1 by lia];exact Int.le_refl _⟩
 |N+2,_=>by
  obtain⟨j,h1,h2,h3⟩:=max_ex f (N+1) (by lia)
  by_cases e:f j<=f (N+2)
  ·exact⟨N+2,by lia,by lia,fun i h4 h5=>by
    by_cases z:i=N+2
    ·rw[z];exact Int.le_refl _
    ·exact Int.le_trans (h3 i h4 (by lia)) e⟩
  ·exact⟨j,h1,by lia,fun i h4 h5=>by
    by_cases z:i=N+2
    ·rw[z];lia
    ·exact h3 i h4 (by lia)⟩
section
variable {k m n N:Nat} {T L G:Nat->Int} {D:Nat->Nat->Int} {F:Int}
theorem feas_ex (N1:1<=N)(ly:∀t,t<N->Lay k m n T L G (D t) (D (t+1)))(hn:n+1=m+k)(h:∀v,v<=n->∃j,j<N/\D N v-D j v<=F*((N:Int)-j)):∃X,Feas k m n T L G F X:=by
 have ex:∀v,∃x:Int,(∃j:Nat,1<=j/\j<=N/\x=D j v-F*j)/\∀j:Nat,1<=j->j<=N->D j v-F*j<=x:=fun v=>by
  obtain⟨j,h1,h2,h3⟩:=max_ex (fun j=>D j v-F*j) N N1
  exact⟨_,⟨j,h1,h2,rfl⟩,h3⟩
 refine⟨fun v=>Classical.choose (ex v),?_⟩
 have is:=fun v=>(Classical.choose_spec (ex v)).1
 have ge:=fun v=>(Classical.choose_spec (ex v)).2
 have eq1:∀j:Nat,F*((j+1:Nat):Int)=F*j+F:=fun j=>by push_cast;rw[Int.mul_add,Int.mul_one]
 have lt:∀v,v<=n->∃j:Nat,j<N/\Classical.choose (ex v)<=D j v-F*j:=fun v hv=>by
  obtain⟨j,h1,h2,h3⟩:=is v
  by_cases e:j<N
  ·exact⟨j,e,by lia⟩
  ·have:j=N:=by lia
   subst this
   obtain⟨i,h4,h5⟩:=h v hv
   rw[Int.mul_sub]at h5
   exact⟨i,h4,by lia⟩
 refine⟨fun i hi=>?_,fun i hi=>?_,fun p hp=>?_,fun p hp=>?_⟩
 ·obtain⟨j,h1,h2⟩:=lt i (by lia)
  have h3:=(ly j h1).up i hi
  have h4:=ge (i+k) (j+1) (by lia) (by lia)
  rw[eq1]at h4
  (try dsimp only)
  lia
 ·obtain⟨j,h1,h2⟩:=lt (i+k) (by lia)
  have h3:=(ly j h1).dn i hi
  have h4:=ge i (j+1) (by lia) (by lia)
  rw[eq1]at h4
  (try dsimp only)
  lia
 ·obtain⟨j,h1,h2,h3⟩:=is p
  obtain⟨j',rfl⟩:∃j',j=j'+1:=⟨j-1,by lia⟩
  have h4:=(ly j' (by lia)).lo p hp
  have h5:=ge (p+1) (j'+1) (by lia) h2
  (try dsimp only)
  lia
 ·obtain⟨j,h1,h2,h3⟩:=is (p+1)
  obtain⟨j',rfl⟩:∃j',j=j'+1:=⟨j-1,by lia⟩
  have h4:=(ly j' (by lia)).hi p hp
  have h5:=ge p (j'+1) (by lia) h2
  (try dsimp only)
  lia
theorem rc_edge {X d:Nat->Int}(hn:n+1=m+k)(ly:∀t,t<N->Lay k m n T L G (D t) (D (t+1)))(f:Feas k m n T L G F X)(r:Rc (suP k m T L G) (plP k n T L G) d v x):
  ∃(a:Nat) (w:Int),a<=n/\x=d a+w/\X a+w-F<=X v/\∀s,s<N->D s a+w<=D (s+1) v:=by
 induction r with
 |sum ht=>
  obtain⟨i,hi,rfl|rfl⟩:=mem_su.mp ht
  ·exact⟨i,T i,by lia,rfl,f.up i hi,fun s hs=>(ly s hs).up i hi⟩
  ·exact⟨i+k,-T i,by lia,rfl,by have:=f.dn i hi;(try dsimp only);lia,fun s hs=>by have:=(ly s hs).dn i hi;(try dsimp only);lia⟩
 |place _ ht ih=>
  obtain⟨a,w,h1,h2,h3,h4⟩:=ih
  obtain⟨p,hp,rfl|rfl⟩:=mem_pl.mp ht
  ·refine⟨a,w+L p,h1,by(try dsimp only);lia,?_,fun s hs=>?_⟩
   ·have:=f.lo p hp;(try dsimp only at h3 ⊢);lia
   ·have:=(ly s hs).lo p hp;have:=h4 s hs;(try dsimp only at this ⊢);lia
  ·refine⟨a,w+ -G p,h1,by(try dsimp only);lia,?_,fun s hs=>?_⟩
   ·have:=f.hi p hp;(try dsimp only at h3 ⊢);lia
   ·have:=(ly s hs).hi p hp;have:=h4 s hs;(try dsimp only at this ⊢);lia
theorem no_feas (hn:n+1=m+k)(hN:N=n+1)(ly:∀t,t<N->Lay k m n T L G (D t) (D (t+1)))(hv:v<=n)(h:∀j,j<N->F*((N:Int)-j)<D N v-D j v):¬Feas k m n T L G F X:=fun f=>by
 have ex:∀(t u:Nat),∃(a:Nat) (w:Int),t<N->u<=n->a<=n/\D (t+1) u=D t a+w/\X a+w-F<=X u/\∀s,s<N->D s a+w<=D (s+1) u:=fun t u=>by
  by_cases h1:t<N/\u<=n
  ·obtain⟨a,w,h2⟩:=rc_edge hn ly f ((ly t h1.1).rc u h1.2)
   exact⟨a,w,fun _ _=>h2⟩
  ·exact⟨0,0,fun h2 h3=>absurd ⟨h2,h3⟩ h1⟩
 let A:Nat->Nat->Nat:=fun t u=>Classical.choose (ex t u)
 have exA:∀t u,∃w:Int,t<N->u<=n->A t u<=n/\D (t+1) u=D t (A t u)+w/\X (A t u)+w-F<=X u/\∀s,s<N->D s (A t u)+w<=D (s+1) u:=fun t u=>Classical.choose_spec (ex t u)
 let W:Nat->Nat->Int:=fun t u=>Classical.choose (exA t u)
 have sp:∀t u,t<N->u<=n->A t u<=n/\D (t+1) u=D t (A t u)+W t u/\X (A t u)+W t u-F<=X u/\∀s,s<N->D s (A t u)+W t u<=D (s+1) u:=fun t u=>Classical.choose_spec (exA t u)
 let U:Nat->Nat:=fun j=>Nat.rec v (fun j u=>A (N-1-j) u) j
 have U0:U 0=v:=rfl
 have U1:∀j,U (j+1)=A (N-1-j) (U j):=fun j=>rfl
 have Un:∀j,j<=N->U j<=n:=fun j=>by
  induction j with
  |zero=>exact fun _=>hv
  |succ j ih=>exact fun hj=>by rw[U1];exact(sp (N-1-j) (U j) (by omega) (ih (by omega))).1
 have st:∀j,j<N->D (N-j) (U j)=D (N-(j+1)) (U (j+1))+W (N-1-j) (U j)/\X (U (j+1))+W (N-1-j) (U j)-F<=X (U j)/\∀s,s<N->D s (U (j+1))+W (N-1-j) (U j)<=D (s+1) (U j):=fun j hj=>by
  have:=sp (N-1-j) (U j) (by omega) (Un j (by omega))
  rw[show N-1-j+1=N-j by omega]at this
  rw[U1,show N-(j+1)=N-1-j by omega]
  exact this.2
 obtain⟨i,j,hij,hj,e⟩:=pigeon (n:=N) (f:=U) fun i hi=>by have:=Un i hi;omega
 have c1:∀c,i+c<=N->D (N-i) (U i)-D (N-(i+c)) (U (i+c))-F*(c:Nat)<=X (U i)-X (U (i+c)):=fun c=>by
  induction c with
  |zero=>intro _;simp
  |succ c ih=>
   intro hc
   have h1:=ih (by omega)
   have h2:=st (i+c) (by omega)
   have h3:F*((c+1:Nat):Int)=F*(c:Nat)+F:=by push_cast;rw[Int.mul_add,Int.mul_one]
   rw[h3,show i+(c+1)=i+c+1 by omega]
   omega
 have h1:=c1 (j-i) (by omega)
 rw[show i+(j-i)=j by omega,<-e]at h1
 have c2:∀c,c<=i->D (N-j) (U j)+D (N-(i-c)) (U (i-c))-D (N-i) (U i)<=D (N-j+c) (U (i-c)):=fun c=>by
  induction c with
  |zero=>intro _;rw[Nat.sub_zero,Nat.add_zero,e];omega
  |succ c ih=>
   intro hc
   have h1:=ih (by omega)
   have h2:=st (i-(c+1)) (by omega)
   rw[show i-(c+1)+1=i-c by omega]at h2
   have h3:=h2.2.2 (N-j+c) (by omega)
   rw[show N-j+(c+1)=N-j+c+1 by omega]
   omega
 have h2:=c2 i (Nat.le_refl _)
 rw[Nat.sub_self,U0,Nat.sub_zero,<-e]at h2
 have h3:=h (N-j+i) (by omega)
 have h4:((N:Int)-((N-j+i:Nat):Int))=((j-i:Nat):Int):=by omega
 rw[h4]at h3
 omega
end
theorem zn3 {a b:Int}(h:0<b):(-(a/b))*b>= -a/\(-(a/b)-1)*b< -a:=by
 have h1:=Int.mul_ediv_add_emod a b
 have h2:=Int.emod_nonneg a (show b≠0 by lia)
 have h3:=Int.emod_lt_of_pos a h
 have h4:(-(a/b))*b= -(b*(a/b)):=by rw[Int.neg_mul,Int.mul_comm]
 have h5:(-(a/b)-1)*b= -(b*(a/b))-b:=by rw[Int.sub_mul,h4,Int.one_mul]
 lia
section
variable {k m n N:Nat} {T L G:Nat->Int} {E:Nat->Nat->Int} {F:Int}
noncomputable abbrev layD (c N:Nat)(E:Nat->Nat->Int):List D:=wL c fun t=> .lst (wI N (E t))
theorem mean_ok (N1:1<=N)(N9:N<=900)(hv:v<N):Ok (zbq [.lst (layD (N+1) N E),.int v]) fun x=>∃y:Int,(∃j,j<N/\E N v-E j v<=y*((N:Int)-j))/\(∀j,j<N->(y-1)*((N:Int)-j)<E N v-E j v)/\x= .val (.int y):=by
 have e1:((N+1:Nat):Int)-1=(N:Int):=by lia
 simp! only[↓zbq,↓zfH,e1,↓zf9]
 refine⟨zaA (by lia) (by lia),by lia,zaF (fun ρ=>∃z,ρ=[.val (.lst (layD (N+1) N E)),.val (.int v),.val (.int N),z]) (fun j=> .int (-((E j v-E N v)/((N:Int)-j)))) ⟨_,rfl⟩ ?_ ?_⟩
 ·rintro j _ hj ⟨z,rfl⟩
  simp! only[↓zf1,zat _ (show j<N+1 by lia),zat _ hv,atI_w1]
  exact⟨zi4 (by lia) (by lia),_,rfl⟩
 ·rintro _ ⟨z,rfl⟩
  obtain⟨y,e,⟨i,hi,h1⟩,h2⟩:=min_w (fun j=> -((E j v-E N v)/((N:Int)-j))) (c:=N) (by lia)
  have e:zli (fun i j=>decide (i<j)) _=_:=e
  simp! only[e]
  refine⟨y,⟨i,hi,?_⟩,fun j hj=>?_,rfl⟩
  ·have:=(zn3 (a:=E i v-E N v) (b:=(N:Int)-i) (by lia)).1
   rw[h1]at this
   lia
  ·have h3:=h2 j hj
   have h4:=(zn3 (a:=E j v-E N v) (b:=(N:Int)-j) (by lia)).2
   have h5:(y-1)*((N:Int)-j)<=(-((E j v-E N v)/((N:Int)-j))-1)*((N:Int)-j):=Int.mul_le_mul_of_nonneg_right (by lia) (by lia)
   lia
theorem far_ok (hn:n+1=m+k)(m1:1<=m)(n9:n<=800)(le:∀p,p<n->L p<=G p):
  Ok (zdk [zaz k m n T L G]) fun x=>∃F:Int,(∃X,Feas k m n T L G F X)/\(∀X,¬Feas k m n T L G (F-1) X)/\x= .val (.int F):=by
 obtain⟨N,hN⟩:∃N,N=n+1:=⟨_,rfl⟩
 have e1:(n:Int)+1=(N:Int):=by omega
 simp! only[↓zdk,↓zgW]
 refine(zim true (by omega) (by omega)).mono ?_
 rintro _ rfl
 simp! only[]
 refine(zim false (by omega) (by omega)).mono ?_
 rintro _ rfl
 simp! only[e1,zoA,cnt,if_true,Bool.false_eq_true,if_false,↓zgJ]
 refine⟨⟨⟨by omega,by omega⟩,by omega⟩,zaA (by omega) (by omega),zbG (fun i ρ=>∃(E:Nat->Nat->Int) (z:Sl),(∀t,t<i->Lay k m n T L G (E t) (E (t+1)))/\ρ=[.val (zaz k m n T L G),.val (.lst ((suP k m T L G).map tD)),.val (.lst ((plP k n T L G).map tD)),.val (.int N),.own (layD (i+1) N E),z]) ⟨fun _ _=>0,_,fun t h=>by omega,rfl⟩ ?_ ?_⟩
 ·rintro i _ hi ⟨E,z,ly,rfl⟩
  simp! only[↓zgv,atI_w1]
  rw[hN]
  refine(znm hn m1 (by omega) le).mono ?_
  rintro _ ⟨g,lg,rfl⟩
  simp! only[]
  refine⟨by omega,upf E (i+1) g,.val (.int i),fun t ht=>?_,?_⟩
  ·by_cases e:t=i
   ·subst e
    rw[zaC _ _ (by omega),zaV];exact lg
   ·rw[zaC _ _ (by omega),zaC _ _ (by omega)];exact ly t (by omega)
  ·have e:layD (i+1+1) (n+1) (upf E (i+1) g)=layD (i+1) (n+1) E++[.lst (wI (n+1) g)]:=by
    rw[show layD (i+1+1) (n+1) (upf E (i+1) g)=_ from zdL _ _,zaV]
    congr 1
    exact zeE fun t ht=>by rw[zaC _ _ (by omega)]
   rw[e]
 ·rintro _ ⟨E,z,ly,rfl⟩
  simp! only[↓zgF]
  have ex:∀v,∃y:Int,v<N->(∃j,j<N/\E N v-E j v<=y*((N:Int)-j))/\(∀j,j<N->(y-1)*((N:Int)-j)<E N v-E j v)/\zbq [.lst (layD (N+1) N E),.int v]=some (.val (.int y)):=fun v=>by
   by_cases hv:v<N
   ·obtain⟨_,e,y,h1,h2,rfl⟩:=mean_ok (E:=E) (by omega) (by omega) hv
    exact⟨y,fun _=>⟨h1,h2,e⟩⟩
   ·exact⟨0,fun h=>absurd h hv⟩
  let Y:Nat->Int:=fun v=>Classical.choose (ex v)
  have hY:∀v,v<N->(∃j,j<N/\E N v-E j v<=Y v*((N:Int)-j))/\(∀j,j<N->(Y v-1)*((N:Int)-j)<E N v-E j v)/\zbq [.lst (layD (N+1) N E),.int v]=some (.val (.int (Y v))):=fun v=>Classical.choose_spec (ex v)
  refine⟨zaA (by omega) (by omega),by omega,zaF (fun ρ=>∃z,ρ=[.val (.lst (layD (N+1) N E)),z]) (fun v=> .int (Y v)) ⟨_,rfl⟩ ?_ ?_⟩
  ·rintro v _ hv ⟨z,rfl⟩
   simp! only[↓zgo,(hY v hv).2.2]
   exact⟨_,rfl⟩
  ·rintro _ ⟨z,rfl⟩
   obtain⟨F,e,⟨i,hi,h1⟩,h2⟩:=max_w Y (c:=N) (by omega)
   have e:zli (fun i j=>decide (i>j)) _=_:=e
   simp! only[e]
   refine⟨F,feas_ex (N:=N) (D:=E) (by omega) ly hn fun v hv=>?_,fun X=>no_feas (N:=N) (D:=E) hn hN ly (v:=i) (by omega) fun j hj=>?_,rfl⟩
   ·obtain⟨j,hj,h3⟩:=(hY v (by omega)).1
    refine⟨j,hj,Int.le_trans h3 (Int.mul_le_mul_of_nonneg_right (h2 v (by omega)) (by omega))⟩
   ·have:=(hY i hi).2.1 j hj
    rw[h1]at this
    exact this
end
section
variable {J:Type} [DecidableEq J]
theorem zjm (g:J->D)(x:J):∀ks:List J,lkD ks (ks.map g) x=if x∈ks then some (g x)else none
 |[]=>rfl
 |q::ks=>by
  rw[List.map_cons,lkD,zjm g x ks]
  by_cases e:q=x
  ·subst e;simp
  ·have e2:x≠q:=fun z=>e z.symm
   simp[e,e2]
noncomputable def pkJ (x:J)(ks:List J):List J:=if x∈ks then ks else ks++[x]
theorem zoH (g:J->D)(x:J)(d:D)(ks:List J):ptD ks (ks.map g) x d=(pkJ x ks,(pkJ x ks).map fun y=>if y=x then d else g y):=by
 unfold ptD pkJ
 by_cases h:x∈ks
 ·rw[if_pos (List.contains_iff_mem.mpr h),if_pos h]
  congr 1
  clear h
  induction ks with
  |nil=>rfl
  |cons q ks ih=>
   rw[List.map_cons,List.map_cons,List.zipWith_cons_cons,ih]
 ·rw[if_neg (fun c=>h (List.contains_iff_mem.mp c)),if_neg h]
  congr 1
  rw[List.map_append]
  congr 1
  ·apply List.map_congr_left
   intro y hy
   have:y≠x:=fun z=>h (z ▸ hy)
   simp[this]
  ·simp
theorem pk_mem {x y:J}{ks:List J}:y∈pkJ x ks↔y∈ks\/y=x:=by
 unfold pkJ
 by_cases q:x∈ks
 ·rw[if_pos q]
  exact⟨.inl,fun h=>h.elim id fun e=>e ▸ q⟩
 ·rw[if_neg q]
  simp
end
section
variable {k m n:Nat} {T L G:Nat->Int} {F:Int}
noncomputable def tie (k:Nat)(T L G:Nat->Int)(F:Int)(s:Sp):Tt:=((spw k T L G s).1,(spw k T L G s).2.1,if s.1 then F-(spw k T L G s).2.2 else-(spw k T L G s).2.2)
noncomputable abbrev allS (m n:Nat):List Sp:=stL false n++stL true m
noncomputable abbrev farT (k m n:Nat)(T L G:Nat->Int)(F:Int):List Tt:=(allS m n).map (tie k T L G F)
theorem mem_all {s:Sp}:s∈allS m n↔s.2.1<cnt m n s.1:=by
 rw[List.mem_append,mem_stL,mem_stL]
 obtain⟨b,i,u⟩:=s
 cases b<;>simp[cnt]
theorem zo0 (m9:m<=1000)(n9:n<=1000):Ok (zcz [zaz k m n T L G,.int F]) fun x=>x= .val (.lst ((farT k m n T L G F).map tD)):=by
 simp! only[↓zcz,↓zhQ,↓zhF]
 refine(zim false m9 n9).mono ?_
 rintro _ rfl
 have l1:=zhU false n
 have l2:=zhU true m
 simp! only[cnt,Bool.false_eq_true,if_false]
 refine⟨by lia,?_⟩
 rw[List.map_map]
 refine zhX (enc:=tD ∘ spw k T L G) (l:=stL false n) (fun ρ=>∃a b c,ρ=[a,b,c]) (fun s=>tD (tie k T L G F s)) ⟨_,_,_,rfl⟩ ?_ ?_
 ·rintro s _ hs ⟨a,b,c,rfl⟩
  obtain⟨e,h⟩:=mem_stL.mp hs
  simp! only[Function.comp,tD,↓zhe,tie,e,Bool.false_eq_true,if_false]
  exact⟨_,_,_,rfl⟩
 rintro _ ⟨a,b,c,rfl⟩
 simp! only[↓zhE]
 refine(zim true m9 n9).mono ?_
 rintro _ rfl
 simp! only[cnt,if_true]
 refine⟨by lia,?_⟩
 rw[List.map_map]
 refine zhX (enc:=tD ∘ spw k T L G) (l:=stL true m) (fun ρ=>∃a b c,ρ=[.val (.int F),a,b,c]) (fun s=>tD (tie k T L G F s)) ⟨_,_,_,rfl⟩ ?_ ?_
 ·rintro s _ hs ⟨a,b,c,rfl⟩
  obtain⟨e,h⟩:=mem_stL.mp hs
  simp! only[Function.comp,tD,↓zhy,tie,e,if_true]
  exact⟨_,_,_,rfl⟩
 rintro _ ⟨a,b,c,rfl⟩
 simp! only[]
 refine⟨by lia,?_⟩
 unfold farT allS
 rw[List.map_append,List.map_append,List.map_map,List.map_map]
 rfl
theorem feas_tie (f:Feas k m n T L G F X){s:Sp}(h:s.2.1<cnt m n s.1):X (tie k T L G F s).1<=X (tie k T L G F s).2.1+(tie k T L G F s).2.2:=by
 obtain⟨b,i,u⟩:=s
 cases b<;>cases u<;>simp only[cnt,if_true,Bool.false_eq_true,if_false]at h<;>simp only[tie,spw,if_true,Bool.false_eq_true,if_false]
 ·have:=f.hi i h;lia
 ·have:=f.lo i h;lia
 ·have:=f.dn i h;lia
 ·have:=f.up i h;lia
theorem zmu (h:∀t,t∈farT k m n T L G F->X t.1<=X t.2.1+t.2.2):Feas k m n T L G F X:=by
 have h2:∀s:Sp,s.2.1<cnt m n s.1->X (tie k T L G F s).1<=X (tie k T L G F s).2.1+(tie k T L G F s).2.2:=fun s hs=>h _ (List.mem_map_of_mem (mem_all.mpr hs))
 refine⟨fun i hi=>?_,fun i hi=>?_,fun p hp=>?_,fun p hp=>?_⟩
 ·have:=h2 (true,i,true) hi;simp only[tie,spw,if_true]at this;lia
 ·have:=h2 (true,i,false) hi;simp only[tie,spw,if_true]at this;lia
 ·have:=h2 (false,p,true) hp;simp only[tie,spw,Bool.false_eq_true,if_false]at this;lia
 ·have:=h2 (false,p,false) hp;simp only[tie,spw,Bool.false_eq_true,if_false]at this;lia
theorem far_bd (hn:n+1=m+k)(k1:1<=k){t:Tt}(ht:t∈farT k m n T L G F):t.1<n+1/\t.2.1<n+1/\t.1≠t.2.1:=by
 obtain⟨s,hs,rfl⟩:=List.mem_map.mp ht
 have h:=mem_all.mp hs
 obtain⟨b,i,u⟩:=s
 cases b<;>cases u<;>simp only[cnt,if_true,Bool.false_eq_true,if_false]at h<;>simp only[tie,spw]<;>lia
theorem far_ch (hp:p<n):∃a,(p+1,p,a)∈farT k m n T L G F:=⟨_,List.mem_map.mpr ⟨(false,p,false),mem_all.mpr hp,rfl⟩⟩
theorem row_ok (hn:n+1=m+k)(k1:1<=k)(n9:n<=800)(f:∃X,Feas k m n T L G F X):Ok (za0 [.lst ((farT k m n T L G F).map tD),.int n]) fun x=>∃X,Feas k m n T L G F X/\x= .val (.tup (wI n fun p=>X (p+1)-X p)):=by
 obtain⟨X,f⟩:=f
 refine(znO (n:=n) (ts:=farT k m n T L G F) (by lia) (fun t ht=>far_bd hn k1 ht) (fun c v w home _ tt=>?_) (fun p hp=>far_ch hp)).mono ?_
 ·have key:∀c,(∀i,i<c->(v i,v (i+1),w i)∈farT k m n T L G F)->X (v 0)-X (v c)<=sumR c w:=fun c=>by
   induction c with
   |zero=>intro _;show X (v 0)-X (v 0)<=0;lia
   |succ c ih=>
    intro h
    have h1:=ih fun i hi=>h i (by lia)
    obtain⟨s,hs,e⟩:=List.mem_map.mp (h c (by lia))
    have h2:=feas_tie (F:=F) f (mem_all.mp hs)
    rw[e]at h2
    show _<=sumR c w+w c
    (try dsimp only at h2)
    lia
  have:=key c tt
  rw[home]at this
  lia
 ·rintro _ ⟨X,h,rfl⟩
  exact⟨X,zmu h,rfl⟩
end
structure Way (k m n:Nat) (T L G:Nat->Int) (F:Int) (c:Nat) (st:Nat->Sp):Prop where
 pos:1<=c
 c9:c<=1000
 ok:∀i,i<c->(st i).2.1<cnt m n (st i).1
 nx:∀i,i<c->(spw k T L G (st i)).2.1=(spw k T L G (st (if i+1=c then 0 else i+1))).1
 neg:F*sumR c (fun i=>if(st i).1 then 1 else 0)<sumR c fun i=>(spw k T L G (st i)).2.2
noncomputable def dec (k:Nat)(a b:Nat):Sp:=if b=a+1 then(false,a,true)else if a=b+1 then(false,b,false)else if b=a+k then(true,a,true)else(true,b,false)
theorem zpb {T L G:Nat->Int}(k2:2<=k)(s:Sp):dec k (spw k T L G s).1 (spw k T L G s).2.1=s:=by
 obtain⟨b,i,u⟩:=s
 cases b<;>cases u
 ·show dec k (i+1) i=_
  unfold dec;rw[if_neg (by lia),if_pos rfl]
 ·show dec k i (i+1)=_
  unfold dec;rw[if_pos rfl]
 ·show dec k (i+k) i=_
  unfold dec;rw[if_neg (by lia),if_neg (by lia),if_neg (by lia)]
 ·show dec k i (i+k)=_
  unfold dec;rw[if_neg (by lia),if_neg (by lia),if_pos rfl]
noncomputable def kyG (k:Nat)(r:List Int):D:=sD (dec k (r.getD 0 0).toNat (r.getD 1 0).toNat)
noncomputable abbrev kyS (k:Nat)(T L G:Nat->Int)(s:Sp):List Int:=[((spw k T L G s).1:Int),((spw k T L G s).2.1:Int)]
theorem kyG_s {T L G:Nat->Int}(k2:2<=k)(s:Sp):kyG k (kyS k T L G s)=sD s:=by
 show sD (dec k (spw k T L G s).1 (spw k T L G s).2.1)=sD s
 rw[zpb k2]
section
variable {k m n:Nat} {T L G:Nat->Int} {F:Int}
theorem key2 (a b:Int):keyT (.tup [.int a,.int b])=some [a,b]:=rfl
theorem cut2 (a b c:D):cutD [a,b,c] none (some 2)=[a,b]:=zis [a,b,c] 2
theorem zoI (k2:2<=k)(m9:m<=1000)(n9:n<=1000)(a1 a2 a3:Sl)
  (hQ:∀ks a5,(∀s,s∈allS m n->kyS k T L G s∈ks)->Q (.next,[.val (zaz k m n T L G),a1,a2,a3,.tre (.dit ks (ks.map (kyG k))),a5])):
  Ok (zde [.val (zaz k m n T L G),a1,a2,a3,.tre (.dit [] []),.emp]) Q:=by
 simp! only[↓zde]
 refine(zjW false m9 n9).mono ?_
 rintro _ rfl
 simp! only[]
 refine(zjW true m9 n9).mono ?_
 rintro _ rfl
 have l1:=zhU false n
 have l2:=zhU true m
 simp! only[cnt,Bool.false_eq_true,if_false,if_true]
 refine⟨by lia,?_⟩
 rw[<-List.map_append]
 refine ziw (enc:=sD) (l:=allS m n) (fun i ρ=>∃ks a5,ks.length<=i/\(∀s,s∈(allS m n).take i->kyS k T L G s∈ks)/\ρ=[.val (zaz k m n T L G),a1,a2,a3,.tre (.dit ks (ks.map (kyG k))),a5]) ⟨[],_,by simp,by simp,rfl⟩ ?_ ?_
 ·rintro i s _ hi ⟨ks,a5,kl,hk,rfl⟩
  have mem:=List.mem_of_getElem? hi
  have il:i<(allS m n).length:=by
   rcases Nat.lt_or_ge i (allS m n).length with h|h
   ·exact h
   ·rw[List.getElem?_eq_none h]at hi;cases hi
  rw[List.length_append,l1,l2]at il
  simp! only[↓zfQ]
  refine(zo3 s (mem_all.mp mem)).mono ?_
  rintro _ rfl
  have e1:=zoH (kyG k) (kyS k T L G s) (sD s) ks
  have e2:(fun y=>if y=kyS k T L G s then sD s else kyG k y)=kyG k:=by
   funext y
   by_cases e:y=kyS k T L G s
   ·rw[if_pos e,e,kyG_s k2]
   ·rw[if_neg e]
  rw[e2]at e1
  simp! only[tD,cut2,key2,e1]
  refine⟨by lia,pkJ (kyS k T L G s) ks,_,?_,fun s' hs'=>?_,rfl⟩
  ·unfold pkJ;split
   ·lia
   ·simp;lia
  ·rw[zkz hi,List.mem_append,List.mem_singleton]at hs'
   rw[pk_mem]
   rcases hs' with h|rfl
   ·exact .inl (hk s' h)
   ·exact .inr rfl
 ·rintro _ ⟨ks,a5,kl,hk,rfl⟩
  rw[List.take_of_length_le (Nat.le_refl _)]at hk
  exact hQ ks a5 hk
end
section
variable {k m n:Nat} {T L G:Nat->Int} {F:Int} {ts:List Tt}
theorem pot_ex (hb:∀t,t∈ts->t.1<n+1/\t.2.1<n+1/\t.1≠t.2.1)(ch:∀p,p<n->∃a,(p+1,p,a)∈ts)
  (b:BI ts.length (fun q=>(tAt ts q).1) (fun q=>(tAt ts q).2.1) (fun q=>(tAt ts q).2.2) 0 (n+1) 0 d u us) (h:∀v,us v<=n*ts.length):∃X:Nat->Int,∀t,t∈ts->X t.1<=X t.2.1+t.2.2:=by
 have kt:∀t,t∈ts->∀y,d t.2.1=some y->∃x,d t.1=some x/\x<=y+t.2.2:=fun t ht=>by
  obtain⟨q,hq,rfl⟩:=List.getElem_of_mem ht
  have:=b.kept (t:=n) h hq
  unfold Kept at this
  have e:tAt ts q=ts[q]:=by unfold tAt;rw[List.getD_eq_getElem?_getD,List.getElem?_eq_getElem hq];rfl
  (try dsimp only at this)
  rw[e]at this
  exact this
 have dv:∀v,v<=n->∃x,d v=some x:=fun v=>by
  induction v with
  |zero=>exact fun _=>b.st
  |succ v ih=>
   intro hv
   obtain⟨x,hx⟩:=ih (by lia)
   obtain⟨a,ha⟩:=ch v (by lia)
   obtain⟨y,hy,_⟩:=kt _ ha x hx
   exact⟨y,hy⟩
 refine⟨fun v=>(d v).getD 0,fun t ht=>?_⟩
 obtain⟨h1,h2,_⟩:=hb t ht
 obtain⟨y,hy⟩:=dv t.2.1 (by lia)
 obtain⟨x,hx,hxy⟩:=kt t ht y hy
 (try dsimp only)
 rw[hx,hy]
 exact hxy
theorem turn_w (c1:1<=c)(f:Nat->Int)(h:f c=f 0):cutD (wI c f) (some 1) none++cutD (wI c f) none (some 1)=wI c fun i=>f (i+1):=by
 obtain⟨e,rfl⟩:∃e,c=e+1:=⟨c-1,by lia⟩
 rw[show cutD (wI (e+1) f) (some 1) none=(wI (e+1) f).drop 1 from zmB _ 1,show cutD (wI (e+1) f) none (some 1)=(wI (e+1) f).take 1 from zis _ 1]
 rw[show wI (e+1) (fun i=>f (i+1))=(wI e fun i=>f (i+1))++[.int (f (e+1))]from zdL _ _,h]
 have s:wI (e+1) f= .int (f 0)::wI e fun i=>f (i+1):=by simp[wL,List.range_succ_eq_map,Function.comp_def]
 rw[s]
 rfl
theorem znB (hn:n+1=m+k)(k2:2<=k)(n9:n<=300)(nf:∀X,¬Feas k m n T L G F X):Ok (zcL [zaz k m n T L G,.int F]) fun x=>∃c st,Way k m n T L G F c st/\x= .own (wL c fun i=>sD (st i)):=by
 have e1:(n:Int)+1=((n+1:Nat):Int):=by lia
 have hb:∀t,t∈farT k m n T L G F->t.1<n+1/\t.2.1<n+1/\t.1≠t.2.1:=fun t ht=>far_bd hn (by lia) ht
 have at_:∀q,q<(farT k m n T L G F).length->tAt (farT k m n T L G F) q∈farT k m n T L G F:=fun q h=>znW h
 simp! only[↓zcL,↓zfq]
 refine(zo0 (by lia) (by lia)).mono ?_
 rintro _ rfl
 obtain⟨ts,hts⟩:∃ts,ts=farT k m n T L G F:=⟨_,rfl⟩
 rw[<-hts]at hb at_ ⊢
 simp! only[ties_w,e1]
 refine(zkX (s:=0) (by lia) (by lia) (by lia) (fun q hq=>(hb _ (at_ q hq)).1) (fun q hq=>(hb _ (at_ q hq)).2.1) (fun q hq=>(hb _ (at_ q hq)).2.2)).mono ?_
 rintro _ ⟨d,u,f,⟨us,b,hf⟩,rfl⟩
 rcases hf with⟨_,h⟩|⟨l,rfl,h⟩
 ·obtain⟨X,hX⟩:=pot_ex hb (fun p hp=>by rw[hts];exact far_ch hp) b h
  rw[hts]at hX
  exact absurd (zmu hX) (nf X)
 simp! only[uO]
 refine(loop_ok b h n9 (fun q hq=>(hb _ (at_ q hq)).1) (fun q hq=>(hb _ (at_ q hq)).2.1) (fun q hq=>(hb _ (at_ q hq)).2.2)).mono ?_
 rintro _ ⟨c,qs,cn,R,rfl⟩
 simp! only[]
 refine zoI k2 (by lia) (by lia) _ _ _ fun ks a5 hk=>?_
 have c1:=R.pos
 obtain⟨V,hV⟩:∃V:Nat->Nat,V=fun i=>back u (back u l (n+1)) i:=⟨_,rfl⟩
 have home:V c=V 0:=by rw[hV];exact R.home
 have tie_:∀i,i<c->∃s:Sp,s∈allS m n/\(spw k T L G s).1=V i/\(spw k T L G s).2.1=V (i+1)/\(tAt ts (qs i)).2.2=(tie k T L G F s).2.2:=fun i hi=>by
  obtain⟨h1,h2,h3⟩:=R.tie i hi
  have h4:=at_ _ h1
  rw[hts]at h4
  obtain⟨s,hs,e⟩:=List.mem_map.mp h4
  rw[<-hts]at e
  (try dsimp only at h2 h3)
  rw[<-e]at h2 h3 ⊢
  exact⟨s,hs,by rw[hV];exact h2,by rw[hV];exact h3,rfl⟩
 have st_:∀i,i<c->dec k (V i) (V (i+1))∈allS m n/\(spw k T L G (dec k (V i) (V (i+1)))).1=V i/\(spw k T L G (dec k (V i) (V (i+1)))).2.1=V (i+1)/\(tAt ts (qs i)).2.2=(tie k T L G F (dec k (V i) (V (i+1)))).2.2:=fun i hi=>by
  obtain⟨s,h1,h2,h3,h4⟩:=tie_ i hi
  have:dec k (V i) (V (i+1))=s:=by rw[<-h2,<-h3,zpb k2]
  rw[this]
  exact⟨h1,h2,h3,h4⟩
 have ew:(wI c fun i=>((back u (back u l (n+1)) i:Nat):Int))=wI c fun i=>(V i:Int):=by rw[hV]
 rw[ew]
 have et:=turn_w c1 (fun i=>(V i:Int)) (by rw[home])
 simp! only[et,↓zfn,zgX]
 refine⟨by rw[<-List.length_append,et,zaT];lia,by lia,zaF (fun ρ=>∃z,ρ=[.val (.dit ks (ks.map (kyG k))),z]) (fun i=>sD (dec k (V i) (V (i+1)))) ⟨_,rfl⟩ ?_ ?_⟩
 ·rintro i _ hi ⟨z,rfl⟩
  obtain⟨h1,h2,h3,_⟩:=st_ i hi
  have mem:=hk _ h1
  rw[show kyS k T L G (dec k (V i) (V (i+1)))=[(V i:Int),(V (i+1):Int)] by unfold kyS;rw[h2,h3]]at mem
  simp! only[↓zgg,key2,zjm,if_pos mem]
  exact⟨rfl,_,rfl⟩
 ·rintro _ ⟨z,rfl⟩
  simp! only[]
  refine⟨c,fun i=>dec k (V i) (V (i+1)),⟨c1,by lia,fun i hi=>mem_all.mp (st_ i hi).1,fun i hi=>?_,?_⟩,rfl⟩
  ·(try dsimp only)
   rw[(st_ i hi).2.2.1]
   by_cases e:i+1=c
   ·rw[if_pos e,e,home];exact(st_ 0 (by lia)).2.1.symm
   ·rw[if_neg e];exact(st_ (i+1) (by lia)).2.1.symm
  ·have h1:=R.neg
   have h2:(sumR c fun i=>(tAt ts (qs i)).2.2)=F*(sumR c fun i=>if(dec k (V i) (V (i+1))).1 then 1 else 0)-sumR c fun i=>(spw k T L G (dec k (V i) (V (i+1)))).2.2:=by
    rw[<-zmS,<-zmN]
    refine zan fun i hi=>?_
    rw[(st_ i hi).2.2.2]
    unfold tie
    (try dsimp only)
    split
    ·rw[Int.mul_one]
    ·rw[Int.mul_zero];lia
   (try dsimp only at h1 ⊢)
   lia
inductive OffW (k m n:Nat) (T L G:Nat->Int) (F:Int):D->Prop
 |no:F=0->OffW k m n T L G F .non
 |way {c:Nat} {st:Nat->Sp}:F≠0->Way k m n T L G (F-1) c st->OffW k m n T L G F (.lst (wL c fun i=>sD (st i)))
theorem off_ok (hn:n+1=m+k)(k2:2<=k)(m1:1<=m)(n9:n<=300)(le:∀p,p<n->L p<=G p):
  Ok (zb0 [zaz k m n T L G]) fun x=>∃F X w,Feas k m n T L G F X/\(∀X,¬Feas k m n T L G (F-1) X)/\OffW k m n T L G F w/\x= .val (.tup [.int F,.tup (wI n fun p=>X (p+1)-X p),w]):=by
 simp! only[↓zb0,↓zhN]
 refine(far_ok hn m1 (by lia) le).mono ?_
 rintro _ ⟨F,f,nf,rfl⟩
 simp! only[]
 refine(zo0 (by lia) (by lia)).mono ?_
 rintro _ rfl
 simp! only[]
 refine(row_ok hn (by lia) (by lia) f).mono ?_
 rintro _ ⟨X,fX,rfl⟩
 simp! only[]
 refine⟨fun z=>⟨F,X,_,fX,nf,.no z,rfl⟩,fun z=>?_⟩
 refine(znB hn k2 n9 nf).mono ?_
 rintro _ ⟨c,st,w,rfl⟩
 simp! only[]
 exact⟨F,X,_,fX,nf,.way z w,rfl⟩
end
theorem rep_w (n:Nat)(x:D):(List.replicate n [x]).flatten=wL n fun _=>x:=by
 induction n with
 |zero=>rfl
 |succ n ih=>rw[List.replicate_succ',List.flatten_append,ih,zdL];rfl
theorem zoX (a b:Nat->Int)(hn:n<=1000):Ok (zbt [.tup (wI n a),.lst (wI n b)]) fun x=>x= .own (wI n fun p=>a p-b p):=by
 simp! only[↓zbt,↓zfu,↓zfS,zgX]
 refine⟨by lia,zaF (fun ρ=>∃s s',ρ=[s,s']) (fun p=> .int (a p-b p)) ⟨_,_,rfl⟩ ?_ ?_⟩
 ·rintro i _ hi ⟨s,s',rfl⟩
  simp! only[↓zf4]
  exact⟨_,_,rfl⟩
 ·rintro _ ⟨_,_,rfl⟩
  simp! only[]
structure Span (f g:Nat->Int) (n m:Nat) (lo hi:Nat->Int):Prop where
 lm:∀j,j<m->∃p,p<n/\p%m=j/\f p=lo j
 lg:∀p,p<n->f p<=lo (p%m)
 hm:∀j,j<m->∃p,p<n/\p%m=j/\g p=hi j
 hg:∀p,p<n->hi (p%m)<=g p
noncomputable def zke (m:Nat)(lo hi:Nat->Int):List D:=wL m fun j=> .tup [.int (lo j),.int (hi j)]
theorem zlF (f g:Nat->Int){n m:Nat}(hm:0<m)(hn:m<=n):∃lo hi:Nat->Int,Span f g n m lo hi/\∀j,j<m->ziy [.lst (zca (wI n f) (some (j:Int)) none (some (m:Int)))]=some (.int (lo j))/\zj4 [.lst (zca (wI n g) (some (j:Int)) none (some (m:Int)))]=some (.int (hi j)):=by
 have h1:∀j,∃v,j<m->ziy [.lst (zca (wI n f) (some (j:Int)) none (some (m:Int)))]=some (.int v)/\(∃p,p<n/\p%m=j/\f p=v)/\∀p,p<n->p%m=j->f p<=v:=fun j=>by
  by_cases hj:j<m
  ·obtain⟨v,h⟩:=max_pick f hm hj hn;exact⟨v,fun _=>h⟩
  ·exact⟨0,fun h=>absurd h hj⟩
 have h2:∀j,∃v,j<m->zj4 [.lst (zca (wI n g) (some (j:Int)) none (some (m:Int)))]=some (.int v)/\(∃p,p<n/\p%m=j/\g p=v)/\∀p,p<n->p%m=j->v<=g p:=fun j=>by
  by_cases hj:j<m
  ·obtain⟨v,h⟩:=min_pick g hm hj hn;exact⟨v,fun _=>h⟩
  ·exact⟨0,fun h=>absurd h hj⟩
 refine⟨fun j=>(h1 j).choose,fun j=>(h2 j).choose,⟨fun j hj=>((h1 j).choose_spec hj).2.1,fun p hp=>((h1 (p%m)).choose_spec (Nat.mod_lt _ hm)).2.2 p hp rfl,fun j hj=>((h2 j).choose_spec hj).2.1,fun p hp=>((h2 (p%m)).choose_spec (Nat.mod_lt _ hm)).2.2 p hp rfl⟩,fun j hj=>⟨((h1 j).choose_spec hj).1,((h2 j).choose_spec hj).1⟩⟩
theorem zkv {f g:Nat->Int}{lo hi lo' hi':Nat->Int}(s:Span f g n m lo hi)(t:Span f g n m lo' hi')(hj:j<m):lo j=lo' j/\hi j=hi' j:=by
 obtain⟨p,h1,h2,h3⟩:=s.lm j hj
 obtain⟨p',h1',h2',h3'⟩:=t.lm j hj
 obtain⟨q,k1,k2,k3⟩:=s.hm j hj
 obtain⟨q',k1',k2',k3'⟩:=t.hm j hj
 have a1:=s.lg p' h1'
 have a2:=t.lg p h1
 have a3:=s.hg q' k1'
 have a4:=t.hg q k1
 rw[h2']at a1;rw[h2]at a2;rw[k2']at a3;rw[k2]at a4
 lia
theorem zmk {f g:Nat->Int}(hm:0<m)(hn:m<=n)(h24:n<=1000)(sp:Span f g n m lo hi):Ok (zbr [.lst (wI n f),.lst (wI n g),.int m]) fun x=>x= .own (zke m lo hi):=by
 obtain⟨lo',hi',sp',e⟩:=zlF f g hm hn
 have el:zke m lo' hi'=zke m lo hi:=zeE fun j hj=>by rw[(zkv sp' sp hj).1,(zkv sp' sp hj).2]
 rw[<-el]
 simp! only[↓zbr,↓zfV,↓zfB]
 refine⟨zaA (by lia) (by lia),by lia,zaF (fun ρ=>∃s,ρ=[.val (.lst (wI n f)),.val (.int m),.val (.lst (wI n g)),s]) (fun j=> .tup [.int (lo' j),.int (hi' j)]) ⟨_,rfl⟩ ?_ ?_⟩
 ·rintro j _ hj ⟨s,rfl⟩
  have hk0:¬(some (m:Int)=some 0):=by intro h;have:=Option.some.inj h;lia
  obtain⟨e1,e2⟩:=e j hj
  unfold ziy at e1
  unfold zj4 at e2
  simp! only[↓zgc,zoz,hk0,e1,e2]
  exact⟨_,rfl⟩
 ·rintro _ ⟨s,rfl⟩
  simp! only[]
  rfl
theorem zk7 {f:Nat->Int}(hm:0<m)(hmn:m<=n)(h24:n<=1000){e:Nat->Int}(he:∀j,j<m->∃p,p<n/\p%m=j/\f p=e j):
  Ok (za7 [.lst (wI n f),.lst (wI m e)]) fun x=>∃pl:Nat->Nat,(∀j,j<m->pl j<n/\pl j%m=j/\f (pl j)=e j)/\x= .val (.tup (wI m fun j=>(pl j:Nat))):=by
 have h1:∀j,∃i:Nat,j<m->zk8 (.lst (zca (wI n f) (some (j:Int)) none (some (m:Int)))) (.int (e j))=some (.int i)/\j+i*m<n/\f (j+i*m)=e j:=fun j=>by
  by_cases hj:j<m
  ·obtain⟨i,h⟩:=znk f hm hj (he j hj);exact⟨i,fun _=>h⟩
  ·exact⟨0,fun h=>absurd h hj⟩
 have hk0:¬(some (m:Int)=some 0):=by intro h;have:=Option.some.inj h;lia
 simp! only[↓za7,↓zda,↓zdG]
 refine⟨zaA (by lia) (by lia),by lia,zaF (fun ρ=>∃s,ρ=[.val (.int m),.val (.lst (wI n f)),.val (.lst (wI m e)),s]) (fun j=> .int ((j+(h1 j).choose*m:Nat):Int)) ⟨_,rfl⟩ ?_ ?_⟩
 ·rintro j _ hj ⟨s,rfl⟩
  obtain⟨e1,-,-⟩:=(h1 j).choose_spec hj
  generalize (h1 j).choose=i at*
  have ee:(j:Int)+(m:Int)*(i:Int)=((j+i*m:Nat):Int):=by push_cast;rw[Int.mul_comm]
  simp! only[↓zdu,zoz,hk0,e1,zat _ hj,ee]
  exact⟨zcs (by lia),_,rfl⟩
 ·rintro _ ⟨s,rfl⟩
  simp! only[]
  exact⟨_,fun j hj=>⟨((h1 j).choose_spec hj).2.1,by rw[Nat.add_mul_mod_self_right,Nat.mod_eq_of_lt hj],((h1 j).choose_spec hj).2.2⟩,rfl⟩
structure Room' (m:Nat) (lo hi:Nat->Int) (t:Int):Prop where
 le:∀j,j<m->lo j<=hi j
 low:sumR m lo<=t
 high:t<=sumR m hi
noncomputable def Paper (f g:Nat->Int)(n m:Nat)(t:Int)(d:D):Prop:=
 (∃a b:Nat,a<n/\b<n/\a%m=b%m/\f a>g b/\d= .tup [.str "clash",.int a,.int b])\/
 (∃pl:Nat->Nat,(∀j,j<m->pl j<n/\pl j%m=j)/\sumR m (fun j=>f (pl j))>t/\d= .tup [.str "low",.tup (wI m fun j=>(pl j:Nat))])\/
 (∃pl:Nat->Nat,(∀j,j<m->pl j<n/\pl j%m=j)/\sumR m (fun j=>g (pl j))<t/\d= .tup [.str "high",.tup (wI m fun j=>(pl j:Nat))])
theorem zmH {f g:Nat->Int}(hm:0<m)(hn:m<=n)(h24:n<=1000)(t:Int)(sp:Span f g n m lo hi):
  Ok (zcf [.lst (wI n f),.lst (wI n g),.int m,.int t]) fun x=>(Room' m lo hi t/\x= .val .non)\/(¬Room' m lo hi t/\∃d,Paper f g n m t d/\x= .val d):=by
 simp! only[↓zcf,↓zeC]
 refine(zmk hm hn h24 sp).mono ?_
 rintro _ rfl
 simp! only[↓zeX,zke]
 refine⟨by lia,zaF (fun ρ=>∃s s',ρ=[s,s']) (fun j=> .int (lo j)) ⟨_,_,rfl⟩ ?_ ?_⟩
 ·rintro j _ hj ⟨s,s',rfl⟩
  simp! only[↓zeT]
  exact⟨_,_,rfl⟩
 rintro _ ⟨_,_,rfl⟩
 simp! only[↓ze0]
 refine⟨by lia,zaF (fun ρ=>∃s s',ρ=[s,s']) (fun j=> .int (hi j)) ⟨_,_,rfl⟩ ?_ ?_⟩
 ·rintro j _ hj ⟨s,s',rfl⟩
  simp! only[↓zfg]
  exact⟨_,_,rfl⟩
 rintro _ ⟨_,_,rfl⟩
 simp! only[]
 refine(zk7 hm hn h24 sp.lm).mono ?_
 rintro _ ⟨pl,hpl,rfl⟩
 simp! only[]
 refine(zk7 hm hn h24 sp.hm).mono ?_
 rintro _ ⟨ph,hph,rfl⟩
 simp! only[↓zeV]
 refine⟨zaA (by lia) (by lia),zbG (fun i ρ=>(∀j,j<i->lo j<=hi j)/\∃s,ρ=[.val (.lst (wI n f)),.val (.lst (wI n g)),.val (.int m),.val (.int t),.val (.lst (zke m lo hi)),.val (.lst (wI m lo)),.val (.lst (wI m hi)),.val (.tup (wI m fun j=>(pl j:Nat))),.val (.tup (wI m fun j=>(ph j:Nat))),s]) ⟨fun _ h=>by lia,_,rfl⟩ ?_ ?_⟩
 ·rintro j _ hj ⟨hb,s,rfl⟩
  simp! only[↓zeR,zat _ hj]
  refine⟨fun h=> .inr ⟨fun r=>by have:=r.le j hj;lia,_,.inl ⟨pl j,ph j,(hpl j hj).1,(hph j hj).1,by rw[(hpl j hj).2.1,(hph j hj).2.1],by rw[(hpl j hj).2.2,(hph j hj).2.2];exact h,rfl⟩,rfl⟩,fun h=>⟨fun j' hj'=>?_,_,rfl⟩⟩
  by_cases e:j'=j
  ·subst e;lia
  ·exact hb j' (by lia)
 rintro _ ⟨hb,s,rfl⟩
 have el:sumR m (fun j=>f (pl j))=sumR m lo:=zan fun j hj=>(hpl j hj).2.2
 have eh:sumR m (fun j=>g (ph j))=sumR m hi:=zan fun j hj=>(hph j hj).2.2
 simp! only[zcC,zbI]
 refine⟨fun h=> .inr ⟨fun r=>by have:=r.low;lia,_,.inr (.inl ⟨pl,fun j hj=>⟨(hpl j hj).1,(hpl j hj).2.1⟩,by lia,rfl⟩),rfl⟩,fun h1=>?_⟩
 simp! only[↓ze4,zcC,zbI]
 refine⟨fun h=> .inr ⟨fun r=>by have:=r.high;lia,_,.inr (.inr ⟨ph,fun j hj=>⟨(hph j hj).1,(hph j hj).2.1⟩,by lia,rfl⟩),rfl⟩,fun h2=>?_⟩
 simp! only[↓ze7]
 exact .inl ⟨hb,by lia,by lia⟩
noncomputable def left (lo hi:Nat->Int)(m:Nat)(t:Int):Nat->Int
 |0=>t
 |j+1=>left lo hi m t j-max2 (lo j) (left lo hi m t j-(sumR m hi-sumR (j+1) hi))
noncomputable def hd (lo hi:Nat->Int)(m:Nat)(t:Int)(j:Nat):Int:=max2 (lo j) (left lo hi m t j-(sumR m hi-sumR (j+1) hi))
theorem zjk (lo hi:Nat->Int)(t:Int)(hm:m<=1000):Ok (zcl [.lst (zke m lo hi),.int t]) fun x=>x= .own (wI m (hd lo hi m t)):=by
 simp! only[↓zcl,↓zeP,↓ze1,zke]
 refine⟨by lia,zaF (fun ρ=>∃s s',ρ=[s,s']) (fun j=> .int (hi j)) ⟨_,_,rfl⟩ ?_ ?_⟩
 ·rintro j _ hj ⟨s,s',rfl⟩
  simp! only[↓zfa]
  exact⟨_,_,rfl⟩
 rintro _ ⟨_,_,rfl⟩
 simp! only[zcC,zbI,↓ze9]
 refine zbG (fun i ρ=>∃s5 s6 s7,ρ=[.val (.lst (zke m lo hi)),.val (.int t),.own (wI i (hd lo hi m t)),.val (.int (left lo hi m t i)),.val (.int (sumR m hi-sumR i hi)),s5,s6,s7]) ⟨_,_,_,by rw[show sumR 0 hi=0 from rfl,Int.sub_zero];rfl⟩ ?_ ?_
 ·rintro j _ hj ⟨s5,s6,s7,rfl⟩
  simp! only[↓zeY]
  have e:sumR m hi-sumR j hi-hi j=sumR m hi-sumR (j+1) hi:=by simp only[sumR];lia
  rw[e]
  exact⟨by lia,_,_,_,by rw[show wI (j+1) (hd lo hi m t)=_ from zdL _ _];rfl⟩
 ·rintro _ ⟨s5,s6,s7,rfl⟩
  simp! only[]
theorem zjM (lo hi:Nat->Int)(m:Nat)(t:Int):∀j,left lo hi m t j=t-sumR j (hd lo hi m t)
 |0=>by simp[left,sumR]
 |j+1=>by rw[sumR,left,zjM lo hi m t j,hd,zjM lo hi m t j];lia
theorem zlZ (a b:Int):(max2 a b=a\/max2 a b=b)/\a<=max2 a b/\b<=max2 a b:=by unfold max2;split<;>lia
theorem zlE (r:Room' m lo hi t):∀j,j<=m->sumR m lo-sumR j lo<=left lo hi m t j/\left lo hi m t j<=sumR m hi-sumR j hi
 |0,_=>by have:=r.low;have:=r.high;simp[left,sumR];lia
 |j+1,h=>by
  have ih:=zlE r j (by lia)
  have hj:=r.le j (by lia)
  obtain⟨c,c1,c2⟩:=zlZ (lo j) (left lo hi m t j-(sumR m hi-sumR (j+1) hi))
  have e:left lo hi m t (j+1)=left lo hi m t j-max2 (lo j) (left lo hi m t j-(sumR m hi-sumR (j+1) hi)):=rfl
  rw[e]
  have key:sumR m lo-sumR (j+1) lo<=sumR m hi-sumR (j+1) hi:=by
   obtain⟨b,rfl⟩:∃b,m=j+1+b:=⟨m-(j+1),by lia⟩
   rw[zbA lo (j+1) b,zbA hi (j+1) b]
   have:=ziR (f:=fun i=>lo (j+1+i)) (g:=fun i=>hi (j+1+i)) (n:=b) fun i hi'=>r.le _ (by lia)
   lia
  simp only[sumR]at*
  rcases c with c|c<;>rw[c]at c1 c2 ⊢ <;>lia
theorem hd_in (r:Room' m lo hi t)(hj:j<m):lo j<=hd lo hi m t j/\hd lo hi m t j<=hi j:=by
 have h:=zlE r j (by lia)
 have hjj:=r.le j hj
 obtain⟨c,c1,c2⟩:=zlZ (lo j) (left lo hi m t j-(sumR m hi-sumR (j+1) hi))
 unfold hd
 simp only[sumR]at*
 rcases c with c|c<;>rw[c]at c1 c2 ⊢ <;>lia
theorem hd_sum (r:Room' m lo hi t):sumR m (hd lo hi m t)=t:=by
 have h:=zlE r m (Nat.le_refl _)
 have e:=zjM lo hi m t m
 lia
theorem hd_least {lo hi h':Nat->Int}(hh:∀j,j<m->lo j<=h' j/\h' j<=hi j)(hs:sumR m h'=t)(hj:j<m)(he:∀i,i<j->hd lo hi m t i=h' i):hd lo hi m t j<=h' j:=by
 have e:=zjM lo hi m t j
 have e1:sumR j (hd lo hi m t)=sumR j h':=zan he
 obtain⟨b,rfl⟩:∃b,m=j+1+b:=⟨m-(j+1),by lia⟩
 have e2:=zbA h' (j+1) b
 have e3:=zbA hi (j+1) b
 have e4:=ziR (f:=fun i=>h' (j+1+i)) (g:=fun i=>hi (j+1+i)) (n:=b) fun i hi'=>(hh _ (by lia)).2
 have h1:=(hh j hj).1
 unfold hd
 obtain⟨c,c1,c2⟩:=zlZ (lo j) (left lo hi (j+1+b) t j-(sumR (j+1+b) hi-sumR (j+1) hi))
 simp only[sumR]at*
 rcases c with c|c<;>rw[c]<;>lia
theorem zlA (hm:0<m)(h24:n<=1000)(h mo:Nat->Int):Ok (zbL [.lst (wI m h),.lst (wI n mo)]) fun x=>x= .val (.tup (wI n fun p=>h (p%m)+mo p)):=by
 simp! only[↓zbL,↓zdO,↓zer,ziA]
 refine⟨by lia,zaF (fun ρ=>∃s s',ρ=[.val (.lst (wI m h)),.val (.int m),s,s']) (fun p=> .int (h (p%m)+mo p)) ⟨_,_,rfl⟩ ?_ ?_⟩
 ·rintro p _ hp ⟨s,s',rfl⟩
  have e:(p:Int)%(m:Int)=((p%m:Nat):Int):=by push_cast;rfl
  simp! only[↓zd7,e,zat _ (Nat.mod_lt p hm)]
  exact⟨by lia,_,_,rfl⟩
 ·rintro _ ⟨_,_,rfl⟩
  simp! only[]
structure Dim (k s n:Nat):Prop where
 k2:2<=k
 k5:k<=5
 kn:k<=n
 n24:n<=24
 s:n+1=s+k
noncomputable def mo (k:Nat)(S:Nat->Int)(p:Nat):Int:=sumR (p/k) fun i=>S (p%k+i*k+1)-S (p%k+i*k)
theorem zjv (S:Nat->Int)(h:p<k):mo k S p=0:=by unfold mo;rw[Nat.div_eq_of_lt h];rfl
theorem zlR (hk:0<k)(S:Nat->Int)(p:Nat):mo k S (p+k)=mo k S p+S (p+1)-S p:=by
 unfold mo
 rw[Nat.add_div_right _ hk,Nat.add_mod_right,sumR]
 have e:p%k+p/k*k=p:=by have:=Nat.mod_add_div p k;rw[Nat.mul_comm];lia
 rw[e];lia
theorem zj6 (d:Dim k s n)(S L G:Nat->Int):Ok (zbD [zaz k s n S L G]) fun x=>x= .own (wI n (mo k S)):=by
 obtain⟨k2,k5,kn,n24,hs⟩:=d
 simp! only[↓zbD,↓zhW,↓zho,zaz,rep_w]
 rw[show((s:Int)-1).toNat=s-1 by lia]
 refine⟨⟨zaA (by lia) (by lia),by lia⟩,zaA (by lia) (by lia),zbG (fun i ρ=>∃s3,ρ=[.val (zaz k s n S L G),.val (.tup (wI s S)),.own (wI (k+i) (mo k S)),s3]) ⟨.emp,?_⟩ ?_ ?_⟩
 ·rw[Nat.add_zero,show wI k (mo k S)=wL k (fun _=> .int 0)from zeE fun p hp=>by rw[zjv S hp]]
 ·rintro i _ hi ⟨s3,rfl⟩
  simp! only[↓zhm,zat _ (show i<k+i by lia),zat _ (show i+1<s by lia),zat _ (show i<s by lia)]
  exact⟨by lia,_,by rw[show k+(i+1)=k+i+1 by lia,show wI (k+i+1) (mo k S)=_ from zdL _ _,show mo k S (k+i)=mo k S i+S (i+1)-S i by rw[Nat.add_comm k i];exact zlR (by lia) S i]⟩
 ·rintro _ ⟨s3,rfl⟩
  rw[show k+(s-1)=n by lia]
  simp! only[]
noncomputable abbrev ask (k:Nat)(S B:Nat->Int)(p:Nat):Int:=B p-mo k S p
theorem znI (d:Dim k s n)(S L G:Nat->Int):Ok (zco [zaz k s n S L G]) fun x=>x= .own (wI n (ask k S L)):=by
 have n24:=d.n24
 simp! only[↓zco,↓zhT,zaz]
 refine(zj6 d S L G).mono ?_
 rintro _ rfl
 simp! only[]
 refine(zoX L (mo k S) (by lia)).mono ?_
 rintro _ rfl
 simp! only[]
theorem zlz (d:Dim k s n)(S L G:Nat->Int):Ok (zbS [zaz k s n S L G]) fun x=>x= .own (wI n (ask k S G)):=by
 have n24:=d.n24
 simp! only[↓zbS,↓zg4,zaz]
 refine(zj6 d S L G).mono ?_
 rintro _ rfl
 simp! only[]
 refine(zoX G (mo k S) (by lia)).mono ?_
 rintro _ rfl
 simp! only[]
noncomputable abbrev LSpan (k n:Nat)(S L G lo hi:Nat->Int):Prop:=Span (ask k S L) (ask k S G) n k lo hi
theorem zjX (d:Dim k s n)(sp:LSpan k n S L G lo hi):Ok (zcK [zaz k s n S L G]) fun x=>x= .own (zke k lo hi):=by
 have n24:=d.n24
 have k2:=d.k2
 simp! only[↓zcK,↓zf8]
 refine(znI d S L G).mono ?_
 rintro _ rfl
 simp! only[]
 refine(zlz d S L G).mono ?_
 rintro _ rfl
 simp! only[zaz]
 refine(zmk (by lia) d.kn (by lia) sp).mono ?_
 rintro _ rfl
 simp! only[]
theorem zod (d:Dim k s n)(S L G h:Nat->Int):Ok (zhv [zaz k s n S L G,.lst (wI k h)]) fun x=>x= .val (.tup (wI n fun p=>h (p%k)+mo k S p)):=by
 have n24:=d.n24
 have k2:=d.k2
 simp! only[↓zhv,↓zkg]
 refine(zj6 d S L G).mono ?_
 rintro _ rfl
 simp! only[]
 refine(zlA (by lia) (by lia) h (mo k S)).mono ?_
 rintro _ rfl
 simp! only[]
structure Fits (k s n:Nat) (S L G r:Nat->Int):Prop where
 low:∀p,p<n->L p<=r p
 high:∀p,p<n->r p<=G p
 sum:∀i,i<s->win k r i=S i
theorem zl9 (k:Nat)(r:Nat->Int)(i:Nat):win k r (i+1)=win k r i+r (i+k)-r i:=by
 unfold win
 have h1:sumR (k+1) (fun j=>r (i+j))=sumR k (fun j=>r (i+j))+r (i+k):=rfl
 have h2:sumR (k+1) (fun j=>r (i+j))=r i+sumR k (fun j=>r (i+1+j)):=by
  rw[show k+1=1+k by lia,zbA]
  simp only[sumR,Nat.add_zero,Int.zero_add]
  congr 1
  exact zan fun j _=>by rw[Nat.add_assoc]
 lia
theorem ziI (d:Dim k s n)(f:Fits k s n S L G r):∀p,p<n->r p=r (p%k)+mo k S p:=by
 intro p
 induction p using Nat.strongRecOn with
 |_ p ih=>
  intro hp
  by_cases h:p<k
  ·rw[zjv S h,Nat.mod_eq_of_lt h];lia
  ·obtain⟨q,rfl⟩:∃q,p=q+k:=⟨p-k,by lia⟩
   have h1:=ih q (by have:=d.k2;lia) (by lia)
   have h2:=f.sum q (by have:=d.s;lia)
   have h3:=f.sum (q+1) (by have:=d.s;lia)
   rw[zl9]at h3
   rw[zlR (by have:=d.k2;lia),Nat.add_mod_right]
   lia
theorem znK (hk:0<k)(hs:n+1=s+k)(S h:Nat->Int)(h0:sumR k h=S 0):∀i,i<s->win k (fun p=>h (p%k)+mo k S p) i=S i
 |0,_=>by
  unfold win
  rw[<-h0]
  exact zan fun j hj=>by dsimp only;rw[Nat.zero_add,Nat.mod_eq_of_lt hj,zjv S hj];lia
 |i+1,hi=>by
  have ih:=znK hk hs S h h0 i (by lia)
  rw[zl9,ih,zlR hk,Nat.add_mod_right]
  lia
theorem zmb (d:Dim k s n)(sp:LSpan k n S L G lo hi)(f:Fits k s n S L G r):(∀j,j<k->lo j<=r j/\r j<=hi j)/\sumR k r=S 0:=by
 have k2:=d.k2
 have kn:=d.kn
 have hs:=d.s
 refine⟨fun j hj=>?_,?_⟩
 ·obtain⟨p,h1,h2,h3⟩:=sp.lm j hj
  obtain⟨q,g1,g2,g3⟩:=sp.hm j hj
  have e1:=ziI d f p h1
  have e2:=ziI d f q g1
  have b1:=f.low p h1
  have b2:=f.high q g1
  rw[h2]at e1;rw[g2]at e2
  unfold ask at h3 g3
  lia
 ·have:=f.sum 0 (by lia)
  rw[<-this]
  exact zan fun j _=>by rw[Nat.zero_add]
theorem znZ (d:Dim k s n)(sp:LSpan k n S L G lo hi)(hh:∀j,j<k->lo j<=h j/\h j<=hi j)(h0:sumR k h=S 0):Fits k s n S L G fun p=>h (p%k)+mo k S p:=by
 have k2:=d.k2
 refine⟨fun p hp=>?_,fun p hp=>?_,znK (by lia) d.s S h h0⟩
 ·have h1:=sp.lg p hp
  have h2:=(hh (p%k) (Nat.mod_lt _ (by lia))).1
  unfold ask at h1;lia
 ·have h1:=sp.hg p hp
  have h2:=(hh (p%k) (Nat.mod_lt _ (by lia))).2
  unfold ask at h1;lia
theorem zjI (d:Dim k s n)(sp:LSpan k n S L G lo hi):Room' k lo hi (S 0)↔∃r,Fits k s n S L G r:=by
 constructor
 ·intro rm
  exact⟨_,znZ d sp (fun j hj=>hd_in rm hj) (hd_sum rm)⟩
 ·rintro⟨r,f⟩
  obtain⟨h1,h2⟩:=zmb d sp f
  refine⟨fun j hj=>Int.le_trans (h1 j hj).1 (h1 j hj).2,?_,?_⟩
  ·rw[<-h2];exact ziR fun j hj=>(h1 j hj).1
  ·rw[<-h2];exact ziR fun j hj=>(h1 j hj).2
noncomputable def LeR (n:Nat)(a b:Nat->Int):Prop:=∀q,q<n->(∀p,p<q->a p=b p)->a q<=b q
noncomputable def zn9 (k n:Nat)(S L G:Nat->Int)(d:D):Prop:=Paper (ask k S L) (ask k S G) n k (S 0) d
theorem zk6 (d:Dim k s n)(S L G:Nat->Int):Ok (zbd [zaz k s n S L G]) fun x=>
  (∃r,Fits k s n S L G r/\(∀r',Fits k s n S L G r'->LeR n r r')/\x= .val (.tup [.str "row",.tup (wI n r)]))\/
  ((∀r,¬Fits k s n S L G r)/\∃pd,zn9 k n S L G pd/\x= .val pd):=by
 have k2:=d.k2
 have kn:=d.kn
 have n24:=d.n24
 have hs:=d.s
 obtain⟨lo,hi,sp,-⟩:=zlF (ask k S L) (ask k S G) (show 0<k by lia) kn
 have lp:Ok (zaU [zaz k s n S L G]) fun x=>(Room' k lo hi (S 0)/\x= .val .non)\/(¬Room' k lo hi (S 0)/\∃pd,zn9 k n S L G pd/\x= .val pd):=by
  simp! only[↓zaU,↓zdD]
  refine(znI d S L G).mono ?_
  rintro _ rfl
  simp! only[]
  refine(zlz d S L G).mono ?_
  rintro _ rfl
  simp! only[zaz,zat _ (show 0<s by lia)]
  refine(zmH (by lia) kn (by lia) (S 0) sp).mono ?_
  rintro _ (⟨h,rfl⟩|⟨h,pd,hp,rfl⟩)
  ·simp! only[];exact .inl h
  ·simp! only[];exact .inr ⟨h,pd,hp,rfl⟩
 simp! only[↓zbd,↓zeO]
 refine lp.mono ?_
 rintro _ (⟨rm,rfl⟩|⟨rm,pd,hp,rfl⟩)
 ·simp! only[↓ze6]
  refine(zjX d sp).mono ?_
  rintro _ rfl
  simp! only[zaz,zat _ (show 0<s by lia)]
  refine(zjk lo hi (S 0) (by lia)).mono ?_
  rintro _ rfl
  simp! only[]
  refine(zod d S L G (hd lo hi k (S 0))).mono ?_
  rintro _ rfl
  simp! only[]
  refine .inl ⟨_,znZ d sp (fun j hj=>hd_in rm hj) (hd_sum rm),fun r' f' q hq he=>?_,rfl⟩
  obtain⟨h1,h2⟩:=zmb d sp f'
  by_cases hqk:q<k
  ·have:=hd_least h1 h2 hqk fun i hi=>by
    have:=he i hi
    dsimp only at this
    rw[Nat.mod_eq_of_lt (by lia),zjv S (by lia)]at this
    lia
   dsimp only
   rw[Nat.mod_eq_of_lt hqk,zjv S hqk]
   lia
  ·have e:=ziI d f' q hq
   have:=he (q%k) (Nat.lt_of_lt_of_le (Nat.mod_lt _ (by lia)) (by lia))
   dsimp only at this ⊢
   rw[Nat.mod_mod,zjv S (Nat.mod_lt _ (by lia))]at this
   lia
 ·have hpn:isN pd=false:=by
   rcases hp with⟨_,_,_,_,_,_,rfl⟩|⟨_,_,_,rfl⟩|⟨_,_,_,rfl⟩<;>rfl
  simp! only[hpn]
  exact .inr ⟨fun r f=>rm ((zjI d sp).mpr ⟨r,f⟩),pd,hp,rfl⟩
noncomputable abbrev sh (a:Nat)(f:Nat->Int)(i:Nat):Int:=f (a+i)
theorem cutAB {n a c:Nat}(f:Nat->Int)(h:a+c<=n)(b:Int)(hb:b=((a+c:Nat):Int)):cutD (wI n f) (some (a:Int)) (some b)=wI c (sh a f):=by
 subst hb
 have:=cut_w (n:=n) (a:=a) (b:=c) (fun i=> .int (f i)) h
 rw[show((a:Int)+(c:Int))=((a+c:Nat):Int) by lia]at this
 exact this
section
variable {m n:Nat} {T L G:Nat->Int}
noncomputable def Fit (T L G:Nat->Int)(a c:Nat):Prop:=∃r,Fits 2 (c+1) (c+2) (sh a T) (sh a L) (sh a G) r
theorem dim2 (h:c<=22):Dim 2 (c+1) (c+2):=⟨by lia,by lia,by lia,by lia,by lia⟩
theorem zjD (hn:n=m+1){a c:Nat}(h:a+c<m)(b:Int)(hb:b=((a+c:Nat):Int)):Ok (za2 [zaz 2 m n T L G,.int a,.int b]) fun x=>x= .val (zaz 2 (c+1) (c+2) (sh a T) (sh a L) (sh a G)):=by
 have e1:=cutAB (n:=m) (a:=a) (c:=c+1) T (by lia) (b+1) (by lia)
 have e2:=cutAB (n:=n) (a:=a) (c:=c+2) L (by lia) (b+2) (by lia)
 have e3:=cutAB (n:=n) (a:=a) (c:=c+2) G (by lia) (b+2) (by lia)
 simp! only[↓za2,↓zdX,e1,e2,e3]
 rfl
theorem zol (d:Dim k s n)(S L G:Nat->Int):Ok (zaU [zaz k s n S L G]) fun x=>((∃r,Fits k s n S L G r)/\x= .val .non)\/((¬ ∃r,Fits k s n S L G r)/\∃l,x= .val (.tup l)):=by
 have k2:=d.k2
 have kn:=d.kn
 have n24:=d.n24
 have hs:=d.s
 obtain⟨lo,hi,sp,-⟩:=zlF (ask k S L) (ask k S G) (show 0<k by lia) kn
 simp! only[↓zaU,↓zdD]
 refine(znI d S L G).mono ?_
 rintro _ rfl
 simp! only[]
 refine(zlz d S L G).mono ?_
 rintro _ rfl
 simp! only[zaz,zat _ (show 0<s by lia)]
 refine(zmH (by lia) kn (by lia) (S 0) sp).mono ?_
 rintro _ (⟨h,rfl⟩|⟨h,pd,hp,rfl⟩)
 ·simp! only[];exact .inl ((zjI d sp).mp h)
 ·simp! only[]
  refine .inr ⟨fun z=>h ((zjI d sp).mpr z),?_⟩
  rcases hp with⟨a,b,_,_,_,_,rfl⟩|⟨pl,_,_,rfl⟩|⟨pl,_,_,rfl⟩<;>exact⟨_,rfl⟩
theorem fits_ok (hn:n=m+1)(m9:m<=23){a c:Nat}(h:a+c<m)(b:Int)(hb:b=((a+c:Nat):Int)):Ok (zbJ [zaz 2 m n T L G,.int a,.int b]) fun x=>∃z,x= .val (.bl z)/\(z=true↔Fit T L G a c):=by
 simp! only[↓zbJ,↓zdT]
 refine(zjD hn h b hb).mono ?_
 rintro _ rfl
 simp! only[]
 refine(zol (dim2 (c:=c) (by lia)) (sh a T) (sh a L) (sh a G)).mono ?_
 rintro _ (⟨f,rfl⟩|⟨f,l,rfl⟩)
 ·simp! only[]
  exact⟨true,rfl,⟨fun _=>f,fun _=>rfl⟩⟩
 ·simp! only[]
  exact⟨false,rfl,⟨fun z=>(by cases z),fun z=>absurd z f⟩⟩
noncomputable def cw (T r:Nat->Int)(x:Nat):Int:=sumR x fun i=>if r i+r (i+1)=T i then 0 else 1
theorem zey (T r:Nat->Int)(x:Nat):cw T r (x+1)=cw T r x+if r x+r (x+1)=T x then 0 else 1:=rfl
theorem zl5 {T r:Nat->Int}(x:Nat):∀c,cw T r x<=cw T r (x+c)
 |0=>Int.le_refl _
 |c+1=>by
  have:=zl5 (T:=T) (r:=r) x c
  rw[show x+(c+1)=x+c+1 by lia,zey]
  split<;>lia
theorem zj3 {T r r':Nat->Int}:∀x,(∀p,p<=x->r p=r' p)->cw T r x=cw T r' x
 |0,_=>rfl
 |x+1,h=>by
  rw[zey,zey,zj3 x fun p hp=>h p (by lia),h x (by lia),h (x+1) (by lia)]
theorem zpi {r:Nat->Int}(bx:∀p,p<n->L p<=r p/\r p<=G p)(h:a+c+1<n)(e:cw T r (a+(c+1))<=cw T r a):Fit T L G a c:=by
 have key:∀i,i<=c+1->cw T r (a+i)=cw T r a/\∀j,j<i->r (a+j)+r (a+j+1)=T (a+j):=fun i=>by
  induction i with
  |zero=>exact fun _=>⟨rfl,fun j hj=>by lia⟩
  |succ i ih=>
   intro hi
   obtain⟨h1,h2⟩:=ih (by lia)
   have h3:=zl5 (T:=T) (r:=r) (a+(i+1)) (c+1-(i+1))
   rw[show a+(i+1)+(c+1-(i+1))=a+(c+1) by lia]at h3
   have h4:=zey T r (a+i)
   have h5:r (a+i)+r (a+i+1)=T (a+i):=by
    by_cases z:r (a+i)+r (a+i+1)=T (a+i)
    ·exact z
    ·rw[if_neg z]at h4
     rw[show a+(i+1)=a+i+1 by lia]at h3
     lia
   rw[if_pos h5]at h4
   refine⟨by rw[show a+(i+1)=a+i+1 by lia];lia,fun j hj=>?_⟩
   by_cases z:j=i
   ·rw[z];exact h5
   ·exact h2 j (by lia)
 have k2:=(key (c+1) (Nat.le_refl _)).2
 refine⟨fun p=>r (a+p),fun p hp=>(bx (a+p) (by lia)).1,fun p hp=>(bx (a+p) (by lia)).2,fun i hi=>?_⟩
 show(0+r (a+(i+0)))+r (a+(i+1))=T (a+i)
 have:=k2 i (by lia)
 rw[show a+(i+1)=a+i+1 by lia,Nat.add_zero]
 lia
structure Gd (m n:Nat) (T L G:Nat->Int) (b a:Nat) (c:Nat):Prop where
 ab:a<=b
 low:∀r,(∀p,p<n->L p<=r p/\r p<=G p)->(c:Int)<=cw T r a
 up:(a=0/\c=0)\/(1<=a/\1<=c/\∃r,(∀p,p<a->L p<=r p/\r p<=G p)/\cw T r (a-1)+1<=c)
 fit:∀e,a+e<b->Fit T L G a e
theorem Gd.start:Gd m n T L G 0 0 0:=⟨Nat.le_refl _,fun r _=>Int.le_refl _,.inl ⟨rfl,rfl⟩,fun e h=>by lia⟩
theorem Gd.stay (g:Gd m n T L G b a c)(he:a+e=b)(f:Fit T L G a e):Gd m n T L G (b+1) a c:=
  ⟨by have:=g.ab;lia,g.low,g.up,fun e' h=>by
    by_cases z:e'=e
    . rw[z];exact f
    . exact g.fit e' (by lia)⟩
theorem Gd.row (le:∀p,p<n->L p<=G p)(g:Gd m n T L G b a c)(hb:b<n):∃r,(∀p,p<b+1->L p<=r p/\r p<=G p)/\cw T r b<=c:=by
 have seg:∃r':Nat->Int,(∀p,a<=p->p<=b->L p<=r' p/\r' p<=G p)/\∀i,a<=i->i<b->r' i+r' (i+1)=T i:=by
  by_cases z:a=b
  ·exact⟨L,fun p h1 h2=>⟨Int.le_refl _,le p (by lia)⟩,fun i h1 h2=>by lia⟩
  ·have ab:=g.ab
   obtain⟨r,f⟩:=g.fit (b-1-a) (by lia)
   refine⟨fun p=>r (p-a),fun p h1 h2=>?_,fun i h1 h2=>?_⟩
   ·have l1:=f.low (p-a) (by lia)
    have l2:=f.high (p-a) (by lia)
    rw[show sh a L (p-a)=L p from congrArg L (by lia)]at l1
    rw[show sh a G (p-a)=G p from congrArg G (by lia)]at l2
    exact⟨l1,l2⟩
   ·have l3:=f.sum (i-a) (by lia)
    rw[show sh a T (i-a)=T i from congrArg T (by lia)]at l3
    rw[<-l3]
    show r (i-a)+r (i+1-a)=(0+r (i-a))+r (i-a+1)
    rw[show i+1-a=i-a+1 by lia]
    lia
 obtain⟨r',b',s'⟩:=seg
 have ab:=g.ab
 have more:∀(r:Nat->Int) (x:Int),cw T r a<=x->(∀i,a<=i->i<b->r i+r (i+1)=T i)->cw T r b<=x:=fun r x h1 h2=>by
  have key:∀i,a+i<=b->cw T r (a+i)<=x:=fun i=>by
   induction i with
   |zero=>exact fun _=>h1
   |succ i ih=>
    intro hi
    have:=ih (by lia)
    rw[show a+(i+1)=a+i+1 by lia,zey,if_pos (h2 (a+i) (by lia) (by lia))]
    lia
  have:=key (b-a) (by lia)
  rw[show a+(b-a)=b by lia]at this
  exact this
 rcases g.up with⟨h1,h2⟩|⟨h1,h2,r,h3,h4⟩
 ·subst h1 h2
  exact⟨r',fun p hp=>b' p (by lia) (by lia),more r' _ (Int.le_refl _) s'⟩
 ·refine⟨fun p=>if p<a then r p else r' p,fun p hp=>?_,more _ _ ?_ fun i h5 h6=>?_⟩
  ·(try dsimp only)
   by_cases z:p<a
   ·rw[if_pos z];exact h3 p z
   ·rw[if_neg z];exact b' p (by lia) (by lia)
  ·obtain⟨a',rfl⟩:∃a',a=a'+1:=⟨a-1,by lia⟩
   rw[zey,zj3 (r':=r) a' fun p hp=>by(try dsimp only);rw[if_pos (by lia)]]
   rw[Nat.add_sub_cancel]at h4
   split<;>lia
  ·(try dsimp only)
   rw[if_neg (by lia),if_neg (by lia)];exact s' i h5 h6
theorem Gd.next (le:∀p,p<n->L p<=G p)(hn:n=m+1)(g:Gd m n T L G b a c)(hb:b<m)(he:a+e=b)(f:¬Fit T L G a e):Gd m n T L G (b+1) (b+1) (c+1):=by
 refine⟨Nat.le_refl _,fun r bx=>?_,.inr ⟨by lia,by lia,?_⟩,fun e h=>by lia⟩
 ·have h1:=g.low r bx
  rcases Int.lt_or_le (cw T r a) (cw T r (b+1))with h|h
  ·push_cast;lia
  ·exact absurd (zpi bx (by lia) (by rw[show a+(e+1)=b+1 by lia];exact h)) f
 ·obtain⟨r,h1,h2⟩:=g.row le (by lia)
  exact⟨r,h1,by rw[Nat.add_sub_cancel];push_cast;lia⟩
noncomputable abbrev pD2 (s:Nat×Nat):D:= .tup [.int (s.1:Nat),.int (s.2:Nat)]
noncomputable def Ch (T L G:Nat->Int):Nat->List (Nat×Nat)->Nat->Prop
 |a,[],e=>e=a
 |a,s::l,e=>s.1=a/\a<=s.2/\(∀x,a+x<s.2->Fit T L G a x)/\Ch T L G (s.2+1) l e
theorem Ch.snoc {T L G:Nat->Int}:∀{l:List (Nat×Nat)} {a e b:Nat},Ch T L G a l e->e<=b->(∀x,e+x<b->Fit T L G e x)->Ch T L G a (l++[(e,b)]) (b+1)
 |[],a,e,b,h,hb,hf=>by
  cases(show e=a from h)
  exact⟨rfl,hb,hf,rfl⟩
 |s::l,a,e,b,⟨h1,h2,h3,h4⟩,hb,hf=>⟨h1,h2,h3,Ch.snoc h4 hb hf⟩
theorem short_ok (hn:n=m+1)(m9:m<=23)(le:∀p,p<n->L p<=G p):Ok (zbb [zaz 2 m n T L G]) fun x=>∃l a,l.length<=m/\Gd m n T L G m a l.length/\Ch T L G 0 l a/\x= .own (l.map pD2):=by
 simp! only[↓zbb,↓zcw,↓zc0]
 refine⟨zaA (by lia) (by lia),zbG (fun b ρ=>∃(l:List (Nat×Nat)) (a:Nat) (z:Sl),l.length<=b/\Gd m n T L G b a l.length/\Ch T L G 0 l a/\ρ=[.val (zaz 2 m n T L G),.own (l.map pD2),.val (.int a),z]) ⟨[],0,_,Nat.le_refl _,Gd.start,rfl,rfl⟩ ?_ ?_⟩
 ·rintro b _ hb ⟨l,a,z,ll,g,ch,rfl⟩
  have ab:=g.ab
  obtain⟨e,he⟩:∃e,a+e=b:=⟨b-a,by lia⟩
  simp! only[↓zc6]
  refine(fits_ok hn m9 (a:=a) (c:=e) (by lia) (b:Int) (by lia)).mono ?_
  rintro _ ⟨z,rfl,hz⟩
  cases z with
  |true=>
   simp! only[]
   exact⟨l,a,_,by lia,g.stay he (hz.mp rfl),ch,rfl⟩
  |false=>
   have nf:¬Fit T L G a e:=fun f=>by have:=hz.mpr f;cases this
   simp! only[]
   refine⟨by lia,l++[(a,b)],b+1,.val (.int b),by simp;lia,?_,ch.snoc (by lia) fun x hx=>g.fit x hx,?_⟩
   ·rw[List.length_append];exact g.next le hn hb he nf
   ·rw[List.map_append];rfl
 ·rintro _ ⟨l,a,z,ll,g,ch,rfl⟩
  simp! only[]
  exact⟨l,a,ll,g,ch,rfl⟩
theorem part_ok (hn:n=m+1)(m9:m<=23){a b:Nat}(ab:a<=b)(hb:b<=m)(le:∀p,p<n->L p<=G p)(f:∀x,a+x<b->Fit T L G a x):Ok (zee [zaz 2 m n T L G,.int a,.int b]) fun x=>∃r:Nat->Int,(∀i,i<b+1-a->L (a+i)<=r i/\r i<=G (a+i))/\(∀i,a+i<b->r i+r (i+1)=T (a+i))/\x= .val (.tup (wI (b+1-a) r)):=by
 simp! only[↓zee,↓zhS]
 refine⟨fun z=>?_,fun z=>?_⟩
 ·have e1:=cutAB (n:=n) (a:=a) (c:=1) L (by lia) ((a:Int)+1) (by lia)
  simp! only[e1]
  refine⟨sh a L,fun i hi=>⟨Int.le_refl _,le _ (by lia)⟩,fun i hi=>by lia,?_⟩
  rw[show b+1-a=1 by lia]
 ·simp! only[↓zhf]
  refine(zjD hn (a:=a) (c:=b-1-a) (by lia) ((b:Int)-1) (by lia)).mono ?_
  rintro _ rfl
  simp! only[]
  refine(zk6 (dim2 (c:=b-1-a) (by lia)) (sh a T) (sh a L) (sh a G)).mono ?_
  rintro _ (⟨r,fr,_,rfl⟩|⟨nf,_⟩)
  ·simp! only[]
   refine⟨r,fun i hi=>⟨fr.low i (by lia),fr.high i (by lia)⟩,fun i hi=>?_,?_⟩
   ·have:=fr.sum i (by lia)
    rw[<-show win 2 r i=r i+r (i+1)from by show 0+r (i+0)+r (i+1)=_;rw[Int.zero_add];rfl]
    exact this
   ·rw[show b+1-a=b-1-a+2 by lia]
  ·obtain⟨r,fr⟩:=f (b-1-a) (by lia)
   exact absurd fr (nf r)
theorem app_w (a c:Nat)(f g:Nat->Int):wI a f++wI c g=wI (a+c) fun p=>if p<a then f p else g (p-a):=by
 apply List.ext_getElem?
 intro j
 by_cases hj:j<a
 ·rw[List.getElem?_append_left (by rw[zaT];exact hj),zat _ hj,zat _ (by lia)]
  show _=some (D.int (if j<a then f j else g (j-a)))
  rw[if_pos hj]
 ·rw[List.getElem?_append_right (by rw[zaT];lia),zaT]
  by_cases h2:j<a+c
  ·rw[zat _ (by lia),zat _ h2]
   show _=some (D.int (if j<a then f j else g (j-a)))
   rw[if_neg hj]
  ·rw[List.getElem?_eq_none (by rw[zaT];lia),List.getElem?_eq_none (by rw[zaT];lia)]
theorem zoV {T r:Nat->Int}:∀c,(∀x,a<=x->x<a+c->r x+r (x+1)=T x)->cw T r (a+c)=cw T r a
 |0,_=>rfl
 |c+1,h=>by
  rw[show a+(c+1)=a+c+1 from rfl,zey,zoV c fun x h1 h2=>h x h1 (by lia),if_pos (h (a+c) (by lia) (by lia))]
  lia
noncomputable def stA (a:Nat)(l:List (Nat×Nat)):Nat->Nat
 |0=>a
 |i+1=>(l.getD i (0,0)).2+1
theorem zmI (a:Nat)(s:Nat×Nat)(l:List (Nat×Nat))(i:Nat):stA a (s::l) (i+1)=stA (s.2+1) l i:=by cases i<;>rfl
theorem Ch.get {T L G:Nat->Int}:∀{l:List (Nat×Nat)} {a e:Nat},Ch T L G a l e->e=stA a l l.length/\∀i,i<l.length->stA a l i<=(l.getD i (0,0)).2/\∀x,stA a l i+x<(l.getD i (0,0)).2->Fit T L G (stA a l i) x
 |[],a,e,h=>⟨h,fun i hi=>by simp at hi⟩
 |s::l,a,e,⟨h1,h2,h3,h4⟩=>by
  obtain⟨e1,e2⟩:=Ch.get h4
  refine⟨by rw[List.length_cons,zmI];exact e1,fun i hi=>?_⟩
  cases i with
  |zero=>exact⟨h2,h3⟩
  |succ i=>rw[zmI];exact e2 i (by simpa using hi)
theorem znx (hn:n=m+1)(m9:m<=23)(le:∀p,p<n->L p<=G p){l:List (Nat×Nat)}{a:Nat}(ll:l.length<=m)(ch:Ch T L G 0 l a)(am:a<=m)(bm:∀i,i<l.length->(l.getD i (0,0)).2<=m)(ft:∀x,a+x<m->Fit T L G a x):Ok (zb9 [zaz 2 m n T L G,.tup (l.map fun s=> .int (s.2:Nat))]) fun x=>∃r,(∀p,p<n->L p<=r p/\r p<=G p)/\cw T r m<=l.length/\x= .val (.tup (wI n r)):=by
 obtain⟨ea,hc⟩:=ch.get
 simp! only[↓zb9,↓zeK,↓ze5]
 refine⟨by lia,?_⟩
 rw[show(l.map fun s=>D.int (s.2:Nat))++[.int (m:Nat)]=(l.map (·.2)++[m]).map fun b:Nat=>D.int (b:Nat) by rw[List.map_append,List.map_map];rfl]
 refine ziw (enc:=fun b:Nat=>D.int (b:Nat)) (l:=l.map (·.2)++[m]) (fun i ρ=>∃(r:Nat->Int) (a':Nat) (z:Sl),a'<=m+1/\(∀p,p<a'->L p<=r p/\r p<=G p)/\(∀x,x+1=a'->cw T r x+1<=(i:Nat))/\(i<=l.length->a'=stA 0 l i)/\(i=l.length+1->a'=m+1)/\ρ=[.val (zaz 2 m n T L G),.val (.tup (l.map fun s=> .int (s.2:Nat))),.val (.tup (wI a' r)),.val (.int a'),z]) ⟨fun _=>0,0,_,by lia,fun p h=>by lia,fun x h=>by lia,fun _=>rfl,fun h=>by lia,rfl⟩ ?_ ?_
 ·rintro i b _ hi ⟨r,a',z,a9,hr,hcw,ha,-,rfl⟩
  have il:i<l.length+1:=by
   have:=(List.getElem?_eq_some_iff.mp hi).1
   simpa using this
  have ha:=ha (by lia)
  have hb:a'<=b/\b<=m/\(∀x,a'+x<b->Fit T L G a' x)/\(i<l.length->b=(l.getD i (0,0)).2)/\(i=l.length->b=m):=by
   by_cases z:i<l.length
   ·have eb:b=(l.getD i (0,0)).2:=by
     rw[List.getElem?_append_left (by simpa using z),List.getElem?_map,List.getElem?_eq_getElem z]at hi
     rw[List.getD_eq_getElem?_getD,List.getElem?_eq_getElem z]
     exact(Option.some.inj hi).symm
    obtain⟨h1,h2⟩:=hc i z
    rw[ha,eb]
    exact⟨h1,bm i z,h2,fun _=>rfl,fun h=>by lia⟩
   ·have ei:i=l.length:=by lia
    have eb:b=m:=by
     rw[List.getElem?_append_right (by simp;lia)]at hi
     simp only[List.length_map,ei,Nat.sub_self]at hi
     exact(Option.some.inj hi).symm
    rw[ei,<-ea]at ha
    rw[ha,eb]
    exact⟨am,Nat.le_refl _,ft,fun h=>absurd h z,fun _=>rfl⟩
  obtain⟨h1,h2,h3,h4,h5⟩:=hb
  simp! only[↓zfc]
  refine(part_ok hn m9 h1 h2 le h3).mono ?_
  rintro _ ⟨r',hr',hs',rfl⟩
  simp! only[]
  rw[app_w,show a'+(b+1-a')=b+1 by lia]
  refine⟨by lia,_,b+1,.val (.int (b:Nat)),by lia,fun p hp=>?_,fun x hx=>?_,fun h6=>?_,fun h6=>by rw[h5 (by lia)],rfl⟩
  ·(try dsimp only)
   by_cases q:p<a'
   ·rw[if_pos q];exact hr p q
   ·rw[if_neg q]
    have:=hr' (p-a') (by lia)
    rwa[show a'+(p-a')=p by lia]at this
  ·obtain rfl:x=b:=by lia
   have e1:=zoV (T:=T) (r:=fun p=>if p<a' then r p else r' (p-a')) (a:=a') (x-a') fun y y1 y2=>by
    (try dsimp only)
    rw[if_neg (by lia),if_neg (by lia)]
    have:=hs' (y-a') (by lia)
    rwa[show y-a'+1=y+1-a' by lia,show a'+(y-a')=y by lia]at this
   rw[show a'+(x-a')=x by lia]at e1
   rw[e1]
   cases a' with
   |zero=>show(0:Int)+1<=_;lia
   |succ a''=>
    have e2:=zj3 (T:=T) (r:=fun p=>if p<a''+1 then r p else r' (p-(a''+1))) (r':=r) a'' fun p hp=>by(try dsimp only);rw[if_pos (by lia)]
    have e3:=hcw a'' rfl
    rw[zey,e2]
    split<;>lia
  ·rw[h4 (by lia)];rfl
 ·rintro _ ⟨r,a',z,a9,hr,hcw,ha,he,rfl⟩
  simp! only[]
  have he:=he (by simp)
  subst he
  have:=hcw m rfl
  rw[<-hn]
  refine⟨r,fun p hp=>hr p (by lia),?_,rfl⟩
  simp at this
  lia
theorem Ch.le {T L G:Nat->Int}:∀{l:List (Nat×Nat)} {a e:Nat},Ch T L G a l e->a<=e/\∀i,i<l.length->(l.getD i (0,0)).2<e
 |[],a,e,h=>⟨Nat.le_of_eq (show e=a from h).symm,fun i hi=>by simp at hi⟩
 |s::l,a,e,⟨h1,h2,h3,h4⟩=>by
  obtain⟨e1,e2⟩:=Ch.le h4
  refine⟨by lia,fun i hi=>?_⟩
  cases i with
  |zero=>show s.2<e;lia
  |succ i=>exact e2 i (by simpa using hi)
structure Few (m n:Nat) (T L G:Nat->Int) (c:Nat):Prop where
 low:∀r,(∀p,p<n->L p<=r p/\r p<=G p)->(c:Int)<=cw T r m
 up:∃r,(∀p,p<n->L p<=r p/\r p<=G p)/\cw T r m<=c
theorem twos_ok (hn:n=m+1)(m9:m<=23)(le:∀p,p<n->L p<=G p):Ok (zcJ [zaz 2 m n T L G]) fun x=>∃(l:List (Nat×Nat)) (r:Nat->Int) (d2:D),Few m n T L G l.length/\(∀p,p<n->L p<=r p/\r p<=G p)/\cw T r m<=l.length/\x= .val (.tup [.tup (l.map fun s=> .int (s.2:Nat)),.tup (wI n r),d2]):=by
 simp! only[↓zcJ,↓zfs,↓zfx]
 refine⟨fun z=>absurd rfl z,fun _=>?_⟩
 refine(short_ok hn m9 le).mono ?_
 rintro _ ⟨l,a,ll,g,ch,rfl⟩
 have am:=g.ab
 have chl:=ch.le
 simp! only[↓zfI]
 refine⟨by lia,zhX (enc:=pD2) (l:=l) (fun ρ=>∃a b,ρ=[a,b]) (fun s=> .int (s.2:Nat)) ⟨_,_,rfl⟩ ?_ ?_⟩
 ·rintro s _ hs ⟨a,b,rfl⟩
  simp! only[↓zfC,pD2]
  exact⟨_,_,rfl⟩
 rintro _ ⟨a1,b1,rfl⟩
 simp! only[]
 refine(znx hn m9 le ll ch am (fun i hi=>by have:=chl.2 i hi;lia) fun x hx=>g.fit x hx).mono ?_
 rintro _ ⟨r0,br,cr,rfl⟩
 simp! only[]
 refine⟨l,r0,_,⟨fun r bx=>?_,?_⟩,br,cr,rfl⟩
 ·have h1:=g.low r bx
  have h2:=zl5 (T:=T) (r:=r) a (m-a)
  rw[show a+(m-a)=m by lia]at h2
  lia
 ·obtain⟨r,h1,h2⟩:=g.row le (by lia)
  exact⟨r,fun p hp=>h1 p (by lia),h2⟩
end
theorem znC (x:Int):abs1 x=absI x:=rfl
noncomputable abbrev sqD (t:Bool)(n:Nat)(r:Nat->Int):D:=if t then .tup (wI n r)else .lst (wI n r)
section
variable {k m n:Nat} {T L G s r:Nat->Int}
theorem zlL (t:Bool)(hk:k<=n)(hn:n<=900):Ok (zcm [sqD t n r,.int k]) fun x=>x= .val (.tup (wI (n+1-k) (win k r))):=by
 have hl:((n:Int)-(k:Int)+1).toNat=n+1-k:=by lia
 have main:∀d,(d= .lst (wI n r)\/d= .tup (wI n r))->Ok (zcm [d,.int k]) fun x=>x= .val (.tup (wI (n+1-k) (win k r))):=fun d hd=>by
  have loop:∀(Q:Fl×R->Prop),(∀s,Q (.next,[.val d,.val (.int k),.own (wI (n+1-k) (win k r)),s]))->Ok (forM (fun d ρ=>(gN 3 d ρ).bind fun ρ'=>zdZ ρ') (wL (n+1-k) fun i=> .int (i:Nat)) [.val d,.val (.int k),.own [],.emp]) Q:=fun Q hQ=>by
   refine zbG (fun i ρ=>∃s,ρ=[.val d,.val (.int k),.own (wI i (win k r)),s]) ⟨_,rfl⟩ ?_ ?_
   ·rintro i _ hi ⟨s,rfl⟩
    simp! only[↓zdZ,↓zgr]
    refine⟨zaA (by lia) (by lia),by lia,zaF (fun ρ=>∃s,ρ=[.val d,.val (.int i),s]) (fun j=> .int (r (i+j))) ⟨_,rfl⟩ ?_ ?_⟩
    ·rintro j _ hj ⟨s,rfl⟩
     have e:((i:Int)+(j:Int))=((i+j:Nat):Int):=by lia
     rcases hd with rfl|rfl<;>
     ·simp! only[↓zgE,e,zat _ (show i+j<n by lia)]
      exact⟨_,rfl⟩
    ·rintro _ ⟨s,rfl⟩
     simp! only[zcC,zbI]
     exact⟨by lia,_,by rw[show wI (i+1) (win k r)=_ from zdL _ _];rfl⟩
   ·rintro _ ⟨s,rfl⟩
    exact hQ s
  rcases hd with rfl|rfl<;>
  ·simp! only[↓zcm,↓zgU,↓zgG,hl]
   refine⟨zaA (by lia) (by lia),loop _ fun s=>?_⟩
   simp! only[]
 cases t
 ·exact main _ (.inl rfl)
 ·exact main _ (.inr rfl)
end
noncomputable def Pot (ds:List D):Prop:=∃p:Int,ds=[.int p]
theorem za8 (h:Pot ds){m:Int}(h0:0<m)(h1:m<2^250):Ok (zaq ds [.int m]) fun r=>∃(i:Nat) (ds':List D),(i:Int)<m/\Pot ds'/\r=(.val (.int i),ds'):=by
 obtain⟨p,rfl⟩:=h
 simp! only[↓zaq,↓zg0]
 have m0:=Int.emod_nonneg p (Int.ne_of_gt h0)
 refine⟨h0,znV h0 h1,(p%m).toNat,[.int (p/m)],?_,⟨_,rfl⟩,?_⟩
 ·have:=Int.emod_lt_of_pos p h0;lia
 ·rw[show(((p%m).toNat:Nat):Int)=p%m by lia]
structure LineOk (k s n:Nat) (L G:Nat->Int):Prop where
 k2:2<=k
 k5:k<=5
 kn:k<=n
 n24:n<=24
 s:n+1=s+k
 le:∀p,p<n->L p<=G p
 far:∀p,p<n->G p-L p<2^240
theorem zkT {t c a b:Int}(h0:0<=t)(h1:t<=a)(g0:0<=c)(g1:c<=b)(ha:0<=a):0<=t*c/\t*c<=a*b:=
 ⟨Int.mul_nonneg h0 g0,Int.mul_le_mul h1 g1 g0 ha⟩
noncomputable def Sc (n:Nat)(c:Nat->Int):Prop:=∀p,p<n->0<=c p/\c p<=1000000000000000000000000000000000000000000000000000000000
theorem lp_bend (h:Pot ds)(s n t:Nat)(hs:0<s)(hsn:s<=n)(hn:n<=24)(ht:t<=24)(S sc:Nat->Int)(a1 a2 a3 a4 a5 a7 a8 a9 a11 a12:Sl)
  (hQ:∀(ds':List D) (S:Nat->Int) (a11 a12:Sl),Pot ds'->Q (.next,[.par ds',a1,a2,a3,a4,a5,.val (.lst (wI n sc)),a7,a8,a9,.own (wI s S),a11,a12])):
  Ok (forM (fun d ρ=>(gN 11 d ρ).bind fun ρ'=>zdU ρ') (wL t fun i=> .int (i:Nat)) [.par ds,a1,a2,a3,a4,a5,.val (.lst (wI n sc)),a7,a8,a9,.own (wI s S),a11,a12]) Q:=by
 refine zbG (fun i ρ=>∃(ds':List D) (S:Nat->Int) (a11 a12:Sl),Pot ds'/\ρ=[.par ds',a1,a2,a3,a4,a5,.val (.lst (wI n sc)),a7,a8,a9,.own (wI s S),a11,a12]) ⟨ds,S,_,_,h,rfl⟩ ?_ ?_
 ·rintro i _ hi ⟨d1,S,a11,a12,h1,rfl⟩
  simp! only[↓zdU]
  refine(za8 h1 (m:=(s:Int)) (by lia) (by lia)).mono ?_
  rintro _ ⟨at',d2,hat,h2,rfl⟩
  simp! only[zat _ (show at'<s by lia)]
  refine(za8 h2 (m:=9) (by lia) (by lia)).mono ?_
  rintro _ ⟨x,d3,hx,h3,rfl⟩
  simp! only[zat _ (show at'<n by lia)]
  refine(za8 h3 (m:=2) (by lia) (by lia)).mono ?_
  rintro _ ⟨y,d4,hy,h4,rfl⟩
  have hy':∃z:Int,[D.int 1,D.int (sc at')][y]? =some (.int z):=by
   have:y=0\/y=1:=by lia
   rcases this with rfl|rfl<;>exact⟨_,rfl⟩
  obtain⟨z,ez⟩:=hy'
  simp! only[ez,wI_set _ _ (show at'<s by lia),show at'<s by lia]
  exact⟨zcs (by lia),d4,_,_,_,h4,rfl⟩
 ·rintro _ ⟨d1,S,a11,a12,h1,rfl⟩
  exact hQ d1 S a11 a12 h1
theorem zla (h:Pot ds)(k most wide n:Nat)(k2:2<=k)(k5:k<=5)(kn:k<=n)(n24:n<=24)(w1:1<=wide)(w2:wide<=5)(great:Int)(sc:Nat->Int)(hsc:Sc n sc)(hQ:∀(s:Nat) (S L G:Nat->Int) (ds':List D) (a:List Sl),Pot ds'->LineOk k s n L G->Q (.ret (.val (zaz k s n S L G)),.par ds'::a)):
  Ok (zd4 [.par ds,.val (.int k),.val (.int most),.val (.int wide),.val (.int n),.val (.int great),.val (.lst (wI n sc)),.emp,.emp,.emp,.emp,.emp,.emp]) Q:=by
 simp! only[↓zd4,↓zgO]
 refine⟨by lia,zfz (fun i acc ρ=>∃(f:Nat->Int) (ds':List D) (s:Sl),Pot ds'/\acc=wI i f/\ρ=[.par ds',s]) ⟨fun _=>0,ds,.emp,h,rfl,rfl⟩ ?_ ?_⟩
 ·rintro i _ _ hi ⟨f,d1,s,h1,rfl,rfl⟩
  simp! only[↓zgM]
  refine(za8 h1 (m:=9) (by lia) (by lia)).mono ?_
  rintro _ ⟨t,d2,ht,h2,rfl⟩
  simp! only[]
  exact⟨zjP (by lia),_,d2,_,h2,zhK i f _,rfl⟩
 rintro _ _ ⟨R,d1,s,h1,rfl,rfl⟩
 simp! only[↓zgt,zgX]
 refine⟨by lia,zfz (fun i acc ρ=>∃(f:Nat->Int) (ds':List D) (s s':Sl),Pot ds'/\(∀j,j<i->f j<=R j/\R j-f j<=4*1000000000000000000000000000000000000000000000000000000000)/\acc=wI i f/\ρ=[.par ds',.val (.int wide),s,s']) ⟨fun _=>0,d1,.emp,.emp,h1,fun _ h=>by lia,rfl,rfl⟩ ?_ ?_⟩
 ·rintro i _ _ hi ⟨f,d2,s,s',h2,b,rfl,rfl⟩
  simp! only[↓zgx]
  refine(za8 h2 (m:=(wide:Int)) (by lia) (by lia)).mono ?_
  rintro _ ⟨t,d3,ht,h3,rfl⟩
  simp! only[]
  refine⟨zcs (by lia),_,d3,_,_,h3,?_,zhK i f _,rfl⟩
  intro j hj
  split
  ·rename_i hji;exact b j hji
  ·have e:j=i:=by lia
   subst e
   have:=zkT (t:=(t:Int)) (a:=4) (by lia) (by lia) (hsc j (by lia)).1 (hsc j (by lia)).2 (by lia)
   lia
 rintro _ _ ⟨L,d2,s,s',h2,bL,rfl,rfl⟩
 simp! only[↓zgn,zgX]
 refine⟨by lia,zfz (fun i acc ρ=>∃(f:Nat->Int) (ds':List D) (s s':Sl),Pot ds'/\(∀j,j<i->R j<=f j/\f j-R j<=4*1000000000000000000000000000000000000000000000000000000000)/\acc=wI i f/\ρ=[.par ds',.val (.int wide),s,s']) ⟨fun _=>0,d2,.emp,.emp,h2,fun _ h=>by lia,rfl,rfl⟩ ?_ ?_⟩
 ·rintro i _ _ hi ⟨f,d3,s,s',h3,b,rfl,rfl⟩
  simp! only[↓zgD]
  refine(za8 h3 (m:=(wide:Int)) (by lia) (by lia)).mono ?_
  rintro _ ⟨t,d4,ht,h4,rfl⟩
  simp! only[]
  refine⟨zcs (by lia),_,d4,_,_,h4,?_,zhK i f _,rfl⟩
  intro j hj
  split
  ·rename_i hji;exact b j hji
  ·have e:j=i:=by lia
   subst e
   have:=zkT (t:=(t:Int)) (a:=4) (by lia) (by lia) (hsc j (by lia)).1 (hsc j (by lia)).2 (by lia)
   lia
 rintro _ _ ⟨G,d3,s,s',h3,bG,rfl,rfl⟩
 simp! only[]
 refine(zlL false (r:=R) (by lia) (by lia)).mono ?_
 rintro _ rfl
 simp! only[↓zgp]
 refine(za8 h3 (m:=4) (by lia) (by lia)).mono ?_
 rintro _ ⟨w,d4,hw,h4,rfl⟩
 have hw':∃t:Nat,t<=24/\[D.int 0,D.int 1,D.int 3,D.int ((n+1-k:Nat):Int)][w]? =some (.int t):=by
  have:w=0\/w=1\/w=2\/w=3:=by lia
  rcases this with rfl|rfl|rfl|rfl
  ·exact⟨0,by lia,rfl⟩
  ·exact⟨1,by lia,rfl⟩
  ·exact⟨3,by lia,rfl⟩
  ·exact⟨n+1-k,by lia,rfl⟩
 obtain⟨t,ht,et⟩:=hw'
 simp! only[et]
 refine⟨zaA (by lia) (by lia),lp_bend h4 (n+1-k) n t (by lia) (by lia) (by lia) ht _ _ _ _ _ _ _ _ _ _ _ _ ?_⟩
 intro d5 S a11 a12 h5
 simp! only[]
 refine hQ (n+1-k) S L G d5 _ h5 ⟨k2,k5,by lia,by lia,by lia,fun p hp=>?_,fun p hp=>?_⟩
 ·have:=bL p hp;have:=bG p hp;lia
 ·have:=bL p hp;have:=bG p hp;lia
theorem zpn (h:Pot ds)(k most wide:Nat)(k2:2<=k)(k5:k<=5)(q1:k<=most)(q2:most<=24)(w1:1<=wide)(w2:wide<=5):
  Ok (zbP ds [.int k,.int most,.int wide]) fun r=>∃(s n:Nat) (S L G:Nat->Int) (ds':List D),Pot ds'/\LineOk k s n L G/\r=(.val (zaz k s n S L G),ds'):=by
 simp! only[↓zbP,↓zg1]
 refine(za8 h (m:=(most:Int)-k+1) (by lia) (by lia)).mono ?_
 rintro _ ⟨x,d1,hx,h1,rfl⟩
 simp! only[]
 refine(za8 h1 (m:=4) (by lia) (by lia)).mono ?_
 rintro _ ⟨y,d2,hy,h2,rfl⟩
 have hy':∃z:Int,(0<=z/\z<=1000000000000000000000000000000000000000000000000000000000)/\[D.int 1,D.int 1,D.int 1,D.int 1000000000000000000000000000000000000000000000000000000000][y]? =some (.int z):=by
  have:y=0\/y=1\/y=2\/y=3:=by lia
  rcases this with rfl|rfl|rfl|rfl<;>exact⟨_,by decide,rfl⟩
 obtain⟨great,hg,eg⟩:=hy'
 rw[show(k:Int)+(x:Int)=((k+x:Nat):Int) by lia]
 generalize hnn:k+x=n
 simp! only[eg,rep_w]
 refine⟨by lia,?_⟩
 refine(za8 h2 (m:=4) (by lia) (by lia)).mono ?_
 rintro _ ⟨c,d3,hc,h3,rfl⟩
 simp! only[]
 refine⟨fun hz=>?_,fun hz=>?_⟩
 ·simp! only[↓zgu]
  refine⟨zaA (by lia) (by lia),by lia,zfz (fun i acc ρ=>∃(f:Nat->Int) (ds':List D) (s:Sl),Pot ds'/\Sc i f/\acc=wI i f/\ρ=[.val (.int great),.par ds',s]) ⟨fun _=>0,d3,.emp,h3,fun _ h=>by lia,rfl,rfl⟩ ?_ ?_⟩
  ·rintro i _ _ hi ⟨f,d4,s,h4,b,rfl,rfl⟩
   simp! only[↓zgy]
   refine(za8 h4 (m:=4) (by lia) (by lia)).mono ?_
   rintro _ ⟨t,d5,ht,h5,rfl⟩
   have ht':∃z:Int,(0<=z/\z<=1000000000000000000000000000000000000000000000000000000000)/\[D.int 1,D.int 1000,D.int 1000000000000000000000000000000,D.int great][t]? =some (.int z):=by
    have:t=0\/t=1\/t=2\/t=3:=by lia
    rcases this with rfl|rfl|rfl|rfl
    ·exact⟨_,by decide,rfl⟩
    ·exact⟨_,by decide,rfl⟩
    ·exact⟨_,by decide,rfl⟩
    ·exact⟨_,hg,rfl⟩
   obtain⟨z,hz,ez⟩:=ht'
   simp! only[ez]
   refine⟨_,d5,_,h5,fun j hj=>?_,zhK i f _,rfl⟩
   split
   ·rename_i hji;exact b j hji
   ·exact hz
  rintro _ _ ⟨sc,d4,s,h4,b,rfl,rfl⟩
  simp! only[]
  refine zla h4 k most wide n k2 k5 (by lia) (by lia) w1 w2 great sc b fun s S L G d5 a h5 ok=>?_
  simp! only[]
  exact⟨s,n,S,L,G,d5,h5,ok,rfl⟩
 ·refine zla h3 k most wide n k2 k5 (by lia) (by lia) w1 w2 great (fun _=>great) (fun _ _=>hg) fun s S L G d5 a h5 ok=>?_
  simp! only[]
  exact⟨s,n,S,L,G,d5,h5,ok,rfl⟩
noncomputable abbrev sg (w:List Int)(i:Nat):Int:=w.getD i 0
noncomputable def cnP (k:Nat)(s:Nat->Int)(p:Nat):Int:=sumR k fun j=>if j<=p then s (p-j)else 0
noncomputable def most (L G:Nat->Int)(p:Nat)(c:Int):Int:=c*(if 0<c then G p else L p)
noncomputable def zcr (k m:Nat)(T L G:Nat->Int)(s:Nat->Int)(n:Nat):Int:=sumR n fun p=>(if p<m then s p*T p else 0)-most L G p (cnP k s p)
structure Sgn (m n:Nat) (w:List Int):Prop where
 len:w.length=n
 rng:∀i,i<n->sg w i= -1\/sg w i=0\/sg w i=1
 out:∀i,m<=i->sg w i=0
theorem zjs (w:List Int)(x:Int)(h:i<w.length):sg (w++[x]) i=sg w i:=by
 unfold sg
 rw[List.getD_eq_getElem?_getD,List.getD_eq_getElem?_getD,List.getElem?_append_left h]
theorem zk5 (w:List Int)(x:Int):sg (w++[x]) w.length=x:=by
 unfold sg
 rw[List.getD_eq_getElem?_getD,List.getElem?_append_right (Nat.le_refl _)]
 simp
theorem zkt (w:List Int)(h:w.length<=i):sg w i=0:=by
 unfold sg
 rw[List.getD_eq_getElem?_getD,List.getElem?_eq_none h]
 rfl
theorem znE {s t:Nat->Int}(h:∀i,i<=p->p<i+k->s i=t i):cnP k s p=cnP k t p:=zan fun j hj=>by
 split
 ·rename_i z;exact h _ (by lia) (by lia)
 ·rfl
theorem zi1 {T L G s t:Nat->Int}(h:∀i,i<n->s i=t i):zcr k m T L G s n=zcr k m T L G t n:=zan fun p hp=>by
 rw[h p hp,znE fun i hi _=>h i (by lia)]
theorem zjn {T L G:Nat->Int}(w:List Int)(x:Int):zcr k m T L G (sg (w++[x])) (w.length+1)=zcr k m T L G (sg w) w.length+((if w.length<m then x*T w.length else 0)-most L G w.length (cnP k (sg (w++[x])) w.length)):=by
 show zcr k m T L G (sg (w++[x])) w.length+_=_
 rw[zi1 (s:=sg (w++[x])) (t:=sg w) fun i hi=>zjs w x hi]
 (try dsimp only)
 rw[zk5]
noncomputable def zfk (k:Nat)(w:List Int):List Int:=(List.replicate (k-1) 0++w).drop w.length
theorem zfU (k:Nat)(w:List Int):(zfk k w).length=k-1:=by
 unfold zfk
 rw[List.length_drop,List.length_append,List.length_replicate]
 lia
theorem ziz (w:List Int)(hj:j<k-1):sg (zfk k w) j=if k-1<=w.length+j then sg w (w.length+j-(k-1))else 0:=by
 unfold zfk sg
 rw[List.getD_eq_getElem?_getD,List.getElem?_drop]
 by_cases z:k-1<=w.length+j
 ·rw[if_pos z,List.getElem?_append_right (by rw[List.length_replicate];exact z),List.length_replicate,List.getD_eq_getElem?_getD]
 ·rw[if_neg z,List.getElem?_append_left (by rw[List.length_replicate];lia),List.getElem?_replicate,if_pos (by lia)]
  rfl
theorem zjz (k1:1<=k)(w:List Int)(x:Int):zfk k (w++[x])=(zfk k w++[x]).drop 1:=by
 unfold zfk
 rw[List.length_append,List.length_singleton,<-List.append_assoc,<-List.drop_append_of_le_length (l₂:=[x]) (by rw[List.length_append];lia),List.drop_drop]
theorem zhJ (f:Nat->Int)(m:Nat):sumR (m+1) f=f 0+sumR m fun i=>f (i+1):=by
 have:=zbA f 1 m
 rw[Nat.add_comm 1 m]at this
 rw[this,zan (f:=fun i=>f (1+i)) (g:=fun i=>f (i+1)) fun i _=>by rw[Nat.add_comm]]
 show 0+f 0+_=_
 lia
theorem zmO:∀(l:List Int),l.sum=sumR l.length fun i=>sg l i
 |[]=>rfl
 |a::l=>by
  rw[List.sum_cons,zmO l,List.length_cons]
  have:=zhJ (fun i=>sg (a::l) i) l.length
  rw[this]
  rfl
theorem zjS (f:Nat->Int):∀n,sumR n f=sumR n fun i=>f (n-1-i)
 |0=>rfl
 |n+1=>by
  rw[zhJ (fun i=>f (n+1-1-i)) n]
  show sumR n f+f n=_
  rw[zjS f n,zan (f:=fun i=>f (n+1-1-(i+1))) (g:=fun i=>f (n-1-i)) fun i hi=>by rw[show n+1-1-(i+1)=n-1-i by lia]]
  rw[show n+1-1-0=n by lia]
  lia
theorem zjT (k1:1<=k)(w:List Int)(x:Int):(zfk k w++[x]).sum=cnP k (sg (w++[x])) w.length:=by
 obtain⟨k',rfl⟩:∃k',k=k'+1:=⟨k-1,by lia⟩
 unfold cnP
 rw[List.sum_append,zmO,zfU,zhJ _ k',if_pos (Nat.zero_le _),Nat.sub_zero,zk5,Nat.add_sub_cancel,zjS _ k']
 rw[zan (f:=fun i=>sg (zfk (k'+1) w) (k'-1-i)) (g:=fun i=>if i+1<=w.length then sg (w++[x]) (w.length-(i+1))else 0) fun i hi=>by
  rw[ziz w (show k'-1-i<k'+1-1 by lia)]
  by_cases z:i+1<=w.length
  ·rw[if_pos z,if_pos (by lia),zjs _ _ (by lia)]
   congr 1
   lia
  ·rw[if_neg z,if_neg (by lia)]]
 simp
 lia
structure Dp (k m:Nat) (T L G:Nat->Int) (p:Nat) (ks:List (List Int)) (f:List Int->Int×List Int):Prop where
 nd:ks.Nodup
 ok:∀r,r∈ks->Sgn m p (f r).2/\zfk k (f r).2=r/\zcr k m T L G (sg (f r).2) p=(f r).1
 all:∀w,Sgn m p w->zfk k w∈ks/\zcr k m T L G (sg w) p<=(f (zfk k w)).1
theorem Dp.start {T L G:Nat->Int}:Dp k m T L G 0 [List.replicate (k-1) 0] (fun _=>(0,[])) where
 nd:=by simp
 ok:=fun r hr=>by
  have:r=List.replicate (k-1) 0:=by simpa using hr
  subst this
  exact⟨⟨rfl,fun i hi=>by lia,fun i _=>rfl⟩,by unfold zfk;simp,rfl⟩
 all:=fun w hw=>by
  have:w=[]:=List.length_eq_zero_iff.mp hw.len
  subst this
  exact⟨by unfold zfk;simp,Int.le_refl _⟩
section
variable {J:Type} [DecidableEq J]
theorem pk_nd {x:J}{ks:List J}(h:ks.Nodup):(pkJ x ks).Nodup:=by
 unfold pkJ
 by_cases q:x∈ks
 ·rw[if_pos q];exact h
 ·rw[if_neg q,List.nodup_append]
  refine⟨h,by simp,fun y hy z hz=>?_⟩
  have:z=x:=by simpa using hz
  subst this
  exact fun e=>q (e ▸ hy)
end
section
variable {k m:Nat} {T L G:Nat->Int} {p:Nat} {ks:List (List Int)} {f:List Int->Int×List Int}
noncomputable def vl (m:Nat)(T L G:Nat->Int)(p:Nat)(f:List Int->Int×List Int)(r:List Int)(x:Int):Int:=(f r).1+(if p<m then x*T p else 0)-most L G p (r++[x]).sum
structure Dq (k m:Nat) (T L G:Nat->Int) (p:Nat) (f:List Int->Int×List Int) (P:List (List Int×Int)) (ks':List (List Int)) (f':List Int->Int×List Int):Prop where
 nd:ks'.Nodup
 ok:∀r,r∈ks'->Sgn m (p+1) (f' r).2/\zfk k (f' r).2=r/\zcr k m T L G (sg (f' r).2) (p+1)=(f' r).1
 cov:∀r x,(r,x)∈P->(r++[x]).drop 1∈ks'/\vl m T L G p f r x<=(f' ((r++[x]).drop 1)).1
theorem Dq.start:Dq k m T L G p f [] [] f where
 nd:=by simp
 ok:=fun r h=>by cases h
 cov:=fun r x h=>by cases h
theorem Sgn.snoc (h:Sgn m p w)(hx:x= -1\/x=0\/x=1)(hm:m<=p->x=0):Sgn m (p+1) (w++[x]):=by
 have hl:=h.len
 refine⟨by simp[hl],fun i hi=>?_,fun i hi=>?_⟩
 ·by_cases z:i<p
  ·rw[zjs _ _ (by lia)];exact h.rng i z
  ·have:i=w.length:=by lia
   subst this
   rw[zk5];exact hx
 ·by_cases z:i<p
  ·rw[zjs _ _ (by lia)];exact h.out i hi
  ·by_cases e:i=w.length
   ·subst e
    rw[zk5];exact hm (by lia)
   ·exact zkt _ (by rw[List.length_append,List.length_singleton];lia)
theorem vl_worth (k1:1<=k)(b:Dp k m T L G p ks f){r:List Int}(hr:r∈ks)(x:Int):zcr k m T L G (sg ((f r).2++[x])) (p+1)=vl m T L G p f r x/\zfk k ((f r).2++[x])=(r++[x]).drop 1:=by
 obtain⟨h1,h2,h3⟩:=b.ok r hr
 have e:=zjn (k:=k) (m:=m) (T:=T) (L:=L) (G:=G) (f r).2 x
 rw[h1.len]at e
 rw[zjz k1,h2]
 refine⟨?_,rfl⟩
 rw[e,h3]
 unfold vl
 have hs:=zjT k1 (f r).2 x
 rw[h2,h1.len]at hs
 rw[hs]
 lia
theorem Dq.stay (q:Dq k m T L G p f P ks' f'){r:List Int}(h:(r++[x]).drop 1∈ks')(l:vl m T L G p f r x<=(f' ((r++[x]).drop 1)).1):Dq k m T L G p f (P++[(r,x)]) ks' f' where
 nd:=q.nd
 ok:=q.ok
 cov:=fun r' x' hm=>by
  rcases List.mem_append.mp hm with z|z
  ·exact q.cov r' x' z
  ·have:(r',x')=(r,x):=by simpa using z
   cases this
   exact⟨h,l⟩
theorem Dq.put (k1:1<=k)(b:Dp k m T L G p ks f)(q:Dq k m T L G p f P ks' f'){r:List Int}(hr:r∈ks)(hx:x= -1\/x=0\/x=1)(hm:m<=p->x=0)(h:(r++[x]).drop 1∈ks'->(f' ((r++[x]).drop 1)).1<vl m T L G p f r x):
  Dq k m T L G p f (P++[(r,x)]) (pkJ ((r++[x]).drop 1) ks') (fun y=>if y=(r++[x]).drop 1 then(vl m T L G p f r x,(f r).2++[x])else f' y) where
 nd:=pk_nd q.nd
 ok:=fun y hy=>by
  by_cases e:y=(r++[x]).drop 1
  ·rw[if_pos e]
   obtain⟨a,c⟩:=vl_worth k1 b hr x
   exact⟨(b.ok r hr).1.snoc hx hm,by rw[c,e],a⟩
  ·rw[if_neg e]
   exact q.ok y ((pk_mem.mp hy).elim id fun z=>absurd z e)
 cov:=fun r' x' hmm=>by
  rcases List.mem_append.mp hmm with z|z
  ·obtain⟨a,c⟩:=q.cov r' x' z
   refine⟨pk_mem.mpr (.inl a),?_⟩
   by_cases e:(r'++[x']).drop 1=(r++[x]).drop 1
   ·rw[if_pos e]
    have:=h (e ▸ a)
    rw[e]at c
    lia
   ·rw[if_neg e];exact c
  ·have:(r',x')=(r,x):=by simpa using z
   cases this
   exact⟨pk_mem.mpr (.inr rfl),by rw[if_pos rfl];exact Int.le_refl _⟩
theorem Dq.done (k1:1<=k)(b:Dp k m T L G p ks f)(q:Dq k m T L G p f P ks' f')(all:∀r x,r∈ks->(x= -1\/x=0\/x=1)->(m<=p->x=0)->(r,x)∈P):Dp k m T L G (p+1) ks' f' where
 nd:=q.nd
 ok:=q.ok
 all:=fun w hw=>by
  have hn:w≠[]:=fun z=>by have:=hw.len;rw[z]at this;simp at this
  have ew:w=w.dropLast++[w.getLast hn]:=(List.dropLast_concat_getLast hn).symm
  have el:w.dropLast.length=p:=by rw[List.length_dropLast,hw.len];lia
  generalize w.dropLast=v at ew el
  generalize w.getLast hn=x at ew
  subst ew
  have hv:Sgn m p v:=⟨el,fun i hi=>by
   have:=hw.rng i (by lia)
   rwa[zjs _ _ (by lia)]at this,fun i hi=>by
   by_cases z:i<p
   ·have:=hw.out i hi
    rwa[zjs _ _ (by lia)]at this
   ·exact zkt _ (by lia)⟩
  have hx:=hw.rng p (by lia)
  have hm:=hw.out p
  rw[<-el,zk5]at hx hm
  obtain⟨a1,a2⟩:=b.all v hv
  obtain⟨c1,c2⟩:=q.cov _ _ (all _ x a1 hx (by rw[el]at hm;exact hm))
  rw[zjz k1]
  refine⟨c1,?_⟩
  have e:=zjn (k:=k) (m:=m) (T:=T) (L:=L) (G:=G) v x
  rw[el]at e
  rw[e]
  unfold vl at c2
  have hs:=zjT k1 v x
  rw[el]at hs
  rw[hs]at c2
  lia
end
theorem zaW:∀n,sumR n (fun _=>(0:Int))=0
 |0=>rfl
 |n+1=>by show sumR n (fun _=>(0:Int))+0=0;rw[zaW n];rfl
theorem za5 (f g:Nat->Int):∀n,sumR n (fun i=>f i+g i)=sumR n f+sumR n g
 |0=>rfl
 |n+1=>by
  have:=za5 f g n
  show sumR n (fun i=>f i+g i)+(f n+g n)=sumR n f+f n+(sumR n g+g n)
  lia
theorem zcG (f:Nat->Nat->Int)(b:Nat):∀a,(sumR a fun i=>sumR b fun j=>f i j)=sumR b fun j=>sumR a fun i=>f i j
 |0=>by show(0:Int)=_;rw[show(fun j:Nat=>sumR 0 fun i=>f i j)=fun _=>(0:Int)from rfl,zaW]
 |a+1=>by
  show(sumR a fun i=>sumR b fun j=>f i j)+(sumR b fun j=>f a j)=sumR b fun j=>(sumR a fun i=>f i j)+f a j
  rw[zcG f b a,<-za5]
theorem zc7 (f:Nat->Int)(c:Int):∀n,sumR n (fun i=>f i*c)=sumR n f*c
 |0=>by show(0:Int)=0*c;rw[Int.zero_mul]
 |n+1=>by
  show sumR n (fun i=>f i*c)+f n*c=(sumR n f+f n)*c
  rw[zc7 f c n,Int.add_mul]
theorem zgi:∀n,(sumR n fun j=>if j=e then x else 0)=if e<n then x else 0
 |0=>rfl
 |n+1=>by
  show(sumR n fun j=>if j=e then x else 0)+(if n=e then x else 0)=_
  rw[zgi n]
  by_cases a:e<n
  ·rw[if_pos a,if_neg (by lia),if_pos (by lia)];lia
  ·by_cases c:n=e
   ·rw[if_neg a,if_pos c,if_pos (by lia)];lia
   ·rw[if_neg a,if_neg c,if_neg (by lia)];rfl
theorem zj2:cnP k (fun i=>if i=e then x else 0) p=if e<=p/\p<e+k then x else 0:=by
 unfold cnP
 by_cases h:e<=p
 ·rw[zan (f:=fun j=>if j<=p then(if p-j=e then x else 0)else 0) (g:=fun j=>if j=p-e then x else 0) fun j _=>?_,zgi]
  ·by_cases z:p<e+k
   ·rw[if_pos (by lia),if_pos ⟨h,z⟩]
   ·rw[if_neg (by lia),if_neg fun q=>z q.2]
  ·by_cases a:j=p-e
   ·rw[if_pos (by lia),if_pos (by lia),if_pos a]
   ·rw[if_neg a]
    split
    ·rw[if_neg (by lia)]
    ·rfl
 ·rw[if_neg fun q=>h q.1,zan (g:=fun _=>0) fun j _=>?_,zaW]
  (try dsimp only)
  split
  ·rw[if_neg (by lia)]
  ·rfl
theorem cnP_sum (c:Nat)(f:Nat->Nat->Int):cnP k (fun e=>sumR c fun i=>f i e) p=sumR c fun i=>cnP k (f i) p:=by
 unfold cnP
 rw[zcG]
 refine zan fun j _=>?_
 split
 ·rfl
 ·rw[zaW]
theorem cnP_sub (s g:Nat->Int):cnP k (fun e=>s e-g e) p=cnP k s p-cnP k g p:=by
 have h:cnP k s p=cnP k (fun e=>s e-g e) p+cnP k g p:=by
  unfold cnP
  rw[<-za5]
  refine zan fun j _=>?_
  (try dsimp only)
  split<;>lia
 lia
theorem zir {P:Nat->Prop}[DecidablePred P](one:∀i j,i<j->j<c->P i->P j->False):((sumR c fun i=>if P i then(1:Int)else 0)=0/\∀i,i<c->¬P i)\/((sumR c fun i=>if P i then(1:Int)else 0)=1/\∃i,i<c/\P i):=by
 induction c with
 |zero=>exact .inl ⟨rfl,fun i hi=>by lia⟩
 |succ c ih=>
  have e:(sumR (c+1) fun i=>if P i then(1:Int)else 0)=(sumR c fun i=>if P i then(1:Int)else 0)+if P c then 1 else 0:=rfl
  rw[e]
  rcases ih fun i j a b=>one i j a (by lia)with⟨z,no⟩|⟨z,i,hi,hP⟩
  ·by_cases hc:P c
   ·exact .inr ⟨by rw[z,if_pos hc];rfl,c,by lia,hc⟩
   ·refine .inl ⟨by rw[z,if_neg hc];rfl,fun i hi=>?_⟩
    by_cases q:i<c
    ·exact no i q
    ·have:i=c:=by lia
     subst this;exact hc
  ·have hc:¬P c:=fun hc=>one i c hi (by lia) hP hc
   exact .inr ⟨by rw[z,if_neg hc];rfl,i,by lia,hP⟩
section
variable {k m n:Nat} {T L G s:Nat->Int}
noncomputable def gtP (k:Nat)(L G s:Nat->Int)(p:Nat):Int:=if cnP k s p<0 then L p else G p
noncomputable def ltP (k:Nat)(L G s:Nat->Int)(p:Nat):Int:=if 0<cnP k s p then G p else L p
noncomputable def Tie (k m n:Nat)(T L G s:Nat->Int)(a b:Nat)(w:Int):Prop:=
 (∃p,p<n/\a=p+1/\b=p/\w=gtP k L G s p)\/(∃p,p<n/\a=p/\b=p+1/\w= -ltP k L G s p)\/
 (∃i,i<m/\0<=s i/\a=i+k/\b=i/\w=T i)\/(∃i,i<m/\s i<=0/\a=i/\b=i+k/\w= -T i)
theorem znQ (hLG:∀p,p<n->L p<=G p)(hp:p<n){a b:Int}(ha:a=0\/a=1)(hb:b=0\/b=1):most L G p (cnP k s p+a-b)-most L G p (cnP k s p)<=a*gtP k L G s p-b*ltP k L G s p:=by
 have lg:=hLG p hp
 unfold most gtP ltP
 generalize cnP k s p=c
 rcases ha with rfl|rfl<;>rcases hb with rfl|rfl
 ·simp
 ·rw[show c+0-1=c-1 by lia,Int.zero_mul,Int.one_mul]
  by_cases h1:0<c
  ·by_cases h2:c=1
   ·subst h2;simp
   ·rw[if_pos (show 0<c-1 by lia),if_pos h1,Int.sub_mul]
    lia
  ·rw[if_neg (show ¬0<c-1 by lia),if_neg h1,Int.sub_mul]
   lia
 ·rw[show c+1-0=c+1 by lia,Int.zero_mul,Int.one_mul]
  by_cases h1:c<0
  ·rw[if_neg (show ¬0<c+1 by lia),if_neg (show ¬0<c by lia),if_pos h1,Int.add_mul]
   lia
  ·by_cases h2:c=0
   ·subst h2;simp
   ·rw[if_pos (show 0<c+1 by lia),if_pos (show 0<c by lia),if_neg h1,Int.add_mul]
    lia
 ·rw[show c+1-1=c by lia,Int.one_mul,Int.one_mul]
  by_cases h1:c<0
  ·rw[if_pos h1,if_neg (by lia)];lia
  ·by_cases h2:0<c
   ·rw[if_neg h1,if_pos h2];lia
   ·rw[if_neg h1,if_neg h2];lia
end
theorem zeo (f:Nat->Int):∀n,m<=n->(sumR n fun p=>if p<m then f p else 0)=sumR m f
  |0,h=>by have:m=0:=(by omega);subst this;rfl
  |n+1,h=>by
    show(sumR n fun p=>if p<m then f p else 0)+(if n<m then f n else 0)=_
    by_cases z:m<=n
    . rw[zeo f n z,if_neg (by omega)];omega
    . have:m=n+1:=by omega
      subst this
      rw[if_pos (by omega)]
      show _=sumR n f+f n
      rw[zan (f:=fun p=>if p<n+1 then f p else 0) (g:=f) fun p hp=>if_pos (by omega)]
theorem zlb (f:Nat->Int):∀c,(sumR c fun i=>f i-f (i+1))=f 0-f c
 |0=>by show(0:Int)=_;lia
 |c+1=>by
  show(sumR c fun i=>f i-f (i+1))+(f c-f (c+1))=_
  rw[zlb f c]
  lia
theorem zhG {f g:Nat->Int}:∀n,(∀i,i<n->f i<=g i)->sumR n f<=sumR n g
 |0,_=>Int.le_refl _
 |n+1,h=>by
  have:=zhG n fun i hi=>h i (by lia)
  have:=h n (by lia)
  show sumR n f+f n<=sumR n g+g n
  lia
section
variable {k m n:Nat} {T L G s:Nat->Int} {v:Nat->Nat}
noncomputable def Aa (v:Nat->Nat)(i p:Nat):Int:=if v i=p+1/\v (i+1)=p then 1 else 0
noncomputable def Ba (v:Nat->Nat)(i p:Nat):Int:=if v i=p/\v (i+1)=p+1 then 1 else 0
noncomputable def Ua (k:Nat)(v:Nat->Nat)(i e:Nat):Int:=if v i=e+k/\v (i+1)=e then 1 else 0
noncomputable def Da (k:Nat)(v:Nat->Nat)(i e:Nat):Int:=if v i=e/\v (i+1)=e+k then 1 else 0
noncomputable def dl (k m:Nat)(v:Nat->Nat)(i e:Nat):Int:=if e<m then Ua k v i e-Da k v i e else 0
theorem arc (k2:2<=k){w:Int}(t:Tie k m n T L G s (v i) (v (i+1)) w):
  w=(sumR n fun p=>Aa v i p*gtP k L G s p-Ba v i p*ltP k L G s p)+(sumR m fun e=>dl k m v i e*T e)/\
  ∀p,p<n->((if p<v i then(1:Int)else 0)-(if p<v (i+1)then 1 else 0))=Aa v i p-Ba v i p+cnP k (dl k m v i) p:=by
 rcases t with⟨q,hq,ea,eb,rfl⟩|⟨q,hq,ea,eb,rfl⟩|⟨q,hq,_,ea,eb,rfl⟩|⟨q,hq,_,ea,eb,rfl⟩
 ·have eA:∀p,Aa v i p=if p=q then 1 else 0:=fun p=>by unfold Aa;rw[ea,eb];split<;>split<;>first|rfl|lia
  have eB:∀p,Ba v i p=0:=fun p=>by unfold Ba;rw[ea,eb,if_neg (by lia)]
  have eD:∀e,dl k m v i e=0:=fun e=>by unfold dl Ua Da;rw[ea,eb,if_neg (show ¬(q+1=e+k/\q=e) by lia),if_neg (show ¬(q+1=e/\q=e+k) by lia)];split<;>rfl
  constructor
  ·rw[zan (g:=fun p=>if p=q then gtP k L G s q else 0) fun p _=>by rw[eA,eB];by_cases z:p=q<;>simp[z],zgi,if_pos hq,zan (f:=fun e=>dl k m v i e*T e) (g:=fun _=>0) fun e _=>by rw[eD,Int.zero_mul],zaW]
   lia
  ·intro p hp
   rw[eA,eB,ea,eb,show dl k m v i=fun e=>if e=0 then 0 else 0 from by funext e;rw[eD];split<;>rfl,zj2]
   split<;>split<;>split<;>split<;>lia
 ·have eA:∀p,Aa v i p=0:=fun p=>by unfold Aa;rw[ea,eb,if_neg (by lia)]
  have eB:∀p,Ba v i p=if p=q then 1 else 0:=fun p=>by unfold Ba;rw[ea,eb];split<;>split<;>first|rfl|lia
  have eD:∀e,dl k m v i e=0:=fun e=>by unfold dl Ua Da;rw[ea,eb,if_neg (show ¬(q=e+k/\q+1=e) by lia),if_neg (show ¬(q=e/\q+1=e+k) by lia)];split<;>rfl
  constructor
  ·rw[zan (g:=fun p=>if p=q then-ltP k L G s q else 0) fun p _=>by rw[eA,eB];by_cases z:p=q<;>simp[z],zgi,if_pos hq,zan (f:=fun e=>dl k m v i e*T e) (g:=fun _=>0) fun e _=>by rw[eD,Int.zero_mul],zaW]
   lia
  ·intro p hp
   rw[eA,eB,ea,eb,show dl k m v i=fun e=>if e=0 then 0 else 0 from by funext e;rw[eD];split<;>rfl,zj2]
   split<;>split<;>split<;>split<;>lia
 ·have eA:∀p,Aa v i p=0:=fun p=>by unfold Aa;rw[ea,eb,if_neg (by lia)]
  have eB:∀p,Ba v i p=0:=fun p=>by unfold Ba;rw[ea,eb,if_neg (by lia)]
  have eD:∀e,dl k m v i e=if e=q then 1 else 0:=fun e=>by
   unfold dl Ua Da
   rw[ea,eb,if_neg (show ¬(q+k=e/\q=e+k) by lia)]
   by_cases z:e=q
   ·rw[if_pos z,if_pos (by lia),if_pos (by lia)];rfl
   ·rw[if_neg z,if_neg (show ¬(q+k=e+k/\q=e) by lia)];split<;>rfl
  constructor
  ·rw[zan (g:=fun _=>0) fun p _=>by rw[eA,eB,Int.zero_mul,Int.zero_mul];rfl,zaW,zan (f:=fun e=>dl k m v i e*T e) (g:=fun e=>if e=q then T q else 0) fun e _=>by rw[eD];by_cases z:e=q<;>simp[z],zgi,if_pos hq]
   lia
  ·intro p hp
   rw[eA,eB,ea,eb,show dl k m v i=fun e=>if e=q then 1 else 0 from funext eD,zj2]
   split<;>split<;>split<;>lia
 ·have eA:∀p,Aa v i p=0:=fun p=>by unfold Aa;rw[ea,eb,if_neg (by lia)]
  have eB:∀p,Ba v i p=0:=fun p=>by unfold Ba;rw[ea,eb,if_neg (by lia)]
  have eD:∀e,dl k m v i e=if e=q then-1 else 0:=fun e=>by
   unfold dl Ua Da
   rw[ea,eb,if_neg (show ¬(q=e+k/\q+k=e) by lia)]
   by_cases z:e=q
   ·rw[if_pos z,if_pos (by lia),if_pos (by lia)];rfl
   ·rw[if_neg z,if_neg (show ¬(q=e/\q+k=e+k) by lia)];split<;>rfl
  constructor
  ·rw[zan (g:=fun _=>0) fun p _=>by rw[eA,eB,Int.zero_mul,Int.zero_mul];rfl,zaW,zan (f:=fun e=>dl k m v i e*T e) (g:=fun e=>if e=q then-T q else 0) fun e _=>by rw[eD];by_cases z:e=q<;>simp[z],zgi,if_pos hq]
   lia
  ·intro p hp
   rw[eA,eB,ea,eb,show dl k m v i=fun e=>if e=q then-1 else 0 from funext eD,zj2]
   split<;>split<;>split<;>lia
end
section
variable {k m n:Nat} {T L G s:Nat->Int}
structure SgF (m:Nat) (s:Nat->Int):Prop where
 rng:∀i,i<m->s i= -1\/s i=0\/s i=1
 out:∀i,m<=i->s i=0
theorem no_round (k2:2<=k)(hn:n+1=m+k)(lg:∀p,p<n->L p<=G p)(sf:SgF m s)(opt:∀s',SgF m s'->zcr k m T L G s' n<=zcr k m T L G s n)
  {c:Nat} {v:Nat->Nat} {w:Nat->Int} (home:v c=v 0) (apart:∀i j,i<j->j<c->v i≠v j) (tie:∀i,i<c->Tie k m n T L G s (v i) (v (i+1)) (w i)):0<=sumR c w:=by
 let FA:Nat->Int:=fun p=>sumR c fun i=>Aa v i p
 let FB:Nat->Int:=fun p=>sumR c fun i=>Ba v i p
 let g:Nat->Int:=fun e=>sumR c fun i=>dl k m v i e
 have hA:∀p,FA p=0\/FA p=1:=fun p=>by
  rcases zir (c:=c) (P:=fun i=>v i=p+1/\v (i+1)=p) (fun i j a b x y=>apart i j a b (x.1.trans y.1.symm))with h|h
  ·exact .inl h.1
  ·exact .inr h.1
 have hB:∀p,FB p=0\/FB p=1:=fun p=>by
  rcases zir (c:=c) (P:=fun i=>v i=p/\v (i+1)=p+1) (fun i j a b x y=>apart i j a b (x.1.trans y.1.symm))with h|h
  ·exact .inl h.1
  ·exact .inr h.1
 have gout:∀e,m<=e->g e=0:=fun e he=>by
  show(sumR c fun i=>dl k m v i e)=0
  rw[zan (g:=fun _=>0) fun i _=>by unfold dl;rw[if_neg (by lia)],zaW]
 have hg:∀e,e<m->(g e=0\/(g e=1/\0<=s e)\/(g e= -1/\s e<=0)):=fun e he=>by
  have eg:g e=(sumR c fun i=>Ua k v i e)-(sumR c fun i=>Da k v i e):=by
   have:(sumR c fun i=>Ua k v i e)=g e+(sumR c fun i=>Da k v i e):=by
    show _=(sumR c fun i=>dl k m v i e)+_
    rw[<-za5]
    exact zan fun i _=>by unfold dl;rw[if_pos he];lia
   lia
  rcases zir (c:=c) (P:=fun i=>v i=e+k/\v (i+1)=e) (fun i j a b x y=>apart i j a b (x.1.trans y.1.symm))with⟨h1,_⟩|⟨h1,i,hi,x1,x2⟩<;>
   rcases zir (c:=c) (P:=fun i=>v i=e/\v (i+1)=e+k) (fun i j a b x y=>apart i j a b (x.1.trans y.1.symm))with⟨h2,_⟩|⟨h2,j,hj,y1,y2⟩
  ·left
   rw[eg]
   show(sumR c fun i=>Ua k v i e)-(sumR c fun i=>Da k v i e)=0
   unfold Ua Da
   rw[h1,h2];rfl
  ·right;right
   refine⟨by rw[eg];show(sumR c fun i=>Ua k v i e)-(sumR c fun i=>Da k v i e)= -1;unfold Ua Da;rw[h1,h2];rfl,?_⟩
   rcases tie j hj with⟨q,_,a,b,_⟩|⟨q,_,a,b,_⟩|⟨q,_,_,a,b,_⟩|⟨q,_,z,a,b,_⟩
   ·lia
   ·lia
   ·lia
   ·rw[show e=q by lia];exact z
  ·right;left
   refine⟨by rw[eg];show(sumR c fun i=>Ua k v i e)-(sumR c fun i=>Da k v i e)=1;unfold Ua Da;rw[h1,h2];rfl,?_⟩
   rcases tie i hi with⟨q,_,a,b,_⟩|⟨q,_,a,b,_⟩|⟨q,_,z,a,b,_⟩|⟨q,_,_,a,b,_⟩
   ·lia
   ·lia
   ·rw[show e=q by lia];exact z
   ·lia
  ·left
   rw[eg]
   show(sumR c fun i=>Ua k v i e)-(sumR c fun i=>Da k v i e)=0
   unfold Ua Da
   rw[h1,h2];rfl
 have cons:∀p,p<n->cnP k g p=FB p-FA p:=fun p hp=>by
  have h1:(sumR c fun i=>(if p<v i then(1:Int)else 0)-(if p<v (i+1)then 1 else 0))=0:=by
   rw[zlb (fun i=>if p<v i then(1:Int)else 0),home]
   lia
  rw[zan (g:=fun i=>(Aa v i p-Ba v i p)+cnP k (dl k m v i) p) fun i hi=>(arc k2 (tie i hi)).2 p hp,za5,<-cnP_sum]at h1
  have h2:FA p=(sumR c fun i=>Aa v i p-Ba v i p)+FB p:=by
   show(sumR c fun i=>Aa v i p)=_+(sumR c fun i=>Ba v i p)
   rw[<-za5]
   exact zan fun i _=>by lia
  have h3:cnP k g p=cnP k (fun e=>sumR c fun i=>dl k m v i e) p:=rfl
  lia
 have sw:sumR c w=(sumR n fun p=>FA p*gtP k L G s p-FB p*ltP k L G s p)+(sumR m fun e=>g e*T e):=by
  rw[zan fun i hi=>(arc k2 (tie i hi)).1,za5]
  congr 1
  ·rw[zcG]
   refine zan fun p _=>?_
   have h1:=zc7 (fun i=>Aa v i p) (gtP k L G s p) c
   have h2:=zc7 (fun i=>Ba v i p) (ltP k L G s p) c
   have h3:(sumR c fun i=>Aa v i p*gtP k L G s p)=(sumR c fun i=>Aa v i p*gtP k L G s p-Ba v i p*ltP k L G s p)+sumR c fun i=>Ba v i p*ltP k L G s p:=by
    rw[<-za5]
    exact zan fun i _=>by lia
   show _=(sumR c fun i=>Aa v i p)*gtP k L G s p-(sumR c fun i=>Ba v i p)*ltP k L G s p
   lia
  ·rw[zcG]
   exact zan fun e _=>zc7 (fun i=>dl k m v i e) (T e) c
 have sf':SgF m fun e=>s e-g e:=⟨fun e he=>by
  have:=sf.rng e he
  have:=hg e he
  (try dsimp only)
  lia,fun e he=>by
  have h1:=sf.out e he
  have h2:=gout e he
  (try dsimp only)
  lia⟩
 have up:=opt _ sf'
 have lo:zcr k m T L G s n-((sumR n fun p=>FA p*gtP k L G s p-FB p*ltP k L G s p)+(sumR m fun e=>g e*T e))<=zcr k m T L G (fun e=>s e-g e) n:=by
  have e1:=zeo (m:=m) (fun e=>g e*T e) n (by lia)
  have e2:zcr k m T L G s n<=(sumR n fun p=>(if p<m then(s p-g p)*T p else 0)-most L G p (cnP k (fun e=>s e-g e) p))+((sumR n fun p=>FA p*gtP k L G s p-FB p*ltP k L G s p)+(sumR n fun p=>if p<m then g p*T p else 0)):=by
   rw[<-za5,<-za5]
   refine zhG n fun p hp=>?_
   have ms:=znQ (k:=k) (s:=s) lg hp (hA p) (hB p)
   rw[cnP_sub,cons p hp,show cnP k s p-(FB p-FA p)=cnP k s p+FA p-FB p by lia]
   (try dsimp only)
   by_cases z:p<m
   ·rw[if_pos z,if_pos z,if_pos z,Int.sub_mul];lia
   ·rw[if_neg z,if_neg z,if_neg z];lia
  show _<=sumR n fun p=>(if p<m then(s p-g p)*T p else 0)-most L G p (cnP k (fun e=>s e-g e) p)
  lia
 lia
end
noncomputable def chg (k m:Nat)(T r:Nat->Int):Int:=sumR m fun i=>absI (win k r i-T i)
theorem zlO {f:Nat->Int}(j:Nat):∀n,(∀i,m<=i->f i=0)->j+m<=n->(sumR n fun p=>if j<=p then f (p-j)else 0)=sumR m f:=by
 intro n h hn
 have e:=zbA (fun p=>if j<=p then f (p-j)else 0) j (n-j)
 rw[show j+(n-j)=n by lia]at e
 rw[e,zan (n:=j) (g:=fun _=>0) fun p hp=>if_neg (by lia),zaW,zan (n:=n-j) (g:=fun i=>if i<m then f i else 0) fun i hi=>?_,zeo f (n-j) (by lia)]
 ·lia
 ·rw[if_pos (by lia),show j+i-j=i by lia]
  by_cases z:i<m
  ·rw[if_pos z]
  ·rw[if_neg z,h i (by lia)]
section
variable {k m n:Nat} {T L G s r:Nat->Int}
theorem zhg (hn:n+1=m+k)(out:∀i,m<=i->s i=0):(sumR m fun i=>s i*win k r i)=sumR n fun p=>cnP k s p*r p:=by
 have e1:(sumR n fun p=>cnP k s p*r p)=sumR n fun p=>sumR k fun j=>(if j<=p then s (p-j)*r ((p-j)+j)else 0):=zan fun p _=>by
  unfold cnP
  rw[<-zc7]
  refine zan fun j _=>?_
  split
  ·rename_i z;rw[show p-j+j=p by lia]
  ·rw[Int.zero_mul]
 have e2:(sumR m fun i=>s i*win k r i)=sumR m fun i=>sumR k fun j=>s i*r (i+j):=zan fun i _=>by
  unfold win
  rw[Int.mul_comm,<-zc7]
  exact zan fun j _=>Int.mul_comm _ _
 rw[e1,e2,zcG (fun i j=>s i*r (i+j)) k m,zcG (fun p j=>if j<=p then s (p-j)*r ((p-j)+j)else 0) k n]
 refine zan fun j hj=>?_
 exact(zlO (m:=m) (f:=fun i=>s i*r (i+j)) j n (fun i hi=>by(try dsimp only);rw[out i hi,Int.zero_mul]) (by lia)).symm
theorem zjK (hn:n+1=m+k)(k1:1<=k):zcr k m T L G s n=(sumR m fun i=>s i*T i)-sumR n fun p=>most L G p (cnP k s p):=by
 have h:(sumR n fun p=>if p<m then s p*T p else 0)=zcr k m T L G s n+sumR n fun p=>most L G p (cnP k s p):=by
  unfold zcr
  rw[<-za5]
  exact zan fun p _=>by lia
 rw[zeo (fun p=>s p*T p) n (by lia)]at h
 lia
theorem weak (hn:n+1=m+k)(k1:1<=k)(sf:SgF m s)(hr:∀p,p<n->L p<=r p/\r p<=G p):zcr k m T L G s n<=chg k m T r:=by
 rw[zjK hn k1]
 have h1:(sumR n fun p=>cnP k s p*r p)<=sumR n fun p=>most L G p (cnP k s p):=zhG n fun p hp=>by
  have b:=hr p hp
  unfold most
  by_cases z:0<cnP k s p
  ·rw[if_pos z];exact Int.mul_le_mul_of_nonneg_left b.2 (by lia)
  ·rw[if_neg z];exact Int.mul_le_mul_of_nonpos_left (by lia) b.1
 have h2:(sumR m fun i=>s i*T i)<=chg k m T r+sumR m fun i=>s i*win k r i:=by
  unfold chg
  rw[<-za5]
  refine zhG m fun i hi=>?_
  unfold absI
  rcases sf.rng i hi with e|e|e<;>rw[e]<;>split<;>lia
 rw[zhg hn sf.out]at h2
 lia
structure RowOf (k m n:Nat) (T L G s r:Nat->Int):Prop where
 lo:∀p,p<n->ltP k L G s p<=r p
 hi:∀p,p<n->r p<=gtP k L G s p
 up:∀i,i<m->0<=s i->win k r i<=T i
 dn:∀i,i<m->s i<=0->T i<=win k r i
theorem RowOf.box (h:RowOf k m n T L G s r)(lg:∀p,p<n->L p<=G p)(hp:p<n):L p<=r p/\r p<=G p:=by
 have a:=h.lo p hp
 have b:=h.hi p hp
 have c:=lg p hp
 unfold ltP at a
 unfold gtP at b
 constructor
 ·split at a<;>lia
 ·split at b<;>lia
theorem RowOf.eq (h:RowOf k m n T L G s r)(hn:n+1=m+k)(k1:1<=k)(sf:SgF m s):chg k m T r=zcr k m T L G s n:=by
 rw[zjK hn k1]
 have h1:(sumR n fun p=>cnP k s p*r p)=sumR n fun p=>most L G p (cnP k s p):=zan fun p hp=>by
  have a:=h.lo p hp
  have b:=h.hi p hp
  unfold ltP at a
  unfold gtP at b
  unfold most
  by_cases z:0<cnP k s p
  ·rw[if_pos z]at a
   rw[if_neg (by lia)]at b
   rw[if_pos z,show r p=G p by lia]
  ·rw[if_neg z]at a
   by_cases y:cnP k s p<0
   ·rw[if_pos y]at b
    rw[if_neg z,show r p=L p by lia]
   ·rw[if_neg z,show cnP k s p=0 by lia,Int.zero_mul,Int.zero_mul]
 have h2:(sumR m fun i=>s i*T i)=chg k m T r+sumR m fun i=>s i*win k r i:=by
  unfold chg
  rw[<-za5]
  refine zan fun i hi=>?_
  have a:=h.up i hi
  have b:=h.dn i hi
  unfold absI
  rcases sf.rng i hi with e|e|e<;>rw[e]at a b ⊢ <;>split<;>lia
 rw[zhg hn sf.out]at h2
 lia
theorem zlT (h:∀a b w,Tie k m n T L G s a b w->X a<=X b+w):RowOf k m n T L G s fun p=>X (p+1)-X p where
 lo:=fun p hp=>by have:=h p (p+1) _ (.inr (.inl ⟨p,hp,rfl,rfl,rfl⟩));(try dsimp only);lia
 hi:=fun p hp=>by have:=h (p+1) p _ (.inl ⟨p,hp,rfl,rfl,rfl⟩);(try dsimp only);lia
 up:=fun i hi z=>by have:=h (i+k) i _ (.inr (.inr (.inl ⟨i,hi,z,rfl,rfl,rfl⟩)));rw[zit];lia
 dn:=fun i hi z=>by have:=h i (i+k) _ (.inr (.inr (.inr ⟨i,hi,z,rfl,rfl,rfl⟩)));rw[zit];lia
end
theorem cut_clip {m a b:Nat}(f:Nat->D)(h:a<=b):cutD (wL m f) (some (a:Int)) (some (b:Int))=wL (min b m-a) fun i=>f (a+i):=by
 unfold cutD
 rw[HT.zhR,HT.zhR,zaT]
 by_cases z:a<=m
 ·rw[Nat.min_eq_left z]
  apply List.ext_getElem?
  intro i
  by_cases hi:i<min b m-a
  ·rw[List.getElem?_take_of_lt hi,List.getElem?_drop,zat _ (by lia),zat _ hi]
  ·rw[List.getElem?_eq_none (by rw[List.length_take];lia),List.getElem?_eq_none (by rw[zaT];lia)]
 ·rw[List.drop_of_length_le (by rw[zaT];lia),show min b m-a=0 by lia,List.take_nil]
  rfl
theorem cnP_cut {k m p:Nat}{s:Nat->Int}(out:∀i,m<=i->s i=0):(sumR (min (p+1) m-(p+1-k)) fun i=>s (p+1-k+i))=cnP k s p:=by
 unfold cnP
 have e1:(sumR k fun j=>if j<=p then s (p-j)else 0)=sumR (min (p+1) k) fun j=>s (p-j):=by
  rw[<-zeo (m:=min (p+1) k) (fun j=>s (p-j)) k (by lia)]
  refine zan fun j hj=>?_
  (try dsimp only)
  by_cases z:j<=p
  ·rw[if_pos z,if_pos (by lia)]
  ·rw[if_neg z,if_neg (by lia)]
 rw[e1,zjS _ (min (p+1) k),zan (f:=fun i=>s (p-(min (p+1) k-1-i))) (g:=fun i=>s (p+1-k+i)) fun i hi=>by rw[show p-(min (p+1) k-1-i)=p+1-k+i by lia]]
 rw[<-zeo (m:=min (p+1) m-(p+1-k)) (fun i=>s (p+1-k+i)) (min (p+1) k) (by lia)]
 refine zan fun i hi=>?_
 (try dsimp only)
 by_cases z:i<min (p+1) m-(p+1-k)
 ·rw[if_pos z]
 ·rw[if_neg z,out _ (by lia)]
section
variable {k m n:Nat} {T L G s:Nat->Int}
theorem zkq (out:∀i,m<=i->s i=0)(n9:n<=1000)(k9:k<=1000):Ok (za1 [zaz k m n T L G,.tup (wI m s)]) fun x=>x= .own (wI n (cnP k s)):=by
 have sm:zci (n:Int)=true:=zaA (by lia) (by lia)
 simp! only[↓za1,↓zdR,↓zeq]
 refine⟨sm,by lia,zaF (fun ρ=>∃z,ρ=[.val (.tup (wI m s)),.val (.int k),z]) (fun p=> .int (cnP k s p)) ⟨_,rfl⟩ ?_ ?_⟩
 ·rintro p _ hp ⟨z,rfl⟩
  have e1:max2 0 ((p:Int)-(k:Int)+1)=((p+1-k:Nat):Int):=by unfold max2;split<;>lia
  have e2:(p:Int)+1=((p+1:Nat):Int):=by lia
  have hc:=cut_clip (m:=m) (a:=p+1-k) (b:=p+1) (fun j=> .int (s j)) (by lia)
  simp! only[↓zec,e1,e2,hc,zcC,zbI,cnP_cut out]
  exact⟨_,rfl⟩
 ·rintro _ ⟨z,rfl⟩
  simp! only[]
theorem zoR (hp:p<n)(c:Int)(hc: -1000<=c/\c<=1000):Ok (zbv [zaz k m n T L G,.int p,.int c]) fun x=>x= .val (.int (most L G p c)):=by
 simp! only[↓zbv,↓zgf,zat _ hp]
 unfold most
 refine⟨fun h=>⟨zcs (by lia),?_⟩,fun h=>⟨zcs (by lia),?_⟩⟩
 ·rw[if_pos h]
 ·rw[if_neg (by lia)]
end
section
variable {k m n:Nat} {T L G s:Nat->Int}
theorem SgF.bd (sf:SgF m s)(i:Nat): -1<=s i/\s i<=1:=by
 by_cases h:i<m
 ·have:=sf.rng i h;lia
 ·have:=sf.out i (by lia);lia
theorem cnP_bd (sf:SgF m s)(p:Nat): -(k:Int)<=cnP k s p/\cnP k s p<=(k:Int):=by
 unfold cnP
 generalize hf:(fun j=>if j<=p then s (p-j)else 0)=f
 have b:∀j,-1<=f j/\f j<=1:=fun j=>by
  subst hf
  (try dsimp only)
  split
  ·exact sf.bd _
  ·lia
 clear hf
 induction k with
 |zero=>exact⟨by simp[sumR],by simp[sumR]⟩
 |succ k ih=>
  have:=b k
  show-((k+1:Nat):Int)<=sumR k f+f k/\sumR k f+f k<=((k+1:Nat):Int)
  lia
theorem worth_ok (hn:n+1=m+k)(k1:1<=k)(n9:n<=900)(sf:SgF m s):Ok (zb6 [zaz k m n T L G,.tup (wI m s)]) fun x=>x= .val (.int (zcr k m T L G s n)):=by
 simp! only[↓zb6,↓zez,↓zfe,zgX]
 refine⟨by lia,zaF (fun ρ=>∃a b,ρ=[a,b]) (fun i=> .int (s i*T i)) ⟨_,_,rfl⟩ ?_ ?_⟩
 ·rintro i _ hi ⟨a,b,rfl⟩
  have:=sf.bd i
  simp! only[↓zfi]
  exact⟨zcs (by lia),_,_,rfl⟩
 ·rintro _ ⟨a,b,rfl⟩
  simp! only[zcC,zbI,↓zfb]
  refine(zkq sf.out (by lia) (by lia)).mono ?_
  rintro _ rfl
  simp! only[ziA]
  refine⟨by lia,zaF (fun ρ=>∃a b,ρ=[.val (zaz k m n T L G),a,b]) (fun p=> .int (most L G p (cnP k s p))) ⟨_,_,rfl⟩ ?_ ?_⟩
  ·rintro p _ hp ⟨a,b,rfl⟩
   have:=cnP_bd (k:=k) sf p
   simp! only[↓zeZ]
   refine(zoR hp _ (by lia)).mono ?_
   rintro _ rfl
   simp! only[]
   exact⟨_,_,rfl⟩
  ·rintro _ ⟨a,b,rfl⟩
   simp! only[zcC,zbI]
   rw[zjK hn k1]
end
noncomputable def wd (f:List Int->Int×List Int)(r:List Int):D:= .tup [.int (f r).1,.tup ((f r).2.map .int)]
theorem Sgn.f (h:Sgn m n w):SgF m (sg w):=⟨fun i _=>by
 by_cases z:i<n
 ·exact h.rng i z
 ·have:=zkt w (i:=i) (by have:=h.len;lia)
  lia,h.out⟩
noncomputable def allC:Nat->List (List Int)
 |0=>[[]]
 |j+1=>(allC j).flatMap fun r=>[(-1)::r,0::r,1::r]
theorem zl8:∀j,(allC j).length=3^j
 |0=>rfl
 |j+1=>by
  unfold allC
  have h:∀l:List (List Int),(l.flatMap fun r=>[(-1)::r,0::r,1::r]).length=l.length*3:=fun l=>by
   induction l with
   |nil=>rfl
   |cons r l ih=>rw[List.flatMap_cons,List.length_append,ih,List.length_cons];simp;lia
  rw[h,zl8 j,Nat.pow_succ]
theorem zmj:∀(j:Nat) (r:List Int),r.length=j->(∀x,x∈r->x= -1\/x=0\/x=1)->r∈allC j
 |0,r,e,_=>by rw[List.length_eq_zero_iff.mp e];exact List.mem_singleton.mpr rfl
 |j+1,[],e,_=>by simp at e
 |j+1,x::r,e,h=>by
  unfold allC
  refine List.mem_flatMap.mpr ⟨r,zmj j r (by simpa using e) fun y hy=>h y (List.mem_cons_of_mem _ hy),?_⟩
  rcases h x (List.mem_cons_self)with rfl|rfl|rfl<;>simp
theorem zmF {α:Type}[DecidableEq α]:∀{l l':List α},l.Nodup->(∀x,x∈l->x∈l')->l.length<=l'.length
 |[],_,_,_=>Nat.zero_le _
 |x::l,l',nd,h=>by
  have nd':=List.nodup_cons.mp nd
  have hx:=h x List.mem_cons_self
  have:=zmF (l:=l) (l':=l'.erase x) nd'.2 fun y hy=>(List.mem_erase_of_ne (fun e:y=x=>nd'.1 (by rw[<-e];exact hy))).mpr (h y (List.mem_cons_of_mem _ hy))
  rw[List.length_erase_of_mem hx]at this
  have:0<l'.length:=List.length_pos_of_mem hx
  rw[List.length_cons]
  lia
theorem keys_few {k m p:Nat}(k5:k<=5)(nd:ks.Nodup)(h:∀r,r∈ks->∃w,Sgn m p w/\zfk k w=r):ks.length<=81:=by
 have a:=zmF (l':=allC (k-1)) nd fun r hr=>by
  obtain⟨w,hw,e⟩:=h r hr
  refine zmj _ _ (by rw[<-e];exact zfU _ _) fun x hx=>?_
  obtain⟨j,hj,ej⟩:=List.getElem_of_mem hx
  have l1:r.length=k-1:=by rw[<-e];exact zfU _ _
  have g:=ziz (k:=k) w (j:=j) (by lia)
  unfold sg at g
  rw[e,List.getD_eq_getElem?_getD,List.getElem?_eq_getElem hj,ej]at g
  have g':x=if k-1<=w.length+j then sg w (w.length+j-(k-1))else 0:=g
  rw[g']
  split
  ·have hl:=hw.len
   by_cases z:w.length+j-(k-1)<p
   ·exact hw.rng _ z
   ·have:=zkt w (i:=w.length+j-(k-1)) (by lia)
    lia
  ·lia
 rw[zl8]at a
 have:3^(k-1)<=3^4:=Nat.pow_le_pow_right (by decide) (by lia)
 have:(3:Nat)^4=81:=by decide
 lia
section
variable {k m n p:Nat} {T L G:Nat->Int} {ks:List (List Int)} {f:List Int->Int×List Int}
noncomputable def ad (m p:Nat)(T:Nat->Int)(x:Int):Int:=if p<m then x*T p else 0
noncomputable def chD (m p:Nat)(T:Nat->Int)(x:Int):D:= .tup [.int x,.int (ad m p T x)]
theorem cut1 (r:List Int):cutD (r.map D.int) (some 1) none=(r.drop 1).map .int:=by
 rw[show(some (1:Int))=some ((1:Nat):Int)from rfl,zmB,List.map_drop]
theorem znf (r:List Int):keyT (.tup (r.map .int))=some r:=zbU r
theorem wd_put (f':List Int->Int×List Int)(y:List Int)(v:Int)(w:List Int)(l:List (List Int)):(l.map fun z=>if z=y then D.tup [.int v,.tup (w.map .int)]else wd f' z)=l.map (wd fun z=>if z=y then(v,w)else f' z):=by
 apply List.map_congr_left
 intro z _
 unfold wd
 (try dsimp only)
 by_cases e:z=y
 ·rw[if_pos e,if_pos e]
 ·rw[if_neg e,if_neg e]
theorem here_bd (k1:1<=k)(b:Dp k m T L G p ks f){r:List Int}(hr:r∈ks)(hx:x= -1\/x=0\/x=1)(hm:m<=p->x=0): -(k:Int)<=(r++[x]).sum/\(r++[x]).sum<=(k:Int):=by
 obtain⟨h1,h2,h3⟩:=b.ok r hr
 have hs:=zjT k1 (f r).2 x
 rw[h2]at hs
 rw[hs]
 exact cnP_bd (h1.snoc hx hm).f _
theorem zoU (k1:1<=k)(k9:k<=5)(n9:n<=900)(hp:p<n)(b:Dp k m T L G p ks f)(ch:List Int)(hc:∀x,x∈ch↔(x= -1\/x=0\/x=1)/\(m<=p->x=0)):
  Ok (zcu [.val (zaz k m n T L G),.val (.int p),.val (.dit ks (ks.map (wd f))),.val (.lst (ch.map (chD m p T))),.tre (.dit [] []),.emp,.emp,.emp,.emp,.emp]) fun r=>∃ks' f' s5 s6 s7 s8 s9,Dp k m T L G (p+1) ks' f'/\r=(.next,[.val (zaz k m n T L G),.val (.int p),.val (.dit ks (ks.map (wd f))),.val (.lst (ch.map (chD m p T))),.tre (.dit ks' (ks'.map (wd f'))),s5,s6,s7,s8,s9]):=by
 simp! only[↓zcu]
 refine ziw (enc:=fun r=> .tup (r.map .int)) (l:=ks) (fun i ρ=>∃ks' f' s5 s6 s7 s8 s9,Dq k m T L G p f ((ks.take i).flatMap fun r=>ch.map fun x=>(r,x)) ks' f'/\ρ=[.val (zaz k m n T L G),.val (.int p),.val (.dit ks (ks.map (wd f))),.val (.lst (ch.map (chD m p T))),.tre (.dit ks' (ks'.map (wd f'))),s5,s6,s7,s8,s9]) ⟨[],f,_,_,_,_,_,Dq.start,rfl⟩ ?_ ?_
 ·rintro i r _ hi ⟨ks',f',s5,s6,s7,s8,s9,q,rfl⟩
  have hr:=List.mem_of_getElem? hi
  have il:i<ks.length:=(List.getElem?_eq_some_iff.mp hi).1
  simp! only[↓zd5,↓zew]
  refine ziw (enc:=chD m p T) (l:=ch) (fun j ρ=>∃ks' f' s6 s7 s8 s9,Dq k m T L G p f (((ks.take i).flatMap fun r=>ch.map fun x=>(r,x))++(ch.take j).map fun x=>(r,x)) ks' f'/\ρ=[.val (zaz k m n T L G),.val (.int p),.val (.dit ks (ks.map (wd f))),.val (.lst (ch.map (chD m p T))),.tre (.dit ks' (ks'.map (wd f'))),.val (.tup (r.map .int)),s6,s7,s8,s9]) ⟨ks',f',_,_,_,_,by simpa using q,rfl⟩ ?_ ?_
  ·rintro j x _ hj ⟨ks',f',s6,s7,s8,s9,q,rfl⟩
   obtain⟨hx,hm⟩:=(hc x).mp (List.mem_of_getElem? hj)
   have jl:j<ch.length:=(List.getElem?_eq_some_iff.mp hj).1
   have eP:(((ks.take i).flatMap fun r=>ch.map fun x=>(r,x))++(ch.take j).map fun x=>(r,x))++[(r,x)]=((ks.take i).flatMap fun r=>ch.map fun x=>(r,x))++(ch.take (j+1)).map fun x=>(r,x):=by
    rw[List.take_add_one,hj];simp
   have hb:=here_bd k1 b hr hx hm
   have lr:lkD ks (ks.map (wd f)) r=some (wd f r):=by rw[zjm,if_pos hr]
   have eh:∀(r:List Int) (x:Int),List.map D.int r++[D.int x]=(r++[x]).map .int:=fun r x=>by rw[List.map_append];rfl
   obtain⟨g1,g2,g3⟩:=b.ok r hr
   have rl:r.length=k-1:=by rw[<-g2];exact zfU _ _
   have wl:(f r).2.length=p:=g1.len
   simp! only[↓zen,chD,znf,lr,wd,eh,zbU]
   refine⟨by lia,(zoR hp _ (by lia)).mono ?_⟩
   rintro _ rfl
   have ev:(f r).1+ad m p T x-most L G p (r++[x]).sum=vl m T L G p f r x:=rfl
   have wr:wd f r= .tup [.int (f r).1,.tup ((f r).2.map .int)]:=rfl
   have wy:wd f' ((r++[x]).drop 1)= .tup [.int (f' ((r++[x]).drop 1)).1,.tup ((f' ((r++[x]).drop 1)).2.map .int)]:=rfl
   have few:=keys_few k9 q.nd fun r hr=>⟨_,(q.ok r hr).1,(q.ok r hr).2.1⟩
   by_cases hy:(r++[x]).drop 1∈ks'
   ·have ly:lkD ks' (ks'.map (wd f')) ((r++[x]).drop 1)=some (wd f' ((r++[x]).drop 1)):=by rw[zjm,if_pos hy]
    simp! only[cut1,znf,ev,ly,lr,wr,wy,eh,zoH,wd_put]
    refine⟨fun lt=>⟨by lia,by lia,_,_,_,_,_,_,eP ▸ q.put k1 b hr hx hm fun _=>lt,rfl⟩,fun le=>⟨ks',f',_,_,_,_,eP ▸ q.stay hy le,rfl⟩⟩
   ·have ly:lkD ks' (ks'.map (wd f')) ((r++[x]).drop 1)=none:=by rw[zjm,if_neg hy]
    simp! only[cut1,znf,ev,ly,lr,wr,eh,zoH,wd_put]
    refine⟨fun _=>⟨by lia,by lia,_,_,_,_,_,_,eP ▸ q.put k1 b hr hx hm fun z=>absurd z hy,rfl⟩,fun z=>by simp at z⟩
  ·rintro _ ⟨ks',f',s6,s7,s8,s9,q,rfl⟩
   refine⟨ks',f',_,_,_,_,_,?_,rfl⟩
   rw[List.take_length]at q
   rw[List.take_add_one,hi,List.flatMap_append]
   simpa using q
 ·rintro _ ⟨ks',f',s5,s6,s7,s8,s9,q,rfl⟩
  refine⟨ks',f',_,_,_,_,_,q.done k1 b fun r x hr hx hm=>?_,rfl⟩
  rw[List.take_length]
  exact List.mem_flatMap.mpr ⟨r,hr,List.mem_map.mpr ⟨x,(hc x).mpr ⟨hx,hm⟩,rfl⟩⟩
end
section
variable {k m n p:Nat} {T L G:Nat->Int} {ks:List (List Int)} {f:List Int->Int×List Int}
theorem grown_ok (k1:1<=k)(k9:k<=5)(n9:n<=900)(m9:m<=900)(hp:p<n)(b:Dp k m T L G p ks f):
  Ok (zbK [zaz k m n T L G,.int p,.dit ks (ks.map (wd f))]) fun x=>∃ks' f',Dp k m T L G (p+1) ks' f'/\x= .val (.dit ks' (ks'.map (wd f'))):=by
 simp! only[↓zbK,↓zdM]
 refine⟨fun h=>?_,fun h=>?_⟩
 ·have hpm:p<m:=by lia
  simp! only[↓zev]
  refine zhX (enc:=D.int) (l:=[-1,0,1]) (fun ρ=>∃z,ρ=[.val (zaz k m n T L G),.val (.int p),z]) (chD m p T) ⟨_,rfl⟩ ?_ ?_
  ·rintro x _ hx ⟨z,rfl⟩
   have hx':x= -1\/x=0\/x=1:=by simpa using hx
   simp! only[↓zeu,zat _ hpm]
   refine⟨zcs (by lia),by unfold chD ad;rw[if_pos hpm],_,rfl⟩
  ·rintro _ ⟨z,rfl⟩
   simp! only[]
   refine(zoU k1 k9 n9 hp b [-1,0,1] (fun x=>⟨fun hx=>⟨by simpa using hx,fun z=>by lia⟩,fun hx=>by simpa using hx.1⟩)).mono ?_
   rintro _ ⟨ks',f',s5,s6,s7,s8,s9,d,rfl⟩
   simp! only[]
   exact⟨ks',f',d,rfl⟩
 ·have hpm:¬p<m:=by lia
  have e0:[D.tup [.int 0,.int 0]]=[0].map (chD m p T):=by simp[chD,ad,hpm]
  rw[e0]
  have c0:∀x:Int,x∈[(0:Int)]↔(x= -1\/x=0\/x=1)/\(m<=p->x=0):=fun x=>by
   rw[List.mem_singleton]
   exact⟨fun e=>⟨.inr (.inl e),fun _=>e⟩,fun h=>h.2 (by lia)⟩
  refine(zoU k1 k9 n9 hp b [0] c0).mono ?_
  rintro _ ⟨ks',f',s5,s6,s7,s8,s9,d,rfl⟩
  simp! only[]
  exact⟨ks',f',d,rfl⟩
theorem take_w (h:m<=w.length):(w.map D.int).take m=wI m (sg w):=by
 apply List.ext_getElem?
 intro i
 by_cases hi:i<m
 ·rw[List.getElem?_take_of_lt hi,List.getElem?_map,List.getElem?_eq_getElem (by lia),zat _ hi]
  unfold sg
  rw[List.getD_eq_getElem?_getD,List.getElem?_eq_getElem (by lia)]
  rfl
 ·rw[List.getElem?_eq_none (by rw[List.length_take];lia),List.getElem?_eq_none (by rw[zaT];lia)]
theorem zmg (hn:n+1=m+k)(k1:1<=k)(kn:k<=n)(h:Sgn m n w):zfk k w=List.replicate (k-1) 0:=by
 apply List.ext_getElem
 ·rw[zfU,List.length_replicate]
 ·intro j h1 h2
  have hj:j<k-1:=by rw[List.length_replicate]at h2;exact h2
  have e:=ziz w hj
  unfold sg at e
  rw[List.getD_eq_getElem?_getD,List.getElem?_eq_getElem h1]at e
  rw[List.getElem_replicate]
  have hl:=h.len
  rw[if_pos (by lia)]at e
  exact e.trans (h.out _ (by lia))
theorem sg_fn (s:Nat->Int)(h:i<n):sg ((List.range n).map s) i=s i:=by
 unfold sg
 rw[List.getD_eq_getElem?_getD,List.getElem?_map,List.getElem?_range h]
 rfl
theorem zkl (hn:n+1=m+k)(k2:2<=k)(m1:1<=m)(k5:k<=5)(n9:n<=900):
    Ok (zba [zaz k m n T L G]) fun x=>∃s,SgF m s/\(∀s',SgF m s'->zcr k m T L G s' n<=zcr k m T L G s n)/\x= .val (.tup (wI m s)):=by
  have sm:zci (n:Int)=true:=zaA (by lia) (by lia)
  have er:(List.replicate ((k:Int)-1).toNat [D.int 0]).flatten=(List.replicate (k-1) (0:Int)).map .int:=by
    rw[show((k:Int)-1).toNat=k-1 by lia]
    induction (k-1)with
    |zero=>rfl
    |succ j ih=>rw[List.replicate_succ,List.flatten_cons,ih,List.replicate_succ];rfl
  simp! only[↓zba,↓zcq,er,znf,↓zc2]
  refine⟨⟨⟨⟨rfl,by lia⟩,by lia⟩,by lia⟩,sm,zbG (fun p ρ=>∃ks f s z,Dp k m T L G p ks f/\(s= .tre (.dit ks (ks.map (wd f)))\/s= .val (.dit ks (ks.map (wd f))))/\ρ=[.val (zaz k m n T L G),.val (.tup ((List.replicate (k-1) (0:Int)).map .int)),s,z]) ⟨_,_,_,_,Dp.start,.inl rfl,rfl⟩ ?_ ?_⟩
  . rintro p _ hp ⟨ks,f,s,z,b,hs,rfl⟩
    have g:=grown_ok (T:=T) (L:=L) (G:=G) (n:=n) (by lia) (by lia) (by lia) (by lia) hp b
    have fin:∀x,(∃ks' f',Dp k m T L G (p+1) ks' f'/\x=Sl.val (.dit ks' (ks'.map (wd f'))))->∃ks f s z,Dp k m T L G (p+1) ks f/\(s= .tre (.dit ks (ks.map (wd f)))\/s= .val (.dit ks (ks.map (wd f))))/\[Sl.val (zaz k m n T L G),.val (.tup ((List.replicate (k-1) (0:Int)).map .int)),x,.val (.int p)]=[.val (zaz k m n T L G),.val (.tup ((List.replicate (k-1) (0:Int)).map .int)),s,z]:=fun x ⟨ks',f',d,e⟩=>⟨ks',f',x,_,d,.inr e,rfl⟩
    rcases hs with rfl|rfl
    . simp! only[↓zbF]
      refine g.mono ?_
      rintro _ ⟨ks',f',d,rfl⟩
      simp! only[]
      exact fin _ ⟨ks',f',d,rfl⟩
    . simp! only[↓zbF]
      refine g.mono ?_
      rintro _ ⟨ks',f',d,rfl⟩
      simp! only[]
      exact fin _ ⟨ks',f',d,rfl⟩
  . rintro _ ⟨ks,f,s,z,b,hs,rfl⟩
    have z0:Sgn m n (List.replicate n 0):=⟨List.length_replicate,fun i hi=>by right;left;unfold sg;rw[List.getD_eq_getElem?_getD,List.getElem?_replicate,if_pos hi];rfl,fun i hi=>by
      unfold sg
      rw[List.getD_eq_getElem?_getD,List.getElem?_replicate]
      split<;>rfl⟩
    have mem:=(b.all _ z0).1
    rw[zmg hn (by lia) (by lia) z0]at mem
    obtain⟨h1,h2,h3⟩:=b.ok _ mem
    have lr:lkD ks (ks.map (wd f)) (List.replicate (k-1) 0)=some (wd f (List.replicate (k-1) 0)):=by rw[zjm,if_pos mem]
    have fin:∃s,SgF m s/\(∀s',SgF m s'->zcr k m T L G s' n<=zcr k m T L G s n)/\Sl.val (D.tup (((f (List.replicate (k-1) 0)).2.map .int).take m))= .val (.tup (wI m s)):=by
      refine⟨_,h1.f,fun s' h'=>?_,by rw[take_w (by have:=h1.len;lia)]⟩
      have w':Sgn m n ((List.range n).map s'):=⟨by simp,fun i hi=>by
        rw[sg_fn s' hi]
        by_cases q:i<m
        . exact h'.rng i q
        . have:=h'.out i (by lia);lia,fun i hi=>by
        by_cases q:i<n
        . rw[sg_fn s' q];exact h'.out i hi
        . exact zkt _ (by simp;lia)⟩
      have:=(b.all _ w').2
      rw[zmg hn (by lia) (by lia) w',<-h3,zi1 (s:=sg ((List.range n).map s')) (t:=s') fun i hi=>sg_fn s' hi]at this
      exact this
    have wr:wd f (List.replicate (k-1) 0)= .tup [.int (f (List.replicate (k-1) 0)).1,.tup ((f (List.replicate (k-1) 0)).2.map .int)]:=rfl
    rcases hs with rfl|rfl
    . simp! only[znf,lr,wr,zis]
      exact fin
    . simp! only[znf,lr,wr,zis]
      exact fin
end
noncomputable def zel (lo hi:Nat->Int)(n:Nat):List Tt:=(List.range n).flatMap fun p=>[(p+1,p,hi p),(p,p+1,-lo p)]
noncomputable def ziD (k:Nat)(s T:Nat->Int)(m:Nat):List Tt:=(List.range m).flatMap fun i=>(if 0<=s i then[(i+k,i,T i)]else[])++(if s i<=0 then[(i,i+k,-T i)]else[])
theorem zh0 (lo hi:Nat->Int):∀n,(zel lo hi n).length=2*n
 |0=>rfl
 |n+1=>by
  have:=zh0 lo hi n
  unfold zel at this ⊢
  rw[List.range_succ,List.flatMap_append,List.length_append,this]
  simp
  lia
theorem zk4 (k:Nat)(s T:Nat->Int):∀m,(ziD k s T m).length<=2*m
 |0=>by simp[ziD]
 |m+1=>by
  have:=zk4 k s T m
  unfold ziD at this ⊢
  rw[List.range_succ,List.flatMap_append,List.length_append]
  have h:(List.flatMap (fun i=>(if 0<=s i then[(i+k,i,T i)]else[])++(if s i<=0 then[(i,i+k,-T i)]else[])) [m]).length<=2:=by
   simp only[List.flatMap_cons,List.flatMap_nil,List.append_nil,List.length_append]
   split<;>split<;>simp
  lia
section
variable {k m n:Nat} {T L G s lo hi:Nat->Int}
theorem zoo (n9:n<=900):Ok (zcP [.lst (wI n lo),.lst (wI n hi)]) fun x=>x= .own ((zel lo hi n).map tD):=by
 simp! only[↓zcP,↓zf5,ziA,↓zfv]
 refine zbG (fun p ρ=>∃s3 s4,ρ=[.val (.lst (wI n lo)),.val (.lst (wI n hi)),.own ((zel lo hi p).map tD),s3,s4]) ⟨_,_,rfl⟩ ?_ ?_
 ·rintro p _ hp ⟨s3,s4,rfl⟩
  have hl:=zh0 lo hi p
  have e:(zel lo hi p).map tD++[.tup [.int ((p:Int)+1),.int p,.int (hi p)]]++[.tup [.int p,.int ((p:Int)+1),.int (-lo p)]]=(zel lo hi (p+1)).map tD:=by
   unfold zel
   rw[List.range_succ,List.flatMap_append,List.map_append,List.append_assoc]
   rfl
  simp! only[↓zfw,zat _ hp,e,List.length_map,List.length_append]
  exact⟨by lia,by lia,_,_,rfl⟩
 ·rintro _ ⟨s3,s4,rfl⟩
  simp! only[]
theorem cties_ok (hn:n+1=m+k)(n9:n<=900)(sf:SgF m s):Ok (zcM [zaz k m n T L G,.tup (wI m s)]) fun x=>x= .own ((zel (ltP k L G s) (gtP k L G s) n++ziD k s T m).map tD):=by
 simp! only[↓zcM,↓zfl]
 refine(zkq sf.out (by lia) (by lia)).mono ?_
 rintro _ rfl
 simp! only[↓zfJ,zl2]
 refine⟨by lia,zaF (fun ρ=>∃a b c,ρ=[a,b,c]) (fun p=> .int (ltP k L G s p)) ⟨_,_,_,rfl⟩ ?_ ?_⟩
 ·rintro p _ hp ⟨a,b,c,rfl⟩
  simp! only[↓zfM]
  unfold ltP
  exact⟨fun h=>⟨by rw[if_pos h],_,_,_,rfl⟩,fun h=>⟨by rw[if_neg (by lia)],_,_,_,rfl⟩⟩
 ·rintro _ ⟨a,b,c,rfl⟩
  simp! only[↓zgb,zl2]
  refine⟨by lia,zaF (fun ρ=>∃a b c,ρ=[a,b,c]) (fun p=> .int (gtP k L G s p)) ⟨_,_,_,rfl⟩ ?_ ?_⟩
  ·rintro p _ hp ⟨a,b,c,rfl⟩
   simp! only[↓zft]
   unfold gtP
   exact⟨fun h=>⟨by rw[if_pos h],_,_,_,rfl⟩,fun h=>⟨by rw[if_neg (by lia)],_,_,_,rfl⟩⟩
  ·rintro _ ⟨a,b,c,rfl⟩
   simp! only[]
   refine(zoo n9).mono ?_
   rintro _ rfl
   simp! only[↓zfO,ziA]
   refine zbG (fun i ρ=>∃s6 s7,ρ=[.val (zaz k m n T L G),.val (.tup (wI m s)),.val (.lst (wI n (cnP k s))),.val (.lst (wI n (ltP k L G s))),.val (.lst (wI n (gtP k L G s))),.own ((zel (ltP k L G s) (gtP k L G s) n++ziD k s T i).map tD),s6,s7]) ⟨_,_,by rw[show ziD k s T 0=[]from rfl,List.append_nil]⟩ ?_ ?_
   ·rintro i _ hi ⟨s6,s7,rfl⟩
    have h1:=zh0 (ltP k L G s) (gtP k L G s) n
    have h2:=zk4 k s T i
    have e:∀l:List Tt,(l=(if 0<=s i then[(i+k,i,T i)]else[])++(if s i<=0 then[(i,i+k,-T i)]else[]))->(zel (ltP k L G s) (gtP k L G s) n++ziD k s T i).map tD++l.map tD=(zel (ltP k L G s) (gtP k L G s) n++ziD k s T (i+1)).map tD:=fun l hl=>by
     subst hl
     unfold ziD
     rw[List.range_succ,List.flatMap_append,<-List.map_append,List.append_assoc]
     simp
    simp! only[↓zf3,↓zfG,zat _ hi]
    refine⟨fun a=>⟨by lia,fun b=>⟨by lia,.val (.int i),.val (.int (T i)),?_⟩,fun b=>⟨.val (.int i),.val (.int (T i)),?_⟩⟩,fun a=>⟨fun b=>⟨by lia,.val (.int i),.val (.int (T i)),?_⟩,fun b=>by lia⟩⟩
    ·rw[<-e [(i+k,i,T i),(i,i+k,-T i)] (by rw[if_pos a,if_pos b];rfl),List.append_assoc];rfl
    ·rw[<-e [(i+k,i,T i)] (by rw[if_pos a,if_neg (by lia)];rfl)];rfl
    ·rw[<-e [(i,i+k,-T i)] (by rw[if_neg (by lia),if_pos b];rfl)];rfl
   ·rintro _ ⟨s6,s7,rfl⟩
    simp! only[]
end
section
variable {k m n:Nat} {T L G s:Nat->Int}
theorem mem_ties {t:Tt}:t∈zel (ltP k L G s) (gtP k L G s) n++ziD k s T m↔Tie k m n T L G s t.1 t.2.1 t.2.2:=by
 obtain⟨a,b,w⟩:=t
 unfold zel ziD Tie
 rw[List.mem_append,List.mem_flatMap,List.mem_flatMap]
 constructor
 ·rintro(⟨p,hp,h⟩|⟨i,hi,h⟩)
  ·rw[List.mem_range]at hp
   simp only[List.mem_cons,List.not_mem_nil,or_false,Prod.mk.injEq]at h
   rcases h with⟨rfl,rfl,rfl⟩|⟨rfl,rfl,rfl⟩
   ·exact .inl ⟨_,hp,rfl,rfl,rfl⟩
   ·exact .inr (.inl ⟨_,hp,rfl,rfl,rfl⟩)
  ·rw[List.mem_range]at hi
   rcases List.mem_append.mp h with h|h
   ·by_cases z:0<=s i
    ·rw[if_pos z]at h
     simp only[List.mem_cons,List.not_mem_nil,or_false,Prod.mk.injEq]at h
     obtain⟨rfl,rfl,rfl⟩:=h
     exact .inr (.inr (.inl ⟨_,hi,z,rfl,rfl,rfl⟩))
    ·rw[if_neg z]at h;cases h
   ·by_cases z:s i<=0
    ·rw[if_pos z]at h
     simp only[List.mem_cons,List.not_mem_nil,or_false,Prod.mk.injEq]at h
     obtain⟨rfl,rfl,rfl⟩:=h
     exact .inr (.inr (.inr ⟨_,hi,z,rfl,rfl,rfl⟩))
    ·rw[if_neg z]at h;cases h
 ·(try dsimp only)
  rintro(⟨p,hp,rfl,rfl,rfl⟩|⟨p,hp,rfl,rfl,rfl⟩|⟨i,hi,z,rfl,rfl,rfl⟩|⟨i,hi,z,rfl,rfl,rfl⟩)
  ·exact .inl ⟨_,List.mem_range.mpr hp,by simp⟩
  ·exact .inl ⟨_,List.mem_range.mpr hp,by simp⟩
  ·exact .inr ⟨_,List.mem_range.mpr hi,by simp[z]⟩
  ·exact .inr ⟨_,List.mem_range.mpr hi,by simp[z]⟩
theorem zoF (hn:n+1=m+k)(k2:2<=k)(m1:1<=m)(k5:k<=5)(n9:n<=900)(lg:∀p,p<n->L p<=G p):
  Ok (zaX [zaz k m n T L G]) fun x=>∃s r,SgF m s/\(∀s',SgF m s'->zcr k m T L G s' n<=zcr k m T L G s n)/\RowOf k m n T L G s r/\x= .val (.tup [.int (zcr k m T L G s n),.tup (wI n r),.tup (wI m s)]):=by
 simp! only[↓zaX,↓zeN]
 refine(zkl hn k2 m1 k5 n9).mono ?_
 rintro _ ⟨s,sf,opt,rfl⟩
 simp! only[]
 refine(worth_ok hn (by lia) (by lia) sf).mono ?_
 rintro _ rfl
 simp! only[]
 refine(cties_ok hn (by lia) sf).mono ?_
 rintro _ rfl
 simp! only[]
 refine(znO (n:=n) (by lia) (fun t ht=>?_) (fun c v w home apart tie=>no_round k2 hn lg sf opt home apart fun i hi=>mem_ties.mp (tie i hi)) (fun p hp=>⟨gtP k L G s p,mem_ties.mpr (.inl ⟨p,hp,rfl,rfl,rfl⟩)⟩)).mono ?_
 ·rcases mem_ties.mp ht with⟨p,hp,e1,e2,_⟩|⟨p,hp,e1,e2,_⟩|⟨i,hi,_,e1,e2,_⟩|⟨i,hi,_,e1,e2,_⟩<;>lia
 ·rintro _ ⟨X,hX,rfl⟩
  simp! only[]
  exact⟨s,_,sf,opt,zlT fun a b w t=>hX (a,b,w) (mem_ties.mpr t),rfl⟩
end
theorem fline_ok (h:Pot ds)(ok:LineOk k s n L G):
  Ok (zbw ds [zaz k s n S L G]) fun r=>∃(S L G:Nat->Int) (ds':List D),Pot ds'/\LineOk k s n L G/\r=(.val (zaz k s n S L G),ds'):=by
 obtain⟨k2,k5,kn,n24,hs,-,-⟩:=ok
 simp! only[↓zbw,↓zdl,zaz]
 refine(za8 h (m:=2) (by lia) (by lia)).mono ?_
 rintro _ ⟨x,d1,hx,h1,rfl⟩
 have hx':∃z:Int,(z=9\/z= -9)/\[D.int 9,D.int (-9)][x]? =some (.int z):=by
  have:x=0\/x=1:=by lia
  rcases this with rfl|rfl
  ·exact⟨_,.inl rfl,rfl⟩
  ·exact⟨_,.inr rfl,rfl⟩
 obtain⟨z,hz,ez⟩:=hx'
 simp! only[ez,↓zdB]
 refine⟨zcs (by lia),zbG (fun i ρ=>∃(ds':List D) (S':Nat->Int) (s8:Sl),Pot ds'/\ρ=[.par ds',.val (zaz k s n S L G),.val (.int k),.val (.tup (wI s S)),.val (.tup (wI n L)),.val (.tup (wI n G)),.val (.int (z*100000000000000000000000000000000000000000000000000000000000)),.own (wI i S'),s8]) ⟨d1,fun _=>0,_,h1,rfl⟩ ?_ ?_⟩
 ·rintro i _ hi ⟨d2,S',s8,h2,rfl⟩
  simp! only[↓zdv]
  refine(za8 h2 (m:=3) (by lia) (by lia)).mono ?_
  rintro _ ⟨y,d3,hy,h3,rfl⟩
  have hy':∃w:Int,w.natAbs<10/\[D.int 0,D.int 9,D.int (-9)][y]? =some (.int w):=by
   have:y=0\/y=1\/y=2:=by lia
   rcases this with rfl|rfl|rfl<;>exact⟨_,by decide,rfl⟩
  obtain⟨w,hw,ew⟩:=hy'
  simp! only[ew,zhK]
  exact⟨zcs (by lia),by lia,d3,_,_,h3,rfl⟩
 rintro _ ⟨d2,S',s8,h2,rfl⟩
 simp! only[↓zdH]
 refine⟨by lia,zaF (fun ρ=>∃s,ρ=[s]) (fun i=> .int (L i%1000000000)) ⟨_,rfl⟩ ?_ ?_⟩
 ·rintro i _ hi ⟨s,rfl⟩
  simp! only[↓zdy]
  exact⟨_,rfl⟩
 rintro _ ⟨_,rfl⟩
 simp! only[↓zdC]
 refine⟨by lia,zfz (fun i acc ρ=>∃(f:Nat->Int) (ds':List D) (s:Sl),Pot ds'/\(∀j,j<i->L j%1000000000<=f j/\f j<=L j%1000000000+9)/\acc=wI i f/\ρ=[.par ds',s]) ⟨fun _=>0,d2,.emp,h2,fun _ h=>by lia,rfl,rfl⟩ ?_ ?_⟩
 ·rintro i _ _ hi ⟨f,d3,s,h3,b,rfl,rfl⟩
  simp! only[↓zdt]
  refine(za8 h3 (m:=9) (by lia) (by lia)).mono ?_
  rintro _ ⟨t,d4,ht,h4,rfl⟩
  simp! only[]
  refine⟨_,d4,_,h4,fun j hj=>?_,zhK i f _,rfl⟩
  split
  ·rename_i hji;exact b j hji
  ·have e:j=i:=by lia
   subst e;lia
 rintro _ _ ⟨G',d3,s',h3,b,rfl,rfl⟩
 simp! only[↓zdF,↓zdx]
 generalize z*100000000000000000000000000000000000000000000000000000000000=far
 refine⟨by lia,zaF (fun ρ=>∃s,ρ=[.val (.int far),s]) (fun i=> .int (far+L i%1000000000)) ⟨_,rfl⟩ ?_ ?_⟩
 ·rintro i _ hi ⟨s,rfl⟩
  simp! only[↓zdz]
  exact⟨_,rfl⟩
 rintro _ ⟨_,rfl⟩
 simp! only[]
 refine⟨by lia,zaF (fun ρ=>∃s,ρ=[.val (.int far),s]) (fun i=> .int (far+G' i)) ⟨_,rfl⟩ ?_ ?_⟩
 ·rintro i _ hi ⟨s,rfl⟩
  simp! only[↓zdI]
  exact⟨_,rfl⟩
 rintro _ ⟨_,rfl⟩
 simp! only[]
 refine⟨_,_,_,d3,h3,⟨k2,k5,kn,n24,hs,fun p hp=>?_,fun p hp=>?_⟩,rfl⟩
 ·have:=b p hp;lia
 ·have:=b p hp;lia
theorem zlY (h:Pot ds):
  Ok (zbu ds []) fun r=>∃(k s n:Nat) (S L G:Nat->Int) (ds':List D),Pot ds'/\LineOk k s n L G/\r=(.val (zaz k s n S L G),ds'):=by
 simp! only[↓zbu,↓zdp]
 refine(za8 h (m:=4) (by lia) (by lia)).mono ?_
 rintro _ ⟨x,d1,hx,h1,rfl⟩
 simp! only[]
 refine(za8 h1 (m:=6) (by lia) (by lia)).mono ?_
 rintro _ ⟨y,d2,hy,h2,rfl⟩
 have hy':∃w:Nat,12<=w/\w<=24/\[D.int 12,D.int 24][y/5]? =some (.int w):=by
  have:y/5=0\/y/5=1:=by lia
  rcases this with e|e<;>rw[e]
  ·exact⟨12,by lia,by lia,rfl⟩
  ·exact⟨24,by lia,by lia,rfl⟩
 obtain⟨w,hw,hw',ew⟩:=hy'
 have ey:(y:Int)/5=((y/5:Nat):Int):=by lia
 simp! only[ey,ew]
 refine⟨zi4 (by lia) (by lia),?_⟩
 refine(za8 h2 (m:=5) (by lia) (by lia)).mono ?_
 rintro _ ⟨v,d3,hv,h3,rfl⟩
 rw[show(2:Int)+(x:Int)=((2+x:Nat):Int) by lia]
 simp! only[]
 rw[show(1:Int)+(v:Int)=((1+v:Nat):Int) by lia]
 refine(zpn h3 (2+x) w (1+v) (by lia) (by lia) (by lia) (by lia) (by lia) (by lia)).mono ?_
 rintro _ ⟨s,n,S,L,G,d4,h4,ok,rfl⟩
 simp! only[]
 refine(za8 h4 (m:=8) (by lia) (by lia)).mono ?_
 rintro _ ⟨u,d5,hu,h5,rfl⟩
 simp! only[]
 refine⟨fun _=>?_,fun _=>?_⟩
 ·refine(fline_ok h5 ok).mono ?_
  rintro _ ⟨S,L,G,d6,h6,ok,rfl⟩
  simp! only[↓zcj]
  exact⟨_,_,_,_,_,_,_,h6,ok,rfl⟩
 ·simp! only[↓zcj]
  exact⟨_,_,_,_,_,_,_,h5,ok,rfl⟩
theorem zfF {d:D}{n k:Nat}(h:Sq d n r)(hk:k<=n)(hn:n<=1000):Ok (zbf [d,.int k]) fun x=>x= .val (.tup (wI (n+1-k) (win k r))):=by
 have hl:((n:Int)-(k:Int)+1).toNat=n+1-k:=by lia
 simp! only[↓zbf,↓zgV,↓zgA,hl,h.ln]
 refine⟨zaA (by lia) (by lia),by lia,zaF (fun ρ=>∃s,ρ=[.val d,.val (.int k),s]) (fun i=> .int (win k r i)) ⟨_,rfl⟩ ?_ ?_⟩
 ·rintro i _ hi ⟨s,rfl⟩
  have hc:=cut_w (n:=n) (a:=i) (b:=k) (fun j=> .int (r j)) (by lia)
  obtain⟨d',e1,e2⟩:=h.ct (some (i:Int)) (some ((i:Int)+(k:Int)))
  rw[hc]at e2
  simp! only[↓zgH,e1,e2,zcC,zbI]
  exact⟨rfl,_,rfl⟩
 ·rintro _ ⟨s,rfl⟩
  simp! only[]
theorem zlP (x:Int):0<=absI x:=by unfold absI;split<;>lia
theorem zka {f:Nat->Int}:∀n,(∀i,i<n->0<=f i)->0<=sumR n f
 |0,_=>Int.le_refl _
 |n+1,h=>by
  have:=zka n fun i hi=>h i (by lia)
  have:=h n (by lia)
  show 0<=sumR n f+f n
  lia
theorem zjO {f:Nat->Int}:∀n,(∀i,i<n->0<=f i)->sumR n f<=0->∀i,i<n->f i=0
 |0,_,_,i,hi=>by lia
 |n+1,h,z,i,hi=>by
  have z:sumR n f+f n<=0:=z
  have a:=zka n fun i hi=>h i (by lia)
  have b:=h n (by lia)
  by_cases e:i=n
  ·subst e;lia
  ·exact zjO n (fun i hi=>h i (by lia)) (by lia) i (by lia)
section
variable {k m n:Nat} {T L G s r:Nat->Int}
theorem chg_nn:0<=chg k m T r:=zka m fun i _=>zlP _
theorem chg_zero:chg k m T r=0↔∀i,i<m->win k r i=T i:=by
 constructor
 ·intro h i hi
  have:=zjO (f:=fun i=>absI (win k r i-T i)) m (fun i _=>zlP _) (by unfold chg at h;lia) i hi
  unfold absI at this
  split at this<;>lia
 ·intro h
  unfold chg
  rw[zan (g:=fun _=>0) fun i hi=>by rw[h i hi,Int.sub_self];rfl,zaW]
structure Least (k m n:Nat) (T L G:Nat->Int) (v:Int) (r:Nat->Int):Prop where
 box:∀p,p<n->L p<=r p/\r p<=G p
 eq:chg k m T r=v
 all:∀r',(∀p,p<n->L p<=r' p/\r' p<=G p)->v<=chg k m T r'
noncomputable def DimOf (ok:LineOk k m n L G):Dim k m n:=⟨ok.k2,ok.k5,ok.kn,ok.n24,ok.s⟩
theorem zmK (d:Dim k m n)(le:∀p,p<n->L p<=G p):Ok (zaX [zaz k m n T L G]) fun x=>∃v r d,Least k m n T L G v r/\x= .val (.tup [.int v,.tup (wI n r),d]):=by
 have n24:=d.n24
 have k2:=d.k2
 have kn:=d.kn
 have hn:=d.s
 refine(zoF (T:=T) hn k2 (by lia) d.k5 (by lia) le).mono ?_
 rintro _ ⟨s,r,sf,opt,ro,rfl⟩
 exact⟨_,r,_,⟨fun p hp=>ro.box le hp,ro.eq hn (by lia) sf,fun r' h=>weak hn (by lia) sf h⟩,rfl⟩
theorem Least.fits {v:Int}(h:Least k m n T L G v r):v=0↔∃r,Fits k m n T L G r:=by
 constructor
 ·intro z
  exact⟨r,fun p hp=>(h.box p hp).1,fun p hp=>(h.box p hp).2,chg_zero.mp (h.eq.trans z)⟩
 ·rintro⟨r',f⟩
  have:=h.all r' fun p hp=>⟨f.low p hp,f.high p hp⟩
  rw[chg_zero.mpr f.sum]at this
  have:=h.eq
  have:=chg_nn (k:=k) (m:=m) (T:=T) (r:=r)
  lia
theorem zk9 (h:Pot ds):
  Ok (zbi ds []) fun r=>∃(s n:Nat) (S L G:Nat->Int) (ds':List D),Pot ds'/\LineOk 2 s n L G/\r=(.val (zaz 2 s n S L G),ds'):=by
 simp! only[↓zbi,↓zcW]
 refine(za8 h (m:=6) (by lia) (by lia)).mono ?_
 rintro _ ⟨a,d1,ha,h1,rfl⟩
 obtain⟨w,ew,hw⟩:∃w:Nat,[D.int 12,.int 24][a/5]? =some (.int (w:Int))/\2<=w/\w<=24:=by
  have:a/5=0\/a/5=1:=by lia
  rcases this with e|e<;>rw[e]
  ·exact⟨12,rfl,by lia⟩
  ·exact⟨24,rfl,by lia⟩
 have e1:(a:Int)/5=((a/5:Nat):Int):=by lia
 simp! only[e1,ew]
 refine⟨by decide+kernel,?_⟩
 refine(za8 h1 (m:=5) (by lia) (by lia)).mono ?_
 rintro _ ⟨b,d2,hb,h2,rfl⟩
 have e2:(1:Int)+(b:Int)=((1+b:Nat):Int):=by lia
 simp! only[e2]
 refine(zpn h2 2 w (1+b) (by lia) (by lia) (by lia) (by lia) (by lia) (by lia)).mono ?_
 rintro _ ⟨s,n,S,L,G,d3,h3,ok,rfl⟩
 simp! only[]
 exact⟨s,n,S,L,G,d3,h3,ok,rfl⟩
structure MinF (k m n:Nat) (T L G:Nat->Int) (F:Int):Prop where
 ex:∃X,Feas k m n T L G F X
 no:∀X,¬Feas k m n T L G (F-1) X
theorem Feas.more (f:Feas k m n T L G F X)(h:F<=F'):Feas k m n T L G F' X:=⟨fun i hi=>by have:=f.up i hi;lia,fun i hi=>by have:=f.dn i hi;lia,f.lo,f.hi⟩
theorem MinF.le (m1:MinF k m n T L G F)(f:Feas k m n T L G F' X):F<=F':=by
 rcases Int.lt_or_le F' F with h|h
 ·exact absurd (f.more (by lia)) (m1.no X)
 ·exact h
end
theorem two_ok (ns:List Int):Ok (zeg [.scr ns]) fun x=>∃a b:Int,x= .own [.int a,.int b]:=by
 simp! only[↓zeg,↓zhY,Option.some.injEq]
 exact⟨_,_,rfl⟩
theorem deal2_ok (A B:Int)(k:Nat)(hk:k<2):Ok (zdo [.lst [.int A,.int B],.int k]) fun r=>∃ds,Pot ds/\r= .own ds:=by
 have tail:∀(c b:Int),0<=b->b<4294967296->Ok (zdN [.val (.lst [.int A,.int B]),.val (.int k),.val (.int c),.val (.int b),.val (.int 0),.emp]) fun p=>∃(a:Int) (s3 s5:Sl),p=(.next,[.val (.lst [.int A,.int B]),.val (.int k),.val (.int c),s3,.val (.int a),s5]):=fun c b h0 h1=>by
  simp! only[↓zdN]
  refine⟨rfl,zbG (fun _ ρ=>∃(a b:Int) (s5:Sl),0<=b/\b<4294967296/\ρ=[.val (.lst [.int A,.int B]),.val (.int k),.val (.int c),.val (.int b),.val (.int a),s5]) ⟨0,_,.emp,h0,h1,rfl⟩ ?_ ?_⟩
  ·rintro i _ hi ⟨a,b,s5,b0,b1,rfl⟩
   simp! only[↓zgw]
   have e1:0<=(b*48271+12345)%2147483647:=Int.emod_nonneg _ (by decide)
   have e2:(b*48271+12345)%2147483647<2147483647:=Int.emod_lt_of_pos _ (by decide)
   exact⟨zcs (by lia),zjP (by decide),zcs (by lia),by decide+kernel,_,_,_,e1,by lia,rfl⟩
  ·rintro _ ⟨a,b,s5,_,_,rfl⟩
   exact⟨_,_,_,rfl⟩
 have last:∀c:Int,Ok (zdY [.val (.lst [.int A,.int B]),.val (.int k),.val (.int c),.emp,.emp,.emp]) fun p=>∃ds a,Pot ds/\p=(.ret (.own ds),a):=fun c=>by
  simp! only[↓zdY,↓zgs]
  refine⟨fun _=>⟨_,_,⟨_,rfl⟩,rfl⟩,fun _=>⟨zcs (by decide),?_⟩⟩
  refine(tail c _ (by lia) (by lia)).mono ?_
  rintro _ ⟨a,s3,s5,rfl⟩
  simp! only[]
  exact⟨_,_,⟨_,rfl⟩,rfl⟩
 have:k=0\/k=1:=by lia
 simp! only[↓zdo,↓zgZ]
 refine⟨fun h=>?_,fun h=>by lia⟩
 obtain⟨w,ew⟩:∃w:Int,[D.int A,.int B][k]? =some (.int w):=by
  rcases this with rfl|rfl<;>exact⟨_,rfl⟩
 simp! only[ew]
 refine⟨by decide+kernel,by decide+kernel,by decide+kernel,(last _).mono ?_⟩
 rintro _ ⟨d,a,h,rfl⟩
 simp! only[]
 exact⟨_,h,rfl⟩
section
variable {k m n:Nat} {T L G r:Nat->Int} {F v:Int}
theorem zm7 (hn:n+1=m+k)(kn:k<=n)(n9:n<=900):Ok (zcE [zaz k m n T L G,.tup (wI n r)]) fun x=>x= .val (.int (chg k m T r)):=by
 simp! only[↓zcE,↓zfW,↓zfK]
 refine(zfF (Sq.tup n r) kn (by lia)).mono ?_
 rintro _ rfl
 have e:n+1-k=m:=by lia
 simp! only[e,zgX]
 refine⟨by lia,zaF (fun ρ=>∃a b,ρ=[a,b]) (fun i=> .int (absI (win k r i-T i))) ⟨_,_,rfl⟩ ?_ ?_⟩
 ·rintro i _ hi ⟨a,b,rfl⟩
  simp! only[↓zf7,znC]
  exact⟨_,_,rfl⟩
 ·rintro _ ⟨a,b,rfl⟩
  simp! only[zcC,zbI]
  rfl
theorem win2 (r:Nat->Int)(i:Nat):win 2 r i=r i+r (i+1):=by
 show 0+r (i+0)+r (i+1)=_
 rw[Int.zero_add];rfl
theorem zom (T r:Nat->Int):∀m:Nat,((((List.range m).filterMap fun i=>if r i+r (i+1)=T i then none else some (D.int (i:Nat))).length:Nat):Int)=cw T r m
 |0=>rfl
 |m+1=>by
  rw[List.range_succ,List.filterMap_append,List.length_append,zey,<-zom T r m]
  by_cases e:r m+r (m+1)=T m<;>simp[e]
theorem ziV (hn:n=m+1)(m1:1<=m)(m9:m<=23):Ok (zaH [zaz 2 m n T L G,.tup (wI n r)]) fun x=>x= .val (.int (cw T r m)):=by
 simp! only[↓zaH,↓zch,↓zcR]
 refine(zfF (Sq.tup n r) (by lia) (by lia)).mono ?_
 rintro _ rfl
 have e:n+1-2=m:=by lia
 simp! only[e,ziA]
 refine⟨by lia,zof (fun ρ=>∃a b,ρ=[.val (zaz 2 m n T L G),a,b]) (fun i=>if r i+r (i+1)=T i then none else some (.int (i:Nat))) ⟨_,_,rfl⟩ ?_ ?_⟩
 ·rintro i _ hi ⟨a,b,rfl⟩
  simp! only[↓zcN,↓zcQ,zat _ hi,win2]
  exact⟨fun z=>⟨by rw[if_neg z],_,_,rfl⟩,fun z=>⟨by rw[if_pos z],_,_,rfl⟩⟩
 ·rintro _ ⟨a,b,rfl⟩
  simp! only[zom]
theorem zoN (r:Nat->Int)(i k:Nat):sumR (i+k) r=sumR i r+win k r i:=zbA r i k
theorem zlH (hn:n+1=m+k)(bx:∀p,p<n->L p<=r p/\r p<=G p)(h:∀i,i<m->absI (win k r i-T i)<=F):Feas k m n T L G F fun v=>sumR v r:=
  ⟨fun i hi=>by have:=h i hi;have:=zoN r i k;unfold absI at*;(try dsimp only);split at* <;>lia,
   fun i hi=>by have:=h i hi;have:=zoN r i k;unfold absI at*;(try dsimp only);split at* <;>lia,
   fun p hp=>by have:=bx p hp;show sumR p r+L p<=sumR p r+r p;lia,
   fun p hp=>by have:=bx p hp;show sumR p r+r p-G p<=sumR p r;lia⟩
theorem Feas.row (f:Feas k m n T L G F X):(∀p,p<n->L p<=X (p+1)-X p/\X (p+1)-X p<=G p)/\∀i,i<m->absI (win k (fun p=>X (p+1)-X p) i-T i)<=F:=
  ⟨fun p hp=>by have:=f.lo p hp;have:=f.hi p hp;lia,fun i hi=>by
    have a:=f.up i hi
    have b:=f.dn i hi
    rw[zit]
    unfold absI
    split<;>lia⟩
theorem MinF.nn (f:MinF k m n T L G F)(m1:1<=m):0<=F:=by
 obtain⟨X,fX⟩:=f.ex
 have:=fX.up 0 (by lia)
 have:=fX.dn 0 (by lia)
 lia
theorem one_le {f:Nat->Int}:∀{m:Nat},(∀i,i<m->0<=f i)->∀i,i<m->f i<=sumR m f
 |0,_,i,hi=>by lia
 |m+1,h,i,hi=>by
  have a:=zka m fun i hi=>h i (by lia)
  have b:=h m (by lia)
  show f i<=sumR m f+f m
  by_cases e:i=m
  ·subst e;lia
  ·have:=one_le (fun i hi=>h i (by lia)) i (show i<m by lia);lia
theorem zk0 {f:Nat->Int}{c:Int}:∀m:Nat,(∀i,i<m->f i<=c)->sumR m f<=c*(m:Int)
 |0,_=>by show(0:Int)<=c*((0:Nat):Int);simp
 |m+1,h=>by
  have a:=zk0 m fun i hi=>h i (by lia)
  have b:=h m (by lia)
  show sumR m f+f m<=c*((m+1:Nat):Int)
  push_cast
  rw[Int.mul_add,Int.mul_one]
  lia
theorem both (hn:n+1=m+k)(m1:1<=m)(ls:Least k m n T L G v r)(mf:MinF k m n T L G F):F<=v/\v<=F*(m:Int)/\(F=0↔∃r,Fits k m n T L G r):=by
 have nn:=mf.nn m1
 refine⟨mf.le (zlH hn ls.box fun i hi=>by rw[<-ls.eq];exact one_le (f:=fun i=>absI (win k r i-T i)) (fun i _=>zlP _) i hi),?_,?_⟩
 ·obtain⟨X,fX⟩:=mf.ex
  exact Int.le_trans (ls.all _ fX.row.1) (zk0 m fX.row.2)
 ·constructor
  ·intro z
   subst z
   obtain⟨X,fX⟩:=mf.ex
   exact⟨_,fun p hp=>(fX.row.1 p hp).1,fun p hp=>(fX.row.1 p hp).2,fun i hi=>by have:=fX.row.2 i hi;unfold absI at this;split at this<;>lia⟩
  ·rintro⟨r',f⟩
   have:=mf.le (zlH (F:=0) (r:=r') hn (fun p hp=>⟨f.low p hp,f.high p hp⟩) fun i hi=>by rw[f.sum i hi,Int.sub_self];decide)
   lia
theorem zoG (hn:n+1=m+k)(k2:2<=k)(m1:1<=m)(n9:n<=300)(le:∀p,p<n->L p<=G p):Ok (zb0 [zaz k m n T L G]) fun x=>∃F r d2,MinF k m n T L G F/\(∀p,p<n->L p<=r p/\r p<=G p)/\x= .val (.tup [.int F,.tup (wI n r),d2]):=by
 refine(off_ok hn k2 m1 n9 le).mono ?_
 rintro _ ⟨F,X,w,fX,nf,_,rfl⟩
 exact⟨F,_,_,⟨⟨X,fX⟩,nf⟩,fX.row.1,rfl⟩
theorem znG (a b:Bool):dNe (.bl a) (.bl b)=some (.bl (a !=b)):=by
 unfold dNe
 rw[show noS (.bl a)=true from rfl,show noS (.bl b)=true from rfl,show depth (.bl a)=0 from rfl]
 rfl
theorem word_no {pd:D}(h:zn9 k n T L G pd):∃(w:Str) (rest:List D),pd= .tup (.str w::rest)/\(w=="row")=false:=by
 rcases h with⟨a,b,_,_,_,_,rfl⟩|⟨pl,_,_,rfl⟩|⟨pl,_,_,rfl⟩<;>exact⟨_,_,rfl,by decide+kernel⟩
theorem zkk (ok:LineOk k m n L G):Ok (zbl [zaz k m n T L G]) fun x=>x= .val (.bl true):=by
 have hn:=ok.s
 have kn:=ok.kn
 have n24:=ok.n24
 have m1:1<=m:=by lia
 simp! only[↓zbl,↓zcV]
 refine(zmK (DimOf ok) ok.le).mono ?_
 rintro _ ⟨v,r,d,ls,rfl⟩
 simp! only[]
 refine(zoG hn ok.k2 m1 (by lia) ok.le).mono ?_
 rintro _ ⟨F,r2,d2,mf,bx2,rfl⟩
 simp! only[]
 obtain⟨b1,b2,b3⟩:=both hn m1 ls mf
 have b4:=ls.fits
 have fin:∀(w:Str) (rest:List D),((w=="row")=true↔∃r,Fits k m n T L G r)->(F==0)=(w=="row")/\(v==0)=(w=="row"):=fun w rest h=>by
  by_cases z:∃r,Fits k m n T L G r
  ·rw[h.mpr z,b3.mpr z,b4.mpr z];exact⟨rfl,rfl⟩
  ·have:(w=="row")=false:=by
    cases e:(w==("row":Str))with
    |false=>rfl
    |true=>exact absurd (h.mp e) z
   rw[this]
   exact⟨beq_eq_false_iff_ne.mpr fun e=>z (b3.mp e),beq_eq_false_iff_ne.mpr fun e=>z (b4.mp e)⟩
 refine(zk6 (DimOf ok) T L G).mono ?_
 rintro _ (⟨r',fr,_,rfl⟩|⟨nf,pd,hp,rfl⟩)
 ·obtain⟨e1,e2⟩:=fin "row" [] ⟨fun _=>⟨_,fr⟩,fun _=>beq_self_eq_true _⟩
  simp! only[e1,e2,znG,bne_self_eq_false,↓zbT]
  exact⟨fun _=>⟨zjP (by lia),by rw[decide_eq_true b2]⟩,fun z=>absurd z (by lia)⟩
 ·obtain⟨w,rest,rfl,ew⟩:=word_no hp
  obtain⟨e1,e2⟩:=fin w rest ⟨fun z=>(by rw[ew]at z;cases z),fun⟨r,f⟩=>absurd f (nf r)⟩
  simp! only[e1,e2,znG,bne_self_eq_false,↓zbT]
  exact⟨fun _=>⟨zjP (by lia),by rw[decide_eq_true b2]⟩,fun z=>absurd z (by lia)⟩
theorem nil_eq (l:List (Nat×Nat)):dEq (.tup (l.map fun s=> .int (s.2:Nat))) (.tup [])=some (.bl (l.length==0)):=by
 have h:Pl 1 (.tup (l.map fun s=> .int (s.2:Nat))):=pl_tup fun d hd=>by
  obtain⟨s,_,rfl⟩:=List.mem_map.mp hd
  exact pl_int 0 _
 unfold dEq
 rw[h.1,show noS (.tup [])=true from rfl,decide_eq_true (Nat.le_trans h.2 (show 1<=50 by decide))]
 cases l<;>rfl
theorem cw_zero:cw T r m<=0↔∀i,i<m->r i+r (i+1)=T i:=by
 constructor
 ·intro z i hi
  have:=zjO (f:=fun i=>if r i+r (i+1)=T i then 0 else 1) m (fun i _=>by split<;>lia) z i hi
  by_cases e:r i+r (i+1)=T i
  ·exact e
  ·rw[if_neg e]at this;lia
 ·intro h
  have:=zoV (T:=T) (r:=r) (a:=0) m fun x _ hx=>h x (by lia)
  rw[Nat.zero_add]at this
  rw[this];exact Int.le_refl _
theorem zjg (ok:LineOk 2 m n L G):Ok (zaY [zaz 2 m n T L G]) fun x=>x= .val (.bl true):=by
 have hn:=ok.s
 have kn:=ok.kn
 have n24:=ok.n24
 have m1:1<=m:=by lia
 have en:n=m+1:=by lia
 simp! only[↓zaY,↓zcc]
 refine(twos_ok en (by lia) ok.le).mono ?_
 rintro _ ⟨l,r,d1,few,bx,cr,rfl⟩
 simp! only[]
 refine(zmK (DimOf ok) ok.le).mono ?_
 rintro _ ⟨v,r1,d2,ls,rfl⟩
 simp! only[]
 refine(zoG hn ok.k2 m1 (by lia) ok.le).mono ?_
 rintro _ ⟨F,r2,d3,mf,bx2,rfl⟩
 have e1:(l.length==0)=(v==0):=by
  have h:l.length=0↔v=0:=by
   rw[ls.fits]
   constructor
   ·intro z
    refine⟨r,fun p hp=>(bx p hp).1,fun p hp=>(bx p hp).2,fun i hi=>?_⟩
    rw[win2]
    exact cw_zero.mp (by lia) i hi
   ·rintro⟨r',f⟩
    have:=few.low r' fun p hp=>⟨f.low p hp,f.high p hp⟩
    have:=cw_zero (T:=T) (r:=r') (m:=m).mpr fun i hi=>by rw[<-win2];exact f.sum i hi
    lia
  by_cases z:v=0
  ·rw[z,h.mpr z];rfl
  ·rw[beq_eq_false_iff_ne.mpr z,beq_eq_false_iff_ne.mpr fun e=>z (h.mp e)]
 simp! only[nil_eq,e1,znG,bne_self_eq_false]
 refine(ziV en m1 (by lia)).mono ?_
 rintro _ rfl
 simp! only[List.length_map]
 refine⟨fun z=>absurd z (by lia),fun _=>?_⟩
 have f1:=few.low r1 ls.box
 have f2:=few.low r2 bx2
 simp! only[↓zcF]
 refine(ziV en m1 (by lia)).mono ?_
 rintro _ rfl
 simp! only[List.length_map]
 refine⟨fun z=>absurd z (by lia),fun _=>?_⟩
 refine(ziV en m1 (by lia)).mono ?_
 rintro _ rfl
 simp! only[List.length_map]
 refine⟨fun z=>absurd z (by lia),fun _=>?_⟩
 simp! only[↓zcO,↓zcH]
 refine(zfF (Sq.tup n r) (by lia) (by lia)).mono ?_
 rintro _ rfl
 have e:n+1-2=m:=by lia
 simp! only[e,zgX]
 refine⟨by lia,zaF (fun ρ=>∃a b,ρ=[a,b]) (fun i=> .int (absI (win 2 r i-T i))) ⟨_,_,rfl⟩ ?_ ?_⟩
 ·rintro i _ hi ⟨a,b,rfl⟩
  simp! only[↓zcI,znC]
  exact⟨_,_,rfl⟩
 rintro _ ⟨a,b,rfl⟩
 obtain⟨y,ey,-,hy⟩:=max_w (fun i=>absI (win 2 r i-T i)) (c:=m) (by lia)
 unfold ziy at ey
 simp! only[ey]
 refine(zm7 hn (by lia) (by lia)).mono ?_
 rintro _ rfl
 have g1:=ls.all r bx
 have g2:=mf.le (zlH hn bx hy)
 simp! only[]
 exact⟨fun _=>by rw[decide_eq_true g2],fun z=>absurd z (by lia)⟩
theorem math (ns:List Int)(hl:ns.length<=63):zk1 [.scr ns]=some (.val (.bl true)):=by
 have:Ok (zk1 [.scr ns]) fun x=>x= .val (.bl true):=by
  simp! only[↓zk1,↓m_law,↓zmp]
  refine⟨rfl,zbG (fun i ρ=>∃s1 s2,ρ=[.val (.scr ns),s1,s2]) ⟨_,_,rfl⟩ ?_ ?_⟩
  ·rintro i _ hi ⟨s1,s2,rfl⟩
   simp! only[↓zmq]
   refine(two_ok ns).mono ?_
   rintro _ ⟨a,b,rfl⟩
   simp! only[]
   refine(deal2_ok a b i (by lia)).mono ?_
   rintro _ ⟨d1,h1,rfl⟩
   simp! only[]
   refine(zlY h1).mono ?_
   rintro _ ⟨k,m,n,T,L,G,d2,h2,ok,rfl⟩
   simp! only[]
   refine(zkk ok).mono ?_
   rintro _ rfl
   simp! only[]
   refine(zk9 h2).mono ?_
   rintro _ ⟨m',n',T',L',G',d3,h3,ok',rfl⟩
   simp! only[]
   refine(zjg ok').mono ?_
   rintro _ rfl
   simp! only[]
   exact⟨_,_,rfl⟩
  ·rintro _ ⟨s1,s2,rfl⟩
   simp! only[]
 obtain⟨_,e,rfl⟩:=this
 exact e
end
end Prf
noncomputable def PySem.W.Fast.tw1755032953564763543:Nat:=0
noncomputable def PySem.W.Fast.tw1131032015502463054:Nat:=0
noncomputable def PySem.W.Fast.tw9524190495125582798:Nat:=0
noncomputable def PySem.W.Fast.tw766119888771403063:Nat:=0
noncomputable def PySem.W.Fast.tw4971348398924074956:Nat:=0
noncomputable def PySem.W.Fast.tw9998982939437795599:Nat:=0
noncomputable def PySem.W.Fast.tw7382165977011110534:Nat:=0
noncomputable def PySem.W.Fast.tw5711149536849672360:Nat:=0
noncomputable def PySem.W.Fast.tw15189600484288830686:Nat:=0
noncomputable def PySem.W.Fast.tw8336547004982292000:Nat:=0
noncomputable def PySem.W.Fast.tw3003223307270783328:Nat:=0
noncomputable def PySem.W.Fast.tw6121980645367052335:Nat:=0
noncomputable def PySem.W.Fast.tw15888685411122834121:Nat:=0
noncomputable def PySem.W.Fast.tw18046086916884551222:Nat:=0
noncomputable def PySem.W.Fast.tw13305733542348454517:Nat:=0
noncomputable def PySem.W.Fast.tw9866746200103697657:Nat:=0
noncomputable def PySem.W.Fast.tw9452589770496779892:Nat:=0
noncomputable def PySem.W.Fast.tw540862463093469604:Nat:=0
noncomputable def PySem.W.Fast.tw12880852170934797389:Nat:=0
noncomputable def PySem.W.Fast.tw12267960111918850754:Nat:=0
noncomputable def PySem.W.Fast.tw2433145813212611322:Nat:=0
noncomputable def PySem.W.Fast.tw10474084944184023267:Nat:=0
noncomputable def PySem.W.Fast.tw15710850774890100430:Nat:=0
noncomputable def PySem.W.Fast.tw2444639077194388341:Nat:=0
noncomputable def PySem.W.Fast.tw10170461776073210095:Nat:=0
noncomputable def PySem.W.Fast.tw11978868226835855872:Nat:=0
noncomputable def PySem.W.Fast.tw14234111488738762656:Nat:=0
noncomputable def PySem.W.Fast.tw15319267348040452645:Nat:=0
noncomputable def PySem.W.Fast.tw16199947413353110649:Nat:=0
noncomputable def PySem.W.Fast.tw8927088381067913609:Nat:=0
noncomputable def PySem.W.Fast.tw17380434979095541105:Nat:=0
noncomputable def PySem.W.Fast.tw17690535978565749829:Nat:=0
noncomputable def PySem.W.Fast.tw14526132906578309267:Nat:=0
noncomputable def PySem.W.Fast.tw1977436120576622683:Nat:=0
noncomputable def PySem.W.Fast.tw2727868769842795236:Nat:=0
noncomputable def PySem.W.Fast.tw7110858109143326706:Nat:=0
noncomputable def PySem.W.Fast.tw17184297906367605401:Nat:=0
noncomputable def PySem.W.Fast.tw7532904438085951421:Nat:=0
noncomputable def PySem.W.Fast.tw15406033748626443017:Nat:=0
noncomputable def PySem.W.Fast.tw13667121805699381741:Nat:=0
noncomputable def PySem.W.Fast.tw12755699236756305666:Nat:=0
noncomputable def PySem.W.Fast.tw1072909007975795438:Nat:=0
noncomputable def PySem.W.Fast.tw12656462621606921654:Nat:=0
noncomputable def PySem.W.Fast.tw4059560527511360438:Nat:=0
noncomputable def PySem.W.Fast.tw14914145521915304505:Nat:=0
noncomputable def PySem.W.Fast.tw2432487382955456663:Nat:=0
noncomputable def PySem.W.Fast.tw11504862663403869116:Nat:=0
noncomputable def PySem.W.Fast.tw14430843071074079798:Nat:=0
noncomputable def PySem.W.Fast.tw9985843684649801662:Nat:=0
noncomputable def PySem.W.Fast.tw6598345759223760033:Nat:=0
noncomputable def PySem.W.Fast.tw17867208056665270117:Nat:=0
noncomputable def PySem.W.Fast.tw7481941483630295369:Nat:=0
noncomputable def PySem.W.Fast.tw1311871519730150456:Nat:=0
noncomputable def PySem.W.Fast.tw2642455118436401947:Nat:=0
noncomputable def PySem.W.Fast.tw399266597785547215:Nat:=0
noncomputable def PySem.W.Fast.tw18190698402962500738:Nat:=0
noncomputable def PySem.W.Fast.tw5809179687044025448:Nat:=0
noncomputable def PySem.W.Fast.tw4226357971386815849:Nat:=0
noncomputable def PySem.W.Fast.tw8664753189778747213:Nat:=0
noncomputable def PySem.W.Fast.tw12591467926072517589:Nat:=0
noncomputable def PySem.W.Fast.tw6887675261149777473:Nat:=0
noncomputable def PySem.W.Fast.tw419274497519117935:Nat:=0
noncomputable def PySem.W.Fast.tw1775023170584137881:Nat:=0
noncomputable def PySem.W.Fast.tw14712625438453699422:Nat:=0
noncomputable def PySem.W.Fast.tw826530592773076556:Nat:=0
noncomputable def PySem.W.Fast.tw17225170533802975279:Nat:=0
noncomputable def PySem.W.Fast.tw5893327790115450486:Nat:=0
noncomputable def PySem.W.Fast.tw3782703462098033712:Nat:=0
noncomputable def PySem.W.Fast.tw5363454229838707176:Nat:=0
noncomputable def PySem.W.Fast.tw16028373758023433310:Nat:=0
noncomputable def PySem.W.Fast.tw10280262025892159418:Nat:=0
noncomputable def PySem.W.Fast.tw9643380542410520288:Nat:=0
noncomputable def PySem.W.Fast.tw15068570776263782530:Nat:=0
noncomputable def PySem.W.Fast.tw336375098104690080:Nat:=0
noncomputable def PySem.W.Fast.tw15517002224410534931:Nat:=0
noncomputable def PySem.W.Fast.tw2240011901063960099:Nat:=0
noncomputable def PySem.W.Fast.tw16713309368375846847:Nat:=0
noncomputable def PySem.W.Fast.tw10353051739093288852:Nat:=0
noncomputable def PySem.W.Fast.tw11673426144648855109:Nat:=0
noncomputable def PySem.W.Fast.tw4007679556605994179:Nat:=0
noncomputable def PySem.W.Fast.tw10415572812982914835:Nat:=0
noncomputable def PySem.W.Fast.tw9518306705451823296:Nat:=0
noncomputable def PySem.W.Fast.tw10071465564957245474:Nat:=0
noncomputable def PySem.W.Fast.tw17325885006860766145:Nat:=0
noncomputable def PySem.W.Fast.tw11129660378116535748:Nat:=0
noncomputable def PySem.W.Fast.tw12918371182215064538:Nat:=0
noncomputable def PySem.W.Fast.tw8383456944086984949:Nat:=0
noncomputable def PySem.W.Fast.tw473991141526920488:Nat:=0
noncomputable def PySem.W.Fast.tw10188735776012495332:Nat:=0
noncomputable def PySem.W.Fast.tw8308005025194345023:Nat:=0
noncomputable def PySem.W.Fast.tw8937821568842639885:Nat:=0
noncomputable def PySem.W.Fast.tw17455718840947675609:Nat:=0
noncomputable def PySem.W.Fast.tw13760876097121146849:Nat:=0
noncomputable def PySem.W.Fast.tw8565578395828122244:Nat:=0
noncomputable def PySem.W.Fast.tw16231148260139115978:Nat:=0
noncomputable def PySem.W.Fast.tw14983958546559835621:Nat:=0
noncomputable def PySem.W.Fast.tw2292100363470804211:Nat:=0
noncomputable def PySem.W.Fast.tw14917246770553274193:Nat:=0
noncomputable def PySem.W.Fast.tw13391348969193926546:Nat:=0
noncomputable def PySem.W.Fast.tw14343910062081074064:Nat:=0
noncomputable def PySem.W.Fast.tw6360012562234688555:Nat:=0
noncomputable def PySem.W.Fast.tw6039668061193174114:Nat:=0
noncomputable def PySem.W.Fast.tw10968899530511451145:Nat:=0
noncomputable def PySem.W.Fast.tw7374342788236129155:Nat:=0
noncomputable def PySem.W.Fast.tw13954272073437425218:Nat:=0
noncomputable def PySem.W.Fast.tw578475699286884449:Nat:=0
noncomputable def PySem.W.Fast.tw11193707616668982542:Nat:=0
noncomputable def PySem.W.Fast.tw6981587127850643171:Nat:=0
noncomputable def PySem.W.Fast.tw12314561776045945754:Nat:=0
noncomputable def PySem.W.Fast.tw11410734906126203454:Nat:=0
noncomputable def PySem.W.Fast.tw10502880583925674184:Nat:=0
noncomputable def PySem.W.Fast.tw7480999496369271035:Nat:=0
noncomputable def PySem.W.Fast.tw16329825806288545495:Nat:=0
noncomputable def PySem.W.Fast.tw4821547933709270607:Nat:=0
noncomputable def PySem.W.Fast.tw12078699257195318064:Nat:=0
noncomputable def PySem.W.Fast.tw1217172501648489757:Nat:=0
noncomputable def PySem.W.Fast.tw10262776557111219185:Nat:=0
noncomputable def PySem.W.Fast.tw7822268398753034892:Nat:=0
noncomputable def PySem.W.Fast.tw10540389204818630715:Nat:=0
noncomputable def PySem.W.Fast.tw1124963129240334999:Nat:=0
noncomputable def PySem.W.Fast.tw1754176563598760508:Nat:=0
noncomputable def PySem.W.Fast.tw13989606412112399627:Nat:=0
noncomputable def PySem.W.Fast.tw8173884335206158153:Nat:=0
noncomputable def PySem.W.Fast.tw2277519705112147201:Nat:=0
noncomputable def PySem.W.Fast.tw6976088943024925970:Nat:=0
noncomputable def PySem.W.Fast.tw9545879216953173947:Nat:=0
noncomputable def PySem.W.Fast.tw8000683267657478161:Nat:=0
noncomputable def PySem.W.Fast.tw2619044842134376508:Nat:=0
noncomputable def PySem.W.Fast.tw5185933276056898114:Nat:=0
noncomputable def PySem.W.Fast.tw17128590076717077929:Nat:=0
noncomputable def PySem.W.Fast.tw11239059372374352146:Nat:=0
noncomputable def PySem.W.Fast.tw1199809232891508606:Nat:=0
noncomputable def PySem.W.Fast.tw1033698298312517312:Nat:=0
noncomputable def PySem.W.Fast.tw12122219131779986745:Nat:=0
noncomputable def PySem.W.Fast.tw1974806884763737239:Nat:=0
noncomputable def PySem.W.Fast.tw1373511127780171030:Nat:=0
noncomputable def PySem.W.Fast.tw13283586382566684087:Nat:=0
noncomputable def PySem.W.Fast.tw8605949000268047986:Nat:=0
noncomputable def PySem.W.Fast.tw11881753746371761262:Nat:=0
noncomputable def PySem.W.Fast.tw2165385273408407327:Nat:=0
noncomputable def PySem.W.Fast.tw16129605522890190535:Nat:=0
noncomputable def PySem.W.Fast.tw8521301076170056673:Nat:=0
noncomputable def PySem.W.Fast.tw12559129054806037006:Nat:=0
noncomputable def PySem.W.Fast.tw8929589686625082072:Nat:=0
noncomputable def PySem.W.Fast.tw1834891448165601848:Nat:=0
noncomputable def PySem.W.Fast.tw5532344988671396982:Nat:=0
noncomputable def PySem.W.Fast.tw15222652258834862400:Nat:=0
noncomputable def PySem.W.Fast.tw4369180844137296365:Nat:=0
noncomputable def PySem.W.Fast.tw3000730757448347748:Nat:=0
noncomputable def PySem.W.Fast.tw5146591424348746937:Nat:=0
noncomputable def PySem.W.Fast.tw9688228349876293895:Nat:=0
noncomputable def PySem.W.Fast.tw404543693566050918:Nat:=0
noncomputable def PySem.W.Fast.tw12079221542568439839:Nat:=0
noncomputable def PySem.W.Fast.tw3645945288348067178:Nat:=0
noncomputable def PySem.W.Fast.tw10472779064776561883:Nat:=0
noncomputable def PySem.W.Fast.tw301633711315117120:Nat:=0
noncomputable def PySem.W.Fast.tw8867028682661908096:Nat:=0
noncomputable def PySem.W.Fast.tw5951788461372943941:Nat:=0
noncomputable def PySem.W.Fast.tw7943328675642874305:Nat:=0
noncomputable def PySem.W.Fast.tw517275629893799728:Nat:=0
noncomputable def PySem.W.Fast.tw4761125644912807180:Nat:=0
noncomputable def PySem.W.Fast.tw5312440433974039800:Nat:=0
noncomputable def PySem.W.Fast.tw3809492776402154540:Nat:=0
noncomputable def PySem.W.Fast.tw16144844457163160462:Nat:=0
noncomputable def PySem.W.Fast.tw9691552140060404438:Nat:=0
noncomputable def PySem.W.Fast.tw12383998461309702658:Nat:=0
noncomputable def PySem.W.Fast.tw7837091700475523792:Nat:=0
noncomputable def PySem.W.Fast.tw2046570978642055749:Nat:=0
noncomputable def PySem.W.Fast.tw6177473231760403890:Nat:=0
noncomputable def PySem.W.Fast.tw14266577105345424777:Nat:=0
noncomputable def PySem.W.Fast.tw7388899892977173875:Nat:=0
noncomputable def PySem.W.Fast.tw16708962812630341344:Nat:=0
noncomputable def PySem.W.Fast.tw7348874402568142072:Nat:=0
noncomputable def PySem.W.Fast.tw385282242767735508:Nat:=0
noncomputable def PySem.W.Fast.tw7796952563588458976:Nat:=0
noncomputable def PySem.W.Fast.tw10220640319079086986:Nat:=0
noncomputable def PySem.W.Fast.tw16914036020958539868:Nat:=0
noncomputable def PySem.W.Fast.tw1000551177846849309:Nat:=0
noncomputable def PySem.W.Fast.tw5473479774154748586:Nat:=0
noncomputable def PySem.W.Fast.tw16460886130703831113:Nat:=0
noncomputable def PySem.W.Fast.tw5702469899354122475:Nat:=0
noncomputable def PySem.W.Fast.tw1354954266546999754:Nat:=0
noncomputable def PySem.W.Fast.tw3488865192040960531:Nat:=0
noncomputable def PySem.W.Fast.tw15522213424422030480:Nat:=0
noncomputable def PySem.W.Fast.tw564997876444023547:Nat:=0
noncomputable def PySem.W.Fast.tw642223210678729016:Nat:=0
noncomputable def PySem.W.Fast.tw17443131132939598914:Nat:=0
noncomputable def PySem.W.Fast.tw12853944783360934382:Nat:=0
noncomputable def PySem.W.Fast.tw5449451604152569624:Nat:=0
noncomputable def PySem.W.Fast.tw10834156955310477104:Nat:=0
noncomputable def PySem.W.Fast.tw18057737344381103430:Nat:=0
noncomputable def PySem.W.Fast.tw2609790111906929669:Nat:=0
noncomputable def PySem.W.Fast.tw9211859692645712685:Nat:=0
noncomputable def PySem.W.Fast.tw3830019791582015988:Nat:=0
noncomputable def PySem.W.Fast.tw5023425758716150357:Nat:=0
noncomputable def PySem.W.Fast.tw8487873273623379719:Nat:=0
noncomputable def PySem.W.Fast.tw6738795161507381466:Nat:=0
noncomputable def PySem.W.Fast.tw1643165030851903163:Nat:=0
noncomputable def PySem.W.Fast.tw14699927177057140002:Nat:=0
noncomputable def PySem.W.Fast.tw2383237329241502035:Nat:=0
noncomputable def PySem.W.Fast.tw16941297417944425082:Nat:=0
noncomputable def PySem.W.Fast.tw12426285636863793276:Nat:=0
noncomputable def PySem.W.Fast.tw6972836865209603406:Nat:=0
noncomputable def PySem.W.Fast.tw3115766977412542891:Nat:=0
noncomputable def PySem.W.Fast.tw3281225122089309198:Nat:=0
noncomputable def PySem.W.Fast.tw10517649789488497264:Nat:=0
noncomputable def PySem.W.Fast.tw17948822597929265879:Nat:=0
noncomputable def PySem.W.Fast.tw317470075665905825:Nat:=0
open PyProof.Rows PySem PySem.W
set_option maxRecDepth 100000 in
set_option maxHeartbeats 0 in
theorem PySem.Challenge.cw_tellsum_k76_whole_fitting_changes_and_wr_holds : PySem.Challenge.rw_tellsum_k76_whole_fitting_changes_and_wr.Holds := by
  w_on; o_law; k_head; (case hw => w_witness2)
  k_fill
  refine Prf.walk (l := PySem.Challenge.rw_tellsum_k76_whole_fitting_changes_and_wr) rfl rfl Prf.math (fun w h Y => W.kIn_of Y) ?F
  case F =>
    intro w mg fa h KX G hmg
    refine' Prf.all_mk KX G hmg ?h1 ?h2 ?h3 ?h4 ?h5 ?h6 ?h7 ?h8 ?h9 ?h10 ?h11 ?h12 ?h13 ?h14 ?h15 ?h16 ?h17 ?h18 ?h19 ?h20 ?h21 ?h22 ?h23 ?h24 ?h25 ?h26 ?h27 ?h28 ?h29 ?h30 ?h31 ?h32 ?h33 ?h34 ?h35 ?h36 ?h37 ?h38 ?h39 ?h40 ?h41 ?h42 ?h43 ?h44 ?h45 ?h46 ?h47 ?h48 ?h49 ?h50 ?h51 ?h52 ?h53 ?h54 ?h55 ?z0 ?z1 ?z2 ?z3 ?z4 ?z5 ?z6 ?z7 ?z8 ?z9 ?zlk ?zjR
    (case h1 | h2 | h3 | h4 | h5 | h6 | h7 | h8 | h9 | h10 | h11 | h12 | h13 | h14 | h15 | h16 | h17 | h18 | h19 | h20 | h21 | h22 | h23 | h24 | h25 | h26 | h27 | h28 | h29 | h30 | h31 | h32 | h33 | h34 | h35 | h36 | h37 | h38 | h39 | h40 | h41 | h42 | h43 | h44 | h45 | h46 | h47 | h48 | h49 | h50 | h51 | h52 | h53 | h54 | h55 =>
      refine' M.FnAt.mk ?a ?l ?c ?k
      (case a => k_is)
      (case l => k_is)
      (case c => k_is)
      (case k => k_is))
    (case z0 | z1 | z2 | z3 | z4 | z5 | z6 | z7 | z8 | z9 | zlk | zjR => k_is)
end
