import PyProof.Rows.All
import Wide.All
import OpenK.AllK
import Wide.FinOn
import Lean
import PyProof.EqAt
import PyProof.EqKinds
import PyProof.TupleCall
import PyProof.Rows.Range3
import PyProof.ZipIter
import PyProof.Draws
import PyProof.EnumMake
import PyProof.Rows.FactsTup
import PyProof.LayNew
import PyProof.Rows.SeqMore2
import PyProof.Rows.RuleIs
import KE.KRevIter
import PyProof.P3In
import KE.KSortTup
import PyProof.Rows.SortWalk
import PyProof.Rows.SetFrom
import PySem.Challenge.RW_tellsum_k75_wrong_sums_judged
set_option Elab.async false
set_option linter.all false
set_option bootstrap.genMatcherCode false
set_option compiler.extract_closed false
set_option maxRecDepth 100000
theorem zu0(h:True:=by first|exact .inl rfl|exact .inr rfl|assumption):True:=trivial
theorem zu1(h:True:=by decide):True:=trivial
theorem zu2(h:True:=by rfl):True:=trivial
theorem zu3(h:True:=by intro _;rfl):True:=trivial
theorem zu4(h:True:=by with_unfolding_all rfl):True:=trivial
theorem zu5(h:True:=by first|exact Or.inl rfl|exact Or.inr (Or.inl rfl)|exact Or.inr (Or.inr rfl)):True:=trivial
theorem zu6(h:True:=by exact fun _ _=>rfl):True:=trivial
theorem zu7(h:True:=by decide+kernel):True:=trivial
theorem zu8(h:True:=by exact fun _=>rfl):True:=trivial
theorem zu9(h:True:=by first|exact Or.inl rfl|exact Or.inr rfl):True:=trivial
theorem zu10(h:True:=by kernel_rfl):True:=trivial
noncomputable section
namespace L2
open PyProof.Rows PySem PySem.Spec
variable {xs vs:List V} {us its:List Value} {x qual:Str} {u cd:Value} {H:Hp} {a b it dx:Addr} {o:Obj} {w:World} {h base:Heap} {g':Array GenState} {t' i j k n:Nat} {d':Drawn} {ch fp:List Addr} {e c tg:Expr} {pins' pins pl:List (Addr×Obj)} {N ps:List Str} {A:Around} {E:Value->Shared->Prop} {v:V} {Q:Unit->Shared->Prop} {X:Cx} {t:TSet} {s s':Shared} {pos pos':Pos} {σ:St} {K:W.Frag} {f:Value->Value->Sem Value} {tc:TT} {es:List Expr} {te:TE} {g:Int->Int->Int} {ta:TA} {op op':CmpOp} {body:List Stmt} {tb:TS} {p:Addr×Obj} {r:V->Hp->VK->Prop} {C:Int->Int->Prop} {mA mg:Str->Option Value} {fd:FuncData} {kindOf:Str->Option NameKind} {sc scope:Scope} {CX:CXT} {outer:List Env} {params:Arguments}
noncomputable abbrev Key:=Sum Int Str
noncomputable def keyIs:Key->Value->Bool
 | .inl k,v=>Value.isInt k v
 | .inr x,v=>Value.isStrOf x v
noncomputable def keyH (w:World):Key->Int
 | .inl k=>hashInt k
 | .inr x=>hashStr w x
theorem za2:∀{k:Key} {v:Value},keyIs k v=true->(∃i t,k=Sum.inl i/\v=Value.int i t)\/(∃x t,k=Sum.inr x/\v=Value.str x t)
 | .inl i,v,h=>by
  obtain⟨t,e⟩:=Value.isInt_shape (k:=i) (v:=v) h
  exact .inl ⟨i,t,rfl,e⟩
 | .inr x,v,h=>by
  obtain⟨t,e⟩:=Value.isStrOf_shape (x:=x) (v:=v) h
  exact .inr ⟨x,t,rfl,e⟩
theorem key_ll (a b:Int):decide ((Sum.inl a:Key)=Sum.inl b)=(a==b):=by
 by_cases e:a=b
 ·subst e;simp
 ·have h:¬(Sum.inl a:Key)=Sum.inl b:=fun q=>e (Sum.inl.inj q)
  rw[decide_eq_false h]
  exact(beq_eq_false_iff_ne.mpr e).symm
theorem key_rr (a b:Str):decide ((Sum.inr a:Key)=Sum.inr b)=decide (a=b):=by
 by_cases e:a=b
 ·subst e;simp
 ·have h:¬(Sum.inr a:Key)=Sum.inr b:=fun q=>e (Sum.inr.inj q)
  rw[decide_eq_false h,decide_eq_false e]
theorem key_lr (a:Int)(b:Str):decide ((Sum.inl a:Key)=Sum.inr b)=false:=decide_eq_false (fun q=>nomatch q)
theorem key_rl (a:Str)(b:Int):decide ((Sum.inr a:Key)=Sum.inl b)=false:=decide_eq_false (fun q=>nomatch q)
noncomputable def zk3 (prog:Program)(w:World):PySem.KeyKind prog w Key where
 is:=keyIs
 hash:=keyH w
 inj:=fun v a b ha hb=>by
  rcases za2 ha with⟨i,t,rfl,rfl⟩|⟨x,t,rfl,rfl⟩
  ·rcases za2 hb with⟨j,u,rfl,e⟩|⟨y,u,rfl,e⟩
   ·injection e with e1 _;rw[e1]
   ·exact nomatch e
  ·rcases za2 hb with⟨j,u,rfl,e⟩|⟨y,u,rfl,e⟩
   ·exact nomatch e
   ·injection e with e1 _;rw[e1]
 byValue:=fun k v h=>by
  rcases za2 h with⟨i,t,rfl,rfl⟩|⟨x,t,rfl,rfl⟩<;>rfl
 pyHash:=fun hv h=>by
  rcases za2 hv with⟨i,t,rfl,rfl⟩|⟨x,t,rfl,rfl⟩
  ·exact wpAny_pyHash_int h
  ·exact wpAny_pyHash_str h
 eqBool:=fun hu hv h=>by
  rcases za2 hu with⟨i,t,rfl,rfl⟩|⟨x,t,rfl,rfl⟩
  ·rcases za2 hv with⟨j,u,rfl,rfl⟩|⟨y,u,rfl,rfl⟩
   ·rw[key_ll]at h;exact wpAny_eqBool_int h
   ·rw[key_lr]at h;exact SeqAt.EqAt.int_str i t y u _ _ _ _ h
  ·rcases za2 hv with⟨j,u,rfl,rfl⟩|⟨y,u,rfl,rfl⟩
   ·rw[key_rl]at h;exact SeqAt.EqAt.str_int x t j u _ _ _ _ h
   ·rw[key_rr]at h;exact wpAny_eqBool_str h
 «strs»:=fun k x t v h=>by
  rcases za2 h with⟨i,u,rfl,e⟩|⟨y,u,rfl,e⟩
  ·exact nomatch e
  ·injection e with e1 _
   subst e1
   cases v<;>rfl
inductive V where
 |non|bl (b:Bool)|int (i:Int)|str (x:Str)|byt (b:Array UInt8)|flt (b:UInt64)|ref (a:Addr)|ty (n:String)
 deriving DecidableEq
noncomputable def RelV:V->Value->Prop
 | .non,u=>u=Value.none
 | .bl b,u=>u=Value.bool b
 | .int i,u=>∃t,u=Value.int i t
 | .str x,u=>∃t,u=Value.str x t
 | .byt b,u=>∃t,u=Value.bytes b t
 | .flt b,u=>∃t,u=Value.float b t
 | .ref a,u=>u=Value.ref a
 | .ty n,u=>u=Value.type n
noncomputable abbrev Vals:List V->List Value->Prop:=Paired RelV
theorem Vals.length (r:Vals xs us):xs.length=us.length:=Paired.length r
theorem Vals.get:∀{xs:List V} {us:List Value} {i:Nat} {x:V},Vals xs us->xs[i]? =some x->∃u,us[i]? =some u/\RelV x u
 |_,_,_,_,.nil,e=>by simp at e
 |_,_,0,_,.cons r _,e=>by simp at e;subst e;exact⟨_,rfl,r⟩
 |_,_,i+1,x,.cons _ t,e=>by
  obtain⟨u,h1,h2⟩:=Vals.get (i:=i) (x:=x) t (by simpa using e)
  exact⟨u,by simpa using h1,h2⟩
theorem Vals.set {x:V}(r:RelV x u):∀{xs:List V} {us:List Value} (i:Nat),Vals xs us->Vals (xs.set i x) (us.set i u)
 |_,_,_,.nil=> .nil
 |_,_,0,.cons _ t=> .cons r t
 |_,_,i+1,.cons q t=> .cons q (Vals.set r i t)
theorem Vals.append:∀{xs ys:List V} {us ws:List Value},Vals xs us->Vals ys ws->Vals (xs++ys) (us++ws)
 |_,_,_,_,.nil,s=>s
 |_,_,_,_,.cons r t,s=> .cons r (Vals.append t s)
theorem Vals.take:∀{xs:List V} {us:List Value} (n:Nat),Vals xs us->Vals (xs.take n) (us.take n)
 |_,_,0,_=> .nil
 |_,_,_+1,.nil=> .nil
 |_,_,n+1,.cons r t=> .cons r (Vals.take n t)
theorem Vals.drop:∀{xs:List V} {us:List Value} (n:Nat),Vals xs us->Vals (xs.drop n) (us.drop n)
 |_,_,0,r=>r
 |_,_,_+1,.nil=> .nil
 |_,_,n+1,.cons _ t=>Vals.drop n t
noncomputable def RelO:Option V->Option Value->Prop
 |some v,some u=>RelV v u
 |none,none=>True
 |_,_=>False
noncomputable def KV {κ:Type}:List (κ×V)->List (κ×Value)->Prop:=Paired fun(p:κ×V) (q:κ×Value)=>p.1=q.1/\RelV p.2 q.2
noncomputable def kV:Key->V
 | .inl i=> .int i
 | .inr x=> .str x
inductive HO where
 /-- a list -/
 |lst (xs:List V)
 /-- a tuple (never changes) -/
 |tup (xs:List V)
 /-- a dict whose keys are ints and texts; one whose keys are tuples of ints and texts (the empty one is both) -/
 |dK (kvs:List (Key×V))|dT (kvs:List (List Key×V))
 /-- a set of ints: its members, its size -/
 |set (S:Int->Bool) (n:Nat)
 /-- an instance of the class at C, its dict at dx, its attributes -/
 |ins (C dx:Addr) (fs:List (Str×V))
 /-- the dict of the instance at x -/
 |own (x:Addr)
 /-- the dict of an exception -/
 |xd (fs:List (Str×V))
 /-- a bound method, f of x -/
 |met (f x:Addr)
 /-- a range object lo, lo + 1, .. below hi -/
 |rng (lo hi:Int)
 /-- a thing that is known to the object (the script; a dict while a loop walks it): read, never written while it is so -/
 |frz (o:Obj) (u:HO)
 /-- a code object's table -/
 |tbl (ps:Array Value)
 /-- any other thing, by what is true of its one object (a def of one's own: SetO a S n := HO.ext fun h => ..) -/
 |ext (φ:Heap->Prop)
noncomputable abbrev Hp:=Addr->Option HO
noncomputable def upd (H:Hp)(a:Addr)(o:HO):Hp:=fun b=>if b=a then some o else H b
theorem zaK {o:HO}:upd H a o a=some o:=by unfold upd;rw[if_pos rfl]
theorem zaA {o:HO}(h:b≠a):upd H a o b=H b:=by unfold upd;rw[if_neg h]
theorem zaG {o:HO}(h:H a=some o)(h':H b=none):a≠b:=by
 intro e;subst e;rw[h]at h';cases h'
section
variable (P:Program) (w:World)
noncomputable def ObjOk (H:Hp)(h:Heap)(a:Addr):HO->Prop
 | .lst xs=>xs.length<=sizeLine/\∃(its:List Value) (n:Nat),Vals xs its/\h.get? a=some {cls:= .type "list",data:= .seq its.toArray n}
 | .tup xs=>xs.length<=sizeLine/\∃its:List Value,Vals xs its/\IsTup h a its.toArray
 | .dK kvs=>kvs.length<=sizeLine/\(a==sysModules)=false/\∃vs,KV kvs vs/\h.DictOf (zk3 P w) a vs
 | .dT kvs=>kvs.length<=sizeLine/\(a==sysModules)=false/\∃xs:List (List Key×Addr×Value),
   Paired (fun(p:List Key×V) (q:List Key×Addr×Value)=>p.1=q.1/\H q.2.1=some (.tup (p.1.map kV))/\RelV p.2 q.2.2) kvs xs/\
   ∃o es ep,h.get? a=some o/\o.ExactDict/\o.data= .dict es ep/\es.toList=xs.map (entryOfKey (tupleKind (zk3 P w)))/\(xs.map (·.1)).Nodup
 | .set S n=>h.SetOf (intKind P w) a S n
 | .ins C dx fs=>H dx=some (.own a)/\fs.length<=1000/\dx≠a/\h.get? a=some (W.instObj C dx)/\
   ∃mA,h.Ns1 dx mA/\(∀f,RelO (fs.lookup f) (mA f))/\PySem.Within mA (fs.map (·.1))
 | .own _=>∃o,h.get? a=some o
 | .xd fs=>∃mA,h.Ns1 a mA/\∀f,RelO (fs.lookup f) (mA f)
 | .rng lo hi=>∃t u v,h.get? a=some {cls:= .type "range",data:= .fields #[.int lo t,.int hi u,.int 1 v]}
 | .frz o u=>h.get? a=some o/\ObjOk H h a u
 | .tbl ps=>h.get? a=some {cls:= .none,data:= .fields ps}
 | .met f x=>h.get? a=some (W.methodObj (.ref f) (.ref x))
 | .ext φ=>φ h/\(∃o,h.get? a=some o)/\∀h1 h2:Heap,φ h1->(∀o,h1.get? a=some o->h2.get? a=some o)->φ h2
noncomputable def HOk (H:Hp)(h:Heap):Prop:=∀a o,H a=some o->ObjOk P w H h a o
end
section
variable {P:Program} {w:World} {H H':Hp} {h h':Heap} {a:Addr} {o:HO}
theorem ObjOk.lt (x:ObjOk P w H h a o):a<h.objs.size:=by
 cases o with
 |lst xs=>obtain⟨_,_,_,_,e⟩:=x;exact Heap.lt_size e
 |tup xs=>obtain⟨_,_,_,p⟩:=x;exact p.lt
 |dK kvs=>obtain⟨_,_,_,_,o,_,_,e,_⟩:=x;exact Heap.lt_size e
 |dT kvs=>obtain⟨_,_,_,_,o,_,_,e,_⟩:=x;exact Heap.lt_size e
 |set S n=>obtain⟨o,_,_,_,e,_⟩:=x;exact Heap.lt_size e
 |ins C dx fs=>obtain⟨_,_,_,e,_⟩:=x;exact Heap.lt_size e
 |own y=>obtain⟨_,e⟩:=x;exact Heap.lt_size e
 |xd fs=>obtain⟨_,⟨_,_,_,e,_⟩,_⟩:=x;exact Heap.lt_size e
 |rng lo hi=>obtain⟨_,_,_,e⟩:=x;exact Heap.lt_size e
 |frz ob u=>obtain⟨e,_⟩:=x;exact Heap.lt_size e
 |tbl ps=>exact Heap.lt_size (show h.get? a=some _ from x)
 |met f y=>exact Heap.lt_size (show h.get? a=some _ from x)
 |ext φ=>obtain⟨_,⟨_,e⟩,_⟩:=x;exact Heap.lt_size e
theorem Paired.mapP {α β:Type}{F G:α->β->Prop}:∀{l₁:List α} {l₂:List β},Paired F l₁ l₂->(∀a b,F a b->G a b)->Paired G l₁ l₂
 |_,_,.nil,_=> .nil
 |_,_,.cons r t,f=> .cons (f _ _ r) (Paired.mapP t f)
theorem ObjOk.stay (x:ObjOk P w H h a o)(k:∀b u,(b=a\/H b=some (.own a))->h.get? b=some u->h'.get? b=some u)
  (ho:∀b,H b=some (.own a)->H' b=some (.own a)) (ht:∀b xs,H b=some (.tup xs)->H' b=some (.tup xs)):ObjOk P w H' h' a o:=by
 induction o with
 |lst xs=>obtain⟨z,its,n,r,e⟩:=x;exact⟨z,its,n,r,k _ _ (.inl rfl) e⟩
 |tup xs=>obtain⟨z,its,r,ob,e,c⟩:=x;exact⟨z,its,r,ob,k _ _ (.inl rfl) e,c⟩
 |dK kvs=>obtain⟨z,y,vs,r,ob,es,ep,e,c⟩:=x;exact⟨z,y,vs,r,ob,es,ep,k _ _ (.inl rfl) e,c⟩
 |dT kvs=>
  obtain⟨z,y,xs,r,ob,es,ep,e,c⟩:=x
  exact⟨z,y,xs,Paired.mapP r fun p q z=>⟨z.1,ht _ _ z.2.1,z.2.2⟩,ob,es,ep,k _ _ (.inl rfl) e,c⟩
 |set S n=>obtain⟨ob,es,ep,t,e,c⟩:=x;exact⟨ob,es,ep,t,k _ _ (.inl rfl) e,c⟩
 |ins C dx fs=>
  obtain⟨d,z,ne,e,mA,⟨od,es,ep,e2,c⟩,r⟩:=x
  exact⟨ho _ d,z,ne,k _ _ (.inl rfl) e,mA,⟨od,es,ep,k _ _ (.inr d) e2,c⟩,r⟩
 |own y=>obtain⟨ob,e⟩:=x;exact⟨ob,k _ _ (.inl rfl) e⟩
 |xd fs=>obtain⟨mA,⟨od,es,ep,e,c⟩,r⟩:=x;exact⟨mA,⟨od,es,ep,k _ _ (.inl rfl) e,c⟩,r⟩
 |rng lo hi=>obtain⟨t,u,v,e⟩:=x;exact⟨t,u,v,k _ _ (.inl rfl) e⟩
 |frz ob u ih=>obtain⟨e,q⟩:=x;exact⟨k _ _ (.inl rfl) e,ih q⟩
 |tbl ps=>
  have e:h.get? a=some {cls:= .none,data:= .fields ps}:=x
  show h'.get? a=some {cls:= .none,data:= .fields ps}
  exact k a _ (.inl rfl) e
 |met f y=>
  have e:h.get? a=some (W.methodObj (.ref f) (.ref y)):=x
  show h'.get? a=some (W.methodObj (.ref f) (.ref y))
  exact k a _ (.inl rfl) e
 |ext φ=>obtain⟨p,⟨o,e⟩,st⟩:=x;exact⟨st _ _ p fun o q=>k _ _ (.inl rfl) q,⟨o,k _ _ (.inl rfl) e⟩,st⟩
theorem HOk.lt (x:HOk P w H h)(e:H a=some o):a<h.objs.size:=(x a o e).lt
theorem HOk.fresh (x:HOk P w H h)(e:h.objs.size<=a):H a=none:=by
 cases q:H a with
 |none=>rfl
 |some u=>exact absurd (Nat.lt_of_lt_of_le (x.lt q) e) (Nat.lt_irrefl _)
theorem HOk.kept (x:HOk P w H h)(k:∀b u,h.get? b=some u->h'.get? b=some u):HOk P w H h':=fun a o e=>
 (x a o e).stay (fun b u _ q=>k b u q) (fun _ q=>q) fun _ _ q=>q
theorem HOk.laid (x:HOk P w H h)(k:∀b u,h.get? b=some u->h'.get? b=some u)(hp:h.objs.size<=a)(new:ObjOk P w (upd H a o) h' a o):HOk P w (upd H a o) h':=fun b u e=>by
 have hn:=x.fresh hp
 by_cases hb:b=a
 ·subst hb;rw[zaK]at e;cases e;exact new
 ·rw[zaA hb]at e
  exact(x b u e).stay (fun c v _ q=>k c v q) (fun c q=>by rw[zaA (zaG q hn)];exact q) fun c xs q=>by rw[zaA (zaG q hn)];exact q
end
noncomputable def Rd (H:Hp)(a:Addr)(u:HO):Prop:=H a=some u\/∃o,H a=some (.frz o u)
theorem Rd.ok {P:Program}{u:HO}(r:Rd H a u)(x:HOk P w H h):ObjOk P w H h a u:=by
 rcases r with r|⟨o,r⟩
 ·exact x a u r
 ·obtain⟨_,q⟩:=x a _ r
  exact q
noncomputable def Mut:Option HO->Prop
 |some (.lst _)=>True
 |some (.dK _)=>True
 |some (.dT _)=>True
 |some (.set _ _)=>True
 |some (.ins _ _ _)=>True
 |some (.ext _)=>True
 |_=>False
section
variable {P:Program} {w:World} {H:Hp} {h h':Heap} {x e:Addr} {o':HO}
theorem HOk.write (ok:HOk P w H h)(mu:Mut (H x))(he:e=x\/H e=some (.own x))(k:∀b u,b≠e->h.get? b=some u->h'.get? b=some u)(heo:∃u,h'.get? e=some u)
  (new:ObjOk P w (upd H x o') h' x o'):HOk P w (upd H x o') h':=fun b u q=>by
 have nown:∀c y,H c=some (.own y)->c≠x:=fun c y r z=>by subst z;rw[r]at mu;exact mu
 have ntup:∀c xs,H c=some (.tup xs)->c≠x:=fun c xs r z=>by subst z;rw[r]at mu;exact mu
 by_cases hb:b=x
 ·subst hb;rw[zaK]at q;cases q;exact new
 ·rw[zaA hb]at q
  by_cases hbe:b=e
  ·have q':H b=some (.own x):=by
    rcases he with z|z
    ·exact absurd (hbe.trans z) hb
    ·rw[hbe];exact z
   rw[q]at q';cases q'
   obtain⟨v,hv⟩:=heo
   exact⟨v,by rw[hbe];exact hv⟩
  ·refine(ok b u q).stay (fun c v hc r=>k c v ?_ r) (fun c r=>by rw[zaA (nown c b r)];exact r) fun c xs r=>by rw[zaA (ntup c xs r)];exact r
   rcases hc with rfl|hc
   ·exact hbe
   ·rintro rfl
    rcases he with z|z
    ·exact nown c b hc z
    ·rw[hc]at z;cases z;exact hb rfl
end
structure Un (fs ex:List Addr) (H H':Hp) (h h':Heap):Prop where
 keep:∀b o,h.get? b=some o->H b=none->b∉fs->b∉ex->h'.get? b=some o
 slot:∀b o,h.get? b=some o->H b=none->b∈fs->b∉ex->∃sl,h'.get? b=some {o with slots:=sl}
 free:∀b o,h.get? b=some o->H b=none->b∉ex->H' b=none
 there:∀b o,h.get? b=some o->b∉ex->∃o',h'.get? b=some o'
 tups:∀b xs,H b=some (.tup xs)->H' b=some (.tup xs)
 frzs:∀b o u,H b=some (.frz o u)->H' b=some (.frz o u)
 tbls:∀b ps,H b=some (.tbl ps)->∃more,H' b=some (.tbl (ps++more))
section
variable {fs fs' ex ex':List Addr} {H H1 H2:Hp} {h h1 h2 h':Heap} {a x e:Addr} {o:HO}
theorem Un.any (u:Un fs ex H H1 h h1){ob:Obj}(q:h.get? b=some ob)(n:H b=none)(hx:b∉ex):∃sl,h1.get? b=some {ob with slots:=sl}:=by
 by_cases hb:b∈fs
 ·exact u.slot b ob q n hb hx
 ·exact⟨ob.slots,u.keep b ob q n hb hx⟩
theorem Un.kept (k:∀b u,h.get? b=some u->h'.get? b=some u):Un fs ex H H h h':=
 ⟨fun b ob q _ _ _=>k b ob q,fun b ob q _ _ _=>⟨ob.slots,k b ob q⟩,fun _ _ _ n _=>n,fun b ob q _=>⟨ob,k b ob q⟩,fun _ _ q=>q,fun _ _ _ q=>q,fun _ ps q=>⟨#[],by rw[q];simp⟩⟩
theorem Un.refl:Un fs ex H H h h:=Un.kept fun _ _ q=>q
theorem Un.laid (k:∀b u,h.get? b=some u->h'.get? b=some u)(hp:h.objs.size<=a)(hn:H a=none):Un fs ex H (upd H a o) h h' where
 keep:=fun b u q _ _ _=>k b u q
 slot:=fun b u q _ _ _=>⟨u.slots,k b u q⟩
 free:=fun b u q n _=>by rw[zaA (Nat.ne_of_lt (Nat.lt_of_lt_of_le (Heap.lt_size q) hp))];exact n
 there:=fun b u q _=>⟨u,k b u q⟩
 tups:=fun b xs q=>by rw[zaA (zaG q hn)];exact q
 frzs:=fun b u xs q=>by rw[zaA (zaG q hn)];exact q
 tbls:=fun b ps q=>⟨#[],by rw[zaA (zaG q hn),q];simp⟩
theorem Un.write (mu:Mut (H x))(he:e=x\/H e=some (.own x))(k:∀b u,b≠e->h.get? b=some u->h'.get? b=some u)(heo:∃u,h'.get? e=some u):Un fs ex H (upd H x o) h h':=by
 have hx:∀b,H b=none->b≠x:=fun b n z=>by subst z;rw[n]at mu;exact mu
 have hb:∀b,H b=none->b≠e:=fun b n z=>by
  subst z
  rcases he with r|r
  ·exact hx b n r
  ·rw[n]at r;cases r
 have hm:∀b u,H b=some u->¬Mut (some u)->b≠x:=fun b u q nm z=>by subst z;rw[q]at mu;exact nm mu
 refine⟨fun b u q n _ _=>k b u (hb b n) q,fun b u q n _ _=>⟨u.slots,k b u (hb b n) q⟩,fun b u q n _=>by rw[zaA (hx b n)];exact n,fun b u q _=>?_,
  fun b xs q=>by rw[zaA (hm b _ q fun z=>z)];exact q,fun b u xs q=>by rw[zaA (hm b _ q fun z=>z)];exact q,fun b ps q=>⟨#[],by rw[zaA (hm b _ q fun z=>z),q];simp⟩⟩
 by_cases hbe:b=e
 ·subst hbe;exact heo
 ·exact⟨u,k b u hbe q⟩
end
noncomputable def trk (h:Heap)(H:Hp):List Addr:=(List.range h.objs.size).filter fun a=>(H a).isSome
noncomputable def hidT (h:Heap)(H:Hp):Heap:=W.hideAll h (trk h H)
theorem zmC (h:Heap)(H:Hp):(hidT h H).objs.size=h.objs.size:=W.hideAll_size _ _
theorem hidT_get (e:h.get? b=some o)(n:H b=none):(hidT h H).get? b=some o:=
 W.hideAll_get _ e fun hm=>by
  have q:(H b).isSome=true:=(List.mem_filter.mp hm).2
  rw[n]at q;simp at q
theorem of_hidT (e:(hidT h H).get? b=some o):h.get? b=some o/\H b=none:=by
 have e':h.get? b=some o:=W.of_hideAll (trk h H) e
 refine⟨e',?_⟩
 cases q:H b with
 |none=>rfl
 |some x=>
  have hm:b∈trk h H:=List.mem_filter.mpr ⟨List.mem_range.mpr (Heap.lt_size e'),by simp[q]⟩
  have z:(hidT h H).get? b=none:=W.hideAll_none (trk h H) hm
  rw[z]at e;cases e
noncomputable def allNews (g h:Heap)(L:Addr):List (Addr×Obj):=(List.range h.objs.size).filterMap fun a=>if a=L\/(g.get? a).isSome=true then none else(h.get? a).map fun o=>(a,o)
noncomputable def rest (g h:Heap)(L d:Addr):List (Addr×Obj):=(allNews g h L).filter fun p=>decide (p.1≠d)
structure Mod (K:W.Frag) (mg:Str->Option Value) (base:Heap):Prop where
 kin:K.In base
 glob:base.Ns mainGlobals mg
 blt:∃mb,base.Ns builtinsNs mb/\∀x:Str,x≠"__name__"->mb x=bootBuiltins x
 nolimit:base.NoLimit
structure Cx where
 prog:Program
 w:World
 K:W.Frag
 mg:Str->Option Value
 base:Heap
 A:Around
 N:List Str
 s₀:Shared
 H₀:Hp
 env:Env
 outer:List Env
 stack:List Env
 ex:List Addr
 fn:Str->Bool
 calm:Bool
 pn:List (Addr×Obj)
 xe:Value->Shared->Prop
noncomputable def frs (l:List Env):List Addr:=l.filterMap (·.frame)
noncomputable abbrev Cx.fs (X:Cx):List Addr:=frs X.outer
noncomputable def Vis (sc:Scope)(x:Str):Prop:=sc.names.lookup x=some .local\/sc.names.lookup x=some .cell\/sc.names.lookup x=some .free
noncomputable def Loc (sc:Scope)(x:Str):Prop:=sc.names.lookup x=some .local\/sc.names.lookup x=some .cell
noncomputable def Look (env:Env)(h:Heap)(m:Str->Option Value)(x:Str)(u:Value):Prop:=
 (env.kindOf x=some .local/\m x=some u)\/((env.kindOf x=some .cell\/env.kindOf x=some .free)/\∃c,env.cells.lookup x=some c/\h.IsCell c (some u))
structure Cx.Ok (X:Cx):Prop where
 mod:Mod X.K X.mg X.base
 kind:X.env.scope.kind= .function
 glob:X.env.globals=mainGlobals
 blt:X.env.builtins=builtinsNs
 above:X.s₀.heap.objs.size<=X.env.locals
 inj:∀x y c,X.env.cells.lookup x=some c->X.env.cells.lookup y=some c->x=y
 has:∀x,(X.env.kindOf x=some .cell\/X.env.kindOf x=some .free)->∃c,X.env.cells.lookup x=some c
 cab:∀x c,X.fn x=true->X.env.cells.lookup x=some c->X.s₀.heap.objs.size<=c
 hd:X.calm=true->X.A.handled=none
 frames:X.A.frames=some X.stack
 stk:X.stack=X.outer\/(X.stack=X.env::X.outer/\X.env.frame=some X.env.locals)
 exf:∀b∈X.ex,b≠X.env.locals/\∀x c,X.env.cells.lookup x=some c->c≠b
 bs:∀b o,X.base.get? b=some o->X.s₀.heap.get? b=some o/\X.H₀ b=none
 bsz:X.base.objs.size<=X.s₀.heap.objs.size
 noex:∀b o,X.base.get? b=some o->b∉X.ex
 exfs:∀b∈X.ex,b∉X.fs
 funs:X.s₀.heap.FunFrames X.base X.outer
 frf:∀b∈X.fs,X.H₀ b=none
structure Inv (X:Cx) (pins:List (Addr×Obj)) (σ:List (Option V)) (H:Hp) (s:Shared):Prop where
 ok:X.Ok
 os:s.os=X.s₀.os
 bare:AllBare s.gens
 base:Un X.fs X.ex X.H₀ H X.s₀.heap s.heap
 loc:∃m,s.heap.Ns X.env.locals m/\∀(i:Nat) (x:Str) (v:V),X.N[i]? =some x->σ[i]? =some (some v)->Vis X.env.scope x->∃u,RelV v u/\Look X.env s.heap m x u
 cell:∀x c,X.env.cells.lookup x=some c->∃v,s.heap.IsCell c v
 free:H X.env.locals=none
 freeC:∀x c,X.env.cells.lookup x=some c->H c=none
 pin:∀p∈X.pn++pins,s.heap.get? p.1=some p.2/\H p.1=none/\p.1≠X.env.locals/\p.1∉X.fs/\∀v,p.2.data≠ .cell v
 hok:HOk X.prog X.w H s.heap
 len:σ.length=X.N.length
section
variable {X:Cx} {pins:List (Addr×Obj)} {σ:List (Option V)} {H H':Hp} {s:Shared} {h':Heap}
theorem Cx.Ok.nofr (ok:X.Ok)(e:X.base.get? b=some o):b∉X.fs:=fun hb=>by
 have:=(ok.funs.mem hb).1
 rw[e]at this;cases this
theorem Inv.bs (I:Inv X pins σ H s):∀b o,X.base.get? b=some o->s.heap.get? b=some o/\H b=none:=fun b o e=>
 ⟨I.base.keep b o (I.ok.bs b o e).1 (I.ok.bs b o e).2 (I.ok.nofr e) (I.ok.noex b o e),I.base.free b o (I.ok.bs b o e).1 (I.ok.bs b o e).2 (I.ok.noex b o e)⟩
theorem Inv.bk (I:Inv X pins σ H s):∀b o,X.base.get? b=some o->s.heap.get? b=some o:=fun b o e=>(I.bs b o e).1
theorem Inv.mod (I:Inv X pins σ H s):Mod X.K X.mg X.base:=I.ok.mod
theorem Inv.kIn (I:Inv X pins σ H s):X.K.In s.heap:=I.ok.mod.kin.keeps I.bk
theorem Inv.fr (I:Inv X pins σ H s):∃m,Fr X.base X.env.locals s.heap m:=
 let⟨m,hn,_⟩:=I.loc
 ⟨m,hn,I.bk,Nat.le_trans I.ok.bsz I.ok.above⟩
theorem Inv.lt (I:Inv X pins σ H s):X.env.locals<s.heap.objs.size:=let⟨_,hn,_⟩:=I.loc;hn.lt
theorem Inv.sz (I:Inv X pins σ H s):X.s₀.heap.objs.size<=s.heap.objs.size:=Nat.le_trans I.ok.above (Nat.le_of_lt I.lt)
theorem Inv.nofs (I:Inv X pins σ H s)(h:s.heap.objs.size<=a):a∉X.fs:=fun hb=>by
 obtain⟨_,o,ho,_⟩:=I.ok.funs.mem hb
 exact absurd (Nat.lt_of_lt_of_le (Heap.lt_size ho) (Nat.le_trans I.sz h)) (Nat.lt_irrefl _)
theorem Inv.cne (I:Inv X pins σ H s):∀x c,X.env.cells.lookup x=some c->c≠X.env.locals:=fun x c e z=>by
 obtain⟨v,o,ho,hd⟩:=I.cell x c e
 obtain⟨m,⟨o',es,ep,ho',hd',_⟩,_⟩:=I.loc
 rw[z,ho']at ho;cases ho;rw[hd']at hd;cases hd
theorem Inv.funs (I:Inv X pins σ H s):s.heap.FunFrames X.base X.outer:=by
 have all:∀(l:List Env),(∀b∈frs l,b∈X.fs)->X.s₀.heap.FunFrames X.base l->s.heap.FunFrames X.base l:=by
  intro l
  induction l with
  |nil=>intro _ _;trivial
  |cons env r ih=>
   intro hs hl
   obtain⟨hk,⟨L,o,hf,hn,ho,hd⟩,hr⟩:=hl
   have hL:L∈X.fs:=hs L (by unfold frs;rw[List.filterMap_cons,hf];exact List.mem_cons_self)
   obtain⟨sl,e⟩:=I.base.slot L o ho (I.ok.frf L hL) hL fun z=>I.ok.exfs L z hL
   exact⟨hk,⟨L,_,hf,hn,e,hd⟩,ih (fun b hb=>hs b (by unfold frs;rw[List.filterMap_cons,hf];exact List.mem_cons_of_mem _ hb)) hr⟩
 exact all X.outer (fun _ hb=>hb) I.ok.funs
theorem Inv.stack (I:Inv X pins σ H s):s.heap.FunFrames X.base X.stack:=by
 rcases I.ok.stk with e|⟨e,hf⟩
 ·rw[e];exact I.funs
 ·rw[e]
  obtain⟨m,hn,_⟩:=I.loc
  refine .cons (by rw[I.ok.kind];decide) hf hn ?_ I.funs
  exact Heap.get?_none_of_le (Nat.le_trans I.ok.bsz I.ok.above)
theorem Inv.stkSub (I:Inv X pins σ H s):∀b∈frs X.stack,b∈X.env.locals::X.fs:=fun b hb=>by
 rcases I.ok.stk with e|⟨e,hf⟩
 ·rw[e]at hb;exact List.mem_cons_of_mem _ hb
 ·rw[e]at hb
  unfold frs at hb
  rw[List.filterMap_cons,hf]at hb
  exact hb
theorem Inv.stkFree (I:Inv X pins σ H s):∀b∈frs X.stack,H b=none:=fun b hb=>by
 rcases List.mem_cons.mp (I.stkSub b hb)with e|hb
 ·rw[e];exact I.free
 ·obtain⟨_,o,ho,_⟩:=I.ok.funs.mem hb
  exact I.base.free b o ho (I.ok.frf b hb) fun z=>I.ok.exfs b z hb
theorem Inv.step (I:Inv X pins σ H s)
  (hch:∀b∈ch,(b∈X.ex\/X.s₀.heap.objs.size<=b)/\b≠X.env.locals/\(∀x c,X.env.cells.lookup x=some c->c≠b)/\∀p∈X.pn++pins,p.1≠b)
  (keep:∀b o,b≠X.env.locals->b∉X.fs->b∉ch->s.heap.get? b=some o->H b=none->h'.get? b=some o)
  (slot:∀b o,b≠X.env.locals->b∈X.fs->b∉ch->s.heap.get? b=some o->H b=none->∃sl,h'.get? b=some {o with slots:=sl}) (free:∀b o,b∉ch->s.heap.get? b=some o->H b=none->H' b=none)
  (there:∀b o,b∉ch->s.heap.get? b=some o->∃o',h'.get? b=some o')
  (tups:∀b xs,H b=some (.tup xs)->H' b=some (.tup xs)) (frzs:∀b o u,H b=some (.frz o u)->H' b=some (.frz o u)) (tbls:∀b ps,H b=some (.tbl ps)->∃more,H' b=some (.tbl (ps++more)))
  (ns:∀m,s.heap.Ns X.env.locals m->h'.Ns X.env.locals m) (hok:HOk X.prog X.w H' h') (hg:AllBare g'):
  Inv X pins σ H' {s with heap:=h',gens:=g',drawn:=d',toks:=t'}:=by
 have neL:∀b o,X.s₀.heap.get? b=some o->b≠X.env.locals:=fun b o e=>Nat.ne_of_lt (Nat.lt_of_lt_of_le (Heap.lt_size e) I.ok.above)
 have neC:∀b o,X.s₀.heap.get? b=some o->b∉X.ex->b∉ch:=fun b o e hx hb=>by
  rcases(hch b hb).1 with z|z
  ·exact hx z
  ·exact absurd (Nat.lt_of_lt_of_le (Heap.lt_size e) z) (Nat.lt_irrefl _)
 have cellK:∀x c,X.env.cells.lookup x=some c->∀v,s.heap.IsCell c v->h'.IsCell c v:=fun x c e v ⟨o,ho,hd⟩=>by
  have nch:c∉ch:=fun z=>(hch c z).2.2.1 x c e rfl
  by_cases hc:c∈X.fs
  ·obtain⟨sl,q⟩:=slot c o (I.cne x c e) hc nch ho (I.freeC x c e)
   exact⟨_,q,hd⟩
  ·exact⟨o,keep c o (I.cne x c e) hc nch ho (I.freeC x c e),hd⟩
 refine⟨I.ok,I.os,hg,⟨fun b o e n hb hx=>?_,fun b o e n hb hx=>?_,fun b o e n hx=>?_,fun b o e hx=>?_,fun b xs e=>tups b xs (I.base.tups b xs e),fun b o xs e=>frzs b o xs (I.base.frzs b o xs e),fun b ps e=>?_⟩,?_,fun x c e=>?_,?_,fun x c e=>?_,fun p hp=>?_,hok,I.len⟩
 ·exact keep b o (neL b o e) hb (neC b o e hx) (I.base.keep b o e n hb hx) (I.base.free b o e n hx)
 ·obtain⟨sl,e1⟩:=I.base.slot b o e n hb hx
  obtain⟨sl',e2⟩:=slot b _ (neL b o e) hb (neC b o e hx) e1 (I.base.free b o e n hx)
  exact⟨sl',e2⟩
 ·obtain⟨o',e1⟩:=I.base.there b o e hx
  exact free b o' (neC b o e hx) e1 (I.base.free b o e n hx)
 ·obtain⟨o',e1⟩:=I.base.there b o e hx
  exact there b o' (neC b o e hx) e1
 ·obtain⟨m1,e1⟩:=I.base.tbls b ps e
  obtain⟨m2,e2⟩:=tbls b _ e1
  exact⟨m1++m2,by rw[e2,Array.append_assoc]⟩
 ·obtain⟨m,hn,hl⟩:=I.loc
  refine⟨m,ns m hn,fun i x v e1 e2 e3=>?_⟩
  obtain⟨u,r,l⟩:=hl i x v e1 e2 e3
  refine⟨u,r,?_⟩
  rcases l with l|⟨k,c,e,z⟩
  ·exact .inl l
  ·exact .inr ⟨k,c,e,cellK x c e _ z⟩
 ·obtain⟨v,z⟩:=I.cell x c e
  exact⟨v,cellK x c e v z⟩
 ·obtain⟨m,⟨o,_,_,ho,_⟩,_⟩:=I.loc
  exact free _ o (fun z=>(hch _ z).2.1 rfl) ho I.free
 ·obtain⟨v,o,ho,hd⟩:=I.cell x c e
  exact free c o (fun z=>(hch c z).2.2.1 x c e rfl) ho (I.freeC x c e)
 ·obtain⟨e,n,ne,nf,d⟩:=I.pin p hp
  have nch:p.1∉ch:=fun z=>(hch p.1 z).2.2.2 p hp rfl
  exact⟨keep p.1 p.2 ne nf nch e n,free p.1 p.2 nch e n,ne,nf,d⟩
theorem Inv.un (I:Inv X pins σ H s)(u:Un X.fs [] H H' s.heap h')(hok:HOk X.prog X.w H' h'):Inv X pins σ H' {s with heap:=h',toks:=t'}:=by
  obtain⟨m,⟨o,es,ep,ho,r⟩,_⟩:=id I.loc
  obtain⟨sl,hL⟩:=u.any ho I.free (by simp)
  exact I.step (g':=s.gens) (d':=s.drawn) (ch:=[]) (fun _ z=>nomatch z) (fun b o _ hb _ e n=>u.keep b o e n hb (by simp)) (fun b o _ hb _ e n=>u.slot b o e n hb (by simp)) (fun b o _ e n=>u.free b o e n (by simp)) (fun b o _ e=>u.there b o e (by simp)) u.tups u.frzs u.tbls (fun m' hm=>by
    obtain⟨o',es',ep',ho',r'⟩:=hm
    rw[ho]at ho';cases ho'
    exact⟨_,es',ep',hL,r'⟩) hok I.bare
theorem Inv.call {ch:List Addr}(I:Inv X pins σ H s)(u:Un (frs X.stack) ch H H' s.heap h')(hok:HOk X.prog X.w H' h')(hg:AllBare g')
  (hch:∀b∈ch,(b∈X.ex\/X.s₀.heap.objs.size<=b)/\b≠X.env.locals/\(∀x c,X.env.cells.lookup x=some c->c≠b)/\∀p∈X.pn++pins,p.1≠b):
  Inv X pins σ H' {s with heap:=h',gens:=g',drawn:=d',toks:=t'}:=by
 obtain⟨m,⟨o,es,ep,ho,r⟩,_⟩:=id I.loc
 obtain⟨sl,hL⟩:=u.any ho I.free fun z=>(hch _ z).2.1 rfl
 exact I.step (ch:=ch) hch (fun b o hL hb hc e n=>u.keep b o e n (fun z=>(List.mem_cons.mp (I.stkSub b z)).elim hL hb) hc) (fun b o _ _ hc e n=>u.any e n hc) (fun b o hc e n=>u.free b o e n hc) (fun b o hc e=>u.there b o e hc) u.tups u.frzs u.tbls (fun m' hm=>by
  obtain⟨o',es',ep',ho',r'⟩:=hm
  rw[ho]at ho';cases ho'
  exact⟨_,es',ep',hL,r'⟩) hok hg
theorem Inv.turned (I:Inv X pins σ H s)(k:∀b o,b≠it->s.heap.get? b=some o->h'.get? b=some o)(hn:H it=none)(hL:it≠X.env.locals)
  (h1:it∈X.ex\/X.s₀.heap.objs.size<=it) (h2:∀x c,X.env.cells.lookup x=some c->c≠it) (h3:∀p∈X.pn++pins,p.1≠it):Inv X pins σ H {s with heap:=h',toks:=t'}:=by
 have nit:∀b u,H b=some u->b≠it:=fun b u e z=>by rw[z,hn]at e;cases e
 refine I.step (g':=s.gens) (d':=s.drawn) (ch:=[it]) (fun b hb=>?_) (fun b o _ _ hc e _=>k b o (fun z=>hc (by simp[z])) e) (fun b o _ _ hc e _=>⟨o.slots,k b o (fun z=>hc (by simp[z])) e⟩) (fun _ _ _ _ n=>n)
  (fun b o hc e=>⟨o,k b o (fun z=>hc (by simp[z])) e⟩) (fun _ _ e=>e) (fun _ _ _ e=>e) (fun b ps e=>⟨#[],by rw[e];simp⟩) (fun m hm=>?_) (fun b u e=>?_) I.bare
 ·have e:b=it:=by simpa using hb
  subst e
  exact⟨h1,hL,h2,h3⟩
 ·obtain⟨o,es,ep,ho,r⟩:=hm
  exact⟨o,es,ep,k _ o (Ne.symm hL) ho,r⟩
 ·refine(I.hok b u e).stay (fun c v hc q=>k c v ?_ q) (fun _ q=>q) fun _ _ q=>q
  rcases hc with z|z
  ·rw[z];exact nit b u e
  ·exact nit c _ z
theorem Inv.tok (I:Inv X pins σ H s)(t:Nat):Inv X pins σ H {s with toks:=t}:=I.un (h':=s.heap) (t':=t) Un.refl I.hok
theorem Inv.kept (I:Inv X pins σ H s)(k:∀b u,s.heap.get? b=some u->h'.get? b=some u):Inv X pins σ H {s with heap:=h',toks:=t'}:=I.un (Un.kept k) (I.hok.kept k)
theorem Inv.laid {o:HO}(I:Inv X pins σ H s)(k:∀b u,s.heap.get? b=some u->h'.get? b=some u)(hp:s.heap.objs.size<=a)(new:ObjOk X.prog X.w (upd H a o) h' a o):
  Inv X pins σ (upd H a o) {s with heap:=h',toks:=t'}:=I.un (Un.laid k hp (I.hok.fresh hp)) (I.hok.laid k hp new)
theorem Inv.write {x e:Addr}{o:HO}(I:Inv X pins σ H s)(mu:Mut (H x))(he:e=x\/H e=some (.own x))(k:∀b u,b≠e->s.heap.get? b=some u->h'.get? b=some u)(heo:∃u,h'.get? e=some u)
  (new:ObjOk X.prog X.w (upd H x o) h' x o):Inv X pins σ (upd H x o) {s with heap:=h',toks:=t'}:=I.un (Un.write mu he k heo) (I.hok.write mu he k heo new)
theorem Inv.pins_of (I:Inv X pins σ H s)(h:∀p∈pins',s.heap.get? p.1=some p.2/\H p.1=none/\p.1≠X.env.locals/\p.1∉X.fs/\∀v,p.2.data≠ .cell v):Inv X pins' σ H s:=
 ⟨I.ok,I.os,I.bare,I.base,I.loc,I.cell,I.free,I.freeC,fun p hp=>(List.mem_append.mp hp).elim (fun z=>I.pin p (List.mem_append_left _ z)) (h p),I.hok,I.len⟩
theorem zlU (hN:N.Nodup)(a:N[i]? =some x)(b:N[j]? =some x):i=j:=by
 obtain⟨h1,e1⟩:=List.getElem?_eq_some_iff.mp a
 obtain⟨h2,e2⟩:=List.getElem?_eq_some_iff.mp b
 exact(List.getElem_inj hN).mp (e1.trans e2.symm)
theorem zod {M:Model}(I:Inv X pins σ H s)(hN:X.N.Nodup)(hi:X.N[i]? =some x)(hx:Loc X.env.scope x)(r:RelV v u)
    (h:∀s',Inv X pins (σ.set i (some v)) H s'->(∃a,Heap.SameBut a s.heap s'.heap/\(a=X.env.locals\/X.env.cells.lookup x=some a))->Q () s') (hf:autoParam (X.fn x=true\/X.env.scope.names.lookup x=some .local) zu0._auto_1):wpAny M A (storeName X.env x u) Q E s:=by
  obtain⟨m,hn,hl⟩:=id I.loc
  have hcls:(X.env.scope.kind== .class||(X.env.scope.kind== .module&&X.env.locals !=X.env.globals))=false:=by rw[I.ok.kind];rfl
  have hiσ:i<σ.length:=by rw[I.len];exact(List.getElem?_eq_some_iff.mp hi).1
  have cne:=I.cne
  have tracked:∀{a:Addr} {h':Heap},(∃o,s.heap.get? a=some o/\H a=none)->Heap.SameBut a s.heap h'->HOk X.prog X.w H h':=fun{a h'} ha hs b ob e=>by
    obtain⟨_,_,hfree⟩:=ha
    refine(I.hok b ob e).stay (fun c w' hc q=>(hs.2 c ?_).trans q) (fun _ q=>q) fun _ _ q=>q
    rintro rfl
    rcases hc with rfl|hc
    . rw[hfree]at e;cases e
    . rw[hfree]at hc;cases hc
  rcases hx with hk|hk
  . refine wpAny_storeName_local hk hn (fun h' hn' hs=>?_) hcls
    obtain⟨oL,_,_,hoL,_⟩:=id hn
    refine h _ ⟨I.ok,I.os,I.bare,⟨fun b o e n hb hx=>?_,fun b o e n hb hx=>?_,I.base.free,fun b o e hx=>?_,I.base.tups,I.base.frzs,I.base.tbls⟩,⟨_,hn',fun j y v' e1 e2 e3=>?_⟩,fun y c e=>?_,I.free,I.freeC,fun p hp=>?_,tracked ⟨oL,hoL,I.free⟩ hs,by simpa using I.len⟩ ⟨_,hs,.inl rfl⟩
    . exact(hs.2 b (Nat.ne_of_lt (Nat.lt_of_lt_of_le (Heap.lt_size e) I.ok.above))).trans (I.base.keep b o e n hb hx)
    . obtain⟨sl,e1⟩:=I.base.slot b o e n hb hx
      exact⟨sl,(hs.2 b (Nat.ne_of_lt (Nat.lt_of_lt_of_le (Heap.lt_size e) I.ok.above))).trans e1⟩
    . obtain⟨o',e1⟩:=I.base.there b o e hx
      exact⟨o',(hs.2 b (Nat.ne_of_lt (Nat.lt_of_lt_of_le (Heap.lt_size e) I.ok.above))).trans e1⟩
    . by_cases hj:j=i
      . subst hj
        rw[hi]at e1;cases e1
        rw[List.getElem?_set_self hiσ]at e2
        cases e2
        exact⟨u,r,.inl ⟨hk,by simp⟩⟩
      . rw[List.getElem?_set_ne (Ne.symm hj)]at e2
        obtain⟨u',r',q⟩:=hl j y v' e1 e2 e3
        refine⟨u',r',?_⟩
        rcases q with⟨k,e⟩|⟨k,c,e,z⟩
        . refine .inl ⟨k,?_⟩
          have:y≠x:=fun e=>hj (zlU hN e1 (e ▸ hi))
          simp[this,e]
        . exact .inr ⟨k,c,e,z.sameBut hs (cne y c e)⟩
    . obtain⟨w',z⟩:=I.cell y c e
      exact⟨w',z.sameBut hs (cne y c e)⟩
    . obtain⟨e,n,ne,nf,d⟩:=I.pin p hp
      exact⟨(hs.2 p.1 ne).trans e,n,ne,nf,d⟩
  . have hfn:X.fn x=true:=by
      rcases hf with z|z
      . exact z
      . rw[z]at hk;cases hk
    obtain⟨c,hc⟩:=I.ok.has x (.inl hk)
    obtain⟨w',z⟩:=I.cell x c hc
    refine wpAny_storeName_cell I.ok.kind hk hc z (fun h' hc' hs=>?_)
    obtain⟨oc,hoc,hocd⟩:=id z
    refine h {s with heap:=h'} ⟨I.ok,I.os,I.bare,⟨fun b o e n hb hx=>?_,fun b o e n hb hx=>?_,I.base.free,fun b o e hx=>?_,I.base.tups,I.base.frzs,I.base.tbls⟩,⟨m,hn.sameBut hs (Ne.symm (cne x c hc)),fun j y v' e1 e2 e3=>?_⟩,fun y c' e=>?_,I.free,I.freeC,fun p hp=>?_,tracked ⟨oc,hoc,I.freeC x c hc⟩ hs,by simpa using I.len⟩ ⟨c,hs,.inr hc⟩
    . exact(hs.2 b (Nat.ne_of_lt (Nat.lt_of_lt_of_le (Heap.lt_size e) (I.ok.cab x c hfn hc)))).trans (I.base.keep b o e n hb hx)
    . obtain⟨sl,e1⟩:=I.base.slot b o e n hb hx
      exact⟨sl,(hs.2 b (Nat.ne_of_lt (Nat.lt_of_lt_of_le (Heap.lt_size e) (I.ok.cab x c hfn hc)))).trans e1⟩
    . obtain⟨o',e1⟩:=I.base.there b o e hx
      exact⟨o',(hs.2 b (Nat.ne_of_lt (Nat.lt_of_lt_of_le (Heap.lt_size e) (I.ok.cab x c hfn hc)))).trans e1⟩
    . by_cases hj:j=i
      . subst hj
        rw[hi]at e1;cases e1
        rw[List.getElem?_set_self hiσ]at e2
        cases e2
        exact⟨u,r,.inr ⟨.inl hk,c,hc,hc'⟩⟩
      . rw[List.getElem?_set_ne (Ne.symm hj)]at e2
        obtain⟨u',r',q⟩:=hl j y v' e1 e2 e3
        refine⟨u',r',?_⟩
        rcases q with q|⟨k,c',e,z'⟩
        . exact .inl q
        . refine .inr ⟨k,c',e,z'.sameBut hs ?_⟩
          rintro rfl
          exact hj (zlU hN e1 (I.ok.inj _ _ _ e hc ▸ hi))
    . by_cases hcc:c'=c
      . subst hcc;exact⟨_,hc'⟩
      . obtain⟨w2,z2⟩:=I.cell y c' e
        exact⟨w2,z2.sameBut hs hcc⟩
    . obtain⟨e,n,ne,nf,d⟩:=I.pin p hp
      refine⟨(hs.2 p.1 ?_).trans e,n,ne,nf,d⟩
      intro q
      rw[q,hoc]at e
      have q':oc=p.2:=Option.some.inj e
      exact d w' (by rw[<-q'];exact hocd)
theorem zgn {M:Model}(I:Inv X pins σ H s)(hN:X.N.Nodup)(hi:X.N[i]? =some x)(hx:Loc X.env.scope x)(r:RelV v u)
  (h:∀s',Inv X pins (σ.set i (some v)) H s'->Q () s') (hf:autoParam (X.fn x=true\/X.env.scope.names.lookup x=some .local) zu0._auto_1):wpAny M A (storeName X.env x u) Q E s:=
 zod I hN hi hx r (fun s' I' _=>h s' I') hf
end
noncomputable abbrev XK:=Value->Option Addr->Hp->Prop
noncomputable abbrev St:=List (Option V)
noncomputable abbrev VK:=V->Hp->Prop
noncomputable abbrev TE:=St->Hp->VK->Prop
noncomputable abbrev TT:=St->Hp->(Bool->Hp->Prop)->Prop
noncomputable abbrev TA:=St->Hp->(List V->Hp->Prop)->Prop
structure Ends where
 nx:St->Hp->Prop
 rt:VK
 bk:St->Hp->Prop:=fun _ _=>False
 ct:St->Hp->Prop:=fun _ _=>False
noncomputable abbrev TS:=Ends->St->Hp->Prop
noncomputable def EP (X:Cx)(pins:List (Addr×Obj))(σ:St)(Q:VK)(u:Value)(s':Shared):Prop:=∃v H',Inv X pins σ H' s'/\RelV v u/\Q v H'
noncomputable def TP (X:Cx)(pins:List (Addr×Obj))(σ:St)(Q:Bool->Hp->Prop)(b:Bool)(s':Shared):Prop:=∃H',Inv X pins σ H' s'/\Q b H'
noncomputable def AP (X:Cx)(pins:List (Addr×Obj))(σ:St)(Q:List V->Hp->Prop)(us:List Value)(s':Shared):Prop:=∃vs H',Inv X pins σ H' s'/\Vals vs us/\Q vs H'
noncomputable def SP (X:Cx)(pins:List (Addr×Obj))(D:Ends)(f:Flow)(s':Shared):Prop:=
 match f with
 | .next=>∃σ' H',Inv X pins σ' H' s'/\D.nx σ' H'
 | .brk=>∃σ' H',Inv X pins σ' H' s'/\D.bk σ' H'
 | .cont=>∃σ' H',Inv X pins σ' H' s'/\D.ct σ' H'
 | .ret u=>∃v σ' H',Inv X pins σ' H' s'/\RelV v u/\D.rt v H'
noncomputable def PE (X:Cx)(e:Expr)(t:TE):Prop:=
 ∀(pins:List (Addr×Obj)) (s:Shared) (σ:St) (H:Hp) (Q:VK),Inv X pins σ H s->t σ H Q->wpAny (model X.prog X.w) X.A (eval e X.env) (EP X pins σ Q) X.xe s
noncomputable def PT (X:Cx)(e:Expr)(t:TT):Prop:=
 ∀(pins:List (Addr×Obj)) (s:Shared) (σ:St) (H:Hp) (Q:Bool->Hp->Prop),Inv X pins σ H s->t σ H Q->wpAny (model X.prog X.w) X.A (isTrue e X.env (eval e X.env)) (TP X pins σ Q) X.xe s
noncomputable def PW (X:Cx)(e:Expr)(t:TT):Prop:=
 ∀(whole:Sem Value) (pins:List (Addr×Obj)) (s:Shared) (σ:St) (H:Hp) (Q:Bool->Hp->Prop),Inv X pins σ H s->t σ H Q->wpAny (model X.prog X.w) X.A (isTrue e X.env whole) (TP X pins σ Q) X.xe s
theorem PW.pt {t:TT}(h:PW X e t):PT X e t:=h _
noncomputable def PA (X:Cx)(es:List Expr)(t:TA):Prop:=
 ∀(pos:Pos) (pins:List (Addr×Obj)) (s:Shared) (σ:St) (H:Hp) (Q:List V->Hp->Prop),Inv X pins σ H s->t σ H Q->wpAny (model X.prog X.w) X.A (spliced (backTo pos (starEach es X.env))) (AP X pins σ Q) X.xe s
noncomputable def PS (X:Cx)(st:Stmt)(t:TS):Prop:=
 ∀(pins:List (Addr×Obj)) (s:Shared) (σ:St) (H:Hp) (D:Ends),Inv X pins σ H s->t D σ H->wpAny (model X.prog X.w) X.A (exec st X.env) (SP X pins D) X.xe s
noncomputable def PSs (X:Cx)(st:List Stmt)(t:TS):Prop:=
 ∀(pins:List (Addr×Obj)) (s:Shared) (σ:St) (H:Hp) (D:Ends),Inv X pins σ H s->t D σ H->wpAny (model X.prog X.w) X.A (execs st X.env) (SP X pins D) X.xe s
theorem thn {α:Type}{t:Sem α}{Q Q':α->Shared->Prop}{M:Model}(h:wpAny M A t Q E s)(hQ:∀a s,Q a s->Q' a s):wpAny M A t Q' E s:=wpAny_mono h hQ fun _ _ x=>x
section
variable {X:Cx}
noncomputable def tVar (i:Nat):TE:=fun σ H Q=>∃v,σ[i]? =some (some v)/\Q v H
noncomputable def tC (v:V):TE:=fun _ H Q=>Q v H
theorem zgf (hN:X.N[i]? =some x)(hv:Vis X.env.scope x)(hd:autoParam ((x==("__debug__":Str))=false) zu1._auto_1)(hcd:autoParam ((x==("__classdict__":Str))=false) zu1._auto_1):PE X (.Name x pos) (tVar i):=by
 intro pins s σ H Q I h
 obtain⟨v,e,h⟩:=h
 obtain⟨m,hn,hl⟩:=I.loc
 obtain⟨u,r,l⟩:=hl i x v hN e hv
 have fin:EP X pins σ Q u s:=⟨v,H,I,r,h⟩
 rcases l with⟨hk,hm⟩|⟨hk,c,hc,hcell⟩
 ·exact wpAny_Name (wpAny_loadName_local I.ok.kind hk hn hm fin) hd
 ·rcases hk with hk|hk
  ·exact wpAny_Name (wpAny_loadName_cell I.ok.kind hk hc hcell fin) hd
  ·exact wpAny_Name (wpAny_loadName_free I.ok.kind hk hc hcell fin hcd) hd
theorem pe_int {i j pos}:PE X (.Constant (.int i) j pos) (tC (.int i)):=fun _ _ _ H _ I h=>wpAny_Constant_int ⟨.int i,H,I.tok _,⟨_,rfl⟩,h⟩
theorem pe_bl {b j pos}:PE X (.Constant (.bool b) j pos) (tC (.bl b)):=fun _ _ _ H _ I h=>Constant_bool ⟨.bl b,H,I,rfl,h⟩
theorem pe_non {j pos}:PE X (.Constant .none j pos) (tC .non):=fun _ _ _ H _ I h=>Constant_none ⟨.non,H,I,rfl,h⟩
theorem pe_str {x j pos}:PE X (.Constant (.str x) j pos) (tC (.str x)):=fun _ _ _ H _ I h=>Calls.Constant_str ⟨.str x,H,I.tok _,⟨_,rfl⟩,h⟩
noncomputable def Gl (X:Cx)(x:Str):Prop:=X.env.kindOf x=some .globalImplicit
theorem ld_glob {Q:Value->Shared->Prop}(I:Inv X pins σ H s)(hg:Gl X x)(hm:X.mg x=some u)(h:Q u s)
  (hd:autoParam ((x==("__debug__":Str))=false) zu1._auto_1):wpAny (model X.prog X.w) X.A (eval (.Name x pos) X.env) Q E s:=
 Calls.Name_function_global I.ok.kind hg (Calls.loadGlobal_global (by rw[I.ok.glob];exact I.mod.glob.keeps I.bk) hm h) hd
theorem zgZ {Q:Value->Shared->Prop}(I:Inv X pins σ H s)(hg:Gl X x)(hm:X.mg x=none)(hv:bootBuiltins x=some u)(h:Q u s)
  (hn:autoParam (x≠"__name__") zu1._auto_1) (hd:autoParam ((x==("__debug__":Str))=false) zu1._auto_1):wpAny (model X.prog X.w) X.A (eval (.Name x pos) X.env) Q E s:=by
 obtain⟨mb,h1,h2⟩:=I.mod.blt
 exact Calls.Name_function_global I.ok.kind hg (Calls.loadGlobal_builtin (by rw[I.ok.glob];exact I.mod.glob.keeps I.bk) hm (by rw[I.ok.blt];exact h1.keeps I.bk) ((h2 x hn).trans hv) h) hd
theorem pe_bltn (hg:Gl X x)(hm:X.mg x=none)(hv:bootBuiltins x=some u)(r:RelV v u)(hn:autoParam (x≠"__name__") zu1._auto_1)(hd:autoParam ((x==("__debug__":Str))=false) zu1._auto_1):PE X (.Name x pos) (tC v):=
 fun _ _ _ H _ I h=>zgZ I hg hm hv ⟨v,H,I,r,h⟩ hn hd
variable {a b:Expr} {ta tb:TE} {pos:Pos}
variable {tA tB':TT} {rest:List Expr}
noncomputable def tAnd (t u:TT):TT:=fun σ H Q=>t σ H fun c H1=>if c=true then u σ H1 Q else Q false H1
noncomputable def tOr (t u:TT):TT:=fun σ H Q=>t σ H fun c H1=>if c=true then Q true H1 else u σ H1 Q
noncomputable def tNot (t:TT):TT:=fun σ H Q=>t σ H fun c H1=>Q (!c) H1
theorem pw_and1 (ha:PT X a tA):PW X (.BoolOp .And [a] pos) tA:=by
 intro wh pins s σ H Q I h
 refine isTrue_and (thn (ha pins s σ H Q I h) fun c s1 e=>?_)
 cases c with
 |true=>exact isTrue_and_nil e
 |false=>exact e
theorem pw_or1 (ha:PT X a tA):PW X (.BoolOp .Or [a] pos) tA:=by
 intro wh pins s σ H Q I h
 refine isTrue_or (thn (ha pins s σ H Q I h) fun c s1 e=>?_)
 cases c with
 |false=>exact isTrue_or_nil e
 |true=>exact e
theorem pw_and (ha:PT X a tA)(hb:PW X (.BoolOp .And (b::rest) pos) tB'):PW X (.BoolOp .And (a::b::rest) pos) (tAnd tA tB'):=by
 intro wh pins s σ H Q I h
 refine isTrue_and (thn (ha pins s σ H _ I h) fun c s1 ⟨H1,I1,q1⟩=>?_)
 cases c with
 |true=>exact hb wh pins s1 σ H1 Q I1 q1
 |false=>exact⟨H1,I1,q1⟩
theorem pw_or (ha:PT X a tA)(hb:PW X (.BoolOp .Or (b::rest) pos) tB'):PW X (.BoolOp .Or (a::b::rest) pos) (tOr tA tB'):=by
 intro wh pins s σ H Q I h
 refine isTrue_or (thn (ha pins s σ H _ I h) fun c s1 ⟨H1,I1,q1⟩=>?_)
 cases c with
 |true=>exact⟨H1,I1,q1⟩
 |false=>exact hb wh pins s1 σ H1 Q I1 q1
theorem pt_not (ha:PT X a tA):PT X (.UnaryOp .Not a pos) (tNot tA):=by
 intro pins s σ H Q I h
 exact isTrue_not (ha pins s σ H (fun c H1=>Q (!c) H1) I h)
noncomputable def tAndV (ta tb:TE):TE:=fun σ H Q=>ta σ H fun x H1=>∃c,x= .bl c/\if c=true then tb σ H1 Q else Q (.bl false) H1
noncomputable def tOrV (ta tb:TE):TE:=fun σ H Q=>ta σ H fun x H1=>∃c,x= .bl c/\if c=true then Q (.bl true) H1 else tb σ H1 Q
theorem pe_one {op}{t:TE}(h:PE X a t):PE X (.BoolOp op [a] pos) t:=fun pins s σ H Q I hw=>BoolOp_one (h pins s σ H Q I hw)
theorem pe_and (ha:PE X a ta)(hb:PE X (.BoolOp .And (b::rest) pos) tb):PE X (.BoolOp .And (a::b::rest) pos) (tAndV ta tb):=by
 intro pins s σ H Q I h
 refine BoolOp_and (thn (ha pins s σ H _ I h) fun v s1 ⟨x,H1,I1,r1,q1⟩=>?_)
 obtain⟨c,rfl,q1⟩:=q1
 cases r1
 refine wpAny_truthy_bool ?_
 cases c with
 |true=>exact hb pins s1 σ H1 Q I1 q1
 |false=>exact⟨.bl false,H1,I1,rfl,q1⟩
theorem pe_or (ha:PE X a ta)(hb:PE X (.BoolOp .Or (b::rest) pos) tb):PE X (.BoolOp .Or (a::b::rest) pos) (tOrV ta tb):=by
 intro pins s σ H Q I h
 refine BoolOp_or (thn (ha pins s σ H _ I h) fun v s1 ⟨x,H1,I1,r1,q1⟩=>?_)
 obtain⟨c,rfl,q1⟩:=q1
 cases r1
 refine wpAny_truthy_bool ?_
 cases c with
 |false=>exact hb pins s1 σ H1 Q I1 q1
 |true=>exact⟨.bl true,H1,I1,rfl,q1⟩
end
noncomputable def SqL (K:W.Frag)(H:Hp)(a:Addr)(xs:List V):Prop:=
 Rd H a (.lst xs)\/
  ∃(o:Obj) (its:Array Value) (n:Nat),K.lookup a=some o/\o.cls= .type "list"/\o.dict=none/\o.data= .seq its n/\its.size<=sizeLine/\Vals xs its.toList
noncomputable def SqT (K:W.Frag)(H:Hp)(a:Addr)(xs:List V):Prop:=
 Rd H a (.tup xs)\/
  ∃(o:Obj) (its:Array Value) (n:Nat),K.lookup a=some o/\o.cls= .type "tuple"/\o.data= .seq its n/\its.size<=sizeLine/\Vals xs its.toList
noncomputable def absV:Value->Option V
 | .none=>some .non
 | .bool b=>some (.bl b)
 | .int i _=>some (.int i)
 | .str x _=>some (.str x)
 | .bytes b _=>some (.byt b)
 | .float b _=>some (.flt b)
 | .ref a=>some (.ref a)
 | .type n=>some (.ty n)
 |_=>none
theorem RelV.abs {x:V}(r:RelV x u):absV u=some x:=by
 cases x with
 |non=>cases r;rfl
 |bl _=>cases r;rfl
 |int _=>obtain⟨t,rfl⟩:=r;rfl
 |str _=>obtain⟨t,rfl⟩:=r;rfl
 |byt _=>obtain⟨t,rfl⟩:=r;rfl
 |flt _=>obtain⟨t,rfl⟩:=r;rfl
 |ref _=>cases r;rfl
 |ty _=>cases r;rfl
theorem RelV.inj {x y:V}(r:RelV x u)(q:RelV y u):x=y:=Option.some.inj (r.abs.symm.trans q.abs)
theorem Vals.inj:∀{xs ys:List V} {us:List Value},Vals xs us->Vals ys us->xs=ys
 |_,_,_,.nil,.nil=>rfl
 |_,_,_,.cons r t,.cons r' t'=>by rw[r.inj r',Vals.inj t t']
section
variable {X:Cx} {pins:List (Addr×Obj)} {σ:St} {H:Hp} {s:Shared} {a:Addr} {xs ys:List V}
theorem SqL.of (h:H a=some (.lst xs)):SqL K H a xs:= .inl (.inl h)
theorem SqT.of (h:H a=some (.tup xs)):SqT K H a xs:= .inl (.inl h)
theorem Inv.list (I:Inv X pins σ H s)(h:SqL X.K H a xs):∃its:List Value,Vals xs its/\PlainL s.heap a its.toArray/\xs.length<=sizeLine:=by
 rcases h with h|⟨o,its,n,hk,hc,hd,hs,hz,r⟩
 ·obtain⟨z,its,n,r,e⟩:=h.ok I.hok
  exact⟨its,r,⟨_,n,e,rfl,rfl,rfl⟩,z⟩
 ·refine⟨its.toList,r,⟨o,n,I.kIn a o hk,hc,hd,by simpa using hs⟩,?_⟩
  have e:=r.length
  simp only[Array.length_toList]at e
  lia
theorem Inv.tuple (I:Inv X pins σ H s)(h:SqT X.K H a xs):∃its:List Value,Vals xs its/\IsTup s.heap a its.toArray/\xs.length<=sizeLine:=by
 rcases h with h|⟨o,its,n,hk,hc,hs,hz,r⟩
 ·obtain⟨z,its,r,p⟩:=h.ok I.hok
  exact⟨its,r,p,z⟩
 ·refine⟨its.toList,r,⟨o,I.kIn a o hk,hc,n,by simpa using hs⟩,?_⟩
  have e:=r.length
  simp only[Array.length_toList]at e
  lia
theorem Inv.list_inj (I:Inv X pins σ H s)(h:SqL X.K H a xs)(h':SqL X.K H a ys):xs=ys:=by
 obtain⟨its,r,⟨o,n,e,_,_,d⟩,_⟩:=I.list h
 obtain⟨its',r',⟨o',n',e',_,_,d'⟩,_⟩:=I.list h'
 rw[e]at e';cases e'
 rw[d]at d'
 injection d' with d1 _
 have:its=its':=by simpa using congrArg Array.toList d1
 subst this
 exact r.inj r'
theorem Inv.tuple_inj (I:Inv X pins σ H s)(h:SqT X.K H a xs)(h':SqT X.K H a ys):xs=ys:=by
 obtain⟨its,r,⟨o,e,_,n,d⟩,_⟩:=I.tuple h
 obtain⟨its',r',⟨o',e',_,n',d'⟩,_⟩:=I.tuple h'
 rw[e]at e';cases e'
 rw[d]at d'
 injection d' with d1 _
 have:its=its':=by simpa using congrArg Array.toList d1
 subst this
 exact r.inj r'
end
noncomputable abbrev Cx.wish (X:Cx)(E:Value->Shared->Prop):Cx:={X with xe:=E}
noncomputable abbrev Cx.nox (X:Cx):Cx:=X.wish fun _ _=>False
theorem Cx.Ok.wish (ok:X.Ok)(E:Value->Shared->Prop):(X.wish E).Ok:=
 ⟨ok.mod,ok.kind,ok.glob,ok.blt,ok.above,ok.inj,ok.has,ok.cab,ok.hd,ok.frames,ok.stk,ok.exf,ok.bs,ok.bsz,ok.noex,ok.exfs,ok.funs,ok.frf⟩
theorem Cx.Ok.unwish (ok:(X.wish E).Ok):X.Ok:=
 ⟨ok.mod,ok.kind,ok.glob,ok.blt,ok.above,ok.inj,ok.has,ok.cab,ok.hd,ok.frames,ok.stk,ok.exf,ok.bs,ok.bsz,ok.noex,ok.exfs,ok.funs,ok.frf⟩
section
variable {X:Cx} {pins:List (Addr×Obj)} {σ:St} {H:Hp} {s:Shared} {E:Value->Shared->Prop}
theorem Inv.wish (I:Inv X pins σ H s)(E:Value->Shared->Prop):Inv (X.wish E) pins σ H s:=⟨I.ok.wish E,I.os,I.bare,I.base,I.loc,I.cell,I.free,I.freeC,I.pin,I.hok,I.len⟩
theorem Inv.unwish (I:Inv (X.wish E) pins σ H s):Inv X pins σ H s:=⟨I.ok.unwish,I.os,I.bare,I.base,I.loc,I.cell,I.free,I.freeC,I.pin,I.hok,I.len⟩
theorem SP.unwish {D:Ends}{f:Flow}(h:SP (X.wish E) pins D f s'):SP X pins D f s':=by
 cases f with
 |next=>obtain⟨σ',H',I,q⟩:=h;exact⟨σ',H',I.unwish,q⟩
 |brk=>obtain⟨σ',H',I,q⟩:=h;exact⟨σ',H',I.unwish,q⟩
 |cont=>obtain⟨σ',H',I,q⟩:=h;exact⟨σ',H',I.unwish,q⟩
 |ret u=>obtain⟨v,σ',H',I,r,q⟩:=h;exact⟨v,σ',H',I.unwish,r,q⟩
theorem PSs.nox {st:List Stmt}{t:TS}(h:PSs X.nox st t):PSs X st t:=fun pins s σ H D I hw=>
 wpAny_mono (h pins s σ H D (I.wish _) hw) (fun _ _ q=>q.unwish) fun _ _ z=>False.elim z
end
section
variable {X:Cx} {st:Stmt} {rest:List Stmt} {t u:TS} {e:Expr} {te:TE} {pos:Pos}
noncomputable def tNext:TS:=fun D σ H=>D.nx σ H
noncomputable def tSeq (t u:TS):TS:=fun D σ H=>t {D with nx:=u D} σ H
theorem pss_nil:PSs X [] tNext:=fun _ _ σ H _ I h=>wpAny_execs_nil ⟨σ,H,I,h⟩
theorem zlz (h1:PS X st t)(h2:PSs X rest u):PSs X (st::rest) (tSeq t u):=by
 intro pins s σ H D I h
 refine wpAny_execs_cons (thn (h1 pins s σ H {D with nx:=u D} I h) fun f s1 q=>?_)
 cases f with
 |next=>
  obtain⟨σ',H',I',q⟩:=q
  exact h2 pins s1 σ' H' D I' q
 |ret v=>exact q
 |brk=>exact q
 |cont=>exact q
theorem pss_one (h1:PS X st t):PSs X [st] t:=by
 intro pins s σ H D I h
 refine wpAny_execs_cons (thn (h1 pins s σ H D I h) fun f s1 q=>?_)
 cases f with
 |next=>exact wpAny_execs_nil q
 |ret v=>exact q
 |brk=>exact q
 |cont=>exact q
theorem Inv.quiet (I:Inv X pins σ H s):interactive X.env=false:=by simp[interactive,I.ok.kind]
noncomputable def tDrop (te:TE):TS:=fun D σ H=>te σ H fun _ H1=>D.nx σ H1
theorem ps_expr (he:PE X e te)(hs:autoParam (swapsWith e none pos.line X.env=pure false) zu2._auto_1):PS X (.Expr e pos) (tDrop te):=by
 intro pins s σ H D I h
 exact wpAny_Expr_any (thn (he pins s σ H _ I h) fun v s1 ⟨x,H1,I1,r1,q1⟩=>⟨σ,H1,I1,q1⟩) I.quiet hs
noncomputable def tRet (te:TE):TS:=fun D σ H=>te σ H D.rt
theorem zon (he:PE X e te):PS X (.Return (some e) pos) (tRet te):=by
 intro pins s σ H D I h
 exact wpAny_Return_some (thn (he pins s σ H _ I h) fun v s1 ⟨x,H1,I1,r1,q1⟩=>⟨x,σ,H1,I1,r1,q1⟩)
noncomputable def tIfS (c:TT)(t u:TS):TS:=fun D σ H=>c σ H fun b H1=>if b=true then t D σ H1 else u D σ H1
theorem ps_if {a b:List Stmt}(hc:PT X c tc)(ha:PSs X a t)(hb:PSs X b u):PS X (.If c a b pos) (tIfS tc t u):=by
 intro pins s σ H D I h
 refine wpAny_If (thn (hc pins s σ H _ I h) fun d s1 ⟨H1,I1,q1⟩=>?_)
 cases d with
 |true=>exact ha pins s1 σ H1 D I1 q1
 |false=>exact hb pins s1 σ H1 D I1 q1
noncomputable def tNever:TS:=fun _ _ _=>False
theorem ps_never:PS X st tNever:=fun _ _ _ _ _ _ h=>h.elim
end
noncomputable abbrev TG:=V->St->Hp->(St->Hp->Prop)->Prop
noncomputable abbrev TGs:=List V->St->Hp->(St->Hp->Prop)->Prop
noncomputable def PG (X:Cx)(target:Expr)(t:TG):Prop:=
 ∀(pins:List (Addr×Obj)) (s:Shared) (σ:St) (H:Hp) (v:V) (u:Value) (Q:St->Hp->Prop),Inv X pins σ H s->RelV v u->t v σ H Q->
  wpAny (model X.prog X.w) X.A (assign target X.env u) (fun _ s'=>∃σ' H',Inv X pins σ' H' s'/\Q σ' H') X.xe s
noncomputable def PGs (X:Cx)(ts:List Expr)(t:TGs):Prop:=
 ∀(pins:List (Addr×Obj)) (s:Shared) (σ:St) (H:Hp) (vs:List V) (us:List Value) (Q:St->Hp->Prop),Inv X pins σ H s->Vals vs us->t vs σ H Q->
  wpAny (model X.prog X.w) X.A (assignInOrder ((assignEach ts X.env).map (·.2)) us) (fun _ s'=>∃σ' H',Inv X pins σ' H' s'/\Q σ' H') X.xe s
noncomputable abbrev TSet:=V->V->V->Hp->(Hp->Prop)->Prop
noncomputable def PSet (X:Cx)(t:TSet):Prop:=
 ∀(pins:List (Addr×Obj)) (s:Shared) (σ:St) (H:Hp) (o i v:V) (ov iv u:Value) (Q:Hp->Prop),Inv X pins σ H s->RelV o ov->RelV i iv->RelV v u->t o i v H Q->
  wpAny (model X.prog X.w) X.A (setItem ov iv u) (fun _ s'=>∃H',Inv X pins σ H' s'/\Q H') X.xe s
noncomputable abbrev TIp:=V->V->Hp->VK->Prop
noncomputable def PIp (X:Cx)(op:Operator)(t:TIp):Prop:=
 ∀(pins:List (Addr×Obj)) (s:Shared) (σ:St) (H:Hp) (x y:V) (v u:Value) (Q:VK),Inv X pins σ H s->RelV x v->RelV y u->t x y H Q->
  wpAny (model X.prog X.w) X.A (inplaceOp op v u) (EP X pins σ Q) X.xe s
section
variable {X:Cx} {pos:Pos}
noncomputable def gName (i:Nat):TG:=fun v σ H Q=>Q (σ.set i (some v)) H
theorem zmO (hN:X.N.Nodup)(hi:X.N[i]? =some x)(hx:Loc X.env.scope x)(hf:autoParam (X.fn x=true\/X.env.scope.names.lookup x=some .local) zu0._auto_1):PG X (.Name x pos) (gName i):=by
  intro pins s σ H v u Q I r h
  exact wpAny_assign_Name (zgn I hN hi hx r (fun s' I'=>⟨_,H,I',h⟩) hf)
noncomputable def gNil:TGs:=fun vs σ H Q=>vs=[]/\Q σ H
noncomputable def gCons (t:TG)(u:TGs):TGs:=fun vs σ H Q=>∃v r,vs=v::r/\t v σ H fun σ' H'=>u r σ' H' Q
theorem pgs_nil:PGs X [] gNil:=by
 intro pins s σ H vs us Q I r h
 obtain⟨e,h⟩:=h
 subst e
 cases r
 exact assignInOrder_nil ⟨σ,H,I,h⟩
theorem pgs_cons {t:TG}{u:TGs}(h1:PG X e t)(h2:PGs X es u)
  (hs:autoParam ((assignEach (e::es) X.env).map (·.2)=assign e X.env::(assignEach es X.env).map (·.2)) zu2._auto_1):PGs X (e::es) (gCons t u):=by
 intro pins s σ H vs us Q I r h
 obtain⟨v,vr,e1,h⟩:=h
 subst e1
 cases r with
 |cons r rr=>
  rw[hs]
  refine assignInOrder_cons (thn (h1 pins s σ H _ _ _ I r h) fun _ s1 ⟨σ1,H1,I1,q1⟩=>?_)
  exact h2 pins s1 σ1 H1 _ _ Q I1 rr q1
noncomputable def gTup (K:W.Frag)(n:Nat)(t:TGs):TG:=fun v σ H Q=>∃a xs,v= .ref a/\SqT K H a xs/\xs.length=n/\t xs σ H Q
theorem pg_tup {t:TGs}(hc:X.calm=true)(h:PGs X es t)
  (hn:autoParam ((assignEach es X.env).length=n) zu2._auto_1) (hst:autoParam ((assignEach es X.env).findIdx? (·.1)=none) zu2._auto_1):PG X (.Tuple es k pos) (gTup X.K n t):=by
 intro pins s σ H v u Q I r hw
 obtain⟨a,xs,e1,hq,hl,hw⟩:=hw
 subst e1
 cases r
 obtain⟨its,rv,ht,hz⟩:=I.tuple hq
 refine assign_Tuple_tuple (I.ok.hd hc) ht (by simp[hn,<-hl,rv.length]) hst fun h' hx=>?_
 have I1:Inv X pins σ H {s with heap:=h'}:=I.kept (t':=s.toks) fun b o e=>hx b o (Nat.ne_of_lt (Heap.lt_size e)) e
 exact h pins _ σ H xs _ Q I1 (by simpa using rv) hw
noncomputable def gSub (to ti:TE)(t:TSet):TG:=fun v σ H Q=>to σ H fun o H1=>ti σ H1 fun i H2=>t o i v H2 fun H3=>Q σ H3
theorem pg_sub {o i:Expr}{to ti:TE}(ho:PE X o to)(hi:PE X i ti)(hs:PSet X t)
    (ha :autoParam (∀ v, assign (.Subscript o i pos) X.env v = (do
      let ov<-holding [v] (eval o X.env)
      let iv<-holding [v,ov] (eval i X.env)
      standAt pos
      holding [v,ov,iv] (setItem ov iv v)
      release [v,ov,iv] [])) zu3._auto_1):PG X (.Subscript o i pos) (gSub to ti t):=by
  intro pins s σ H v u Q I r h
  rw[ha]
  refine wpAny_bind (wpAny_holding (thn (ho pins s σ H _ I h) fun ov s1 ⟨x,H1,I1,r1,q1⟩=>?_))
  refine wpAny_bind (wpAny_holding (thn (hi pins s1 σ H1 _ I1 q1) fun iv s2 ⟨y,H2,I2,r2,q2⟩=>?_))
  refine wpAny_bind (wpAny_standAt (wpAny_bind (wpAny_holding (thn (hs pins s2 σ H2 x y v ov iv u _ I2 r1 r2 r q2) fun _ s3 ⟨H3,I3,q3⟩=>?_))))
  exact wpAny_release ⟨σ,H3,I3,q3⟩
noncomputable def tAsg (te:TE)(g:TG):TS:=fun D σ H=>te σ H fun x H1=>g x σ H1 D.nx
theorem ps_asg {g:TG}(he:PE X e te)(hg:PG X tg g)(hs:autoParam (swapsWithSole [tg] e pos.line X.env=pure false) zu2._auto_1)(hw:autoParam (swappedStores [tg] e X.env=pure none) zu2._auto_1)
  (h1:autoParam ((assignEach [tg] X.env).map (·.2)=[assign tg X.env]) zu2._auto_1):PS X (.Assign [tg] e pos) (tAsg te g):=by
 intro pins s σ H D I h
 refine wpAny_Assign_stores (thn (he pins s σ H _ I h) fun v s1 ⟨x,H1,I1,r1,q1⟩=>?_) hs hw
 rw[h1]
 exact thn (hg pins s1 σ H1 x v _ I1 r1 q1) fun _ s2 q=>q
theorem ps_set (hN:X.N.Nodup)(hi:X.N[i]? =some x)(hx:Loc X.env.scope x)(he:PE X e te)(hs:autoParam (swapsWith e (some (.Name x pos')) pos.line X.env=pure false) zu2._auto_1)(hf:autoParam (X.fn x=true\/X.env.scope.names.lookup x=some .local) zu0._auto_1):
  PS X (.Assign [.Name x pos'] e pos) (tAsg te (gName i)):=by
 intro pins s σ H D I h
 refine wpAny_Assign_Name (thn (he pins s σ H _ I h) fun v s1 ⟨y,H1,I1,r1,q1⟩=>?_) hs
 exact zgn I1 hN hi hx r1 (fun s2 I2=>⟨_,H1,I2,q1⟩) hf
noncomputable def tPar (i j:Nat)(ta:TA):TS:=fun D σ H=>ta σ H fun vs H1=>∃v w,vs=[v,w]/\D.nx ((σ.set i (some v)).set j (some w)) H1
theorem ps_par {x y:Str}{a b:Expr}{px py pt:Pos}{kt k2 pt2}(hc:X.calm=true)(hN:X.N.Nodup)(hi:X.N[i]? =some x)(hj:X.N[j]? =some y)(hij:i≠j)
  (hx:X.env.scope.names.lookup x=some .local) (hy:X.env.scope.names.lookup y=some .local) (ha:PA X [a,b] ta)
  (hw:swappedStores [.Tuple [.Name x px,.Name y py] kt pt] (.Tuple [a,b] k2 pt2) X.env=pure (some [x,y]))
  (hs:autoParam (swapsWithSole [.Tuple [.Name x px,.Name y py] kt pt] (.Tuple [a,b] k2 pt2) pos.line X.env=pure false) zu2._auto_1):
  PS X (.Assign [.Tuple [.Name x px,.Name y py] kt pt] (.Tuple [a,b] k2 pt2) pos) (tPar i j ta):=by
 intro pins s σ H D I h
 rw[exec_Assign_arm]
 refine wpAny_bind (wpAny_standAt ?_)
 rw[hs]
 refine wpAny_bind (wpAny_pure ?_)
 rw[if_neg (by decide)]
 refine wpAny_bind (Tuple_ (thn (ha _ pins s σ H _ I h) fun us s1 ⟨vs,H1,I1,r1,q1⟩=>?_))
 obtain⟨v,w,e1,q1⟩:=q1
 subst e1
 obtain⟨u1,u2,rfl,rv,rw'⟩:∃u1 u2,us=[u1,u2]/\RelV v u1/\RelV w u2:=by
  cases r1 with
  |cons p q=>
   cases q with
   |cons p' q'=>
    cases q'
    exact⟨_,_,rfl,p,p'⟩
 refine wpAny_newObj_type ?_ (by show 2<=sizeLine;decide)
 have I2:Inv X pins σ H1 {s1 with heap:=s1.heap.push {cls:= .type "tuple",data:= .seq [u1,u2].toArray}}:=I1.kept (t':=s1.toks) fun b o e=>Heap.get?_push_of_some _ e
 rw[hw]
 refine wpAny_bind (wpAny_pure ?_)
 show wpAny (model X.prog X.w) X.A (do rule "assign.swapped-stores";let items<-unpackItems (.ref s1.heap.objs.size) 2 none;assignInOrder [fun v=>bindName X.env y v,fun v=>bindName X.env x v] items.reverse;pure Flow.next) _ _ _
 refine wpAny_bind (wpAny_rule (wpAny_bind (unpackItems_tuple (items:= #[u1,u2]) (I.ok.hd hc) (IsTup.new s1.heap _) fun h' hx'=>?_)))
 have I3:=I2.kept (h':=h') (t':=s1.toks) fun b o e=>hx' b o (Nat.ne_of_lt (Heap.lt_size e)) e
 show wpAny _ _ (assignInOrder [fun v=>bindName X.env y v,fun v=>bindName X.env x v] [u2,u1]>>=fun _=>pure Flow.next) _ _ _
 refine wpAny_bind (assignInOrder_cons (wpAny_bindName (zgn I3 hN hj (.inl hy) rw' (fun s2 I4=>?_) (.inr hy))))
 refine assignInOrder_cons (wpAny_bindName (zgn I4 hN hi (.inl hx) rv (fun s3 I5=>assignInOrder_nil (wpAny_pure ?_)) (.inr hx)))
 rw[List.set_comm _ _ (Ne.symm hij)]at I5
 exact⟨_,H1,I5,q1⟩
noncomputable def tAug (i:Nat)(te:TE)(ti:TIp):TS:=fun D σ H=>∃x,σ[i]? =some (some x)/\te σ H fun y H1=>ti x y H1 fun z H2=>D.nx (σ.set i (some z)) H2
theorem ps_aug {op:Operator}{ti:TIp}(hN:X.N.Nodup)(hi:X.N[i]? =some x)(hx:Loc X.env.scope x)(he:PE X e te)(ho:PIp X op ti)(hf:autoParam (X.fn x=true\/X.env.scope.names.lookup x=some .local) zu0._auto_1):
  PS X (.AugAssign (.Name x pos') op e pos) (tAug i te ti):=by
 intro pins s σ H D I h
 obtain⟨v,e1,h⟩:=h
 obtain⟨m,hn,hl⟩:=I.loc
 have vis:Vis X.env.scope x:=by rcases hx with k|k;exact .inl k;exact .inr (.inl k)
 obtain⟨u,r,l⟩:=hl i x v hi e1 vis
 refine wpAny_AugAssign_Name ?_
 have go:wpAny (model X.prog X.w) X.A (eval e X.env) (fun w s₂=>wpAny (model X.prog X.w) X.A (inplaceOp op u w) (fun r s₃=>wpAny (model X.prog X.w) X.A (storeName X.env x r) (fun _=>SP X pins D .next) X.xe s₃) X.xe s₂) X.xe s:=by
  refine thn (he pins s σ H _ I h) fun w s1 ⟨y,H1,I1,r1,q1⟩=>?_
  refine thn (ho pins s1 σ H1 v y u w _ I1 r r1 q1) fun z s2 ⟨zv,H2,I2,r2,q2⟩=>?_
  exact zgn I2 hN hi hx r2 (fun s3 I3=>⟨_,H2,I3,q2⟩) hf
 rcases l with⟨hk,hm⟩|⟨hk,c,hc,hcell⟩
 ·exact wpAny_loadName_local I.ok.kind hk hn hm go
 ·rcases hk with hk|hk
  ·exact wpAny_loadName_cell I.ok.kind hk hc hcell go
  ·rcases hx with k|k
   ·have:X.env.scope.names.lookup x=some .free:=hk
    rw[k]at this;cases this
   ·have:X.env.scope.names.lookup x=some .free:=hk
    rw[k]at this;cases this
noncomputable def ipI (f:Int->Int->Int):TIp:=fun x y H Q=>∃i j,x= .int i/\y= .int j/\Q (.int (f i j)) H
theorem ip_sub:PIp X .Sub (ipI fun i j=>i-j):=by
 intro pins s σ H x y v u Q I r1 r2 h
 obtain⟨i,j,e1,e2,q⟩:=h
 subst e1;subst e2
 obtain⟨t,rfl⟩:=r1
 obtain⟨t',rfl⟩:=r2
 exact isub_int ⟨.int _,H,I.tok _,⟨_,rfl⟩,q⟩
end
section
variable {X:Cx} {pos:Pos}
noncomputable def tWhile (c:TT)(tb:TS):TS:=fun D σ H=>∃W:Nat->St->Hp->Prop,(∃m,W m σ H)/\∀m σ H,W m σ H->
 c σ H fun b H1=>if b=true then ∃N:St->Hp->Prop,(∀σ' H',N σ' H'->∃m',m'<m/\W m' σ' H')/\tb {D with nx:=N,ct:=N,bk:=D.nx} σ H1 else D.nx σ H1
theorem ps_while (hp:PassesOwn (model X.prog X.w) X.A X.env X.xe)(hc:PT X c tc)(hb:PSs X body tb):PS X (.While c body [] pos) (tWhile tc tb):=by
 intro pins s σ H D I h
 obtain⟨W,⟨m0,w0⟩,turn⟩:=h
 refine wpAny_While (codeAny_whileLoop (fun n s'=>∃σ' H',Inv X pins σ' H' s'/\W n σ' H') ?_ m0 ⟨σ,H,I,w0⟩)
 rintro n s1 ⟨σ1,H1,I1,w1⟩
 refine wpAny_passesOwn hp (thn (hc pins s1 σ1 H1 _ I1 (turn n σ1 H1 w1)) fun b s2 ⟨H2,I2,q2⟩=>?_)
 cases b with
 |true=>
  obtain⟨N,hN,q2⟩:=q2
  rw[if_pos rfl]
  refine wpAny_passesOwn hp (thn (hb pins s2 σ1 H2 _ I2 q2) fun f s3 q3=>?_)
  cases f with
  |next=>
   obtain⟨σ3,H3,I3,n3⟩:=q3
   obtain⟨m',hm,w3⟩:=hN σ3 H3 n3
   exact⟨m',hm,σ3,H3,I3,w3⟩
  |cont=>
   obtain⟨σ3,H3,I3,n3⟩:=q3
   obtain⟨m',hm,w3⟩:=hN σ3 H3 n3
   exact⟨m',hm,σ3,H3,I3,w3⟩
  |brk=>exact q3
  |ret v=>exact q3
 |false=>
  rw[if_neg Bool.false_ne_true]
  exact wpAny_execs_nil ⟨σ1,H2,I2,q2⟩
end
structure It where
 go:Nat->Hp->Prop
 yld:Nat->Hp->V->Hp->Prop
 stop:Nat->Hp->Prop
noncomputable def FpOk (X:Cx)(pins:List (Addr×Obj))(H:Hp)(b:Addr):Prop:=
 H b=none/\b≠X.env.locals/\b∉X.fs/\(b∈X.ex\/X.s₀.heap.objs.size<=b)/\(∀x c,X.env.cells.lookup x=some c->c≠b)/\∀p∈X.pn++pins,p.1≠b
theorem Inv.fpOk {H H':Hp}(I:Inv X pins σ H s)(hb:s.heap.objs.size<=b)(hn:H' b=none):FpOk X pins H' b:=by
 refine⟨hn,Nat.ne_of_gt (Nat.lt_of_lt_of_le I.lt hb),I.nofs hb,.inr (Nat.le_trans I.sz hb),fun x c e z=>?_,fun p hp z=>?_⟩
 ·obtain⟨v,q⟩:=I.cell x c e
  exact absurd (Nat.lt_of_lt_of_le q.lt (by rw[z];exact hb)) (Nat.lt_irrefl _)
 ·exact absurd (Nat.lt_of_lt_of_le (Heap.lt_size (I.pin p hp).1) (by rw[z];exact hb)) (Nat.lt_irrefl _)
structure Turn (P:Program) (w:World) (K:W.Frag) (tg:Expr) (J:It) (fp:List Addr) (it:Addr) (tn:Nat->Heap->Prop):Prop where
 mem:it∈fp
 obj:∀i h,tn i h->∀b∈fp,∃o,h.get? b=some o/\∀v,o.data≠ .cell v
 keep:∀i h h',tn i h->(∀b∈fp,∀o,h.get? b=some o->h'.get? b=some o)->tn i h'
 item:∀(X:Cx),X.prog=P->X.w=w->X.K=K->X.calm=true->∀(i:Nat) (pins:List (Addr×Obj)) (s:Shared) (σ:St) (H:Hp) (E:Value->Shared->Prop),Inv X pins σ H s->(∀b∈fp,FpOk X pins H b)->tn i s.heap->J.go i H->
  wpAny (model P w) X.A (pyNext (.ref it)) (fun r s1=>∃u,r=some u/\
   wpAny (model P w) X.A (letOwnedTupleGo tg (.ref it) u) (fun _ s2=>∃x H',Inv X pins σ H' s2/\RelV x u/\J.yld i H x H'/\tn (i+1) s2.heap/\∀b∈fp,H' b=none) E s1) E s
 done:∀(X:Cx),X.prog=P->X.w=w->X.K=K->X.calm=true->∀(i:Nat) (pins:List (Addr×Obj)) (s:Shared) (σ:St) (H:Hp) (E:Value->Shared->Prop),Inv X pins σ H s->(∀b∈fp,FpOk X pins H b)->tn i s.heap->J.stop i H->
  wpAny (model P w) X.A (pyNext (.ref it)) (fun r s1=>r=none/\Inv X pins σ H s1) E s
 self:∀(A:Around) (i:Nat) (s:Shared) (Q:Value->Shared->Prop) (E:Value->Shared->Prop),tn i s.heap->Q (.ref it) s->wpAny (model P w) A (pyIter (.ref it)) Q E s
noncomputable abbrev TI:=St->Hp->(It->Hp->Prop)->Prop
noncomputable def PIE (X:Cx)(pins:List (Addr×Obj))(σ:St)(tg:Expr)(R:It->Hp->Prop)(itv:Value)(s2:Shared):Prop:=
 ∃(it:Addr) (fp:List Addr) (tn:Nat->Heap->Prop) (J:It) (H':Hp),itv= .ref it/\Inv X pins σ H' s2/\Turn X.prog X.w X.K tg J fp it tn/\tn 0 s2.heap/\(∀b∈fp,FpOk X pins H' b)/\R J H'
noncomputable def PI (X:Cx)(tg iter:Expr)(wi:TI):Prop:=
 ∀(pins:List (Addr×Obj)) (s:Shared) (σ:St) (H:Hp) (R:It->Hp->Prop),Inv X pins σ H s->wi σ H R->
  wpAny (model X.prog X.w) X.A (eval iter X.env) (fun v s1=>wpAny (model X.prog X.w) X.A (pyIter v) (PIE X pins σ tg R) X.xe s1) X.xe s
theorem go_of {M:Model}{n:String}{vs:Array Value}(ho:s.heap.get? it=some o)(hc:o.cls= .type n)(hd:o.data= .fields vs)
    (hn:["enumerate","zip","dict_itemiterator","dict_reverseitemiterator","odict_iterator","itertools.zip_longest","itertools.pairwise"].contains n=false) (hQ:Q () s):wpAny M A (letOwnedTupleGo tg (.ref it) u) Q E s:=by
  unfold letOwnedTupleGo
  cases tg<;>first
    |exact wpAny_pure hQ
    | (cases u <;> first
        |exact wpAny_pure hQ
        | (refine wpAny_bind (wpAny_load ho ?_)
           rw[hc,hd]
           show wpAny M A (if(["enumerate","zip","dict_itemiterator","dict_reverseitemiterator","odict_iterator","itertools.zip_longest","itertools.pairwise"].contains n&&vs[0]? ==some (rawInt _))=true then _ else _) Q E s
           rw[if_neg (by intro h;rw[hn,Bool.false_and]at h;cases h)]
           exact wpAny_pure hQ))
noncomputable def Itl (K:W.Frag)(a:Addr):It:=
 ⟨fun i H=>∃xs x,SqL K H a xs/\xs[i]? =some x,fun i H x H'=>H'=H/\∀xs,SqL K H a xs->xs[i]? =some x,fun i H=>∃xs,SqL K H a xs/\xs.length<=i⟩
noncomputable def Itt (K:W.Frag)(a:Addr):It:=
 ⟨fun i H=>∃xs x,SqT K H a xs/\xs[i]? =some x,fun i H x H'=>H'=H/\∀xs,SqT K H a xs->xs[i]? =some x,fun i H=>∃xs,SqT K H a xs/\xs.length<=i⟩
noncomputable def Itr (lo:Int)(n:Nat):It:=⟨fun i _=>i<n,fun i H x H'=>H'=H/\x= .int (lo+i),fun i _=>n<=i⟩
theorem zmM {P:Program}(a it:Addr):Turn P w K tg (Itl K a) [it] it (fun i h=>h.IsListIter it a i) where
 mem:=by simp
 obj:=fun i h st b hb=>by
  have e:b=it:=by simpa using hb
  subst e
  obtain⟨o,e,c,d⟩:=st
  exact⟨o,e,fun v z=>by rw[d]at z;cases z⟩
 keep:=fun i h h' st k=>st.at fun o e=>k it (by simp) o e
 item:=by
  intro X hP hw hK hc i pins s σ H E I hf st hg
  subst hP hw hK
  obtain⟨xs,x,hq,hx⟩:=hg
  obtain⟨its,rv,p,hz⟩:=I.list hq
  obtain⟨u,hu,ru⟩:=rv.get hx
  obtain⟨f0,f1,f2,f3,f4,f5⟩:=hf it (by simp)
  refine wpAny_pyNext_list_item st p.isList (x:=u) (by simpa using hu) fun h' st' sb=>?_
  have I1:Inv X pins σ H {s with heap:=h'}:=I.turned (t':=s.toks) (fun b o hb e=>(sb.2 b hb).trans e) f0 f1 f3 f4 f5
  obtain⟨o,e,c,d⟩:=id st'
  exact⟨u,rfl,go_of (s:={s with heap:=h'}) e c d (by decide) ⟨x,H,I1,ru,⟨rfl,fun ys hy=>by rw[I.list_inj hy hq];exact hx⟩,st',fun b hb=>(hf b hb).1⟩⟩
 done:=by
  intro X hP hw hK hc i pins s σ H E I hf st hg
  subst hP hw hK
  obtain⟨xs,hq,hx⟩:=hg
  obtain⟨its,rv,p,hz⟩:=I.list hq
  obtain⟨f0,f1,f2,f3,f4,f5⟩:=hf it (by simp)
  have hl:=rv.length
  exact wpAny_pyNext_list_end (I.ok.hd hc) st p.isList (by simp;lia) fun h' eb=>⟨rfl,I.turned (t':=s.toks) (fun b o hb e=>eb b o hb e) f0 f1 f3 f4 f5⟩
 self:=fun _ _ _ _ _ st h=>wpAny_pyIter_listiter st h
theorem zma {P:Program}(a it:Addr):Turn P w K tg (Itt K a) [it] it (fun i h=>h.IsTupleIter it a i) where
 mem:=by simp
 obj:=fun i h st b hb=>by
  have e:b=it:=by simpa using hb
  subst e
  obtain⟨o,e,c,d⟩:=st
  exact⟨o,e,fun v z=>by rw[d]at z;cases z⟩
 keep:=fun i h h' st k=>st.at fun o e=>k it (by simp) o e
 item:=by
  intro X hP hw hK hc i pins s σ H E I hf st hg
  subst hP hw hK
  obtain⟨xs,x,hq,hx⟩:=hg
  obtain⟨its,rv,p,hz⟩:=I.tuple hq
  obtain⟨u,hu,ru⟩:=rv.get hx
  obtain⟨f0,f1,f2,f3,f4,f5⟩:=hf it (by simp)
  refine wpAny_pyNext_tuple_item st (show s.heap.IsTuple a its.toArray from p) (x:=u) (by simpa using hu) fun h' st' sb=>?_
  have I1:Inv X pins σ H {s with heap:=h'}:=I.turned (t':=s.toks) (fun b o hb e=>(sb.2 b hb).trans e) f0 f1 f3 f4 f5
  obtain⟨o,e,c,d⟩:=id st'
  exact⟨u,rfl,go_of (s:={s with heap:=h'}) e c d (by decide) ⟨x,H,I1,ru,⟨rfl,fun ys hy=>by rw[I.tuple_inj hy hq];exact hx⟩,st',fun b hb=>(hf b hb).1⟩⟩
 done:=by
  intro X hP hw hK hc i pins s σ H E I hf st hg
  subst hP hw hK
  obtain⟨xs,hq,hx⟩:=hg
  obtain⟨its,rv,p,hz⟩:=I.tuple hq
  obtain⟨f0,f1,f2,f3,f4,f5⟩:=hf it (by simp)
  have hl:=rv.length
  exact wpAny_pyNext_tuple_end (I.ok.hd hc) st (show s.heap.IsTuple a its.toArray from p) (by simp;lia) fun h' eb=>⟨rfl,I.turned (t':=s.toks) (fun b o hb e=>eb b o hb e) f0 f1 f3 f4 f5⟩
 self:=fun _ _ _ _ _ st h=>wpAny_pyIter_tupleiter st h
theorem zl8 {P:Program}{w:World}(it:Addr)(lo:Int)(n:Nat):Turn P w K tg (Itr lo n) [it] it (fun i h=>IsRangeIter h it (lo+(i:Nat)*1) ((n:Int)-(i:Nat)) 1) where
 mem:=by simp
 obj:=fun i h st b hb=>by
  have e:b=it:=by simpa using hb
  subst e
  exact⟨_,st,fun v z=>by
   have z':Data.fields _=Data.cell v:=z
   cases z'⟩
 keep:=fun i h h' st k=>k it (by simp) _ st
 item:=by
  intro X hP hw hK hc i pins s σ H E I hf st hg
  subst hP hw hK
  obtain⟨f0,f1,f2,f3,f4,f5⟩:=hf it (by simp)
  have W:=Walks.range (prog:=X.prog) (w:=X.w) (I.ok.hd hc) it lo 1 n
  refine W.item i s _ _ hg st fun v h' tk hv st' kk=>?_
  obtain⟨t,rfl⟩:=hv
  have I1:Inv X pins σ H {s with heap:=h',toks:=tk}:=I.turned (fun b o hb e=>kk b o (by simpa using hb) e) f0 f1 f3 f4 f5
  refine⟨_,rfl,go_of (s:={s with heap:=h',toks:=tk}) (n:="range_iterator") st' rfl rfl (by decide) ⟨.int (lo+i),H,I1,⟨t,?_⟩,⟨rfl,rfl⟩,st',fun b hb=>(hf b hb).1⟩⟩
  rw[Int.mul_one]
 done:=by
  intro X hP hw hK hc i pins s σ H E I hf st hg
  subst hP hw hK
  obtain⟨f0,f1,f2,f3,f4,f5⟩:=hf it (by simp)
  exact wpAny_pyNext_range_end (I.ok.hd hc) st (by have:n<=i:=hg;lia) fun h' eb=>⟨rfl,I.turned (t':=s.toks) (fun b o hb e=>eb b o hb e) f0 f1 f3 f4 f5⟩
 self:=fun _ _ _ _ _ st h=>wpAny_pyIter_rangeiter st h
section
variable {X:Cx} {tg:Expr}
theorem zlb {R:It->Hp->Prop}{lo hi:Int}{t u v:Tok}{tk:Nat}(I:Inv X pins σ H s)(h1: -(2^62)<=lo)(h2:lo<2^62)(h3: -(2^62)<=hi)(h4:hi<2^62)
  (q:R (Itr lo (hi-lo).toNat) H):wpAny (model X.prog X.w) X.A (pyIter (.ref s.heap.objs.size)) (PIE X pins σ tg R) E {s with heap:=s.heap.push {cls:= .type "range",data:= .fields #[.int lo t,.int hi u,.int 1 v]},toks:=tk}:=by
 refine wpAny_pyIter_range (IsRange.new ..) (small_one h1 h2 h3 h4) ?_
 have I1:Inv X pins σ H {s with heap:=s.heap.push {cls:= .type "range",data:= .fields #[.int lo t,.int hi u,.int 1 v]},toks:=tk}:=I.kept fun b o e=>Heap.get?_push_of_some _ e
 refine⟨(s.heap.push {cls:= .type "range",data:= .fields #[.int lo t,.int hi u,.int 1 v]}).objs.size,[(s.heap.push {cls:= .type "range",data:= .fields #[.int lo t,.int hi u,.int 1 v]}).objs.size],_,_,H,rfl,
  I1.kept (t':=tk) fun b o e=>Heap.get?_push_of_some _ e,zl8 _ lo (hi-lo).toNat,?_,fun b hb=>?_,q⟩
 ·have e1:lo+((0:Nat):Int)*1=lo:=by simp
  have e2:(((hi-lo).toNat:Nat):Int)-((0:Nat):Int)=Builtin.Range.rangeSize lo hi 1:=by rw[rangeSize_one];split<;>lia
  show IsRangeIter _ _ (lo+((0:Nat):Int)*1) ((((hi-lo).toNat:Nat):Int)-((0:Nat):Int)) 1
  rw[e1,e2]
  exact Heap.get?_push_size _ rfl
 ·have e:b=(s.heap.push {cls:= .type "range",data:= .fields #[.int lo t,.int hi u,.int 1 v]}).objs.size:=by simpa using hb
  subst e
  exact I1.fpOk (Nat.le_refl _) (I1.hok.fresh (Nat.le_refl _))
noncomputable def iRng1 (ta:TA):TI:=fun σ H R=>ta σ H fun vs H1=>∃j:Int,vs=[.int j]/\ -(2^62)<=j/\j<2^62/\R (Itr 0 j.toNat) H1
noncomputable def iRng2 (ta:TA):TI:=fun σ H R=>ta σ H fun vs H1=>∃i j:Int,vs=[.int i,.int j]/\(-(2^62)<=i/\i<2^62/\ -(2^62)<=j/\j<2^62)/\R (Itr i (j-i).toNat) H1
theorem znf {a:Expr}{p pos:Pos}(hg:Gl X "range")(hm:X.mg "range"=none)(ha:PA X [a] ta)(hs:autoParam (starEach [a] X.env=[(false,eval a X.env)]) zu2._auto_1):PI X tg (.Call (.Name "range" p) [a] [] pos) (iRng1 ta):=by
 intro pins s σ H R I h
 refine Call_ (zgZ I hg hm boot_range (PyProof.Rows.callWith_type1 (thn (ha pos pins s σ H _ I h) fun us s1 ⟨vs,H1,I1,r1,q1⟩=>?_) hs rfl))
 obtain⟨j,e,q1,q2,q⟩:=q1
 subst e
 cases r1 with
 |cons r rr=>
  cases rr
  obtain⟨t,rfl⟩:=r
  exact call_range_1 (zlb I1 (by lia) (by lia) q1 q2 (by simpa using q))
theorem znW {a b:Expr}{p pos:Pos}(hg:Gl X "range")(hm:X.mg "range"=none)(ha:PA X [a,b] ta)(hs:autoParam (starEach [a,b] X.env=[(false,eval a X.env),(false,eval b X.env)]) zu2._auto_1)(hs2:autoParam (starEach [b] X.env=[(false,eval b X.env)]) zu2._auto_1):
  PI X tg (.Call (.Name "range" p) [a,b] [] pos) (iRng2 ta):=by
 intro pins s σ H R I h
 refine Call_ (zgZ I hg hm boot_range (PyProof.Rows.callWith_type1 (thn (ha pos pins s σ H _ I h) fun us s1 ⟨vs,H1,I1,r1,q1⟩=>?_) (by rw[hs,hs2]) (by rw[hs2];rfl)))
 obtain⟨i,j,e,⟨q1,q2,q3,q4⟩,q⟩:=q1
 subst e
 cases r1 with
 |cons r rr=>
  cases rr with
  |cons r' rr=>
   cases rr
   obtain⟨t,rfl⟩:=r
   obtain⟨t',rfl⟩:=r'
   exact call_range_2 (zlb I1 q1 q2 q3 q4 q)
noncomputable def tFor (wi:TI)(g:TG)(tb:TS):TS:=fun D σ H=>wi σ H fun J H1=>∃W:Nat->Nat->St->Hp->Prop,(∃m,W 0 m σ H1)/\∀i m σ H,W i m σ H->
 (J.stop i H/\D.nx σ H)\/(J.go i H/\∃N:St->Hp->Prop,(∀σ' H',N σ' H'->∃m',m'<m/\W (i+1) m' σ' H')/\∀x H',J.yld i H x H'->g x σ H' fun σ2 H2=>tb {D with nx:=N,ct:=N,bk:=D.nx} σ2 H2)
noncomputable def zjO (fp:List Addr)(h:Heap):List (Addr×Obj):=fp.filterMap fun b=>(h.get? b).map fun o=>(b,o)
theorem ze1 (hb:b∈fp)(e:h.get? b=some o):(b,o)∈zjO fp h:=List.mem_filterMap.mpr ⟨b,hb,by rw[e];rfl⟩
theorem znv (hp:p∈zjO fp h):p.1∈fp/\h.get? p.1=some p.2:=by
 obtain⟨b,hb,e⟩:=List.mem_filterMap.mp hp
 cases q:h.get? b with
 |none=>rw[q]at e;cases e
 |some o=>
  rw[q]at e
  have e':(b,o)=p:=Option.some.inj e
  subst e'
  exact⟨hb,q⟩
theorem Inv.pinned (I:Inv X pins σ H s)(hf:∀b∈fp,FpOk X pins H b)(ho:∀b∈fp,∃o,s.heap.get? b=some o/\∀v,o.data≠ .cell v):Inv X (pins++zjO fp s.heap) σ H s:=
 I.pins_of fun p hp=>(List.mem_append.mp hp).elim (fun z=>I.pin p (List.mem_append_right _ z)) fun z=>by
  obtain⟨hb,e⟩:=znv z
  obtain⟨f0,f1,f2,_⟩:=hf p.1 hb
  obtain⟨o,e',d⟩:=ho p.1 hb
  rw[e]at e';cases e'
  exact⟨e,f0,f1,f2,d⟩
theorem Inv.unpinned (I:Inv X (pins++pl) σ H s):Inv X pins σ H s:=I.pins_of fun p hp=>I.pin p (List.mem_append_right _ (List.mem_append_left _ hp))
theorem ps_for {iter:Expr}{wi:TI}{g:TG}(hp:PassesOwn (model X.prog X.w) X.A X.env X.xe)(hc:X.calm=true)(hi:PI X tg iter wi)(hg:PG X tg g)(hb:PSs X body tb)
    (hs:autoParam (∀x,foldedSetIterable iter X.env x=pure x) zu3._auto_1):PS X (.For tg iter body [] pos) (tFor wi g tb):=by
  intro pins s σ H D I h
  refine wpAny_For (thn (hi pins s σ H _ I h) fun v s1 h1=>thn h1 fun itv s2 h2=>?_) hs
  obtain⟨it,fp,tn,J,H2,e,I2,T,st2,f2,W,⟨m0,w0⟩,turn⟩:=h2
  subst e
  have stat:∀{H':Hp},(∀b∈fp,H' b=none)->∀b∈fp,FpOk X pins H' b:=fun hn b hb=>⟨hn b hb,(f2 b hb).2⟩
  refine codeAny_forLoop_any (fun n s'=>∃i σ' H',Inv X pins σ' H' s'/\tn i s'.heap/\(∀b∈fp,H' b=none)/\W i n σ' H') ?_ m0 ⟨0,σ,H2,I2,st2,fun b hb=>(f2 b hb).1,w0⟩
  rintro n s3 ⟨i,σ3,H3,I3,st3,fr3,w3⟩
  rcases turn i n σ3 H3 w3 with⟨stop,qn⟩|⟨go,N,hN,step⟩
  . refine wpAny_passesOwn hp (thn (T.done X rfl rfl rfl hc i pins s3 σ3 H3 X.xe I3 (stat fr3) st3 stop) fun r s4 ⟨hr,I4⟩=>?_)
    subst hr
    exact wpAny_execs_nil ⟨σ3,H3,I4,qn⟩
  . refine wpAny_passesOwn hp (thn (T.item X rfl rfl rfl hc i pins s3 σ3 H3 X.xe I3 (stat fr3) st3 go) fun r s4 ⟨u,hr,h4⟩=>?_)
    subst hr
    refine wpAny_passesOwn hp (thn h4 fun _ s5 ⟨x,H5,I5,r5,y5,st5,fr5⟩=>?_)
    have I5':=I5.pinned (stat fr5) (T.obj _ _ st5)
    refine wpAny_passesOwn hp (thn (hg _ s5 σ3 H5 x u _ I5' r5 (step x H5 y5)) fun _ s6 ⟨σ6,H6,I6,q6⟩=>?_)
    refine wpAny_passesOwn hp (thn (hb _ s6 σ6 H6 _ I6 q6) fun f s7 q7=>?_)
    have again:∀{σ7:St} {H7:Hp},Inv X (pins++zjO fp s5.heap) σ7 H7 s7->N σ7 H7->∃m,m<n/\∃i σ' H',Inv X pins σ' H' s7/\tn i s7.heap/\(∀b∈fp,H' b=none)/\W i m σ' H':=fun{σ7 H7} I7 n7=>by
      obtain⟨m',hm,w7⟩:=hN σ7 H7 n7
      refine⟨m',hm,i+1,σ7,H7,I7.unpinned,T.keep _ _ _ st5 fun b hb o e=>(I7.pin (b,o) (List.mem_append_right _ (List.mem_append_right _ (ze1 hb e)))).1,fun b hb=>?_,w7⟩
      obtain⟨o,e,d⟩:=T.obj _ _ st5 b hb
      exact(I7.pin (b,o) (List.mem_append_right _ (List.mem_append_right _ (ze1 hb e)))).2.1
    cases f with
    |next=>obtain⟨σ7,H7,I7,n7⟩:=q7;exact again I7 n7
    |cont=>obtain⟨σ7,H7,I7,n7⟩:=q7;exact again I7 n7
    |brk=>obtain⟨σ7,H7,I7,q7⟩:=q7;exact⟨σ7,H7,I7.unpinned,q7⟩
    |ret v=>obtain⟨x7,σ7,H7,I7,r7,q7⟩:=q7;exact⟨x7,σ7,H7,I7.unpinned,r7,q7⟩
end
noncomputable abbrev R2:=V->V->Hp->VK->Prop
noncomputable def OpR (X:Cx)(f:Value->Value->Sem Value)(r:R2):Prop:=
 ∀(pins:List (Addr×Obj)) (s:Shared) (σ:St) (H:Hp) (x y:V) (v u:Value) (Q:VK),Inv X pins σ H s->RelV x v->RelV y u->r x y H Q->
  wpAny (model X.prog X.w) X.A (f v u) (EP X pins σ Q) X.xe s
noncomputable def UnR (X:Cx)(f:Value->Sem Value)(r:V->Hp->VK->Prop):Prop:=
 ∀(pins:List (Addr×Obj)) (s:Shared) (σ:St) (H:Hp) (x:V) (v:Value) (Q:VK),Inv X pins σ H s->RelV x v->r x H Q->
  wpAny (model X.prog X.w) X.A (f v) (EP X pins σ Q) X.xe s
noncomputable def zeT (X:Cx)(f:Value)(r:List V->Hp->VK->Prop):Prop:=
 ∀(pins:List (Addr×Obj)) (s:Shared) (σ:St) (H:Hp) (xs:List V) (us:List Value) (Q:VK),Inv X pins σ H s->Vals xs us->r xs H Q->
  wpAny (model X.prog X.w) X.A (call f us) (EP X pins σ Q) X.xe s
noncomputable def TruR (X:Cx)(r:V->Hp->(Bool->Hp->Prop)->Prop):Prop:=
 ∀(pins:List (Addr×Obj)) (s:Shared) (σ:St) (H:Hp) (x:V) (v:Value) (Q:Bool->Hp->Prop),Inv X pins σ H s->RelV x v->r x H Q->
  wpAny (model X.prog X.w) X.A (truthy v) (TP X pins σ Q) X.xe s
noncomputable def tOp (r:R2)(ta tb:TE):TE:=fun σ H Q=>ta σ H fun x H1=>tb σ H1 fun y H2=>r x y H2 Q
noncomputable def tUn (r:V->Hp->VK->Prop)(ta:TE):TE:=fun σ H Q=>ta σ H fun x H1=>r x H1 Q
noncomputable def rI (C:Int->Int->Prop)(g:Int->Int->V):R2:=fun x y H Q=>∃i j,x= .int i/\y= .int j/\C i j/\Q (g i j) H
noncomputable def rI0 (g:Int->Int->V):R2:=fun x y H Q=>∃i j,x= .int i/\y= .int j/\Q (g i j) H
noncomputable def rU (g:Int->V):V->Hp->VK->Prop:=fun x H Q=>∃i,x= .int i/\Q (g i) H
section
variable {X:Cx} {a b c:Expr} {ta tb tc:TE} {pos:Pos}
theorem binT (ha:PE X a ta)(hb:PE X b tb){R:V->V->Hp->Prop}(I:Inv X pins σ H s)
  (h:ta σ H fun x H1=>tb σ H1 fun y H2=>R x y H2) {Q:Value->Shared->Prop} {f:Value->Value->Sem Value}
  (hf:∀v u s2 x y H2,Inv X pins σ H2 s2->RelV x v->RelV y u->R x y H2->wpAny (model X.prog X.w) X.A (f v u) Q X.xe s2):
  wpAny (model X.prog X.w) X.A (eval a X.env) (fun v s₁=>wpAny (model X.prog X.w) X.A (eval b X.env) (fun u s₂=>wpAny (model X.prog X.w) X.A (f v u) Q X.xe s₂) X.xe s₁) X.xe s:=by
 refine thn (ha pins s σ H _ I h) fun v s1 ⟨x,H1,I1,r1,q1⟩=>?_
 refine thn (hb pins s1 σ H1 _ I1 q1) fun u s2 ⟨y,H2,I2,r2,q2⟩=>?_
 exact hf v u s2 x y H2 I2 r1 r2 q2
theorem pe_op {op:Operator}{r:R2}(ho:OpR X (binaryOp op) r)(ha:PE X a ta)(hb:PE X b tb):PE X (.BinOp a op b pos) (tOp r ta tb):=by
 intro pins s σ H Q I h
 exact wpAny_BinOp (binT ha hb I h fun v u s2 x y H2 I2 rx ry q=>ho pins s2 σ H2 x y v u Q I2 rx ry q)
theorem pe_un {op:UnaryOp}(ho:UnR X (unaryOp op) r)(ha:PE X a ta):PE X (.UnaryOp op a pos) (tUn r ta):=by
 intro pins s σ H Q I h
 exact UnaryOp_ (thn (ha pins s σ H _ I h) fun v s1 ⟨x,H1,I1,r1,q1⟩=>ho pins s1 σ H1 x v Q I1 r1 q1)
theorem opI
  (rule:∀(i j:Int) (t u:Tok) (s:Shared) (Q:Value->Shared->Prop) (E:Value->Shared->Prop),C i j->Q (.int (g i j) s.toks) {s with toks:=s.toks+1}->wpAny (model X.prog X.w) X.A (f (.int i t) (.int j u)) Q E s):
  OpR X f (rI C fun i j=> .int (g i j)):=by
 intro pins s σ H x y v u Q I rx ry h
 obtain⟨i,j,rfl,rfl,hc,q⟩:=h
 obtain⟨t,rfl⟩:=rx
 obtain⟨t',rfl⟩:=ry
 exact rule i j t t' s _ _ hc ⟨.int (g i j),H,I.tok _,⟨_,rfl⟩,q⟩
theorem opI0
  (rule:∀(i j:Int) (t u:Tok) (s:Shared) (Q:Value->Shared->Prop) (E:Value->Shared->Prop),Q (.int (g i j) s.toks) {s with toks:=s.toks+1}->wpAny (model X.prog X.w) X.A (f (.int i t) (.int j u)) Q E s):
  OpR X f (rI0 fun i j=> .int (g i j)):=by
 intro pins s σ H x y v u Q I rx ry h
 obtain⟨i,j,rfl,rfl,q⟩:=h
 obtain⟨t,rfl⟩:=rx
 obtain⟨t',rfl⟩:=ry
 exact rule i j t t' s _ _ ⟨.int (g i j),H,I.tok _,⟨_,rfl⟩,q⟩
theorem opB0 {g:Int->Int->Bool}
  (rule:∀(i j:Int) (t u:Tok) (s:Shared) (Q:Value->Shared->Prop) (E:Value->Shared->Prop),Q (.bool (g i j)) s->wpAny (model X.prog X.w) X.A (f (.int i t) (.int j u)) Q E s):
  OpR X f (rI0 fun i j=> .bl (g i j)):=by
 intro pins s σ H x y v u Q I rx ry h
 obtain⟨i,j,rfl,rfl,q⟩:=h
 obtain⟨t,rfl⟩:=rx
 obtain⟨t',rfl⟩:=ry
 exact rule i j t t' s _ _ ⟨.bl (g i j),H,I,rfl,q⟩
noncomputable def CPow (i j:Int):Prop:=0<=j/\j<=1000000/\i.natAbs<2^64
theorem op_add:OpR X (binaryOp .Add) (rI0 fun i j=> .int (i+j)):=opI0 fun _ _ _ _ _ _ _ q=>add_int q
theorem op_sub:OpR X (binaryOp .Sub) (rI0 fun i j=> .int (i-j)):=opI0 fun _ _ _ _ _ _ _ q=>sub_int q
theorem op_mod:OpR X (binaryOp .Mod) (rI (fun _ j=>0<j) fun i j=> .int (i%j)):=opI fun i j _ _ _ _ _ hc q=>by
 have h1:(0:Int)<j:=hc
 exact mod_int' (by lia) (by rw[Int.fmod_eq_emod_of_nonneg i (by lia)];exact q)
theorem op_pow:OpR X (binaryOp .Pow) (rI CPow fun i j=> .int (i^j.toNat)):=opI fun _ _ _ _ _ _ _ hc q=>pow_int_small hc.1 hc.2.1 hc.2.2 q
theorem unI {f:Value->Sem Value}{g:Int->Int}
  (rule:∀(i:Int) (t:Tok) (s:Shared) (Q:Value->Shared->Prop) (E:Value->Shared->Prop),Q (.int (g i) s.toks) {s with toks:=s.toks+1}->wpAny (model X.prog X.w) X.A (f (.int i t)) Q E s):
  UnR X f (rU fun i=> .int (g i)):=by
 intro pins s σ H x v Q I rx h
 obtain⟨i,rfl,q⟩:=h
 obtain⟨t,rfl⟩:=rx
 exact rule i t s _ _ ⟨.int (g i),H,I.tok _,⟨_,rfl⟩,q⟩
theorem un_neg:UnR X (unaryOp .USub) (rU fun i=> .int (-i)):=unI fun _ _ _ _ _ q=>neg_int q
end
section
variable {X:Cx} {a b c:Expr} {ta tb tc:TE} {pos:Pos}
theorem fin_bl {Q:VK}{k k':Bool}(I:Inv X pins σ H s)(q:Q (.bl k) H)(e:k=k'):EP X pins σ Q (.bool k') s:=by
 subst e
 exact⟨.bl k,H,I,rfl,q⟩
theorem zjs:OpR X (compareOp .Lt) (rI0 fun i j=> .bl (decide (i<j))):=opB0 fun _ _ _ _ _ _ _ q=>lt_int q
theorem ziA:OpR X (compareOp .LtE) (rI0 fun i j=> .bl (decide (i<=j))):=opB0 fun _ _ _ _ _ _ _ q=>le_int q
theorem op_gt:OpR X (compareOp .Gt) (rI0 fun i j=> .bl (decide (j<i))):=opB0 fun _ _ _ _ _ _ _ q=>gt_int q
theorem op_ge:OpR X (compareOp .GtE) (rI0 fun i j=> .bl (decide (j<=i))):=opB0 fun _ _ _ _ _ _ _ q=>ge_int q
theorem op_isN:OpR X (compareOp .Is) (fun x y H Q=>y= .non/\Q (.bl (decide (x= .non))) H):=by
 intro pins s σ H x y v u Q I rx ry h
 obtain⟨rfl,q⟩:=h
 cases ry
 refine is_none_gen (fin_bl I q ?_)
 cases x<;>first
  |(cases rx;rfl)
  |(obtain⟨t,rfl⟩:=rx;rfl)
theorem op_notN:OpR X (compareOp .IsNot) (fun x y H Q=>y= .non/\Q (.bl (!decide (x= .non))) H):=by
 intro pins s σ H x y v u Q I rx ry h
 obtain⟨rfl,q⟩:=h
 cases ry
 refine isnot_none_gen (fin_bl I q ?_)
 cases x<;>first
  |(cases rx;rfl)
  |(obtain⟨t,rfl⟩:=rx;rfl)
theorem OpR.or {r r':R2}(h:OpR X f r)(h':OpR X f r'):OpR X f (fun x y H Q=>r x y H Q\/r' x y H Q):=by
 intro pins s σ H x y v u Q I rx ry q
 rcases q with q|q
 ·exact h pins s σ H x y v u Q I rx ry q
 ·exact h' pins s σ H x y v u Q I rx ry q
theorem zgW (b:Expr)(h:autoParam (op≠ .In) zu1._auto_1)(h2:autoParam (op≠ .NotIn) zu1._auto_1):behindInMarks op b=false:=by
 have e1:(op==CmpOp.In)=false:=by cases op<;>first|rfl|exact absurd rfl h
 have e2:(op==CmpOp.NotIn)=false:=by cases op<;>first|rfl|exact absurd rfl h2
 cases b<;>simp[behindInMarks,e1,e2]
theorem pe_cmpR {r:R2}(ho:OpR X (compareOp op) r)(ha:PE X a ta)(hb:PE X b tb)(hm:behindInMarks op b=false):PE X (.Compare a [op] [b] pos) (tOp r ta tb):=by
 intro pins s σ H Q I h
 exact wpAny_Compare1 (binT ha hb I h fun v u s2 x y H2 I2 rx ry q=>ho pins s2 σ H2 x y v u Q I2 rx ry q) hm
noncomputable def tTest (t:TE):TT:=fun σ H Q=>t σ H fun x H'=>∃k,x= .bl k/\Q k H'
theorem pt_cmpR {r:R2}(ho:OpR X (compareOp op) r)(ha:PE X a ta)(hb:PE X b tb)(hm:behindInMarks op b=false):PT X (.Compare a [op] [b] pos) (tTest (tOp r ta tb)):=by
 intro pins s σ H Q I h
 refine wpAny_isTrue_Compare1 (thn (ha pins s σ H _ I h) fun v s1 ⟨x,H1,I1,r1,q1⟩=>thn (hb pins s1 σ H1 _ I1 q1) fun u s2 ⟨y,H2,I2,r2,q2⟩=>
  thn (ho pins s2 σ H2 x y v u _ I2 r1 r2 q2) fun c s3 ⟨z,H3,I3,r3,k,e,q3⟩=>?_) hm
 subst e
 cases r3
 exact wpAny_truthy_bool ⟨H3,I3,q3⟩
noncomputable def zmz (r r':R2)(ta tb tc:TE):TE:=fun σ H Q=>ta σ H fun x H1=>tb σ H1 fun y H2=>r x y H2 fun z H3=>∃k,z= .bl k/\
 (if k=true then tc σ H3 fun w' H4=>r' y w' H4 Q else Q (.bl false) H3)
theorem pe_chain {r r':R2}(ho:OpR X (compareOp op) r)(ho':OpR X (compareOp op') r')(ha:PE X a ta)(hb:PE X b tb)(hc:PE X c tc)
  (hm:autoParam (lastMarks [op,op'] [b,c]=false) zu4._auto_1):PE X (.Compare a [op,op'] [b,c] pos) (zmz r r' ta tb tc):=by
 intro pins s σ H Q I h
 refine Compare_chain (thn (ha pins s σ H _ I h) fun v s1 ⟨x,H1,I1,r1,q1⟩=>chain_link (thn (hb pins s1 σ H1 _ I1 q1) fun u s2 ⟨y,H2,I2,r2,q2⟩=>
  thn (ho pins s2 σ H2 x y v u _ I2 r1 r2 q2) fun d s3 ⟨z,H3,I3,r3,k,e,q3⟩=>?_)) hm
 subst e
 cases r3
 refine wpAny_truthy_bool ?_
 cases k with
 |false=>exact ite_ff ⟨.bl false,H3,I3,rfl,q3⟩
 |true=>exact ite_tt (chain_last (thn (hc pins s3 σ H3 _ I3 q3) fun w' s4 ⟨z',H4,I4,r4,q4⟩=>ho' pins s4 σ H4 y z' u w' Q I4 r2 r4 q4))
theorem pt_chain {r r':R2}(ho:OpR X (compareOp op) r)(ho':OpR X (compareOp op') r')(ha:PE X a ta)(hb:PE X b tb)(hc:PE X c tc)
  (hm:autoParam (lastMarks [op,op'] [b,c]=false) zu4._auto_1):PT X (.Compare a [op,op'] [b,c] pos) (tTest (zmz r r' ta tb tc)):=by
 intro pins s σ H Q I h
 refine isTrue_chain (thn (ha pins s σ H _ I h) fun v s1 ⟨x,H1,I1,r1,q1⟩=>test_link (thn (hb pins s1 σ H1 _ I1 q1) fun u s2 ⟨y,H2,I2,r2,q2⟩=>
  thn (ho pins s2 σ H2 x y v u _ I2 r1 r2 q2) fun d s3 ⟨z,H3,I3,r3,k,e,q3⟩=>?_)) hm
 subst e
 cases r3
 refine wpAny_truthy_bool ?_
 cases k with
 |false=>
  obtain⟨k',e',q'⟩:=q3
  cases e'
  exact ite_ff ⟨H3,I3,q'⟩
 |true=>
  refine ite_tt (test_last (thn (hc pins s3 σ H3 _ I3 q3) fun w' s4 ⟨z',H4,I4,r4,q4⟩=>thn (ho' pins s4 σ H4 y z' u w' _ I4 r2 r4 q4) fun d' s5 ⟨z2,H5,I5,r5,k2,e2,q5⟩=>?_))
  subst e2
  cases r5
  exact wpAny_truthy_bool ⟨H5,I5,q5⟩
noncomputable def TruV (K:W.Frag)(x:V)(H:Hp)(k:Bool):Prop:=
 match x with
 | .non=>k=false
 | .bl b=>k=b
 | .int i=>k=(i !=0)
 | .str y=>y.length<=sizeLine/\k=((y.length:Int) !=0)
 | .byt y=>y.size<=sizeLine/\k=((y.size:Int) !=0)
 | .ref p=>(∃xs,SqL K H p xs/\k=!xs.isEmpty)\/(∃xs,SqT K H p xs/\k=!xs.isEmpty)\/∃kvs,H p=some (.dK kvs)/\k=!kvs.isEmpty
 |_=>False
theorem zl7 {κ:Type}{kvs:List (κ×V)}{vs:List (κ×Value)}(r:KV kvs vs):(!vs.isEmpty)=!kvs.isEmpty:=by
 cases r<;>rfl
theorem zik (r:Vals xs its):(!its.toArray.isEmpty)=!xs.isEmpty:=by
 cases r<;>simp
theorem zil:(sizeLine:Nat)<2^63:=by rw[sizeLine_eq];decide
theorem tru_ok:TruR X (fun x H Q=>∃k,TruV X.K x H k/\Q k H):=by
 intro pins s σ H x v Q I rx h
 obtain⟨k,e,q⟩:=h
 have hl:=zil
 have hs:sizeLine=16777216:=sizeLine_eq
 cases x with
 |non=>
  cases rx
  have e':k=false:=e
  subst e'
  exact truthy_none ⟨H,I,q⟩
 |bl b=>
  cases rx
  have e':k=b:=e
  subst e'
  exact wpAny_truthy_bool ⟨H,I,q⟩
 |int i=>
  obtain⟨t,rfl⟩:=rx
  have e':k=(i !=0):=e
  subst e'
  exact PySem.P.truthy_int ⟨H,I,q⟩
 |str y=>
  obtain⟨t,rfl⟩:=rx
  obtain⟨hy,e'⟩:y.length<=sizeLine/\k=((y.length:Int) !=0):=e
  subst e'
  exact PySem.P.truthy_str (by lia) ⟨H,I.tok _,q⟩
 |byt y=>
  obtain⟨t,rfl⟩:=rx
  obtain⟨hy,e'⟩:y.size<=sizeLine/\k=((y.size:Int) !=0):=e
  subst e'
  exact W.truthy_bytes (by lia) ⟨H,I.tok _,q⟩
 |ref p=>
  cases rx
  have e':(∃xs,SqL X.K H p xs/\k=!xs.isEmpty)\/(∃xs,SqT X.K H p xs/\k=!xs.isEmpty)\/∃kvs,H p=some (.dK kvs)/\k=!kvs.isEmpty:=e
  rcases e' with⟨xs,hx,e'⟩|⟨xs,hx,e'⟩|⟨kvs,hx,e'⟩
  ·subst e'
   obtain⟨its,r,pl,hz⟩:=I.list hx
   have hlen:=r.length
   exact wpAny_truthy_list pl.isList (by simp only[List.size_toArray];lia) ⟨H,I.tok _,by rw[zik r];exact q⟩
  ·subst e'
   obtain⟨its,r,pl,hz⟩:=I.tuple hx
   have hlen:=r.length
   exact truthy_tuple pl (by simp only[List.size_toArray];lia) ⟨H,I.tok _,by rw[zik r];exact q⟩
  ·subst e'
   obtain⟨hz,hS,vs,r,m⟩:kvs.length<=sizeLine/\(p==sysModules)=false/\∃vs,KV kvs vs/\s.heap.DictOf (zk3 X.prog X.w) p vs:=I.hok p _ hx
   have hlen:kvs.length=vs.length:=Paired.length r
   exact wpAny_truthy_dict hS m (by lia) ⟨H,I.tok _,by rw[zl7 r];exact q⟩
 |_=>exact(show False from e).elim
theorem pt_truth (ha:PE X a ta)(he:∀whole,isTrue a X.env whole=(do let v<-whole;standAt a.pos;holding [v] (truthy v))):
  PT X a (fun σ H Q=>ta σ H fun x H'=>∃k,TruV X.K x H' k/\Q k H'):=by
 intro pins s σ H Q I h
 exact isTrue_plain (thn (ha pins s σ H _ I h) fun v s1 ⟨x,H1,I1,r1,q1⟩=>tru_ok pins s1 σ H1 x v Q I1 r1 q1) (he _)
theorem zmm:OpR X (binaryOp .Add) (fun x y H Q=>∃i j,x= .str i/\y= .str j/\i.length+j.length<=sizeLine/\Q (.str (i++j)) H):=by
 intro pins s σ H x y v u Q I rx ry h
 obtain⟨i,j,rfl,rfl,hz,q⟩:=h
 obtain⟨t,rfl⟩:=rx
 obtain⟨t',rfl⟩:=ry
 exact add_str (fun t' tk=>⟨.str (i++j),H,I.tok _,⟨_,rfl⟩,q⟩) hz
theorem zh9 {x:V}(r:Vals [x] us):∃u,us=[u]/\RelV x u:=by
 cases r with
 |cons r1 r2=>cases r2;exact⟨_,rfl,r1⟩
theorem vals2 {x y:V}(r:Vals [x,y] us):∃u w',us=[u,w']/\RelV x u/\RelV y w':=by
 cases r with
 |cons r1 r2=>
  cases r2 with
  |cons r3 r4=>cases r4;exact⟨_,_,rfl,r1,r3⟩
theorem call_abs:zeT X (.builtin "abs") (fun xs H Q=>∃i,xs=[.int i]/\Q (.int (if i<0 then-i else i)) H):=by
 intro pins s σ H xs us Q I r h
 obtain⟨i,rfl,q⟩:=h
 obtain⟨u,rfl,t,rfl⟩:=zh9 r
 exact call_abs_int fun u tk=>⟨.int (if i<0 then-i else i),H,I.tok _,⟨_,rfl⟩,q⟩
theorem znA (hc:X.calm=true):zeT X (.builtin "max") (fun xs H Q=>∃i j,xs=[.int i,.int j]/\Q (.int (if j>i then j else i)) H):=by
 intro pins s σ H xs us Q I r h
 obtain⟨i,j,rfl,q⟩:=h
 obtain⟨u,w',rfl,⟨t,rfl⟩,⟨t',rfl⟩⟩:=vals2 r
 refine max_two_ints (I.ok.hd hc) fun h' tk k=>⟨_,H,I.kept k,?_,q⟩
 by_cases hj:j>i
 ·rw[if_pos hj,if_pos hj];exact⟨_,rfl⟩
 ·rw[if_neg hj,if_neg hj];exact⟨_,rfl⟩
theorem zn3 (hc:X.calm=true):zeT X (.builtin "min") (fun xs H Q=>∃i j,xs=[.int i,.int j]/\Q (.int (if j<i then j else i)) H):=by
 intro pins s σ H xs us Q I r h
 obtain⟨i,j,rfl,q⟩:=h
 obtain⟨u,w',rfl,⟨t,rfl⟩,⟨t',rfl⟩⟩:=vals2 r
 refine min_two_ints (I.ok.hd hc) fun h' tk k=>⟨_,H,I.kept k,?_,q⟩
 by_cases hj:j<i
 ·rw[if_pos hj,if_pos hj];exact⟨_,rfl⟩
 ·rw[if_neg hj,if_neg hj];exact⟨_,rfl⟩
end
structure ObjM (h:Heap) (x dx C:Addr) (mA:Str->Option Value):Prop where
 obj:h.get? x=some (W.instObj C dx)
 ns:h.Ns1 dx mA
 ne:dx≠x
theorem zm9 (n:h.Ns1 dx mA):∃od,h.get? dx=some od/\∀name,W.lookIn name od=some (mA name):=by
 obtain⟨o,es,ep,ho,hd,hk,_,hm⟩:=n
 refine⟨o,ho,fun name=>?_⟩
 have e:=hm name
 unfold nsFind findBy at e
 rw[<-Array.find?_toList]at e
 unfold W.lookIn
 rw[hd]
 dsimp only
 split
 ·rename_i y q
  rw[q]at e
  exact congrArg some e
 ·rename_i q
  rw[q]at e
  have a:es.toList.any (·.refKey)=false:=by
   rw[List.any_eq_false]
   intro y hy
   obtain⟨z,t,hkey⟩:=hk y (Array.mem_toList_iff.mp hy)
   simp[DictEntry.refKey,hkey]
  have a':¬es.toList.any (·.refKey)=true:=by rw[a];exact Bool.false_ne_true
  rw[if_neg a']
  exact congrArg some e
theorem ObjM.look {x dx C:Addr}(I:ObjM h x dx C mA):∃od,W.InstAt h x (W.instObj C dx) C (some od)/\∀name,W.lookIn name od=some (mA name):=
 let⟨od,ho,hl⟩:=zm9 I.ns
 ⟨od,⟨I.obj,rfl,rfl,ho⟩,hl⟩
section
variable {P:Program} {w:World} {H H':Hp} {h h':Heap} {a C dx:Addr} {fs fs':List (Str×V)}
theorem ins_get (hok:HOk P w H h)(e:H a=some (.ins C dx fs)):∃mA,ObjM h a dx C mA/\(∀f,RelO (fs.lookup f) (mA f))/\PySem.Within mA (fs.map (·.1))/\fs.length<=1000/\H dx=some (.own a):=by
 obtain⟨d,z,ne,ob,mA,n,r,q⟩:=(show ObjOk P w H h a (.ins C dx fs)from hok a _ e)
 exact⟨mA,⟨ob,n,ne⟩,r,q,z,d⟩
end
structure Cls (K:W.Frag) (C:Addr):Prop where
 pg:W.plainGet K C Str.empty=true
 hd:W.hasDictIn K C=true
 po:W.plainOver K C=true
 sa:W.findIn K (.ref C) "__setattr__"=some (some (.builtin "object.__setattr__"))
theorem Cls.get {C:Addr}(c:Cls K C)(f:Str):W.plainGet K C f=true:=c.pg
section
variable {X:Cx} {pins:List (Addr×Obj)} {σ:St} {H:Hp} {s:Shared} {A:Around} {E:Value->Shared->Prop} {Q:Value->Shared->Prop} {c:Value} {b:Bool}
inductive TyOf (K:W.Frag) (H:Hp):V->Value->Prop where
 |non:TyOf K H .non (.type "NoneType")
 |bl (x:Bool):TyOf K H (.bl x) (.type "bool")
 |int (i:Int):TyOf K H (.int i) (.type "int")
 |str (x:Str):TyOf K H (.str x) (.type "str")
 |flt (x:UInt64):TyOf K H (.flt x) (.type "float")
 |lst {a:Addr} {xs:List V} (e:H a=some (.lst xs)):TyOf K H (.ref a) (.type "list")
 |frz {a:Addr} {o:Obj} {xs:List V} (e:H a=some (.frz o (.lst xs))):TyOf K H (.ref a) (.type "list")
 |tup {a:Addr} {xs:List V} (e:H a=some (.tup xs)):TyOf K H (.ref a) (.type "tuple")
 |dK {a:Addr} {kvs:List (Key×V)} (e:H a=some (.dK kvs)):TyOf K H (.ref a) (.type "dict")
 |dT {a:Addr} {kvs:List (List Key×V)} (e:H a=some (.dT kvs)):TyOf K H (.ref a) (.type "dict")
 |ins {a C dx:Addr} {fs:List (Str×V)} (e:H a=some (.ins C dx fs)) (cl:Cls K C) (ha:W.findIn K (.ref C) "__class__"=some (some (.builtin "object.__class__")))
   (hn:W.specialIn K (.builtin "object.__class__") "__get__"=some (some (.builtin "getset_descriptor.__get__"))) (htk:W.takesIn K (.builtin "object.__class__")=some true)
   (hm:W.mroIn K C (.type "object")=some true):TyOf K H (.ref a) (.ref C)
theorem zoc {x:V}{u t:Value}(I:Inv X pins σ H s)(rx:RelV x u)(ty:TyOf X.K H x t)(e:W.kitOne X.K t c=some b)(h:∀tk,Q (.bool b) {s with toks:=tk}):
  wpAny (model X.prog X.w) A (call (.builtin "isinstance") [u,c]) Q E s:=by
 cases ty with
 |non=>cases(show u=Value.none from rx);exact W.kia_one W.kitx_none I.kIn True.intro e (fun z=>nomatch z) h
 |bl y=>cases(show u=Value.bool y from rx);exact W.kia_one W.kitx_bool I.kIn True.intro e (fun z=>nomatch z) h
 |int i=>obtain⟨t,q⟩:=(show ∃t,u=Value.int i t from rx);cases q;exact W.kia_one W.kitx_int I.kIn True.intro e (fun z=>nomatch z) h
 |str y=>obtain⟨t,q⟩:=(show ∃t,u=Value.str y t from rx);cases q;exact W.kia_one W.kitx_str I.kIn True.intro e (fun z=>nomatch z) h
 |flt y=>obtain⟨t,q⟩:=(show ∃t,u=Value.float y t from rx);cases q;exact W.kia_one W.kitx_float I.kIn True.intro e (fun z=>nomatch z) h
 | @lst a xs ea=>
  cases(show u=Value.ref a from rx)
  obtain⟨_,_,n,_,h1⟩:=(show ObjOk X.prog X.w H s.heap a (.lst xs)from I.hok a _ ea)
  exact W.kia_one W.kitx_list I.kIn ⟨_,h1,rfl⟩ e (fun z=>nomatch z) h
 | @frz a ob xs ea=>
  cases(show u=Value.ref a from rx)
  obtain⟨_,_,_,n,_,h1⟩:=(show ObjOk X.prog X.w H s.heap a (.frz ob (.lst xs))from I.hok a _ ea)
  exact W.kia_one W.kitx_list I.kIn ⟨_,h1,rfl⟩ e (fun z=>nomatch z) h
 | @tup a xs ea=>
  cases(show u=Value.ref a from rx)
  obtain⟨_,_,_,p⟩:=(show ObjOk X.prog X.w H s.heap a (.tup xs)from I.hok a _ ea)
  obtain⟨o,h1,h2,_⟩:=p
  exact W.kia_one W.kitx_tuple I.kIn ⟨o,h1,h2⟩ e (fun z=>nomatch z) h
 | @dK a kvs ea=>
  cases(show u=Value.ref a from rx)
  obtain⟨_,_,vs,_,p⟩:=(show ObjOk X.prog X.w H s.heap a (.dK kvs)from I.hok a _ ea)
  obtain⟨o,es,ep,h1,h2,_⟩:=p
  exact W.kia_one W.kitx_dict I.kIn ⟨o,h1,h2.1⟩ e (fun z=>nomatch z) h
 | @dT a kvs ea=>
  cases(show u=Value.ref a from rx)
  obtain⟨_,_,xs,_,o,es,ep,h1,h2,_⟩:=(show ObjOk X.prog X.w H s.heap a (.dT kvs)from I.hok a _ ea)
  exact W.kia_one W.kitx_dict I.kIn ⟨o,h1,h2.1⟩ e (fun z=>nomatch z) h
 | @ins a C dx fs ea cl ha hn htk hm=>
  cases(show u=Value.ref a from rx)
  obtain⟨mA,O,_⟩:=ins_get I.hok ea
  obtain⟨od,J,_⟩:=O.look
  exact W.kia_one (W.kitx_own (cl.get _) cl.hd ha hn htk hm) I.kIn J e (fun z=>nomatch z) h
end
structure Room (k:Nat) (A:Around):Prop where
 hd:A.handled=none
 dp:A.depth+3*k+5<recursionLimit
 un:A.units+16*k+200<cLine
 gd:A.guards=some []
theorem Room.mono (r:Room k A)(h:j<=k):Room j A:=⟨r.hd,by have:=r.dp;lia,by have:=r.un;lia,r.gd⟩
theorem Room.deeper (r:Room (k+1) A)(env:Env):Room k (A.deeper env):=
 ⟨r.hd,by have:=r.dp;show A.depth+1+3*k+5<_;lia,by have:=r.un;show A.units+3+16*k+200<_;lia,r.gd⟩
theorem Room.depth (r:Room k A):A.depth<recursionLimit:=by have:=r.dp;lia
theorem Room.units (r:Room k A):A.units+64<cLine:=by have:=r.un;lia
noncomputable def tNil:TA:=fun _ H Q=>Q [] H
noncomputable def tCons (ta:TE)(tr:TA):TA:=fun σ H Q=>ta σ H fun x H1=>tr σ H1 fun xs H2=>Q (x::xs) H2
section
variable {X:Cx} {e:Expr} {es:List Expr} {te:TE} {t:TA} {pos:Pos}
theorem zg0:PA X [] tNil:=fun _ _ _ _ H Q I h=>Calls.spliced_nil ⟨[],H,I,.nil,h⟩
theorem zdm (ha:PE X e te)(hr:PA X es t)(hs:autoParam (starEach (e::es) X.env=(false,eval e X.env)::starEach es X.env) zu2._auto_1):PA X (e::es) (tCons te t):=by
 intro pos pins s σ H Q I h
 rw[hs]
 show wpAny _ _ (spliced ((false,eval e X.env)::backTo pos (starEach es X.env))) _ _ s
 refine Calls.spliced_cons (thn (ha pins s σ H _ I h) fun u s1 ⟨x,H1,I1,r1,q1⟩=>?_)
 exact thn (hr pos pins s1 σ H1 _ I1 q1) fun us s2 ⟨xs,H2,I2,r2,q2⟩=>⟨x::xs,H2,I2,.cons r1 r2,q2⟩
noncomputable def tTup (t:TA):TE:=fun σ H Q=>t σ H fun xs H1=>xs.length<=sizeLine/\∀p,H1 p=none->Q (.ref p) (upd H1 p (.tup xs))
noncomputable def tLst (t:TA):TE:=fun σ H Q=>t σ H fun xs H1=>xs.length<=sizeLine/\∀p,H1 p=none->Q (.ref p) (upd H1 p (.lst xs))
theorem pe_tup {x1}(h:PA X es t):PE X (.Tuple es x1 pos) (tTup t):=by
 intro pins s σ H Q I hq
 refine wpAny_Tuple_spliced (thn (h pos pins s σ H _ I hq) fun us s1 ⟨xs,H1,I1,r,z,q⟩=>⟨by rw[<-r.length];exact z,?_⟩)
 have hf:H1 s1.heap.objs.size=none:=I1.hok.fresh (Nat.le_refl _)
 refine⟨.ref s1.heap.objs.size,upd H1 s1.heap.objs.size (.tup xs),I1.laid (t':=s1.toks) (fun b u e=>Heap.get?_push_of_some _ e) (Nat.le_refl _) ?_,rfl,q _ hf⟩
 exact⟨z,us,r,⟨_,Heap.get?_push_size _ rfl,rfl,_,rfl⟩⟩
theorem pe_lst (h:PA X es t):PE X (.List es pos) (tLst t):=by
 intro pins s σ H Q I hq
 refine wpAny_List_spliced (thn (h pos pins s σ H _ I hq) fun us s1 ⟨xs,H1,I1,r,z,q⟩=>⟨by rw[<-r.length];exact z,?_⟩)
 have hf:H1 s1.heap.objs.size=none:=I1.hok.fresh (Nat.le_refl _)
 refine⟨.ref s1.heap.objs.size,upd H1 s1.heap.objs.size (.lst xs),I1.laid (t':=s1.toks) (fun b u e=>Heap.get?_push_of_some _ e) (Nat.le_refl _) ?_,rfl,q _ hf⟩
 exact⟨z,us,0,r,Heap.get?_push_size _ rfl⟩
end
noncomputable abbrev Sp:=List V->Hp->VK->XK->Prop
noncomputable abbrev CXT:=List Env->Hp->Shared->XK->Value->Shared->Prop
structure Env0 (P:Program) (w:World) (K:W.Frag) (mg:Str->Option Value) (base:Heap) (A:Around) (outer:List Env) (s:Shared) (H:Hp):Prop where
 frames:A.frames=some outer
 mod:Mod K mg base
 bs:∀b o,base.get? b=some o->s.heap.get? b=some o/\H b=none
 bsz:base.objs.size<=s.heap.objs.size
 funs:s.heap.FunFrames base outer
 frf:∀b∈frs outer,H b=none
 hok:HOk P w H s.heap
 bare:AllBare s.gens
noncomputable def CE (outer:List Env)(P:Program)(w:World)(H:Hp)(s:Shared)(Q:VK)(u:Value)(s':Shared):Prop:=
 ∃v H',s'.os=s.os/\AllBare s'.gens/\Un (frs outer) [] H H' s.heap s'.heap/\HOk P w H' s'.heap/\RelV v u/\Q v H'
noncomputable def CR (CX:CXT)(outer:List Env)(P:Program)(w:World)(H:Hp)(s:Shared)(Q:VK)(E:XK)(r:Result)(s':Shared):Prop:=
 match r with
 | .ok (.ret u)=>CE outer P w H s Q u s'
 | .ok _=>False
 | .error e=>CX outer H s E e s'
structure FnOk (P:Program) (w:World) (K:W.Frag) (mg:Str->Option Value) (base:Heap) (CX:CXT) (k:Nat) (f:Addr) (fd:FuncData) (ps:List Str) (sp:Sp):Prop where
 len:∀vs H Q E,sp vs H Q E->vs.length=ps.length
 run:∀(A:Around) (outer:List Env) (s:Shared) (H:Hp) (args:Args) (us:List Value) (vs:List V) (Q:VK) (E:XK),Room k A->Env0 P w K mg base A outer s H->BindsTo s fd args (ps.zip us)->Vals vs us->sp vs H Q E->
  codeAny (model P w) A (.call (.ref f) args) (CR CX outer P w H s Q E) s
section
variable {X:Cx} {pins:List (Addr×Obj)} {σ:St} {H:Hp} {s s':Shared}
theorem Inv.env0 (I:Inv X pins σ H s):Env0 X.prog X.w X.K X.mg X.base X.A X.stack s H:=
 ⟨I.ok.frames,I.ok.mod,I.bs,Nat.le_trans I.ok.bsz I.sz,I.stack,I.stkFree,I.hok,I.bare⟩
theorem Inv.after {Q:VK}(I:Inv X pins σ H s)(h:CE X.stack X.prog X.w H s Q u s'):EP X pins σ Q u s':=by
 obtain⟨v,H',os,bare,un,hok,r,q⟩:=h
 obtain⟨hh,g,d,t,os'⟩:=s'
 obtain rfl:os'=s.os:=os
 exact⟨v,H',I.call (h':=hh) (g':=g) (d':=d) (t':=t) (ch:=[]) un hok bare (fun b z=>absurd z (by simp)),r,q⟩
end
noncomputable def tCall (sp:Sp)(dvs:List V)(E:XK)(t:TA):TE:=fun σ H Q=>t σ H fun vs H1=>sp (vs++dvs) H1 Q E
noncomputable def Binds (K:W.Frag)(fd:FuncData)(ps:List Str)(ds:List Value):Prop:=
 ∀(s:Shared) (us:List Value),K.In s.heap->(us++ds).length=ps.length->BindsTo s fd ⟨us,[]⟩ (ps.zip (us++ds))
theorem Binds.all (h:∀us:List Value,us.length=ps.length->bindArgs fd ⟨us,[]⟩=pure (ps.zip us)):Binds K fd ps []:=fun s us _ hl=>by
 rw[List.append_nil]at hl ⊢
 exact .of_eq (h us hl)
noncomputable def znX (CX:CXT)(X:Cx)(E:XK):Prop:=∀(pins:List (Addr×Obj)) (σ:St) (H:Hp) (s:Shared) (e:Value) (s':Shared),Inv X pins σ H s->CX X.stack H s E e s'->X.xe e s'
section
variable {X:Cx} {CX:CXT} {k:Nat} {f C:Addr} {fd:FuncData} {ps:List Str} {sp:Sp} {dvs:List V} {ds:List Value} {E:XK} {x m:Str} {p pos apos:Pos} {e o:Expr} {es:List Expr} {ta:TE} {t:TA}
theorem run_fn {Q:VK}(F:FnOk X.prog X.w X.K X.mg X.base CX k f fd ps sp)(hr:Room k X.A)(hb:Binds X.K fd ps ds)(hd:Vals dvs ds)(hx:znX CX X E)
  (I:Inv X pins σ H s) (r:Vals vs us) (h:sp (vs++dvs) H Q E):wpAny (model X.prog X.w) X.A (call (.ref f) us) (EP X pins σ Q) X.xe s:=by
 have r2:Vals (vs++dvs) (us++ds):=r.append hd
 have hl:(us++ds).length=ps.length:=by rw[<-r2.length];exact F.len _ _ _ _ h
 refine wpAny_call (codeAny_mono (F.run X.A X.stack s H ⟨us,[]⟩ (us++ds) (vs++dvs) Q E hr I.env0 (hb s us I.kIn hl) r2 h) fun r s' hq=>?_)
 cases r with
 |error e=>exact hx pins σ H s e s' I hq
 |ok fl=>
  cases fl with
  |ret u=>exact I.after hq
  |next=>exact False.elim hq
  |brk=>exact False.elim hq
  |cont=>exact False.elim hq
theorem zkA (F:FnOk X.prog X.w X.K X.mg X.base CX k f fd ps sp)(hr:Room k X.A)(hg:Gl X x)(hm:X.mg x=some (.ref f))(hk:W.keepIn X.K (.ref f)=true)(hb:Binds X.K fd ps ds)(hd:Vals dvs ds)(hx:znX CX X E)
  (ha:PA X (e::es) t) (hdb:autoParam ((x==("__debug__":Str))=false) zu1._auto_1) (he:autoParam (starEach (e::es) X.env=(false,eval e X.env)::starEach es X.env) zu2._auto_1) (hpl:autoParam ((backTo pos (starEach es X.env)).any (·.1)=false) zu2._auto_1):
  PE X (.Call (.Name x p) (e::es) [] pos) (tCall sp dvs E t):=by
 intro pins s σ H Q I h
 refine wpAny_Call_Name_kw (ld_glob I hg hm ?_ hdb)
 refine W.callWith_K (h₀:=X.base) I.ok.mod.kin hk (thn (ha pos pins s σ H _ I h) fun us s1 ⟨vs,H1,I1,r,q⟩=>⟨I1.kIn,?_⟩) he hpl
 exact run_fn F hr hb hd hx I1 r q
end
structure FnScope (N P:List Str) (sc:Scope):Prop where
 kind:sc.kind= .function
 co:sc.isCoroutine=false
 gen:sc.isGenerator=false
 nd:N.Nodup
 pre:N.take P.length=P
 par:∀x∈P,sc.names.lookup x=some .local\/sc.names.lookup x=some .cell
 nofree:∀y∈sc.names,y.2≠ .free
theorem zjR:∀{binds:List (Str×Value)} {m:Str->Option Value},(∀v,(x,v)∉binds)->bindL kindOf binds m x=m x
 |[],_,_=>rfl
 |(n,v)::r,m,h=>by
  unfold bindL
  rw[zjR fun w hw=>h w (List.mem_cons_of_mem _ hw)]
  split
  ·have:x≠n:=by rintro rfl;exact h v List.mem_cons_self
   simp[this]
  ·rfl
theorem zjX:∀{binds:List (Str×Value)} {m:Str->Option Value},(∀v,(x,v)∉binds)->bindC kindOf binds m x=m x
 |[],_,_=>rfl
 |(n,v)::r,m,h=>by
  unfold bindC
  rw[zjX fun w hw=>h w (List.mem_cons_of_mem _ hw)]
  split
  ·rfl
  ·have:x≠n:=by rintro rfl;exact h v List.mem_cons_self
   simp[this]
theorem zj9 {v:Value}:∀{P:List Str} {vs:List Value} {i:Nat} {m:Str->Option Value},P.Nodup->P[i]? =some x->vs[i]? =some v->kindOf x=some .local->
  bindL kindOf (P.zip vs) m x=some v
 |[],_,_,_,_,h,_,_=>by simp at h
 |_::_,[],_,_,_,_,h,_=>by simp at h
 |p::P,w::vs,0,m,nd,h1,h2,hk=>by
  simp at h1 h2;subst h1;subst h2
  show bindL kindOf ((p,w)::P.zip vs) m p=_
  unfold bindL
  rw[zjR fun v hv=>(List.nodup_cons.mp nd).1 (List.of_mem_zip hv).1,if_pos hk]
  simp
 |p::P,w::vs,i+1,m,nd,h1,h2,hk=>by
  show bindL kindOf ((p,w)::P.zip vs) m x=_
  unfold bindL
  exact zj9 (i:=i) (List.nodup_cons.mp nd).2 (by simpa using h1) (by simpa using h2) hk
theorem zjy {v:Value}:∀{P:List Str} {vs:List Value} {i:Nat} {m:Str->Option Value},P.Nodup->P[i]? =some x->vs[i]? =some v->kindOf x≠some .local->
  bindC kindOf (P.zip vs) m x=some v
 |[],_,_,_,_,h,_,_=>by simp at h
 |_::_,[],_,_,_,_,h,_=>by simp at h
 |p::P,w::vs,0,m,nd,h1,h2,hk=>by
  simp at h1 h2;subst h1;subst h2
  show bindC kindOf ((p,w)::P.zip vs) m p=_
  unfold bindC
  rw[zjX fun v hv=>(List.nodup_cons.mp nd).1 (List.of_mem_zip hv).1,if_neg hk]
  simp
 |p::P,w::vs,i+1,m,nd,h1,h2,hk=>by
  show bindC kindOf ((p,w)::P.zip vs) m x=_
  unfold bindC
  exact zjy (i:=i) (List.nodup_cons.mp nd).2 (by simpa using h1) (by simpa using h2) hk
noncomputable def start (N:List Str)(vs:List V):St:=vs.map some++List.replicate (N.length-vs.length) none
noncomputable def cxOf (CX:CXT)(P:Program)(w:World)(K:W.Frag)(mg:Str->Option Value)(base:Heap)(N:List Str)(qual:Str)(scope:Scope)(f:Addr)(cd:Value)(A:Around)(outer:List Env)(s:Shared)(H:Hp)(E:XK):Cx where
 prog:=P
 w:=w
 K:=K
 mg:=mg
 base:=base
 A:=A.deeper (envOfC qual scope s.heap.objs.size f cd)
 N:=N
 s₀:=s
 H₀:=H
 env:=envOfC qual scope s.heap.objs.size f cd
 outer:=outer
 stack:=envOfC qual scope s.heap.objs.size f cd::outer
 ex:=[]
 calm:=true
 fn:=fun _=>true
 pn:=[]
 xe:=fun e s'=>wpAny (model P w) (A.deeper (envOfC qual scope s.heap.objs.size f cd)) (leaving (envOfC qual scope s.heap.objs.size f cd) e) (fun _ s''=>CX outer H s E e s'') (fun e' s''=>CX outer H s E e' s'') s'
theorem zlc (h:sc.names.lookup x=some .cell):∃c,(cellsFrom n sc.names []).lookup x=some c:=by
 have q:=W.cellsFrom_some sc.names n [] (.inl h)
 exact Option.isSome_iff_exists.mp q
theorem zm7 {P:Program}{f:Addr}{s s1:Shared}{E:XK}
  (S:FnScope N ps scope) (hd:A.handled=none) (e0:Env0 P w K mg base A outer s H) (hl:vs.length=ps.length) (r:Vals vs us)
  (x:InCallC s s.heap.objs.size (bindL (envOfC qual scope s.heap.objs.size f cd).kindOf (ps.zip us) fun _=>none) (cellsFrom (s.heap.objs.size+1) scope.names []) (bindC (envOfC qual scope s.heap.objs.size f cd).kindOf (ps.zip us) fun _=>none) s1):
  Inv (cxOf CX P w K mg base N qual scope f cd A outer s H E) [] (start N vs) H s1:=by
 have hpl:ps.length<=N.length:=by have:=congrArg List.length S.pre;rw[List.length_take]at this;lia
 obtain⟨h1,tk,rfl,hk⟩:=x.done
 have noA:∀b:Addr,b∉(cxOf CX P w K mg base N qual scope f cd A outer s H E).ex:=fun b z=>absurd (show b∈([]:List Addr)from z) (by simp)
 refine⟨⟨e0.mod,S.kind,rfl,rfl,Nat.le_refl _,fun y z c h1 h2=>?_,fun y hy=>?_,fun y c _ h=>?_,fun _=>hd,Around.frames_deeper e0.frames,.inr ⟨rfl,rfl⟩,fun b z=>absurd z (noA b),e0.bs,e0.bsz,fun b _ _=>noA b,fun b z=>absurd z (noA b),e0.funs,e0.frf⟩,
  rfl,e0.bare,Un.kept hk,⟨_,x.toInCall.ns,fun i y v h1 h2 h3=>?_⟩,fun y c h=>⟨_,x.cell y c h⟩,e0.hok.fresh (Nat.le_refl _),fun y c h=>?_,fun p hp=>absurd (show p∈([]:List (Addr×Obj))from hp) (by simp),e0.hok.kept hk,?_⟩
 ·exact name_of_addr x.apart (PySem.mem_of_lookup h1) (PySem.mem_of_lookup h2)
 ·have hy:scope.names.lookup y=some .cell\/scope.names.lookup y=some .free:=hy
  rcases hy with hy|hy
  ·exact zlc hy
  ·exact absurd rfl (S.nofree _ (PySem.mem_of_lookup hy))
 ·exact Nat.le_of_lt (x.above y c (PySem.mem_of_lookup h))
 ·have hi:i<vs.length:=by
   unfold start at h2
   by_cases hi:i<vs.length
   ·exact hi
   ·rw[List.getElem?_append_right (by simpa using hi)]at h2
    rw[List.getElem?_replicate]at h2
    split at h2<;>cases h2
  have ha:vs[i]? =some v:=by
   unfold start at h2
   rw[List.getElem?_append_left (by simpa using hi),List.getElem?_map]at h2
   cases e:vs[i]? with
   |none=>rw[e]at h2;cases h2
   |some a=>rw[e]at h2;cases h2;rfl
  obtain⟨u,hu,rv⟩:=r.get ha
  have hp:ps[i]? =some y:=by
   rw[<-S.pre,List.getElem?_take_of_lt (by lia)];exact h1
  have ndP:ps.Nodup:=by rw[<-S.pre];exact S.nd.sublist (List.take_sublist _ _)
  refine⟨u,rv,?_⟩
  rcases S.par y (List.mem_of_getElem? hp)with k|k
  ·exact .inl ⟨k,zj9 ndP hp hu k⟩
  ·obtain⟨c,e⟩:=zlc (n:=s.heap.objs.size+1) k
   refine .inr ⟨.inl k,c,e,?_⟩
   have q:=x.cell y c e
   rw[zjy ndP hp hu (by show scope.names.lookup y≠_;rw[k];decide)]at q
   exact q
 ·exact e0.hok.fresh (Nat.le_of_lt (x.above y c (PySem.mem_of_lookup h)))
 ·unfold start
  show _=N.length
  rw[List.length_append,List.length_map,List.length_replicate]
  lia
theorem fn_of {P:Program}{f:Addr}{name qual:Str}{dV kV doc pm cdv ct oc:Value}{an od:Option Addr}
  {osl:Array (Option Value)} {N ps:List Str} {sp:Sp} (lk:K.lookup f=some ⟨oc,od,.func (W.fnOf name qual params body scope dV kV doc pm an cdv ct),osl⟩) (hcd:W.codeIn K cdv qual=true) (S:FnScope N ps scope)
  (len:∀vs H Q E,sp vs H Q E->vs.length=ps.length)
  (hbody : ∀ (A : Around) (outer : List Env) (s : Shared) (H : Hp) (vs : List V) (Q : VK) (E : XK), Room k (A.deeper (envOfC qual scope s.heap.objs.size f cdv)) -> sp vs H Q E ->
   ∃t,PSs (cxOf CX P w K mg base N qual scope f cdv A outer s H E) body t/\t {nx:=fun _ H'=>Q .non H',rt:=Q} (start N vs) H):
  FnOk P w K mg base CX (k+1) f (W.fnOf name qual params body scope dV kV doc pm an cdv ct) ps sp:=by
 refine⟨len,fun A outer s H args us vs Q E hr e0 hb r hsp=>?_⟩
 have hl:=len _ _ _ _ hsp
 have KX:K.In s.heap:=e0.mod.kin.keeps fun b o e=>(e0.bs b o e).1
 have lim:s.heap.NoLimit:=e0.mod.nolimit.keeps fun b o e=>(e0.bs b o e).1
 have hkind:∀y∈ps.zip us,scope.names.lookup y.1=some .local\/(scope.names.lookup y.1=some .cell/\((cellsFrom (s.heap.objs.size+1) scope.names []).lookup y.1).isSome=true):=fun⟨n,v⟩ hy=>by
  rcases S.par n (List.of_mem_zip hy).1 with q|q
  ·exact .inl q
  ·exact .inr ⟨q,W.cellsFrom_some _ _ _ (.inl q)⟩
 refine codeAny_call_function hr.depth (KX _ _ lk) rfl S.co S.gen rfl (W.codeRec_of KX hcd) (hb _ _ _ _ ?_)
 refine wpAny_newFunctionEnv_cells S.kind hkind fun env he s1 x=>?_
 subst he
 refine⟨lim.keeps x.toInCall.keep,codeAny_func ?_⟩
 obtain⟨t,ht,hq⟩:=hbody A outer s H vs Q E (hr.deeper _) hsp
 have I:Inv (cxOf CX P w K mg base N qual scope f cdv A outer s H E) [] (start N vs) H s1:=zm7 S hr.hd e0 hl r x
 refine wpAny_mono (ht [] s1 (start N vs) H _ I hq) (fun fl s' hs=>?_) fun e s' hs=>hs
 have fin:∀{σ':St} {H':Hp} {v:V} {u:Value},Inv (cxOf CX P w K mg base N qual scope f cdv A outer s H E) [] σ' H' s'->RelV v u->Q v H'->CE outer P w H s Q u s':=
  fun{σ' H' v u} J rv q=>⟨v,H',J.os,J.bare,J.base,J.hok,rv,q⟩
 cases fl with
 |ret u=>
  obtain⟨v,σ',H',J,rv,q⟩:=hs
  exact fin J rv q
 |next=>
  obtain⟨σ',H',J,q⟩:=hs
  exact fin (v:=V.non) (u:=Value.none) J rfl q
 |brk=>
  obtain⟨_,_,_,q⟩:=hs
  exact False.elim q
 |cont=>
  obtain⟨_,_,_,q⟩:=hs
  exact False.elim q
section
variable {X:Cx} {x:Str} {p pos:Pos} {e:Expr} {es:List Expr} {t:TA} {id T:String} {r:List V->Hp->VK->Prop}
noncomputable def tCB (r:List V->Hp->VK->Prop)(t:TA):TE:=fun σ H Q=>t σ H fun vs H1=>r vs H1 Q
theorem zhg (hc:zeT X (.builtin id) r)(hg:Gl X x)(hm:X.mg x=none)(hv:bootBuiltins x=some (.builtin id))(ha:PA X (e::es) t)(hn:autoParam (x≠"__name__") zu1._auto_1)(hdb:autoParam ((x==("__debug__":Str))=false) zu1._auto_1)
  (he:autoParam (starEach (e::es) X.env=(false,eval e X.env)::starEach es X.env) zu2._auto_1) (hpl:autoParam ((backTo pos (starEach es X.env)).any (·.1)=false) zu2._auto_1):PE X (.Call (.Name x p) (e::es) [] pos) (tCB r t):=by
 intro pins s σ H Q I h
 refine wpAny_Call_Name_kw (zgZ I hg hm hv ?_ hn hdb)
 exact PyProof.Rows.callWith_builtin1 (thn (ha pos pins s σ H _ I h) fun us s1 ⟨vs,H1,I1,r1,q1⟩=>hc pins s1 σ H1 vs us Q I1 r1 q1) he hpl
theorem zhP (hc:zeT X (.type T) r)(hg:Gl X x)(hm:X.mg x=none)(hv:bootBuiltins x=some (.type T))(ha:PA X (e::es) t)(hn:autoParam (x≠"__name__") zu1._auto_1)(hdb:autoParam ((x==("__debug__":Str))=false) zu1._auto_1)
  (he:autoParam (starEach (e::es) X.env=(false,eval e X.env)::starEach es X.env) zu2._auto_1) (hpl:autoParam ((backTo pos (starEach es X.env)).any (·.1)=false) zu2._auto_1):PE X (.Call (.Name x p) (e::es) [] pos) (tCB r t):=by
 intro pins s σ H Q I h
 refine wpAny_Call_Name_kw (zgZ I hg hm hv ?_ hn hdb)
 exact PyProof.Rows.callWith_type1 (thn (ha pos pins s σ H _ I h) fun us s1 ⟨vs,H1,I1,r1,q1⟩=>hc pins s1 σ H1 vs us Q I1 r1 q1) he hpl
end
end L2
namespace HT
open PyProof.Rows PySem
noncomputable def ziL:List Int->List Int->Bool
 |[],[]=>false
 |[],_::_=>true
 |_::_,[]=>false
 |x::xs,y::ys=>if x=y then ziL xs ys else decide (x<y)
theorem ze4 (x y:Int)(xs ys:List Int):ziL (x::xs) (y::ys)=if x=y then ziL xs ys else decide (x<y):=rfl
section
variable {prog:Program} {w:World} {A:Around} {E:Value->Shared->Prop} {s:Shared}
theorem cat_tup {t b:Addr}{vs ws:List Value}{Q:Value->Shared->Prop}(ht:IsTup s.heap t vs.toArray)(hb:IsTup s.heap b ws.toArray)(hv:vs≠[])
  (h1:ws=[]->Q (.ref t) s) (h2:ws≠[]->Q (.ref s.heap.objs.size) {s with heap:=s.heap.push {cls:= .type "tuple",data:= .seq (vs++ws).toArray}})
  (hsz:vs.length+ws.length<=sizeLine):wpAny (model prog w) A (binaryOp .Add (.ref t) (.ref b)) Q E s:=by
 obtain⟨⟨cls,dd,data,sl⟩,ho,hc,n,hd⟩:=id ht
 obtain⟨⟨cls2,dd2,data2,sl2⟩,ho2,hc2,n2,hd2⟩:=id hb
 simp only at hc hd hc2 hd2
 subst hc hd hc2 hd2
 have e:vs.toArray++ws.toArray=(vs++ws).toArray:=by simp
 by_cases hw:ws=[]
 ·exact concat_meets ⟨_,ho,rfl⟩ ⟨_,ho2,rfl⟩ noFill_tuple_add seq_tuple_add PySem.F.slot_tuple_add PySem.F.entry_tuple_add (PySem.F.args_tuple_add_2 _ _)
   (tuple_addW1 t b vs.toArray ws.toArray n n2 dd dd2 sl sl2 (by simpa using hv) (by simp[hw])) ⟨ho,ho2,h1 hw⟩
 ·refine concat_meets ⟨_,ho,rfl⟩ ⟨_,ho2,rfl⟩ noFill_tuple_add seq_tuple_add PySem.F.slot_tuple_add PySem.F.entry_tuple_add (PySem.F.args_tuple_add_2 _ _)
   (tuple_addW2 t b vs.toArray ws.toArray n n2 dd dd2 sl sl2 (by simpa using hv) (by simpa using hw) (by rw[List.size_toArray,List.size_toArray];exact hsz)) ⟨ho,ho2,?_⟩
  rw[e]
  exact h2 hw
noncomputable def sIx (n d:Nat):Option Int->Nat
 |none=>d
 |some v=>if v<0 then(v+(n:Int)).toNat else min v.toNat n
theorem zlp (n d:Nat):sIx n d none=d:=rfl
theorem zje (n d k:Nat):sIx n d (some (k:Int))=min k n:=by
 show(if(k:Int)<0 then((k:Int)+(n:Int)).toNat else min (k:Int).toNat n)=min k n
 rw[if_neg (by lia),Int.toNat_natCast]
theorem sIx_le (n d:Nat)(hd:d<=n)(o:Option Int):sIx n d o<=n:=by
 cases o with
 |none=>exact hd
 |some v=>
  show(if v<0 then(v+(n:Int)).toNat else min v.toNat n)<=n
  by_cases hv:v<0
  ·rw[if_pos hv];lia
  ·rw[if_neg hv];exact Nat.min_le_right _ _
theorem zmN (v:Int)(n d:Nat):(if v<0 then max (v+(n:Int)) 0 else min v (n:Int))=((sIx n d (some v):Nat):Int):=by
 show(if v<0 then max (v+(n:Int)) 0 else min v (n:Int))=(((if v<0 then(v+(n:Int)).toNat else min v.toNat n):Nat):Int)
 by_cases hv:v<0
 ·simp only[if_pos hv];lia
 ·simp only[if_neg hv];lia
theorem zmt (lo hi:Option Int)(n:Nat):Builtin.Slice.sliceAdjust lo hi 1 (n:Int)=(((sIx n 0 lo:Nat):Int),((sIx n n hi:Nat):Int)):=by
 have h1:¬((1:Int)<0):=by lia
 unfold Builtin.Slice.sliceAdjust
 simp only[h1,if_false]
 refine Prod.ext ?_ ?_
 ·cases lo with
  |none=>rfl
  |some v=>exact zmN v n 0
 ·cases hi with
  |none=>rfl
  |some v=>exact zmN v n n
theorem zmq (i j:Nat):Builtin.Slice.slicePlaces (i:Int) (j:Int) 1=j-i:=by
 unfold Builtin.Slice.slicePlaces
 have h1:(1:Int)>0:=by lia
 simp only[h1,if_true,Int.ediv_one]
 split<;>lia
theorem zib {v:Value}{o:Option Int}{Q:Option Int->Shared->Prop}(p:IsPart v o)(h:Q o s):wpAny (model prog w) A (Builtin.Slice.slicePartIndex v) Q E s:=by
 cases p with
 |none=>exact slicePart_none h
 |int i t=>exact slicePart_int h
theorem zek {sl:Addr}{vl vu:Value}{lo hi:Option Int}{n:Nat}{Q:Int×Int×Nat->Shared->Prop}(hs:s.heap.IsSliceOf sl vl vu .none)(pl:IsPart vl lo)(pu:IsPart vu hi)
  (h:Q (((sIx n 0 lo:Nat):Int),1,sIx n n hi-sIx n 0 lo) s):wpAny (model prog w) A (Builtin.Slice.sliceApplied (.ref sl) (pure (n:Int))) Q E s:=by
 obtain⟨os,hos,hcs,hds⟩:=id hs
 unfold Builtin.Slice.sliceApplied Builtin.Slice.sliceFields
 refine wpAny_bind (wpAny_bind (wpAny_field hos hds (x:=vl) rfl (wpAny_bind (wpAny_field hos hds (x:=vu) rfl (wpAny_bind (wpAny_field hos hds (x:= .none) rfl (wpAny_pure ?_)))))))
 refine wpAny_bind (slicePart_none ?_)
 show wpAny _ _ (if((1:Int)==0)=true then _ else _) _ _ s
 rw[if_neg (by decide)]
 refine wpAny_bind (zib pl (wpAny_bind (zib pu (wpAny_bind (wpAny_pure ?_)))))
 show wpAny _ _ (match Builtin.Slice.sliceAdjust lo hi 1 (n:Int)with|(lo,hi)=>pure (lo,(1:Int),Builtin.Slice.slicePlaces lo hi 1)) _ _ s
 rw[zmt lo hi n]
 show wpAny _ _ (pure (((sIx n 0 lo:Nat):Int),(1:Int),Builtin.Slice.slicePlaces ((sIx n 0 lo:Nat):Int) ((sIx n n hi:Nat):Int) 1)) _ _ s
 rw[zmq]
 exact wpAny_pure h
theorem pick_gen (xs:Array Value)(i k:Nat):((List.range k).filterMap fun(m:Nat)=>xs[((i:Int)+(m:Int)*1).toNat]?).toArray=((xs.toList.drop i).take k).toArray:=by
 have e:(fun(m:Nat)=>xs[((i:Int)+(m:Int)*1).toNat]?)=fun m=>xs[i+m]?:=by
  funext m
  have:((i:Int)+(m:Int)*1).toNat=i+m:=by lia
  rw[this]
 rw[e]
 have:=pick_run xs i k
 rw[List.filterMap_map]at this
 have e2:((fun x=>xs[x]?) ∘ fun x=>i+x)=fun m=>xs[i+m]?:=rfl
 rw[e2]at this
 rw[this]
theorem zgF {t sl:Addr}{items:Array Value}{vl vu:Value}{lo hi:Option Int}{Q:Value->Shared->Prop}(ht:IsTup s.heap t items)(hs:s.heap.IsSliceOf sl vl vu .none)(pl:IsPart vl lo)(pu:IsPart vu hi)
  (hw:¬(sIx items.size 0 lo=0/\sIx items.size items.size hi=items.size))
  (h:Q (.ref s.heap.objs.size) {s with heap:=s.heap.push {cls:= .type "tuple",data:= .seq ((items.toList.drop (sIx items.size 0 lo)).take (sIx items.size items.size hi-sIx items.size 0 lo)).toArray}})
  (hsz:items.size<=sizeLine):wpAny (model prog w) A (getItem (.ref t) (.ref sl)) Q E s:=by
 have htake:sizeOk (.seq ((items.toList.drop (sIx items.size 0 lo)).take (sIx items.size items.size hi-sIx items.size 0 lo)).toArray):=by
  show((items.toList.drop (sIx items.size 0 lo)).take (sIx items.size items.size hi-sIx items.size 0 lo)).toArray.size<=sizeLine
  rw[List.size_toArray,List.length_take,List.length_drop,Array.length_toList]
  lia
 have hj:sIx items.size items.size hi<=items.size:=sIx_le _ _ (Nat.le_refl _) hi
 obtain⟨os,hos,hcs,hds⟩:=id hs
 have hTs:s.TypeIs (.ref sl) "slice":=⟨os,hos,hcs⟩
 unfold getItem
 try with_reducible refine wpAny_holding ?_
 first|refine wpAny_bind (wpAny_pure ?_)|skip
 refine wpAny_bind (wpAny_sequenceKey ht.typeIs (by decide) ?_)
 refine wpAny_bind (wpAny_callSpecial?_slot (name:=Str.ofString "__getitem__") ht.typeIs PyProof.Rows.slot_tuple_getitem
  (wpAny_call_entry PyProof.Rows.slot_tuple_getitem ht.typeIs entry_tuple_getitem ?_ (args_tuple_getitem _ _)))
 show wpAny _ _ (Builtin.Tuple.tupleItemsOf (.ref t)>>=_) _ _ s
 refine wpAny_bind (tupleItemsOf_ ht ?_)
 refine wpAny_bind (wpAny_typeOf hTs ?_)
 rw[if_pos (by decide)]
 refine wpAny_bind (zek hs pl pu ?_)
 have hno:¬((((sIx items.size 0 lo:Nat):Int)==0&&(1:Int)==1&&(sIx items.size items.size hi-sIx items.size 0 lo)==items.size)=true):=by
  intro q
  rw[Bool.and_eq_true,Bool.and_eq_true]at q
  have q1:((sIx items.size 0 lo:Nat):Int)=0:=eq_of_beq q.1.1
  have q2:sIx items.size items.size hi-sIx items.size 0 lo=items.size:=eq_of_beq q.2
  exact hw ⟨by lia,by lia⟩
 show wpAny _ _ (if(((sIx items.size 0 lo:Nat):Int)==0&&(1:Int)==1&&(sIx items.size items.size hi-sIx items.size 0 lo)==items.size)=true then _ else _) _ _ s
 rw[if_neg hno,pick_gen]
 first
  |exact wpAny_bind (m:=Builtin.Tuple.tupleExact _) (wpAny_newObj_type (wpAny_pure ⟨_,rfl,wpAny_pure h⟩) htake)
  |exact wpAny_bind (m:=Builtin.Tuple.tupleExact _) (wpAny_newObj_type (wpAny_bind (wpAny_pure (wpAny_pure ⟨_,rfl,wpAny_pure h⟩))) htake)
  |exact wpAny_bind (wpAny_bind (m:=Builtin.Tuple.tupleExact _) (wpAny_newObj_type (wpAny_pure (wpAny_pure ⟨_,rfl,wpAny_pure h⟩)) htake))
  |exact wpAny_bind (wpAny_bind (m:=Builtin.Tuple.tupleExact _) (wpAny_newObj_type (wpAny_pure ⟨_,rfl,wpAny_pure h⟩) htake))
end
end HT
namespace L2
open PyProof.Rows PySem PySem.Spec
variable {ns:List Int} {r r':V->Option Int->Option Int->Hp->VK->Prop} {xs:List V} {us its its':List Value} {n j t':Nat} {i:Int} {pins:List (Addr×Obj)} {σ:St} {H:Hp} {s:Shared} {p:Addr} {f:Array Value->Array Value} {A:Around} {y x:V} {u v:Value}
noncomputable abbrev TO:=St->Hp->(Option Int->Hp->Prop)->Prop
noncomputable def PO (X:Cx)(e:Option Expr)(t:TO):Prop:=
 ∀(pins:List (Addr×Obj)) (s:Shared) (σ:St) (H:Hp) (Q:Option Int->Hp->Prop),Inv X pins σ H s->t σ H Q->
  wpAny (model X.prog X.w) X.A (evalPart e X.env) (fun u s'=>∃o H',Inv X pins σ H' s'/\IsPart u o/\Q o H') X.xe s
noncomputable def tNoPart:TO:=fun _ H Q=>Q none H
noncomputable def tPart (t:TE):TO:=fun σ H Q=>t σ H fun x H1=>∃i,x= .int i/\Q (some i) H1
theorem zgq:∀{us:List Value},Vals (ns.map V.int) us->IntsAre us ns:=by
 induction ns with
 |nil=>intro us r;rw[List.map_nil]at r;cases r;exact .nil
 |cons n ns ih=>
  intro us r
  rw[List.map_cons]at r
  cases r with
  |cons r1 r2=>
   obtain⟨t,e⟩:=r1
   subst e
   exact .cons n t (ih r2)
section
variable {X:Cx} {e:Expr} {te:TE} {lo hi:Option Expr} {tl th:TO} {pos p2:Pos}
theorem po_none:PO X none tNoPart:=by
 intro pins s σ H Q I h
 rw[evalPart_none]
 exact wpAny_pure ⟨none,H,I,.none,h⟩
theorem po_some (h:PE X e te):PO X (some e) (tPart te):=by
 intro pins s σ H Q I hw
 rw[evalPart_some]
 refine thn (h pins s σ H _ I hw) fun u s1 ⟨x,H1,I1,r1,q1⟩=>?_
 obtain⟨i,rfl,q⟩:=q1
 obtain⟨t,rfl⟩:=r1
 exact⟨some i,H1,I1,.int i t,q⟩
noncomputable def SlR (X:Cx)(r:V->Option Int->Option Int->Hp->VK->Prop):Prop:=
 ∀(pins:List (Addr×Obj)) (s:Shared) (σ:St) (H:Hp) (x:V) (v vl vu:Value) (lo hi:Option Int) (sl:Addr) (Q:VK),Inv X pins σ H s->RelV x v->s.heap.IsSliceOf sl vl vu .none->IsPart vl lo->IsPart vu hi->r x lo hi H Q->
  ∃T id,typeLookup (.type T) "__getitem__"=pure (some (.builtin id))/\s.TypeIs v T/\wpAny (model X.prog X.w) X.A (getItem v (.ref sl)) (EP X pins σ Q) X.xe s
theorem SlR.or (h:SlR X r)(h':SlR X r'):SlR X (fun x lo hi H Q=>r x lo hi H Q\/r' x lo hi H Q):=by
 intro pins s σ H x v vl vu lo hi sl Q I rx hs pl pu q
 rcases q with q|q
 ·exact h pins s σ H x v vl vu lo hi sl Q I rx hs pl pu q
 ·exact h' pins s σ H x v vl vu lo hi sl Q I rx hs pl pu q
noncomputable def tSl (r:V->Option Int->Option Int->Hp->VK->Prop)(te:TE)(tl th:TO):TE:=fun σ H Q=>te σ H fun x H1=>tl σ H1 fun l H2=>th σ H2 fun u H3=>r x l u H3 Q
theorem zlh (hr:SlR X r)(he:PE X e te)(hl:PO X lo tl)(hu:PO X hi th):PE X (.Subscript e (.Slice lo hi none p2) pos) (tSl r te tl th):=by
 intro pins s σ H Q I h
 refine Subscript_ (thn (he pins s σ H _ I h) fun v s1 ⟨x,H1,I1,r1,q1⟩=>?_)
 refine wpAny_Slice (thn (hl pins s1 σ H1 _ I1 q1) fun vl s2 ⟨l,H2,I2,pl,q2⟩=>thn (hu pins s2 σ H2 _ I2 q2) fun vu s3 ⟨u,H3,I3,pu,q3⟩=>?_)
 rw[evalPart_none]
 refine wpAny_pure ?_
 have I4:Inv X pins σ H3 {s3 with heap:=s3.heap.push {cls:= .type "slice",data:= .fields #[vl,vu,.none]}}:=I3.kept (t':=s3.toks) fun b ob q=>Heap.get?_push_of_some _ q
 obtain⟨T,id,hT,ht,hg⟩:=hr pins {s3 with heap:=s3.heap.push {cls:= .type "slice",data:= .fields #[vl,vu,.none]}} σ H3 x v vl vu l u s3.heap.objs.size Q I4 r1 (Heap.IsSliceOf.new ..) pl pu q3
 show wpAny (model X.prog X.w) X.A (subscriptTail e (.Slice lo hi none p2) v (.ref s3.heap.objs.size)) (EP X pins σ Q) X.xe {s3 with heap:=s3.heap.push {cls:= .type "slice",data:= .fields #[vl,vu,.none]}}
 exact tail_any (ops:=[.ref s3.heap.objs.size,v]) ht hT hg (by with_unfolding_all rfl)
noncomputable def cutV (xs:List V)(lo hi:Option Int):List V:=(xs.drop (HT.sIx xs.length 0 lo)).take (HT.sIx xs.length xs.length hi-HT.sIx xs.length 0 lo)
theorem zhD (xs:List V)(lo hi:Option Int):(cutV xs lo hi).length<=xs.length:=by
 unfold cutV
 rw[List.length_take,List.length_drop]
 lia
noncomputable def rSlT (K:W.Frag):V->Option Int->Option Int->Hp->VK->Prop:=fun x lo hi H Q=>∃a xs,x= .ref a/\SqT K H a xs/\
 ¬(HT.sIx xs.length 0 lo=0/\HT.sIx xs.length xs.length hi=xs.length)/\∀p,H p=none->Q (.ref p) (upd H p (.tup (cutV xs lo hi)))
theorem sl_tup:SlR X (rSlT X.K):=by
 intro pins s σ H x v vl vu lo hi sl Q I rx hs pl pu h
 obtain⟨a,xs,rfl,hx,hw,q⟩:=h
 cases rx
 obtain⟨its,r,ht,hz⟩:=I.tuple hx
 have hlen:its.toArray.size=xs.length:=by rw[List.size_toArray];exact r.length.symm
 refine⟨"tuple",_,PyProof.Rows.slot_tuple_getitem.lookup,ht.typeIs,?_⟩
 refine HT.zgF ht hs pl pu (by rw[hlen];exact hw) ?_ (by rw[hlen];exact hz)
 rw[hlen]
 refine⟨.ref s.heap.objs.size,_,I.laid (t':=s.toks) (o:= .tup (cutV xs lo hi)) (fun b ob q=>Heap.get?_push_of_some _ q) (Nat.le_refl _) ?_,rfl,q _ (I.hok.fresh (Nat.le_refl _))⟩
 exact⟨Nat.le_trans (zhD xs lo hi) hz,_,(r.drop (HT.sIx xs.length 0 lo)).take (HT.sIx xs.length xs.length hi-HT.sIx xs.length 0 lo),IsTup.new _ _⟩
noncomputable def rCatT (K:W.Frag):R2:=fun x y H Q=>∃a b xs ys,x= .ref a/\y= .ref b/\SqT K H a xs/\SqT K H b ys/\xs≠[]/\xs.length+ys.length<=sizeLine/\
 (ys=[]->Q (.ref a) H)/\(ys≠[]->∀p,H p=none->Q (.ref p) (upd H p (.tup (xs++ys))))
theorem Vals.nil_iff (r:Vals xs us):us=[]↔xs=[]:=by
 cases r with
 |nil=>simp
 |cons _ _=>simp
theorem op_catT:OpR X (binaryOp .Add) (rCatT X.K):=by
 intro pins s σ H x y v u Q I rx ry h
 obtain⟨a,b,xs,ys,rfl,rfl,ha,hb,hx,hz,q1,q2⟩:=h
 cases rx
 cases ry
 obtain⟨its,r1,p1,_⟩:=I.tuple ha
 obtain⟨its2,r2,p2,_⟩:=I.tuple hb
 refine HT.cat_tup p1 p2 (fun z=>hx (r1.nil_iff.mp z)) (fun z=>⟨.ref a,H,I,rfl,q1 (r2.nil_iff.mp z)⟩) (fun z=>?_) (by rw[<-r1.length,<-r2.length];exact hz)
 refine⟨.ref s.heap.objs.size,_,I.laid (t':=s.toks) (o:= .tup (xs++ys)) (fun b ob q=>Heap.get?_push_of_some _ q) (Nat.le_refl _) ?_,rfl,q2 (fun w=>z (r2.nil_iff.mpr w)) _ (I.hok.fresh (Nat.le_refl _))⟩
 exact⟨by rw[List.length_append];exact hz,_,r1.append r2,IsTup.new _ _⟩
end
noncomputable def ixN (n:Nat)(i:Int):Option Nat:=if 0<=i then(if i<n then some i.toNat else none)else if-(n:Int)<=i then some (i+n).toNat else none
noncomputable def atI {α:Type}(xs:List α)(i:Int):Option α:=(ixN xs.length i).bind fun j=>xs[j]?
theorem zn5 {n:Nat}(h:ixN n i=some j):seqIndex? i n=some j/\j<n/\ -(n:Int)<=i/\i<n:=by
 unfold ixN at h
 by_cases h0:0<=i
 ·rw[if_pos h0]at h
  by_cases h1:i<n
  ·rw[if_pos h1]at h
   have e:i.toNat=j:=Option.some.inj h
   exact⟨by rw[seqIndex_of h0 h1,e],by lia,by lia,h1⟩
  ·rw[if_neg h1]at h;cases h
 ·rw[if_neg h0]at h
  by_cases h1: -(n:Int)<=i
  ·rw[if_pos h1]at h
   have e:(i+n).toNat=j:=Option.some.inj h
   exact⟨by rw[seqIndex_neg (by lia) h1,e],by lia,h1,by lia⟩
  ·rw[if_neg h1]at h;cases h
theorem zkV {α:Type}{xs:List α}{v:α}(h:atI xs i=some v):∃j,seqIndex? i xs.length=some j/\xs[j]? =some v/\j<xs.length/\ -(xs.length:Int)<=i/\i<xs.length:=by
 unfold atI at h
 cases e:ixN xs.length i with
 |none=>rw[e]at h;cases h
 |some j=>
  rw[e]at h
  obtain⟨h1,h2,h3,h4⟩:=zn5 e
  exact⟨j,h1,h,h2,h3,h4⟩
noncomputable def zi3 (b:Expr):Prop:=∀o i,subscripted b false o i=operate [o,i] (getItem o i)
noncomputable def IxR (X:Cx)(r:R2):Prop:=
 ∀(value slice:Expr) (pins:List (Addr×Obj)) (s:Shared) (σ:St) (H:Hp) (x y:V) (v u:Value) (Q:VK),Inv X pins σ H s->RelV x v->RelV y u->r x y H Q->
  subscripted slice false v u=operate [v,u] (getItem v u)->wpAny (model X.prog X.w) X.A (subscriptTail value slice v u) (EP X pins σ Q) X.xe s
noncomputable def MtR (X:Cx)(id:String)(r:V->List V->Hp->VK->Prop):Prop:=
 ∀(pins:List (Addr×Obj)) (s:Shared) (σ:St) (H:Hp) (x:V) (xs:List V) (v:Value) (us:List Value) (Q:VK),Inv X pins σ H s->RelV x v->Vals xs us->r x xs H Q->
  wpAny (model X.prog X.w) X.A (call (.builtin id) (v::us)) (EP X pins σ Q) X.xe s
section
variable {X:Cx} {a b:Expr} {ta tb:TE} {pos:Pos}
theorem IxR.or {r r':R2}(h:IxR X r)(h':IxR X r'):IxR X (fun x y H Q=>r x y H Q\/r' x y H Q):=by
 intro value slice pins s σ H x y v u Q I rx ry q hs
 rcases q with q|q
 ·exact h value slice pins s σ H x y v u Q I rx ry q hs
 ·exact h' value slice pins s σ H x y v u Q I rx ry q hs
theorem pe_ix {r:R2}(hr:IxR X r)(ha:PE X a ta)(hb:PE X b tb)(hs:zi3 b):PE X (.Subscript a b pos) (tOp r ta tb):=by
 intro pins s σ H Q I h
 exact Subscript_ (binT ha hb I h fun v u s2 x y H2 I2 rx ry q=>hr a b pins s2 σ H2 x y v u Q I2 rx ry q (hs _ _))
noncomputable def rIxL (K:W.Frag):R2:=fun x y H Q=>∃p xs i v,x= .ref p/\y= .int i/\SqL K H p xs/\atI xs i=some v/\Q v H
noncomputable def rIxT (K:W.Frag):R2:=fun x y H Q=>∃p xs i v,x= .ref p/\y= .int i/\SqT K H p xs/\atI xs i=some v/\Q v H
noncomputable def rIxS:R2:=fun x y H Q=>∃z i c,x= .str z/\y= .int i/\z.length<=sizeLine/\atI z.cps.toList i=some c/\Q (.str ⟨#[c]⟩) H
theorem ix_list:IxR X (rIxL X.K):=by
 intro value slice pins s σ H x y v u Q I rx ry h hs
 obtain⟨p,xs,i,z,rfl,rfl,hq,he,q⟩:=h
 cases rx
 obtain⟨t,rfl⟩:=ry
 obtain⟨its,r,pl,hz⟩:=I.list hq
 obtain⟨j,h1,h2,h3,h4,h5⟩:=zkV he
 obtain⟨w,ew,rw'⟩:=r.get h2
 have hl:=r.length
 have hn:=zil
 have fin:EP X pins σ Q w s:=⟨z,H,I,rw',q⟩
 by_cases h0:0<=i
 ·have hj:i.toNat=j:=by
   rw[seqIndex_of h0 h5]at h1
   exact Option.some.inj h1
  exact item_listR pl.isList h0 (by lia) (by rw[hj];simpa using ew) fin hs
 ·have hj:(i+(its.toArray.size:Int)).toNat=j:=by
   rw[seqIndex_neg (by lia) h4]at h1
   rw[List.size_toArray,<-hl]
   exact Option.some.inj h1
  exact subscriptTail_builtinR (x:=w) pl.isList.typeIs slot_list_getitem.lookup
   (wpAny_getItem_list_neg (Q:=fun r s'=>r=w/\EP X pins σ Q r s') pl.isList (by lia) (by rw[List.size_toArray]<;>lia) (by lia) (by rw[hj];simpa using ew) ⟨rfl,fin⟩) hs
theorem ix_tup:IxR X (rIxT X.K):=by
 intro value slice pins s σ H x y v u Q I rx ry h hs
 obtain⟨p,xs,i,z,rfl,rfl,hq,he,q⟩:=h
 cases rx
 obtain⟨t,rfl⟩:=ry
 obtain⟨its,r,pl,hz⟩:=I.tuple hq
 obtain⟨j,h1,h2,h3,h4,h5⟩:=zkV he
 obtain⟨w,ew,rw'⟩:=r.get h2
 have hl:=r.length
 have hn:=zil
 have fin:EP X pins σ Q w s:=⟨z,H,I,rw',q⟩
 exact subscriptTail_builtinR (x:=w) pl.typeIs slot_tuple_getitem.lookup
  (getItem_tuple (j:=j) (Q:=fun r s'=>r=w/\EP X pins σ Q r s') pl (by lia) (by lia) (by rw[List.size_toArray,<-hl];exact h1) (by simpa using ew) ⟨rfl,fin⟩) hs
theorem ix_str:IxR X rIxS:=by
 intro value slice pins s σ H x y v u Q I rx ry h hs
 obtain⟨z,i,c,rfl,rfl,hz,he,q⟩:=h
 obtain⟨t,rfl⟩:=rx
 obtain⟨t',rfl⟩:=ry
 obtain⟨j,h1,h2,h3,h4,h5⟩:=zkV he
 have hl:z.cps.toList.length=z.length:=by simp[Str.length]
 rw[hl]at h1 h4 h5
 have hn:=zil
 exact tail_any (typeIs_str s z t) slot_str_getitem.lookup (getItem_str (c:=c) (by
  have e1:decide (i< -(2^63:Int))=false:=decide_eq_false (by lia)
  have e2:decide (i>=2^63)=false:=decide_eq_false (by lia)
  rw[e1,e2,Bool.or_false]) (by rw[h1];simpa using h2) ⟨.str ⟨#[c]⟩,H,I.tok _,⟨_,rfl⟩,q⟩) hs
noncomputable def rIx (K:W.Frag):R2:=fun x y H Q=>rIxL K x y H Q\/rIxT K x y H Q\/rIxS x y H Q
theorem ix_seq:IxR X (rIx X.K):=ix_list.or (ix_tup.or ix_str)
theorem zmj (its:List Value)(n j:Nat)(u:Value):Obj.mapSeq (·.setIfInBounds j u) {cls:= .type "list",data:= .seq its.toArray n}={cls:= .type "list",data:= .seq (its.set j u).toArray n}:=by
 simp[Obj.mapSeq]
theorem Inv.lst (I:Inv X pins σ H s)(h:H p=some (.lst xs)):
  ∃(its:List Value) (n:Nat),Vals xs its/\s.heap.get? p=some {cls:= .type "list",data:= .seq its.toArray n}/\xs.length<=sizeLine:=by
 obtain⟨z,its,n,r,e⟩:=I.hok p _ h
 exact⟨its,n,r,e,z⟩
theorem Inv.lstUpd {xs ys:List V}{n n':Nat}{f:Obj->Obj}(I:Inv X pins σ H s)(h:H p=some (.lst xs))
  (ho:s.heap.get? p=some {cls:= .type "list",data:= .seq its.toArray n}) (hf:f {cls:= .type "list",data:= .seq its.toArray n}={cls:= .type "list",data:= .seq its'.toArray n'}) (r:Vals ys its') (hz:ys.length<=sizeLine) (t:Nat):
  Inv X pins σ (upd H p (.lst ys)) {s with heap:=s.heap.update p f,toks:=t}:=by
 have e:(s.heap.update p f).get? p=some {cls:= .type "list",data:= .seq its'.toArray n'}:=by
  rw[Heap.get?_update_self f ho (by rw[hf]<;>rfl),hf]
 refine I.write (x:=p) (e:=p) (by rw[h];trivial) (.inl rfl) (fun b u hb q=>(Heap.get?_update_other _ _ (Ne.symm hb)).trans q) ⟨_,e⟩ ?_
 exact⟨hz,its',n',r,e⟩
noncomputable def rSetL:V->V->V->Hp->(Hp->Prop)->Prop:=fun o i v H Q=>∃p xs k j,o= .ref p/\i= .int k/\H p=some (.lst xs)/\ixN xs.length k=some j/\Q (upd H p (.lst (xs.set j v)))
theorem set_list:PSet X rSetL:=by
 intro pins s σ H o i v ov iv u Q I ro ri rv h
 obtain⟨p,xs,k,j,rfl,rfl,hp,hj,q⟩:=h
 cases ro
 obtain⟨t,rfl⟩:=ri
 obtain⟨its,n,r,ho,hz⟩:=I.lst hp
 obtain⟨h1,h2,h3,h4⟩:=zn5 hj
 have hl:=r.length
 have hn:=zil
 have I':Inv X pins σ (upd H p (.lst (xs.set j v))) {s with heap:=s.heap.update p (Obj.mapSeq (·.setIfInBounds j u))}:=
  I.lstUpd hp ho (zmj its n j u) (r.set rv j) (by rw[List.length_set];exact hz) s.toks
 by_cases h0:0<=k
 ·have hk:k.toNat=j:=by
   rw[seqIndex_of h0 h4]at h1
   exact Option.some.inj h1
  exact W.ki_setAt ho h0 (by lia) (by rw[List.size_toArray,<-hl];exact h4) (by rw[hk];exact⟨_,I',q⟩)
 ·have hk:(k+(its.toArray.size:Int)).toNat=j:=by
   rw[seqIndex_neg (by lia) h3]at h1
   rw[List.size_toArray,<-hl]
   exact Option.some.inj h1
  exact W.ki_setBack ho (by lia) (by rw[List.size_toArray,<-hl];exact h3) (by lia) (by rw[hk];exact⟨_,I',q⟩)
theorem zju (lo hi:Option Int)(n:Nat):(sliceBounds lo hi none n).1=((HT.sIx n 0 lo:Nat):Int)/\(sliceBounds lo hi none n).2.1=((HT.sIx n n hi:Nat):Int)/\(sliceBounds lo hi none n).2.2=1:=by
 refine⟨?_,?_,rfl⟩
 ·cases lo with
  |none=>simp[sliceBounds,HT.sIx]
  |some i=>
   simp only[sliceBounds,HT.sIx,Option.getD_none,show(1:Int)>0 by decide,if_true]
   by_cases h:i<0
   ·simp only[h,if_true]<;>lia
   ·simp only[h,if_false]<;>lia
 ·cases hi with
  |none=>simp[sliceBounds,HT.sIx]
  |some i=>
   simp only[sliceBounds,HT.sIx,Option.getD_none,show(1:Int)>0 by decide,if_true]
   by_cases h:i<0
   ·simp only[h,if_true]<;>lia
   ·simp only[h,if_false]<;>lia
theorem zjd (its:List Value)(lo hi:Option Int):slicePick its.toArray lo hi none=((its.drop (HT.sIx its.length 0 lo)).take (HT.sIx its.length its.length hi-HT.sIx its.length 0 lo)).toArray:=by
 obtain⟨h1,h2,h3⟩:=zju lo hi its.toArray.size
 unfold slicePick
 rw[h1,h2,h3]
 simp only[sliceRange_one,pick_run,List.size_toArray]<;>rfl
noncomputable def rSlL (K:W.Frag):V->Option Int->Option Int->Hp->VK->Prop:=fun x lo hi H Q=>∃a xs,x= .ref a/\SqL K H a xs/\∀p,H p=none->Q (.ref p) (upd H p (.lst (cutV xs lo hi)))
theorem sl_list:SlR X (rSlL X.K):=by
 intro pins s σ H x v vl vu lo hi sl Q I rx hs pl pu h
 obtain⟨a,xs,rfl,hx,q⟩:=h
 cases rx
 obtain⟨its,r,ht,hz⟩:=I.list hx
 have hlen:=r.length
 refine⟨"list",_,slot_list_getitem.lookup,ht.isList.typeIs,?_⟩
 refine wpAny_getItem_list_slice ht.isList hs pl pu .none (by simp) ?_ (by rw[List.size_toArray]<;>lia)
 rw[zjd,<-hlen]
 refine⟨.ref s.heap.objs.size,_,I.laid (t':=s.toks) (o:= .lst (cutV xs lo hi)) (fun b ob q=>Heap.get?_push_of_some _ q) (Nat.le_refl _) ?_,rfl,q _ (I.hok.fresh (Nat.le_refl _))⟩
 exact⟨Nat.le_trans (zhD xs lo hi) hz,_,0,(r.drop (HT.sIx xs.length 0 lo)).take (HT.sIx xs.length xs.length hi-HT.sIx xs.length 0 lo),Heap.get?_push_size _ rfl⟩
noncomputable def zh2:V->Bool
 | .non=>true
 | .bl _=>true
 | .int _=>true
 | .str _=>true
 |_=>false
noncomputable def eqV:V->V->Bool
 | .non,.non=>true
 | .bl a,.bl b=>a==b
 | .bl a,.int b=>(if a then 1 else 0)==b
 | .int a,.bl b=>a==(if b then 1 else 0)
 | .int a,.int b=>a==b
 | .str a,.str b=>a==b
 |_,_=>false
theorem eqAt_V (ry:RelV y u)(rx:RelV x v)(fy:zh2 y=true)(fx:zh2 x=true):SeqAt.EqAt A s u v (eqV y x):=by
 cases y with
 |non=>
  cases ry
  cases x with
  |non=>cases rx;exact SeqAt.EqAt.same _
  |bl b=>cases rx;exact SeqAt.EqAt.none_bool b
  |int b=>obtain⟨t,rfl⟩:=rx;exact SeqAt.EqAt.none_int b t
  |str b=>obtain⟨t,rfl⟩:=rx;exact SeqAt.EqAt.none_str b t
  |_=>exact absurd (show false=true from fx) Bool.false_ne_true
 |bl a=>
  cases ry
  cases x with
  |non=>cases rx;exact SeqAt.EqAt.bool_none a
  |bl b=>cases rx;exact SeqAt.EqAt.bool_bool a b
  |int b=>obtain⟨t,rfl⟩:=rx;exact SeqAt.EqAt.bool_int a b t
  |str b=>obtain⟨t,rfl⟩:=rx;exact SeqAt.EqAt.bool_str a b t
  |_=>exact absurd (show false=true from fx) Bool.false_ne_true
 |int a=>
  obtain⟨t',rfl⟩:=ry
  cases x with
  |non=>cases rx;exact SeqAt.EqAt.int_none a t'
  |bl b=>cases rx;exact SeqAt.EqAt.int_bool a t' b
  |int b=>obtain⟨t,rfl⟩:=rx;exact SeqAt.EqAt.int_int a t' b t
  |str b=>obtain⟨t,rfl⟩:=rx;exact SeqAt.EqAt.int_str a t' b t
  |_=>exact absurd (show false=true from fx) Bool.false_ne_true
 |str a=>
  obtain⟨t',rfl⟩:=ry
  cases x with
  |non=>cases rx;exact SeqAt.EqAt.str_none a t'
  |bl b=>cases rx;exact SeqAt.EqAt.str_bool a t' b
  |int b=>obtain⟨t,rfl⟩:=rx;exact SeqAt.EqAt.str_int a t' b t
  |str b=>obtain⟨t,rfl⟩:=rx;exact SeqAt.EqAt.str_str a t' b t
  |_=>exact absurd (show false=true from fx) Bool.false_ne_true
 |_=>exact absurd (show false=true from fy) Bool.false_ne_true
noncomputable def eqU (x:V)(u:Value):Bool:=match u with
 | .none=>eqV .non x
 | .bool b=>eqV (.bl b) x
 | .int i _=>eqV (.int i) x
 | .str z _=>eqV (.str z) x
 |_=>false
theorem eqU_of (r:RelV y u)(f:zh2 y=true):eqU x u=eqV y x:=by
 cases y with
 |non=>cases r;rfl
 |bl b=>cases r;rfl
 |int i=>obtain⟨t,rfl⟩:=r;rfl
 |str z=>obtain⟨t,rfl⟩:=r;rfl
 |_=>exact absurd (show false=true from f) Bool.false_ne_true
theorem zhG:∀{xs:List V} {us:List Value},Vals xs us->xs.all zh2=true->us.any (eqU x)=xs.any fun y=>eqV y x
 |_,_,.nil,_=>rfl
 |y::xs,u::us,.cons r t,f=>by
  rw[List.all_cons,Bool.and_eq_true]at f
  rw[List.any_cons,List.any_cons,eqU_of r f.1,zhG t f.2]
theorem zgl (rx:RelV x v)(fx:zh2 x=true):∀{xs:List V} {us:List Value},Vals xs us->xs.all zh2=true->∀u∈us,SeqAt.EqAt A s u v (eqU x u)
 |_,_,.nil,_=>fun u hu=>by cases hu
 |y::xs,u::us,.cons r t,f=>fun u' hu=>by
  rw[List.all_cons,Bool.and_eq_true]at f
  rcases List.mem_cons.mp hu with rfl|hu
  ·rw[eqU_of r f.1];exact eqAt_V r rx f.1 fx
  ·exact zgl rx fx t f.2 u' hu
noncomputable def inV (x:V)(xs:List V):Bool:=xs.any fun y=>eqV y x
noncomputable def rIn (K:W.Frag)(neg:Bool):R2:=fun x y H Q=>∃p xs,y= .ref p/\(SqL K H p xs\/SqT K H p xs)/\zh2 x=true/\xs.all zh2=true/\Q (.bl (if neg then !inV x xs else inV x xs)) H
theorem zm5:OpR X (compareOp .In) (rIn X.K false):=by
 intro pins s σ H x y v u Q I rx ry h
 obtain⟨p,xs,rfl,hq,fx,fs,q⟩:=h
 cases ry
 rcases hq with hq|hq
 ·obtain⟨its,r,pl,hz⟩:=I.list hq
  refine SeqAt.in_listAt (eqU x) pl.isList (fun w hw=>zgl rx fx r fs w (by simpa using hw)) ⟨.bl _,H,I,rfl,?_⟩
  rw[show its.toArray.any (eqU x)=its.any (eqU x) by simp,zhG r fs]
  exact q
 ·obtain⟨its,r,pl,hz⟩:=I.tuple hq
  refine SeqAt.in_tupleAt (eqU x) pl (fun w hw=>zgl rx fx r fs w (by simpa using hw)) ⟨.bl _,H,I,rfl,?_⟩
  rw[show its.toArray.any (eqU x)=its.any (eqU x) by simp,zhG r fs]
  exact q
theorem zkt:OpR X (compareOp .NotIn) (rIn X.K true):=by
 intro pins s σ H x y v u Q I rx ry h
 obtain⟨p,xs,rfl,hq,fx,fs,q⟩:=h
 cases ry
 rcases hq with hq|hq
 ·obtain⟨its,r,pl,hz⟩:=I.list hq
  refine SeqAt.notIn_listAt (eqU x) pl.isList (fun w hw=>zgl rx fx r fs w (by simpa using hw)) ⟨.bl _,H,I,rfl,?_⟩
  rw[show its.toArray.any (eqU x)=its.any (eqU x) by simp,zhG r fs]
  exact q
 ·obtain⟨its,r,pl,hz⟩:=I.tuple hq
  refine SeqAt.notIn_tupleAt (eqU x) pl (fun w hw=>zgl rx fx r fs w (by simpa using hw)) ⟨.bl _,H,I,rfl,?_⟩
  rw[show its.toArray.any (eqU x)=its.any (eqU x) by simp,zhG r fs]
  exact q
theorem zgX:zeT X (.builtin "len") (fun xs H Q=>∃p ys,xs=[.ref p]/\(SqL X.K H p ys\/SqT X.K H p ys)/\Q (.int ys.length) H):=by
 intro pins s σ H xs us Q I r h
 obtain⟨p,ys,rfl,hq,q⟩:=h
 obtain⟨u,rfl,rx⟩:=zh9 r
 cases rx
 have hn:=zil
 rcases hq with hq|hq
 ·obtain⟨its,r',pl,hz⟩:=I.list hq
  have hlen:=r'.length
  exact Calls.call_len_list pl.isList (by simp only[List.size_toArray]<;>lia) ⟨.int ys.length,H,I.tok _,⟨s.toks+1,by rw[List.size_toArray,hlen]⟩,q⟩
 ·obtain⟨its,r',pl,hz⟩:=I.tuple hq
  have hlen:=r'.length
  exact len_tuple pl (by simp only[List.size_toArray]<;>lia) ⟨.int ys.length,H,I.tok _,⟨s.toks+1,by rw[List.size_toArray,hlen]⟩,q⟩
theorem zjM:zeT X (.type "list") (fun xs H Q=>∃p ys,xs=[.ref p]/\(SqL X.K H p ys\/SqT X.K H p ys)/\∀l,H l=none->Q (.ref l) (upd H l (.lst ys))):=by
 intro pins s σ H xs us Q I r h
 obtain⟨p,ys,rfl,hq,q⟩:=h
 obtain⟨u,rfl,rx⟩:=zh9 r
 cases rx
 have fin:∀(its:List Value),Vals ys its->ys.length<=sizeLine->∀(h':Heap) (c':Nat),(∀b o',s.heap.get? b=some o'->h'.get? b=some o')->
   h'.get? s.heap.objs.size=some {cls:= .type "list",dict:=none,data:= .seq its.toArray c',slots:= #[]}->EP X pins σ Q (.ref s.heap.objs.size) {s with heap:=h'}:=fun its r' hz h' c' kp e=>
  ⟨.ref s.heap.objs.size,_,I.laid (t':=s.toks) kp (Nat.le_refl _) (show ObjOk X.prog X.w _ h' _ (.lst ys)from⟨hz,its,c',r',e⟩),rfl,q _ (I.hok.fresh (Nat.le_refl _))⟩
 rcases hq with hq|hq
 ·obtain⟨its,r',pl,hz⟩:=I.list hq
  have hlen:=r'.length
  obtain⟨o,ho,hc,n,hd⟩:=pl.isList
  exact call_list_seq p (.inl rfl) ho hc hd (fun h' c' kp e=>fin its r' hz h' c' kp e) (by simp only[List.size_toArray]<;>lia)
 ·obtain⟨its,r',pl,hz⟩:=I.tuple hq
  have hlen:=r'.length
  obtain⟨o,ho,hc,n,hd⟩:=pl
  exact call_list_seq p (.inr rfl) ho hc hd (fun h' c' kp e=>fin its r' hz h' c' kp e) (by simp only[List.size_toArray]<;>lia)
theorem ziO:zeT X (.type "tuple") (fun xs H Q=>∃p ys,xs=[.ref p]/\((SqL X.K H p ys/\∀l,H l=none->Q (.ref l) (upd H l (.tup ys)))\/(SqT X.K H p ys/\Q (.ref p) H))):=by
 intro pins s σ H xs us Q I r h
 obtain⟨p,ys,rfl,h⟩:=h
 obtain⟨u,rfl,rx⟩:=zh9 r
 cases rx
 rcases h with⟨hq,q⟩|⟨hq,q⟩
 ·obtain⟨its,r',pl,hz⟩:=I.list hq
  have hlen:=r'.length
  refine call_tuple_list pl.isList (fun h' kp=>?_) (by simp only[List.size_toArray]<;>lia)
  have I1:Inv X pins σ H {s with heap:=h'}:=I.kept (t':=s.toks) kp
  have I2:Inv X pins σ (upd H h'.objs.size (.tup ys)) {s with heap:=h'.push {cls:= .type "tuple",data:= .seq its.toArray}}:=
   I1.laid (t':=s.toks) (fun b o e=>Heap.get?_push_of_some _ e) (Nat.le_refl _) (show ObjOk X.prog X.w _ _ _ (.tup ys)from⟨hz,its,r',IsTup.new _ _⟩)
  exact⟨.ref h'.objs.size,_,I2,rfl,q _ (I1.hok.fresh (Nat.le_refl _))⟩
 ·obtain⟨its,r',pl,hz⟩:=I.tuple hq
  exact call_tuple_same pl ⟨.ref p,H,I,rfl,q⟩
noncomputable def tyV (K:W.Frag)(T:String)(x:V)(H:Hp):Prop:=match x with
 | .str _=>T="str"
 | .int _=>T="int"
 | .ref p=>(T="list"/\∃xs,SqL K H p xs)\/(T="tuple"/\∃o,K.lookup p=some o/\o.cls= .type "tuple"/\o.dict=none)\/
   (T="dict"/\((∃kvs,H p=some (.dK kvs))\/∃kvs,H p=some (.dT kvs)))\/(T="set"/\∃S n,H p=some (.set S n))
 |_=>False
theorem tyV_is {T:String}(I:Inv X pins σ H s)(r:RelV x v)(ty:tyV X.K T x H):
  s.TypeIs v T/\∀a,v= .ref a->∃ob,s.heap.get? a=some ob/\ob.dict=none:=by
 cases x with
 |str z=>
  obtain⟨t,rfl⟩:=r
  cases(show T="str" from ty)
  exact⟨typeIs_str s z t,fun _ e=>nomatch e⟩
 |int i=>
  obtain⟨t,rfl⟩:=r
  cases(show T="int" from ty)
  exact⟨typeIs_int s i t,fun _ e=>nomatch e⟩
 |ref p=>
  cases r
  rcases ty with⟨rfl,xs,hq⟩|⟨rfl,o,hk,hc,hd⟩|⟨rfl,hk⟩|⟨rfl,S,n,hk⟩
  ·obtain⟨its,_,pl,_⟩:=I.list hq
   refine⟨pl.isList.typeIs,fun a e=>?_⟩
   cases e
   obtain⟨o,n,e,c,hd,_⟩:=pl
   exact⟨o,e,hd⟩
  ·refine⟨⟨o,I.kIn p o hk,hc⟩,fun a e=>?_⟩
   cases e
   exact⟨o,I.kIn _ o hk,hd⟩
  ·have z:∃o,s.heap.get? p=some o/\o.ExactDict:=by
    rcases hk with⟨kvs,hk⟩|⟨kvs,hk⟩
    ·obtain⟨_,_,_,_,o,_,_,e,ex,_⟩:=I.hok p _ hk
     exact⟨o,e,ex⟩
    ·obtain⟨_,_,_,_,o,_,_,e,ex,_⟩:=I.hok p _ hk
     exact⟨o,e,ex⟩
   obtain⟨o,e,ex⟩:=z
   refine⟨⟨o,e,ex.1⟩,fun a e2=>?_⟩
   cases e2
   exact⟨o,e,ex.2.1⟩
  ·obtain⟨o,_,_,_,e,ex,_⟩:=I.hok p _ hk
   refine⟨⟨o,e,ex.1⟩,fun a e2=>?_⟩
   cases e2
   exact⟨o,e,ex.2.1⟩
 |_=>exact False.elim ty
noncomputable def tBM (K:W.Frag)(T:String)(r:V->List V->Hp->VK->Prop)(to:TE)(t:TA):TE:=fun σ H Q=>to σ H fun x H1=>tyV K T x H1/\t σ H1 fun xs H2=>r x xs H2 Q
variable {o e:Expr} {es:List Expr} {to:TE} {t:TA} {name:Str} {apos cpos:Pos} {T id:String} {r:V->List V->Hp->VK->Prop}
theorem pe_bm (pa:PlainAttrs T)(slot:Slot T name id)(hty:typeOf (.builtin id)=pure (.type "method_descriptor"))(hm:MtR X id r)(ho:PE X o to)(ha:PA X (e::es) t)
  (hbase:autoParam (attributeBase o name X.env (eval o X.env)=eval o X.env) zu2._auto_1)
  (hfew :autoParam (((backTo cpos (starEach (e :: es) X.env)).all (fun x => !x.1) && (backToKw cpos (keywordEach [] X.env)).all (fun x => x.1.isSome)
   &&decide ((e::es).length+([]:List Keyword).length+(if([]:List Keyword).isEmpty then 0 else 1)<30))=true) zu2._auto_1)
  (hline:autoParam ((apos.endLine==cpos.line)=true) zu2._auto_1) (hs:autoParam (starEach (e::es) X.env=(false,eval e X.env)::starEach es X.env) zu2._auto_1) (hplain:autoParam ((backTo cpos (starEach es X.env)).any (·.1)=false) zu2._auto_1):
  PE X (.Call (.Attribute o name apos) (e::es) [] cpos) (tBM X.K T r to t):=by
 intro pins s σ H Q I h
 refine wpAny_Call_method_late hbase hfew hline rfl (thn (ho pins s σ H _ I h) fun v s1 ⟨x,H1,I1,r1,ty,q1⟩=>?_)
 obtain⟨h1,h2⟩:=tyV_is I1 r1 ty
 refine⟨T,id,pa,slot,hty,h1,h2,?_⟩
 have hA:=ha cpos pins s1 σ H1 _ I1 q1
 rw[hs]at hA ⊢
 refine Calls.callWith_builtin (by show(false||(backTo cpos (starEach es X.env)).any (·.1))=false;rw[hplain]<;>rfl) (Calls.evalArgs_plain ?_)
 exact thn hA fun us s2 ⟨vs,H2,I2,r2,q2⟩=>hm pins s2 σ H2 x vs v us Q I2 r1 r2 q2
end
noncomputable def MtM (X:Cx)(id:String)(r:V->List V->Hp->VK->Prop):Prop:=
 ∀(pins:List (Addr×Obj)) (s:Shared) (σ:St) (H:Hp) (x:V) (xs:List V) (v:Value) (us:List Value) (Q:VK),Inv X pins σ H s->RelV x v->Vals xs us->r x xs H Q->
  wpAny (model X.prog X.w) X.A (call (.builtin id) (v::us)) (EP X pins σ Q) X.xe s
theorem Vals.one:∀{x:V} {us:List Value},Vals [x] us->∃u,us=[u]/\RelV x u
 |_,_,.cons r .nil=>⟨_,rfl,r⟩
theorem Vals.rep (h:Vals xs us):∀k:Nat,Vals (List.replicate k xs).flatten (List.replicate k us).flatten
 |0=> .nil
 |k+1=>by
  rw[List.replicate_succ,List.replicate_succ,List.flatten_cons,List.flatten_cons]
  exact Vals.append h (Vals.rep h k)
theorem zks (its:List Value):∀(k:Nat) (acc:List Value),
  List.foldl (fun x1 x2=>x1++x2) acc.toArray (List.replicate k its.toArray)=(acc++(List.replicate k its).flatten).toArray
 |0,acc=>by simp
 |k+1,acc=>by
  have e:acc.toArray++its.toArray=(acc++its).toArray:=by simp
  have e2:(acc++its)++(List.replicate k its).flatten=acc++(List.replicate (k+1) its).flatten:=by
   rw[List.replicate_succ,List.flatten_cons,List.append_assoc]
  rw[<-e2,<-zks its k (acc++its),<-e,List.replicate_succ,List.foldl_cons]
section
variable {X:Cx} {pins:List (Addr×Obj)} {σ:St} {H:Hp} {s:Shared} {l b:Addr} {xs ys zs:List V}
theorem Inv.lset (I:Inv X pins σ H s)(hH:H l=some (.lst xs))
  (e:s.heap.get? l=some {cls:= .type "list",data:= .seq its.toArray n}) (hf:f its.toArray=its'.toArray) (hv:Vals ys its') (hz:ys.length<=sizeLine):
  Inv X pins σ (upd H l (.lst ys)) {s with heap:=s.heap.update l (Obj.mapSeq f),toks:=t'}:=by
 have q:=PySem.IsL.update e f
 rw[hf]at q
 refine I.write (x:=l) (e:=l) (by rw[hH];exact trivial) (.inl rfl) (fun b' u hb hu=>(Heap.get?_update_other s.heap (Obj.mapSeq f) (Ne.symm hb)).trans hu) ⟨_,q⟩ ?_
 exact⟨hz,its',_,hv,q⟩
theorem Inv.lnew (I:Inv X pins σ H s)(hv:Vals ys its)(hz:ys.length<=sizeLine):
  Inv X pins σ (upd H s.heap.objs.size (.lst ys)) {s with heap:=s.heap.push {cls:= .type "list",data:= .seq its.toArray},toks:=t'}:=
 I.laid (fun _ _ q=>Heap.get?_push_of_some _ q) (Nat.le_refl _) ⟨hz,its,0,hv,Heap.get?_push_size _ rfl⟩
theorem Inv.fresh (I:Inv X pins σ H s):H s.heap.objs.size=none:=I.hok.fresh (Nat.le_refl _)
theorem Inv.lstM (I:Inv X pins σ H s)(hH:H l=some (.lst xs)):xs.length<=sizeLine/\∃(its:List Value) (n:Nat),Vals xs its/\xs.length=its.length/\s.heap.get? l=some {cls:= .type "list",data:= .seq its.toArray n}:=by
 obtain⟨z,its,n,r,e⟩:=I.hok l _ hH
 exact⟨z,its,n,r,r.length,e⟩
theorem notLongL (h:n<=sizeLine):Builtin.List.listTooLong n=false:=by
 unfold Builtin.List.listTooLong
 exact decide_eq_false (by lia)
end
section
variable {X:Cx}
noncomputable def rAppend:V->List V->Hp->VK->Prop:=fun x vs H Q=>∃l xs y,x= .ref l/\vs=[y]/\H l=some (.lst xs)/\xs.length<sizeLine/\Q .non (upd H l (.lst (xs++[y])))
theorem zjK:MtM X "list.append" rAppend:=by
 intro pins s σ H x vs v us Q I rx rv h
 obtain⟨l,xs,y,rfl,rfl,hH,hz,q⟩:=h
 cases rx
 obtain⟨u,rfl,ru⟩:=rv.one
 obtain⟨z,its,n,r,hl,e⟩:=I.lstM hH
 refine call_meets F.slot_list_append ⟨_,e,rfl⟩ F.entry_list_append (F.args_list_append_2 _ _) (PySem.list_append l its.toArray n u (by rw[List.size_toArray];lia)) ⟨e,?_⟩
 refine⟨.non,_,I.lset (its':=its++[u]) hH e (by simp) (r.append (.cons ru .nil)) ?_,rfl,q⟩
 rw[List.length_append,List.length_singleton]
 lia
noncomputable def rCat:R2:=fun x y H Q=>∃l b xs zs,x= .ref l/\y= .ref b/\H l=some (.lst xs)/\H b=some (.lst zs)/\xs.length+zs.length<=sizeLine/\∀p,H p=none->Q (.ref p) (upd H p (.lst (xs++zs)))
theorem op_cat:OpR X (binaryOp .Add) rCat:=by
 intro pins s σ H x y v u Q I rx ry h
 obtain⟨l,b,xs,zs,rfl,rfl,hH,hB,hz,q⟩:=h
 cases rx
 cases ry
 obtain⟨z,its,n,r,hl,e⟩:=I.lstM hH
 obtain⟨z2,its2,n2,r2,hl2,e2⟩:=I.lstM hB
 refine PySem.P.add_list e e2 ?_ (by rw[List.size_toArray,List.size_toArray];lia)
 have ea:its.toArray++its2.toArray=(its++its2).toArray:=by simp
 rw[ea]
 exact⟨.ref _,_,I.lnew (t':=s.toks) (r.append r2) (by rw[List.length_append];lia),rfl,q _ I.fresh⟩
noncomputable def rRep:R2:=fun x y H Q=>∃l k xs,x= .ref l/\y= .int k/\H l=some (.lst xs)/\ -(2^63)<=k/\k<2^63/\xs.length*k.toNat<=sizeLine/\
 ∀p,H p=none->Q (.ref p) (upd H p (.lst (List.replicate k.toNat xs).flatten))
theorem len_rep {α:Type}(xs:List α)(k:Nat):(List.replicate k xs).flatten.length=k*xs.length:=by
 induction k with
 |zero=>simp
 |succ k ih=>rw[List.replicate_succ,List.flatten_cons,List.length_append,ih,Nat.succ_mul,Nat.add_comm]
theorem op_rep:OpR X (binaryOp .Mult) rRep:=by
 intro pins s σ H x y v u Q I rx ry h
 obtain⟨l,k,xs,rfl,rfl,hH,h1,h2,hz,q⟩:=h
 cases rx
 obtain⟨t,rfl⟩:=ry
 obtain⟨z,its,n,r,hl,e⟩:=I.lstM hH
 have hlen:its.toArray.size*k.toNat<=sizeLine:=by rw[List.size_toArray,<-hl];exact hz
 have hcap:¬its.toArray.size*k.toNat>(2^63-1)/8:=by
  have:(sizeLine:Nat)<=(2^63-1)/8:=by decide
  lia
 have hfit:¬(!Builtin.List.listFitsIndex k)=true:=by
  rw[fitsIndex_both h1 h2]
  exact Bool.false_ne_true
 have hlong:¬Builtin.List.listTooLong (its.toArray.size*k.toNat)=true:=by
  rw[notLongL hlen]
  exact Bool.false_ne_true
 have hnew:List.foldl (fun x1 x2=>x1++x2) #[] (List.replicate (if its.toArray.isEmpty=true then 0 else k.toNat) its.toArray)=(List.replicate k.toNat its).flatten.toArray:=by
  have f0:∀m:Nat,List.foldl (fun x1 x2=>x1++x2) #[] (List.replicate m its.toArray)=(List.replicate m its).flatten.toArray:=fun m=>by
   have:=zks its m []
   rw[List.nil_append]at this
   exact this
  rw[f0]
  cases its with
  |nil=>simp
  |cons a r'=>rw[if_neg (by simp)]
 refine wpAny_binaryOp_repeat_ref (T:="list") (U:="int") (by decide) ⟨_,e,rfl⟩ (fun s'=>typeIs_int s' k t) noFill_list_mul F.fills_int_mul F.slot_int_rmul repeat_list F.slot_int_index.lookup
  (call_meets F.slot_int_rmul (typeIs_int s k t) F.entry_int_rmul (F.args_int_rmul_2 _ _) (int___rmul___int_list k t l its.toArray n)
   ⟨e,rfl,⟨_,e,rfl⟩,call_meets F.slot_list_mul ⟨_,e,rfl⟩ F.entry_list_mul (F.args_list_mul_2 _ _) (AutoListH.list___mul___list_int_3 l its.toArray n k t hfit hcap hlong) ⟨e,?_⟩⟩)
 rw[hnew]
 exact⟨.ref _,_,I.lnew (t':=s.toks) (r.rep k.toNat) (by rw[len_rep,Nat.mul_comm];exact hz),rfl,q _ I.fresh⟩
end
end L2
namespace Att
open PyProof.Rows PySem PySem.Calls PySem.W
theorem zhH {P:Params}{h:Heap}:∀(ns:List Int) (vs:List Value),WellAll P h vs (ns.map WData.int)->IntsAre vs ns:=by
 intro ns
 induction ns with
 |nil=>
  intro vs w
  rw[List.map_nil]at w
  cases w
  exact .nil
 |cons n ns ih=>
  intro vs w
  rw[List.map_cons]at w
  cases w with
  |cons a b=>
   cases a
   exact .cons _ _ (ih _ b)
theorem znB {l:OpenLaw}{n:Nat}(hn:l.most=some n){P:Params}{h:Heap}{args:List WData}{vals:List Value}
  (hpre:l.row.toRowW.claim.pre args=true) (hwl:WellAll P h vals args):
  ∃a vs ns,vals=[Value.ref a]/\args=[WData.list (ns.map WData.int)]/\h.get? a=some {cls:= .type "list",data:= .seq vs.toArray}/\IntsAre vs ns/\ns.length<=n:=by
 have hsh:WShape.hasAll [] args [.list .int]=true:=(pre_splitW hpre).1
 have hc:l.pre.holds [] {args:=args}=true:=(pre_splitW hpre).2
 obtain⟨d,r,rfl,h1,h2⟩:=hasAllW_cons hsh
 obtain rfl:=hasAllW_nil h2
 obtain⟨xs,rfl,h3⟩:=hasW_list h1
 obtain⟨ns,rfl⟩:=items_int h3
 have hlen:ns.length<=n:=by
  unfold OpenLaw.pre at hc
  have h4:(WTm.not (.lt (.lit (.int (n:Int))) (.len (.arg 0)))).holds [] {args:=[.list (ns.map .int)]}=true:=by
   have h4:=(holds_andW hc).1
   rw[hn]at h4
   exact h4
  have h5:=condW_of h4 (w_not (w_lt w_lit (w_len_list (w_arg rfl))))
  rw[List.length_map]at h5
  refine Nat.le_of_not_lt fun q=>?_
  have q':(n:Int)<((ns.length:Nat):Int):=by lia
  first
   |(rw[decide_eq_true q']at h5;exact absurd h5 (by decide))
   |(simp at h5;lia)
 cases hwl with
 |cons w1 w2=>
  cases w2
  cases w1 with
  |list ho hall=>exact⟨_,_,ns,rfl,rfl,ho,zhH ns _ hall,hlen⟩
theorem zoj (l:OpenLaw)(args:List WData):l.row.toRowW.claim.post args (.bool true) args=true:=
 postW_of (r:=l.row.toRowW) (X:=(true==true))
  (show WShape.has [] (.bool true) .bool=true by first|rfl|decide|simp[WShape.has,WShape.arms,WShape.armsAll])
  (show(WTm.eq .res (.lit (.bool true))).value [] {args:=args,res:=some (.bool true),after:=args}=some (.bool (true==true))from w_eq_bool (w_res rfl) w_lit) rfl
theorem attach_call {l:OpenLaw}{n:Nat}{q:Program}{loose:List Str}{XP:(Str->Option Value)->Heap->Prop}{YP:World->Heap->Prop}{d:DefRec}
  (hn:l.most=some n) (hdf:d.params.defaults=[])
  (call : ∀ (w : World) (s₀ s₁ : Shared) (mg mb : Str -> Option Value) (fa : Addr) (o : Obj) (pm cd doc : Value) (a : Addr) (vs : List Value) (ns : List Int),
   Ground q loose [] XP w s₀ mg mb s₁.heap->YP w s₁.heap->
   s₁.heap.get? fa=some o->o.data= .func (docDef d.name d.params d.body d.scope pm cd doc)->s₁.heap.CodeRec cd d.name->mg d.name=some (.ref fa)->
   s₁.heap.get? a=some {cls:= .type "list",data:= .seq vs.toArray}->IntsAre vs ns->ns.length<=n->s₁.gens= #[]->
   codeAny (model l.prog w) callerA (.call (.ref fa) ⟨[.ref a],[]⟩) (fun r s'=>r= .ok (.ret (.bool true))/\OldK s₁.heap s'.heap/\s'.os=s₁.os/\AllBare s'.gens) s₁):
  WalkO q loose XP YP l.row.toRowW d [] (fun f vs=>PySem.call f vs):=by
 intro w s₀ s₁ mg mb G Y fa o pm cd doc dV kV ho hd hcd hD hmg hg args vals as hpre hlay hrd hwl hlo
 obtain rfl:dV= .none:=Dflts.none hD hdf
 obtain rfl:kV= .none:=Dflts.noKw hD
 obtain⟨a,vs,ns,rfl,rfl,hobj,hints,hlen⟩:=znB hn hpre hwl
 refine enter_call (codeAny_mono (call w s₀ s₁ mg mb fa o pm cd doc a vs ns G Y ho (fd_plain hd) hcd hmg hobj hints hlen hg) fun r s' hq=>?_)
 obtain⟨rfl,h2,h3,h4⟩:=hq
 exact⟨.inl ⟨.bool true,.bool true,[],rfl,fun _=>rfl,.bool true,zoj l _,fun _=>⟨List.Pairwise.nil,fun _ hm=>(nomatch hm)⟩⟩,h2,h3,h4⟩
end Att
namespace L2
open PyProof.Rows PySem PySem.Spec
variable {w:World} {K:W.Frag} {mg mb:Str->Option Value} {CX:World->CXT} {k:Nat} {a f:Addr} {fd:FuncData} {x qual:Str} {sp:Sp} {vs:List Value} {ns:List Int} {l:W.OpenLaw} {q:Program} {loose ps:List Str} {XP:(Str->Option Value)->Heap->Prop} {YP:World->Heap->Prop} {d:DefRec} {oc:Value} {osl:Array (Option Value)} {xs:List V}
theorem zeH:∀{vs:List Value} {ns:List Int},IntsAre vs ns->Vals (ns.map V.int) vs
 |_,_,.nil=> .nil
 |_,_,.cons n t h=> .cons ⟨t,rfl⟩ (zeH h)
noncomputable def Only (H:Hp):Prop:=∀b,H b=none\/∃o xs,H b=some (.frz o (.lst xs))
theorem law_call {P:Program}{CX:CXT}{fa a:Addr}{s₁:Shared}
  (KX:K.In s₁.heap) (hns:s₁.heap.Ns mainGlobals mg) (hb:s₁.heap.Ns builtinsNs mb) (hbb:∀x:Str,x≠"__name__"->mb x=bootBuiltins x) (hlim:s₁.heap.NoLimit) (hg:s₁.gens= #[])
  (ha:s₁.heap.get? a=some {cls:= .type "list",data:= .seq vs.toArray}) (hi:IntsAre vs ns) (hl:ns.length<=sizeLine) (hr:Room k callerA)
  (F:∀base:Heap,K.In base->base.Ns mainGlobals mg->FnOk P w K mg base CX k fa fd [x] sp) (hbind:∀(s:Shared) (u:Value),BindsTo s fd ⟨[u],[]⟩ [(x,u)])
  (hsp:∀H:Hp,Only H->SqL K H a (ns.map V.int)->sp [.ref a] H (fun v _=>v= .bl true) fun _ _ _=>False)
  (hCX:∀H e s',CX [] H s₁ (fun _ _ _=>False) e s'->False):
  codeAny (model P w) callerA (.call (.ref fa) ⟨[.ref a],[]⟩) (fun r s'=>r= .ok (.ret (.bool true))/\OldK s₁.heap s'.heap/\s'.os=s₁.os/\AllBare s'.gens) s₁:=by
 have rv:=zeH hi
 have lenV:=hi.length
 have core:∀H:Hp,Only H->SqL K H a (ns.map V.int)->HOk P w H s₁.heap->(∀b,H b≠none->b=a)->(H a≠none->K.lookup a=none)->
   codeAny (model P w) callerA (.call (.ref fa) ⟨[.ref a],[]⟩) (fun r s'=>r= .ok (.ret (.bool true))/\OldK s₁.heap s'.heap/\s'.os=s₁.os/\AllBare s'.gens) s₁:=by
  intro H hO hS hok hA hK
  have base_of:∀{b:Addr} {o:Obj},s₁.heap.get? b=some o->H b=none->(hidT s₁.heap H).get? b=some o:=fun e n=>hidT_get e n
  have noA:∀{b:Addr} {o:Obj} {es:Array DictEntry} {ep:Nat},s₁.heap.get? b=some o->o.data= .dict es ep->H b=none:=fun{b o es ep} e d=>by
   cases q:H b with
   |none=>rfl
   |some u=>
    have e':b=a:=hA b (by rw[q];simp)
    subst e'
    rw[ha]at e;cases e
    have d':Data.seq vs.toArray _=Data.dict es ep:=d
    cases d'
  have nsK:∀{b:Addr} {m:Str->Option Value},s₁.heap.Ns b m->(hidT s₁.heap H).Ns b m:=fun{b m} ⟨o,es,ep,e,d,r⟩=>⟨o,es,ep,base_of e (noA e d),d,r⟩
  have hKb:K.In (hidT s₁.heap H):=fun b o e=>base_of (KX b o e) (by
   cases q:H b with
   |none=>rfl
   |some u=>
    have e':b=a:=hA b (by rw[q];simp)
    subst e'
    rw[hK (by rw[q];simp)]at e;cases e)
  have hM:Mod K mg (hidT s₁.heap H):=⟨hKb,nsK hns,⟨mb,nsK hb,hbb⟩,let⟨mc,h1,h2⟩:=hlim;⟨mc,nsK h1,h2⟩⟩
  have e0:Env0 P w K mg (hidT s₁.heap H) callerA [] s₁ H:=⟨rfl,hM,fun b o e=>of_hidT e,Nat.le_of_eq (zmC _ _),trivial,fun b hb=>absurd (show b∈([]:List Addr)from hb) (by simp),hok,.of_eq hg⟩
  refine codeAny_mono ((F _ hKb (nsK hns)).run callerA [] s₁ H ⟨[.ref a],[]⟩ [.ref a] [.ref a] _ _ hr e0 (hbind s₁ (.ref a)) (.cons rfl .nil) (hsp H hO hS)) fun r s' h=>?_
  cases r with
  |error e=>exact(hCX H e s' h).elim
  |ok fl=>
   cases fl with
   |next=>exact False.elim h
   |brk=>exact False.elim h
   |cont=>exact False.elim h
   |ret u=>
    obtain⟨v,H',os,bare,un,hok',r',q⟩:=h
    have q':v= .bl true:=q
    subst q'
    obtain rfl:u=Value.bool true:=r'
    refine⟨rfl,OldK.of_keep fun b o e=>?_,os,bare⟩
    cases q:H b with
    |none=>exact un.keep b o e q (by intro z;exact absurd (show b∈([]:List Addr)from z) (by simp)) (by simp)
    |some u=>
     rcases hO b with z|⟨ob,xs,z⟩
     ·rw[q]at z;cases z
     ·have z2:=un.frzs b ob _ z
      obtain⟨e1,_⟩:=hok b _ z
      obtain⟨e2,_⟩:=hok' b _ z2
      rw[e]at e1;cases e1
      exact e2
 cases hk:K.lookup a with
 |some o=>
  have e:=KX a o hk
  rw[ha]at e
  cases e
  refine core (fun _=>none) (fun _=> .inl rfl) (.inr ⟨_,vs.toArray,_,hk,rfl,rfl,rfl,by rw[List.size_toArray,lenV];exact hl,by simpa using rv⟩) (fun b u z=>by have z':(none:Option HO)=some u:=z;cases z') (fun b z=>absurd rfl z) fun z=>absurd rfl z
 |none=>
  refine core (fun b=>if b=a then some (.frz {cls:= .type "list",data:= .seq vs.toArray} (.lst (ns.map V.int)))else none) (fun b=>?_) (.inl (.inr ⟨{cls:= .type "list",data:= .seq vs.toArray},if_pos rfl⟩)) (fun b u z=>?_) (fun b z=>?_) fun _=>hk
  ·by_cases hb:b=a
   ·exact .inr ⟨_,_,if_pos hb⟩
   ·exact .inl (if_neg hb)
  ·by_cases hb:b=a
   ·have z':=(if_pos hb).symm.trans z
    cases z'
    subst hb
    exact⟨ha,by rw[List.length_map];exact hl,vs,_,rv,ha⟩
   ·have z':=(if_neg hb).symm.trans z
    cases z'
  ·by_cases hb:b=a
   ·exact hb
   ·exact absurd (if_neg hb) z
theorem walk_of {n k:Nat}{K:Params->W.Frag}{sp:World->Sp}
  (hn:l.most=some n) (hn2:n<=sizeLine) (hdf:d.params.defaults=[]) (hr:Room k callerA)
  (hY:∀(w:World) (h:Heap),YP w h->(K w.params).In h)
  (F : ∀ (w : World) (mg : Str -> Option Value) (fa : Addr) (h : Heap), (K w.params).In h -> h.Ns mainGlobals mg -> mg d.name = some (.ref fa) ->
   ∃fd:FuncData,(∀(s:Shared) (u:Value),BindsTo s fd ⟨[u],[]⟩ [(x,u)])/\
    ∀base:Heap,(K w.params).In base->base.Ns mainGlobals mg->FnOk l.prog w (K w.params) mg base (CX w) k fa fd [x] (sp w))
  (hsp:∀(w:World) (H:Hp) (a:Addr) (ns:List Int),ns.length<=n->Only H->SqL (K w.params) H a (ns.map V.int)->sp w [.ref a] H (fun v _=>v= .bl true) fun _ _ _=>False)
  (hCX:∀(w:World) (H:Hp) (s:Shared) (e:Value) (s':Shared),CX w [] H s (fun _ _ _=>False) e s'->False):
  W.WalkO q loose XP YP l.row.toRowW d [] (fun f vs=>PySem.call f vs):=by
 refine Att.attach_call hn hdf fun w s₀ s₁ mg mb fa o pm cd doc a vs ns G Y ho hd hcd hmg hobj hints hlen hg=>?_
 have KX:=hY w _ Y
 obtain⟨fd,hb,hF⟩:=F w mg fa _ KX G.T.g hmg
 exact law_call KX G.T.g G.T.b G.T.builtins G.T.nolimit hg hobj hints (Nat.le_trans hlen hn2) hr hF hb (fun H hO hS=>hsp w H a ns hlen hO hS) fun H e s'=>hCX w H s₁ e s'
noncomputable def zeR (s:Stmt):Arguments:=match s with
 | .FunctionDef _ a _ _ _ _ _ _ _ _=>a
 |_=>{posonlyargs:=[],args:=[],vararg:=none,kwonlyargs:=[],kw_defaults:=[],kwarg:=none,defaults:=[]}
noncomputable def zbD (s:Stmt):List Stmt:=match s with
 | .FunctionDef _ _ b _ _ _ _ _ _ _=>b
 |_=>[]
noncomputable def zaB (s:Stmt):Scope:=match s with
 | .FunctionDef _ _ _ _ _ _ sc _ _ _=>sc
 |_=>{kind:= .function,names:=[],isGenerator:=false,isCoroutine:=false}
noncomputable abbrev CX0:CXT:=fun _ _ _ _ _ _=>False
noncomputable abbrev E0:XK:=fun _ _ _=>False
theorem pass0 {X:Cx}:znX CX0 X E0:=fun _ _ _ _ _ _ _ h=>h.elim
structure Fun (K:W.Frag) (x qual:Str) (st:Stmt) (f:Addr) (fd:FuncData):Prop where
 ex:∃(oc:Value) (od:Option Addr) (kV doc pm:Value) (an:Option Addr) (cdv ct:Value) (osl:Array (Option Value)),
  fd=W.fnOf x qual (zeR st) (zbD st) (zaB st) .none kV doc pm an cdv ct/\K.lookup f=some ⟨oc,od,.func fd,osl⟩/\W.codeIn K cdv qual=true
 kp:W.keepIn K (.ref f)=true
section
variable {P:Program} {w:World} {K:W.Frag} {mg:Str->Option Value} {base:Heap}
theorem Fun.ok {st:Stmt}{N ps:List Str}(F:Fun K x qual st f fd)(S:FnScope N ps (zaB st))(len:∀vs H Q E,sp vs H Q E->vs.length=ps.length)
  (hbody : ∀ (cdv : Value) (A : Around) (outer : List Env) (s : Shared) (H : Hp) (vs : List V) (Q : VK) (E : XK), Room k (A.deeper (envOfC qual (zaB st) s.heap.objs.size f cdv)) -> sp vs H Q E ->
   ∃t,PSs (cxOf CX0 P w K mg base N qual (zaB st) f cdv A outer s H E).nox (zbD st) t/\t {nx:=fun _ H'=>Q .non H',rt:=Q} (start N vs) H):FnOk P w K mg base CX0 (k+1) f fd ps sp:=by
 obtain⟨oc,od,kV,doc,pm,an,cdv,ct,osl,rfl,lk,hcd⟩:=F.ex
 refine fn_of lk hcd S len fun A outer s H vs Q E hr hsp=>?_
 obtain⟨t,h,q⟩:=hbody cdv A outer s H vs Q E hr hsp
 exact⟨t,h.nox,q⟩
theorem Fun.binds {st:Stmt}(F:Fun K x qual st f fd)
  (h:∀(kV doc pm:Value) (an:Option Addr) (cdv ct:Value) (us:List Value),us.length=ps.length->bindArgs (W.fnOf x qual (zeR st) (zbD st) (zaB st) .none kV doc pm an cdv ct) ⟨us,[]⟩=pure (ps.zip us)):Binds K fd ps []:=by
 obtain⟨oc,od,kV,doc,pm,an,cdv,ct,osl,rfl,lk,hcd⟩:=F.ex
 exact .all (h kV doc pm an cdv ct)
theorem fun_mk {st:Stmt}{od an:Option Addr}{kV doc pm cdv ct:Value}(l:K.lookup f=some ⟨oc,od,.func (W.fnOf x qual (zeR st) (zbD st) (zaB st) .none kV doc pm an cdv ct),osl⟩)
  (c:W.codeIn K cdv qual=true) (k:W.keepIn K (.ref f)=true):Fun K x qual st f (W.fnOf x qual (zeR st) (zbD st) (zaB st) .none kV doc pm an cdv ct):=⟨⟨oc,od,kV,doc,pm,an,cdv,ct,osl,rfl,l,c⟩,k⟩
end
section
variable {X:Cx}
theorem pv (i:Nat){pos:Pos}(hN:autoParam (X.N[i]? =some x) zu2._auto_1)(hv:autoParam (Vis X.env.scope x) zu5._auto_1)(hd:autoParam ((x==("__debug__":Str))=false) zu1._auto_1)
  (hcd:autoParam ((x==("__classdict__":Str))=false) zu1._auto_1):PE X (.Name x pos) (tVar i):=zgf hN hv hd hcd
end
noncomputable def Same (H H':Hp):Prop:=∀b o,H b=some o->H' b=some o
theorem Same.seq {H H':Hp}(e:Same H H')(h:SqL K H a xs):SqL K H' a xs:=by
 rcases h with(h|⟨o,h⟩)|h
 ·exact .inl (.inl (e _ _ h))
 ·exact .inl (.inr ⟨o,e _ _ h⟩)
 ·exact .inr h
end L2
namespace M
open L2 PySem
variable {G G' H:Hp} {a p l:Addr} {o:Obj} {xs ys:List V} {ks:List (List Int)} {A A':List Addr} {K:W.Frag} {x v:V} {d:D} {ds es:List D} {i:Nat} {c:Ch} {t:T} {ov:Option (Option V)} {s:Sl} {ρ ρ':R} {e:Expr} {b:Bool} {f:D->D->Option D} {ma:ME} {op:Operator} {r:V->Hp->VK->Prop} {g:D->Option D}
inductive D where
 |non|bl (b:Bool)|int (i:Int)|str (x:Str)|lst (ds:List D)|tup (ds:List D)|scr (ns:List Int)|exc (c:Str)|dic (ks:List Int) (ds:List D)|dit (ks:List (List Int)) (ds:List D)
noncomputable def ExcIs (a C:Addr)(h:Heap):Prop:=∃o,h.get? a=some o/\o.cls= .ref C
noncomputable def kI (n:Int):Key:=Sum.inl n
noncomputable def kn (a:Addr)(o:Obj):HO:= .ext (fun h=>h.get? a=some o)
noncomputable def hI:Key->Int
 | .inl k=>hashInt k
 | .inr _=>0
noncomputable def DtN (o:Obj)(xs:List (List Key×Addr×Value)):Prop:=o.ExactDict/\(∃es ep,o.data= .dict es ep/\es.toList=xs.map fun x=>⟨reduceHash (Builtin.Tuple.tupleHashOf (x.1.map hI)),.ref x.2.1,x.2.2⟩)/\(xs.map (·.1)).Nodup
structure DtI (G:Hp) (a:Addr) (o:Obj) (xs:List (List Key×Addr×Value)) (ks:List (List Int)) (ys:List (List Key×V)):Prop where
 sys:(a==sysModules)=false
 dn:DtN o xs
 len:ys.length<=sizeLine
 key:ys.map (·.1)=ks.map (·.map kI)
 kt:Paired (fun(p:List Key×V) (q:List Key×Addr×Value)=>p.1=q.1/\G q.2.1=some (.tup (p.1.map kV))/\RelV p.2 q.2.2) ys xs
mutual
noncomputable def RepD (K:W.Frag)(G:Hp)(v:V):D->Prop
 | .non=>v= .non
 | .bl b=>v= .bl b
 | .int i=>v= .int i
 | .str x=>v= .str x
 | .lst ds=>∃a xs,v= .ref a/\G a=some (.lst xs)/\RepL K G xs ds
 | .tup ds=>∃a xs,v= .ref a/\G a=some (.tup xs)/\RepL K G xs ds
 | .scr ns=>∃a,v= .ref a/\SqL K G a (ns.map V.int)
 | .exc c=>∃a C,v= .ref a/\W.nsIn K mainGlobals c=some (some (.ref C))/\G a=some (.ext (ExcIs a C))
 | .dic ks ds=>∃a ys,v= .ref a/\Rd G a (.dK ys)/\ys.map (·.1)=ks.map kI/\RepL K G (ys.map (·.2)) ds
 | .dit ks ds=>∃a ys o xs,v= .ref a/\G a=some (kn a o)/\DtI G a o xs ks ys/\RepL K G (ys.map (·.2)) ds
noncomputable def RepL (K:W.Frag)(G:Hp)(xs:List V):List D->Prop
 |[]=>xs=[]
 |d::ds=>∃x ys,xs=x::ys/\RepD K G x d/\RepL K G ys ds
end
noncomputable def Fz (G H:Hp):Prop:=∀a o,G a=some o->H a=some o
theorem DtI.mono {xs:List (List Key×Addr×Value)}{ys:List (List Key×V)}(d:DtI G a o xs ks ys)(h:Fz G G'):DtI G' a o xs ks ys:={d with kt:=Paired.mapP d.kt fun _ _ z=>⟨z.1,h _ _ z.2.1,z.2.2⟩}
theorem Fz.refl (G:Hp):Fz G G:=fun _ _ h=>h
theorem Fz.trans {A B C:Hp}(h:Fz A B)(k:Fz B C):Fz A C:=fun a o e=>k a o (h a o e)
theorem Fz.free (h:Fz G H)(e:H p=none):G p=none:=by
 cases q:G p with
 |none=>rfl
 |some o=>rw[h p o q]at e;cases e
theorem Fz.new (e:G p=none)(o:HO):Fz G (upd G p o):=fun a u q=>by
 rw[zaA (zaG q e)];exact q
theorem Fz.upd2 (h:Fz G H)(p:Addr)(o:HO):Fz (upd G p o) (upd H p o):=fun a u q=>by
 by_cases e:a=p
 ·subst e;rw[zaK]at q ⊢;exact q
 ·rw[zaA e]at q ⊢;exact h a u q
theorem Fz.right (h:Fz G H)(e:G p=none)(o:HO):Fz G (upd H p o):=fun a u q=>by
 rw[zaA (zaG q e)];exact h a u q
theorem Fz.sql {G H:Hp}(h:Fz G H)(q:SqL K G a xs):SqL K H a xs:=Same.seq (H:=G) (H':=H) h q
mutual
theorem RepD.mono (h:Fz G G'):∀{v:V} {d:D},RepD K G v d->RepD K G' v d
 |_,.non,e=>e
 |_,.bl _,e=>e
 |_,.int _,e=>e
 |_,.str _,e=>e
 |_,.lst _,⟨a,xs,e,q,r⟩=>⟨a,xs,e,h a _ q,RepL.mono h r⟩
 |_,.tup _,⟨a,xs,e,q,r⟩=>⟨a,xs,e,h a _ q,RepL.mono h r⟩
 |_,.scr _,⟨a,e,q⟩=>⟨a,e,h.sql q⟩
 |_,.exc _,⟨a,C,e,n,q⟩=>⟨a,C,e,n,h a _ q⟩
 |_,.dic _ _,⟨a,ys,e,q,f,r⟩=>⟨a,ys,e,q.imp (h a _) fun⟨o,z⟩=>⟨o,h a _ z⟩,f,RepL.mono h r⟩
 |_,.dit _ _,⟨a,ys,o,xs,e,q,f,r⟩=>⟨a,ys,o,xs,e,h a _ q,f.mono h,RepL.mono h r⟩
theorem RepL.mono (h:Fz G G'):∀{xs:List V} {ds:List D},RepL K G xs ds->RepL K G' xs ds
 |_,[],e=>e
 |_,_::_,⟨x,ys,e,q,r⟩=>⟨x,ys,e,RepD.mono h q,RepL.mono h r⟩
end
section
variable {K:W.Frag} {G:Hp}
theorem RepL.nil:RepL K G [] []:=rfl
theorem RepL.cons {x:V}{d:D}(h:RepD K G x d)(t:RepL K G xs ds):RepL K G (x::xs) (d::ds):=⟨x,xs,rfl,h,t⟩
theorem RepL.length:∀{xs:List V} {ds:List D},RepL K G xs ds->xs.length=ds.length
 |_,[],e=>by cases e;rfl
 |_,_::_,⟨x,ys,e,_,r⟩=>by subst e;rw[List.length_cons,List.length_cons,RepL.length r]
theorem RepL.get:∀{xs:List V} {ds:List D} {i:Nat} {d:D},RepL K G xs ds->ds[i]? =some d->∃x,xs[i]? =some x/\RepD K G x d
 |_,[],_,_,_,h=>by simp at h
 |_,_::_,0,_,⟨x,ys,e,q,r⟩,h=>by subst e;simp at h;subst h;exact⟨x,rfl,q⟩
 |_,_::_,i+1,_,⟨x,ys,e,q,r⟩,h=>by
  subst e
  obtain⟨y,h1,h2⟩:=RepL.get (i:=i) r (by simpa using h)
  exact⟨y,by simpa using h1,h2⟩
theorem RepL.append:∀{xs ys:List V} {ds es:List D},RepL K G xs ds->RepL K G ys es->RepL K G (xs++ys) (ds++es)
 |_,_,[],_,e,r=>by cases e;exact r
 |_,_,_::_,_,⟨x,zs,e,q,r⟩,s=>by subst e;exact⟨x,zs++_,rfl,q,RepL.append r s⟩
theorem RepL.snoc (h:RepL K G xs ds)(q:RepD K G x d):RepL K G (xs++[x]) (ds++[d]):=h.append (.cons q .nil)
theorem RepL.take:∀{xs:List V} {ds:List D} (n:Nat),RepL K G xs ds->RepL K G (xs.take n) (ds.take n)
 |_,_,0,_=>by simp;exact .nil
 |_,[],n+1,e=>by cases e;exact .nil
 |_,_::_,n+1,⟨x,zs,e,q,r⟩=>by subst e;exact⟨x,zs.take n,rfl,q,RepL.take n r⟩
theorem RepL.drop:∀{xs:List V} {ds:List D} (n:Nat),RepL K G xs ds->RepL K G (xs.drop n) (ds.drop n)
 |_,_,0,r=>by simpa using r
 |_,[],n+1,e=>by cases e;exact .nil
 |_,_::_,n+1,⟨x,zs,e,q,r⟩=>by subst e;exact RepL.drop n r
theorem RepL.set:∀{xs:List V} {ds:List D} (i:Nat) {x:V} {d:D},RepL K G xs ds->RepD K G x d->RepL K G (xs.set i x) (ds.set i d)
 |_,[],_,_,_,e,_=>by cases e;exact .nil
 |_,_::_,0,_,_,⟨x,zs,e,q,r⟩,h=>by subst e;exact⟨_,zs,rfl,h,r⟩
 |_,_::_,i+1,_,_,⟨x,zs,e,q,r⟩,h=>by subst e;exact⟨x,_,rfl,q,RepL.set i r h⟩
theorem RepL.rep (h:RepL K G xs ds):∀k:Nat,RepL K G (List.replicate k xs).flatten (List.replicate k ds).flatten
 |0=> .nil
 |k+1=>by rw[List.replicate_succ,List.replicate_succ,List.flatten_cons,List.flatten_cons];exact h.append (RepL.rep h k)
theorem RepL.ints:∀(ns:List Int),RepL K G (ns.map V.int) (ns.map D.int)
 |[]=> .nil
 |n::ns=>⟨.int n,ns.map V.int,rfl,rfl,RepL.ints ns⟩
theorem RepL.ints_eq:∀{ns:List Int} {xs:List V},RepL K G xs (ns.map D.int)->xs=ns.map V.int
 |[],_,e=>e
 |n::ns,_,⟨x,ys,e,q,r⟩=>by subst e;cases(show x=V.int n from q);rw[RepL.ints_eq r];rfl
theorem RepL.at {i:Int}(h:RepL K G xs ds)(e:atI ds i=some d):∃x,atI xs i=some x/\RepD K G x d:=by
 unfold atI at e ⊢
 rw[h.length]
 cases q:ixN ds.length i with
 |none=>rw[q]at e;cases e
 |some j=>rw[q]at e;exact h.get e
end
inductive Ch where
 |d (x:D)|l (xs:List D)|t (xss:List (List D))
inductive T where
 |lst (cs:List Ch)|tup (cs:List Ch)|ins (c:Str) (fs:List (Str×Ch))|dic (ks:List Int) (ds:List D)|dit (ks:List (List Int)) (ds:List D)
inductive Sl where
 |emp|val (d:D)|own (ds:List D)|par (ds:List D)|two (ds es:List D)|tre (t:T)|ptr (t:T)
noncomputable abbrev R:=List Sl
noncomputable def Sl.items:Sl->Option (List D)
 | .own ds=>some ds
 | .par ds=>some ds
 |_=>none
structure Bs where
 G:Hp
 H:Hp
 O:List (Nat×Addr)
noncomputable def RepTb (K:W.Frag)(G H:Hp):List V->List (List D)->List Addr->Prop
 |[],[],A=>A=[]
 |x::xs,ds::dss,A=>∃r ys A2,x= .ref r/\H r=some (.lst ys)/\RepL K G ys ds/\RepTb K G H xs dss A2/\A=r::A2
 |_,_,_=>False
noncomputable def RepC (K:W.Frag)(G H:Hp)(x:V):Ch->List Addr->Prop
 | .d y,A=>RepD K G x y/\A=[]
 | .l ds,A=>∃l xs,x= .ref l/\H l=some (.lst xs)/\RepL K G xs ds/\A=[l]
 | .t xss,A=>∃p xs A',x= .ref p/\H p=some (.lst xs)/\RepTb K G H xs xss A'/\A=p::A'
noncomputable def RepCs (K:W.Frag)(G H:Hp):List V->List Ch->List Addr->Prop
 |[],[],A=>A=[]
 |x::xs,c::cs,A=>∃A1 A2,RepC K G H x c A1/\RepCs K G H xs cs A2/\A=A1++A2
 |_,_,_=>False
noncomputable def RepT (K:W.Frag)(G H:Hp)(v:V):T->List Addr->Prop
 | .lst cs,A=>∃p xs A',v= .ref p/\H p=some (.lst xs)/\RepCs K G H xs cs A'/\A=p::A'
 | .tup cs,A=>∃p xs A',v= .ref p/\H p=some (.tup xs)/\RepCs K G H xs cs A'/\A=p::A'
 | .ins c fs,A=>∃p C dx vs A',v= .ref p/\W.nsIn K mainGlobals c=some (some (.ref C))/\H p=some (.ins C dx vs)/\H dx=some (.own p)/\vs.map (·.1)=fs.map (·.1)/\RepCs K G H (vs.map (·.2)) (fs.map (·.2)) A'/\A=p::dx::A'
 | .dic ks ds,A=>∃p ys,v= .ref p/\H p=some (.dK ys)/\ys.map (·.1)=ks.map kI/\RepL K G (ys.map (·.2)) ds/\A=[p]
 | .dit ks ds,A=>∃p ys o xs,v= .ref p/\H p=some (kn p o)/\DtI G p o xs ks ys/\RepL K G (ys.map (·.2)) ds/\A=[p]
section
variable {K:W.Frag} {G G' H H':Hp}
theorem RepTb.move:∀{xs:List V} {dss:List (List D)} {A:List Addr},RepTb K G H xs dss A->Fz G G'->(∀a∈A,H' a=H a)->RepTb K G' H' xs dss A
 |[],[],_,h,_,_=>h
 |x::xs,ds::dss,A,⟨r,ys,A2,e1,e2,e3,e4,e5⟩,hg,hh=>⟨r,ys,A2,e1,by rw[hh r (by rw[e5];simp)];exact e2,e3.mono hg,e4.move hg fun a m=>hh a (by rw[e5];simp[m]),e5⟩
 |[],_::_,_,h,_,_=>h.elim
 |_::_,[],_,h,_,_=>h.elim
theorem RepTb.det:∀{xs:List V} {dss:List (List D)} {A A':List Addr},RepTb K G H xs dss A->RepTb K G' H' xs dss A'->A=A'
 |[],[],_,_,h,h'=>by rw[show _=[]from h,show _=[]from h']
 |x::xs,ds::dss,_,_,⟨r,ys,A2,e1,_,_,e4,e5⟩,⟨r',ys',A2',e1',_,_,e4',e5'⟩=>by
  rw[e1]at e1';cases e1'
  rw[e5,e5',e4.det e4']
 |[],_::_,_,_,h,_=>h.elim
 |_::_,[],_,_,h,_=>h.elim
theorem RepTb.here:∀{xs:List V} {dss:List (List D)} {A:List Addr},RepTb K G H xs dss A->∀{a:Addr},a∈A->∃xs,H a=some (.lst xs)
 |[],[],_,h,a,m=>by rw[show _=[]from h]at m;cases m
 |x::xs,ds::dss,_,⟨r,ys,A2,e1,e2,_,e4,e5⟩,a,m=>by
  rw[e5]at m
  rcases List.mem_cons.mp m with rfl|m
  ·exact⟨ys,e2⟩
  ·exact e4.here m
 |[],_::_,_,h,_,_=>h.elim
 |_::_,[],_,h,_,_=>h.elim
theorem RepC.move (h:RepC K G H x c A)(hg:Fz G G')(hh:∀a∈A,H' a=H a):RepC K G' H' x c A:=by
 cases c with
 |d y=>exact⟨h.1.mono hg,h.2⟩
 |l ds=>obtain⟨l,xs,e,q,r,rfl⟩:=h;exact⟨l,xs,e,by rw[hh l (by simp)];exact q,r.mono hg,rfl⟩
 |t xss=>obtain⟨p,xs,A',e,q,r,rfl⟩:=h;exact⟨p,xs,A',e,by rw[hh p (by simp)];exact q,r.move hg fun a m=>hh a (by simp[m]),rfl⟩
theorem RepCs.move:∀{xs:List V} {cs:List Ch} {A:List Addr},RepCs K G H xs cs A->Fz G G'->(∀a∈A,H' a=H a)->RepCs K G' H' xs cs A
 |[],[],_,h,_,_=>h
 |x::xs,c::cs,A,⟨A1,A2,h1,h2,e⟩,hg,hh=>⟨A1,A2,h1.move hg fun a m=>hh a (by rw[e];exact List.mem_append_left _ m),h2.move hg fun a m=>hh a (by rw[e];exact List.mem_append_right _ m),e⟩
 |[],_::_,_,h,_,_=>h.elim
 |_::_,[],_,h,_,_=>h.elim
theorem RepT.move (h:RepT K G H v t A)(hg:Fz G G')(hh:∀a∈A,H' a=H a):RepT K G' H' v t A:=by
 cases t with
 |lst cs=>obtain⟨p,xs,A',e,q,r,rfl⟩:=h;exact⟨p,xs,A',e,by rw[hh p (by simp)];exact q,r.move hg fun a m=>hh a (by simp[m]),rfl⟩
 |tup cs=>obtain⟨p,xs,A',e,q,r,rfl⟩:=h;exact⟨p,xs,A',e,by rw[hh p (by simp)];exact q,r.move hg fun a m=>hh a (by simp[m]),rfl⟩
 |ins c fs=>obtain⟨p,C,dx,vs,A',e,n,q,q2,f,r,rfl⟩:=h;exact⟨p,C,dx,vs,A',e,n,by rw[hh p (by simp)];exact q,by rw[hh dx (by simp)];exact q2,f,r.move hg fun a m=>hh a (by simp[m]),rfl⟩
 |dic ks ds=>obtain⟨p,ys,e,q,f,r,rfl⟩:=h;exact⟨p,ys,e,by rw[hh p (by simp)];exact q,f,r.mono hg,rfl⟩
 |dit ks ds=>obtain⟨p,ys,o,xs,e,q,f,r,rfl⟩:=h;exact⟨p,ys,o,xs,e,by rw[hh p (by simp)];exact q,f.mono hg,r.mono hg,rfl⟩
theorem RepC.det (h:RepC K G H x c A)(h':RepC K G' H' x c A')(hh:∀a∈A,H' a=H a):A=A':=by
 cases c with
 |d y=>rw[h.2,h'.2]
 |l ds=>obtain⟨l,xs,e,_,_,rfl⟩:=h;obtain⟨l',xs',e',_,_,rfl⟩:=h';rw[e]at e';cases e';rfl
 |t xss=>
  obtain⟨p,xs,B,e,q,r,rfl⟩:=h;obtain⟨p',xs',B',e',q',r',rfl⟩:=h'
  rw[e]at e';cases e'
  rw[hh p (by simp),q]at q';cases q'
  rw[r.det r']
theorem RepCs.det:∀{xs:List V} {cs:List Ch} {A A':List Addr},RepCs K G H xs cs A->RepCs K G' H' xs cs A'->(∀a∈A,H' a=H a)->A=A'
 |[],[],_,_,h,h',_=>by rw[show _=[]from h,show _=[]from h']
 |x::xs,c::cs,_,_,⟨A1,A2,h1,h2,e⟩,⟨B1,B2,k1,k2,e'⟩,hh=>by rw[e,e',h1.det k1 fun a m=>hh a (by rw[e];exact List.mem_append_left _ m),h2.det k2 fun a m=>hh a (by rw[e];exact List.mem_append_right _ m)]
 |[],_::_,_,_,h,_,_=>h.elim
 |_::_,[],_,_,h,_,_=>h.elim
theorem RepT.det (h:RepT K G H v t A)(h':RepT K G' H' v t A')(hh:∀a∈A,H' a=H a):A=A':=by
 cases t with
 |lst cs=>
  obtain⟨p,xs,B,e,q,r,rfl⟩:=h;obtain⟨p',xs',B',e',q',r',rfl⟩:=h'
  rw[e]at e';cases e'
  rw[hh p (by simp),q]at q';cases q'
  rw[r.det r' fun a m=>hh a (by simp[m])]
 |tup cs=>
  obtain⟨p,xs,B,e,q,r,rfl⟩:=h;obtain⟨p',xs',B',e',q',r',rfl⟩:=h'
  rw[e]at e';cases e'
  rw[hh p (by simp),q]at q';cases q'
  rw[r.det r' fun a m=>hh a (by simp[m])]
 |ins c fs=>
  obtain⟨p,C,dx,vs,B,e,n,q,q2,f,r,rfl⟩:=h;obtain⟨p',C',dx',vs',B',e',n',q',q2',f',r',rfl⟩:=h'
  rw[e]at e';cases e'
  rw[hh p (by simp),q]at q';cases q'
  rw[r.det r' fun a m=>hh a (by simp[m])]
 |dic ks ds=>obtain⟨p,ys,e,q,f,r,rfl⟩:=h;obtain⟨p',ys',e',q',f',r',rfl⟩:=h';rw[e]at e';cases e';rfl
 |dit ks ds=>obtain⟨p,ys,o,xs,e,q,f,r,rfl⟩:=h;obtain⟨p',ys',o',xs',e',q',f',r',rfl⟩:=h';rw[e]at e';cases e';rfl
theorem RepC.here (h:RepC K G H x c A)(m:a∈A):∃xs,H a=some (.lst xs):=by
 cases c with
 |d y=>rw[h.2]at m;cases m
 |l ds=>obtain⟨l,xs,_,q,_,rfl⟩:=h;simp at m;subst m;exact⟨xs,q⟩
 |t xss=>
  obtain⟨p,xs,A',_,q,r,rfl⟩:=h
  rcases List.mem_cons.mp m with rfl|m
  ·exact⟨xs,q⟩
  ·exact r.here m
theorem RepCs.here:∀{xs:List V} {cs:List Ch} {A:List Addr},RepCs K G H xs cs A->∀{a:Addr},a∈A->∃xs,H a=some (.lst xs)
 |[],[],_,h,a,m=>by rw[show _=[]from h]at m;cases m
 |x::xs,c::cs,_,⟨A1,A2,h1,h2,e⟩,a,m=>by
  rw[e]at m
  rcases List.mem_append.mp m with m|m
  ·exact h1.here m
  ·exact h2.here m
 |[],_::_,_,h,_,_=>h.elim
 |_::_,[],_,h,_,_=>h.elim
theorem RepT.here (h:RepT K G H v t A)(m:a∈A):H a≠none:=by
 cases t with
 |lst cs=>
  obtain⟨p,xs,B,e,q,r,rfl⟩:=h
  rcases List.mem_cons.mp m with rfl|m
  ·rw[q];simp
  ·obtain⟨ys,z⟩:=r.here m;rw[z];simp
 |tup cs=>
  obtain⟨p,xs,B,e,q,r,rfl⟩:=h
  rcases List.mem_cons.mp m with rfl|m
  ·rw[q];simp
  ·obtain⟨ys,z⟩:=r.here m;rw[z];simp
 |ins c fs=>
  obtain⟨p,C,dx,vs,B,e,n,q,q2,f,r,rfl⟩:=h
  rcases List.mem_cons.mp m with rfl|m
  ·rw[q];simp
  rcases List.mem_cons.mp m with rfl|m
  ·rw[q2];simp
  ·obtain⟨ys,z⟩:=r.here m;rw[z];simp
 |dic ks ds=>obtain⟨p,ys,e,q,f,r,rfl⟩:=h;simp at m;subst m;rw[q];simp
 |dit ks ds=>obtain⟨p,ys,o,xs,e,q,f,r,rfl⟩:=h;simp at m;subst m;rw[q];simp
end
noncomputable def SlotOk (K:W.Frag)(B:Bs)(G H:Hp)(i:Nat)(ov:Option (Option V)):Sl->Prop
 | .emp=>True
 | .two _ _=>True
 | .val d=>∃v,ov=some (some v)/\RepD K G v d
 | .own ds=>∃l xs,ov=some (some (.ref l))/\G l=none/\H l=some (.lst xs)/\RepL K G xs ds/\B.H l=none
 | .par ds=>∃l xs,ov=some (some (.ref l))/\G l=none/\H l=some (.lst xs)/\RepL K G xs ds/\(i,l)∈B.O
 | .tre t=>∃v A,ov=some (some v)/\RepT K G H v t A/\A.Nodup/\∀a∈A,G a=none/\B.H a=none
 | .ptr t=>∃v A,ov=some (some v)/\RepT K G H v t A/\A.Nodup/\∀a∈A,G a=none/\(B.H a=none\/(i,a)∈B.O)
noncomputable def Wr (ρ:R)(i:Nat):Prop:=∃s ds,ρ[i]? =some s/\s.items=some ds
noncomputable def OwS (K:W.Frag)(G H:Hp)(ov:Option (Option V))(a:Addr):Sl->Prop
 | .own _=>ov=some (some (.ref a))
 | .par _=>ov=some (some (.ref a))
 | .tre t=>∃v A,ov=some (some v)/\RepT K G H v t A/\a∈A
 | .ptr t=>∃v A,ov=some (some v)/\RepT K G H v t A/\a∈A
 |_=>False
noncomputable def Nw (K:W.Frag)(G H:Hp)(σ:St)(ρ:R)(a:Addr):Prop:=∀(i:Nat) (s:Sl),ρ[i]? =some s->¬OwS K G H σ[i]? a s
structure SI (K:W.Frag) (B:Bs) (G H:Hp) (σ:St) (ρ:R):Prop where
 fz:Fz G H
 g0:Fz B.G G
 new:∀b o,G b=some o->B.G b≠none\/B.H b=none
 keep:∀b o,B.H b=some o->(∀i,(i,b)∉B.O)->H b=some o
 there:∀b,H b=none->B.H b=none
 len:σ.length=ρ.length
 ob:∀i b,(i,b)∈B.O->B.H b≠none
 slot:∀i s,ρ[i]? =some s->SlotOk K B G H i σ[i]? s
 dis:∀(i j:Nat) (s t:Sl) (a:Addr),i≠j->ρ[i]? =some s->ρ[j]? =some t->OwS K G H σ[i]? a s->¬OwS K G H σ[j]? a t
section
variable {K:W.Frag} {B:Bs} {G G' H H':Hp} {σ:St} {ρ:R}
theorem SlotOk.own (h:SlotOk K B G H i ov s)(w:OwS K G H ov a s):G a=none/\H a≠none/\(B.H a=none\/(i,a)∈B.O):=by
 cases s with
 |emp=>exact w.elim
 |two _ _=>exact w.elim
 |val d=>exact w.elim
 |own ds=>obtain⟨l,xs,e,g,k,r,n⟩:=h;rw[show ov=_ from w]at e;cases e;exact⟨g,by rw[k];simp,.inl n⟩
 |par ds=>obtain⟨l,xs,e,g,k,r,n⟩:=h;rw[show ov=_ from w]at e;cases e;exact⟨g,by rw[k];simp,.inr n⟩
 |tre t=>
  obtain⟨v,A,e,r,nd,f⟩:=h
  obtain⟨v',A',e',r',m⟩:=w
  rw[e]at e';cases e'
  rw[<-r.det r' fun _ _=>rfl]at m
  exact⟨(f a m).1,r.here m,.inl (f a m).2⟩
 |ptr t=>
  obtain⟨v,A,e,r,nd,f⟩:=h
  obtain⟨v',A',e',r',m⟩:=w
  rw[e]at e';cases e'
  rw[<-r.det r' fun _ _=>rfl]at m
  exact⟨(f a m).1,r.here m,(f a m).2⟩
theorem SlotOk.mono (h:SlotOk K B G H i ov s)(hg:Fz G G')(hw:∀a,OwS K G H ov a s->G a=none->H a≠none->G' a=none/\H' a=H a):SlotOk K B G' H' i ov s:=by
 have ow:=fun a (w:OwS K G H ov a s)=>h.own w
 cases s with
 |emp=>trivial
 |two _ _=>trivial
 |val d=>obtain⟨v,e,r⟩:=h;exact⟨v,e,r.mono hg⟩
 |own ds=>
  obtain⟨l,xs,e,g,k,r,n⟩:=h
  obtain⟨h1,h2⟩:=hw l e g (by rw[k];simp)
  exact⟨l,xs,e,h1,h2.trans k,r.mono hg,n⟩
 |par ds=>
  obtain⟨l,xs,e,g,k,r,n⟩:=h
  obtain⟨h1,h2⟩:=hw l e g (by rw[k];simp)
  exact⟨l,xs,e,h1,h2.trans k,r.mono hg,n⟩
 |tre t=>
  obtain⟨v,A,e,r,nd,f⟩:=h
  have w:=fun a m=>hw a ⟨v,A,e,r,m⟩ (f a m).1 (r.here m)
  exact⟨v,A,e,r.move hg fun a m=>(w a m).2,nd,fun a m=>⟨(w a m).1,(f a m).2⟩⟩
 |ptr t=>
  obtain⟨v,A,e,r,nd,f⟩:=h
  have w:=fun a m=>hw a ⟨v,A,e,r,m⟩ (f a m).1 (r.here m)
  exact⟨v,A,e,r.move hg fun a m=>(w a m).2,nd,fun a m=>⟨(w a m).1,(f a m).2⟩⟩
theorem SlotOk.back (h:SlotOk K B G H i ov s)(hw:∀a,OwS K G H ov a s->G a=none->H a≠none->G' a=none/\H' a=H a)(w:OwS K G' H' ov a s):OwS K G H ov a s:=by
 cases s with
 |emp=>exact w
 |two _ _=>exact w
 |val d=>exact w
 |own ds=>exact w
 |par ds=>exact w
 |tre t=>
  obtain⟨v,A,e,r,nd,f⟩:=h
  obtain⟨v',A',e',r',m⟩:=w
  rw[e]at e';cases e'
  have q:=r.det r' fun a m=>(hw a ⟨v,A,e,r,m⟩ (f a m).1 (r.here m)).2
  subst q
  exact⟨v,A,e,r,m⟩
 |ptr t=>
  obtain⟨v,A,e,r,nd,f⟩:=h
  obtain⟨v',A',e',r',m⟩:=w
  rw[e]at e';cases e'
  have q:=r.det r' fun a m=>(hw a ⟨v,A,e,r,m⟩ (f a m).1 (r.here m)).2
  subst q
  exact⟨v,A,e,r,m⟩
theorem SI.move (I:SI K B G H σ ρ)(fz:Fz G' H')(fg:Fz G G')(new:∀b o,G' b=some o->B.G b≠none\/B.H b=none)(keep:∀b o,B.H b=some o->(∀i,(i,b)∉B.O)->H' b=some o)(there:∀b,H' b=none->B.H b=none)
  (ow:∀(i:Nat) (s:Sl) (a:Addr),ρ[i]? =some s->OwS K G H σ[i]? a s->G a=none->H a≠none->G' a=none/\H' a=H a):SI K B G' H' σ ρ where
 fz:=fz
 g0:=I.g0.trans fg
 new:=new
 keep:=keep
 there:=there
 len:=I.len
 ob:=I.ob
 slot:=fun i s e=>(I.slot i s e).mono fg fun a w g h=>ow i s a e w g h
 dis:=fun i j s t a n e1 e2 w1 w2=>I.dis i j s t a n e1 e2 ((I.slot i s e1).back (fun a w g h=>ow i s a e1 w g h) w1) ((I.slot j t e2).back (fun a w g h=>ow j t a e2 w g h) w2)
theorem SI.chg (I:SI K B G H σ ρ){ov:Option V}{s':Sl}(fz:Fz G' H')(fg:Fz G G')(new:∀b o,G' b=some o->B.G b≠none\/B.H b=none)(keep:∀b o,B.H b=some o->(∀i,(i,b)∉B.O)->H' b=some o)(there:∀b,H' b=none->B.H b=none)
  (ow:∀(j:Nat) (s:Sl) (a:Addr),j≠i->ρ[j]? =some s->OwS K G H σ[j]? a s->G a=none->H a≠none->G' a=none/\H' a=H a/\¬OwS K G' H' (some ov) a s') (sl:SlotOk K B G' H' i (some ov) s'):SI K B G' H' (σ.set i ov) (ρ.set i s'):=by
 have atI:∀{s},(ρ.set i s')[i]? =some s->s=s'/\(σ.set i ov)[i]? =some ov:=fun{s} e=>by
  rw[List.getElem?_set,if_pos rfl]at e ⊢
  split at e
  ·rename_i h;cases e;rw[if_pos (by rw[I.len];exact h)];exact⟨rfl,rfl⟩
  ·cases e
 have atJ:∀{j s},j≠i->(ρ.set i s')[j]? =some s->ρ[j]? =some s/\(σ.set i ov)[j]? =σ[j]?:=fun{j s} n e=>by
  rw[List.getElem?_set_ne (Ne.symm n)]at e ⊢
  exact⟨e,rfl⟩
 refine⟨fz,I.g0.trans fg,new,keep,there,by rw[List.length_set,List.length_set];exact I.len,I.ob,fun j s e=>?_,fun j k s t a n e1 e2 w1 w2=>?_⟩
 ·by_cases z:j=i
  ·subst z;obtain⟨rfl,q⟩:=atI e;rw[q];exact sl
  ·obtain⟨e1,q⟩:=atJ z e
   rw[q]
   exact(I.slot j s e1).mono fg fun a w g h=>⟨(ow j s a z e1 w g h).1,(ow j s a z e1 w g h).2.1⟩
 ·have one:∀j s,j≠i->(ρ.set i s')[j]? =some s->OwS K G' H' (σ.set i ov)[j]? a s->ρ[j]? =some s/\OwS K G H σ[j]? a s:=fun j s z e w=>by
   obtain⟨e1,q⟩:=atJ z e
   rw[q]at w
   exact⟨e1,(I.slot j s e1).back (fun a w g h=>⟨(ow j s a z e1 w g h).1,(ow j s a z e1 w g h).2.1⟩) w⟩
  by_cases z1:j=i
  ·subst z1
   obtain⟨rfl,q1⟩:=atI e1
   obtain⟨f2,w2⟩:=one k t (Ne.symm n) e2 w2
   obtain⟨o1,o2,_⟩:=(I.slot k t f2).own w2
   rw[q1]at w1
   exact(ow k t a (Ne.symm n) f2 w2 o1 o2).2.2 w1
  ·have p1:=one j s z1 e1 w1
   by_cases z2:k=i
   ·subst z2
    obtain⟨rfl,q2⟩:=atI e2
    obtain⟨o1,o2,_⟩:=(I.slot j s p1.1).own p1.2
    rw[q2]at w2
    exact(ow j s a z1 p1.1 p1.2 o1 o2).2.2 w2
   ·have p2:=one k t z2 e2 w2
    exact I.dis j k s t a n p1.1 p2.1 p1.2 p2.2
theorem SI.nw (I:SI K B G H σ ρ)(hp:H p=none):Nw K G H σ ρ p:=fun i s e w=>((I.slot i s e).own w).2.1 hp
theorem SI.nw_move (I:SI K B G H σ ρ)(n:Nw K G H σ ρ p)(ow:∀(i:Nat) (s:Sl) (a:Addr),ρ[i]? =some s->OwS K G H σ[i]? a s->G a=none->H a≠none->G' a=none/\H' a=H a):Nw K G' H' σ ρ p:=
 fun i s e w=>n i s e ((I.slot i s e).back (fun a w g h=>ow i s a e w g h) w)
theorem SI.allocF (I:SI K B G H σ ρ)(hp:H p=none)(o:HO):SI K B (upd G p o) (upd H p o) σ ρ:=
 I.move (I.fz.upd2 p o) (Fz.new (I.fz.free hp) o) (fun b u e=>by
  by_cases q:b=p
  ·subst q;exact .inr (I.there b hp)
  ·rw[zaA q]at e;exact I.new b u e) (fun b u e n=>by
  have q:=I.keep b u e n
  rw[zaA (zaG q hp)];exact q) (fun b e=>by
  by_cases q:b=p
  ·subst q;rw[zaK]at e;cases e
  ·rw[zaA q]at e;exact I.there b e) (fun i s a _ _ g h=>by
  have q:a≠p:=fun z=>h (by rw[z];exact hp)
  rw[zaA q,zaA q];exact⟨g,rfl⟩)
theorem SI.allocO (I:SI K B G H σ ρ)(hp:H p=none)(o:HO):SI K B G (upd H p o) σ ρ:=
 I.move (I.fz.right (I.fz.free hp) o) (Fz.refl G) I.new (fun b u e n=>by
  have q:=I.keep b u e n
  rw[zaA (zaG q hp)];exact q) (fun b e=>by
  by_cases q:b=p
  ·subst q;rw[zaK]at e;cases e
  ·rw[zaA q]at e;exact I.there b e) (fun i s a _ _ g h=>by
  have q:a≠p:=fun z=>h (by rw[z];exact hp)
  rw[zaA q];exact⟨g,rfl⟩)
theorem SI.frz (I:SI K B G H σ ρ){o:HO}(hl:H l=some o)(hB:B.H l=none)(hn:Nw K G H σ ρ l)(hg:G l=none):SI K B (upd G l o) H σ ρ:=
 I.move (fun a u q=>by
  by_cases e:a=l
  ·subst e;rw[zaK]at q;cases q;exact hl
  ·rw[zaA e]at q;exact I.fz a u q) (Fz.new hg o) (fun b u e=>by
  by_cases q:b=l
  ·subst q;exact .inr hB
  ·rw[zaA q]at e;exact I.new b u e) I.keep I.there (fun i s a e w g _=>by
  refine⟨?_,rfl⟩
  rw[zaA (fun z=>?_)]
  ·exact g
  ·subst z;exact hn i s e w)
theorem SI.set (I:SI K B G H σ ρ)(h:RepD K G v d):SI K B G H (σ.set i (some v)) (ρ.set i (.val d)):=
 I.chg I.fz (Fz.refl G) I.new I.keep I.there (fun _ _ _ _ _ _ g _=>⟨g,rfl,id⟩) ⟨v,rfl,h⟩
theorem SI.setO (I:SI K B G H σ ρ)(hg:G l=none)(hl:H l=some (.lst xs))(h:RepL K G xs ds)(hB:B.H l=none)(hn:Nw K G H σ ρ l):
  SI K B G H (σ.set i (some (.ref l))) (ρ.set i (.own ds)):=
 I.chg I.fz (Fz.refl G) I.new I.keep I.there (fun j s a _ e w g _=>⟨g,rfl,fun z=>by cases(show some (some (V.ref l))=some (some (.ref a))from z);exact hn j s e w⟩) ⟨l,xs,rfl,hg,hl,h,hB⟩
theorem SI.wr (I:SI K B G H σ ρ)(e:ρ[i]? =some s)(q:s.items=some ds):∃l xs,σ[i]? =some (some (.ref l))/\G l=none/\H l=some (.lst xs)/\RepL K G xs ds:=by
 have h:=I.slot i s e
 cases s with
 |emp=>cases q
 |two _ _=>cases q
 |val d=>cases q
 |tre _=>cases q
 |ptr _=>cases q
 |own es=>cases q;obtain⟨l,xs,h1,h2,h3,h4,_⟩:=h;exact⟨l,xs,h1,h2,h3,h4⟩
 |par es=>cases q;obtain⟨l,xs,h1,h2,h3,h4,_⟩:=h;exact⟨l,xs,h1,h2,h3,h4⟩
noncomputable def Sl.put (s:Sl)(ds:List D):Sl:=match s with
 | .own _=> .own ds
 | .par _=> .par ds
 |s=>s
theorem zeu (q:s.items=some ds):OwS K G H ov a s↔ov=some (some (.ref a)):=by
 cases s with
 |own _=>exact Iff.rfl
 |par _=>exact Iff.rfl
 |_=>cases q
theorem zj5 (q:s.items=some ds)(es:List D):(s.put es).items=some es:=by
 cases s with
 |own _=>rfl
 |par _=>rfl
 |_=>cases q
theorem znH {α:Type}{l:List α}{x:α}(e:l[i]? =some x):l.set i x=l:=by
 obtain⟨h,rfl⟩:=List.getElem?_eq_some_iff.mp e
 exact List.set_getElem_self h
theorem SI.chgW (I:SI K B G H σ ρ){i:Nat}(e:ρ[i]? =some s)(q:s.items=some ds)(hl:σ[i]? =some (some (.ref l)))(fz:Fz G' H')(fg:Fz G G')(nw:∀b o,G' b=some o->G b≠none\/H b=none)
  (kp:∀b o,b≠l->H b=some o->H' b=some o) (gl:G' l=none) (hl':H' l=some (.lst ys)) (r:RepL K G' ys es):SI K B G' H' σ (ρ.set i (s.put es)):=by
 obtain⟨l',xs,e1,e2,e3,e4⟩:=I.wr e q
 rw[hl]at e1;cases e1
 have sl:=I.slot i s e
 have nb:∀b o,B.H b=some o->(∀i,(i,b)∉B.O)->b≠l:=fun b o h1 h2 z=>by
  subst z
  rcases(sl.own ((zeu q).mpr hl)).2.2 with z|z
  ·rw[h1]at z;cases z
  ·exact h2 i z
 have h:=I.chg (i:=i) (ov:=some (.ref l)) (s':=s.put es) (G':=G') (H':=H') fz fg (fun b o k=>?_) (fun b o k1 k2=>kp b o (nb b o k1 k2) (I.keep b o k1 k2)) (fun b k=>?_) (fun j t a z ej w g ha=>?_) ?_
 ·rwa[znH hl]at h
 ·rcases nw b o k with h|h
  ·cases q2:G b with
   |none=>exact absurd q2 h
   |some u=>exact I.new b u q2
  ·exact .inr (I.there b h)
 ·refine I.there b ?_
  cases q2:H b with
  |none=>rfl
  |some u=>
   by_cases z:b=l
   ·subst z;rw[hl']at k;cases k
   ·rw[kp b u z q2]at k;cases k
 ·have na:a≠l:=fun w'=>by subst w';exact I.dis j i t s a z ej e w ((zeu q).mpr hl)
  obtain⟨u,hu⟩:=Option.ne_none_iff_exists'.mp ha
  refine⟨?_,(kp a u na hu).trans hu.symm,fun z=>na ?_⟩
  ·cases q2:G' a with
   |none=>rfl
   |some u=>
    rcases nw a u q2 with z|z
    ·exact absurd g z
    ·exact absurd z ha
  ·cases(zeu (zj5 q es)).mp z;rfl
 ·cases s with
  |own es'=>obtain⟨l',xs',k1,k2,k3,k4,k5⟩:=sl;rw[hl]at k1;cases k1;exact⟨_,ys,rfl,gl,hl',r,k5⟩
  |par es'=>obtain⟨l',xs',k1,k2,k3,k4,k5⟩:=sl;rw[hl]at k1;cases k1;exact⟨_,ys,rfl,gl,hl',r,k5⟩
  |_=>cases q
theorem SI.write (I:SI K B G H σ ρ)(e:ρ[i]? =some s)(q:s.items=some ds)(hl:σ[i]? =some (some (.ref l)))(h:RepL K G ys es):
  SI K B G (upd H l (.lst ys)) σ (ρ.set i (s.put es)):=by
 obtain⟨l',xs,e1,e2,e3,e4⟩:=I.wr e q
 rw[hl]at e1;cases e1
 exact I.chgW e q hl (I.fz.right e2 _) (Fz.refl G) (fun b o k=> .inl (by rw[k];simp)) (fun b o z k=>by rw[zaA z];exact k) e2 zaK h
theorem SI.freeze (I:SI K B G H σ ρ){i:Nat}(e:ρ[i]? =some (.own ds)):∃l xs,σ[i]? =some (some (.ref l))/\Fz G (upd G l (.lst xs))/\RepD K (upd G l (.lst xs)) (.ref l) (.lst ds)/\
  SI K B (upd G l (.lst xs)) H σ (ρ.set i (.val (.lst ds))):=by
 obtain⟨l,xs,h1,h2,h3,h4,h5⟩:=I.slot i _ e
 have fz:=Fz.new h2 (.lst xs)
 have rep:RepD K (upd G l (.lst xs)) (.ref l) (.lst ds):=⟨l,xs,rfl,zaK,h4.mono fz⟩
 refine⟨l,xs,h1,fz,rep,?_⟩
 have h:=I.chg (i:=i) (ov:=some (.ref l)) (s':= .val (.lst ds)) (G':=upd G l (.lst xs)) (H':=H) (fun a u q=>?_) fz (fun b u q=>?_) I.keep I.there (fun j t a z ej w g _=>⟨?_,rfl,id⟩) ⟨.ref l,rfl,rep⟩
 ·rwa[znH h1]at h
 ·by_cases z:a=l
  ·subst z;rw[zaK]at q;cases q;exact h3
  ·rw[zaA z]at q;exact I.fz a u q
 ·by_cases z:b=l
  ·subst z;exact .inr h5
  ·rw[zaA z]at q;exact I.new b u q
 ·rw[zaA (fun q=>by subst q;exact I.dis j i t _ a z ej e w h1)];exact g
end
noncomputable abbrev ME:=R->Option (D×R)
noncomputable abbrev MO:=R->Option (List D×R)
noncomputable abbrev MT:=R->Option (Bool×R)
noncomputable abbrev MA:=R->Option (List D×R)
noncomputable def SE (X:Cx)(e:Expr)(m:ME):Prop:=
 ∃t,PE X e t/\∀B G H σ ρ d ρ' (Q:VK),SI X.K B G H σ ρ->m ρ=some (d,ρ')->(∀G' H' v,SI X.K B G' H' σ ρ'->Fz G G'->RepD X.K G' v d->Q v H')->t σ H Q
noncomputable def SO (X:Cx)(e:Expr)(m:MO):Prop:=
 ∃t,PE X e t/\∀B G H σ ρ ds ρ' (Q:VK),SI X.K B G H σ ρ->m ρ=some (ds,ρ')->
  (∀G' H' l xs,SI X.K B G' H' σ ρ'->Fz G G'->G' l=none->H' l=some (.lst xs)->RepL X.K G' xs ds->B.H l=none->Nw X.K G' H' σ ρ' l->Q (.ref l) H')->t σ H Q
noncomputable def STt (X:Cx)(e:Expr)(m:MT):Prop:=
 ∃t,PT X e t/\∀B G H σ ρ d ρ' (Q:Bool->Hp->Prop),SI X.K B G H σ ρ->m ρ=some (d,ρ')->(∀G' H',SI X.K B G' H' σ ρ'->Fz G G'->Q d H')->t σ H Q
noncomputable def SA (X:Cx)(es:List Expr)(m:MA):Prop:=
 ∃t,PA X es t/\∀B G H σ ρ ds ρ' (Q:List V->Hp->Prop),SI X.K B G H σ ρ->m ρ=some (ds,ρ')->(∀G' H' vs,SI X.K B G' H' σ ρ'->Fz G G'->RepL X.K G' vs ds->Q vs H')->t σ H Q
theorem zjL {B:Bs}{σ:St}(I:SI K B G H σ ρ)(hg:G l=none)(hl:H l=some (.lst xs))(h:RepL K G xs ds)(hB:B.H l=none)(hn:Nw K G H σ ρ l):
  SI K B (upd G l (.lst xs)) H σ ρ/\Fz G (upd G l (.lst xs))/\RepD K (upd G l (.lst xs)) (.ref l) (.lst ds):=
 ⟨I.frz hl hB hn hg,Fz.new hg _,⟨l,xs,rfl,zaK,h.mono (Fz.new hg _)⟩⟩
noncomputable def eFz (m:MO):ME:=fun ρ=>(m ρ).map fun p=>(.lst p.1,p.2)
theorem SO.se {X:Cx}{m:MO}(h:SO X e m):SE X e (eFz m):=by
 obtain⟨t,p,s⟩:=h
 refine⟨t,p,fun B G H σ ρ d ρ' Q I hm k=>?_⟩
 unfold eFz at hm
 cases q:m ρ with
 |none=>rw[q]at hm;cases hm
 |some r=>
  obtain⟨ds,ρ1⟩:=r
  rw[q]at hm
  cases hm
  refine s B G H σ ρ ds _ Q I q fun G' H' l xs I' fz hg hl hr hB hn=>?_
  obtain⟨I2,f2,r2⟩:=zjL I' hg hl hr hB hn
  exact k _ _ _ I2 (fz.trans f2) r2
noncomputable def eC (d:D):ME:=fun ρ=>some (d,ρ)
noncomputable def eVar (i:Nat):ME:=fun ρ=>match ρ[i]? with
 |some (.val d)=>some (d,ρ)
 |some (.own ds)=>some (.lst ds,ρ.set i (.val (.lst ds)))
 |_=>none
section
variable {X:Cx} {pos:Pos}
theorem zab (i:Nat){x:Str}(hN:autoParam (X.N[i]? =some x) zu2._auto_1)(hv:autoParam (Vis X.env.scope x) zu5._auto_1)(hd:autoParam ((x==("__debug__":Str))=false) zu1._auto_1)
  (hcd:autoParam ((x==("__classdict__":Str))=false) zu1._auto_1):SE X (.Name x pos) (eVar i):=by
 refine⟨_,zgf hN hv hd hcd,fun B G H σ ρ d ρ' Q I hm k=>?_⟩
 unfold eVar at hm
 cases e:ρ[i]? with
 |none=>rw[e]at hm;cases hm
 |some s=>
  rw[e]at hm
  cases s with
  |emp=>cases hm
  |two _ _=>cases hm
  |tre _=>cases hm
  |ptr _=>cases hm
  |par ds=>cases hm
  |val d'=>
   cases hm
   obtain⟨v,h1,h2⟩:=I.slot i _ e
   exact⟨v,h1,k G H v I (Fz.refl G) h2⟩
  |own ds=>
   cases hm
   obtain⟨l,xs,h1,f,r,I'⟩:=I.freeze e
   exact⟨.ref l,h1,k _ H _ I' f r⟩
theorem zag {i:Int}{j}:SE X (.Constant (.int i) j pos) (eC (.int i)):=⟨_,pe_int,fun B G H σ ρ d ρ' Q I hm k=>by cases hm;exact k G H _ I (Fz.refl G) rfl⟩
theorem ze5 {j}:SE X (.Constant (.bool b) j pos) (eC (.bl b)):=⟨_,pe_bl,fun B G H σ ρ d ρ' Q I hm k=>by cases hm;exact k G H _ I (Fz.refl G) rfl⟩
theorem zn7 {j}:SE X (.Constant .none j pos) (eC .non):=⟨_,pe_non,fun B G H σ ρ d ρ' Q I hm k=>by cases hm;exact k G H _ I (Fz.refl G) rfl⟩
theorem zle {x:Str}{j}:SE X (.Constant (.str x) j pos) (eC (.str x)):=⟨_,pe_str,fun B G H σ ρ d ρ' Q I hm k=>by cases hm;exact k G H _ I (Fz.refl G) rfl⟩
end
noncomputable def aNil:MA:=fun ρ=>some ([],ρ)
noncomputable def zaf (m:ME)(r:MA):MA:=fun ρ=>(m ρ).bind fun p=>(r p.2).map fun q=>(p.1::q.1,q.2)
section
variable {X:Cx} {e:Expr} {es:List Expr} {m:ME} {r:MA}
theorem zae:SA X [] aNil:=⟨_,zg0,fun B G H σ ρ ds ρ' Q I hm k=>by cases hm;exact k G H [] I (Fz.refl G) .nil⟩
theorem zaa (h:SE X e m)(hr:SA X es r)(hs:autoParam (starEach (e::es) X.env=(false,eval e X.env)::starEach es X.env) zu2._auto_1):SA X (e::es) (zaf m r):=by
 obtain⟨t,p,s⟩:=h
 obtain⟨u,q,z⟩:=hr
 refine⟨_,zdm p q hs,fun B G H σ ρ ds ρ' Q I hm k=>?_⟩
 unfold zaf at hm
 cases e1:m ρ with
 |none=>rw[e1]at hm;cases hm
 |some a=>
  obtain⟨d,ρ1⟩:=a
  rw[e1]at hm
  cases e2:r ρ1 with
  |none=>simp[e2]at hm
  |some b=>
   obtain⟨es',ρ2⟩:=b
   simp only[Option.bind_some,e2,Option.map_some,Option.some.injEq,Prod.mk.injEq]at hm
   obtain⟨rfl,rfl⟩:=hm
   exact s B G H σ ρ d ρ1 _ I e1 fun G1 H1 v I1 f1 r1=>z B G1 H1 σ ρ1 es' ρ2 _ I1 e2 fun G2 H2 vs I2 f2 r2=>k G2 H2 (v::vs) I2 (f1.trans f2) (.cons (r1.mono f2) r2)
end
noncomputable def V2 (X:Cx)(r:R2)(f:D->D->Option D):Prop:=∀B G H σ ρ x y a b d (Q:VK),SI X.K B G H σ ρ->RepD X.K G x a->RepD X.K G y b->f a b=some d->(∀G' H' v,SI X.K B G' H' σ ρ->Fz G G'->RepD X.K G' v d->Q v H')->r x y H Q
noncomputable def V1 (X:Cx)(r:V->Hp->VK->Prop)(f:D->Option D):Prop:=∀B G H σ ρ x a d (Q:VK),SI X.K B G H σ ρ->RepD X.K G x a->f a=some d->(∀G' H' v,SI X.K B G' H' σ ρ->Fz G G'->RepD X.K G' v d->Q v H')->r x H Q
noncomputable def VC (X:Cx)(r:List V->Hp->VK->Prop)(f:List D->Option D):Prop:=∀B G H σ ρ xs ds d (Q:VK),SI X.K B G H σ ρ->RepL X.K G xs ds->f ds=some d->(∀G' H' v,SI X.K B G' H' σ ρ->Fz G G'->RepD X.K G' v d->Q v H')->r xs H Q
noncomputable def m2 (f:D->D->Option D)(ma mb:ME):ME:=fun ρ=>(ma ρ).bind fun p=>(mb p.2).bind fun q=>(f p.1 q.1).map fun d=>(d,q.2)
noncomputable def m1 (f:D->Option D)(ma:ME):ME:=fun ρ=>(ma ρ).bind fun p=>(f p.1).map fun d=>(d,p.2)
noncomputable def mC (f:List D->Option D)(ma:MA):ME:=fun ρ=>(ma ρ).bind fun p=>(f p.1).map fun d=>(d,p.2)
theorem m2_inv {ma mb:ME}(h:m2 f ma mb ρ=some (d,ρ')):∃a ρ1 b,ma ρ=some (a,ρ1)/\mb ρ1=some (b,ρ')/\f a b=some d:=by
 unfold m2 at h
 cases e1:ma ρ with
 |none=>rw[e1]at h;cases h
 |some p=>
  obtain⟨a,ρ1⟩:=p
  rw[e1]at h
  cases e2:mb ρ1 with
  |none=>simp[e2]at h
  |some q=>
   obtain⟨b,ρ2⟩:=q
   simp only[Option.bind_some,e2]at h
   cases e3:f a b with
   |none=>rw[e3]at h;cases h
   |some c=>rw[e3]at h;cases h;exact⟨a,ρ1,b,rfl,e2,e3⟩
theorem m1_inv {f:D->Option D}(h:m1 f ma ρ=some (d,ρ')):∃a,ma ρ=some (a,ρ')/\f a=some d:=by
 unfold m1 at h
 cases e1:ma ρ with
 |none=>rw[e1]at h;cases h
 |some p=>
  obtain⟨a,ρ1⟩:=p
  rw[e1]at h
  simp only[Option.bind_some]at h
  cases e3:f a with
  |none=>rw[e3]at h;cases h
  |some c=>rw[e3]at h;cases h;exact⟨a,rfl,e3⟩
theorem mC_inv {f:List D->Option D}{ma:MA}(h:mC f ma ρ=some (d,ρ')):∃a,ma ρ=some (a,ρ')/\f a=some d:=by
 unfold mC at h
 cases e1:ma ρ with
 |none=>rw[e1]at h;cases h
 |some p=>
  obtain⟨a,ρ1⟩:=p
  rw[e1]at h
  simp only[Option.bind_some]at h
  cases e3:f a with
  |none=>rw[e3]at h;cases h
  |some c=>rw[e3]at h;cases h;exact⟨a,rfl,e3⟩
section
variable {X:Cx} {a b:Expr} {ma mb:ME} {pos:Pos} {f:D->D->Option D}
theorem zlB {r:R2}{ta tb:TE}(hv:V2 X r f)
  (sa:∀B G H σ ρ d ρ' (Q:VK),SI X.K B G H σ ρ->ma ρ=some (d,ρ')->(∀G' H' v,SI X.K B G' H' σ ρ'->Fz G G'->RepD X.K G' v d->Q v H')->ta σ H Q)
  (sb:∀B G H σ ρ d ρ' (Q:VK),SI X.K B G H σ ρ->mb ρ=some (d,ρ')->(∀G' H' v,SI X.K B G' H' σ ρ'->Fz G G'->RepD X.K G' v d->Q v H')->tb σ H Q):
  ∀B G H σ ρ d ρ' (Q:VK),SI X.K B G H σ ρ->m2 f ma mb ρ=some (d,ρ')->(∀G' H' v,SI X.K B G' H' σ ρ'->Fz G G'->RepD X.K G' v d->Q v H')->tOp r ta tb σ H Q:=by
 intro B G H σ ρ d ρ' Q I hm k
 obtain⟨x,ρ1,y,e1,e2,e3⟩:=m2_inv hm
 exact sa B G H σ ρ x ρ1 _ I e1 fun G1 H1 v I1 f1 r1=>sb B G1 H1 σ ρ1 y ρ' _ I1 e2 fun G2 H2 u I2 f2 r2=>
  hv B G2 H2 σ ρ' v u x y d Q I2 (r1.mono f2) r2 e3 fun G3 H3 z I3 f3 r3=>k G3 H3 z I3 (f1.trans (f2.trans f3)) r3
theorem zmg {r:R2}(ho:OpR X (binaryOp op) r)(hv:V2 X r f)(ha:SE X a ma)(hb:SE X b mb):SE X (.BinOp a op b pos) (m2 f ma mb):=by
 obtain⟨ta,pa,sa⟩:=ha
 obtain⟨tb,pb,sb⟩:=hb
 exact⟨_,pe_op ho pa pb,zlB hv sa sb⟩
theorem zjB {op:CmpOp}{r:R2}(ho:OpR X (compareOp op) r)(hv:V2 X r f)(ha:SE X a ma)(hb:SE X b mb)(hm:behindInMarks op b=false):SE X (.Compare a [op] [b] pos) (m2 f ma mb):=by
 obtain⟨ta,pa,sa⟩:=ha
 obtain⟨tb,pb,sb⟩:=hb
 exact⟨_,pe_cmpR ho pa pb hm,zlB hv sa sb⟩
theorem se_un {op:UnaryOp}(ho:UnR X (unaryOp op) r)(hv:V1 X r g)(ha:SE X a ma):SE X (.UnaryOp op a pos) (m1 g ma):=by
 obtain⟨ta,pa,sa⟩:=ha
 refine⟨_,pe_un ho pa,fun B G H σ ρ d ρ' Q I hm k=>?_⟩
 obtain⟨x,e1,e2⟩:=m1_inv hm
 exact sa B G H σ ρ x ρ' _ I e1 fun G1 H1 v I1 f1 r1=>hv B G1 H1 σ ρ' v x d Q I1 r1 e2 fun G2 H2 z I2 f2 r2=>k G2 H2 z I2 (f1.trans f2) r2
theorem se_ix {r:R2}(hr:IxR X r)(hv:V2 X r f)(ha:SE X a ma)(hb:SE X b mb)(hs:zi3 b):SE X (.Subscript a b pos) (m2 f ma mb):=by
 obtain⟨ta,pa,sa⟩:=ha
 obtain⟨tb,pb,sb⟩:=hb
 exact⟨_,pe_ix hr pa pb hs,zlB hv sa sb⟩
end
section
variable {X:Cx} {x:Str} {p pos:Pos} {e:Expr} {es:List Expr} {ma:MA} {id T:String} {r:List V->Hp->VK->Prop} {f:List D->Option D}
theorem soundC {t:TA}(hv:VC X r f)(sa:∀B G H σ ρ ds ρ' (Q:List V->Hp->Prop),SI X.K B G H σ ρ->ma ρ=some (ds,ρ')->(∀G' H' vs,SI X.K B G' H' σ ρ'->Fz G G'->RepL X.K G' vs ds->Q vs H')->t σ H Q):
  ∀B G H σ ρ d ρ' (Q:VK),SI X.K B G H σ ρ->mC f ma ρ=some (d,ρ')->(∀G' H' v,SI X.K B G' H' σ ρ'->Fz G G'->RepD X.K G' v d->Q v H')->tCB r t σ H Q:=by
 intro B G H σ ρ d ρ' Q I hm k
 obtain⟨ds,e1,e2⟩:=mC_inv hm
 exact sa B G H σ ρ ds ρ' _ I e1 fun G1 H1 vs I1 f1 r1=>hv B G1 H1 σ ρ' vs ds d Q I1 r1 e2 fun G2 H2 z I2 f2 r2=>k G2 H2 z I2 (f1.trans f2) r2
theorem zcV (hc:zeT X (.builtin id) r)(hv:VC X r f)(hb:bootBuiltins x=some (.builtin id))(hm:X.mg x=none)(ha:SA X (e::es) ma)(hg:autoParam (Gl X x) zu2._auto_1)(hn:autoParam (x≠"__name__") zu1._auto_1)(hdb:autoParam ((x==("__debug__":Str))=false) zu1._auto_1)
  (he:autoParam (starEach (e::es) X.env=(false,eval e X.env)::starEach es X.env) zu2._auto_1) (hpl:autoParam ((backTo pos (starEach es X.env)).any (·.1)=false) zu2._auto_1):SE X (.Call (.Name x p) (e::es) [] pos) (mC f ma):=by
 obtain⟨t,pa,sa⟩:=ha
 exact⟨_,zhg hc hg hm hb pa hn hdb he hpl,soundC hv sa⟩
theorem znh (hc:zeT X (.type T) r)(hv:VC X r f)(hb:bootBuiltins x=some (.type T))(hm:X.mg x=none)(ha:SA X (e::es) ma)(hg:autoParam (Gl X x) zu2._auto_1)(hn:autoParam (x≠"__name__") zu1._auto_1)(hdb:autoParam ((x==("__debug__":Str))=false) zu1._auto_1)
  (he:autoParam (starEach (e::es) X.env=(false,eval e X.env)::starEach es X.env) zu2._auto_1) (hpl:autoParam ((backTo pos (starEach es X.env)).any (·.1)=false) zu2._auto_1):SE X (.Call (.Name x p) (e::es) [] pos) (mC f ma):=by
 obtain⟨t,pa,sa⟩:=ha
 exact⟨_,zhP hc hg hm hb pa hn hdb he hpl,soundC hv sa⟩
end
end M
namespace M
open L2 PySem PySem.Spec
open PyProof.Rows hiding St
variable {v:V} {ds cs out:List D} {p pos pos':Pos} {xs vs ys:List V} {X:Cx} {C:Int->Int->Prop} {c l:Addr} {g:D->R->Option R} {a b e:Expr} {ma:MA} {k i j n t:Nat} {mb:ME} {K:W.Frag} {G H H' G':Hp} {us its:List Value} {u:Value} {d:D} {B:Bs} {σ σc:St} {ρ ρ':R} {s:Sl} {x qual:Str} {Q E:Value->Shared->Prop} {f:D->D->Option D} {op op':CmpOp} {m:MS} {es ifs:List Expr} {h:List D->R->Option R} {body:List Stmt} {N ps:List Str} {fd:FuncData} {env:Env} {scope:Scope} {A:Around} {cl:List (Str×Addr)} {h':Heap} {prog:Program} {w:World} {use:Option (Value->Sem Unit)} {ov:Option (Option V)} {cap:List Nat} {wi:TI} {tg':Addr->Shared->Hp->List Addr->TG} {tt:Addr->Shared->Hp->List Addr->TT} {te:Addr->Shared->Hp->List Addr->TE} {ns:List Int}
section
variable {X:Cx} {K:W.Frag} {B:Bs} {G H:Hp} {σ:St} {ρ:R}
theorem SI.lst (I:SI K B G H σ ρ)(h:RepD K G v (.lst ds)):∃a xs,v= .ref a/\H a=some (.lst xs)/\RepL K G xs ds:=by
 obtain⟨a,xs,e,q,r⟩:=h
 exact⟨a,xs,e,I.fz a _ q,r⟩
theorem SI.tup (I:SI K B G H σ ρ)(h:RepD K G v (.tup ds)):∃a xs,v= .ref a/\H a=some (.tup xs)/\RepL K G xs ds:=by
 obtain⟨a,xs,e,q,r⟩:=h
 exact⟨a,xs,e,I.fz a _ q,r⟩
theorem SI.newT (I:SI K B G H σ ρ){p:Addr}(hp:H p=none)(h:RepL K G xs ds):SI K B (upd G p (.tup xs)) (upd H p (.tup xs)) σ ρ/\Fz G (upd G p (.tup xs))/\RepD K (upd G p (.tup xs)) (.ref p) (.tup ds):=
 ⟨I.allocF hp _,Fz.new (I.fz.free hp) _,⟨p,xs,rfl,zaK,h.mono (Fz.new (I.fz.free hp) _)⟩⟩
theorem SI.newL (I:SI K B G H σ ρ){p:Addr}(hp:H p=none)(h:RepL K G xs ds):SI K B (upd G p (.lst xs)) (upd H p (.lst xs)) σ ρ/\Fz G (upd G p (.lst xs))/\RepD K (upd G p (.lst xs)) (.ref p) (.lst ds):=
 ⟨I.allocF hp _,Fz.new (I.fz.free hp) _,⟨p,xs,rfl,zaK,h.mono (Fz.new (I.fz.free hp) _)⟩⟩
end
noncomputable def dI2 (c:Int->Int->Bool)(g:Int->Int->D):D->D->Option D
 | .int i,.int j=>if c i j then some (g i j)else none
 |_,_=>none
theorem znm {c:Int->Int->Bool}{g:Int->Int->Int}(hc:∀i j,c i j=true->C i j):V2 X (rI C fun i j=> .int (g i j)) (dI2 c fun i j=> .int (g i j)):=by
 intro B G H σ ρ x y a b d Q I ra rb hf k
 cases a<;>cases b<;>simp only[dI2]at hf<;>try cases hf
 rename_i i j
 split at hf
 ·rename_i h
  cases hf
  exact⟨i,j,ra,rb,hc i j h,k G H _ I (Fz.refl G) rfl⟩
 ·cases hf
theorem v2_int0 {g:Int->Int->Int}:V2 X (rI0 fun i j=> .int (g i j)) (dI2 (fun _ _=>true) fun i j=> .int (g i j)):=by
 intro B G H σ ρ x y a b d Q I ra rb hf k
 cases a<;>cases b<;>simp only[dI2]at hf<;>try cases hf
 rename_i i j
 exact⟨i,j,ra,rb,k G H _ I (Fz.refl G) rfl⟩
theorem zby {g:Int->Int->Bool}:V2 X (rI0 fun i j=> .bl (g i j)) (dI2 (fun _ _=>true) fun i j=> .bl (g i j)):=by
 intro B G H σ ρ x y a b d Q I ra rb hf k
 cases a<;>cases b<;>simp only[dI2]at hf<;>try cases hf
 rename_i i j
 exact⟨i,j,ra,rb,k G H _ I (Fz.refl G) rfl⟩
noncomputable def dSub:D->D->Option D:=dI2 (fun _ _=>true) fun i j=> .int (i-j)
noncomputable def zmk (j:Int):Bool:=decide (0<j)&&decide (j.natAbs.log2<9000)
theorem op_fdivW:OpR X (binaryOp .FloorDiv) (rI (fun _ j=>0<j/\j.natAbs.log2<9000) fun i j=> .int (i/j)):=opI fun i j _ _ _ _ _ hc q=>by
 have h1:(0:Int)<j:=hc.1
 exact PyProof.Rows.floordiv_int (by lia) (by rw[Int.fdiv_eq_ediv_of_nonneg i (by lia)];exact q) (.inl (PyProof.noPylong_of_log2 hc.2))
noncomputable def dDiv:D->D->Option D:=dI2 (fun _ j=>zmk j) fun i j=> .int (i/j)
noncomputable def dMod:D->D->Option D:=dI2 (fun _ j=>decide (0<j)) fun i j=> .int (i%j)
noncomputable def dPow:D->D->Option D:=dI2 (fun i j=>decide (0<=j)&&decide (j<=1000000)&&decide (i.natAbs<2^64)) fun i j=> .int (i^j.toNat)
noncomputable def dLt:D->D->Option D:=dI2 (fun _ _=>true) fun i j=> .bl (decide (i<j))
noncomputable def dLe:D->D->Option D:=dI2 (fun _ _=>true) fun i j=> .bl (decide (i<=j))
noncomputable def dGt:D->D->Option D:=dI2 (fun _ _=>true) fun i j=> .bl (decide (j<i))
noncomputable def dGe:D->D->Option D:=dI2 (fun _ _=>true) fun i j=> .bl (decide (j<=i))
section
variable {X:Cx} {a b:Expr} {ma mb:ME} {pos:Pos}
theorem zbd (ha:SE X a ma)(hb:SE X b mb):SE X (.BinOp a .Sub b pos) (m2 dSub ma mb):=zmg op_sub v2_int0 ha hb
theorem znY (ha:SE X a ma)(hb:SE X b mb):SE X (.BinOp a .FloorDiv b pos) (m2 dDiv ma mb):=zmg op_fdivW (znm fun i j h=>by simpa[zmk]using h) ha hb
theorem zg1 (ha:SE X a ma)(hb:SE X b mb):SE X (.BinOp a .Mod b pos) (m2 dMod ma mb):=zmg op_mod (znm fun i j h=>by simpa using h) ha hb
theorem zgP (ha:SE X a ma)(hb:SE X b mb):SE X (.BinOp a .Pow b pos) (m2 dPow ma mb):=zmg op_pow (znm fun i j h=>by simp only[Bool.and_eq_true,decide_eq_true_eq]at h;exact⟨h.1.1,h.1.2,h.2⟩) ha hb
theorem se_lt (ha:SE X a ma)(hb:SE X b mb):SE X (.Compare a [.Lt] [b] pos) (m2 dLt ma mb):=zjB zjs zby ha hb (zgW _)
theorem se_le (ha:SE X a ma)(hb:SE X b mb):SE X (.Compare a [.LtE] [b] pos) (m2 dLe ma mb):=zjB ziA zby ha hb (zgW _)
end
noncomputable def dNeg:D->Option D
 | .int i=>some (.int (-i))
 |_=>none
theorem zng {ma:ME}(ha:SE X a ma):SE X (.UnaryOp .USub a pos) (m1 dNeg ma):=
 se_un un_neg (fun B G H σ ρ x a d Q I ra hf k=>by
  cases a<;>simp only[dNeg]at hf<;>try cases hf
  exact⟨_,ra,k G H _ I (Fz.refl G) rfl⟩) ha
noncomputable def zkz (i j:Int):Bool:=(decide (i.natAbs<2^64)||decide (j.natAbs<2^64))||(decide (i.natAbs<2^4000)&&decide (j.natAbs<2^4000))
noncomputable def dMul:D->D->Option D
 | .int i,.int j=>if zkz i j then some (.int (i*j))else none
 | .lst ds,.int k=>if decide (-1000000<=k)&&decide (k<=1000000)&&decide (ds.length*k.toNat<=1000000)then some (.lst (List.replicate k.toNat ds).flatten)else none
 |_,_=>none
theorem ziq {k:Int}(h:k.natAbs<2^4000):Builtin.Int.intBits k<=4000:=by
 unfold Builtin.Int.intBits
 split
 ·exact Nat.zero_le _
 ·have:k.natAbs.log2<4000:=by
   rcases Nat.eq_zero_or_pos k.natAbs with h0|hp
   ·rw[h0];decide
   ·exact(Nat.log2_lt (Nat.ne_of_gt hp)).mpr h
  lia
theorem mulOk_ok {i j:Int}(h:zkz i j=true):IntMulOk i j:=by
 unfold zkz at h
 simp only[Bool.or_eq_true,Bool.and_eq_true,decide_eq_true_eq]at h
 rcases h with(h|h)|⟨h1,h2⟩
 ·exact .of_left (intBits_le_64 (by lia) (by lia))
 ·exact .of_right (intBits_le_64 (by lia) (by lia))
 ·have b1:=ziq h1
  have b2:=ziq h2
  unfold IntMulOk
  intro z
  simp only[Bool.and_eq_true]at z
  have z2:=z.2
  unfold Builtin.Int.intTooBig at z2
  revert z2
  generalize Builtin.Int.intBits i=p at*
  generalize Builtin.Int.intBits j=q at*
  intro z2
  have z3:=of_decide_eq_true z2
  have hb:=bitsLine_eq
  lia
theorem op_mulG:OpR X (binaryOp .Mult) (rI IntMulOk fun i j=> .int (i*j)):=opI fun _ _ _ _ _ _ _ hc q=>mul_int q hc
theorem zcI {ma mb:ME}(ha:SE X a ma)(hb:SE X b mb):SE X (.BinOp a .Mult b pos) (m2 dMul ma mb):=by
 refine zmg (op_mulG.or op_rep) (fun B G H σ ρ x y a b d Q I ra rb hf k=>?_) ha hb
 cases a<;>cases b<;>simp only[dMul]at hf<;>try cases hf
 ·rename_i i j
  split at hf
  ·rename_i h
   cases hf
   exact .inl ⟨i,j,ra,rb,mulOk_ok h,k G H _ I (Fz.refl G) rfl⟩
  ·cases hf
 ·rename_i ds j
  split at hf
  ·rename_i h
   cases hf
   simp only[Bool.and_eq_true,decide_eq_true_eq]at h
   obtain⟨a,xs,rfl,ha,r⟩:=I.lst ra
   have hl:=r.length
   refine .inr ⟨a,j,xs,rfl,rb,ha,by lia,by lia,by rw[hl,sizeLine_eq];lia,fun p hp=>?_⟩
   obtain⟨I2,f2,r2⟩:=I.newL hp (r.rep j.toNat)
   exact k _ _ _ I2 f2 r2
  ·cases hf
noncomputable def dAdd:D->D->Option D
 | .int i,.int j=>some (.int (i+j))
 | .tup a,.tup b=>if a.length+b.length<=16777216 then some (.tup (a++b))else none
 | .lst a,.lst b=>if a.length+b.length<=16777216 then some (.lst (a++b))else none
 | .str a,.str b=>if a.length+b.length<=16777216 then some (.str (a++b))else none
 |_,_=>none
theorem op_catT0:OpR X (binaryOp .Add) (fun x y H Q=>∃a b ys,x= .ref a/\y= .ref b/\SqT X.K H a []/\SqT X.K H b ys/\Q (.ref b) H):=by
 intro pins s σ H x y v u Q I rx ry h
 obtain⟨a,b,ys,rfl,rfl,ha,hb,q⟩:=h
 cases rx
 cases ry
 obtain⟨its,r1,p1,_⟩:=I.tuple ha
 obtain⟨its2,r2,p2,_⟩:=I.tuple hb
 obtain rfl:its=[]:=by cases r1;rfl
 obtain⟨⟨cls,dd,data,sl⟩,ho,hc,n,hd⟩:=id p1
 obtain⟨⟨cls2,dd2,data2,sl2⟩,ho2,hc2,n2,hd2⟩:=id p2
 simp only at hc hd hc2 hd2
 subst hc hd hc2 hd2
 exact concat_meets ⟨_,ho,rfl⟩ ⟨_,ho2,rfl⟩ noFill_tuple_add seq_tuple_add PySem.F.slot_tuple_add PySem.F.entry_tuple_add (PySem.F.args_tuple_add_2 _ _)
   (tuple_addW0 a b _ _ n n2 dd dd2 sl sl2 (by simp)) ⟨ho,ho2,⟨.ref b,H,I,rfl,q⟩⟩
theorem zar {ma mb:ME}(ha:SE X a ma)(hb:SE X b mb):SE X (.BinOp a .Add b pos) (m2 dAdd ma mb):=by
 refine zmg (op_add.or (op_catT.or (op_catT0.or (op_cat.or zmm)))) (fun B G H σ ρ x y a b d Q I ra rb hf k=>?_) ha hb
 cases a<;>cases b<;>simp only[dAdd]at hf<;>try cases hf
 ·exact .inl ⟨_,_,ra,rb,k G H _ I (Fz.refl G) rfl⟩
 ·rename_i i j
  split at hf
  ·rename_i h
   cases hf
   exact .inr (.inr (.inr (.inr ⟨i,j,ra,rb,by rw[sizeLine_eq];exact h,k G H _ I (Fz.refl G) rfl⟩)))
  ·cases hf
 ·rename_i as bs
  split at hf
  ·rename_i h
   cases hf
   obtain⟨a,xs,rfl,ha,r⟩:=I.lst ra
   obtain⟨b,ys,rfl,hb,r2⟩:=I.lst rb
   refine .inr (.inr (.inr (.inl ⟨a,b,xs,ys,rfl,rfl,ha,hb,by rw[r.length,r2.length,sizeLine_eq];exact h,fun p hp=>?_⟩)))
   obtain⟨I2,f2,r2⟩:=I.newL hp (r.append r2)
   exact k _ _ _ I2 f2 r2
  ·cases hf
 ·rename_i as bs
  split at hf
  ·rename_i h
   cases hf
   obtain⟨a,xs,rfl,ha,r⟩:=I.tup ra
   obtain⟨b,ys,rfl,hb,r2⟩:=I.tup rb
   by_cases z:xs=[]
   ·subst z
    have z':as=[]:=List.eq_nil_of_length_eq_zero r.length.symm
    subst z'
    exact .inr (.inr (.inl ⟨a,b,ys,rfl,rfl,SqT.of ha,SqT.of hb,k G H _ I (Fz.refl G) rb⟩))
   ·refine .inr (.inl ⟨a,b,xs,ys,rfl,rfl,SqT.of ha,SqT.of hb,z,by rw[r.length,r2.length,sizeLine_eq];exact h,fun w=>?_,fun w p hp=>?_⟩)
    ·subst w
     have w':bs=[]:=List.eq_nil_of_length_eq_zero r2.length.symm
     subst w'
     rw[List.append_nil]at k
     exact k G H _ I (Fz.refl G) ra
    ·obtain⟨I2,f2,r2⟩:=I.newT hp (r.append r2)
     exact k _ _ _ I2 f2 r2
  ·cases hf
mutual
noncomputable def noS:D->Bool
 | .scr _=>false
 | .exc _=>false
 | .dic _ _=>false
 | .dit _ _=>false
 | .lst ds=>noSL ds
 | .tup ds=>noSL ds
 |_=>true
noncomputable def noSL:List D->Bool
 |[]=>true
 |d::ds=>noS d&&noSL ds
end
mutual
noncomputable def eqB:D->D->Bool
 | .non,.non=>true
 | .bl a,.bl b=>a==b
 | .int a,.int b=>a==b
 | .str a,.str b=>a==b
 | .bl a,.int b=>(if a then 1 else 0)==b
 | .int a,.bl b=>a==(if b then 1 else 0)
 | .lst a,.lst b=>eqBL a b
 | .tup a,.tup b=>eqBL a b
 |_,_=>false
noncomputable def eqBL:List D->List D->Bool
 |[],[]=>true
 |a::as,b::bs=>eqB a b&&eqBL as bs
 |_,_=>false
end
theorem zfY:∀{as bs:List D},as.length≠bs.length->eqBL as bs=false
 |[],[],h=>absurd rfl h
 |[],_::_,_=>rfl
 |_::_,[],_=>rfl
 |a::as,b::bs,h=>by
  have:=zfY (as:=as) (bs:=bs) (fun e=>h (by simp[e]))
  simp[eqBL,this]
mutual
theorem zjc:∀d,noS d=true->eqB d d=true
 | .non,_=>rfl
 | .bl b,_=>by simp[eqB]
 | .int b,_=>by simp[eqB]
 | .str b,_=>by simp[eqB]
 | .lst ds,h=>by simp only[noS]at h;simp only[eqB];exact zhF ds h
 | .tup ds,h=>by simp only[noS]at h;simp only[eqB];exact zhF ds h
 | .scr _,h=>by simp[noS]at h
 | .exc _,h=>by simp[noS]at h
 |(.dic _ _),h=>by simp[noS]at h
 |(.dit _ _),h=>by simp[noS]at h
theorem zhF:∀ds,noSL ds=true->eqBL ds ds=true
 |[],_=>rfl
 |d::ds,h=>by
  simp only[noSL,Bool.and_eq_true]at h
  simp only[eqBL,Bool.and_eq_true]
  exact⟨zjc d h.1,zhF ds h.2⟩
end
mutual
noncomputable def depth:D->Nat
 | .lst ds=>zff ds+1
 | .tup ds=>zff ds+1
 |_=>0
noncomputable def zff:List D->Nat
 |[]=>0
 |d::ds=>max (depth d) (zff ds)
end
theorem zgB:∀{l:List D} {i:Nat} {d:D},l[i]? =some d->depth d<=zff l
 |[],_,_,h=>by simp at h
 |c::l,0,d,h=>by simp at h;subst h;simp only[zff];lia
 |c::l,i+1,d,h=>by
  have:=zgB (l:=l) (i:=i) (d:=d) (by simpa using h)
  simp only[zff];lia
theorem zfX:∀{l:List D} {i:Nat} {d:D},l[i]? =some d->noSL l=true->noS d=true
 |[],_,_,h,_=>by simp at h
 |c::l,0,d,h,z=>by simp at h;subst h;simp only[noSL,Bool.and_eq_true]at z;exact z.1
 |c::l,i+1,d,h,z=>by simp only[noSL,Bool.and_eq_true]at z;exact zfX (l:=l) (i:=i) (by simpa using h) z.2
mutual
theorem RepD.inj:∀{a b:D} {x:V},noS a=true->noS b=true->RepD K G x a->RepD K G x b->a=b
 | .non,b,x,_,nb,ra,rb=>by
  cases(show x=V.non from ra)
  cases b<;>simp_all [RepD,noS]
 | .bl c,b,x,_,nb,ra,rb=>by
  cases(show x=V.bl c from ra)
  cases b<;>simp_all [RepD,noS]
 | .int c,b,x,_,nb,ra,rb=>by
  cases(show x=V.int c from ra)
  cases b<;>simp_all [RepD,noS]
 | .str c,b,x,_,nb,ra,rb=>by
  cases(show x=V.str c from ra)
  cases b<;>simp_all [RepD,noS]
 | .lst ds,b,x,na,nb,ra,rb=>by
  obtain⟨p,xs,rfl,q,r⟩:=ra
  cases b with
  |lst es=>
   obtain⟨p2,ys,e,q2,r2⟩:=rb
   cases e
   rw[q]at q2
   cases q2
   simp only[noS]at na nb
   rw[RepL.inj na nb r r2]
  |tup es=>
   obtain⟨p2,ys,e,q2,r2⟩:=rb
   cases e
   rw[q]at q2
   cases q2
  |scr _=>simp[noS]at nb
  |exc _=>simp[noS]at nb
  |dic _ _=>simp[noS]at nb
  |dit _ _=>simp[noS]at nb
  |non=>simp[RepD]at rb
  |bl _=>simp[RepD]at rb
  |int _=>simp[RepD]at rb
  |str _=>simp[RepD]at rb
 | .tup ds,b,x,na,nb,ra,rb=>by
  obtain⟨p,xs,rfl,q,r⟩:=ra
  cases b with
  |tup es=>
   obtain⟨p2,ys,e,q2,r2⟩:=rb
   cases e
   rw[q]at q2
   cases q2
   simp only[noS]at na nb
   rw[RepL.inj na nb r r2]
  |lst es=>
   obtain⟨p2,ys,e,q2,r2⟩:=rb
   cases e
   rw[q]at q2
   cases q2
  |scr _=>simp[noS]at nb
  |exc _=>simp[noS]at nb
  |dic _ _=>simp[noS]at nb
  |dit _ _=>simp[noS]at nb
  |non=>simp[RepD]at rb
  |bl _=>simp[RepD]at rb
  |int _=>simp[RepD]at rb
  |str _=>simp[RepD]at rb
 | .scr _,_,_,na,_,_,_=>by simp[noS]at na
 | .exc _,_,_,na,_,_,_=>by simp[noS]at na
 |(.dic _ _),_,_,na,_,_,_=>by simp[noS]at na
 |(.dit _ _),_,_,na,_,_,_=>by simp[noS]at na
theorem RepL.inj:∀{as bs:List D} {xs:List V},noSL as=true->noSL bs=true->RepL K G xs as->RepL K G xs bs->as=bs
 |[],[],_,_,_,_,_=>rfl
 |[],_::_,xs,_,_,e,h=>by
  obtain⟨_,_,e2,_⟩:=h
  cases(show xs=[]from e)
  cases e2
 |_::_,[],xs,_,_,h,e=>by
  obtain⟨_,_,e2,_⟩:=h
  cases(show xs=[]from e)
  cases e2
 |a::as,b::bs,xs,na,nb,h,h2=>by
  obtain⟨x,ys,e,q,r⟩:=h
  obtain⟨x2,ys2,e2,q2,r2⟩:=h2
  subst e
  cases e2
  simp only[noSL,Bool.and_eq_true]at na nb
  rw[RepD.inj na.1 nb.1 q q2,RepL.inj na.2 nb.2 r r2]
end
noncomputable def eqJ (ds es:List D)(j:Nat):Bool:=match ds[j]?,es[j]? with
 |some a,some b=>eqB a b
 |_,_=>false
theorem zdu:∀(as bs:List D),as.length=bs.length->(List.range as.length).all (eqJ as bs)=eqBL as bs
 |[],[],_=>by simp[eqBL]
 |a::as,b::bs,h=>by
  have ih:=zdu as bs (by simpa using h)
  rw[List.length_cons,List.range_succ_eq_map,List.all_cons,List.all_map]
  simp only[eqBL,<-ih]
  congr 1
 |[],_::_,h=>by simp at h
 |_::_,[],h=>by simp at h
section
variable {X:Cx} {pins:List (Addr×Obj)} {σ:St} {H G:Hp} {s:Shared}
theorem ziB (r:Vals xs us)(h:RepL X.K G xs ds)(e:us[j]? =some u):∃x d,ds[j]? =some d/\RelV x u/\RepD X.K G x d:=by
 have hl:=r.length
 have hl2:=h.length
 have hj:j<us.length:=(List.getElem?_eq_some_iff.mp e).1
 have ej:ds[j]? =some ds[j]:=List.getElem?_eq_getElem (by lia)
 obtain⟨x,q1,q2⟩:=h.get ej
 obtain⟨u',h1,h2⟩:=r.get q1
 have:u'=u:=by rw[h1]at e;exact Option.some.inj e
 subst this
 exact⟨x,_,ej,h2,q2⟩
theorem eqAt_D (I:Inv X pins σ H s)(fz:Fz G H):∀(n:Nat) (A:Around) (a b:D) (x y:V) (u v:Value),depth a<=n->noS a=true->noS b=true->A.units+n+1<cLine->RepD X.K G x a->RepD X.K G y b->RelV x u->RelV y v->
  SeqAt.EqAt A s u v (eqB a b)/\SeqAt.RcAt A s u v (eqB a b):=by
 intro n
 induction n with
 |zero=>
  intro A a b x y u v hd na nb hu ra rb rx ry
  have hu':A.units<cLine:=by lia
  cases a with
  |non=>
   cases(show x=V.non from ra);cases(show u=Value.none from rx)
   cases b with
   |non=>cases(show y=V.non from rb);cases(show v=Value.none from ry);exact⟨.same _,.none_none⟩
   |bl c=>cases(show y=V.bl c from rb);cases(show v=Value.bool c from ry);exact⟨.none_bool _,.none_bool _⟩
   |int c=>cases(show y=V.int c from rb);obtain⟨t,rfl⟩:=ry;exact⟨.none_int _ _,.none_int _ _⟩
   |str c=>cases(show y=V.str c from rb);obtain⟨t,rfl⟩:=ry;exact⟨.none_str _ _,.none_str _ _⟩
   |lst ds=>
    obtain⟨p,xs,rfl,q,r⟩:=rb
    cases(show v=Value.ref p from ry)
    obtain⟨its,rv,pl,hz⟩:=I.list (SqL.of (fz _ _ q))
    exact⟨.none_list pl.isList hu',.none_list pl.isList hu'⟩
   |tup ds=>
    obtain⟨p,xs,rfl,q,r⟩:=rb
    cases(show v=Value.ref p from ry)
    obtain⟨its,rv,pl,hz⟩:=I.tuple (SqT.of (fz _ _ q))
    exact⟨.none_tuple pl hu',.none_tuple pl hu'⟩
   |scr _=>simp[noS]at nb
   |exc _=>simp[noS]at nb
   |dic _ _=>simp[noS]at nb
   |dit _ _=>simp[noS]at nb
  |bl c0=>
   cases(show x=V.bl c0 from ra);cases(show u=Value.bool c0 from rx)
   cases b with
   |non=>cases(show y=V.non from rb);cases(show v=Value.none from ry);exact⟨.bool_none _,.bool_none _⟩
   |bl c=>cases(show y=V.bl c from rb);cases(show v=Value.bool c from ry);exact⟨.bool_bool _ _,.bool_bool _ _⟩
   |int c=>cases(show y=V.int c from rb);obtain⟨t,rfl⟩:=ry;exact⟨.bool_int _ _ _,.bool_int _ _ _⟩
   |str c=>cases(show y=V.str c from rb);obtain⟨t,rfl⟩:=ry;exact⟨.bool_str _ _ _,.bool_str _ _ _⟩
   |lst ds=>
    obtain⟨p,xs,rfl,q,r⟩:=rb
    cases(show v=Value.ref p from ry)
    obtain⟨its,rv,pl,hz⟩:=I.list (SqL.of (fz _ _ q))
    exact⟨.bool_list _ pl.isList hu',.bool_list _ pl.isList hu'⟩
   |tup ds=>
    obtain⟨p,xs,rfl,q,r⟩:=rb
    cases(show v=Value.ref p from ry)
    obtain⟨its,rv,pl,hz⟩:=I.tuple (SqT.of (fz _ _ q))
    exact⟨.bool_tuple _ pl hu',.bool_tuple _ pl hu'⟩
   |scr _=>simp[noS]at nb
   |exc _=>simp[noS]at nb
   |dic _ _=>simp[noS]at nb
   |dit _ _=>simp[noS]at nb
  |int c0=>
   cases(show x=V.int c0 from ra);obtain⟨t0,rfl⟩:=rx
   cases b with
   |non=>cases(show y=V.non from rb);cases(show v=Value.none from ry);exact⟨.int_none _ _,.int_none _ _⟩
   |bl c=>cases(show y=V.bl c from rb);cases(show v=Value.bool c from ry);exact⟨.int_bool _ _ _,.int_bool _ _ _⟩
   |int c=>cases(show y=V.int c from rb);obtain⟨t,rfl⟩:=ry;exact⟨.int_int _ _ _ _,.int_int _ _ _ _⟩
   |str c=>cases(show y=V.str c from rb);obtain⟨t,rfl⟩:=ry;exact⟨.int_str _ _ _ _,.int_str _ _ _ _⟩
   |lst ds=>
    obtain⟨p,xs,rfl,q,r⟩:=rb
    cases(show v=Value.ref p from ry)
    obtain⟨its,rv,pl,hz⟩:=I.list (SqL.of (fz _ _ q))
    exact⟨.int_list _ _ pl.isList hu',.int_list _ _ pl.isList hu'⟩
   |tup ds=>
    obtain⟨p,xs,rfl,q,r⟩:=rb
    cases(show v=Value.ref p from ry)
    obtain⟨its,rv,pl,hz⟩:=I.tuple (SqT.of (fz _ _ q))
    exact⟨.int_tuple _ _ pl hu',.int_tuple _ _ pl hu'⟩
   |scr _=>simp[noS]at nb
   |exc _=>simp[noS]at nb
   |dic _ _=>simp[noS]at nb
   |dit _ _=>simp[noS]at nb
  |str c0=>
   cases(show x=V.str c0 from ra);obtain⟨t0,rfl⟩:=rx
   cases b with
   |non=>cases(show y=V.non from rb);cases(show v=Value.none from ry);exact⟨.str_none _ _,.str_none _ _⟩
   |bl c=>cases(show y=V.bl c from rb);cases(show v=Value.bool c from ry);exact⟨.str_bool _ _ _,.str_bool _ _ _⟩
   |int c=>cases(show y=V.int c from rb);obtain⟨t,rfl⟩:=ry;exact⟨.str_int _ _ _ _,.str_int _ _ _ _⟩
   |str c=>cases(show y=V.str c from rb);obtain⟨t,rfl⟩:=ry;exact⟨.str_str _ _ _ _,.str_str _ _ _ _⟩
   |lst ds=>
    obtain⟨p,xs,rfl,q,r⟩:=rb
    cases(show v=Value.ref p from ry)
    obtain⟨its,rv,pl,hz⟩:=I.list (SqL.of (fz _ _ q))
    exact⟨.str_list _ _ pl.isList hu',.str_list _ _ pl.isList hu'⟩
   |tup ds=>
    obtain⟨p,xs,rfl,q,r⟩:=rb
    cases(show v=Value.ref p from ry)
    obtain⟨its,rv,pl,hz⟩:=I.tuple (SqT.of (fz _ _ q))
    exact⟨.str_tuple _ _ pl hu',.str_tuple _ _ pl hu'⟩
   |scr _=>simp[noS]at nb
   |exc _=>simp[noS]at nb
   |dic _ _=>simp[noS]at nb
   |dit _ _=>simp[noS]at nb
  |lst ds=>simp[depth]at hd
  |tup ds=>simp[depth]at hd
  |scr _=>simp[noS]at na
  |exc _=>simp[noS]at na
  |dic _ _=>simp[noS]at na
  |dit _ _=>simp[noS]at na
 |succ n ih=>
  intro A a b x y u v hd na nb hu ra rb rx ry
  have hu':A.units<cLine:=by lia
  have items:∀(ds es:List D) (xs ys:List V) (its its2:List Value),zff ds<=n->noSL ds=true->noSL es=true->RepL X.K G xs ds->RepL X.K G ys es->Vals xs its->Vals ys its2->
    ∀j (h1:j<its.toArray.size) (h2:j<its2.toArray.size),SeqAt.EqAt A.in1 s its.toArray[j] its2.toArray[j] (eqJ ds es j):=by
   intro ds es xs ys its its2 hd nd ne r r2 rv rv2 j h1 h2
   simp only[List.size_toArray]at h1 h2
   obtain⟨x1,d1,e1,k1,m1⟩:=ziB rv r (j:=j) (u:=its[j]) (List.getElem?_eq_getElem h1)
   obtain⟨x2,d2,e2,k2,m2⟩:=ziB rv2 r2 (j:=j) (u:=its2[j]) (List.getElem?_eq_getElem h2)
   have e:eqJ ds es j=eqB d1 d2:=by unfold eqJ;rw[e1,e2]
   rw[e]
   have:=zgB e1
   simpa using(ih A.in1 d1 d2 x1 x2 _ _ (by lia) (zfX e1 nd) (zfX e2 ne) (by show A.units+1+n+1<cLine;lia) m1 m2 k1 k2).1
  cases a with
  |scr _=>simp[noS]at na
  |exc _=>simp[noS]at na
  |dic _ _=>simp[noS]at na
  |dit _ _=>simp[noS]at na
  |non=>exact ih A .non b x y u v (Nat.zero_le _) na nb (by lia) ra rb rx ry
  |bl c=>exact ih A (.bl c) b x y u v (Nat.zero_le _) na nb (by lia) ra rb rx ry
  |int c=>exact ih A (.int c) b x y u v (Nat.zero_le _) na nb (by lia) ra rb rx ry
  |str c=>exact ih A (.str c) b x y u v (Nat.zero_le _) na nb (by lia) ra rb rx ry
  |lst ds=>
   have ra0:=ra
   obtain⟨p,xs,rfl,q,r⟩:=ra
   cases(show u=Value.ref p from rx)
   obtain⟨its,rv,pl,hz⟩:=I.list (SqL.of (fz _ _ q))
   cases b with
   |non=>cases(show y=V.non from rb);cases(show v=Value.none from ry);exact⟨.list_none pl.isList hu',.list_none pl.isList hu'⟩
   |bl c=>cases(show y=V.bl c from rb);cases(show v=Value.bool c from ry);exact⟨.list_bool _ pl.isList hu',.list_bool _ pl.isList hu'⟩
   |int c=>cases(show y=V.int c from rb);obtain⟨t,rfl⟩:=ry;exact⟨.list_int _ _ pl.isList hu',.list_int _ _ pl.isList hu'⟩
   |str c=>cases(show y=V.str c from rb);obtain⟨t,rfl⟩:=ry;exact⟨.list_str _ _ pl.isList hu',.list_str _ _ pl.isList hu'⟩
   |scr _=>simp[noS]at nb
   |exc _=>simp[noS]at nb
   |dic _ _=>simp[noS]at nb
   |dit _ _=>simp[noS]at nb
   |tup es=>
    obtain⟨p2,ys,rfl,q2,r2⟩:=rb
    cases(show v=Value.ref p2 from ry)
    obtain⟨its2,rv2,pl2,hz2⟩:=I.tuple (SqT.of (fz _ _ q2))
    exact⟨.list_tuple pl.isList pl2 hu',.list_tuple pl.isList pl2 hu'⟩
   |lst es=>
    have rb0:=rb
    obtain⟨p2,ys,rfl,q2,r2⟩:=rb
    cases(show v=Value.ref p2 from ry)
    obtain⟨its2,rv2,pl2,hz2⟩:=I.list (SqL.of (fz _ _ q2))
    simp only[depth]at hd
    have l1:=rv.length;have l2:=r.length;have l3:=rv2.length;have l4:=r2.length
    have rc:SeqAt.RcAt A s (.ref p) (.ref p2) (eqBL ds es):=by
     by_cases hl:ds.length=es.length
     ·have z:=SeqAt.RcAt.lists (A:=A) (s:=s) (e:=eqJ ds es) pl.isList pl2.isList (by simp only[List.size_toArray];lia) hu' (items ds es xs ys its its2 (by lia) (by simpa only[noS]using na) (by simpa only[noS]using nb) r r2 rv rv2)
      rw[List.size_toArray,<-l1,l2,zdu ds es hl]at z
      exact z
     ·rw[zfY hl]
      refine .lists_lengths pl.isList pl2.isList ?_ hu'
      simp only[List.size_toArray,bne_iff_ne,ne_eq]
      lia
    refine⟨?_,by simp only[eqB];exact rc⟩
    by_cases hp:p=p2
    ·subst hp
     have e:=RepD.inj na nb ra0 rb0
     cases e
     rw[zjc _ na]
     exact .same _
    ·simp only[eqB]
     exact .of_refs hp rc
  |tup ds=>
   have ra0:=ra
   obtain⟨p,xs,rfl,q,r⟩:=ra
   cases(show u=Value.ref p from rx)
   obtain⟨its,rv,pl,hz⟩:=I.tuple (SqT.of (fz _ _ q))
   cases b with
   |non=>cases(show y=V.non from rb);cases(show v=Value.none from ry);exact⟨.tuple_none pl hu',.tuple_none pl hu'⟩
   |bl c=>cases(show y=V.bl c from rb);cases(show v=Value.bool c from ry);exact⟨.tuple_bool _ pl hu',.tuple_bool _ pl hu'⟩
   |int c=>cases(show y=V.int c from rb);obtain⟨t,rfl⟩:=ry;exact⟨.tuple_int _ _ pl hu',.tuple_int _ _ pl hu'⟩
   |str c=>cases(show y=V.str c from rb);obtain⟨t,rfl⟩:=ry;exact⟨.tuple_str _ _ pl hu',.tuple_str _ _ pl hu'⟩
   |scr _=>simp[noS]at nb
   |exc _=>simp[noS]at nb
   |dic _ _=>simp[noS]at nb
   |dit _ _=>simp[noS]at nb
   |lst es=>
    obtain⟨p2,ys,rfl,q2,r2⟩:=rb
    cases(show v=Value.ref p2 from ry)
    obtain⟨its2,rv2,pl2,hz2⟩:=I.list (SqL.of (fz _ _ q2))
    exact⟨.tuple_list pl pl2.isList hu',.tuple_list pl pl2.isList hu'⟩
   |tup es=>
    have rb0:=rb
    obtain⟨p2,ys,rfl,q2,r2⟩:=rb
    cases(show v=Value.ref p2 from ry)
    obtain⟨its2,rv2,pl2,hz2⟩:=I.tuple (SqT.of (fz _ _ q2))
    simp only[depth]at hd
    have l1:=rv.length;have l2:=r.length;have l3:=rv2.length;have l4:=r2.length
    have rc:SeqAt.RcAt A s (.ref p) (.ref p2) (eqBL ds es):=by
     have z:=SeqAt.RcAt.tuples (A:=A) (s:=s) (e:=eqJ ds es) pl pl2 hu' (items ds es xs ys its its2 (by lia) (by simpa only[noS]using na) (by simpa only[noS]using nb) r r2 rv rv2)
     simp only[List.size_toArray]at z
     by_cases hl:ds.length=es.length
     ·have e1:min its.length its2.length=ds.length:=by lia
      have e2:(its.length==its2.length)=true:=by simp;lia
      rw[e1,e2,Bool.and_true,zdu ds es hl]at z
      exact z
     ·have e2:(its.length==its2.length)=false:=by simp;lia
      rw[e2,Bool.and_false]at z
      rw[zfY hl]
      exact z
    refine⟨?_,by simp only[eqB];exact rc⟩
    by_cases hp:p=p2
    ·subst hp
     have e:=RepD.inj na nb ra0 rb0
     cases e
     rw[zjc _ na]
     exact .same _
    ·simp only[eqB]
     exact .of_refs hp rc
end
noncomputable def dEq (a b:D):Option D:=if noS a&&noS b&&decide (depth a<=50)then some (.bl (eqB a b))else none
noncomputable def dNe (a b:D):Option D:=if noS a&&noS b&&decide (depth a<=50)then some (.bl (!eqB a b))else none
noncomputable def rEqD (K:W.Frag)(c:Bool->Bool):R2:=fun x y H Q=>∃G a b,Fz G H/\RepD K G x a/\RepD K G y b/\noS a=true/\noS b=true/\depth a<=50/\Q (.bl (c (eqB a b))) H
theorem op_eqD (hu:X.A.units+64<cLine):OpR X (compareOp .Eq) (rEqD X.K id):=by
 intro pins s σ H x y v u Q I rx ry h
 obtain⟨G,a,b,fz,ra,rb,na,nb,hd,q⟩:=h
 exact(eqAt_D I fz 50 X.A a b x y v u hd na nb (by lia) ra rb rx ry).2 _ _ _ _ ⟨.bl _,H,I,rfl,q⟩
theorem se_eq {ma mb:ME}(hu:X.A.units+64<cLine)(ha:SE X a ma)(hb:SE X b mb):SE X (.Compare a [.Eq] [b] pos) (m2 dEq ma mb):=by
 refine zjB (op_eqD hu) (fun B G H σ ρ x y a b d Q I ra rb hf k=>?_) ha hb (zgW _)
 unfold dEq at hf
 split at hf
 ·rename_i h
  simp only[Bool.and_eq_true,decide_eq_true_eq]at h
  cases hf
  exact⟨G,a,b,I.fz,ra,rb,h.1.1,h.1.2,h.2,k G H _ I (Fz.refl G) rfl⟩
 ·cases hf
section
variable {X:Cx} {pins:List (Addr×Obj)} {σ:St} {H G:Hp} {s:Shared}
theorem neAt_D (I:Inv X pins σ H s)(fz:Fz G H)(A:Around)(a b:D)(x y:V)(u v:Value)(hd:depth a<=50)(na:noS a=true)(nb:noS b=true)(hu:A.units+64<cLine)(ra:RepD X.K G x a)(rb:RepD X.K G y b)(rx:RelV x u)(ry:RelV y v):
  SeqAt.RcNeAt A s u v (!eqB a b):=by
 have hu':A.units<cLine:=by lia
 have items:∀(ds es:List D) (xs ys:List V) (its its2:List Value),zff ds<=49->noSL ds=true->noSL es=true->RepL X.K G xs ds->RepL X.K G ys es->Vals xs its->Vals ys its2->
   ∀j (h1:j<its.toArray.size) (h2:j<its2.toArray.size),SeqAt.EqAt A.in1 s its.toArray[j] its2.toArray[j] (eqJ ds es j):=by
  intro ds es xs ys its its2 hd nd ne r r2 rv rv2 j h1 h2
  simp only[List.size_toArray]at h1 h2
  obtain⟨x1,d1,e1,k1,m1⟩:=ziB rv r (j:=j) (u:=its[j]) (List.getElem?_eq_getElem h1)
  obtain⟨x2,d2,e2,k2,m2⟩:=ziB rv2 r2 (j:=j) (u:=its2[j]) (List.getElem?_eq_getElem h2)
  have e:eqJ ds es j=eqB d1 d2:=by unfold eqJ;rw[e1,e2]
  rw[e]
  have:=zgB e1
  simpa using(eqAt_D I fz 49 A.in1 d1 d2 x1 x2 _ _ (by lia) (zfX e1 nd) (zfX e2 ne) (by show A.units+1+49+1<cLine;lia) m1 m2 k1 k2).1
 cases a with
 |scr _=>simp[noS]at na
 |exc _=>simp[noS]at na
 |dic _ _=>simp[noS]at na
 |dit _ _=>simp[noS]at na
 |non=>
  cases(show x=V.non from ra);cases(show u=Value.none from rx)
  cases b with
  |non=>cases(show y=V.non from rb);cases(show v=Value.none from ry);exact .none_none
  |bl c=>cases(show y=V.bl c from rb);cases(show v=Value.bool c from ry);exact .none_bool _
  |int c=>cases(show y=V.int c from rb);obtain⟨t,rfl⟩:=ry;exact .none_int _ _
  |str c=>cases(show y=V.str c from rb);obtain⟨t,rfl⟩:=ry;exact .none_str _ _
  |lst ds=>
   obtain⟨p,xs,rfl,q,r⟩:=rb
   cases(show v=Value.ref p from ry)
   obtain⟨its,rv,pl,hz⟩:=I.list (SqL.of (fz _ _ q))
   exact .none_list pl.isList hu'
  |tup ds=>
   obtain⟨p,xs,rfl,q,r⟩:=rb
   cases(show v=Value.ref p from ry)
   obtain⟨its,rv,pl,hz⟩:=I.tuple (SqT.of (fz _ _ q))
   exact .none_tuple pl hu'
  |scr _=>simp[noS]at nb
  |exc _=>simp[noS]at nb
  |dic _ _=>simp[noS]at nb
  |dit _ _=>simp[noS]at nb
 |bl c0=>
  cases(show x=V.bl c0 from ra);cases(show u=Value.bool c0 from rx)
  cases b with
  |non=>cases(show y=V.non from rb);cases(show v=Value.none from ry);exact .bool_none _
  |bl c=>cases(show y=V.bl c from rb);cases(show v=Value.bool c from ry);exact .bool_bool _ _
  |int c=>cases(show y=V.int c from rb);obtain⟨t,rfl⟩:=ry;exact .bool_int _ _ _
  |str c=>cases(show y=V.str c from rb);obtain⟨t,rfl⟩:=ry;exact .bool_str _ _ _
  |lst ds=>
   obtain⟨p,xs,rfl,q,r⟩:=rb
   cases(show v=Value.ref p from ry)
   obtain⟨its,rv,pl,hz⟩:=I.list (SqL.of (fz _ _ q))
   exact .bool_list _ pl.isList hu'
  |tup ds=>
   obtain⟨p,xs,rfl,q,r⟩:=rb
   cases(show v=Value.ref p from ry)
   obtain⟨its,rv,pl,hz⟩:=I.tuple (SqT.of (fz _ _ q))
   exact .bool_tuple _ pl hu'
  |scr _=>simp[noS]at nb
  |exc _=>simp[noS]at nb
  |dic _ _=>simp[noS]at nb
  |dit _ _=>simp[noS]at nb
 |int c0=>
  cases(show x=V.int c0 from ra);obtain⟨t0,rfl⟩:=rx
  cases b with
  |non=>cases(show y=V.non from rb);cases(show v=Value.none from ry);exact .int_none _ _
  |bl c=>cases(show y=V.bl c from rb);cases(show v=Value.bool c from ry);exact .int_bool _ _ _
  |int c=>cases(show y=V.int c from rb);obtain⟨t,rfl⟩:=ry;exact .int_int _ _ _ _
  |str c=>cases(show y=V.str c from rb);obtain⟨t,rfl⟩:=ry;exact .int_str _ _ _ _
  |lst ds=>
   obtain⟨p,xs,rfl,q,r⟩:=rb
   cases(show v=Value.ref p from ry)
   obtain⟨its,rv,pl,hz⟩:=I.list (SqL.of (fz _ _ q))
   exact .int_list _ _ pl.isList hu'
  |tup ds=>
   obtain⟨p,xs,rfl,q,r⟩:=rb
   cases(show v=Value.ref p from ry)
   obtain⟨its,rv,pl,hz⟩:=I.tuple (SqT.of (fz _ _ q))
   exact .int_tuple _ _ pl hu'
  |scr _=>simp[noS]at nb
  |exc _=>simp[noS]at nb
  |dic _ _=>simp[noS]at nb
  |dit _ _=>simp[noS]at nb
 |str c0=>
  cases(show x=V.str c0 from ra);obtain⟨t0,rfl⟩:=rx
  cases b with
  |non=>cases(show y=V.non from rb);cases(show v=Value.none from ry);exact .str_none _ _
  |bl c=>cases(show y=V.bl c from rb);cases(show v=Value.bool c from ry);exact .str_bool _ _ _
  |int c=>cases(show y=V.int c from rb);obtain⟨t,rfl⟩:=ry;exact .str_int _ _ _ _
  |str c=>cases(show y=V.str c from rb);obtain⟨t,rfl⟩:=ry;exact .str_str _ _ _ _
  |lst ds=>
   obtain⟨p,xs,rfl,q,r⟩:=rb
   cases(show v=Value.ref p from ry)
   obtain⟨its,rv,pl,hz⟩:=I.list (SqL.of (fz _ _ q))
   exact .str_list _ _ pl.isList hu'
  |tup ds=>
   obtain⟨p,xs,rfl,q,r⟩:=rb
   cases(show v=Value.ref p from ry)
   obtain⟨its,rv,pl,hz⟩:=I.tuple (SqT.of (fz _ _ q))
   exact .str_tuple _ _ pl hu'
  |scr _=>simp[noS]at nb
  |exc _=>simp[noS]at nb
  |dic _ _=>simp[noS]at nb
  |dit _ _=>simp[noS]at nb
 |lst ds=>
  obtain⟨p,xs,rfl,q,r⟩:=ra
  cases(show u=Value.ref p from rx)
  obtain⟨its,rv,pl,hz⟩:=I.list (SqL.of (fz _ _ q))
  cases b with
  |non=>cases(show y=V.non from rb);cases(show v=Value.none from ry);exact .list_none pl.isList hu'
  |bl c=>cases(show y=V.bl c from rb);cases(show v=Value.bool c from ry);exact .list_bool _ pl.isList hu'
  |int c=>cases(show y=V.int c from rb);obtain⟨t,rfl⟩:=ry;exact .list_int _ _ pl.isList hu'
  |str c=>cases(show y=V.str c from rb);obtain⟨t,rfl⟩:=ry;exact .list_str _ _ pl.isList hu'
  |scr _=>simp[noS]at nb
  |exc _=>simp[noS]at nb
  |dic _ _=>simp[noS]at nb
  |dit _ _=>simp[noS]at nb
  |tup es=>
   obtain⟨p2,ys,rfl,q2,r2⟩:=rb
   cases(show v=Value.ref p2 from ry)
   obtain⟨its2,rv2,pl2,hz2⟩:=I.tuple (SqT.of (fz _ _ q2))
   exact .list_tuple pl.isList pl2 hu'
  |lst es=>
   obtain⟨p2,ys,rfl,q2,r2⟩:=rb
   cases(show v=Value.ref p2 from ry)
   obtain⟨its2,rv2,pl2,hz2⟩:=I.list (SqL.of (fz _ _ q2))
   simp only[depth]at hd
   have l1:=rv.length;have l2:=r.length;have l3:=rv2.length;have l4:=r2.length
   simp only[eqB]
   by_cases hl:ds.length=es.length
   ·have z:=SeqAt.RcNeAt.lists (A:=A) (s:=s) (e:=eqJ ds es) pl.isList pl2.isList (by simp only[List.size_toArray];lia) hu' (items ds es xs ys its its2 (by lia) (by simpa only[noS]using na) (by simpa only[noS]using nb) r r2 rv rv2)
    rw[List.size_toArray,<-l1,l2,zdu ds es hl]at z
    exact z
   ·rw[zfY hl]
    refine .lists_lengths pl.isList pl2.isList ?_ hu'
    simp only[List.size_toArray,bne_iff_ne,ne_eq]
    lia
 |tup ds=>
  obtain⟨p,xs,rfl,q,r⟩:=ra
  cases(show u=Value.ref p from rx)
  obtain⟨its,rv,pl,hz⟩:=I.tuple (SqT.of (fz _ _ q))
  cases b with
  |non=>cases(show y=V.non from rb);cases(show v=Value.none from ry);exact .tuple_none pl hu'
  |bl c=>cases(show y=V.bl c from rb);cases(show v=Value.bool c from ry);exact .tuple_bool _ pl hu'
  |int c=>cases(show y=V.int c from rb);obtain⟨t,rfl⟩:=ry;exact .tuple_int _ _ pl hu'
  |str c=>cases(show y=V.str c from rb);obtain⟨t,rfl⟩:=ry;exact .tuple_str _ _ pl hu'
  |scr _=>simp[noS]at nb
  |exc _=>simp[noS]at nb
  |dic _ _=>simp[noS]at nb
  |dit _ _=>simp[noS]at nb
  |lst es=>
   obtain⟨p2,ys,rfl,q2,r2⟩:=rb
   cases(show v=Value.ref p2 from ry)
   obtain⟨its2,rv2,pl2,hz2⟩:=I.list (SqL.of (fz _ _ q2))
   exact .tuple_list pl pl2.isList hu'
  |tup es=>
   obtain⟨p2,ys,rfl,q2,r2⟩:=rb
   cases(show v=Value.ref p2 from ry)
   obtain⟨its2,rv2,pl2,hz2⟩:=I.tuple (SqT.of (fz _ _ q2))
   simp only[depth]at hd
   have l1:=rv.length;have l2:=r.length;have l3:=rv2.length;have l4:=r2.length
   have z:=SeqAt.RcNeAt.tuples (A:=A) (s:=s) (e:=eqJ ds es) pl pl2 hu' (items ds es xs ys its its2 (by lia) (by simpa only[noS]using na) (by simpa only[noS]using nb) r r2 rv rv2)
   simp only[List.size_toArray]at z
   simp only[eqB]
   by_cases hl:ds.length=es.length
   ·have e1:min its.length its2.length=ds.length:=by lia
    have e2:(its.length==its2.length)=true:=by simp;lia
    rw[e1,e2,Bool.and_true,zdu ds es hl]at z
    exact z
   ·have e2:(its.length==its2.length)=false:=by simp;lia
    rw[e2,Bool.and_false]at z
    rw[zfY hl]
    exact z
end
theorem op_neD (hu:X.A.units+64<cLine):OpR X (compareOp .NotEq) (rEqD X.K not):=by
 intro pins s σ H x y v u Q I rx ry h
 obtain⟨G,a,b,fz,ra,rb,na,nb,hd,q⟩:=h
 exact neAt_D I fz X.A a b x y v u hd na nb hu ra rb rx ry _ _ _ _ ⟨.bl _,H,I,rfl,q⟩
theorem v2_ne:V2 X (rEqD X.K not) dNe:=by
 intro B G H σ ρ x y a b d Q I ra rb hf k
 unfold dNe at hf
 split at hf
 ·rename_i h
  simp only[Bool.and_eq_true,decide_eq_true_eq]at h
  cases hf
  exact⟨G,a,b,I.fz,ra,rb,h.1.1,h.1.2,h.2,k G H _ I (Fz.refl G) rfl⟩
 ·cases hf
theorem v2_eq:V2 X (rEqD X.K id) dEq:=by
 intro B G H σ ρ x y a b d Q I ra rb hf k
 unfold dEq at hf
 split at hf
 ·rename_i h
  simp only[Bool.and_eq_true,decide_eq_true_eq]at h
  cases hf
  exact⟨G,a,b,I.fz,ra,rb,h.1.1,h.1.2,h.2,k G H _ I (Fz.refl G) rfl⟩
 ·cases hf
noncomputable def dIx:D->D->Option D
 | .lst ds,.int i=>atI ds i
 | .tup ds,.int i=>atI ds i
 | .scr ns,.int i=>(atI ns i).map .int
 |_,_=>none
theorem atI_map {α β:Type}(f:α->β){xs:List α}{i:Int}{v:α}(h:atI xs i=some v):atI (xs.map f) i=some (f v):=by
 unfold atI at h ⊢
 rw[List.length_map]
 cases q:ixN xs.length i with
 |none=>rw[q]at h;cases h
 |some j=>
  rw[q]at h
  show(xs.map f)[j]? =_
  rw[List.getElem?_map,show xs[j]? =some v from h]
  rfl
noncomputable def ReadD (K:W.Frag)(G H:Hp)(v:V):D->Prop
 | .lst ds=>∃a xs,v= .ref a/\H a=some (.lst xs)/\RepL K G xs ds
 |d=>RepD K G v d
theorem ReadD.of (fz:Fz G H)(h:RepD K G v d):ReadD K G H v d:=by
 cases d with
 |lst ds=>obtain⟨a,xs,e,q,r⟩:=h;exact⟨a,xs,e,fz a _ q,r⟩
 |_=>exact h
noncomputable def Sl.read:Sl->Option D
 | .emp=>none
 | .two _ _=>none
 | .tre _=>none
 | .ptr _=>none
 | .val d=>some d
 | .own ds=>some (.lst ds)
 | .par ds=>some (.lst ds)
noncomputable def hasV (ρ:R)(j:Nat):Bool:=match ρ[j]? with
 |some (.val _)=>true
 |some (.own _)=>true
 |some (.par _)=>true
 |_=>false
theorem SI.has (I:SI K B G H σ ρ)(h:hasV ρ j=true):∃v,σ[j]? =some (some v):=by
 unfold hasV at h
 cases e:ρ[j]? with
 |none=>rw[e]at h;cases h
 |some s=>
  rw[e]at h
  have q:=I.slot j s e
  cases s with
  |emp=>cases h
  |two _ _=>cases h
  |tre _=>cases h
  |ptr _=>cases h
  |val d=>obtain⟨v,e,_⟩:=q;exact⟨v,e⟩
  |own d=>obtain⟨l,_,e,_⟩:=q;exact⟨_,e⟩
  |par d=>obtain⟨l,_,e,_⟩:=q;exact⟨_,e⟩
theorem SI.read (I:SI K B G H σ ρ)(hv:σ[j]? =some (some v))(e:ρ[j]? =some s)(q:s.read=some d):ReadD K G H v d:=by
 have h:=I.slot j s e
 cases s with
 |emp=>cases q
 |two _ _=>cases q
 |tre _=>cases q
 |ptr _=>cases q
 |val d'=>
  cases q
  obtain⟨w,e1,r⟩:=h
  rw[hv]at e1;cases e1
  exact .of I.fz r
 |own ds=>
  cases q
  obtain⟨l,xs,e1,_,h3,h4,_⟩:=h
  rw[hv]at e1;cases e1
  exact⟨l,xs,rfl,h3,h4⟩
 |par ds=>
  cases q
  obtain⟨l,xs,e1,_,h3,h4,_⟩:=h
  rw[hv]at e1;cases e1
  exact⟨l,xs,rfl,h3,h4⟩
theorem znP {x y:V}{a b d:D}{Q:VK}(I:SI K B G H σ ρ)(ra:ReadD K G H x a)(rb:RepD K G y b)(hf:dIx a b=some d)(k:∀v,RepD K G v d->Q v H):rIx K x y H Q:=by
 cases a<;>cases b<;>simp only[dIx]at hf<;>try cases hf
 ·rename_i ds i
  obtain⟨p,xs,rfl,hp,r⟩:=ra
  obtain⟨v,e,q⟩:=r.at hf
  exact .inl ⟨p,xs,i,v,rfl,rb,SqL.of hp,e,k _ q⟩
 ·rename_i ds i
  obtain⟨p,xs,rfl,hp,r⟩:=I.tup ra
  obtain⟨v,e,q⟩:=r.at hf
  exact .inr (.inl ⟨p,xs,i,v,rfl,rb,SqT.of hp,e,k _ q⟩)
 ·rename_i ns i
  obtain⟨p,rfl,hp⟩:=ra
  cases e:atI ns i with
  |none=>rw[e]at hf;cases hf
  |some n=>
   rw[e]at hf
   cases hf
   exact .inl ⟨p,_,i,.int n,rfl,rb,I.fz.sql hp,atI_map V.int e,k _ rfl⟩
theorem v2_ix:V2 X (rIx X.K) dIx:=fun B G H σ ρ x y a b d Q I ra rb hf k=>znP I (.of I.fz ra) rb hf fun v q=>k G H v I (Fz.refl G) q
theorem za3 {ma mb:ME}(ha:SE X a ma)(hb:SE X b mb)(hs:autoParam (zi3 b) zu6._auto_1):SE X (.Subscript a b pos) (m2 dIx ma mb):=se_ix ix_seq v2_ix ha hb hs
noncomputable def eIxV (j:Nat)(mi:ME):ME:=fun ρ=>if hasV ρ j then(mi ρ).bind fun p=>(p.2[j]?.bind Sl.read).bind fun d=>(dIx d p.1).map fun e=>(e,p.2)else none
theorem zak (j:Nat)(hb:SE X b mb)(hN:autoParam (X.N[j]? =some x) zu2._auto_1)(hv:autoParam (Vis X.env.scope x) zu5._auto_1)(hd:autoParam ((x==("__debug__":Str))=false) zu1._auto_1)
    (hcd:autoParam ((x==("__classdict__":Str))=false) zu1._auto_1) (hs:autoParam (zi3 b) zu6._auto_1):SE X (.Subscript (.Name x pos') b pos) (eIxV j mb):=by
  obtain⟨tb,pb,sb⟩:=hb
  refine⟨_,pe_ix ix_seq (zgf hN hv hd hcd) pb hs,fun B G H σ ρ d ρ' Q I hm k=>?_⟩
  unfold eIxV at hm
  split at hm
  . rename_i hh
    obtain⟨v,ev⟩:=I.has hh
    cases e1:mb ρ with
    |none=>rw[e1]at hm;cases hm
    |some q=>
      obtain⟨i,ρ1⟩:=q
      rw[e1]at hm
      simp only[Option.bind_some]at hm
      cases e2:ρ1[j]? with
      |none=>rw[e2]at hm;cases hm
      |some s=>
        rw[e2]at hm
        simp only[Option.bind_some]at hm
        cases e3:s.read with
        |none=>rw[e3]at hm;cases hm
        |some a=>
          rw[e3]at hm
          simp only[Option.bind_some]at hm
          cases e4:dIx a i with
          |none=>rw[e4]at hm;cases hm
          |some c=>
            rw[e4]at hm
            cases hm
            exact⟨v,ev,sb B G H σ ρ i ρ' _ I e1 fun G1 H1 y I1 f1 r1=>znP I1 (I1.read ev e2 e3) r1 e4 fun w q=>k G1 H1 w I1 f1 q⟩
  . cases hm
noncomputable def dLen:List D->Option D
 |[.lst ds]=>some (.int ds.length)
 |[.tup ds]=>some (.int ds.length)
 |[.scr ns]=>some (.int ns.length)
 |_=>none
theorem zlv {x:V}{a d:D}{Q:VK}(I:SI K B G H σ ρ)(ra:ReadD K G H x a)(hf:dLen [a]=some d)(k:∀v,RepD K G v d->Q v H):
  ∃p ys,[x]=[V.ref p]/\(SqL K H p ys\/SqT K H p ys)/\Q (.int ys.length) H:=by
 cases a<;>simp only[dLen]at hf<;>try cases hf
 ·obtain⟨p,xs,rfl,hp,r⟩:=ra
  exact⟨p,xs,rfl,.inl (SqL.of hp),by rw[r.length];exact k _ rfl⟩
 ·obtain⟨p,xs,rfl,hp,r⟩:=I.tup ra
  exact⟨p,xs,rfl,.inr (SqT.of hp),by rw[r.length];exact k _ rfl⟩
 ·obtain⟨p,rfl,hp⟩:=ra
  exact⟨p,_,rfl,.inl (I.fz.sql hp),by rw[List.length_map];exact k _ rfl⟩
theorem RepL.one (h:RepL K G xs [d]):∃x,xs=[x]/\RepD K G x d:=by
 obtain⟨x,ys,e,q,r⟩:=h
 cases(show ys=[]from r)
 exact⟨x,e,q⟩
theorem RepL.two {a b:D}(h:RepL K G xs [a,b]):∃x y,xs=[x,y]/\RepD K G x a/\RepD K G y b:=by
 obtain⟨x,ys,e,q,r⟩:=h
 obtain⟨y,e2,q2⟩:=r.one
 subst e2
 exact⟨x,y,e,q,q2⟩
theorem dLen_one (h:dLen ds=some d):∃a,ds=[a]:=by
 match ds,h with
 |[a],_=>exact⟨a,rfl⟩
 |[],h=>cases h
 |_::_::_,h=>simp[dLen]at h
theorem vc_len:VC X (fun xs H Q=>∃p ys,xs=[.ref p]/\(SqL X.K H p ys\/SqT X.K H p ys)/\Q (.int ys.length) H) dLen:=by
 intro B G H σ ρ xs ds d Q I r hf k
 obtain⟨a,rfl⟩:=dLen_one hf
 obtain⟨x,rfl,ra⟩:=r.one
 exact zlv I (.of I.fz ra) hf fun v q=>k G H v I (Fz.refl G) q
theorem zhL (ml:X.mg "len"=none)(ha:SA X [e] ma)(hg:autoParam (Gl X "len") zu2._auto_1)(he:autoParam (starEach [e] X.env=(false,eval e X.env)::starEach [] X.env) zu2._auto_1):SE X (.Call (.Name "len" p) [e] [] pos) (mC dLen ma):=
 zcV zgX vc_len PySem.boot_len ml ha hg (by decide) (by decide) he rfl
noncomputable def zbW (j:Nat):ME:=fun ρ=>(ρ[j]?.bind Sl.read).bind fun d=>(dLen [d]).map fun e=>(e,ρ)
theorem zaJ (j:Nat)(ml:X.mg "len"=none)(hN:autoParam (X.N[j]? =some x) zu2._auto_1)(hv:autoParam (Vis X.env.scope x) zu5._auto_1)(hd:autoParam ((x==("__debug__":Str))=false) zu1._auto_1)
  (hcd:autoParam ((x==("__classdict__":Str))=false) zu1._auto_1) (hg:autoParam (Gl X "len") zu2._auto_1) (he:autoParam (starEach [.Name x pos'] X.env=(false,eval (.Name x pos') X.env)::starEach [] X.env) zu2._auto_1):SE X (.Call (.Name "len" p) [.Name x pos'] [] pos) (zbW j):=by
 refine⟨_,zhg zgX hg ml PySem.boot_len (zdm (zgf hN hv hd hcd) zg0 he) (by decide) (by decide) he rfl,fun B G H σ ρ d ρ' Q I hm k=>?_⟩
 unfold zbW at hm
 cases e2:ρ[j]? with
 |none=>rw[e2]at hm;cases hm
 |some s=>
  rw[e2]at hm
  simp only[Option.bind_some]at hm
  cases e3:s.read with
  |none=>rw[e3]at hm;cases hm
  |some a=>
   rw[e3]at hm
   simp only[Option.bind_some]at hm
   cases e4:dLen [a]with
   |none=>rw[e4]at hm;cases hm
   |some c=>
    rw[e4]at hm
    cases hm
    have hh:hasV ρ j=true:=by
     unfold hasV
     rw[e2]
     cases s<;>first|rfl|cases e3
    obtain⟨v,ev⟩:=I.has hh
    exact⟨v,ev,zlv I (I.read ev e2 e3) e4 fun w q=>k G H w I (Fz.refl G) q⟩
noncomputable def zbp:List D->Option D
 |[.lst ds]=>some (.tup ds)
 |[.tup ds]=>some (.tup ds)
 |[.scr ns]=>some (.tup (ns.map .int))
 |_=>none
theorem vc_tuple:VC X (fun xs H Q=>∃p ys,xs=[.ref p]/\((SqL X.K H p ys/\∀l,H l=none->Q (.ref l) (upd H l (.tup ys)))\/(SqT X.K H p ys/\Q (.ref p) H))) zbp:=by
 intro B G H σ ρ xs ds d Q I r hf k
 match ds,hf with
 |[a],hf=>
  obtain⟨x,rfl,ra⟩:=r.one
  cases a<;>simp only[zbp]at hf<;>try cases hf
  ·obtain⟨p,ys,rfl,hp,q⟩:=I.lst ra
   refine⟨p,ys,rfl,.inl ⟨SqL.of hp,fun l hl=>?_⟩⟩
   obtain⟨I2,f2,r2⟩:=I.newT hl q
   exact k _ _ _ I2 f2 r2
  ·obtain⟨p,ys,e,hp,q⟩:=I.tup ra
   subst e
   exact⟨p,ys,rfl,.inr ⟨SqT.of hp,k G H _ I (Fz.refl G) ra⟩⟩
  ·obtain⟨p,rfl,hp⟩:=ra
   refine⟨p,_,rfl,.inl ⟨I.fz.sql hp,fun l hl=>?_⟩⟩
   obtain⟨I2,f2,r2⟩:=I.newT hl (RepL.ints _)
   exact k _ _ _ I2 f2 r2
 |[],hf=>cases hf
 |_::_::_,hf=>simp[zbp]at hf
theorem zbr (ml:X.mg "tuple"=none)(ha:SA X [e] ma)(hg:autoParam (Gl X "tuple") zu2._auto_1)(he:autoParam (starEach [e] X.env=(false,eval e X.env)::starEach [] X.env) zu2._auto_1)(hb:autoParam (bootBuiltins "tuple"=some (.type "tuple")) zu7._auto_1):
  SE X (.Call (.Name "tuple" p) [e] [] pos) (mC zbp ma):=
 znh ziO vc_tuple hb ml ha hg (by decide) (by decide) he rfl
noncomputable def zax:List D->Option (List D)
 |[.lst ds]=>some ds
 |[.tup ds]=>some ds
 |[.scr ns]=>some (ns.map .int)
 |_=>none
noncomputable def oC (f:List D->Option (List D))(ma:MA):MO:=fun ρ=>(ma ρ).bind fun p=>(f p.1).map fun d=>(d,p.2)
theorem oC_inv {f:List D->Option (List D)}{d:List D}(h:oC f ma ρ=some (d,ρ')):∃a,ma ρ=some (a,ρ')/\f a=some d:=by
 unfold oC at h
 cases e1:ma ρ with
 |none=>rw[e1]at h;cases h
 |some p=>
  obtain⟨a,ρ1⟩:=p
  rw[e1]at h
  simp only[Option.bind_some]at h
  cases e3:f a with
  |none=>rw[e3]at h;cases h
  |some c=>rw[e3]at h;cases h;exact⟨a,rfl,e3⟩
theorem SI.newO (I:SI K B G H σ ρ){p:Addr}(hp:H p=none)(xs:List V):SI K B G (upd H p (.lst xs)) σ ρ/\G p=none/\(upd H p (.lst xs)) p=some (.lst xs)/\B.H p=none/\Nw K G (upd H p (.lst xs)) σ ρ p:=
 ⟨I.allocO hp _,I.fz.free hp,zaK,I.there p hp,I.nw_move (I.nw hp) fun i s a _ _ g h=>⟨g,zaA fun z=>h (by rw[z];exact hp)⟩⟩
theorem zcK (ml:X.mg "list"=none)(ha:SA X [e] ma)(hg:autoParam (Gl X "list") zu2._auto_1)(he:autoParam (starEach [e] X.env=(false,eval e X.env)::starEach [] X.env) zu2._auto_1)(hb:autoParam (bootBuiltins "list"=some (.type "list")) zu7._auto_1):
  SO X (.Call (.Name "list" p) [e] [] pos) (oC zax ma):=by
 obtain⟨t,pa,sa⟩:=ha
 refine⟨_,zhP zjM hg ml hb pa (by decide) (by decide) he rfl,fun B G H σ ρ ds ρ' Q I hm k=>?_⟩
 obtain⟨as,e1,e2⟩:=oC_inv hm
 refine sa B G H σ ρ as ρ' _ I e1 fun G1 H1 vs I1 f1 r1=>?_
 match as,e2 with
 |[a],e2=>
  obtain⟨x,rfl,ra⟩:=r1.one
  have fin:∀(q:Addr) (ys:List V) (sq:SqL X.K H1 q ys\/SqT X.K H1 q ys),x= .ref q->RepL X.K G1 ys ds->∃p ys,[x]=[V.ref p]/\(SqL X.K H1 p ys\/SqT X.K H1 p ys)/\∀l,H1 l=none->Q (.ref l) (upd H1 l (.lst ys)):=fun q ys sq ex r=>by
   refine⟨q,ys,by rw[ex],sq,fun l hl=>?_⟩
   obtain⟨I2,g2,h2,b2,n2⟩:=I1.newO hl ys
   exact k G1 _ l ys I2 f1 g2 h2 r b2 n2
  cases a<;>simp only[zax]at e2<;>try cases e2
  ·obtain⟨p,ys,ex,hp,q⟩:=I1.lst ra
   exact fin p ys (.inl (SqL.of hp)) ex q
  ·obtain⟨p,ys,ex,hp,q⟩:=I1.tup ra
   exact fin p ys (.inr (SqT.of hp)) ex q
  ·obtain⟨p,ex,hp⟩:=ra
   exact fin p _ (.inl (I1.fz.sql hp)) ex (RepL.ints _)
 |[],e2=>cases e2
 |_::_::_,e2=>simp[zax]at e2
section
variable {X:Cx} {es:List Expr} {ma:MA} {pos:Pos}
noncomputable def eTup (ma:MA):ME:=fun ρ=>(ma ρ).bind fun p=>if p.1.length<=16777216 then some (.tup p.1,p.2)else none
theorem zbu {x1}(h:SA X es ma):SE X (.Tuple es x1 pos) (eTup ma):=by
 obtain⟨t,pa,sa⟩:=h
 refine⟨_,pe_tup pa,fun B G H σ ρ d ρ' Q I hm k=>?_⟩
 unfold eTup at hm
 cases e1:ma ρ with
 |none=>rw[e1]at hm;cases hm
 |some q=>
  obtain⟨ds,ρ1⟩:=q
  rw[e1]at hm
  simp only[Option.bind_some]at hm
  split at hm
  ·rename_i hl
   cases hm
   refine sa B G H σ ρ ds ρ' _ I e1 fun G1 H1 vs I1 f1 r1=>⟨by rw[r1.length,sizeLine_eq];exact hl,fun p hp=>?_⟩
   obtain⟨I2,f2,r2⟩:=I1.newT hp r1
   exact k _ _ _ I2 (f1.trans f2) r2
  ·cases hm
noncomputable def oLst (ma:MA):MO:=fun ρ=>(ma ρ).bind fun p=>if p.1.length<=16777216 then some (p.1,p.2)else none
theorem zbv (h:SA X es ma):SO X (.List es pos) (oLst ma):=by
 obtain⟨t,pa,sa⟩:=h
 refine⟨_,pe_lst pa,fun B G H σ ρ d ρ' Q I hm k=>?_⟩
 unfold oLst at hm
 cases e1:ma ρ with
 |none=>rw[e1]at hm;cases hm
 |some q=>
  obtain⟨ds,ρ1⟩:=q
  rw[e1]at hm
  simp only[Option.bind_some]at hm
  split at hm
  ·rename_i hl
   cases hm
   refine sa B G H σ ρ _ ρ' _ I e1 fun G1 H1 vs I1 f1 r1=>⟨by rw[r1.length,sizeLine_eq];exact hl,fun p hp=>?_⟩
   obtain⟨I2,g2,h2,b2,n2⟩:=I1.newO hp vs
   exact k G1 _ p vs I2 f1 g2 h2 r1 b2 n2
  ·cases hm
end
theorem zah {α β:Type}{o:Option α}{f:α->Option β}{b:β}(h:o.bind f=some b):∃a,o=some a/\f a=some b:=by
 cases o with
 |none=>cases h
 |some a=>exact⟨a,rfl,h⟩
theorem zav {α β:Type}{o:Option α}{f:α->β}{b:β}(h:o.map f=some b):∃a,o=some a/\f a=b:=by
 cases o with
 |none=>cases h
 |some a=>cases h;exact⟨a,rfl,rfl⟩
noncomputable def dTru:D->Option Bool
 | .bl b=>some b
 | .int i=>some (i !=0)
 | .non=>some false
 | .lst ds=>some (!ds.isEmpty)
 | .tup ds=>some (!ds.isEmpty)
 |_=>none
noncomputable def tTru (ma:ME):MT:=fun ρ=>(ma ρ).bind fun p=>(dTru p.1).map fun b=>(b,p.2)
section
variable {X:Cx} {a b c:Expr} {ma mb mc:ME} {pos:Pos}
theorem zne (h:RepL K G xs ds):(!xs.isEmpty)=!ds.isEmpty:=by
 have:=h.length
 cases xs<;>cases ds<;>simp_all
theorem zcz (ha:SE X a ma)(he:autoParam (∀whole,isTrue a X.env whole=(do let v<-whole;standAt a.pos;holding [v] (truthy v))) zu8._auto_1):STt X a (tTru ma):=by
  obtain⟨ta,pa,sa⟩:=ha
  refine⟨_,pt_truth pa he,fun B G H σ ρ d ρ' Q I hm k=>?_⟩
  obtain⟨⟨x,ρ1⟩,e1,e2⟩:=zah hm
  obtain⟨t,e3,e4⟩:=zav e2
  obtain⟨rfl,rfl⟩:=Prod.mk.inj e4
  refine sa B G H σ ρ x ρ1 _ I e1 fun G1 H1 v I1 f1 r1=>⟨t,?_,k G1 H1 I1 f1⟩
  cases x<;>simp only[dTru]at e3<;>try cases e3
  . cases r1;exact rfl
  . cases r1;exact rfl
  . cases r1;exact rfl
  . obtain⟨p,xs,rfl,hp,r⟩:=I1.lst r1
    exact .inl ⟨xs,SqL.of hp,(zne r).symm⟩
  . obtain⟨p,xs,rfl,hp,r⟩:=I1.tup r1
    exact .inr (.inl ⟨xs,SqT.of hp,(zne r).symm⟩)
theorem zhA {r:R2}(ho:OpR X (compareOp op) r)(hv:V2 X r f)(hB:∀x y d,f x y=some d->∃t,d= .bl t)(ha:SE X a ma)(hb:SE X b mb)(hm:behindInMarks op b=false):STt X (.Compare a [op] [b] pos) (tTru (m2 f ma mb)):=by
 obtain⟨ta,pa,sa⟩:=ha
 obtain⟨tb,pb,sb⟩:=hb
 refine⟨_,pt_cmpR ho pa pb hm,fun B G H σ ρ d ρ' Q I hm k=>?_⟩
 obtain⟨⟨x,ρ1⟩,e1,e2⟩:=zah hm
 obtain⟨t,e3,e4⟩:=zav e2
 obtain⟨rfl,rfl⟩:=Prod.mk.inj e4
 obtain⟨_,_,_,_,_,e5⟩:=m2_inv e1
 obtain⟨t',rfl⟩:=hB _ _ _ e5
 obtain rfl:t'=t:=Option.some.inj e3
 refine zlB hv sa sb B G H σ ρ (.bl t') ρ1 _ I e1 fun G1 H1 v I1 f1 r1=>?_
 cases(show v=V.bl t' from r1)
 exact⟨t',rfl,k G1 H1 I1 f1⟩
theorem zis {g:Int->Int->Bool}(x y d:D)(h:dI2 (fun _ _=>true) (fun i j=> .bl (g i j)) x y=some d):∃t,d= .bl t:=by
 cases x<;>cases y<;>simp only[dI2]at h<;>try cases h
 exact⟨_,rfl⟩
theorem bl_eq (x y d:D)(h:dEq x y=some d):∃t,d= .bl t:=by
 unfold dEq at h
 split at h
 ·cases h;exact⟨_,rfl⟩
 ·cases h
theorem bl_ne (x y d:D)(h:dNe x y=some d):∃t,d= .bl t:=by
 unfold dNe at h
 split at h
 ·cases h;exact⟨_,rfl⟩
 ·cases h
theorem st_lt (ha:SE X a ma)(hb:SE X b mb):STt X (.Compare a [.Lt] [b] pos) (tTru (m2 dLt ma mb)):=zhA zjs zby zis ha hb (zgW _)
theorem st_gt (ha:SE X a ma)(hb:SE X b mb):STt X (.Compare a [.Gt] [b] pos) (tTru (m2 dGt ma mb)):=zhA op_gt zby zis ha hb (zgW _)
theorem st_ge (ha:SE X a ma)(hb:SE X b mb):STt X (.Compare a [.GtE] [b] pos) (tTru (m2 dGe ma mb)):=zhA op_ge zby zis ha hb (zgW _)
theorem zfO (hu:X.A.units+64<cLine)(ha:SE X a ma)(hb:SE X b mb):STt X (.Compare a [.Eq] [b] pos) (tTru (m2 dEq ma mb)):=zhA (op_eqD hu) v2_eq bl_eq ha hb (zgW _)
theorem zhV (hu:X.A.units+64<cLine)(ha:SE X a ma)(hb:SE X b mb):STt X (.Compare a [.NotEq] [b] pos) (tTru (m2 dNe ma mb)):=zhA (op_neD hu) v2_ne bl_ne ha hb (zgW _)
end
noncomputable def STw (X:Cx)(e:Expr)(m:MT):Prop:=
 ∃t,PW X e t/\∀B G H σ ρ d ρ' (Q:Bool->Hp->Prop),SI X.K B G H σ ρ->m ρ=some (d,ρ')->(∀G' H',SI X.K B G' H' σ ρ'->Fz G G'->Q d H')->t σ H Q
theorem STw.st {m:MT}(h:STw X e m):STt X e m:=let⟨t,p,s⟩:=h;⟨t,p.pt,s⟩
noncomputable def znt (a b:MT):MT:=fun ρ=>(a ρ).bind fun p=>if p.1 then b p.2 else some (false,p.2)
noncomputable def tOrM (a b:MT):MT:=fun ρ=>(a ρ).bind fun p=>if p.1 then some (true,p.2)else b p.2
noncomputable def zhy (a:MT):MT:=fun ρ=>(a ρ).map fun p=>(!p.1,p.2)
section
variable {X:Cx} {a b c:Expr} {ma mb:MT} {pos:Pos} {rest:List Expr}
theorem zmZ (h:STt X a ma):STw X (.BoolOp .And [a] pos) ma:=let⟨t,p,s⟩:=h;⟨t,pw_and1 p,s⟩
theorem zg3 (h:STt X a ma):STw X (.BoolOp .Or [a] pos) ma:=let⟨t,p,s⟩:=h;⟨t,pw_or1 p,s⟩
theorem sw_and (ha:STt X a ma)(hb:STw X (.BoolOp .And (b::rest) pos) mb):STw X (.BoolOp .And (a::b::rest) pos) (znt ma mb):=by
 obtain⟨ta,pa,sa⟩:=ha
 obtain⟨tb,pb,sb⟩:=hb
 refine⟨_,pw_and pa pb,fun B G H σ ρ d ρ' Q I hm k=>?_⟩
 obtain⟨⟨x,ρ1⟩,e1,e2⟩:=zah hm
 refine sa B G H σ ρ x ρ1 _ I e1 fun G1 H1 I1 f1=>?_
 cases x with
 |true=>exact sb B G1 H1 σ ρ1 d ρ' Q I1 e2 fun G2 H2 I2 f2=>k G2 H2 I2 (f1.trans f2)
 |false=>cases e2;exact k G1 H1 I1 f1
theorem zjg (ha:STt X a ma)(hb:STw X (.BoolOp .Or (b::rest) pos) mb):STw X (.BoolOp .Or (a::b::rest) pos) (tOrM ma mb):=by
 obtain⟨ta,pa,sa⟩:=ha
 obtain⟨tb,pb,sb⟩:=hb
 refine⟨_,pw_or pa pb,fun B G H σ ρ d ρ' Q I hm k=>?_⟩
 obtain⟨⟨x,ρ1⟩,e1,e2⟩:=zah hm
 refine sa B G H σ ρ x ρ1 _ I e1 fun G1 H1 I1 f1=>?_
 cases x with
 |false=>exact sb B G1 H1 σ ρ1 d ρ' Q I1 e2 fun G2 H2 I2 f2=>k G2 H2 I2 (f1.trans f2)
 |true=>cases e2;exact k G1 H1 I1 f1
theorem zf5 (ha:STt X a ma):STt X (.UnaryOp .Not a pos) (zhy ma):=by
 obtain⟨ta,pa,sa⟩:=ha
 refine⟨_,pt_not pa,fun B G H σ ρ d ρ' Q I hm k=>?_⟩
 obtain⟨⟨x,ρ1⟩,e1,e2⟩:=zav hm
 cases e2
 exact sa B G H σ ρ x ρ1 _ I e1 fun G1 H1 I1 f1=>k G1 H1 I1 f1
end
noncomputable def eAnd (a b:ME):ME:=fun ρ=>(a ρ).bind fun p=>match p.1 with
 | .bl true=>b p.2
 | .bl false=>some (.bl false,p.2)
 |_=>none
noncomputable def eOr (a b:ME):ME:=fun ρ=>(a ρ).bind fun p=>match p.1 with
 | .bl true=>some (.bl true,p.2)
 | .bl false=>b p.2
 |_=>none
section
variable {X:Cx} {a b c:Expr} {ma mb:ME} {pos:Pos} {rest:List Expr} {op:BoolOp}
theorem zj2 (h:SE X a ma):SE X (.BoolOp op [a] pos) ma:=let⟨t,p,s⟩:=h;⟨t,pe_one p,s⟩
theorem znr (ha:SE X a ma)(hb:SE X (.BoolOp .And (b::rest) pos) mb):SE X (.BoolOp .And (a::b::rest) pos) (eAnd ma mb):=by
 obtain⟨ta,pa,sa⟩:=ha
 obtain⟨tb,pb,sb⟩:=hb
 refine⟨_,pe_and pa pb,fun B G H σ ρ d ρ' Q I hm k=>?_⟩
 obtain⟨⟨x,ρ1⟩,e1,e2⟩:=zah hm
 refine sa B G H σ ρ x ρ1 _ I e1 fun G1 H1 v I1 f1 r1=>?_
 cases x<;>try cases e2
 rename_i y
 refine⟨y,r1,?_⟩
 cases y with
 |true=>exact sb B G1 H1 σ ρ1 d ρ' Q I1 e2 fun G2 H2 v I2 f2 r2=>k G2 H2 v I2 (f1.trans f2) r2
 |false=>cases e2;exact k G1 H1 _ I1 f1 rfl
theorem se_or (ha:SE X a ma)(hb:SE X (.BoolOp .Or (b::rest) pos) mb):SE X (.BoolOp .Or (a::b::rest) pos) (eOr ma mb):=by
 obtain⟨ta,pa,sa⟩:=ha
 obtain⟨tb,pb,sb⟩:=hb
 refine⟨_,pe_or pa pb,fun B G H σ ρ d ρ' Q I hm k=>?_⟩
 obtain⟨⟨x,ρ1⟩,e1,e2⟩:=zah hm
 refine sa B G H σ ρ x ρ1 _ I e1 fun G1 H1 v I1 f1 r1=>?_
 cases x<;>try cases e2
 rename_i y
 refine⟨y,r1,?_⟩
 cases y with
 |false=>exact sb B G1 H1 σ ρ1 d ρ' Q I1 e2 fun G2 H2 v I2 f2 r2=>k G2 H2 v I2 (f1.trans f2) r2
 |true=>cases e2;exact k G1 H1 _ I1 f1 rfl
noncomputable def eIf (c:MT)(a b:ME):ME:=fun ρ=>(c ρ).bind fun p=>if p.1 then a p.2 else b p.2
end
noncomputable def zgi (f g:D->D->Option D)(a b c:ME):ME:=fun ρ=>(a ρ).bind fun p=>(b p.2).bind fun q=>(f p.1 q.1).bind fun t=>match t with
 | .bl true=>(c q.2).bind fun r=>(g q.1 r.1).map fun d=>(d,r.2)
 | .bl false=>some (.bl false,q.2)
 |_=>none
section
variable {X:Cx} {a b c:Expr} {ma mb mc:ME} {pos:Pos}
theorem zhx {r r':R2}{f g:D->D->Option D}{ta tb tc:TE}(hv:V2 X r f)(hw:V2 X r' g)
  (sa:∀B G H σ ρ d ρ' (Q:VK),SI X.K B G H σ ρ->ma ρ=some (d,ρ')->(∀G' H' v,SI X.K B G' H' σ ρ'->Fz G G'->RepD X.K G' v d->Q v H')->ta σ H Q)
  (sb:∀B G H σ ρ d ρ' (Q:VK),SI X.K B G H σ ρ->mb ρ=some (d,ρ')->(∀G' H' v,SI X.K B G' H' σ ρ'->Fz G G'->RepD X.K G' v d->Q v H')->tb σ H Q)
  (sc:∀B G H σ ρ d ρ' (Q:VK),SI X.K B G H σ ρ->mc ρ=some (d,ρ')->(∀G' H' v,SI X.K B G' H' σ ρ'->Fz G G'->RepD X.K G' v d->Q v H')->tc σ H Q):
  ∀B G H σ ρ d ρ' (Q:VK),SI X.K B G H σ ρ->zgi f g ma mb mc ρ=some (d,ρ')->(∀G' H' v,SI X.K B G' H' σ ρ'->Fz G G'->RepD X.K G' v d->Q v H')->zmz r r' ta tb tc σ H Q:=by
 intro B G H σ ρ d ρ' Q I hm k
 obtain⟨⟨x,ρ1⟩,e1,h1⟩:=zah hm
 obtain⟨⟨y,ρ2⟩,e2,h2⟩:=zah h1
 obtain⟨t,e3,h3⟩:=zah h2
 refine sa B G H σ ρ x ρ1 _ I e1 fun G1 H1 v I1 f1 r1=>sb B G1 H1 σ ρ1 y ρ2 _ I1 e2 fun G2 H2 u I2 f2 r2=>hv B G2 H2 σ ρ2 v u x y t _ I2 (r1.mono f2) r2 e3 fun G3 H3 z I3 f3 r3=>?_
 cases t<;>try cases h3
 rename_i t
 refine⟨t,r3,?_⟩
 cases t with
 |true=>
  obtain⟨⟨w,ρ3⟩,e4,h4⟩:=zah h3
  obtain⟨d',e5,e6⟩:=zav h4
  cases e6
  exact sc B G3 H3 σ ρ2 w ρ3 _ I3 e4 fun G4 H4 s I4 f4 r4=>hw B G4 H4 σ ρ3 u s y w d Q I4 (r2.mono (f3.trans f4)) r4 e5 fun G5 H5 z5 I5 f5 r5=>k G5 H5 z5 I5 (f1.trans (f2.trans (f3.trans (f4.trans f5)))) r5
 |false=>cases h3;exact k G3 H3 _ I3 (f1.trans (f2.trans f3)) rfl
theorem ziZ {r r':R2}{f g:D->D->Option D}(ho:OpR X (compareOp op) r)(ho':OpR X (compareOp op') r')(hv:V2 X r f)(hw:V2 X r' g)(ha:SE X a ma)(hb:SE X b mb)(hc:SE X c mc)
  (hm:autoParam (lastMarks [op,op'] [b,c]=false) zu4._auto_1):SE X (.Compare a [op,op'] [b,c] pos) (zgi f g ma mb mc):=by
 obtain⟨ta,pa,sa⟩:=ha
 obtain⟨tb,pb,sb⟩:=hb
 obtain⟨tc,pc,sc⟩:=hc
 exact⟨_,pe_chain ho ho' pa pb pc hm,zhx hv hw sa sb sc⟩
theorem st_chain {r r':R2}{f g:D->D->Option D}(ho:OpR X (compareOp op) r)(ho':OpR X (compareOp op') r')(hv:V2 X r f)(hw:V2 X r' g)(hB:∀x y d,g x y=some d->∃t,d= .bl t)(ha:SE X a ma)(hb:SE X b mb)(hc:SE X c mc)
  (hm:autoParam (lastMarks [op,op'] [b,c]=false) zu4._auto_1):STt X (.Compare a [op,op'] [b,c] pos) (tTru (zgi f g ma mb mc)):=by
 obtain⟨ta,pa,sa⟩:=ha
 obtain⟨tb,pb,sb⟩:=hb
 obtain⟨tc,pc,sc⟩:=hc
 refine⟨_,pt_chain ho ho' pa pb pc hm,fun B G H σ ρ d ρ' Q I hm k=>?_⟩
 obtain⟨⟨x,ρ1⟩,e1,e2⟩:=zah hm
 obtain⟨t,e3,e4⟩:=zav e2
 obtain⟨rfl,rfl⟩:=Prod.mk.inj e4
 have hx:∃t',x= .bl t':=by
  obtain⟨⟨x',ρ1'⟩,_,h1⟩:=zah e1
  obtain⟨⟨y',ρ2'⟩,_,h2⟩:=zah h1
  obtain⟨t',et',h3⟩:=zah h2
  clear et'
  cases t'<;>try cases h3
  rename_i t'
  cases t' with
  |true=>
   obtain⟨⟨w,ρ3⟩,e4,h4⟩:=zah h3
   obtain⟨d',e5,e6⟩:=zav h4
   cases e6
   exact hB _ _ _ e5
  |false=>cases h3;exact⟨_,rfl⟩
 obtain⟨t',rfl⟩:=hx
 obtain rfl:t'=t:=Option.some.inj e3
 refine zhx hv hw sa sb sc B G H σ ρ (.bl t') ρ1 _ I e1 fun G1 H1 v I1 f1 r1=>?_
 cases(show v=V.bl t' from r1)
 exact⟨t',rfl,k G1 H1 I1 f1⟩
end
inductive Fl where
 |next|brk|cont|ret (r:Sl)
noncomputable abbrev MS:=R->Option (Fl×R)
noncomputable def ResOk (K:W.Frag)(B:Bs)(G H:Hp)(v:V):Sl->Prop
 | .val d=>RepD K G v d
 | .own ds=>∃l xs,v= .ref l/\G l=none/\H l=some (.lst xs)/\RepL K G xs ds/\B.H l=none
 | .tre t=>∃A,RepT K G H v t A/\A.Nodup/\∀a∈A,G a=none/\B.H a=none
 | .two ds es=>∃t l xs m ys,v= .ref t/\H t=some (.tup [.ref l,.ref m])/\l≠m/\G l=none/\H l=some (.lst xs)/\RepL K G xs ds/\B.H l=none/\G m=none/\H m=some (.lst ys)/\RepL K G ys es/\B.H m=none
 |_=>False
noncomputable def Post (K:W.Frag)(B:Bs)(G:Hp)(E:Ends)(fl:Fl)(ρ':R):Prop:=match fl with
 | .next=>∀G' H' σ',SI K B G' H' σ' ρ'->Fz G G'->E.nx σ' H'
 | .brk=>∀G' H' σ',SI K B G' H' σ' ρ'->Fz G G'->E.bk σ' H'
 | .cont=>∀G' H' σ',SI K B G' H' σ' ρ'->Fz G G'->E.ct σ' H'
 | .ret r=>∀G' H' σ' v,SI K B G' H' σ' ρ'->Fz G G'->ResOk K B G' H' v r->E.rt v H'
theorem Post.mono {G G1:Hp}{E:Ends}{fl:Fl}(h:Post K B G E fl ρ')(f:Fz G G1):Post K B G1 E fl ρ':=by
 cases fl with
 |next=>exact fun G' H' σ' I g=>h G' H' σ' I (f.trans g)
 |brk=>exact fun G' H' σ' I g=>h G' H' σ' I (f.trans g)
 |cont=>exact fun G' H' σ' I g=>h G' H' σ' I (f.trans g)
 |ret r=>exact fun G' H' σ' v I g=>h G' H' σ' v I (f.trans g)
noncomputable def SS (X:Cx)(st:Stmt)(m:MS):Prop:=∃t,PS X st t/\∀B G H σ ρ fl ρ' (E:Ends),SI X.K B G H σ ρ->m ρ=some (fl,ρ')->Post X.K B G E fl ρ'->t E σ H
noncomputable def SSs (X:Cx)(st:List Stmt)(m:MS):Prop:=∃t,PSs X st t/\∀B G H σ ρ fl ρ' (E:Ends),SI X.K B G H σ ρ->m ρ=some (fl,ρ')->Post X.K B G E fl ρ'->t E σ H
noncomputable def zbb:MS:=fun ρ=>some (.next,ρ)
noncomputable def sSeq (a b:MS):MS:=fun ρ=>(a ρ).bind fun p=>match p.1 with
 | .next=>b p.2
 |f=>some (f,p.2)
section
variable {X:Cx} {st:Stmt} {rest:List Stmt} {m n:MS} {e:Expr} {me:ME} {pos:Pos}
theorem zay:SSs X [] zbb:=⟨_,pss_nil,fun B G H σ ρ fl ρ' E I hm k=>by cases hm;exact k G H σ I (Fz.refl G)⟩
theorem zal (h:SS X st m):SSs X [st] m:=let⟨t,p,s⟩:=h;⟨t,pss_one p,s⟩
theorem zad (h:SS X st m)(hr:SSs X rest n):SSs X (st::rest) (sSeq m n):=by
 obtain⟨t,p,s⟩:=h
 obtain⟨u,q,z⟩:=hr
 refine⟨_,zlz p q,fun B G H σ ρ fl ρ' E I hm k=>?_⟩
 obtain⟨⟨f,ρ1⟩,e1,e2⟩:=zah hm
 refine s B G H σ ρ f ρ1 _ I e1 ?_
 cases f with
 |next=>exact fun G1 H1 σ1 I1 f1=>z B G1 H1 σ1 ρ1 fl ρ' E I1 e2 (k.mono f1)
 |brk=>cases e2;exact k
 |cont=>cases e2;exact k
 |ret r=>cases e2;exact k
noncomputable def sRet (m:ME):MS:=fun ρ=>(m ρ).map fun p=>(.ret (.val p.1),p.2)
theorem zat (h:SE X e me):SS X (.Return (some e) pos) (sRet me):=by
 obtain⟨t,p,s⟩:=h
 refine⟨_,zon p,fun B G H σ ρ fl ρ' E I hm k=>?_⟩
 obtain⟨⟨d,ρ1⟩,e1,e2⟩:=zav hm
 cases e2
 exact s B G H σ ρ d ρ1 _ I e1 fun G1 H1 v I1 f1 r1=>k G1 H1 σ v I1 f1 r1
noncomputable def zjk (m:MO):MS:=fun ρ=>(m ρ).map fun p=>(.ret (.own p.1),p.2)
theorem zfG {mo:MO}(h:SO X e mo):SS X (.Return (some e) pos) (zjk mo):=by
 obtain⟨t,p,s⟩:=h
 refine⟨_,zon p,fun B G H σ ρ fl ρ' E I hm k=>?_⟩
 obtain⟨⟨d,ρ1⟩,e1,e2⟩:=zav hm
 cases e2
 exact s B G H σ ρ d ρ1 _ I e1 fun G1 H1 l xs I1 f1 g1 h1 r1 b1 _=>k G1 H1 σ _ I1 f1 ⟨l,xs,rfl,g1,h1,r1,b1⟩
theorem SI.emp (I:SI K B G H σ ρ)(i:Nat):SI K B G H σ (ρ.set i .emp):=by
 by_cases hi:i<ρ.length
 ·have hs:σ[i]? =some (σ[i]'(by rw[I.len];exact hi)):=List.getElem?_eq_getElem _
  have h:=I.chg (i:=i) (ov:=σ[i]'(by rw[I.len];exact hi)) (s':= .emp) I.fz (Fz.refl G) I.new I.keep I.there (fun _ _ _ _ _ _ g _=>⟨g,rfl,id⟩) trivial
  rwa[znH hs]at h
 ·rw[List.set_eq_of_length_le (by lia)];exact I
noncomputable def zgp (i:Nat):MS:=fun ρ=>match ρ[i]? with
 |some (.val d)=>some (.ret (.val d),ρ)
 |some (.own ds)=>some (.ret (.own ds),ρ.set i .emp)
 |_=>none
theorem zdq (i:Nat)(hN:autoParam (X.N[i]? =some x) zu2._auto_1)(hv:autoParam (Vis X.env.scope x) zu5._auto_1)(hd:autoParam ((x==("__debug__":Str))=false) zu1._auto_1)
  (hcd:autoParam ((x==("__classdict__":Str))=false) zu1._auto_1):SS X (.Return (some (.Name x pos')) pos) (zgp i):=by
 refine⟨_,zon (zgf hN hv hd hcd),fun B G H σ ρ fl ρ' E I hm k=>?_⟩
 unfold zgp at hm
 cases e:ρ[i]? with
 |none=>rw[e]at hm;cases hm
 |some s=>
  rw[e]at hm
  have h:=I.slot i s e
  cases s with
  |emp=>cases hm
  |two _ _=>cases hm
  |tre _=>cases hm
  |ptr _=>cases hm
  |par ds=>cases hm
  |val d=>cases hm;obtain⟨v,h1,h2⟩:=h;exact⟨v,h1,k G H σ v I (Fz.refl G) h2⟩
  |own ds=>
   cases hm
   obtain⟨l,xs,h1,h2,h3,h4,h5⟩:=h
   exact⟨.ref l,h1,k G H σ _ (I.emp i) (Fz.refl G) ⟨l,xs,rfl,h2,h3,h4,h5⟩⟩
noncomputable def sIf (c:MT)(a b:MS):MS:=fun ρ=>(c ρ).bind fun p=>if p.1 then a p.2 else b p.2
theorem zbj {c:Expr}{a b:List Stmt}{mc:MT}{ma mb:MS}(hc:STt X c mc)(ha:SSs X a ma)(hb:SSs X b mb):SS X (.If c a b pos) (sIf mc ma mb):=by
 obtain⟨tc,pc,sc⟩:=hc
 obtain⟨ta,pa,sa⟩:=ha
 obtain⟨tb,pb,sb⟩:=hb
 refine⟨_,ps_if pc pa pb,fun B G H σ ρ fl ρ' E I hm k=>?_⟩
 obtain⟨⟨x,ρ1⟩,e1,e2⟩:=zah hm
 refine sc B G H σ ρ x ρ1 _ I e1 fun G1 H1 I1 f1=>?_
 cases x with
 |true=>exact sa B G1 H1 σ ρ1 fl ρ' E I1 e2 (k.mono f1)
 |false=>exact sb B G1 H1 σ ρ1 fl ρ' E I1 e2 (k.mono f1)
end
noncomputable def SG (X:Cx)(tg:Expr)(g:D->R->Option R):Prop:=∃t,PG X tg t/\∀B G H σ ρ v d ρ' (Q:St->Hp->Prop),SI X.K B G H σ ρ->RepD X.K G v d->g d ρ=some ρ'->(∀G' H' σ',SI X.K B G' H' σ' ρ'->Fz G G'->Q σ' H')->t v σ H Q
noncomputable def SGs (X:Cx)(tgs:List Expr)(g:List D->R->Option R):Prop:=∃t,PGs X tgs t/\∀B G H σ ρ vs ds ρ' (Q:St->Hp->Prop),SI X.K B G H σ ρ->RepL X.K G vs ds->g ds ρ=some ρ'->(∀G' H' σ',SI X.K B G' H' σ' ρ'->Fz G G'->Q σ' H')->t vs σ H Q
noncomputable def gN (i:Nat):D->R->Option R:=fun d ρ=>some (ρ.set i (.val d))
noncomputable def zdS:List D->R->Option R:=fun ds ρ=>match ds with
 |[]=>some ρ
 |_=>none
noncomputable def zaE (g:D->R->Option R)(h:List D->R->Option R):List D->R->Option R:=fun ds ρ=>match ds with
 |d::ds=>(g d ρ).bind fun ρ1=>h ds ρ1
 |[]=>none
noncomputable def gT (n:Nat)(g:List D->R->Option R):D->R->Option R:=fun d ρ=>match d with
 | .tup ds=>if ds.length=n then g ds ρ else none
 |_=>none
section
variable {X:Cx} {pos:Pos}
theorem zan (i:Nat)(hN:X.N.Nodup)(hi:autoParam (X.N[i]? =some x) zu2._auto_1)(hx:autoParam (Loc X.env.scope x) zu9._auto_1)(hf:autoParam (X.fn x=true\/X.env.scope.names.lookup x=some .local) zu9._auto_1):SG X (.Name x pos) (gN i):=
 ⟨_,zmO hN hi hx hf,fun B G H σ ρ v d ρ' Q I r hm k=>by cases hm;exact k G H _ (I.set r) (Fz.refl G)⟩
theorem zbn:SGs X [] zdS:=⟨_,pgs_nil,fun B G H σ ρ vs ds ρ' Q I r hm k=>by
 cases ds with
 |nil=>cases hm;exact⟨r,k G H σ I (Fz.refl G)⟩
 |cons=>cases hm⟩
theorem zaq {e:Expr}(h1:SG X e g)(h2:SGs X es h)(hs:autoParam ((assignEach (e::es) X.env).map (·.2)=assign e X.env::(assignEach es X.env).map (·.2)) zu2._auto_1):SGs X (e::es) (zaE g h):=by
 obtain⟨t,p,s⟩:=h1
 obtain⟨u,q,z⟩:=h2
 refine⟨_,pgs_cons p q hs,fun B G H σ ρ vs ds ρ' Q I r hm k=>?_⟩
 cases ds with
 |nil=>cases hm
 |cons d ds=>
  obtain⟨x,ys,rfl,rx,ry⟩:=r
  obtain⟨ρ1,e1,e2⟩:=zah hm
  exact⟨x,ys,rfl,s B G H σ ρ x d ρ1 _ I rx e1 fun G1 H1 σ1 I1 f1=>z B G1 H1 σ1 ρ1 ys ds ρ' Q I1 (ry.mono f1) e2 fun G2 H2 σ2 I2 f2=>k G2 H2 σ2 I2 (f1.trans f2)⟩
theorem zcm {g:List D->R->Option R}(hc:X.calm=true)(h:SGs X es g)(hn:autoParam ((assignEach es X.env).length=n) zu2._auto_1)(hst:autoParam ((assignEach es X.env).findIdx? (·.1)=none) zu2._auto_1):SG X (.Tuple es k pos) (gT n g):=by
 obtain⟨t,p,s⟩:=h
 refine⟨_,pg_tup hc p hn hst,fun B G H σ ρ v d ρ' Q I r hm k=>?_⟩
 cases d<;>try cases hm
 rename_i ds
 simp only[gT]at hm
 split at hm
 ·rename_i hl
  obtain⟨a,xs,e,ha,rx⟩:=I.tup r
  exact⟨a,xs,e,SqT.of ha,by rw[rx.length];exact hl,s B G H σ ρ xs ds ρ' Q I rx hm k⟩
 ·cases hm
variable {e tg:Expr} {me:ME} {mo:MO}
noncomputable def sAsg (m:ME)(g:D->R->Option R):MS:=fun ρ=>(m ρ).bind fun p=>(g p.1 p.2).map fun ρ'=>(.next,ρ')
theorem ss_asg (he:SE X e me)(hg:SG X tg g)(hs:autoParam (swapsWithSole [tg] e pos.line X.env=pure false) zu2._auto_1)(hw:autoParam (swappedStores [tg] e X.env=pure none) zu2._auto_1)
  (h1:autoParam ((assignEach [tg] X.env).map (·.2)=[assign tg X.env]) zu2._auto_1):SS X (.Assign [tg] e pos) (sAsg me g):=by
 obtain⟨t,p,s⟩:=he
 obtain⟨u,q,z⟩:=hg
 refine⟨_,ps_asg p q hs hw h1,fun B G H σ ρ fl ρ' E I hm k=>?_⟩
 obtain⟨⟨d,ρ1⟩,e1,h2⟩:=zah hm
 obtain⟨ρ2,e2,e3⟩:=zav h2
 obtain⟨rfl,rfl⟩:=Prod.mk.inj e3
 exact s B G H σ ρ d ρ1 _ I e1 fun G1 H1 v I1 f1 r1=>z B G1 H1 σ ρ1 v d ρ2 _ I1 r1 e2 fun G2 H2 σ2 I2 f2=>k G2 H2 σ2 I2 (f1.trans f2)
noncomputable def sSet (i:Nat)(m:ME):MS:=fun ρ=>(m ρ).map fun p=>(.next,p.2.set i (.val p.1))
theorem zap (i:Nat)(he:SE X e me)(hN:X.N.Nodup)(hi:autoParam (X.N[i]? =some x) zu2._auto_1)(hx:autoParam (Loc X.env.scope x) zu9._auto_1)(hs:autoParam (swapsWith e (some (.Name x pos')) pos.line X.env=pure false) zu2._auto_1)
    (hf:autoParam (X.fn x=true\/X.env.scope.names.lookup x=some .local) zu9._auto_1):SS X (.Assign [.Name x pos'] e pos) (sSet i me):=by
  obtain⟨t,p,s⟩:=he
  refine⟨_,ps_set hN hi hx p hs hf,fun B G H σ ρ fl ρ' E I hm k=>?_⟩
  obtain⟨⟨d,ρ1⟩,e1,e3⟩:=zav hm
  cases e3
  exact s B G H σ ρ d ρ1 _ I e1 fun G1 H1 v I1 f1 r1=>k G1 H1 _ (I1.set r1) f1
noncomputable def zg7 (i:Nat)(m:MO):MS:=fun ρ=>(m ρ).map fun p=>(.next,p.2.set i (.own p.1))
theorem zdc (i:Nat)(he:SO X e mo)(hN:X.N.Nodup)(hi:autoParam (X.N[i]? =some x) zu2._auto_1)(hx:autoParam (Loc X.env.scope x) zu9._auto_1)(hs:autoParam (swapsWith e (some (.Name x pos')) pos.line X.env=pure false) zu2._auto_1)
    (hf:autoParam (X.fn x=true\/X.env.scope.names.lookup x=some .local) zu9._auto_1):SS X (.Assign [.Name x pos'] e pos) (zg7 i mo):=by
  obtain⟨t,p,s⟩:=he
  refine⟨_,ps_set hN hi hx p hs hf,fun B G H σ ρ fl ρ' E I hm k=>?_⟩
  obtain⟨⟨d,ρ1⟩,e1,e3⟩:=zav hm
  cases e3
  exact s B G H σ ρ d ρ1 _ I e1 fun G1 H1 l xs I1 f1 g1 h1 r1 b1 n1=>k G1 H1 _ (I1.setO g1 h1 r1 b1 n1) f1
noncomputable def sApp (i:Nat)(m:ME):MS:=fun ρ=>if(ρ[i]?.bind Sl.items).isSome then(m ρ).bind fun p=>p.2[i]?.bind fun s=>s.items.bind fun ds=>if ds.length<16777216 then some (.next,p.2.set i (s.put (ds++[p.1])))else none else none
theorem zjS (i:Nat){pos' apos cpos:Pos}(he:SE X e me)(hN:autoParam (X.N[i]? =some x) zu2._auto_1)(hv:autoParam (Vis X.env.scope x) zu5._auto_1)(hd:autoParam ((x==("__debug__":Str))=false) zu1._auto_1)
  (hcd:autoParam ((x==("__classdict__":Str))=false) zu1._auto_1)
  (hbase:autoParam (attributeBase (.Name x pos') "append" X.env (eval (.Name x pos') X.env)=eval (.Name x pos') X.env) zu2._auto_1)
  (hfew :autoParam (((backTo cpos (starEach [e] X.env)).all (fun x => !x.1) && (backToKw cpos (keywordEach [] X.env)).all (fun x => x.1.isSome)
   &&decide ([e].length+([]:List Keyword).length+(if([]:List Keyword).isEmpty then 0 else 1)<30))=true) zu2._auto_1)
  (hline:autoParam ((apos.endLine==cpos.line)=true) zu2._auto_1) (hs:autoParam (starEach [e] X.env=(false,eval e X.env)::starEach [] X.env) zu2._auto_1):SS X (.Expr (.Call (.Attribute (.Name x pos') "append" apos) [e] [] cpos) pos) (sApp i me):=by
 obtain⟨t,p,s⟩:=he
 refine⟨_,ps_expr (pe_bm PySem.F.plainAttrs_list PySem.F.slot_list_append PySem.F.type_list_append zjK (zgf hN hv hd hcd) (zdm p zg0 hs) hbase hfew hline hs rfl) (by rfl),fun B G H σ ρ fl ρ' E I hm k=>?_⟩
 unfold sApp at hm
 split at hm
 ·rename_i hso
  obtain⟨ds0,hso⟩:=Option.isSome_iff_exists.mp hso
  obtain⟨s0,e0,q0⟩:=zah hso
  obtain⟨l,xs0,h1,h2,h3,h4⟩:=I.wr e0 q0
  obtain⟨⟨d,ρ1⟩,e1,hm⟩:=zah hm
  obtain⟨s1,e2,hm⟩:=zah hm
  obtain⟨ds,e3,hm⟩:=zah hm
  split at hm
  ·rename_i hl
   cases hm
   refine⟨.ref l,h1,.inl ⟨rfl,_,SqL.of h3⟩,s B G H σ ρ d ρ1 _ I e1 fun G1 H1 v I1 f1 r1=>?_⟩
   obtain⟨l',xs,k1,k2,k3,k4⟩:=I1.wr e2 e3
   rw[h1]at k1;cases k1
   refine⟨l,xs,v,rfl,rfl,k3,by rw[k4.length,sizeLine_eq];exact hl,?_⟩
   exact k G1 _ σ (I1.write e2 e3 h1 (k4.snoc r1)) f1
  ·cases hm
 ·cases hm
noncomputable def sPut (j:Nat)(mi me:ME):MS:=fun ρ=>(me ρ).bind fun p=>if hasV p.2 j then(mi p.2).bind fun q=>match q.1 with
 | .int k=>q.2[j]?.bind fun s=>s.items.bind fun ds=>(ixN ds.length k).bind fun n=>some (.next,q.2.set j (s.put (ds.set n p.1)))
 |_=>none else none
theorem zie (j:Nat){i:Expr}{mi:ME}{pos' tpos:Pos}(he:SE X e me)(hi:SE X i mi)(hN:autoParam (X.N[j]? =some x) zu2._auto_1)(hv:autoParam (Vis X.env.scope x) zu5._auto_1)(hd:autoParam ((x==("__debug__":Str))=false) zu1._auto_1)
  (hcd:autoParam ((x==("__classdict__":Str))=false) zu1._auto_1)
  (ha :autoParam (∀ v, assign (.Subscript (.Name x pos') i tpos) X.env v = (do
   let ov<-holding [v] (eval (.Name x pos') X.env)
   let iv<-holding [v,ov] (eval i X.env)
   standAt tpos
   holding [v,ov,iv] (setItem ov iv v)
   release [v,ov,iv] [])) zu8._auto_1)
  (hs:autoParam (swapsWithSole [.Subscript (.Name x pos') i tpos] e pos.line X.env=pure false) zu2._auto_1) (hw:autoParam (swappedStores [.Subscript (.Name x pos') i tpos] e X.env=pure none) zu2._auto_1)
  (h1:autoParam ((assignEach [.Subscript (.Name x pos') i tpos] X.env).map (·.2)=[assign (.Subscript (.Name x pos') i tpos) X.env]) zu2._auto_1):SS X (.Assign [.Subscript (.Name x pos') i tpos] e pos) (sPut j mi me):=by
 obtain⟨t,p,s⟩:=he
 obtain⟨u,q,z⟩:=hi
 refine⟨_,ps_asg p (pg_sub (zgf hN hv hd hcd) q set_list ha) hs hw h1,fun B G H σ ρ fl ρ' E I hm k=>?_⟩
 obtain⟨⟨d,ρ1⟩,e1,hm⟩:=zah hm
 refine s B G H σ ρ d ρ1 _ I e1 fun G1 H1 v I1 f1 r1=>?_
 split at hm
 ·rename_i hh
  obtain⟨w,ew⟩:=I1.has hh
  obtain⟨⟨kd,ρ2⟩,e2,hm⟩:=zah hm
  cases kd<;>try cases hm
  rename_i kk
  obtain⟨s2,e3,hm⟩:=zah hm
  obtain⟨ds,e4,hm⟩:=zah hm
  obtain⟨n,e5,hm⟩:=zah hm
  cases hm
  refine⟨w,ew,z B G1 H1 σ ρ1 (.int kk) ρ2 _ I1 e2 fun G2 H2 y I2 f2 r2=>?_⟩
  obtain⟨l,xs,k1,k2,k3,k4⟩:=I2.wr e3 e4
  rw[ew]at k1;cases k1
  refine⟨l,xs,kk,n,rfl,r2,k3,by rw[k4.length];exact e5,?_⟩
  exact k G2 _ σ (I2.write e3 e4 ew (k4.set n (r1.mono f2))) (f1.trans f2)
 ·cases hm
end
structure Itm (K:W.Frag) (J:It) (G:Hp) (items:List D):Prop where
 go:∀H i,Fz G H->i<items.length->J.go i H
 yld:∀H i x H',Fz G H->J.yld i H x H'->∀d,items[i]? =some d->(H'=H/\RepD K G x d)\/∃p xs ds,H p=none/\H'=upd H p (.tup xs)/\x= .ref p/\d= .tup ds/\RepL K G xs ds
 stop:∀H i,Fz G H->items.length<=i->J.stop i H
noncomputable def SIt (X:Cx)(tg it:Expr)(m:MA):Prop:=∃wi,PI X tg it wi/\∀B G H σ ρ ds ρ' (Q:It->Hp->Prop),SI X.K B G H σ ρ->m ρ=some (ds,ρ')->(∀J G' H',SI X.K B G' H' σ ρ'->Fz G G'->Itm X.K J G' ds->Q J H')->wi σ H Q
noncomputable def forM (f:D->R->Option (Fl×R)):List D->R->Option (Fl×R)
 |[],ρ=>some (.next,ρ)
 |d::ds,ρ=>(f d ρ).bind fun p=>match p.1 with
  | .next=>forM f ds p.2
  | .cont=>forM f ds p.2
  | .brk=>some (.next,p.2)
  | .ret r=>some (.ret r,p.2)
noncomputable def sFor (mi:MA)(g:D->R->Option R)(mb:MS):MS:=fun ρ=>(mi ρ).bind fun p=>forM (fun d ρ=>(g d ρ).bind fun ρ'=>mb ρ') p.1 p.2
theorem SI.yld {x:V}(I:SI K B G H σ ρ)
  (h:(H'=H/\RepD K G x d)\/∃p xs ds,H p=none/\H'=upd H p (.tup xs)/\x= .ref p/\d= .tup ds/\RepL K G xs ds):∃G',SI K B G' H' σ ρ/\Fz G G'/\RepD K G' x d:=by
 rcases h with⟨rfl,r⟩|⟨p,xs,ds,hp,rfl,rfl,rfl,r⟩
 ·exact⟨G,I,Fz.refl G,r⟩
 ·obtain⟨I2,f2,r2⟩:=I.newT hp r
  exact⟨_,I2,f2,r2⟩
theorem zcr {tg it:Expr}{mi:MA}{mb:MS}(hp:PassesOwn (model X.prog X.w) X.A X.env X.xe)(hc:X.calm=true)(hi:SIt X tg it mi)(hg:SG X tg g)(hb:SSs X body mb)
    (hs:autoParam (∀x,foldedSetIterable it X.env x=pure x) zu8._auto_1):SS X (.For tg it body [] pos) (sFor mi g mb):=by
  obtain⟨wi,pi,si⟩:=hi
  obtain⟨tg',pg,sg⟩:=hg
  obtain⟨tb,pb,sb⟩:=hb
  refine⟨_,ps_for hp hc pi pg pb hs,fun B G H σ ρ fl ρ' E I hm k=>?_⟩
  obtain⟨⟨ds,ρ1⟩,e1,hm⟩:=zah hm
  refine si B G H σ ρ ds ρ1 _ I e1 fun J G1 H1 I1 f1 IT=>?_
  refine⟨fun i m σ H=>m=ds.length-i/\i<=ds.length/\∃G2 ρ2,SI X.K B G2 H σ ρ2/\Fz G1 G2/\forM (fun d ρ=>(g d ρ).bind fun ρ'=>mb ρ') (ds.drop i) ρ2=some (fl,ρ'),⟨ds.length,by simp,Nat.zero_le _,G1,ρ1,I1,Fz.refl _,by simpa using hm⟩,?_⟩
  rintro i m σ2 H2 ⟨rfl,hi,G2,ρ2,I2,f2,e2⟩
  by_cases hlt:i<ds.length
  . rw[List.drop_eq_getElem_cons hlt]at e2
    simp only[forM]at e2
    obtain⟨⟨f,ρ3⟩,e3,e4⟩:=zah e2
    obtain⟨ρ2',e5,e6⟩:=zah e3
    have fz2:Fz G1 H2:=f2.trans I2.fz
    refine .inr ⟨IT.go H2 i fz2 hlt,fun σ' H'=>(∃G3,SI X.K B G3 H' σ' ρ3/\Fz G1 G3)/\(f= .next\/f= .cont),?_,fun x H' y=>?_⟩
    . rintro σ' H' ⟨⟨G3,I3,f3⟩,hf⟩
      refine⟨ds.length-(i+1),by lia,rfl,hlt,G3,ρ3,I3,f3,?_⟩
      rcases hf with rfl|rfl<;>exact e4
    . have yy:=IT.yld H2 i x H' fz2 y ds[i] (List.getElem?_eq_getElem hlt)
      have yy2:(H'=H2/\RepD X.K G2 x ds[i])\/∃p xs es,H2 p=none/\H'=upd H2 p (.tup xs)/\x= .ref p/\ds[i]= .tup es/\RepL X.K G2 xs es:=by
        rcases yy with⟨a,b⟩|⟨p,xs,es,a,b,c,d,e⟩
        . exact .inl ⟨a,b.mono f2⟩
        . exact .inr ⟨p,xs,es,a,b,c,d,e.mono f2⟩
      obtain⟨G3,I3,f3,r3⟩:=I2.yld yy2
      refine sg B G3 H' σ2 ρ2 x ds[i] ρ2' _ I3 r3 e5 fun G4 H4 σ4 I4 f4=>sb B G4 H4 σ4 ρ2' f ρ3 _ I4 e6 ?_
      have ff:Fz G1 G4:=f2.trans (f3.trans f4)
      cases f with
      |next=>exact fun G5 H5 σ5 I5 f5=>⟨⟨G5,I5,ff.trans f5⟩,.inl rfl⟩
      |cont=>exact fun G5 H5 σ5 I5 f5=>⟨⟨G5,I5,ff.trans f5⟩,.inr rfl⟩
      |brk=>cases e4;exact fun G5 H5 σ5 I5 f5=>k G5 H5 σ5 I5 (f1.trans (ff.trans f5))
      |ret r=>cases e4;exact fun G5 H5 σ5 v I5 f5=>k G5 H5 σ5 v I5 (f1.trans (ff.trans f5))
  . have e:i=ds.length:=by lia
    subst e
    rw[List.drop_length]at e2
    cases e2
    exact .inl ⟨IT.stop H2 _ (f2.trans I2.fz) (Nat.le_refl _),k G2 H2 σ2 I2 (f1.trans f2)⟩
section
variable {X:Cx} {tg it:Expr} {me:ME}
noncomputable def iSeq (m:ME):MA:=fun ρ=>(m ρ).bind fun p=>(zax [p.1]).map fun ds=>(ds,p.2)
theorem pi_or {l:Expr}{tl:TE}(hl:PE X l tl):PI X tg l (fun σ H R=>tl σ H fun x H1=>∃a,x= .ref a/\(((∃xs,SqL X.K H1 a xs)/\R (Itl X.K a) H1)\/((∃xs,SqT X.K H1 a xs)/\R (Itt X.K a) H1))):=by
 intro pins s σ H R I h
 refine thn (hl pins s σ H _ I h) fun v s1 ⟨x,H1,I1,r1,q1⟩=>?_
 obtain⟨a,e,q⟩:=q1
 subst e
 cases r1
 rcases q with⟨⟨xs,hq⟩,q⟩|⟨⟨xs,hq⟩,q⟩
 ·obtain⟨its,rv,p,hz⟩:=I1.list hq
  refine wpAny_pyIter_list p.isList ?_
  refine⟨s1.heap.objs.size,[s1.heap.objs.size],_,_,H1,rfl,I1.kept (t':=s1.toks) fun b o e=>Heap.get?_push_of_some _ e,zmM a _,⟨_,Heap.get?_push_size _ rfl,rfl,rfl⟩,fun b hb=>?_,q⟩
  have e:b=s1.heap.objs.size:=by simpa using hb
  subst e
  exact I1.fpOk (Nat.le_refl _) (I1.hok.fresh (Nat.le_refl _))
 ·obtain⟨its,rv,p,hz⟩:=I1.tuple hq
  refine wpAny_pyIter_tuple (show s1.heap.IsTuple a its.toArray from p) ?_
  refine⟨s1.heap.objs.size,[s1.heap.objs.size],_,_,H1,rfl,I1.kept (t':=s1.toks) fun b o e=>Heap.get?_push_of_some _ e,zma a _,⟨_,Heap.get?_push_size _ rfl,rfl,rfl⟩,fun b hb=>?_,q⟩
  have e:b=s1.heap.objs.size:=by simpa using hb
  subst e
  exact I1.fpOk (Nat.le_refl _) (I1.hok.fresh (Nat.le_refl _))
theorem zll {a:Addr}(hg:SqL K G a xs)(r:RepL K G xs ds):Itm K (Itl K a) G ds where
 go:=fun H i f hi=>by
  have hl:=r.length
  exact⟨xs,xs[i],f.sql hg,List.getElem?_eq_getElem (by lia)⟩
 yld:=fun H i x H' f y d e=>by
  obtain⟨rfl,y⟩:=y
  have hx:=y xs (f.sql hg)
  obtain⟨x',h1,h2⟩:=r.get e
  rw[hx]at h1;cases h1
  exact .inl ⟨rfl,h2⟩
 stop:=fun H i f hi=>⟨xs,f.sql hg,by rw[r.length];exact hi⟩
theorem itm_tup {a:Addr}(hg:G a=some (.tup xs))(r:RepL K G xs ds):Itm K (Itt K a) G ds where
 go:=fun H i f hi=>by
  have hl:=r.length
  exact⟨xs,xs[i],SqT.of (f _ _ hg),List.getElem?_eq_getElem (by lia)⟩
 yld:=fun H i x H' f y d e=>by
  obtain⟨rfl,y⟩:=y
  have hx:=y xs (SqT.of (f _ _ hg))
  obtain⟨x',h1,h2⟩:=r.get e
  rw[hx]at h1;cases h1
  exact .inl ⟨rfl,h2⟩
 stop:=fun H i f hi=>⟨xs,SqT.of (f _ _ hg),by rw[r.length];exact hi⟩
theorem zd3 (h:SE X it me):SIt X tg it (iSeq me):=by
 obtain⟨t,p,s⟩:=h
 refine⟨_,pi_or p,fun B G H σ ρ ds ρ' Q I hm k=>?_⟩
 obtain⟨⟨d,ρ1⟩,e1,hm⟩:=zah hm
 obtain⟨es,e2,e3⟩:=zav hm
 cases e3
 refine s B G H σ ρ d ρ1 _ I e1 fun G1 H1 v I1 f1 r1=>?_
 cases d<;>simp only[zax]at e2<;>try cases e2
 ·obtain⟨a,xs,rfl,ha,r⟩:=r1
  exact⟨a,rfl,.inl ⟨⟨xs,SqL.of (I1.fz _ _ ha)⟩,k _ G1 H1 I1 f1 (zll (SqL.of ha) r)⟩⟩
 ·obtain⟨a,xs,rfl,ha,r⟩:=r1
  exact⟨a,rfl,.inr ⟨⟨xs,SqT.of (I1.fz _ _ ha)⟩,k _ G1 H1 I1 f1 (itm_tup ha r)⟩⟩
 ·obtain⟨a,rfl,ha⟩:=r1
  exact⟨a,rfl,.inl ⟨⟨_,I1.fz.sql ha⟩,k _ G1 H1 I1 f1 (zll ha (RepL.ints _))⟩⟩
end
noncomputable def zdt (lo:Int)(n:Nat):List D:=(List.range n).map fun(i:Nat)=>D.int (lo+(i:Int))
theorem zkd (lo:Int)(n:Nat):Itm K (Itr lo n) G (zdt lo n) where
 go:=fun H i f hi=>by show i<n;simpa[zdt]using hi
 yld:=fun H i x H' f y d e=>by
  obtain⟨rfl,rfl⟩:=y
  unfold zdt at e
  rw[List.getElem?_map]at e
  cases q:(List.range n)[i]? with
  |none=>rw[q]at e;cases e
  |some j=>
   rw[q]at e
   have hj:j=i:=by
    have:=List.getElem?_eq_some_iff.mp q
    obtain⟨h1,h2⟩:=this
    simpa using h2.symm
   subst hj
   cases e
   exact .inl ⟨rfl,rfl⟩
 stop:=fun H i f hi=>by show n<=i;simpa[zdt]using hi
noncomputable def zdE (j:Int):Bool:=decide (-1000000000000<=j)&&decide (j<=1000000000000)
theorem zcH {j:Int}(h:zdE j=true): -(2^62)<=j/\j<2^62:=by
 unfold zdE at h
 simp only[Bool.and_eq_true,decide_eq_true_eq]at h
 lia
noncomputable def iR1 (ma:MA):MA:=fun ρ=>(ma ρ).bind fun p=>match p.1 with
 |[.int j]=>if zdE j then some (zdt 0 j.toNat,p.2)else none
 |_=>none
noncomputable def iR2 (ma:MA):MA:=fun ρ=>(ma ρ).bind fun p=>match p.1 with
 |[.int i,.int j]=>if zdE i&&zdE j then some (zdt i (j-i).toNat,p.2)else none
 |_=>none
section
variable {X:Cx} {tg a b:Expr} {ma:MA} {p pos:Pos}
theorem zaH (hm:X.mg "range"=none)(ha:SA X [a] ma)(hg:autoParam (Gl X "range") zu2._auto_1)(hs:autoParam (starEach [a] X.env=[(false,eval a X.env)]) zu2._auto_1):SIt X tg (.Call (.Name "range" p) [a] [] pos) (iR1 ma):=by
 obtain⟨t,pa,sa⟩:=ha
 refine⟨_,znf hg hm pa hs,fun B G H σ ρ ds ρ' Q I hm k=>?_⟩
 obtain⟨⟨es,ρ1⟩,e1,h2⟩:=zah hm
 dsimp only at h2
 refine sa B G H σ ρ es ρ1 _ I e1 fun G1 H1 vs I1 f1 r1=>?_
 split at h2
 ·rename_i j
  split at h2
  ·rename_i hj
   cases h2
   obtain⟨x,rfl,rx⟩:=r1.one
   cases(show x=V.int j from rx)
   exact⟨j,rfl,(zcH hj).1,(zcH hj).2,k _ G1 H1 I1 f1 (zkd 0 _)⟩
  ·cases h2
 ·cases h2
theorem znG (hm:X.mg "range"=none)(ha:SA X [a,b] ma)(hg:autoParam (Gl X "range") zu2._auto_1)(hs:autoParam (starEach [a,b] X.env=[(false,eval a X.env),(false,eval b X.env)]) zu2._auto_1)(hs2:autoParam (starEach [b] X.env=[(false,eval b X.env)]) zu2._auto_1):SIt X tg (.Call (.Name "range" p) [a,b] [] pos) (iR2 ma):=by
 obtain⟨t,pa,sa⟩:=ha
 refine⟨_,znW hg hm pa hs hs2,fun B G H σ ρ ds ρ' Q I hm k=>?_⟩
 obtain⟨⟨es,ρ1⟩,e1,h2⟩:=zah hm
 dsimp only at h2
 refine sa B G H σ ρ es ρ1 _ I e1 fun G1 H1 vs I1 f1 r1=>?_
 split at h2
 ·rename_i i j
  split at h2
  ·rename_i hj
   simp only[Bool.and_eq_true]at hj
   cases h2
   obtain⟨x,y,rfl,rx,ry⟩:=r1.two
   cases(show x=V.int i from rx)
   cases(show y=V.int j from ry)
   exact⟨i,j,rfl,⟨(zcH hj.1).1,(zcH hj.1).2,(zcH hj.2).1,(zcH hj.2).2⟩,k _ G1 H1 I1 f1 (zkd i _)⟩
  ·cases h2
 ·cases h2
end
noncomputable def ResF (K:W.Frag)(G' H' H:Hp)(v:V):Sl->Prop
 | .val d=>RepD K G' v d
 | .own ds=>∃l xs,v= .ref l/\G' l=none/\H' l=some (.lst xs)/\RepL K G' xs ds/\H l=none
 | .tre t=>∃A,RepT K G' H' v t A/\A.Nodup/\∀a∈A,G' a=none/\H a=none
 | .two ds es=>∃t l xs m ys,v= .ref t/\H' t=some (.tup [.ref l,.ref m])/\l≠m/\G' l=none/\H' l=some (.lst xs)/\RepL K G' xs ds/\H l=none/\G' m=none/\H' m=some (.lst ys)/\RepL K G' ys es/\H m=none
 |_=>False
noncomputable def spP (K:W.Frag)(n:Nat)(F:List D->Option Sl):Sp:=fun vs H Q _=>∃G ds r,F ds=some r/\ds.length=n/\Fz G H/\RepL K G vs ds/\
 ∀G' H' v,Fz G G'->Fz G' H'->(∀b o,G' b=some o->G b≠none\/H b=none)->Fz H H'->ResF K G' H' H v r->Q v H'
noncomputable def spM (K:W.Frag)(n:Nat)(F:List D->List D->Option (Sl×List D)):Sp:=fun vs H Q _=>∃G l xs cs ws ds r out,vs= .ref l::ws/\F cs ds=some (r,out)/\ds.length+1=n/\Fz G H/\G l=none/\H l=some (.lst xs)/\RepL K G xs cs/\RepL K G ws ds/\
 ∀G' H' v ys,Fz G G'->Fz G' H'->(∀b o,G' b=some o->G b≠none\/H b=none)->(∀b o,b≠l->H b=some o->H' b=some o)->G' l=none->H' l=some (.lst ys)->RepL K G' ys out->ResF K G' H' H v r->Q v H'
noncomputable def fP (N:Nat)(m:MS):List D->Option Sl:=fun ds=>(m (ds.map .val++List.replicate (N-ds.length) .emp)).bind fun p=>match p.1 with
 | .ret r=>some r
 | .next=>some (.val .non)
 |_=>none
noncomputable def fM (N:Nat)(m:MS):List D->List D->Option (Sl×List D):=fun cs ds=>(m (.par cs::(ds.map .val++List.replicate (N-(ds.length+1)) .emp))).bind fun p=>match p.1,(p.2[0]?:Option Sl)with
 |Fl.ret r,some (Sl.par out)=>some (r,out)
 |Fl.next,some (Sl.par out)=>some (.val .non,out)
 |_,_=>none
theorem zj4 (h:vs.length<=N.length):(L2.start N vs).length=N.length:=by
 unfold L2.start
 rw[List.length_append,List.length_map,List.length_replicate]
 lia
theorem SI.start (fz:Fz G H)(r:RepL K G vs ds)(h:ds.length<=N.length):
  SI K ⟨G,H,[]⟩ G H (L2.start N vs) (ds.map .val++List.replicate (N.length-ds.length) .emp) where
 fz:=fz
 g0:=Fz.refl G
 new:=fun b o e=> .inl (by show G b≠none;rw[e];simp)
 keep:=fun b o e _=>e
 there:=fun b e=>e
 ob:=fun i b m=>by cases m
 len:=by rw[zj4 (by rw[r.length];exact h),List.length_append,List.length_map,List.length_replicate];lia
 slot:=fun i s e=>by
  by_cases hi:i<ds.length
  ·rw[List.getElem?_append_left (by simpa using hi),List.getElem?_map,List.getElem?_eq_getElem hi]at e
   cases e
   obtain⟨x,h1,h2⟩:=r.get (List.getElem?_eq_getElem hi)
   refine⟨x,?_,h2⟩
   unfold L2.start
   rw[List.getElem?_append_left (by rw[List.length_map,r.length];exact hi),List.getElem?_map,h1]
   rfl
  ·rw[List.getElem?_append_right (by simpa using hi),List.getElem?_replicate]at e
   split at e
   ·cases e;trivial
   ·cases e
 dis:=fun i j s _ a _ e _ w=>by
  exfalso
  by_cases hi:i<ds.length
  ·rw[List.getElem?_append_left (by simpa using hi),List.getElem?_map,List.getElem?_eq_getElem hi]at e
   cases e;exact w
  ·rw[List.getElem?_append_right (by simpa using hi),List.getElem?_replicate]at e
   split at e
   ·cases e;exact w
   ·cases e
theorem SI.startM (fz:Fz G H)(hg:G l=none)(hl:H l=some (.lst xs))(rc:RepL K G xs cs)(r:RepL K G vs ds)(h:ds.length+1<=N.length):
  SI K ⟨G,H,[(0,l)]⟩ G H (L2.start N (.ref l::vs)) (.par cs::(ds.map .val++List.replicate (N.length-(ds.length+1)) .emp)) where
 fz:=fz
 g0:=Fz.refl G
 new:=fun b o e=> .inl (by show G b≠none;rw[e];simp)
 keep:=fun b o e _=>e
 there:=fun b e=>e
 ob:=fun i b m=>by
  have:b=l:=((by simpa using m):i=0/\b=l).2
  subst this
  show H b≠none
  rw[hl];simp
 len:=by
  have:=r.length
  rw[zj4 (by rw[List.length_cons,r.length];exact h),List.length_cons,List.length_append,List.length_map,List.length_replicate];lia
 slot:=fun i s e=>by
  cases i with
  |zero=>simp at e;subst e;exact⟨l,xs,rfl,hg,hl,rc,by simp⟩
  |succ i=>
   rw[List.getElem?_cons_succ]at e
   by_cases hi:i<ds.length
   ·rw[List.getElem?_append_left (by simpa using hi),List.getElem?_map,List.getElem?_eq_getElem hi]at e
    cases e
    obtain⟨x,h1,h2⟩:=r.get (List.getElem?_eq_getElem hi)
    refine⟨x,?_,h2⟩
    unfold L2.start
    rw[List.map_cons,List.cons_append,List.getElem?_cons_succ,List.getElem?_append_left (by rw[List.length_map,r.length];exact hi),List.getElem?_map,h1]
    rfl
   ·rw[List.getElem?_append_right (by simpa using hi),List.getElem?_replicate]at e
    split at e
    ·cases e;trivial
    ·cases e
 dis:=fun i j s t a hij hi hj w1 w2=>by
  have z:∀(i:Nat) (s:Sl),(Sl.par cs::(ds.map .val++List.replicate (N.length-(ds.length+1)) .emp))[i]? =some s->OwS K G H (L2.start N (.ref l::vs))[i]? a s->i=0:=fun i s e q=>by
   cases i with
   |zero=>rfl
   |succ i=>
    exfalso
    rw[List.getElem?_cons_succ]at e
    by_cases hi:i<ds.length
    ·rw[List.getElem?_append_left (by simpa using hi),List.getElem?_map,List.getElem?_eq_getElem hi]at e
     cases e;exact q
    ·rw[List.getElem?_append_right (by simpa using hi),List.getElem?_replicate]at e
     split at e
     ·cases e;exact q
     ·cases e
  exact hij ((z i s hi w1).trans (z j t hj w2).symm)
section
variable {P:Program} {w:World} {K:W.Frag} {mg:Str->Option Value} {base:Heap}
theorem fnP_ok {st:Stmt}{f:Addr}(F:Fun K x qual st f fd)(S:FnScope N ps (zaB st))(hn:ps.length=n)(hN:n<=N.length)
  (body:∀(cdv:Value) (A:Around) (outer:List Env) (s:Shared) (H:Hp) (E:XK),Room k (A.deeper (envOfC qual (zaB st) s.heap.objs.size f cdv))->SSs (cxOf CX0 P w K mg base N qual (zaB st) f cdv A outer s H E).nox (zbD st) m):
  FnOk P w K mg base CX0 (k+1) f fd ps (spP K n (fP N.length m)):=by
 refine F.ok S (fun vs H Q E h=>?_) (fun cdv A outer s H vs Q E hr h=>?_)
 ·obtain⟨G,ds,r,_,h2,_,h4,_⟩:=h
  rw[h4.length,h2,hn]
 ·obtain⟨G,ds,r,e1,h2,fz,h4,kk⟩:=h
  obtain⟨t,pt,so⟩:=body cdv A outer s H E hr
  refine⟨t,pt,?_⟩
  obtain⟨⟨fl,ρ'⟩,e2,e3⟩:=zah e1
  refine so ⟨G,H,[]⟩ G H (L2.start N vs) _ fl ρ' _ (SI.start fz h4 (by lia)) e2 ?_
  have fin:∀G' H' σ' v,SI K ⟨G,H,[]⟩ G' H' σ' ρ'->Fz G G'->ResF K G' H' H v r->Q v H':=fun G' H' σ' v I f rr=>kk G' H' v f I.fz I.new (fun b o e=>I.keep b o e (by simp)) rr
  cases fl with
  |next=>cases e3;exact fun G' H' σ' I f=>fin G' H' σ' .non I f rfl
  |brk=>cases e3
  |cont=>cases e3
  |ret r'=>
   cases e3
   refine fun G' H' σ' v I f rr=>fin G' H' σ' v I f ?_
   cases r with
   |val d=>exact rr
   |own ds=>exact rr
   |emp=>exact rr
   |two _ _=>exact rr
   |tre _=>exact rr
   |ptr _=>exact rr
   |par ds=>exact rr
theorem fnM_ok {st:Stmt}{f:Addr}(F:Fun K x qual st f fd)(S:FnScope N ps (zaB st))(hn:ps.length=n)(hN:n<=N.length)
  (body:∀(cdv:Value) (A:Around) (outer:List Env) (s:Shared) (H:Hp) (E:XK),Room k (A.deeper (envOfC qual (zaB st) s.heap.objs.size f cdv))->SSs (cxOf CX0 P w K mg base N qual (zaB st) f cdv A outer s H E).nox (zbD st) m):
  FnOk P w K mg base CX0 (k+1) f fd ps (spM K n (fM N.length m)):=by
 refine F.ok S (fun vs H Q E h=>?_) (fun cdv A outer s H vs Q E hr h=>?_)
 ·obtain⟨G,l,xs,cs,ws,ds,r,out,rfl,_,h2,_,_,_,_,h4,_⟩:=h
  rw[List.length_cons,h4.length,h2,hn]
 ·obtain⟨G,l,xs,cs,ws,ds,r,out,rfl,e1,h2,fz,hg,hl,rc,h4,kk⟩:=h
  obtain⟨t,pt,so⟩:=body cdv A outer s H E hr
  refine⟨t,pt,?_⟩
  obtain⟨⟨fl,ρ'⟩,e2,e3⟩:=zah e1
  refine so ⟨G,H,[(0,l)]⟩ G H _ _ fl ρ' _ (SI.startM fz hg hl rc h4 (by lia)) e2 ?_
  have fin:∀G' H' σ' v,ρ'[0]? =some (.par out)->SI K ⟨G,H,[(0,l)]⟩ G' H' σ' ρ'->Fz G G'->ResF K G' H' H v r->Q v H':=fun G' H' σ' v e0 I f rr=>by
   obtain⟨l',ys,k1,k2,k3,k4,k5⟩:=I.slot 0 _ e0
   have:l'=l:=by simpa using k5
   subst this
   exact kk G' H' v ys f I.fz I.new (fun b o hb e=>I.keep b o e (fun i hm=>by simp at hm;exact hb hm.2)) k2 k3 k4 rr
  cases e0:ρ'[0]? with
  |none=>rw[e0]at e3;cases fl<;>cases e3
  |some s0=>
   rw[e0]at e3
   cases s0 with
   |emp=>cases fl<;>cases e3
   |two _ _=>cases fl<;>cases e3
   |tre _=>cases fl<;>cases e3
   |ptr _=>cases fl<;>cases e3
   |val d=>cases fl<;>cases e3
   |own d=>cases fl<;>cases e3
   |par o2=>
    cases fl with
    |next=>cases e3;exact fun G' H' σ' I f=>fin G' H' σ' .non e0 I f rfl
    |brk=>cases e3
    |cont=>cases e3
    |ret r'=>
     cases e3
     refine fun G' H' σ' v I f rr=>fin G' H' σ' v e0 I f ?_
     cases r with
     |val d=>exact rr
     |own ds=>exact rr
     |emp=>exact rr
     |two _ _=>exact rr
     |tre _=>exact rr
     |ptr _=>exact rr
     |par ds=>exact rr
end
structure FD (P:Program) (w:World) (K:W.Frag) (mg:Str->Option Value) (base:Heap) (k:Nat) (x:Str) (sp:Sp):Prop where
 ex:∃f fd ps,FnOk P w K mg base CX0 k f fd ps sp/\mg x=some (.ref f)/\W.keepIn K (.ref f)=true/\Binds K fd ps []
theorem znn (nw:∀b o,G' b=some o->G b≠none\/H b=none)(kp:Fz H H'):∀(i:Nat) (s:Sl) (a:Addr),ρ[i]? =some s->OwS K G H σ[i]? a s->G a=none->H a≠none->G' a=none/\H' a=H a:=fun i s a _ _ g h=>by
 obtain⟨u,hu⟩:=Option.ne_none_iff_exists'.mp h
 refine⟨?_,(kp a u hu).trans hu.symm⟩
 cases q:G' a with
 |none=>rfl
 |some u=>
  rcases nw a u q with z|z
  ·exact absurd g z
  ·exact absurd z h
theorem SI.grow (I:SI K B G H σ ρ)(f:Fz G G')(fz:Fz G' H')(nw:∀b o,G' b=some o->G b≠none\/H b=none)(kp:Fz H H'):SI K B G' H' σ ρ:=
 I.move fz f (fun b o e=>by
  rcases nw b o e with h|h
  ·cases q:G b with
   |none=>exact absurd q h
   |some u=>exact I.new b u q
  ·exact .inr (I.there b h)) (fun b o e n=>kp b o (I.keep b o e n)) (fun b e=>I.there b (kp.free e)) (znn nw kp)
theorem SI.own_ne (I:SI K B G H σ ρ){p:Addr}(hp:H p=none)(nw:∀b o,G' b=some o->G b≠none\/H b=none)(kp:Fz H H'):Nw K G' H' σ ρ p:=I.nw_move (I.nw hp) (znn nw kp)
noncomputable def za0 (F:List D->Option Sl)(ma:MA):ME:=fun ρ=>(ma ρ).bind fun p=>(F p.1).bind fun r=>match r with
 | .val d=>some (d,p.2)
 | .own ds=>some (.lst ds,p.2)
 |_=>none
noncomputable def zmd (F:List D->Option Sl)(ma:MA):MO:=fun ρ=>(ma ρ).bind fun p=>(F p.1).bind fun r=>match r with
 | .own ds=>some (ds,p.2)
 |_=>none
section
variable {X:Cx} {x:Str} {p pos:Pos} {e:Expr} {es:List Expr} {ma:MA} {k k' n:Nat} {F:List D->Option Sl}
theorem zas (fd:FD X.prog X.w X.K X.mg X.base k x (spP X.K n F))(hr:Room k' X.A)(ha:SA X (e::es) ma)(hn:autoParam ((e::es).length=n) zu2._auto_1)(hk:autoParam (k<=k') zu1._auto_1)(hg:autoParam (Gl X x) zu2._auto_1)(hdb:autoParam ((x==("__debug__":Str))=false) zu1._auto_1)
  (he:autoParam (starEach (e::es) X.env=(false,eval e X.env)::starEach es X.env) zu2._auto_1) (hpl:autoParam ((backTo pos (starEach es X.env)).any (·.1)=false) zu2._auto_1) (hlen:∀ρ as ρ',ma ρ=some (as,ρ')->as.length=n):SE X (.Call (.Name x p) (e::es) [] pos) (za0 F ma):=by
 obtain⟨f,fdd,ps,G0,h1,h2,h3⟩:=fd.ex
 obtain⟨t,pa,sa⟩:=ha
 refine⟨_,zkA G0 (hr.mono hk) hg h1 h2 h3 .nil pass0 pa hdb he hpl,fun B G H σ ρ d ρ' Q I hm kk=>?_⟩
 obtain⟨⟨as,ρ1⟩,e1,hm⟩:=zah hm
 obtain⟨r,e2,hm⟩:=zah hm
 refine sa B G H σ ρ as ρ1 _ I e1 fun G1 H1 vs I1 f1 r1=>?_
 show spP X.K n F (vs++[]) H1 Q E0
 rw[List.append_nil]
 refine⟨G1,as,r,e2,hlen ρ as ρ1 e1,I1.fz,r1,fun G2 H2 v f2 fz2 nw kp rr=>?_⟩
 have I2:=I1.grow f2 fz2 nw kp
 cases r with
 |val d'=>cases hm;exact kk G2 H2 v I2 (f1.trans f2) rr
 |own ds=>
  cases hm
  obtain⟨l,xs,rfl,g3,h3,r3,b3⟩:=rr
  obtain⟨I3,f3,r4⟩:=zjL I2 g3 h3 r3 (I1.there l b3) (I1.own_ne b3 nw kp)
  exact kk _ H2 _ I3 (f1.trans (f2.trans f3)) r4
 |emp=>cases hm
 |two _ _=>cases hm
 |tre _=>cases hm
 |ptr _=>cases hm
 |par _=>cases hm
theorem zi7 (fd:FD X.prog X.w X.K X.mg X.base k x (spP X.K n F))(hr:Room k' X.A)(ha:SA X (e::es) ma)(hn:autoParam ((e::es).length=n) zu2._auto_1)(hk:autoParam (k<=k') zu1._auto_1)(hg:autoParam (Gl X x) zu2._auto_1)(hdb:autoParam ((x==("__debug__":Str))=false) zu1._auto_1)
  (he:autoParam (starEach (e::es) X.env=(false,eval e X.env)::starEach es X.env) zu2._auto_1) (hpl:autoParam ((backTo pos (starEach es X.env)).any (·.1)=false) zu2._auto_1) (hlen:∀ρ as ρ',ma ρ=some (as,ρ')->as.length=n):SO X (.Call (.Name x p) (e::es) [] pos) (zmd F ma):=by
 obtain⟨f,fdd,ps,G0,h1,h2,h3⟩:=fd.ex
 obtain⟨t,pa,sa⟩:=ha
 refine⟨_,zkA G0 (hr.mono hk) hg h1 h2 h3 .nil pass0 pa hdb he hpl,fun B G H σ ρ d ρ' Q I hm kk=>?_⟩
 obtain⟨⟨as,ρ1⟩,e1,hm⟩:=zah hm
 obtain⟨r,e2,hm⟩:=zah hm
 refine sa B G H σ ρ as ρ1 _ I e1 fun G1 H1 vs I1 f1 r1=>?_
 show spP X.K n F (vs++[]) H1 Q E0
 rw[List.append_nil]
 refine⟨G1,as,r,e2,hlen ρ as ρ1 e1,I1.fz,r1,fun G2 H2 v f2 fz2 nw kp rr=>?_⟩
 have I2:=I1.grow f2 fz2 nw kp
 cases r with
 |val d'=>cases hm
 |own ds=>
  cases hm
  obtain⟨l,xs,rfl,g3,h3,r3,b3⟩:=rr
  exact kk G2 H2 l xs I2 (f1.trans f2) g3 h3 r3 (I1.there l b3) (I1.own_ne b3 nw kp)
 |emp=>cases hm
 |two _ _=>cases hm
 |tre _=>cases hm
 |ptr _=>cases hm
 |par _=>cases hm
end
noncomputable def aLen (ma:MA)(n:Nat):Prop:=∀ρ as ρ',ma ρ=some (as,ρ')->as.length=n
theorem zaj:aLen aNil 0:=fun ρ as ρ' h=>by cases h;rfl
theorem zac {m:ME}{r:MA}(h:aLen r n):aLen (zaf m r) (n+1):=fun ρ as ρ' e=>by
 obtain⟨⟨d,ρ1⟩,_,h2⟩:=zah e
 obtain⟨⟨ds,ρ2⟩,e3,e4⟩:=zav h2
 cases e4
 rw[List.length_cons,h ρ1 ds ρ2 e3]
noncomputable def zaw (F:List D->List D->Option (Sl×List D))(j:Nat)(ma:MA):ME:=fun ρ=>if(ρ[j]?.bind Sl.items).isSome then(ma ρ).bind fun p=>p.2[j]?.bind fun s=>s.items.bind fun cs=>(F cs p.1).bind fun r=>match r.1 with
 | .val d=>some (d,p.2.set j (s.put r.2))
 | .own ds=>some (.lst ds,p.2.set j (s.put r.2))
 |_=>none else none
theorem SI.growW (I:SI K B G H σ ρ)(e:ρ[j]? =some s)(q:s.items=some cs)(hl:σ[j]? =some (some (.ref l)))
  (f:Fz G G') (fz:Fz G' H') (nw:∀b o,G' b=some o->G b≠none\/H b=none) (kp:∀b o,b≠l->H b=some o->H' b=some o) (gl:G' l=none) (hl':H' l=some (.lst ys)) (r:RepL K G' ys out):SI K B G' H' σ (ρ.set j (s.put out)):=
 I.chgW e q hl fz f nw kp gl hl' r
theorem SI.own_neW {l p:Addr}(I:SI K B G H σ ρ)(e:ρ[j]? =some s)(q:s.items=some cs)(hl:σ[j]? =some (some (.ref l)))(hp:H p=none)
  (nw:∀b o,G' b=some o->G b≠none\/H b=none) (kp:∀b o,b≠l->H b=some o->H' b=some o):Nw K G' H' σ (ρ.set j (s.put out)) p:=fun i t et w=>by
 obtain⟨l',xs,e1,e2,e3,e4⟩:=I.wr e q
 rw[hl]at e1;cases e1
 have hpl:p≠l:=fun z=>by rw[z,e3]at hp;cases hp
 by_cases z:i=j
 ·subst z
  rw[List.getElem?_set,if_pos rfl]at et
  split at et
  ·cases et
   have:=(zeu (zj5 q out)).mp w
   rw[hl]at this
   exact hpl (V.ref.inj (Option.some.inj (Option.some.inj this))).symm
  ·cases et
 ·rw[List.getElem?_set_ne (Ne.symm z)]at et
  have sl:=I.slot i t et
  refine(sl.own (sl.back (fun a w g h=>?_) w)).2.1 hp
  have na:a≠l:=fun w'=>by subst w';exact I.dis i j t s a z et e w ((zeu q).mpr hl)
  obtain⟨u,hu⟩:=Option.ne_none_iff_exists'.mp h
  refine⟨?_,(kp a u na hu).trans hu.symm⟩
  cases q2:G' a with
  |none=>rfl
  |some u=>
   rcases nw a u q2 with z|z
   ·exact absurd g z
   ·exact absurd z h
section
variable {X:Cx} {x y:Str} {p py pos:Pos} {es:List Expr} {ma:MA} {k k' n:Nat} {F:List D->List D->Option (Sl×List D)}
theorem soundM {t:TA}{Q:VK}(sa:∀B G H σ ρ ds ρ' (Q:List V->Hp->Prop),SI X.K B G H σ ρ->ma ρ=some (ds,ρ')->(∀G' H' vs,SI X.K B G' H' σ ρ'->Fz G G'->RepL X.K G' vs ds->Q vs H')->t σ H Q)
  (hlen:∀ρ as ρ',ma ρ=some (as,ρ')->as.length+1=n) (I:SI X.K B G H σ ρ) {ds0:List D} (h0:ρ[j]?.bind Sl.items=some ds0) {as:List D} {ρ1:R} (e1:ma ρ=some (as,ρ1)) {s:Sl} (e2:ρ1[j]? =some s) {cs:List D} (e3:s.items=some cs)
  {r:Sl} {out:List D} (e4:F cs as=some (r,out))
  (kk:∀G' H' v,SI X.K B G' H' σ (ρ1.set j (s.put out))->Fz G G'->True->(∃H1,ResF X.K G' H' H1 v r/\(∀b,H1 b=none->B.H b=none)/\∀b,H1 b=none->Nw X.K G' H' σ (ρ1.set j (s.put out)) b)->Q v H'):
  tCall (spM X.K n F) [] E0 (tCons (tVar j) t) σ H Q:=by
 obtain⟨s0,k0,q0⟩:=zah h0
 obtain⟨l,xs0,h1,h2,h3,h4⟩:=I.wr k0 q0
 refine⟨.ref l,h1,sa B G H σ ρ as ρ1 _ I e1 fun G1 H1 vs I1 f1 r1=>?_⟩
 show spM X.K n F ((.ref l::vs)++[]) H1 Q E0
 rw[List.append_nil]
 obtain⟨l',xs,m1,m2,m3,m4⟩:=I1.wr e2 e3
 rw[h1]at m1;cases m1
 refine⟨G1,l,xs,cs,vs,as,r,out,rfl,e4,hlen ρ as ρ1 e1,I1.fz,m2,m3,m4,r1,fun G2 H2 v ys f2 fz2 nw kp gl hl r2 rr=>?_⟩
 exact kk G2 H2 v (I1.growW e2 e3 h1 f2 fz2 nw kp gl hl r2) (f1.trans f2) trivial ⟨H1,rr,fun b hb=>I1.there b hb,fun b hb=>I1.own_neW e2 e3 h1 hb nw kp⟩
theorem zao (j:Nat)(fd:FD X.prog X.w X.K X.mg X.base k x (spM X.K n F))(hr:Room k' X.A)(ha:SA X es ma)(hlen:∀ρ as ρ',ma ρ=some (as,ρ')->as.length+1=n)(hN:autoParam (X.N[j]? =some y) zu2._auto_1)(hv:autoParam (Vis X.env.scope y) zu5._auto_1)(hd:autoParam ((y==("__debug__":Str))=false) zu1._auto_1)
  (hcd:autoParam ((y==("__classdict__":Str))=false) zu1._auto_1) (hk:autoParam (k<=k') zu1._auto_1) (hg:autoParam (Gl X x) zu2._auto_1) (hdb:autoParam ((x==("__debug__":Str))=false) zu1._auto_1)
  (he:autoParam (starEach (.Name y py::es) X.env=(false,eval (.Name y py) X.env)::starEach es X.env) zu2._auto_1) (hpl:autoParam ((backTo pos (starEach es X.env)).any (·.1)=false) zu2._auto_1):SE X (.Call (.Name x p) (.Name y py::es) [] pos) (zaw F j ma):=by
 obtain⟨f,fdd,ps,G0,h1,h2,h3⟩:=fd.ex
 obtain⟨t,pa,sa⟩:=ha
 refine⟨_,zkA G0 (hr.mono hk) hg h1 h2 h3 .nil pass0 (zdm (zgf hN hv hd hcd) pa he) hdb he hpl,fun B G H σ ρ d ρ' Q I hm kk=>?_⟩
 unfold zaw at hm
 split at hm
 ·rename_i hso
  obtain⟨ds0,hso⟩:=Option.isSome_iff_exists.mp hso
  obtain⟨⟨as,ρ1⟩,e1,hm⟩:=zah hm
  obtain⟨s,e2,hm⟩:=zah hm
  obtain⟨cs,e3,hm⟩:=zah hm
  obtain⟨⟨r,out⟩,e4,hm⟩:=zah hm
  refine soundM sa hlen I hso e1 e2 e3 e4 fun G' H' v I' f' _ ⟨H1,rr,bb,nn⟩=>?_
  cases r with
  |val d'=>cases hm;exact kk G' H' v I' f' rr
  |own ds=>
   cases hm
   obtain⟨l,xs,rfl,g3,h3,r3,b3⟩:=rr
   obtain⟨I3,f3,r4⟩:=zjL I' g3 h3 r3 (bb l b3) (nn l b3)
   exact kk _ H' _ I3 (f'.trans f3) r4
  |emp=>cases hm
  |two _ _=>cases hm
  |tre _=>cases hm
  |ptr _=>cases hm
  |par _=>cases hm
 ·cases hm
end
noncomputable def zeS (env:Env)(cs:List (Str×Addr))(x:Str×NameKind):List (Str×Addr):=if x.2== .free then(x.1,(env.cells.lookup x.1).getD 0)::cs else cs
noncomputable def clOf (scope:Scope)(env:Env):List (Str×Addr):=scope.names.foldl (zeS env) []
theorem zgY:∀(names:List (Str×NameKind)) (cs:List (Str×Addr)),(∀y∈names,y.2= .free->∃c,env.cells.lookup y.1=some c)->
  (forIn names cs (fun x r=>if x.2==NameKind.free then do let a<-cellOf env x.1;pure (ForInStep.yield ((x.1,a)::r))else pure (ForInStep.yield r)):Sem (List (Str×Addr)))=pure (names.foldl (zeS env) cs)
 |[],cs,_=>rfl
 |(n,k)::r,cs,h=>by
  have ih:=fun cs'=>zgY r cs' (fun y hy=>h y (List.mem_cons_of_mem _ hy))
  rw[List.forIn_cons,List.foldl_cons]
  by_cases hk:(k==NameKind.free)=true
  ·obtain⟨c,hc⟩:=h (n,k) List.mem_cons_self (by simpa using hk)
   have e:zeS env cs (n,k)=(n,c)::cs:=by unfold zeS;simp[hk,hc]
   rw[e,<-ih]
   simp only[hk,if_true]
   unfold cellOf
   simp only at hc
   rw[hc]
   rfl
  ·have e:zeS env cs (n,k)=cs:=by unfold zeS;simp[hk]
   rw[e,<-ih]
   simp only[hk]
   rfl
theorem zmw {env:Env}(h:∀y∈scope.names,y.2= .free->∃c,env.cells.lookup y.1=some c):closureFor scope env=pure (clOf scope env):=by
 unfold closureFor clOf
 have e:=zgY (env:=env) scope.names [] h
 simp only[bind_pure]
 exact e
theorem zdk:∀{names:List (Str×NameKind)} {cs:List (Str×Addr)},(∀y∈names,y.2= .free->∃c,env.cells.lookup y.1=some c)->(cs.lookup x=some c->env.cells.lookup x=some c)->
  (names.foldl (zeS env) cs).lookup x=some c->env.cells.lookup x=some c
 |[],cs,_,h0,h=>h0 h
 |(n,k)::r,cs,hn,h0,h=>by
  rw[List.foldl_cons]at h
  refine zdk (names:=r) (fun y hy=>hn y (List.mem_cons_of_mem _ hy)) ?_ h
  intro q
  unfold zeS at q
  split at q
  ·rename_i hk
   obtain⟨c',hc⟩:=hn (n,k) List.mem_cons_self (by simpa using hk)
   rw[List.lookup_cons]at q
   simp only at hc
   by_cases z:(x==n)=true
   ·rw[z]at q
    have zz:x=n:=by simpa using z
    subst zz
    simp only[hc,Option.getD_some]at q
    rw[hc];exact q
   ·have z':(x==n)=false:=by simpa using z
    rw[z']at q;exact h0 q
  ·exact h0 q
theorem zeC:∀{names:List (Str×NameKind)} {cs:List (Str×Addr)},((x,NameKind.free)∈names\/(cs.lookup x).isSome=true)->((names.foldl (zeS env) cs).lookup x).isSome=true
 |[],cs,h=>by
  rcases h with h|h
  ·simp at h
  ·exact h
 |(n,k)::r,cs,h=>by
  rw[List.foldl_cons]
  refine zeC (names:=r) ?_
  rcases h with h|h
  ·rcases List.mem_cons.mp h with h|h
   ·cases h
    refine .inr ?_
    unfold zeS
    simp
   ·exact .inl h
  ·refine .inr ?_
   unfold zeS
   split
   ·rw[List.lookup_cons]
    by_cases z:(x==n)=true
    ·rw[z];rfl
    ·have z':(x==n)=false:=by simpa using z
     rw[z'];exact h
   ·exact h
theorem zhI:∀{names:List (Str×NameKind)} {n:Nat} {acc:List (Str×Addr)},(cellsFrom n names acc).lookup x=some c->(n<=c/\(x,NameKind.cell)∈names)\/acc.lookup x=some c
 |[],n,acc,h=> .inr h
 |(m,k)::r,n,acc,h=>by
  unfold cellsFrom at h
  split at h
  ·rename_i hk
   have hk':k= .cell:=by simpa using hk
   subst hk'
   rcases zhI h with⟨h1,h2⟩|h1
   ·exact .inl ⟨Nat.le_of_succ_le h1,List.mem_cons_of_mem _ h2⟩
   ·rw[List.lookup_cons]at h1
    cases q:x==m with
    |true=>
     rw[q]at h1
     cases h1
     rw[beq_iff_eq.mp q]
     exact .inl ⟨Nat.le_refl _,List.mem_cons_self⟩
    |false=>rw[q]at h1;exact .inr h1
  ·rcases zhI h with⟨h1,h2⟩|h1
   ·exact .inl ⟨h1,List.mem_cons_of_mem _ h2⟩
   ·exact .inr h1
theorem zlu:∀{names:List (Str×NameKind)} {n:Nat} {acc:List (Str×Addr)},(x,NameKind.cell)∉names->(cellsFrom n names acc).lookup x=acc.lookup x
 |[],n,acc,_=>rfl
 |(m,k)::r,n,acc,h=>by
  unfold cellsFrom
  split
  ·rename_i hk
   have hk':k= .cell:=by simpa using hk
   subst hk'
   rw[zlu fun z=>h (List.mem_cons_of_mem _ z),List.lookup_cons]
   cases q:x==m with
   |true=>exact absurd (by rw[beq_iff_eq.mp q];exact List.mem_cons_self) h
   |false=>rfl
  ·exact zlu fun z=>h (List.mem_cons_of_mem _ z)
theorem zlZ:∀{names:List (Str×NameKind)} {n:Nat} {acc:List (Str×Addr)},(x,NameKind.cell)∈names->∃c,(cellsFrom n names acc).lookup x=some c/\n<=c
 |(m,k)::r,n,acc,h=>by
  unfold cellsFrom
  by_cases hr:(x,NameKind.cell)∈r
  ·split
   ·obtain⟨c,h1,h2⟩:=zlZ (n:=n+1) (acc:=(m,n)::acc) hr
    exact⟨c,h1,Nat.le_of_succ_le h2⟩
   ·exact zlZ hr
  ·rcases List.mem_cons.mp h with e|e
   ·cases e
    rw[if_pos (beq_self_eq_true _),zlu hr,List.lookup_cons,beq_self_eq_true]
    exact⟨n,rfl,Nat.le_refl _⟩
   ·exact absurd e hr
theorem znz:∀{names:List (Str×NameKind)} {n:Nat} {acc:List (Str×Addr)},(∀x c,acc.lookup x=some c->c<n)->(∀x y c,acc.lookup x=some c->acc.lookup y=some c->x=y)->
  ∀x y c,(cellsFrom n names acc).lookup x=some c->(cellsFrom n names acc).lookup y=some c->x=y
 |[],n,acc,_,hi=>hi
 |(m,k)::r,n,acc,hl,hi=>by
  unfold cellsFrom
  split
  ·refine znz (fun x c h=>?_) (fun x y c h1 h2=>?_)
   ·rw[List.lookup_cons]at h
    cases q:x==m with
    |true=>rw[q]at h;cases h;exact Nat.lt_succ_self _
    |false=>rw[q]at h;exact Nat.lt_succ_of_lt (hl x c h)
   ·rw[List.lookup_cons]at h1 h2
    cases q:x==m with
    |true=>
     rw[q]at h1
     cases h1
     cases q2:y==m with
     |true=>rw[beq_iff_eq.mp q,beq_iff_eq.mp q2]
     |false=>rw[q2]at h2;exact absurd (hl y n h2) (Nat.lt_irrefl _)
    |false=>
     rw[q]at h1
     cases q2:y==m with
     |true=>rw[q2]at h2;cases h2;exact absurd (hl x n h1) (Nat.lt_irrefl _)
     |false=>rw[q2]at h2;exact hi x y c h1 h2
  ·exact znz hl hi
theorem zkO:∀{names:List (Str×NameKind)} {h:Heap} {acc:List (Str×Addr)},(∀x c,acc.lookup x=some c->∃v,h.IsCell c v)->∀x c,(cellsFrom h.objs.size names acc).lookup x=some c->∃v,(pushCells h names).IsCell c v
 |[],h,acc,ha=>ha
 |(m,k)::r,h,acc,ha=>by
  unfold cellsFrom pushCells
  split
  ·intro x c e
   rw[<-Heap.size_push h {cls:= .type "cell",data:= .cell none}]at e
   refine zkO (fun y d q=>?_) x c e
   rw[List.lookup_cons]at q
   cases z:y==m with
   |true=>rw[z]at q;cases q;exact⟨none,_,Heap.get?_push_size _ rfl,rfl⟩
   |false=>
    rw[z]at q
    obtain⟨v,hv⟩:=ha y d q
    exact⟨v,hv.keeps fun b o e=>Heap.get?_push_of_some _ e⟩
  ·exact zkO ha
theorem zkK {M:Model}{s:Shared}{globals:Addr}{Q:Env->Shared->Prop}
  (hQ : ∀ h' : Heap, h'.Ns s.heap.objs.size (fun _ => none) -> (∀ a o, s.heap.get? a = some o -> h'.get? a = some o) ->
   ((∀x c,cl.lookup x=some c->∃v,s.heap.IsCell c v)->∀x c,(cellsFrom (s.heap.objs.size+1) scope.names cl).lookup x=some c->∃v,h'.IsCell c v)->
   Q (newEnv scope s.heap.objs.size globals (cellsFrom (s.heap.objs.size+1) scope.names cl) qual none .none (some env) builtinsNs) {s with heap:=h'}):
  wpAny M A (newFunctionEnv scope globals cl [] qual none .none (some env)) Q E s:=by
 simp only[newFunctionEnv,Option.isSome_some,if_true]
 refine wpAny_bind (wpAny_alloc ?_)
 refine wpAny_bind (wpAny_layCells _ (fun name kind cells=>by cases hkc:kind==NameKind.cell<;>simp[hkc]) _ _ _ _ ?_)
 rw[show({s with heap:=s.heap.push {cls:= .type "dict",data:= .dict #[]}}:Shared).heap.objs.size=s.heap.objs.size+1 from Heap.size_push ..]
 refine wpAny_bind ?_
 rw[List.forIn_nil]
 refine wpAny_pure (wpAny_pure (hQ _ ((Heap.Ns.new s.heap (.type "dict")).keeps (pushCells_keeps _ _)) (fun a o e=>pushCells_keeps _ _ a o (Heap.get?_push_of_some _ e)) fun hc x c e=>?_))
 rw[<-Heap.size_push s.heap {cls:= .type "dict",data:= .dict #[]}]at e
 refine zkO (fun y d q=>?_) x c e
 obtain⟨v,hv⟩:=hc y d q
 exact⟨v,hv.keeps fun b o e=>Heap.get?_push_of_some _ e⟩
noncomputable def clC (scope:Scope)(env:Env)(C:Addr):List (Str×Addr):=cellsFrom (C+1) scope.names (clOf scope env)
noncomputable def ownC (scope:Scope)(x:Str):Bool:=match scope.names.lookup x with
 |some .cell=>true
 |_=>false
noncomputable def cxC (X:Cx)(N:List Str)(scope:Scope)(C:Addr)(s:Shared)(H:Hp)(fp:List Addr):Cx:=
 {X with N:=N,s₀:=s,H₀:=H,env:=compEnvC scope (clC scope X.env C) C X.env,outer:=X.stack,ex:=fp,fn:=ownC scope,pn:=[],xe:=fun _ _=>False}
structure BlkOk (X:Cx) (scope:Scope):Prop where
 kind:scope.kind= .function
 uniq:∀y∈scope.names,scope.names.lookup y.1=some y.2
 free:∀y∈scope.names,y.2= .free->X.env.kindOf y.1=some .cell\/X.env.kindOf y.1=some .free
theorem ze2 {α:Type}{v:α}:∀{l:List (Str×α)},l.lookup x=some v->(x,v)∈l
 |[],h=>by simp at h
 |(n,w)::r,h=>by
  rw[List.lookup_cons]at h
  by_cases z:(x==n)=true
  ·rw[z]at h
   have zz:x=n:=by simpa using z
   subst zz
   cases h
   exact List.mem_cons_self
  ·have z':(x==n)=false:=by simpa using z
   rw[z']at h
   exact List.mem_cons_of_mem _ (ze2 h)
theorem zc5 {env:Env}{x:Str}:∀{names:List (Str×NameKind)},(names.map fun(n,k)=>if(k==NameKind.free&&env.scope.kind== .function&&env.kindOf n==some .cell)then(n,NameKind.cell)else(n,k)).lookup x=
  (names.lookup x).map fun k=>if(k==NameKind.free&&env.scope.kind== .function&&env.kindOf x==some .cell)then NameKind.cell else k
 |[]=>rfl
 |(n,k)::r=>by
  have ih:=zc5 (env:=env) (x:=x) (names:=r)
  show List.lookup x ((if(k==NameKind.free&&env.scope.kind== .function&&env.kindOf n==some .cell)=true then(n,NameKind.cell)else(n,k))::_)=_
  cases hx:x==n with
  |true=>
   have zz:x=n:=by simpa using hx
   by_cases hc:(k==NameKind.free&&env.scope.kind== .function&&env.kindOf n==some .cell)=true
   ·rw[if_pos hc]
    simp only[List.lookup_cons,hx,Option.map_some]
    rw[zz,if_pos hc]
   ·rw[if_neg hc]
    simp only[List.lookup_cons,hx,Option.map_some]
    rw[zz,if_neg hc]
  |false=>
   by_cases hc:(k==NameKind.free&&env.scope.kind== .function&&env.kindOf n==some .cell)=true
   ·rw[if_pos hc];simp only[List.lookup_cons,hx];exact ih
   ·rw[if_neg hc];simp only[List.lookup_cons,hx];exact ih
section
variable {X:Cx} {pins:List (Addr×Obj)} {σ:St} {H:Hp} {s:Shared} {scope:Scope} {N:List Str} {fp:List Addr} {C:Addr}
theorem zhm (I:Inv X pins σ H s)(b:BlkOk X scope):∀y∈scope.names,y.2= .free->∃c,X.env.cells.lookup y.1=some c:=fun y hy hf=>I.ok.has y.1 (b.free y hy hf)
theorem blk_vis (h:(relabel scope X.env).names.lookup x=some .cell\/(relabel scope X.env).names.lookup x=some .free):(x,NameKind.free)∈scope.names\/(x,NameKind.cell)∈scope.names:=by
 have e:(relabel scope X.env).names.lookup x=(scope.names.lookup x).map fun k=>if(k==NameKind.free&&X.env.scope.kind== .function&&X.env.kindOf x==some .cell)then NameKind.cell else k:=zc5
 rw[e]at h
 cases q:scope.names.lookup x with
 |none=>rw[q]at h;simp at h
 |some k=>
  have hm:=ze2 q
  by_cases hk:k= .free
  ·subst hk;exact .inl hm
  ·rw[q]at h
   have hkf:(k==NameKind.free)=false:=by simpa using hk
   simp only[Option.map_some,hkf,Bool.false_and,Bool.false_eq_true,if_false,Option.some.injEq]at h
   rcases h with h|h
   ·subst h;exact .inr hm
   ·exact absurd h hk
theorem zgo (I:Inv X pins σ H s)(b:BlkOk X scope)(h:(clOf scope X.env).lookup x=some c):X.env.cells.lookup x=some c:=zdk (zhm I b) (by simp) h
theorem zgy (I:Inv X pins σ H s)(b:BlkOk X scope)(h:(clC scope X.env C).lookup x=some c):C<c\/X.env.cells.lookup x=some c:=by
 rcases zhI h with⟨h1,_⟩|h1
 ·exact .inl h1
 ·exact .inr (zgo I b h1)
theorem zlW (b:BlkOk X scope)(h:(x,NameKind.free)∈scope.names):(clC scope X.env C).lookup x=(clOf scope X.env).lookup x:=zlu fun z=>by
 have h1:=b.uniq _ h
 have h2:=b.uniq _ z
 simp only at h1 h2
 rw[h1]at h2
 cases h2
theorem blk_ok (I:Inv X pins σ H s)(b:BlkOk X scope)(hC:s.heap.objs.size<=C)(hf:∀b∈fp,FpOk X pins H b)(hfC:∀b∈fp,b<C):(cxC X N scope C s H fp).Ok where
 mod:=I.ok.mod
 kind:=b.kind
 glob:=I.ok.glob
 blt:=I.ok.blt
 above:=hC
 inj:=znz (fun x c h=>by
  obtain⟨v,hv⟩:=I.cell x c (zgo I b h)
  exact Nat.lt_succ_of_lt (Nat.lt_of_lt_of_le hv.lt hC)) fun x y c h1 h2=>I.ok.inj x y c (zgo I b h1) (zgo I b h2)
 has:=fun x hx=>by
  rcases blk_vis (x:=x) hx with hm|hm
  ·show ∃c,(clC scope X.env C).lookup x=some c
   rw[zlW b hm]
   exact Option.isSome_iff_exists.mp (zeC (.inl hm))
  ·obtain⟨c,h,_⟩:=zlZ (n:=C+1) (acc:=clOf scope X.env) hm
   exact⟨c,h⟩
 cab:=fun x c h e=>by
  have h':ownC scope x=true:=h
  unfold ownC at h'
  split at h'
  ·rename_i q
   obtain⟨c',h1,h2⟩:=zlZ (n:=C+1) (acc:=clOf scope X.env) (ze2 q)
   have e':some c'=some c:=h1.symm.trans e
   cases e'
   exact Nat.le_trans hC (Nat.le_of_succ_le h2)
  ·cases h'
 hd:=I.ok.hd
 frames:=I.ok.frames
 stk:= .inl rfl
 exf:=fun a ha=>⟨Nat.ne_of_lt (hfC a ha),fun x c e z=>by
  rcases zgy I b e with q|q
  ·exact Nat.lt_asymm q (z ▸ hfC a ha)
  ·exact(hf a ha).2.2.2.2.1 x c q z⟩
 bs:=I.bs
 bsz:=Nat.le_trans I.ok.bsz I.sz
 noex:=fun a o e ha=>by
  rcases(hf a ha).2.2.2.1 with z|z
  ·exact I.ok.noex a o e z
  ·exact absurd (Nat.lt_of_lt_of_le (Heap.lt_size e) (Nat.le_trans I.ok.bsz z)) (Nat.lt_irrefl _)
 exfs:=fun a ha hs=>by
  rcases List.mem_cons.mp (I.stkSub a hs)with z|z
  ·exact(hf a ha).2.1 z
  ·exact(hf a ha).2.2.1 z
 funs:=I.stack
 frf:=I.stkFree
theorem zm8 {tk:Nat}(I:Inv X pins σ H s)(b:BlkOk X scope)(hf:∀b∈fp,FpOk X pins H b)(hfs:∀b∈fp,b<s.heap.objs.size)
  (hns:h'.Ns s.heap.objs.size (fun _=>none)) (hk:∀a o,s.heap.get? a=some o->h'.get? a=some o) (hcl:∀x c,(clC scope X.env s.heap.objs.size).lookup x=some c->∃v,h'.IsCell c v) (hl:σc.length=N.length)
  (hσ:∀(i:Nat) (x:Str) (v:V),N[i]? =some x->σc[i]? =some (some v)->(x,NameKind.free)∈scope.names/\∃j:Nat,X.N[j]? =some x/\σ[j]? =some (some v)) (hloc:∀(i:Nat) (x:Str) (v:V),N[i]? =some x->σc[i]? =some (some v)->¬(relabel scope X.env).names.lookup x=some .local):
  Inv (cxC X N scope s.heap.objs.size s H fp) [] σc H {s with heap:=h',toks:=tk}:=by
 have ok:=blk_ok (N:=N) I b (Nat.le_refl _) hf hfs
 refine⟨ok,rfl,I.bare,Un.kept hk,⟨_,hns,fun i x v h1 h2 h3=>?_⟩,fun x c e=>?_,I.hok.fresh (Nat.le_refl _),fun x c e=>?_,fun p hp=>absurd (show p∈([]:List (Addr×Obj))from hp) (by simp),I.hok.kept hk,hl⟩
 ·obtain⟨hm,j,hj,hv⟩:=hσ i x v h1 h2
  have hkind:=b.free _ hm rfl
  obtain⟨m,hn,hloc'⟩:=I.loc
  have hvis:Vis X.env.scope x:=by
   rcases hkind with z|z
   ·exact .inr (.inl z)
   ·exact .inr (.inr z)
  obtain⟨u,ru,lk⟩:=hloc' j x v hj hv hvis
  refine⟨u,ru,?_⟩
  rcases lk with⟨z,_⟩|⟨_,c,ec,hc⟩
  ·exfalso
   rcases hkind with w|w<;>simp only at w<;>rw[z]at w<;>cases w
  ·refine .inr ⟨?_,c,?_,?_⟩
   ·rcases h3 with z|z|z
    ·exact absurd z (hloc i x v h1 h2)
    ·exact .inl z
    ·exact .inr z
   ·have hs:((clOf scope X.env).lookup x).isSome=true:=zeC (.inl hm)
    obtain⟨c',ec'⟩:=Option.isSome_iff_exists.mp hs
    have:=zdk (zhm I b) (by simp) ec'
    rw[ec]at this
    cases this
    exact(zlW b hm).trans ec'
   ·obtain⟨o,ho,hd⟩:=hc
    exact⟨o,hk _ _ ho,hd⟩
 ·exact hcl x c e
 ·rcases zgy I b e with q|q
  ·exact I.hok.fresh (Nat.le_of_lt q)
  ·exact I.freeC x c q
theorem znd {h':Heap}{s1:Shared}(I:Inv X pins σ H s)(hf:∀b∈fp,FpOk X pins H b)(J:Inv (cxC X N scope s.heap.objs.size s H fp) [] σc H' s1)(hs:Heap.SameBut s.heap.objs.size s1.heap h'):Inv X pins σ H' {s1 with heap:=h'}:=by
 have kp:∀a o,a≠s.heap.objs.size->s1.heap.get? a=some o->h'.get? a=some o:=fun a o ha e=>hs.extBut a o ha e
 have free:H' s.heap.objs.size=none:=J.free
 have ntr:∀a u,H' a=some u->a≠s.heap.objs.size:=fun a u e z=>by rw[z,free]at e;cases e
 have lt:∀a o,s.heap.get? a=some o->a≠s.heap.objs.size:=fun a o e=>Nat.ne_of_lt (Heap.lt_size e)
 have u:Un (frs X.stack) fp H H' s.heap s1.heap:=J.base
 have u':Un (frs X.stack) fp H H' s.heap h':=by
  refine⟨fun a o e n hb hx=>kp a o (lt a o e) (u.keep a o e n hb hx),fun a o e n hb hx=>?_,u.free,fun a o e hx=>?_,u.tups,u.frzs,u.tbls⟩
  ·obtain⟨sl,q⟩:=u.slot a o e n hb hx
   exact⟨sl,kp a _ (lt a o e) q⟩
  ·obtain⟨o',q⟩:=u.there a o e hx
   exact⟨o',kp a _ (lt a o e) q⟩
 have hok:HOk X.prog X.w H' h':=fun a o e=>(J.hok a o e).stay (fun c v hc q=>by
  refine kp c v ?_ q
  rcases hc with rfl|hc
  ·exact ntr _ _ e
  ·exact ntr _ _ hc) (fun _ q=>q) fun _ _ q=>q
 obtain⟨hh,g,d,t,os'⟩:=s1
 have os:os'=s.os:=J.os
 subst os
 have z:=I.call (h':=h') (g':=g) (d':=d) (t':=t) (ch:=fp) u' hok J.bare (fun a ha=>⟨(hf a ha).2.2.2.1,(hf a ha).2.1,(hf a ha).2.2.2.2.1,(hf a ha).2.2.2.2.2⟩)
 exact z
end
noncomputable def PTs (X:Cx)(ifs:List Expr)(t:TT):Prop:=∀(pins:List (Addr×Obj)) (s:Shared) (σ:St) (H:Hp) (Q:Bool->Hp->Prop),Inv X pins σ H s->t σ H Q->
 wpAny (model X.prog X.w) X.A (forIn ifs true fun c r=>if r=true then do let ok<-isTrue c X.env (eval c X.env);pure (ForInStep.yield ok)else pure (ForInStep.yield r)) (TP X pins σ Q) X.xe s
theorem pts_nil:PTs X [] (fun _ H Q=>Q true H):=fun pins s σ H Q I h=>wpAny_tests_nil ⟨H,I,h⟩
theorem zk1 {R:Result->Shared->Prop}{s:Shared}{elt target iter:Expr}{it acc:Value}(I:Nat->Shared->Prop)
  (turn : ∀ n s, I n s -> wpAny (model prog w) A (pyNext it) (fun r s₁ => match r with
   |none=>R (.ok .next) s₁
   | some v => wpAny (model prog w) A (letOwnedTupleGo target it v) (fun _ s₁' => wpAny (model prog w) A (assign target env v) (fun _ s₂ =>
     wpAny (model prog w) A (forIn ifs true fun c r=>if r=true then do let ok<-isTrue c env (eval c env);pure (ForInStep.yield ok)else pure (ForInStep.yield r)) (fun ok s₃=>
      if ok=true then wpAny (model prog w) A (eval elt env) (fun x s₄=>
       wpAny (model prog w) A (call (.builtin "list.append") [acc,x]) (fun _ s₅=>∃m,m<n/\I m s₅) (fun _ _=>False) s₄) (fun _ _=>False) s₃
      else ∃m,m<n/\I m s₃) (fun _ _=>False) s₂) (fun _ _=>False) s₁') (fun _ _=>False) s₁) (fun _ _=>False) s)
  (n:Nat) (h:I n s):codeAny (model prog w) A (.compLoop (.ListComp elt [⟨target,iter,ifs,0⟩] scope pos) 0 it acc env) R s:=by
 refine codeAny_loop rfl I (fun n s hI=>?_) n h
 show wpAny _ A ((compTurn (.ListComp elt [⟨target,iter,ifs,0⟩] scope pos) 0 it acc env).onRaise (fun x=>do noteFrame x env;theTreesLotGoes x)) _ _ s
 refine wpAny_noted ?_
 rw[compTurn_list]
 have no:∀{E:Value->Shared->Prop},∀x s',(fun(_:Value) (_:Shared)=>False) x s'->E x s':=fun _ _ z=>z.elim
 refine wpAny_bind (wpAny_standAt (wpAny_bind (wpAny_mono (turn n s hI) (fun r s₁ h₁=>?_) no)))
 cases r with
 |none=>exact wpAny_pure h₁
 |some v=>
  refine wpAny_bind (wpAny_mono h₁ (fun _ s₁' h₁'=>?_) no)
  refine wpAny_bind (wpAny_mono h₁' (fun _ s₂ h₂=>wpAny_bind (wpAny_mono h₂ (fun ok s₃ h₃=>?_) no)) no)
  cases ok with
  |false=>exact wpAny_pure ⟨rfl,h₃⟩
  |true=>
   exact wpAny_bind (wpAny_bind (wpAny_mono h₃ (fun x s₄ h₄=>wpAny_bind (wpAny_mono h₄ (fun _ s₅ h₅=>wpAny_pure (wpAny_pure ⟨rfl,h₅⟩)) no)) no))
noncomputable def tLC (σ0:St->St)(wi:TI)(g:Addr->Shared->Hp->List Addr->TG)(tt:Addr->Shared->Hp->List Addr->TT)(te:Addr->Shared->Hp->List Addr->TE):TE:=fun σ H Q=>wi σ H fun J H1=>∀D,H1 D=none->∃W:Nat->Nat->St->Hp->Prop,(∃m,W 0 m (σ0 σ) (upd H1 D (.lst [])))/\∀i m σ H,W i m σ H->
 (J.stop i H /\ Q (.ref D) H) \/ (J.go i H /\ ∀ C s₀ H₀ fp x H', J.yld i H x H' -> g C s₀ H₀ fp x σ H' fun σ2 H2 => tt C s₀ H₀ fp σ2 H2 fun ok H3 => if ok = true then te C s₀ H₀ fp σ2 H3 fun v H4 => ∃ xs, H4 D = some (.lst xs) /\ xs.length < sizeLine /\ ∃ m', m' < m /\ W (i + 1) m' σ2 (upd H4 D (.lst (xs ++ [v])))
  else ∃m',m'<m/\W (i+1) m' σ2 H3)
section
variable {X:Cx} {elt iter tg:Expr} {ifs:List Expr} {scope:Scope} {pos:Pos} {N:List Str} {σ0:St->St} {wi:TI} {g:Addr->Shared->Hp->List Addr->TG} {tt:Addr->Shared->Hp->List Addr->TT} {te:Addr->Shared->Hp->List Addr->TE}
structure Cap (X:Cx) (scope:Scope) (N:List Str) (σ0:St->St):Prop where
 len:∀σ,(σ0 σ).length=N.length
 src:∀(σ:St) (i:Nat) (x:Str) (v:V),N[i]? =some x->(σ0 σ)[i]? =some (some v)->(x,NameKind.free)∈scope.names/\∃j:Nat,X.N[j]? =some x/\σ[j]? =some (some v)
 loc:∀(σ:St) (i:Nat) (x:Str) (v:V),N[i]? =some x->(σ0 σ)[i]? =some (some v)->¬(relabel scope X.env).names.lookup x=some .local
theorem znk {E:Value->Shared->Prop}(hc:X.calm=true)(b:BlkOk X scope)(cap:Cap X scope N σ0)(hi:PI X tg iter wi)(hg:∀C s H fp,PG (cxC X N scope C s H fp) tg (g C s H fp))(ht:∀C s H fp,PTs (cxC X N scope C s H fp) ifs (tt C s H fp))(he:∀C s H fp,PE (cxC X N scope C s H fp) elt (te C s H fp))
  {pins:List (Addr×Obj)} {s:Shared} {σ:St} {H:Hp} {Q:VK} (I:Inv X pins σ H s) (h:tLC σ0 wi g tt te σ H Q) {QQ:Value->Shared->Prop} {p0:Pos}
  (hs:∀x,foldedSetIterable iter X.env x=pure x)
  (fin : match use with
   |none=>∀u s',EP X pins σ Q u s'->QQ u s'
   |some f=>∀(D:Addr) (fp:List Addr) (C:Addr) (H1 H':Hp) (σc:St) (s1 s':Shared),Inv X pins σ H1 s1->(∀b∈fp,FpOk X pins H1 b)->C=s1.heap.objs.size->Inv (cxC X N scope C s1 H1 fp) [] σc H' s'->Q (.ref D) H'->
     wpAny (model X.prog X.w) X.A (f (.ref D)) (fun _ s''=>∃m,s''.heap.Ns C m/\∀h',Heap.SameBut C s''.heap h'->QQ .none {s'' with heap:=h'}) X.xe s'):
  wpAny (model X.prog X.w) X.A (comprehension (.ListComp elt [⟨tg,iter,ifs,0⟩] scope pos) scope X.env p0 (newList []) false (eval iter X.env) use) QQ X.xe s:=by
 refine wpAny_comprehension_free (cl:=clOf scope X.env) (g:=⟨tg,iter,ifs,0⟩) (gs:=[]) rfl hs (zmw (zhm I b)) b.kind (fun x hx hl=>hl ▸ b.uniq x hx) ?_
 refine thn (hi pins s σ H _ I h) fun v s1 h1=>thn h1 fun itv s2 h2=>?_
 obtain⟨it,fp,tn,J,H2,e,I2,T,st2,f2,h3⟩:=h2
 subst e
 refine wpAny_newObj_type ?_ (by show(0:Nat)<=sizeLine;exact Nat.zero_le _)
 have hD:H2 s2.heap.objs.size=none:=I2.fresh
 obtain⟨W,⟨m0,w0⟩,turn⟩:=h3 _ hD
 have I3:Inv X pins σ (upd H2 s2.heap.objs.size (.lst [])) {s2 with heap:=s2.heap.push {cls:= .type "list",data:= .seq ([]:List Value).toArray}}:=I2.lnew (t':=s2.toks) .nil (Nat.zero_le _)
 have f3:∀b∈fp,FpOk X pins (upd H2 s2.heap.objs.size (.lst [])) b:=fun b hb=>by
  obtain⟨a1,a2⟩:=f2 b hb
  obtain⟨o,ho,_⟩:=T.obj _ _ st2 b hb
  exact⟨by rw[zaA (Nat.ne_of_lt (Heap.lt_size ho))];exact a1,a2⟩
 have st3:tn 0 (s2.heap.push {cls:= .type "list",data:= .seq ([]:List Value).toArray}):=T.keep _ _ _ st2 fun b hb o e=>Heap.get?_push_of_some _ e
 generalize hs3:({s2 with heap:=s2.heap.push {cls:= .type "list",data:= .seq ([]:List Value).toArray}}:Shared)=s3 at I3
 have hs3':s3.heap=s2.heap.push {cls:= .type "list",data:= .seq ([]:List Value).toArray}:=by rw[<-hs3]
 rw[<-hs3']at st3
 have hfs:∀b∈fp,b<s3.heap.objs.size:=fun b hb=>by
  obtain⟨o,ho,_⟩:=T.obj _ _ st3 b hb
  exact Heap.lt_size ho
 show wpAny _ _ (newFunctionEnv scope X.env.globals (clOf scope X.env) [] X.env.qual none .none (some X.env)) _ _ s3
 refine zkK fun h' hns hk hcl=>?_
 have hcl:=hcl fun x c e=>I3.cell x c (zgo I3 b e)
 generalize hDD:s2.heap.objs.size=DD at*
 have B0:Inv (cxC X N scope s3.heap.objs.size s3 (upd H2 DD (.lst [])) fp) [] (σ0 σ) (upd H2 DD (.lst [])) {s3 with heap:=h'}:=
  zm8 (tk:=s3.toks) I3 b f3 hfs hns hk hcl (cap.len σ) (cap.src σ) (cap.loc σ)
 have stat:∀{H':Hp},(∀b∈fp,H' b=none)->∀b∈fp,FpOk (cxC X N scope s3.heap.objs.size s3 (upd H2 DD (.lst [])) fp) [] H' b:=fun hn b' hb=>by
  refine⟨hn b' hb,Nat.ne_of_lt (hfs b' hb),fun z=>?_,.inl hb,fun x c e=>?_,fun p hp=>absurd (show p∈([]:List (Addr×Obj))from hp) (by simp)⟩
  ·rcases List.mem_cons.mp (I3.stkSub b' z)with w|w
   ·exact(f3 b' hb).2.1 w
   ·exact(f3 b' hb).2.2.1 w
  ·intro z
   rcases zgy I3 b e with q|q
   ·exact Nat.lt_asymm q (z ▸ hfs b' hb)
   ·exact(f3 b' hb).2.2.2.2.1 x c q z
 have tn0:tn 0 h':=T.keep _ _ _ st3 fun b' hb o e=>hk b' o e
 have post:∀(s':Shared) (σc:St) (H':Hp),Inv (cxC X N scope s3.heap.objs.size s3 (upd H2 DD (.lst [])) fp) [] σc H' s'->Q (.ref DD) H'->compPost (model X.prog X.w) X.A X.xe use QQ (.ref DD) s3.heap.objs.size (.ok .next) s':=fun s' σc H' J' q=>by
  cases use with
  |none=>
   obtain⟨m,hn,_⟩:=J'.loc
   exact⟨m,hn,fun h'' hs''=>fin _ _ ⟨.ref DD,H',znd I3 f3 J' hs'',rfl,q⟩⟩
  |some f=>exact fin DD fp _ _ H' σc s3 s' I3 f3 rfl J' q
 have loop:codeAny (model X.prog X.w) X.A (.compLoop (.ListComp elt [⟨tg,iter,ifs,0⟩] scope pos) 0 (.ref it) (.ref DD) (compEnvC scope (clC scope X.env s3.heap.objs.size) s3.heap.objs.size X.env)) (compPost (model X.prog X.w) X.A X.xe use QQ (.ref DD) s3.heap.objs.size) {s3 with heap:=h'}:=by
  refine zk1 (fun n s'=>∃i σ' H',Inv (cxC X N scope s3.heap.objs.size s3 (upd H2 DD (.lst [])) fp) [] σ' H' s'/\tn i s'.heap/\(∀b∈fp,H' b=none)/\W i n σ' H') ?_ m0 ⟨0,σ0 σ,_,B0,tn0,fun b' hb=>(f3 b' hb).1,w0⟩
  rintro n s5 ⟨i,σ5,H5,I5,st5,fr5,w5⟩
  rcases turn i n σ5 H5 w5 with⟨stop,qn⟩|⟨go,step⟩
  ·refine thn (T.done (cxC X N scope s3.heap.objs.size s3 (upd H2 DD (.lst [])) fp) rfl rfl rfl hc i [] s5 σ5 H5 (fun _ _=>False) I5 (stat fr5) st5 stop) fun r s6 ⟨hr,I6⟩=>?_
   subst hr
   exact post s6 σ5 H5 I6 qn
  ·refine thn (T.item (cxC X N scope s3.heap.objs.size s3 (upd H2 DD (.lst [])) fp) rfl rfl rfl hc i [] s5 σ5 H5 (fun _ _=>False) I5 (stat fr5) st5 go) fun r s6 ⟨u,hr,h6⟩=>?_
   subst hr
   refine thn h6 fun _ s7 ⟨x,H7,I7,r7,y7,st7,fr7⟩=>?_
   have I7':=I7.pinned (stat fr7) (T.obj _ _ st7)
   have again:∀{σ8:St} {H8:Hp} {s8:Shared} {m':Nat},Inv (cxC X N scope s3.heap.objs.size s3 (upd H2 DD (.lst [])) fp) ([]++zjO fp s7.heap) σ8 H8 s8->m'<n->W (i+1) m' σ8 H8->
     ∃m,m<n/\∃i σ' H',Inv (cxC X N scope s3.heap.objs.size s3 (upd H2 DD (.lst [])) fp) [] σ' H' s8/\tn i s8.heap/\(∀b∈fp,H' b=none)/\W i m σ' H':=fun{σ8 H8 s8 m'} I8 hm w8=>by
    refine⟨m',hm,i+1,σ8,H8,I8.unpinned,T.keep _ _ _ st7 fun b' hb o e=>(I8.pin (b',o) (List.mem_append_right _ (List.mem_append_right _ (ze1 hb e)))).1,fun b' hb=>?_,w8⟩
    obtain⟨o,e,d⟩:=T.obj _ _ st7 b' hb
    exact(I8.pin (b',o) (List.mem_append_right _ (List.mem_append_right _ (ze1 hb e)))).2.1
   refine thn (hg _ _ _ _ _ s7 σ5 H7 x u _ I7' r7 (step _ _ _ _ x H7 y7)) fun _ s8 ⟨σ8,H8,I8,q8⟩=>?_
   refine thn (ht _ _ _ _ _ s8 σ8 H8 _ I8 q8) fun ok s9 ⟨H9,I9,q9⟩=>?_
   cases ok with
   |false=>
    obtain⟨m',hm,w9⟩:=q9
    exact again I9 hm w9
   |true=>
    refine thn (he _ _ _ _ _ s9 σ8 H9 _ I9 q9) fun u10 s10 ⟨v10,H10,I10,r10,xs,hx,hz,m',hm,w10⟩=>?_
    refine thn (zjK _ s10 σ8 H10 (.ref DD) [v10] (.ref DD) [u10] (fun v H'=>v= .non/\H'=upd H10 DD (.lst (xs++[v10]))) I10 rfl (.cons r10 .nil) ⟨DD,xs,v10,rfl,rfl,hx,hz,rfl,rfl⟩) fun _ s11 ⟨_,H11,I11,_,_,e11⟩=>?_
    subst e11
    exact again I11 hm w10
 exact codeAny_compStart_list loop (T.self _ _ _ _ _ tn0 loop)
theorem pe_lc (hc:X.calm=true)(b:BlkOk X scope)(cap:Cap X scope N σ0)(hi:PI X tg iter wi)(hg:∀C s H fp,PG (cxC X N scope C s H fp) tg (g C s H fp))(ht:∀C s H fp,PTs (cxC X N scope C s H fp) ifs (tt C s H fp))(he:∀C s H fp,PE (cxC X N scope C s H fp) elt (te C s H fp))
    (hs:autoParam (∀x,foldedSetIterable iter X.env x=pure x) zu8._auto_1):PE X (.ListComp elt [⟨tg,iter,ifs,0⟩] scope pos) (tLC σ0 wi g tt te):=by
  intro pins s σ H Q I h
  rw[eval_ListComp]
  exact znk (use:=none) (E:=X.xe) hc b cap hi hg ht he I h hs (fun u s' q=>q)
end
noncomputable def zdn (ρ:R):Bool:=ρ.all fun s=>match s with
 | .own _=>false
 | .par _=>false
 | .tre _=>false
 | .ptr _=>false
 |_=>true
theorem zlA (h:zdn ρ=true){a:Addr}(e:ρ[i]? =some s):¬OwS K G H ov a s:=fun w=>by
 unfold zdn at h
 rw[List.all_eq_true]at h
 have:=h s (List.mem_of_getElem? e)
 cases s with
 |emp=>exact w
 |two _ _=>exact w
 |val d=>exact w
 |_=>exact absurd (show false=true from this) Bool.false_ne_true
theorem zhb (h:zdn ρ=true)(e:ρ[i]? =some s):(∀t,s≠ .tre t)/\∀t,s≠ .ptr t:=by
 unfold zdn at h
 rw[List.all_eq_true]at h
 have:=h s (List.mem_of_getElem? e)
 constructor
 ·rintro t rfl;exact absurd (show false=true from this) Bool.false_ne_true
 ·rintro t rfl;exact absurd (show false=true from this) Bool.false_ne_true
theorem zhf (h:zdn ρ=true):¬Wr ρ i:=fun⟨s,ds,e,q⟩=>by
 unfold zdn at h
 rw[List.all_eq_true]at h
 have:=h s (List.mem_of_getElem? e)
 cases s with
 |emp=>cases q
 |two _ _=>cases q
 |tre _=>cases q
 |ptr _=>cases q
 |val d=>cases q
 |own d=>exact absurd (show false=true from this) Bool.false_ne_true
 |par d=>exact absurd (show false=true from this) Bool.false_ne_true
structure VS (K:W.Frag) (G:Hp) (σ:St) (ρ:R):Prop where
 len:σ.length=ρ.length
 no:zdn ρ=true
 val:∀(i:Nat) d,ρ[i]? =some (.val d)->∃v,σ[i]? =some (some v)/\RepD K G v d
theorem VS.si (h:VS K G σ ρ)(fz:Fz G H):SI K ⟨G,H,[]⟩ G H σ ρ where
 fz:=fz
 g0:=Fz.refl G
 new:=fun b o e=> .inl (by show G b≠none;rw[e];simp)
 keep:=fun b o e _=>e
 there:=fun b e=>e
 ob:=fun i b m=>by cases m
 len:=h.len
 slot:=fun i s e=>by
  cases s with
  |emp=>trivial
  |two _ _=>trivial
  |tre t=>exact absurd rfl ((zhb h.no e).1 t)
  |ptr t=>exact absurd rfl ((zhb h.no e).2 t)
  |val d=>exact h.val i d e
  |own ds=>exact absurd ⟨_,ds,e,rfl⟩ (zhf h.no (i:=i))
  |par ds=>exact absurd ⟨_,ds,e,rfl⟩ (zhf h.no (i:=i))
 dis:=fun i j s _ a _ e _ w=>absurd w (zlA h.no e)
theorem VS.of (I:SI K B G H σ ρ)(h:zdn ρ=true):VS K G σ ρ:=⟨I.len,h,fun i d e=>I.slot i _ e⟩
noncomputable def fz1 (i:Nat)(ρ:R):R:=match ρ[i]? with
 |some (.own ds)=>ρ.set i (.val (.lst ds))
 |_=>ρ
noncomputable def fzL:List Nat->R->R
 |[],ρ=>ρ
 |i::is,ρ=>fzL is (fz1 i ρ)
theorem SI.fz1 (I:SI K B G H σ ρ)(i:Nat):∃G',SI K B G' H σ (M.fz1 i ρ)/\Fz G G':=by
 unfold M.fz1
 cases e:ρ[i]? with
 |none=>exact⟨G,I,Fz.refl G⟩
 |some s=>
  cases s with
  |own ds=>obtain⟨l,xs,_,f,_,I'⟩:=I.freeze e;exact⟨_,I',f⟩
  |emp=>exact⟨G,I,Fz.refl G⟩
  |two _ _=>exact⟨G,I,Fz.refl G⟩
  |tre _=>exact⟨G,I,Fz.refl G⟩
  |ptr _=>exact⟨G,I,Fz.refl G⟩
  |val _=>exact⟨G,I,Fz.refl G⟩
  |par _=>exact⟨G,I,Fz.refl G⟩
theorem SI.fzL:∀(is:List Nat) {G:Hp} {ρ:R},SI K B G H σ ρ->∃G',SI K B G' H σ (M.fzL is ρ)/\Fz G G'
 |[],G,ρ,I=>⟨G,I,Fz.refl G⟩
 |i::is,G,ρ,I=>by
  obtain⟨G1,I1,f1⟩:=I.fz1 i
  obtain⟨G2,I2,f2⟩:=SI.fzL is I1
  exact⟨G2,I2,f1.trans f2⟩
noncomputable def capS (ρ:R)(i:Nat):Sl:=match ρ[i]? with
 |some (.val d)=> .val d
 |_=> .emp
theorem zl9 (ρ:R)(i:Nat):capS ρ i= .emp\/∃d,capS ρ i= .val d:=by
 unfold capS
 split
 ·exact .inr ⟨_,rfl⟩
 ·exact .inl rfl
noncomputable def capR (cap:List Nat)(t:Nat)(ρ:R):R:=cap.map (capS ρ)++List.replicate t .emp
noncomputable def capσ (cap:List Nat)(t:Nat)(σ:St):St:=cap.map (fun i=>(σ[i]?).join)++List.replicate t none
theorem cap_vs (I:SI K B G H σ ρ)(cap:List Nat)(t:Nat):VS K G (capσ cap t σ) (capR cap t ρ) where
 len:=by unfold capσ capR;simp
 no:=by
  unfold zdn capR
  rw[List.all_eq_true]
  intro s hs
  rcases List.mem_append.mp hs with h|h
  ·obtain⟨i,_,rfl⟩:=List.mem_map.mp h
   rcases zl9 ρ i with e|⟨d,e⟩
   ·rw[e]
   ·rw[e]
  ·rw[List.eq_of_mem_replicate h]
 val:=fun i d e=>by
  unfold capR at e
  by_cases hi:i<cap.length
  ·rw[List.getElem?_append_left (by simpa using hi),List.getElem?_map,List.getElem?_eq_getElem hi]at e
   have e':capS ρ cap[i]= .val d:=by simpa using e
   unfold capS at e'
   split at e'
   ·rename_i d' q
    cases e'
    obtain⟨v,h1,h2⟩:=I.slot _ _ q
    refine⟨v,?_,h2⟩
    unfold capσ
    rw[List.getElem?_append_left (by simpa using hi),List.getElem?_map,List.getElem?_eq_getElem hi]
    simp[h1]
   ·cases e'
  ·rw[List.getElem?_append_right (by simpa using hi),List.getElem?_replicate]at e
   split at e
   ·cases e
   ·cases e
noncomputable def zeq (f:D->R->Option (Option D×R)):List D->R->Option (List D×R)
 |[],ρ=>some ([],ρ)
 |d::ds,ρ=>(f d ρ).bind fun p=>(zeq f ds p.2).map fun q=>(p.1.toList++q.1,q.2)
noncomputable def zkY (g:D->R->Option R)(mt:MT)(me:ME):D->R->Option (Option D×R):=fun d ρ=>(g d ρ).bind fun ρ1=>(mt ρ1).bind fun p=>if p.1 then(me p.2).bind fun q=>if zdn q.2 then some (some q.1,q.2)else none else if zdn p.2 then some (none,p.2)else none
noncomputable def oLC (cap:List Nat)(t:Nat)(mi:MA)(g:D->R->Option R)(mt:MT)(me:ME):MO:=fun ρ=>(mi ρ).bind fun p=>if p.1.length<=16777216 then(zeq (zkY g mt me) p.1 (capR cap t (fzL cap p.2))).map fun q=>(q.1,fzL cap p.2)else none
noncomputable def STs (X:Cx)(ifs:List Expr)(m:MT):Prop:=
 ∃t,PTs X ifs t/\∀B G H σ ρ d ρ' (Q:Bool->Hp->Prop),SI X.K B G H σ ρ->m ρ=some (d,ρ')->(∀G' H',SI X.K B G' H' σ ρ'->Fz G G'->Q d H')->t σ H Q
noncomputable def zcA:MT:=fun ρ=>some (true,ρ)
theorem zaN:STs X [] zcA:=⟨_,pts_nil,fun B G H σ ρ d ρ' Q I hm k=>by cases hm;exact k G H I (Fz.refl G)⟩
noncomputable def blkB (env:Env)(scope:Scope):Bool:=(scope.names.all fun x=>scope.names.lookup x.1==some x.2&&(x.2 != .free||(env.kindOf x.1==some .cell||env.kindOf x.1==some .free)))
theorem zmL (hk:scope.kind= .function)(h:blkB X.env scope=true):BlkOk X scope:=by
 unfold blkB at h
 rw[List.all_eq_true]at h
 refine⟨hk,fun x hx=>?_,fun x hx hf=>?_⟩
 ·have:=h x hx
  simp only[Bool.and_eq_true,Bool.or_eq_true,bne_iff_ne,beq_iff_eq]at this
  exact this.1
 ·have:=h x hx
  simp only[Bool.and_eq_true,Bool.or_eq_true,bne_iff_ne,beq_iff_eq]at this
  exact(this.2).resolve_left (fun z=>z hf)
noncomputable def capB (names:List (Str×NameKind))(N XN:List Str)(cap:List Nat)(t:Nat):Bool:=N.length==cap.length+t&&(cap.zip N).all fun p=>XN[p.1]? ==some p.2&&names.lookup p.2==some .free
theorem zns (h:capB scope.names N X.N cap t=true):Cap X scope N (capσ cap t):=by
 unfold capB at h
 rw[Bool.and_eq_true,List.all_eq_true]at h
 obtain⟨hl,h⟩:=h
 have hl:N.length=cap.length+t:=by simpa using hl
 have key:∀(σ:St) (i:Nat) (x:Str) (v:V),N[i]? =some x->(capσ cap t σ)[i]? =some (some v)->∃j,cap[i]? =some j/\σ[j]? =some (some v)/\X.N[j]? =some x/\scope.names.lookup x=some .free:=fun σ i x v h1 h2=>by
  unfold capσ at h2
  by_cases hi:i<cap.length
  ·rw[List.getElem?_append_left (by simpa using hi),List.getElem?_map,List.getElem?_eq_getElem hi]at h2
   have h3:(σ[cap[i]]?).join=some v:=by simpa using h2
   have hz:(cap[i],x)∈cap.zip N:=by
    refine List.mem_of_getElem? (i:=i) ?_
    rw[List.getElem?_zip_eq_some]
    exact⟨List.getElem?_eq_getElem hi,h1⟩
   have:=h _ hz
   simp only[Bool.and_eq_true,beq_iff_eq]at this
   refine⟨cap[i],List.getElem?_eq_getElem hi,?_,this.1,this.2⟩
   cases q:σ[cap[i]]? with
   |none=>rw[q]at h3;cases h3
   |some o=>rw[q]at h3;rw[show o=some v from h3]
  ·rw[List.getElem?_append_right (by simpa using hi),List.getElem?_replicate]at h2
   split at h2<;>cases h2
 refine⟨fun σ=>by unfold capσ;simp[hl],fun σ i x v h1 h2=>?_,fun σ i x v h1 h2 z=>?_⟩
 ·obtain⟨j,_,a,b,c⟩:=key σ i x v h1 h2
  exact⟨ze2 c,j,b,a⟩
 ·obtain⟨j,_,a,b,c⟩:=key σ i x v h1 h2
  have e:(relabel scope X.env).names.lookup x=(scope.names.lookup x).map fun k=>if(k==NameKind.free&&X.env.scope.kind== .function&&X.env.kindOf x==some .cell)then NameKind.cell else k:=zc5
  rw[e,c]at z
  simp only[Option.map_some,Option.some.injEq]at z
  split at z<;>cases z
structure LcV (K:W.Frag) (g:D->R->Option R) (mt:MT) (me:ME) (items all:List D) (G2 H1:Hp) (DD:Addr) (i:Nat) (σc:St) (Hc Gc:Hp) (ρc:R) (acc:List D) (xs:List V) (rest:List D) (ρe:R):Prop where
 fc:Fz G2 Gc
 fcH:Fz Gc Hc
 nw:∀b o,Gc b=some o->G2 b≠none\/H1 b=none
 kp:∀b o,H1 b=some o->Hc b=some o
 gD:Gc DD=none
 hDc:Hc DD=some (.lst xs)
 ra:RepL K Gc xs acc
 hx:xs.length<=i
 vs:VS K Gc σc ρc
 ec:zeq (zkY g mt me) (items.drop i) ρc=some (rest,ρe)
 eall:all=acc++rest
section
variable {X:Cx} {elt iter tg:Expr} {ifs:List Expr} {scope:Scope} {pos:Pos} {N:List Str} {cap:List Nat} {t:Nat} {mi:MA} {g:D->R->Option R} {mt:MT} {me:ME}
theorem zlF
  (si:∀B G H σ ρ ds ρ' (Q:It->Hp->Prop),SI X.K B G H σ ρ->mi ρ=some (ds,ρ')->(∀J G' H',SI X.K B G' H' σ ρ'->Fz G G'->Itm X.K J G' ds->Q J H')->wi σ H Q)
  (sg:∀C s H₀ fp B G H σ ρ v d ρ' (Q:St->Hp->Prop),SI X.K B G H σ ρ->RepD X.K G v d->g d ρ=some ρ'->(∀G' H' σ',SI X.K B G' H' σ' ρ'->Fz G G'->Q σ' H')->tg' C s H₀ fp v σ H Q)
  (st:∀C s H₀ fp B G H σ ρ d ρ' (Q:Bool->Hp->Prop),SI X.K B G H σ ρ->mt ρ=some (d,ρ')->(∀G' H',SI X.K B G' H' σ ρ'->Fz G G'->Q d H')->tt C s H₀ fp σ H Q)
  (se:∀C s H₀ fp B G H σ ρ d ρ' (Q:VK),SI X.K B G H σ ρ->me ρ=some (d,ρ')->(∀G' H' v,SI X.K B G' H' σ ρ'->Fz G G'->RepD X.K G' v d->Q v H')->te C s H₀ fp σ H Q):
  ∀B G H σ ρ ds ρ' (Q:VK),SI X.K B G H σ ρ->oLC cap t mi g mt me ρ=some (ds,ρ')->
   (∀G' H' l xs,SI X.K B G' H' σ ρ'->Fz G G'->G' l=none->H' l=some (.lst xs)->RepL X.K G' xs ds->B.H l=none->Nw X.K G' H' σ ρ' l->Q (.ref l) H')->tLC (capσ cap t) wi tg' tt te σ H Q:=by
 intro B G H σ ρ ds ρ' Q I hm k
 obtain⟨⟨items,ρ1⟩,e1,hm⟩:=zah hm
 refine si B G H σ ρ items ρ1 _ I e1 fun J G1 H1 I1 f1 IT DD hD=>?_
 dsimp only at hm
 split at hm
 ·rename_i hlen
  obtain⟨⟨all,ρf⟩,e2,e3⟩:=zav hm
  obtain⟨rfl,rfl⟩:=Prod.mk.inj e3
  obtain⟨G2,I2,f2⟩:=SI.fzL cap I1
  have hDG:G2 DD=none:=I2.fz.free hD
  refine⟨fun i m σc Hc=>m=items.length-i/\i<=items.length/\∃Gc ρc acc xs rest ρe,LcV X.K g mt me items all G2 H1 DD i σc Hc Gc ρc acc xs rest ρe,
   ⟨items.length,by simp,Nat.zero_le _,G2,capR cap t (M.fzL cap ρ1),[],[],all,ρf,{fc:=Fz.refl _,fcH:=I2.fz.right hDG _,nw:=fun b o e=> .inl (by rw[e];simp),kp:=fun b o e=>by rw[zaA (zaG e hD)];exact e,gD:=hDG,hDc:=zaK,ra:= .nil,hx:=Nat.le_refl _,vs:=cap_vs I2 cap t,ec:=by simpa using e2,eall:=rfl}⟩,?_⟩
  rintro i m σc Hc ⟨rfl,hi,Gc,ρc,acc,xs,rest,ρe,J0⟩
  obtain⟨fc,fcH,nw,kp,gD,hDc,ra,hx,vs,ec,eall⟩:=J0
  by_cases hlt:i<items.length
  ·refine .inr ⟨IT.go Hc i (f2.trans (fc.trans fcH)) hlt,fun C s₀ H₀ fp x H' y=>?_⟩
   rw[List.drop_eq_getElem_cons hlt]at ec
   simp only[zeq]at ec
   obtain⟨⟨o,ρ3⟩,h3,ec⟩:=zah ec
   obtain⟨⟨rest2,ρ4⟩,h4,ec⟩:=zav ec
   obtain⟨rfl,rfl⟩:=Prod.mk.inj ec
   dsimp only at h4
   unfold zkY at h3
   obtain⟨ρ5,h5,h3⟩:=zah h3
   obtain⟨⟨ok,ρ6⟩,h6,h3⟩:=zah h3
   dsimp only at h3
   have Ic:SI X.K ⟨Gc,Hc,[]⟩ Gc Hc σc ρc:=vs.si fcH
   have fz2:Fz G1 Hc:=f2.trans (fc.trans fcH)
   have yy:=IT.yld Hc i x H' fz2 y items[i] (List.getElem?_eq_getElem hlt)
   have yy2:(H'=Hc/\RepD X.K Gc x items[i])\/∃p xs es,Hc p=none/\H'=upd Hc p (.tup xs)/\x= .ref p/\items[i]= .tup es/\RepL X.K Gc xs es:=by
    rcases yy with⟨a,b⟩|⟨p,xs,es,a,b,c,d,e⟩
    ·exact .inl ⟨a,b.mono (f2.trans fc)⟩
    ·exact .inr ⟨p,xs,es,a,b,c,d,e.mono (f2.trans fc)⟩
   obtain⟨G3,I3,f3,r3⟩:=Ic.yld yy2
   refine sg C s₀ H₀ fp _ G3 H' σc ρc x items[i] ρ5 _ I3 r3 h5 fun G4 H4 σ4 I4 f4=>st C s₀ H₀ fp _ G4 H4 σ4 ρ5 ok ρ6 _ I4 h6 fun G5 H5 I5 f5=>?_
   have facts:∀(G' H':Hp) (σ':St) (ρ':R),SI X.K ⟨Gc,Hc,[]⟩ G' H' σ' ρ'->(∀b o,G' b=some o->G2 b≠none\/H1 b=none)/\(∀b o,H1 b=some o->H' b=some o)/\G' DD=none/\H' DD=some (.lst xs):=fun G' H' σ' ρ' I'=>by
    refine⟨fun b o e=>?_,fun b o e=>I'.keep b o (kp b o e) (by simp),?_,I'.keep DD _ hDc (by simp)⟩
    ·rcases I'.new b o e with h|h
     ·have h:Gc b≠none:=h
      cases q:Gc b with
      |none=>exact absurd q h
      |some u=>exact nw b u q
     ·refine .inr ?_
      cases q:H1 b with
      |none=>rfl
      |some u=>have:=kp b u q;rw[show Hc b=none from h]at this;cases this
    ·cases q:G' DD with
     |none=>rfl
     |some u=>
      rcases I'.new DD u q with h|h
      ·exact absurd gD h
      ·rw[show Hc DD=none from h]at hDc;cases hDc
   cases ok with
   |false=>
    simp only[Bool.false_eq_true,if_false]at h3
    split at h3
    ·rename_i hno
     cases h3
     obtain⟨a1,a2,a3,a4⟩:=facts G5 H5 σ4 _ I5
     exact⟨items.length-(i+1),by lia,rfl,hlt,G5,_,acc,xs,rest2,ρ4,{fc:=fc.trans (f3.trans (f4.trans f5)),fcH:=I5.fz,nw:=a1,kp:=a2,gD:=a3,hDc:=a4,ra:=ra.mono (f3.trans (f4.trans f5)),hx:=by lia,vs:=VS.of I5 hno,ec:=h4,eall:=by simpa using eall}⟩
    ·cases h3
   |true=>
    simp only[if_true]at h3 ⊢
    obtain⟨⟨dv,ρ7⟩,h7,h3⟩:=zah h3
    dsimp only at h3
    split at h3
    ·rename_i hno
     cases h3
     refine se C s₀ H₀ fp _ G5 H5 σ4 ρ6 dv _ _ I5 h7 fun G6 H6 v I6 f6 r6=>?_
     obtain⟨a1,a2,a3,a4⟩:=facts G6 H6 σ4 _ I6
     have ff:Fz Gc G6:=f3.trans (f4.trans (f5.trans f6))
     exact⟨xs,a4,by rw[sizeLine_eq];lia,items.length-(i+1),by lia,rfl,hlt,G6,_,acc++[dv],xs++[v],rest2,ρ4,{fc:=fc.trans ff,fcH:=I6.fz.right a3 _,nw:=a1,kp:=fun b o e=>by rw[zaA (zaG e hD)];exact a2 b o e,gD:=a3,hDc:=zaK,ra:=(ra.mono ff).snoc r6,hx:=by rw[List.length_append,List.length_singleton];lia,vs:=VS.of I6 hno,ec:=h4,eall:=by rw[eall];simp}⟩
    ·cases h3
  ·have e:i=items.length:=by lia
   subst e
   rw[List.drop_length]at ec
   cases ec
   have hall:all=acc:=by rw[eall,List.append_nil]
   refine .inl ⟨IT.stop Hc _ (f2.trans (fc.trans fcH)) (Nat.le_refl _),?_⟩
   rw[<-hall]at ra
   exact k Gc Hc DD xs (I2.grow fc fcH nw kp) (f1.trans (f2.trans fc)) gD hDc ra (I2.there DD hD) (I2.own_ne hD nw kp)
 ·cases hm
theorem zfA (cap:List Nat)(t:Nat)(N:List Str)(hc:X.calm=true)(hi:SIt X tg iter mi)(hg:∀C s H fp,SG (cxC X N scope C s H fp) tg g)(ht:∀C s H fp,STs (cxC X N scope C s H fp) ifs mt)(he:∀C s H fp,SE (cxC X N scope C s H fp) elt me)
    (hk:autoParam (scope.kind= .function) zu2._auto_1) (hb:autoParam (blkB X.env scope=true) zu10._auto_1) (hcap:autoParam (capB scope.names N X.N cap t=true) zu10._auto_1)
    (hs:autoParam (∀x,foldedSetIterable iter X.env x=pure x) zu8._auto_1):SO X (.ListComp elt [⟨tg,iter,ifs,0⟩] scope pos) (oLC cap t mi g mt me):=by
  obtain⟨wi,pi,si⟩:=hi
  exact⟨_,pe_lc hc (zmL hk hb) (zns hcap) pi (fun C s H fp=>(hg C s H fp).choose_spec.1) (fun C s H fp=>(ht C s H fp).choose_spec.1) (fun C s H fp=>(he C s H fp).choose_spec.1) hs,
    zlF si (fun C s H fp=>(hg C s H fp).choose_spec.2) (fun C s H fp=>(ht C s H fp).choose_spec.2) (fun C s H fp=>(he C s H fp).choose_spec.2)⟩
end
section
variable {X:Cx} {elt iter tg:Expr} {ifs:List Expr} {scope:Scope} {pos lpos pos':Pos} {N:List Str} {cap:List Nat} {t:Nat} {mi:MA} {g:D->R->Option R} {mt:MT} {me:ME}
theorem zlP {σ0:St->St}(hN:X.N.Nodup)(hxi:X.N[i]? =some x)(hx:Loc X.env.scope x)(hf:X.fn x=true\/X.env.scope.names.lookup x=some .local)
  (hsw:swapsWith (.ListComp elt [⟨tg,iter,ifs,0⟩] scope lpos) (some (.Name x pos')) pos.line X.env=pure true) (hc:X.calm=true) (b:BlkOk X scope) (cap:Cap X scope N σ0) (hi:PI X tg iter wi) (hg:∀C s H fp,PG (cxC X N scope C s H fp) tg (tg' C s H fp)) (ht:∀C s H fp,PTs (cxC X N scope C s H fp) ifs (tt C s H fp)) (he:∀C s H fp,PE (cxC X N scope C s H fp) elt (te C s H fp))
  (hs:∀x,foldedSetIterable iter X.env x=pure x):PS X (.Assign [.Name x pos'] (.ListComp elt [⟨tg,iter,ifs,0⟩] scope lpos) pos) (fun E σ H=>tLC σ0 wi tg' tt te σ H fun v H'=>E.nx (σ.set i (some v)) H'):=by
 intro pins s σ H E I h
 rw[exec_Assign_Name_used _ _ _ _ hsw]
 refine wpAny_bind (wpAny_standAt (wpAny_bind ?_))
 show wpAny _ _ (do let _<-comprehension (.ListComp elt [⟨tg,iter,ifs,0⟩] scope lpos) scope X.env _ (newList []) false (eval iter X.env) (some (assign (.Name x pos') X.env))) _ _ s
 refine wpAny_bind (thn (znk (use:=some (assign (.Name x pos') X.env)) (QQ:=fun _ s'=>SP X pins E .next s') (E:=X.xe) hc b cap hi hg ht he I h hs ?_) fun _ s' hq=>wpAny_pure (wpAny_pure hq))
 intro D fp C H1 H' σc s1 s' I1 f1 eC J q
 subst eC
 have I2:Inv X pins σ H' s':=by
  have z:=znd (h':=s'.heap) I1 f1 J (Heap.SameBut.refl _ _)
  exact z
 obtain⟨m,⟨o,es,ep,ho,hd,hrest⟩,_⟩:=J.loc
 have fpk:FpOk X pins H' s1.heap.objs.size:=I1.fpOk (Nat.le_refl _) J.free
 have I3:Inv X (pins++[(s1.heap.objs.size,o)]) σ H' s':=I2.pins_of fun p hp=>by
  rcases List.mem_append.mp hp with hp|hp
  ·exact I2.pin p (List.mem_append_right _ hp)
  ·have e:p=(s1.heap.objs.size,o):=by simpa using hp
   subst e
   exact⟨ho,fpk.1,fpk.2.1,fpk.2.2.1,fun v z=>by rw[hd]at z;cases z⟩
 refine thn (zmO hN hxi hx hf (pins++[(s1.heap.objs.size,o)]) s' σ H' (.ref D) (.ref D) (fun σ2 H2=>E.nx σ2 H2) I3 rfl q) fun _ s'' ⟨σ2,H2,I4,q4⟩=>?_
 have pC:=I4.pin (s1.heap.objs.size,o) (List.mem_append_right _ (List.mem_append_right _ (by simp)))
 refine⟨m,⟨o,es,ep,pC.1,hd,hrest⟩,fun h' hs'=>?_⟩
 have I5:Inv X pins σ2 H2 s'':=I4.unpinned
 have fp2:FpOk X pins H2 s1.heap.objs.size:=I1.fpOk (Nat.le_refl _) pC.2.1
 have I6:=I5.turned (t':=s''.toks) (h':=h') (it:=s1.heap.objs.size) (fun b' o' hb e=>hs'.extBut b' o' hb e) fp2.1 fp2.2.1 fp2.2.2.2.1 fp2.2.2.2.2.1 fp2.2.2.2.2.2
 exact⟨σ2,H2,I6,q4⟩
end
section
variable {X:Cx} {pins:List (Addr×Obj)} {σ:St} {H:Hp} {s:Shared}
theorem zha {A:Around}{p:Addr}(hh:A.handled=none)(I:Inv X pins σ H s)(hq:SqL X.K H p ys\/SqT X.K H p ys)
  (k : ∀ (its : List Value) (s₂ : Shared) (St : Nat -> Heap -> Prop), Vals ys its -> Walks X.prog X.w A s.heap.objs.size [s.heap.objs.size, p] [s.heap.objs.size] its.length (fun i v => its[i]? = some v) St -> St 0 s₂.heap -> (∀ b ∈ [s.heap.objs.size, p], b < s₂.heap.objs.size) ->
   (∀h' tk,(∀b o,b∉[s.heap.objs.size]->s₂.heap.get? b=some o->h'.get? b=some o)->Inv X pins σ H {s₂ with heap:=h',toks:=tk})->Q (.ref s.heap.objs.size) s₂):wpAny (model X.prog X.w) A (pyIter (.ref p)) Q E s:=by
 have fin:∀(o:Obj),∀h' tk,(∀b o',b∉[s.heap.objs.size]->(s.heap.push o).get? b=some o'->h'.get? b=some o')->Inv X pins σ H {({s with heap:=s.heap.push o}:Shared)with heap:=h',toks:=tk}:=fun o h' tk hk=>by
  have z:=I.kept (h':=h') (t':=tk) fun b o' e=>hk b o' (by simpa using Nat.ne_of_lt (Heap.lt_size e)) (Heap.get?_push_of_some _ e)
  exact z
 rcases hq with hq|hq
 ·obtain⟨its,r,pl,hz⟩:=I.list hq
  have hlt:p<s.heap.objs.size:=by obtain⟨_,_,e,_⟩:=pl;exact Heap.lt_size e
  refine wpAny_pyIter_list pl.isList (k its _ (fun i h=>h.IsListIter s.heap.objs.size p i/\h.IsList p its.toArray) r ?_ ⟨⟨_,Heap.get?_push_size _ rfl,rfl,rfl⟩,pl.isList.push _⟩ (fun b hb=>?_) (fin _))
  ·have w:=Walks.list (prog:=X.prog) (w:=X.w) (A:=A) hh s.heap.objs.size p (Nat.ne_of_lt hlt) its.toArray
   simpa using w
  ·show b<(s.heap.push _).objs.size
   rw[Heap.size_push]
   simp at hb
   rcases hb with z|z
   ·rw[z];exact Nat.lt_succ_self _
   ·rw[z];exact Nat.lt_succ_of_lt hlt
 ·obtain⟨its,r,pl,hz⟩:=I.tuple hq
  have hlt:p<s.heap.objs.size:=pl.lt
  refine wpAny_pyIter_tuple (show s.heap.IsTuple p its.toArray from pl) (k its _ (fun i h=>h.IsTupleIter s.heap.objs.size p i/\h.IsTuple p its.toArray) r ?_ ⟨⟨_,Heap.get?_push_size _ rfl,rfl,rfl⟩,(show s.heap.IsTuple p its.toArray from pl).push _⟩ (fun b hb=>?_) (fin _))
  ·have w:=Walks.tuple (prog:=X.prog) (w:=X.w) (A:=A) hh s.heap.objs.size p (Nat.ne_of_lt hlt) its.toArray
   simpa using w
  ·show b<(s.heap.push _).objs.size
   rw[Heap.size_push]
   simp at hb
   rcases hb with z|z
   ·rw[z];exact Nat.lt_succ_self _
   ·rw[z];exact Nat.lt_succ_of_lt hlt
end
theorem ziy (ns:List Int):∀j,preSum (fun i=>ns.getD i 0) j=(ns.take j).sum
 |0=>by simp[preSum]
 |j+1=>by
  rw[preSum,ziy ns j]
  by_cases h:j<ns.length
  ·rw[List.take_succ_eq_append_getElem h,List.sum_append]
   simp[h]
  ·rw[List.take_of_length_le (by lia),List.take_of_length_le (by lia)]
   simp[List.getElem?_eq_none (by lia:ns.length<=j)]
theorem zf1 (r:Vals (ns.map V.int) its){v:Value}(e:its[i]? =some v):∃t,v= .int (ns.getD i 0) t:=by
 have hl:=r.length
 have hi:i<its.length:=(List.getElem?_eq_some_iff.mp e).1
 rw[List.length_map]at hl
 have e2:(ns.map V.int)[i]? =some (.int ns[i]):=by rw[List.getElem?_map,List.getElem?_eq_getElem (by lia)];rfl
 obtain⟨u,h1,t,h2⟩:=r.get e2
 rw[e]at h1;cases h1
 exact⟨t,by rw[h2];simp[show i<ns.length by lia]⟩
noncomputable def rSum (K:W.Frag):List V->Hp->VK->Prop:=fun xs H Q=>∃(p:Addr) (ns:List Int),xs=[.ref p]/\(SqL K H p (ns.map V.int)\/SqT K H p (ns.map V.int))/\Q (.int ns.sum) H
theorem zny (hc:X.calm=true):zeT X (.builtin "sum") (rSum X.K):=by
 intro pins s σ H xs us Q I r h
 obtain⟨p,ns,rfl,hq,q⟩:=h
 obtain⟨u,rfl,ru⟩:=zh9 r
 cases ru
 refine call_sum_walkG (zha (A:=X.A.in1) (I.ok.hd hc) I hq fun its s₂ St rv W st hfp fin=>?_)
 refine⟨_,_,_,_,_,_,fun i=>ns.getD i 0,rfl,W,st,hfp,fun i v e=>zf1 rv e,fun h' tk t' hk=>⟨.int ns.sum,H,fin h' tk hk,⟨t',?_⟩,q⟩⟩
 have hl:=rv.length
 rw[List.length_map]at hl
 rw[ziy,<-hl,List.take_of_length_le (Nat.le_refl _)]
noncomputable def zbl:List D->Option (List Int)
 |[]=>some []
 | .int i::ds=>(zbl ds).map (i:: ·)
 |_=>none
theorem zdF:∀{ds:List D} {ns:List Int},zbl ds=some ns->ds=ns.map .int
 |[],ns,h=>by cases h;rfl
 |d::ds,ns,h=>by
  cases d<;>simp only[zbl]at h<;>try cases h
  obtain⟨ms,e1,e2⟩:=zav h
  subst e2
  rw[zdF e1];rfl
@[simp] theorem intsOf_map:∀(ns:List Int),zbl (ns.map .int)=some ns
 |[]=>rfl
 |n::ns=>by simp[zbl,intsOf_map ns]
noncomputable def dSum:List D->Option D
 |[d]=>(zax [d]).bind fun ds=>(zbl ds).map fun ns=> .int ns.sum
 |_=>none
theorem zhe (I:SI K B G H σ ρ){x:V}(r:RepD K G x d)(e:zax [d]=some ds):∃p ys,x= .ref p/\(SqL K H p ys\/SqT K H p ys)/\RepL K G ys ds:=by
 cases d<;>simp only[zax]at e<;>try cases e
 ·obtain⟨p,ys,ex,hp,q⟩:=I.lst r
  exact⟨p,ys,ex,.inl (SqL.of hp),q⟩
 ·obtain⟨p,ys,ex,hp,q⟩:=I.tup r
  exact⟨p,ys,ex,.inr (SqT.of hp),q⟩
 ·obtain⟨p,ex,hp⟩:=r
  exact⟨p,_,ex,.inl (I.fz.sql hp),RepL.ints _⟩
theorem vc_sum:VC X (rSum X.K) dSum:=by
 intro B G H σ ρ xs ds d Q I r hf k
 match ds,hf with
 |[a],hf=>
  obtain⟨es,e1,hf⟩:=zah hf
  obtain⟨ns,e2,e3⟩:=zav hf
  subst e3
  obtain⟨x,rfl,ra⟩:=r.one
  obtain⟨p,ys,rfl,hq,ry⟩:=zhe I ra e1
  rw[zdF e2]at ry
  rw[RepL.ints_eq ry]at hq
  exact⟨p,ns,rfl,hq,k G H _ I (Fz.refl G) rfl⟩
 |[],hf=>cases hf
 |_::_::_,hf=>cases hf
theorem zj7 (hc:X.calm=true)(ml:X.mg "sum"=none)(ha:SA X [e] ma)(hg:autoParam (Gl X "sum") zu2._auto_1)(he:autoParam (starEach [e] X.env=(false,eval e X.env)::starEach [] X.env) zu2._auto_1):SE X (.Call (.Name "sum" p) [e] [] pos) (mC dSum ma):=
 zcV (zny hc) vc_sum (by decide+kernel) ml ha hg (by decide) (by decide) he rfl
noncomputable def zdM:List D->Option (List Bool)
 |[]=>some []
 | .bl b::ds=>(zdM ds).map (b:: ·)
 |_=>none
theorem zim:∀{ds:List D} {bs:List Bool},zdM ds=some bs->ds=bs.map .bl
 |[],ns,h=>by cases h;rfl
 |d::ds,ns,h=>by
  cases d<;>simp only[zdM]at h<;>try cases h
  obtain⟨ms,e1,e2⟩:=zav h
  subst e2
  rw[zim e1];rfl
@[simp] theorem boolsOf_map:∀(bs:List Bool),zdM (bs.map .bl)=some bs
 |[]=>rfl
 |n::ns=>by simp[zdM,boolsOf_map ns]
theorem RepL.bools_eq:∀{bs:List Bool} {xs:List V},RepL K G xs (bs.map D.bl)->xs=bs.map V.bl
 |[],_,e=>e
 |n::ns,_,⟨x,ys,e,q,r⟩=>by subst e;cases(show x=V.bl n from q);rw[RepL.bools_eq r];rfl
theorem zn9 {bs:List Bool}(r:Vals (bs.map V.bl) its){v:Value}(e:its[i]? =some v):∃b,bs[i]? =some b/\v= .bool b:=by
 have hl:=r.length
 have hi:i<its.length:=(List.getElem?_eq_some_iff.mp e).1
 rw[List.length_map]at hl
 have e2:(bs.map V.bl)[i]? =some (.bl bs[i]):=by rw[List.getElem?_map,List.getElem?_eq_getElem (by lia)];rfl
 obtain⟨u,h1,h2⟩:=r.get e2
 rw[e]at h1;cases h1
 exact⟨bs[i],List.getElem?_eq_getElem (by lia),h2⟩
noncomputable def rAll (K:W.Frag)(f:List Bool->Bool):List V->Hp->VK->Prop:=fun xs H Q=>∃(p:Addr) (bs:List Bool),xs=[.ref p]/\(SqL K H p (bs.map V.bl)\/SqT K H p (bs.map V.bl))/\Q (.bl (f bs)) H
theorem zmA (hc:X.calm=true):zeT X (.builtin "all") (rAll X.K fun bs=>bs.all id):=by
 intro pins s σ H xs us Q I r h
 obtain⟨p,bs,rfl,hq,q⟩:=h
 obtain⟨u,rfl,ru⟩:=zh9 r
 cases ru
 refine call_all_walk (zha (A:=X.A.in1) (I.ok.hd hc) I hq fun its s₂ St rv W st hfp fin=>?_)
 have hl:=rv.length
 rw[List.length_map]at hl
 refine⟨_,_,_,_,_,_,fun i=>(bs[i]?).getD true,rfl,W,st,fun i v s' Q' E' hP hQ=>?_,fun h' tk hk=>⟨.bl (bs.all id),H,fin h' tk hk,?_,q⟩⟩
 ·obtain⟨b,e,rfl⟩:=zn9 rv hP
  simp only[e,Option.getD_some]at hQ
  exact wpAny_truthy_bool hQ
 ·rw[<-hl,LSm.range_all];rfl
noncomputable def dAll (f:List Bool->Bool):List D->Option D
 |[d]=>(zax [d]).bind fun ds=>(zdM ds).map fun bs=> .bl (f bs)
 |_=>none
theorem vc_all (f:List Bool->Bool):VC X (rAll X.K f) (dAll f):=by
 intro B G H σ ρ xs ds d Q I r hf k
 match ds,hf with
 |[a],hf=>
  obtain⟨es,e1,hf⟩:=zah hf
  obtain⟨ns,e2,e3⟩:=zav hf
  subst e3
  obtain⟨x,rfl,ra⟩:=r.one
  obtain⟨p,ys,rfl,hq,ry⟩:=zhe I ra e1
  rw[zim e2]at ry
  rw[RepL.bools_eq ry]at hq
  exact⟨p,ns,rfl,hq,k G H _ I (Fz.refl G) rfl⟩
 |[],hf=>cases hf
 |_::_::_,hf=>cases hf
theorem zhh (hc:X.calm=true)(ml:X.mg "all"=none)(ha:SA X [e] ma)(hg:autoParam (Gl X "all") zu2._auto_1)(he:autoParam (starEach [e] X.env=(false,eval e X.env)::starEach [] X.env) zu2._auto_1):SE X (.Call (.Name "all" p) [e] [] pos) (mC (dAll fun bs=>bs.all id) ma):=
 zcV (zmA hc) (vc_all _) (by decide+kernel) ml ha hg (by decide) (by decide) he rfl
noncomputable def d2I (g:Int->Int->Int):List D->Option D
 |[.int i,.int j]=>some (.int (g i j))
 |_=>none
theorem vc_2I (g:Int->Int->Int):VC X (fun xs H Q=>∃i j,xs=[.int i,.int j]/\Q (.int (g i j)) H) (d2I g):=by
 intro B G H σ ρ xs ds d Q I r hf k
 unfold d2I at hf
 split at hf
 ·rename_i i j
  cases hf
  obtain⟨x,y,rfl,rx,ry⟩:=r.two
  cases(show x=V.int i from rx)
  cases(show y=V.int j from ry)
  exact⟨i,j,rfl,k G H _ I (Fz.refl G) rfl⟩
 ·cases hf
noncomputable def max2 (i j:Int):Int:=if j>i then j else i
noncomputable def min2 (i j:Int):Int:=if j<i then j else i
theorem ziQ (hc:X.calm=true)(ml:X.mg "max"=none)(ha:SA X [a,b] ma)(hg:autoParam (Gl X "max") zu2._auto_1)(he:autoParam (starEach [a,b] X.env=(false,eval a X.env)::starEach [b] X.env) zu2._auto_1)(hpl:autoParam ((backTo pos (starEach [b] X.env)).any (·.1)=false) zu2._auto_1):SE X (.Call (.Name "max" p) [a,b] [] pos) (mC (d2I max2) ma):=
 zcV (znA hc) (vc_2I max2) (by decide+kernel) ml ha hg (by decide) (by decide) he hpl
theorem ziI (hc:X.calm=true)(ml:X.mg "min"=none)(ha:SA X [a,b] ma)(hg:autoParam (Gl X "min") zu2._auto_1)(he:autoParam (starEach [a,b] X.env=(false,eval a X.env)::starEach [b] X.env) zu2._auto_1)(hpl:autoParam ((backTo pos (starEach [b] X.env)).any (·.1)=false) zu2._auto_1):SE X (.Call (.Name "min" p) [a,b] [] pos) (mC (d2I min2) ma):=
 zcV (zn3 hc) (vc_2I min2) (by decide+kernel) ml ha hg (by decide) (by decide) he hpl
noncomputable def abs1 (i:Int):Int:=if i<0 then-i else i
noncomputable def dAbs:List D->Option D
 |[.int i]=>some (.int (abs1 i))
 |_=>none
theorem se_abs (ml:X.mg "abs"=none)(ha:SA X [a] ma)(hg:autoParam (Gl X "abs") zu2._auto_1)(he:autoParam (starEach [a] X.env=(false,eval a X.env)::starEach [] X.env) zu2._auto_1):SE X (.Call (.Name "abs" p) [a] [] pos) (mC dAbs ma):=
 zcV call_abs (fun B G H σ ρ xs ds d Q I r hf k=>by
  unfold dAbs at hf
  split at hf
  ·rename_i i
   cases hf
   obtain⟨x,rfl,rx⟩:=r.one
   cases(show x=V.int i from rx)
   exact⟨i,rfl,k G H _ I (Fz.refl G) rfl⟩
  ·cases hf) (by decide+kernel) ml ha hg (by decide) (by decide) he rfl
theorem zg8 (K:W.Frag):W.kitOne K (.type "NoneType") (.type "int")=some false:=by kernel_rfl
theorem zgI (K:W.Frag):W.kitOne K (.type "NoneType") (.type "bool")=some false:=by kernel_rfl
theorem zga (K:W.Frag):W.kitOne K (.type "NoneType") (.type "tuple")=some false:=by kernel_rfl
theorem zgx (K:W.Frag):W.kitOne K (.type "NoneType") (.type "list")=some false:=by kernel_rfl
theorem zg5 (K:W.Frag):W.kitOne K (.type "NoneType") (.type "str")=some false:=by kernel_rfl
theorem zko (K:W.Frag):W.kitOne K (.type "bool") (.type "int")=some true:=by kernel_rfl
theorem ziH (K:W.Frag):W.kitOne K (.type "bool") (.type "bool")=some true:=by kernel_rfl
theorem zh0 (K:W.Frag):W.kitOne K (.type "bool") (.type "tuple")=some false:=by kernel_rfl
theorem zjp (K:W.Frag):W.kitOne K (.type "bool") (.type "list")=some false:=by kernel_rfl
theorem zjq (K:W.Frag):W.kitOne K (.type "bool") (.type "str")=some false:=by kernel_rfl
theorem zk7 (K:W.Frag):W.kitOne K (.type "int") (.type "int")=some true:=by kernel_rfl
theorem zj8 (K:W.Frag):W.kitOne K (.type "int") (.type "bool")=some false:=by kernel_rfl
theorem zi2 (K:W.Frag):W.kitOne K (.type "int") (.type "tuple")=some false:=by kernel_rfl
theorem zjz (K:W.Frag):W.kitOne K (.type "int") (.type "list")=some false:=by kernel_rfl
theorem zkx (K:W.Frag):W.kitOne K (.type "int") (.type "str")=some false:=by kernel_rfl
theorem zkw (K:W.Frag):W.kitOne K (.type "str") (.type "int")=some false:=by kernel_rfl
theorem zkp (K:W.Frag):W.kitOne K (.type "str") (.type "bool")=some false:=by kernel_rfl
theorem zjm (K:W.Frag):W.kitOne K (.type "str") (.type "tuple")=some false:=by kernel_rfl
theorem zkf (K:W.Frag):W.kitOne K (.type "str") (.type "list")=some false:=by kernel_rfl
theorem zkS (K:W.Frag):W.kitOne K (.type "str") (.type "str")=some true:=by kernel_rfl
theorem zjE (K:W.Frag):W.kitOne K (.type "list") (.type "int")=some false:=by kernel_rfl
theorem zjj (K:W.Frag):W.kitOne K (.type "list") (.type "bool")=some false:=by kernel_rfl
theorem zhW (K:W.Frag):W.kitOne K (.type "list") (.type "tuple")=some false:=by kernel_rfl
theorem ziN (K:W.Frag):W.kitOne K (.type "list") (.type "list")=some true:=by kernel_rfl
theorem zkh (K:W.Frag):W.kitOne K (.type "list") (.type "str")=some false:=by kernel_rfl
theorem ziC (K:W.Frag):W.kitOne K (.type "tuple") (.type "int")=some false:=by kernel_rfl
theorem zia (K:W.Frag):W.kitOne K (.type "tuple") (.type "bool")=some false:=by kernel_rfl
theorem zhM (K:W.Frag):W.kitOne K (.type "tuple") (.type "tuple")=some true:=by kernel_rfl
theorem zhY (K:W.Frag):W.kitOne K (.type "tuple") (.type "list")=some false:=by kernel_rfl
theorem zi0 (K:W.Frag):W.kitOne K (.type "tuple") (.type "str")=some false:=by kernel_rfl
noncomputable def isI (T:String):D->Bool
 | .non=>false
 | .bl _=>T=="bool"||T=="int"
 | .int _=>T=="int"
 | .str _=>T=="str"
 | .lst _=>T=="list"
 | .tup _=>T=="tuple"
 | .scr _=>T=="list"
 | .exc _=>false
 | .dic _ _=>false
 | .dit _ _=>false
noncomputable def okT (T:String):Bool:=["int","bool","tuple","list","str"].contains T
noncomputable def rIsI (K:W.Frag)(T:String):List V->Hp->VK->Prop:=fun xs H Q=>∃x t b,xs=[x,.ty T]/\TyOf K H x t/\W.kitOne K t (.type T)=some b/\Q (.bl b) H
theorem call_isI (T:String):zeT X (.builtin "isinstance") (rIsI X.K T):=by
 intro pins s σ H xs us Q I r h
 obtain⟨x,t,b,rfl,ty,e,q⟩:=h
 obtain⟨u,w',rfl,r1,r2⟩:=vals2 r
 cases(show w'=Value.type T from r2)
 exact zoc I r1 ty e fun tk=>⟨.bl b,H,I.tok _,rfl,q⟩
noncomputable def eIsI (T:String)(ma:ME):ME:=fun ρ=>(ma ρ).bind fun p=>if okT T&&noS1 p.1 then some (.bl (isI T p.1),p.2)else none
where noS1:D->Bool
 | .scr _=>false
 | .exc _=>false
 | .dic _ _=>false
 | .dit _ _=>false
 |_=>true
theorem kit_all (K:W.Frag){T:String}(hT:okT T=true):W.kitOne K (.type "NoneType") (.type T)=some false/\W.kitOne K (.type "bool") (.type T)=some (T=="bool"||T=="int")/\W.kitOne K (.type "int") (.type T)=some (T=="int")/\
  W.kitOne K (.type "str") (.type T)=some (T=="str")/\W.kitOne K (.type "list") (.type T)=some (T=="list")/\W.kitOne K (.type "tuple") (.type T)=some (T=="tuple"):=by
 have h:T="int"\/T="bool"\/T="tuple"\/T="list"\/T="str":=by simpa[okT]using hT
 rcases h with rfl|rfl|rfl|rfl|rfl
 ·exact⟨zg8 K,zko K,zk7 K,zkw K,zjE K,ziC K⟩
 ·exact⟨zgI K,ziH K,zj8 K,zkp K,zjj K,zia K⟩
 ·exact⟨zga K,zh0 K,zi2 K,zjm K,zhW K,zhM K⟩
 ·exact⟨zgx K,zjp K,zjz K,zkf K,ziN K,zhY K⟩
 ·exact⟨zg5 K,zjq K,zkx K,zkS K,zkh K,zi0 K⟩
theorem se_isI {ma:ME}{p q pos:Pos}(T:String)(ml:X.mg "isinstance"=none)(mT:X.mg x=none)(hbT:bootBuiltins x=some (.type T))(ha:SE X a ma)(hg:autoParam (Gl X "isinstance") zu2._auto_1)(hgT:autoParam (Gl X x) zu2._auto_1)(hn:autoParam (x≠"__name__") zu1._auto_1)(hd:autoParam ((x==("__debug__":Str))=false) zu1._auto_1)
  (he:autoParam (starEach [a,.Name x q] X.env=(false,eval a X.env)::starEach [.Name x q] X.env) zu2._auto_1) (he2:autoParam (starEach [.Name x q] X.env=(false,eval (.Name x q) X.env)::starEach [] X.env) zu2._auto_1) (hpl:autoParam ((backTo pos (starEach [.Name x q] X.env)).any (·.1)=false) zu2._auto_1):
  SE X (.Call (.Name "isinstance" p) [a,.Name x q] [] pos) (eIsI T ma):=by
 obtain⟨ta,pa,sa⟩:=ha
 refine⟨_,zhg (call_isI T) hg ml boot_isinstance (zdm pa (zdm (pe_bltn (v:= .ty T) hgT mT hbT rfl hn hd) zg0 he2) he) (by decide) (by decide) he hpl,fun B G H σ ρ d ρ' Q I hm k=>?_⟩
 obtain⟨⟨y,ρ1⟩,e1,hm⟩:=zah hm
 dsimp only at hm
 split at hm
 ·rename_i hT
  obtain⟨rfl,rfl⟩:=Prod.mk.inj (Option.some.inj hm)
  rw[Bool.and_eq_true]at hT
  obtain⟨hT,hS⟩:=hT
  refine sa B G H σ ρ y ρ1 _ I e1 fun G1 H1 v I1 f1 r1=>?_
  obtain⟨k0,k1,k2,k3,k4,k5⟩:=kit_all X.K hT
  have fin:∀t,TyOf X.K H1 v t->W.kitOne X.K t (.type T)=some (isI T y)->rIsI X.K T [v,.ty T] H1 Q:=fun t ty e=>⟨v,t,isI T y,rfl,ty,e,k G1 H1 _ I1 f1 rfl⟩
  cases y with
  |non=>cases(show v=V.non from r1);exact fin _ .non k0
  |bl c=>cases(show v=V.bl c from r1);exact fin _ (.bl c) k1
  |int c=>cases(show v=V.int c from r1);exact fin _ (.int c) k2
  |str c=>cases(show v=V.str c from r1);exact fin _ (.str c) k3
  |lst ds=>obtain⟨a,xs,e,hp,r⟩:=I1.lst r1;subst e;exact fin _ (.lst hp) k4
  |tup ds=>obtain⟨a,xs,e,hp,r⟩:=I1.tup r1;subst e;exact fin _ (.tup hp) k5
  |scr _=>cases hS
  |exc _=>cases hS
  |dic _ _=>cases hS
  |dit _ _=>cases hS
 ·cases hm
noncomputable def cutD {α:Type}(xs:List α)(lo hi:Option Int):List α:=(xs.drop (HT.sIx xs.length 0 lo)).take (HT.sIx xs.length xs.length hi-HT.sIx xs.length 0 lo)
theorem RepL.cut (h:RepL K G xs ds)(lo hi:Option Int):RepL K G (cutV xs lo hi) (cutD ds lo hi):=by
 unfold cutV cutD
 rw[h.length]
 exact(h.drop _).take _
section
variable {prog:Program} {w:World} {A:Around} {E:Value->Shared->Prop} {s:Shared}
theorem zfN {t sl:Addr}{items:Array Value}{vl vu:Value}{lo hi:Option Int}(ht:IsTup s.heap t items)(hs:s.heap.IsSliceOf sl vl vu .none)(pl:IsPart vl lo)(pu:IsPart vu hi)
  (hw:HT.sIx items.size 0 lo=0/\HT.sIx items.size items.size hi=items.size) (h:Q (.ref t) s):wpAny (model prog w) A (getItem (.ref t) (.ref sl)) Q E s:=by
 obtain⟨os,hos,hcs,hds⟩:=id hs
 have hTs:s.TypeIs (.ref sl) "slice":=⟨os,hos,hcs⟩
 unfold getItem
 try with_reducible refine wpAny_holding ?_
 first|refine wpAny_bind (wpAny_pure ?_)|skip
 refine wpAny_bind (wpAny_sequenceKey ht.typeIs (by decide) ?_)
 refine wpAny_bind (wpAny_callSpecial?_slot (name:=Str.ofString "__getitem__") ht.typeIs PyProof.Rows.slot_tuple_getitem
  (wpAny_call_entry PyProof.Rows.slot_tuple_getitem ht.typeIs entry_tuple_getitem ?_ (args_tuple_getitem _ _)))
 show wpAny _ _ (Builtin.Tuple.tupleItemsOf (.ref t)>>=_) _ _ s
 refine wpAny_bind (tupleItemsOf_ ht ?_)
 refine wpAny_bind (wpAny_typeOf hTs ?_)
 rw[if_pos (by decide)]
 refine wpAny_bind (HT.zek hs pl pu ?_)
 have hyes:(((HT.sIx items.size 0 lo:Nat):Int)==0&&(1:Int)==1&&(HT.sIx items.size items.size hi-HT.sIx items.size 0 lo)==items.size)=true:=by
  rw[hw.1,hw.2];simp
 show wpAny _ _ (if(((HT.sIx items.size 0 lo:Nat):Int)==0&&(1:Int)==1&&(HT.sIx items.size items.size hi-HT.sIx items.size 0 lo)==items.size)=true then _ else _) _ _ s
 rw[if_pos hyes]
 refine wpAny_bind (m:=Builtin.Tuple.tupleIsExact _) ?_
 unfold Builtin.Tuple.tupleIsExact
 refine wpAny_bind (wpAny_typeOf ht.typeIs (wpAny_pure ?_))
 rw[if_pos (by decide)]
 refine wpAny_bind (wpAny_rule ?_)
 exact wpAny_pure ⟨_,rfl,wpAny_pure h⟩
end
noncomputable def rSlTW (K:W.Frag):V->Option Int->Option Int->Hp->VK->Prop:=fun x lo hi H Q=>∃a xs,x= .ref a/\SqT K H a xs/\(HT.sIx xs.length 0 lo=0/\HT.sIx xs.length xs.length hi=xs.length)/\Q (.ref a) H
theorem sl_tupW:SlR X (rSlTW X.K):=by
 intro pins s σ H x v vl vu lo hi sl Q I rx hs pl pu h
 obtain⟨a,xs,rfl,hx,hw,q⟩:=h
 cases rx
 obtain⟨its,r,ht,hz⟩:=I.tuple hx
 have hlen:its.toArray.size=xs.length:=by rw[List.size_toArray];exact r.length.symm
 refine⟨"tuple",_,PyProof.Rows.slot_tuple_getitem.lookup,ht.typeIs,?_⟩
 exact zfN ht hs pl pu (by rw[hlen];exact hw) ⟨.ref a,H,I,rfl,q⟩
noncomputable abbrev MP:=R->Option (Option Int×R)
noncomputable def SPt (X:Cx)(e:Option Expr)(m:MP):Prop:=∃t,PO X e t/\∀B G H σ ρ o ρ' (Q:Option Int->Hp->Prop),SI X.K B G H σ ρ->m ρ=some (o,ρ')->(∀G' H',SI X.K B G' H' σ ρ'->Fz G G'->Q o H')->t σ H Q
noncomputable def pNo:MP:=fun ρ=>some (none,ρ)
noncomputable def zba (m:ME):MP:=fun ρ=>(m ρ).bind fun p=>match p.1 with
 | .int i=>some (some i,p.2)
 |_=>none
theorem zdx:SPt X none pNo:=⟨_,po_none,fun B G H σ ρ o ρ' Q I hm k=>by cases hm;exact k G H I (Fz.refl G)⟩
theorem zaz {m:ME}(h:SE X e m):SPt X (some e) (zba m):=by
 obtain⟨t,p,s⟩:=h
 refine⟨_,po_some p,fun B G H σ ρ o ρ' Q I hm k=>?_⟩
 obtain⟨⟨d,ρ1⟩,e1,hm⟩:=zah hm
 refine s B G H σ ρ d ρ1 _ I e1 fun G1 H1 v I1 f1 r1=>?_
 cases d<;>try cases hm
 rename_i i
 exact⟨i,r1,k G1 H1 I1 f1⟩
noncomputable def dCut (d:D)(lo hi:Option Int):Option D:=match d with
 | .lst ds=>some (.lst (cutD ds lo hi))
 | .tup ds=>some (.tup (cutD ds lo hi))
 | .scr ns=>some (.lst ((cutD ns lo hi).map .int))
 |_=>none
noncomputable def eCut (ma:ME)(ml mh:MP):ME:=fun ρ=>(ma ρ).bind fun p=>(ml p.2).bind fun q=>(mh q.2).bind fun r=>(dCut p.1 q.1 r.1).map fun d=>(d,r.2)
theorem zn8 (ns:List Int)(lo hi:Option Int):cutV (ns.map V.int) lo hi=(cutD ns lo hi).map V.int:=by
 unfold cutV cutD
 rw[List.length_map,<-List.map_drop,<-List.map_take]
theorem zgQ {lo hi:Option Expr}{ma:ME}{ml mh:MP}{pos p2:Pos}(he:SE X e ma)(hl:SPt X lo ml)(hu:SPt X hi mh):SE X (.Subscript e (.Slice lo hi none p2) pos) (eCut ma ml mh):=by
 obtain⟨ta,pa,sa⟩:=he
 obtain⟨tl,pl,sl⟩:=hl
 obtain⟨th,ph,sh⟩:=hu
 refine⟨_,zlh (sl_list.or (sl_tup.or sl_tupW)) pa pl ph,fun B G H σ ρ d ρ' Q I hm k=>?_⟩
 obtain⟨⟨x,ρ1⟩,e1,hm⟩:=zah hm
 obtain⟨⟨l,ρ2⟩,e2,hm⟩:=zah hm
 obtain⟨⟨u,ρ3⟩,e3,hm⟩:=zah hm
 obtain⟨c,e4,e5⟩:=zav hm
 obtain⟨rfl,rfl⟩:=Prod.mk.inj e5
 refine sa B G H σ ρ x ρ1 _ I e1 fun G1 H1 v I1 f1 r1=>sl B G1 H1 σ ρ1 l ρ2 _ I1 e2 fun G2 H2 I2 f2=>sh B G2 H2 σ ρ2 u ρ3 _ I2 e3 fun G3 H3 I3 f3=>?_
 have r3:=r1.mono (f2.trans f3)
 dsimp only at e4
 cases x with
 |exc _=>cases e4
 |dic _ _=>cases e4
 |dit _ _=>cases e4
 |non=>cases e4
 |bl _=>cases e4
 |int _=>cases e4
 |str _=>cases e4
 |lst ds=>
  cases e4
  obtain⟨a,xs,rfl,ha,r⟩:=I3.lst r3
  refine .inl ⟨a,xs,rfl,SqL.of ha,fun p hp=>?_⟩
  obtain⟨I4,f4,r4⟩:=I3.newL hp (r.cut l u)
  exact k _ _ _ I4 (f1.trans (f2.trans (f3.trans f4))) r4
 |tup ds=>
  cases e4
  obtain⟨a,xs,rfl,ha,r⟩:=I3.tup r3
  by_cases hw:HT.sIx xs.length 0 l=0/\HT.sIx xs.length xs.length u=xs.length
  ·refine .inr (.inr ⟨a,xs,rfl,SqT.of ha,hw,?_⟩)
   have e:cutD ds l u=ds:=by
    unfold cutD
    rw[<-r.length,hw.1,hw.2,List.drop_zero,Nat.sub_zero,List.take_of_length_le (by rw[r.length];exact Nat.le_refl _)]
   rw[e]at k
   exact k G3 H3 _ I3 (f1.trans (f2.trans f3)) r3
  ·refine .inr (.inl ⟨a,xs,rfl,SqT.of ha,hw,fun p hp=>?_⟩)
   obtain⟨I4,f4,r4⟩:=I3.newT hp (r.cut l u)
   exact k _ _ _ I4 (f1.trans (f2.trans (f3.trans f4))) r4
 |scr ns=>
  cases e4
  obtain⟨a,rfl,ha⟩:=r3
  refine .inl ⟨a,_,rfl,I3.fz.sql ha,fun p hp=>?_⟩
  rw[zn8]
  obtain⟨I4,f4,r4⟩:=I3.newL hp (RepL.ints (cutD ns l u))
  exact k _ _ _ I4 (f1.trans (f2.trans (f3.trans f4))) r4
theorem zaP (h:aLen ma n):∀ρ as ρ',ma ρ=some (as,ρ')->as.length+1=n+1:=fun ρ as ρ' e=>congrArg (· +1) (h ρ as ρ' e)
section
variable {X:Cx} {elt iter tg:Expr} {ifs:List Expr} {scope:Scope} {pos lpos pos':Pos} {N:List Str} {cap:List Nat} {t:Nat} {mi:MA} {g:D->R->Option R} {mt:MT} {me:ME}
theorem zjt (i:Nat)(cap:List Nat)(t:Nat)(N:List Str)(hc:X.calm=true)(hi:SIt X tg iter mi)(hg:∀C s H fp,SG (cxC X N scope C s H fp) tg g)(ht:∀C s H fp,STs (cxC X N scope C s H fp) ifs mt)(he:∀C s H fp,SE (cxC X N scope C s H fp) elt me)(hN:X.N.Nodup)
    (hxi:autoParam (X.N[i]? =some x) zu2._auto_1) (hx:autoParam (Loc X.env.scope x) zu9._auto_1) (hf:autoParam (X.fn x=true\/X.env.scope.names.lookup x=some .local) zu9._auto_1)
    (hsw:autoParam (swapsWith (.ListComp elt [⟨tg,iter,ifs,0⟩] scope lpos) (some (.Name x pos')) pos.line X.env=pure true) zu2._auto_1)
    (hk:autoParam (scope.kind= .function) zu2._auto_1) (hb:autoParam (blkB X.env scope=true) zu10._auto_1) (hcap:autoParam (capB scope.names N X.N cap t=true) zu10._auto_1)
    (hs:autoParam (∀x,foldedSetIterable iter X.env x=pure x) zu8._auto_1):SS X (.Assign [.Name x pos'] (.ListComp elt [⟨tg,iter,ifs,0⟩] scope lpos) pos) (sSet i (eFz (oLC cap t mi g mt me))):=by
  obtain⟨wi,pi,si⟩:=hi
  refine⟨_,zlP hN hxi hx hf hsw hc (zmL hk hb) (zns hcap) pi (fun C s H fp=>(hg C s H fp).choose_spec.1) (fun C s H fp=>(ht C s H fp).choose_spec.1) (fun C s H fp=>(he C s H fp).choose_spec.1) hs,fun B G H σ ρ fl ρ' E I hm k=>?_⟩
  obtain⟨⟨d,ρ1⟩,e1,e3⟩:=zav hm
  obtain⟨⟨ds,ρ2⟩,e4,e5⟩:=zav e1
  obtain⟨rfl,rfl⟩:=Prod.mk.inj e5
  obtain⟨rfl,rfl⟩:=Prod.mk.inj e3
  refine zlF si (fun C s H fp=>(hg C s H fp).choose_spec.2) (fun C s H fp=>(ht C s H fp).choose_spec.2) (fun C s H fp=>(he C s H fp).choose_spec.2) B G H σ ρ ds ρ2 _ I e4 fun G1 H1 l xs I1 f1 g1 h1 r1 b1 n1=>?_
  obtain⟨I2,f2,r2⟩:=zjL I1 g1 h1 r1 b1 n1
  exact k _ H1 _ (I2.set r2) (f1.trans f2)
end
end M
namespace M
open L2 PySem
@[simp] theorem atI_nat' {α:Type} (xs:List α) (i:Nat):atI xs (i:Int)=xs[i]?:=by
 unfold atI ixN
 rw[if_pos (by lia)]
 by_cases h:i<xs.length
 ·rw[if_pos (by lia)];simp
 ·rw[if_neg (by lia)];simp[List.getElem?_eq_none (by lia:xs.length<=i)]
end M
namespace M
open L2 PyProof.Rows PySem PySem.Spec
noncomputable def zmo (i:Nat)(g:Int->Int->Int)(me:ME):MS:=fun ρ=>match ρ[i]? with
 |some (.val (.int a))=>(me ρ).bind fun p=>match p.1 with
  | .int b=>some (.next,p.2.set i (.val (.int (g a b))))
  |_=>none
 |_=>none
section
variable {X:Cx} {e:Expr} {me:ME} {pos:Pos}
theorem ss_augI (i:Nat){x:Str}{pos':Pos}{op:Operator}{g:Int->Int->Int}(ho:PIp X op (ipI g))(he:SE X e me)(hN:X.N.Nodup)(hi:autoParam (X.N[i]? =some x) zu2._auto_1)(hx:autoParam (Loc X.env.scope x) zu9._auto_1)
    (hf:autoParam (X.fn x=true\/X.env.scope.names.lookup x=some .local) zu9._auto_1):SS X (.AugAssign (.Name x pos') op e pos) (zmo i g me):=by
  obtain⟨t,p,s⟩:=he
  refine⟨_,ps_aug hN hi hx p ho hf,fun B G H σ ρ fl ρ' E I hm k=>?_⟩
  unfold zmo at hm
  split at hm
  . rename_i a e0
    obtain⟨⟨d,ρ1⟩,e1,h2⟩:=zah hm
    dsimp only at h2
    split at h2
    . rename_i b
      cases h2
      obtain⟨v,h1,hv⟩:=I.slot i _ e0
      cases(show v=V.int a from hv)
      refine⟨_,h1,s B G H σ ρ (.int b) ρ1 _ I e1 fun G1 H1 w I1 f1 r1=>?_⟩
      cases(show w=V.int b from r1)
      exact⟨a,b,rfl,rfl,k G1 H1 _ (I1.set (d:= .int (g a b)) rfl) f1⟩
    . cases h2
  . cases hm
theorem zke (i:Nat){x:Str}{pos':Pos}(he:SE X e me)(hN:X.N.Nodup)(hi:autoParam (X.N[i]? =some x) zu2._auto_1)(hx:autoParam (Loc X.env.scope x) zu9._auto_1)
  (hf:autoParam (X.fn x=true\/X.env.scope.names.lookup x=some .local) zu9._auto_1):SS X (.AugAssign (.Name x pos') .Sub e pos) (zmo i (fun i j=>i-j) me):=ss_augI i ip_sub he hN hi hx hf
end
noncomputable def zcR {α:Type}(xs:List α)(lo hi st:Option Int):List α:=
 (sliceRange (sliceBounds lo hi st xs.length).1 (sliceBounds lo hi st xs.length).2.1 (sliceBounds lo hi st xs.length).2.2).filterMap (xs[·]?)
theorem zgT (its:List Value)(lo hi st:Option Int):slicePick its.toArray lo hi st=(zcR its lo hi st).toArray:=by
 unfold slicePick zcR
 simp
theorem zjI {xs:List V}{its:List Value}(h:xs.length=its.length)(lo hi st:Option Int):(zcR its lo hi st).length<=xs.length:=by
 have:=slicePick_size_le its.toArray lo hi st
 rw[zgT]at this
 simpa[h]using this
theorem picks {its:List Value}{xs:List V}(r:Vals xs its):∀js:List Nat,Vals (js.filterMap (xs[·]?)) (js.filterMap (its[·]?))
 |[]=> .nil
 |j::js=>by
  have hl:=r.length
  by_cases h:j<xs.length
  ·have h2:j<its.length:=by lia
   obtain⟨u,e1,e2⟩:=r.get (List.getElem?_eq_getElem h)
   rw[List.filterMap_cons,List.filterMap_cons,List.getElem?_eq_getElem h,e1]
   exact .cons e2 (picks r js)
  ·rw[List.filterMap_cons,List.filterMap_cons,List.getElem?_eq_none (by lia),List.getElem?_eq_none (by lia)]
   exact picks r js
theorem RepL.pickJ {K:W.Frag}{G:Hp}{xs:List V}{ds:List D}(r:RepL K G xs ds):∀js:List Nat,RepL K G (js.filterMap (xs[·]?)) (js.filterMap (ds[·]?))
 |[]=>RepL.nil
 |j::js=>by
  have hl:=r.length
  by_cases h:j<xs.length
  ·have h2:j<ds.length:=by lia
   obtain⟨u,e1,e2⟩:=r.get (List.getElem?_eq_getElem h2)
   rw[List.filterMap_cons,List.filterMap_cons,List.getElem?_eq_getElem h2,e1]
   exact RepL.cons e2 (r.pickJ js)
  ·rw[List.filterMap_cons,List.filterMap_cons,List.getElem?_eq_none (by lia),List.getElem?_eq_none (by lia)]
   exact r.pickJ js
section
variable {X:Cx} {e st:Expr} {lo hi:Option Expr} {te:TE} {tl th ts:TO} {p2 pos:Pos}
theorem zmu (he:PE X e te)(hl:PO X lo tl)(hu:PO X hi th)(hst:PO X (some st) ts):PE X (.Subscript e (.Slice lo hi (some st) p2) pos)
  (fun σ H Q=>te σ H fun x H1=>tl σ H1 fun l H2=>th σ H2 fun u H3=>ts σ H3 fun c H4=>∃a xs,x= .ref a/\SqL X.K H4 a xs/\c≠some 0/\∀p,H4 p=none->Q (.ref p) (upd H4 p (.lst (zcR xs l u c)))):=by
 intro pins s σ H Q I h
 refine Subscript_ (thn (he pins s σ H _ I h) fun v s1 ⟨x,H1,I1,r1,q1⟩=>?_)
 refine wpAny_Slice (thn (hl pins s1 σ H1 _ I1 q1) fun vl s2 ⟨l,H2,I2,pl,q2⟩=>thn (hu pins s2 σ H2 _ I2 q2) fun vu s3 ⟨u,H3,I3,pu,q3⟩=>thn (hst pins s3 σ H3 _ I3 q3) fun vs s4 ⟨c,H4,I4,pc,q4⟩=>?_)
 have I5:Inv X pins σ H4 {s4 with heap:=s4.heap.push {cls:= .type "slice",data:= .fields #[vl,vu,vs]}}:=I4.kept (t':=s4.toks) fun b ob q=>Heap.get?_push_of_some _ q
 obtain⟨a,xs,rfl,hx,h0,q⟩:=q4
 cases r1
 obtain⟨its,r,ht,hz⟩:=I5.list hx
 have hlen:=r.length
 have hg:wpAny (model X.prog X.w) X.A (getItem (.ref a) (.ref s4.heap.objs.size)) (EP X pins σ Q) X.xe {s4 with heap:=s4.heap.push {cls:= .type "slice",data:= .fields #[vl,vu,vs]}}:=by
  refine wpAny_getItem_list_slice ht.isList (Heap.IsSliceOf.new ..) pl pu pc h0 ?_ (by rw[List.size_toArray]<;>lia)
  rw[zgT]
  refine⟨.ref _,_,I5.laid (t':=s4.toks) (o:= .lst (zcR xs l u c)) (fun b ob q=>Heap.get?_push_of_some _ q) (Nat.le_refl _) ?_,rfl,q _ (I5.hok.fresh (Nat.le_refl _))⟩
  refine⟨?_,_,0,?_,Heap.get?_push_size _ rfl⟩
  ·have:=zjI hlen l u c
   have e2:(zcR xs l u c).length=(zcR its l u c).length:=by
    unfold zcR;rw[hlen];exact(picks r _).length
   lia
  ·unfold zcR;rw[hlen];exact picks r _
 show wpAny (model X.prog X.w) X.A (subscriptTail e (.Slice lo hi (some st) p2) (.ref a) (.ref s4.heap.objs.size)) (EP X pins σ Q) X.xe {s4 with heap:=s4.heap.push {cls:= .type "slice",data:= .fields #[vl,vu,vs]}}
 exact tail_any (ops:=[.ref a,.ref s4.heap.objs.size]) ht.isList.typeIs slot_list_getitem.lookup hg (by with_unfolding_all rfl)
end
noncomputable def zm3 (d:D)(lo hi st:Option Int):Option D:=match d with
 | .lst ds=>if st=some 0 then none else some (.lst (zcR ds lo hi st))
 |_=>none
noncomputable def zmX (ma:ME)(ml mh ms:MP):ME:=fun ρ=>(ma ρ).bind fun p=>(ml p.2).bind fun q=>(mh q.2).bind fun r=>(ms r.2).bind fun t=>(zm3 p.1 q.1 r.1 t.1).map fun d=>(d,t.2)
theorem RepL.pick {K:W.Frag}{G:Hp}{xs:List V}{ds:List D}(r:RepL K G xs ds)(lo hi st:Option Int):RepL K G (zcR xs lo hi st) (zcR ds lo hi st):=by
 unfold zcR
 rw[r.length]
 exact r.pickJ _
theorem zkG {X:Cx}{e st:Expr}{lo hi:Option Expr}{ma:ME}{ml mh ms:MP}{pos p2:Pos}(he:SE X e ma)(hl:SPt X lo ml)(hu:SPt X hi mh)(hs:SPt X (some st) ms):SE X (.Subscript e (.Slice lo hi (some st) p2) pos) (zmX ma ml mh ms):=by
 obtain⟨ta,pa,sa⟩:=he
 obtain⟨tl,pl,sl⟩:=hl
 obtain⟨th,ph,sh⟩:=hu
 obtain⟨tc,pc,sc⟩:=hs
 refine⟨_,zmu pa pl ph pc,fun B G H σ ρ d ρ' Q I hm k=>?_⟩
 obtain⟨⟨x,ρ1⟩,e1,hm⟩:=zah hm
 obtain⟨⟨l,ρ2⟩,e2,hm⟩:=zah hm
 obtain⟨⟨u,ρ3⟩,e3,hm⟩:=zah hm
 obtain⟨⟨c,ρ4⟩,e4,hm⟩:=zah hm
 obtain⟨y,e5,e6⟩:=zav hm
 obtain⟨rfl,rfl⟩:=Prod.mk.inj e6
 refine sa B G H σ ρ x ρ1 _ I e1 fun G1 H1 v I1 f1 r1=>sl B G1 H1 σ ρ1 l ρ2 _ I1 e2 fun G2 H2 I2 f2=>sh B G2 H2 σ ρ2 u ρ3 _ I2 e3 fun G3 H3 I3 f3=>sc B G3 H3 σ ρ3 c ρ4 _ I3 e4 fun G4 H4 I4 f4=>?_
 have r3:=r1.mono (f2.trans (f3.trans f4))
 dsimp only at e5
 cases x<;>simp only[zm3]at e5<;>try cases e5
 rename_i ds
 split at e5
 ·cases e5
 ·rename_i h0
  cases e5
  obtain⟨a,xs,rfl,ha,r⟩:=I4.lst r3
  refine⟨a,xs,rfl,SqL.of ha,h0,fun p hp=>?_⟩
  obtain⟨I5,f5,r5⟩:=I4.newL hp (r.pick l u c)
  exact k _ _ _ I5 (f1.trans (f2.trans (f3.trans (f4.trans f5)))) r5
end M
namespace M
open L2 PySem PySem.Spec
open PyProof.Rows hiding St
variable {X:Cx} {e a b:Expr} {ma:MA} {p pos:Pos} {K:W.Frag} {G:Hp} {xs:List V} {ds:List D}
noncomputable def cntS (lo hi st:Int):Nat:=if lo<hi then((hi-lo-1)/st+1).toNat else 0
noncomputable def zhn (lt:Int->Int->Bool)(ns:List Int):Int:=ns.getD (argBest (fun i j=>lt (ns.getD i 0) (ns.getD j 0)) (ns.length-1)) 0
noncomputable def rBest (K:W.Frag)(lt:Int->Int->Bool):List V->Hp->VK->Prop:=fun xs H Q=>∃(p:Addr) (ns:List Int),xs=[.ref p]/\ns≠[]/\(SqL K H p (ns.map V.int)\/SqT K H p (ns.map V.int))/\Q (.int (zhn lt ns)) H
theorem znx (hc:X.calm=true):zeT X (.builtin "max") (rBest X.K fun i j=>decide (i>j)):=by
 intro pins s σ H xs us Q I r h
 obtain⟨p,ns,rfl,ne,hq,q⟩:=h
 obtain⟨u,rfl,ru⟩:=zh9 r
 cases ru
 refine call_max_walk (zha (A:=X.A.in1) (I.ok.hd hc) I hq fun its s₂ St rv W st hfp fin=>?_)
 have hl:=rv.length
 rw[List.length_map]at hl
 have hp:0<its.length:=by rw[<-hl];exact List.length_pos_iff.mpr ne
 refine⟨_,_,_,_,_,_,_,rfl,W,st,hfp,hp,CmpOf.ints_gt (fun i=>ns.getD i 0) (fun i v e=>zf1 rv e),fun v h' tk hP hk=>?_⟩
 obtain⟨t,rfl⟩:=zf1 rv hP
 refine⟨.int (zhn _ ns),H,fin h' tk hk,⟨t,?_⟩,q⟩
 unfold zhn
 rw[hl]
theorem zmH (hc:X.calm=true):zeT X (.builtin "min") (rBest X.K fun i j=>decide (i<j)):=by
 intro pins s σ H xs us Q I r h
 obtain⟨p,ns,rfl,ne,hq,q⟩:=h
 obtain⟨u,rfl,ru⟩:=zh9 r
 cases ru
 refine call_min_walk (zha (A:=X.A.in1) (I.ok.hd hc) I hq fun its s₂ St rv W st hfp fin=>?_)
 have hl:=rv.length
 rw[List.length_map]at hl
 have hp:0<its.length:=by rw[<-hl];exact List.length_pos_iff.mpr ne
 refine⟨_,_,_,_,_,_,_,rfl,W,st,hfp,hp,CmpOf.ints_lt (fun i=>ns.getD i 0) (fun i v e=>zf1 rv e),fun v h' tk hP hk=>?_⟩
 obtain⟨t,rfl⟩:=zf1 rv hP
 refine⟨.int (zhn _ ns),H,fin h' tk hk,⟨t,?_⟩,q⟩
 unfold zhn
 rw[hl]
noncomputable def zn0 (lt:Int->Int->Bool):List D->Option D
 |[d]=>(zax [d]).bind fun ds=>(zbl ds).bind fun ns=>if ns.isEmpty then none else some (.int (zhn lt ns))
 |_=>none
theorem zmU (lt:Int->Int->Bool):VC X (rBest X.K lt) (zn0 lt):=by
 intro B G H σ ρ xs ds d Q I r hf k
 match ds,hf with
 |[a],hf=>
  obtain⟨es,e1,hf⟩:=zah hf
  obtain⟨ns,e2,hf⟩:=zah hf
  split at hf
  ·cases hf
  ·rename_i ne
   cases hf
   obtain⟨x,rfl,ra⟩:=r.one
   obtain⟨p,ys,rfl,hq,ry⟩:=zhe I ra e1
   rw[zdF e2]at ry
   rw[RepL.ints_eq ry]at hq
   exact⟨p,ns,rfl,fun z=>ne (by rw[z];rfl),hq,k G H _ I (Fz.refl G) rfl⟩
 |[],hf=>cases hf
 |_::_::_,hf=>cases hf
noncomputable def zjx:List D->Option D:=zn0 fun i j=>decide (i>j)
noncomputable def zkj:List D->Option D:=zn0 fun i j=>decide (i<j)
theorem se_maxL (hc:X.calm=true)(ml:X.mg "max"=none)(ha:SA X [e] ma)(hg:autoParam (Gl X "max") zu2._auto_1)(he:autoParam (starEach [e] X.env=(false,eval e X.env)::starEach [] X.env) zu2._auto_1):SE X (.Call (.Name "max" p) [e] [] pos) (mC zjx ma):=
 zcV (znx hc) (zmU _) (by decide+kernel) ml ha hg (by decide) (by decide) he rfl
theorem se_minL (hc:X.calm=true)(ml:X.mg "min"=none)(ha:SA X [e] ma)(hg:autoParam (Gl X "min") zu2._auto_1)(he:autoParam (starEach [e] X.env=(false,eval e X.env)::starEach [] X.env) zu2._auto_1):SE X (.Call (.Name "min" p) [e] [] pos) (mC zkj ma):=
 zcV (zmH hc) (zmU _) (by decide+kernel) ml ha hg (by decide) (by decide) he rfl
noncomputable def oRep (ma mb:ME):MO:=fun ρ=>(ma ρ).bind fun p=>(mb p.2).bind fun q=>match p.1,q.1 with
 | .lst xs,.int k=>if zdE k&&decide (xs.length*k.toNat<=16777216)then some ((List.replicate k.toNat xs).flatten,q.2)else none
 |_,_=>none
theorem RepL.times (h:RepL K G xs ds):∀n:Nat,RepL K G (List.replicate n xs).flatten (List.replicate n ds).flatten
 |0=>RepL.nil
 |n+1=>by
  rw[List.replicate_succ,List.flatten_cons,List.replicate_succ,List.flatten_cons]
  exact h.append (h.times n)
theorem so_rep {ma mb:ME}(ha:SE X a ma)(hb:SE X b mb):SO X (.BinOp a .Mult b pos) (oRep ma mb):=by
 obtain⟨ta,pa,sa⟩:=ha
 obtain⟨tb,pb,sb⟩:=hb
 refine⟨_,pe_op op_rep pa pb,fun B G H σ ρ d ρ' Q I hm k=>?_⟩
 obtain⟨⟨x,ρ1⟩,e1,hm⟩:=zah hm
 obtain⟨⟨y,ρ2⟩,e2,hm⟩:=zah hm
 refine sa B G H σ ρ x ρ1 _ I e1 fun G1 H1 v I1 f1 r1=>sb B G1 H1 σ ρ1 y ρ2 _ I1 e2 fun G2 H2 u I2 f2 r2=>?_
 dsimp only at hm
 split at hm
 ·rename_i xs n _
  split at hm
  ·rename_i hs
   cases hm
   simp only[Bool.and_eq_true,decide_eq_true_eq]at hs
   cases(show u=V.int n from r2)
   obtain⟨l,ys,rfl,hl,r⟩:=I2.lst (r1.mono f2)
   have a1:=zcH hs.1
   refine⟨l,n,ys,rfl,rfl,hl,by lia,by lia,by rw[r.length,sizeLine_eq];exact hs.2,fun p hp=>?_⟩
   obtain⟨I3,g3,h3,b3,n3⟩:=I2.newO hp (List.replicate n.toNat ys).flatten
   exact k G2 _ p _ I3 (f1.trans f2) g3 h3 (r.times _) b3 n3
  ·cases hm
 ·cases hm
noncomputable def flV:D->Option V
 | .non=>some .non
 | .bl b=>some (.bl b)
 | .int i=>some (.int i)
 | .str x=>some (.str x)
 |_=>none
noncomputable def zkH:List D->Option (List V)
 |[]=>some []
 |d::ds=>(flV d).bind fun v=>(zkH ds).map (v:: ·)
theorem flV_ok {x v:V}{d:D}(r:RepD K G x d)(e:flV d=some v):x=v/\zh2 v=true:=by
 cases d<;>simp only[flV]at e<;>cases e<;>exact⟨r,rfl⟩
theorem zlR:∀{ys xs:List V} {ds:List D},RepL K G ys ds->zkH ds=some xs->ys=xs/\xs.all zh2=true
 |ys,xs,[],r,e=>by cases e;cases(show ys=[]from r);exact⟨rfl,rfl⟩
 |ys,xs,d::ds,r,e=>by
  obtain⟨y,zs,rfl,ry,rz⟩:=r
  obtain⟨v,e1,e⟩:=zah e
  obtain⟨vs,e2,rfl⟩:=zav e
  obtain⟨rfl,f1⟩:=flV_ok ry e1
  obtain⟨rfl,f2⟩:=zlR rz e2
  exact⟨rfl,by rw[List.all_cons,f1,f2];rfl⟩
noncomputable def dInB (neg:Bool)(a b:D):Option D:=(flV a).bind fun x=>(zax [b]).bind fun ds=>(zkH ds).map fun xs=> .bl (if neg then !inV x xs else inV x xs)
noncomputable def dIn:D->D->Option D:=dInB false
noncomputable def zii:D->D->Option D:=dInB true
theorem v2_in (neg:Bool):V2 X (rIn X.K neg) (dInB neg):=by
 intro B G H σ ρ x y a b d Q I ra rb hf k
 obtain⟨v,e1,hf⟩:=zah hf
 obtain⟨ds,e2,hf⟩:=zah hf
 obtain⟨xs,e3,rfl⟩:=zav hf
 obtain⟨rfl,f1⟩:=flV_ok ra e1
 obtain⟨p,ys,rfl,hq,ry⟩:=zhe I rb e2
 obtain⟨rfl,f2⟩:=zlR ry e3
 exact⟨p,ys,rfl,hq,f1,f2,k G H _ I (Fz.refl G) rfl⟩
theorem se_in {ma mb:ME}(ha:SE X a ma)(hb:SE X b mb)(hm:autoParam (behindInMarks .In b=false) zu2._auto_1):SE X (.Compare a [.In] [b] pos) (m2 dIn ma mb):=zjB zm5 (v2_in false) ha hb hm
theorem bl_in (neg:Bool):∀x y d,dInB neg x y=some d->∃t,d= .bl t:=by
 intro x y d hf
 obtain⟨v,e1,hf⟩:=zah hf
 obtain⟨ds,e2,hf⟩:=zah hf
 obtain⟨xs,e3,rfl⟩:=zav hf
 exact⟨_,rfl⟩
theorem st_notIn {ma mb:ME}(ha:SE X a ma)(hb:SE X b mb)(hm:autoParam (behindInMarks .NotIn b=false) zu2._auto_1):STt X (.Compare a [.NotIn] [b] pos) (tTru (m2 zii ma mb)):=zhA zkt (v2_in true) (bl_in true) ha hb hm
end M
namespace M
open L2 PySem PySem.Spec
open PyProof.Rows hiding St
open Sem (wp)
variable {b N i k:Nat} {a it l:Addr} {t:Bool} {h h':Heap} {is xs ys:Array Value} {Q:Value->Shared->Prop}
theorem nin2 {b x y z:Nat}(h:b∈[x,y])(h1:x≠z)(h2:y≠z):b≠z:=by
 simp at h
 rcases h with rfl|rfl<;>assumption
theorem nA {N a b:Nat}(h:a≠b):N+a≠N+b:=fun e=>h (Nat.add_left_cancel e)
theorem nB (h:0≠b):N≠N+b:=fun e=>h (Nat.add_left_cancel (show N+0=N+b from e))
theorem nC (h:b≠0):N+b≠N:=fun e=>h (Nat.add_left_cancel (show N+b=N+0 from e))
theorem nL {a N b:Nat}(h:a<N):a≠N+b:=Nat.ne_of_lt (Nat.lt_of_lt_of_le h (Nat.le_add_right _ _))
theorem ne_ {a b:Nat}(h:a≠b):a≠b:=h
local macro_rules | `(tactic| ac_rfl) => `(tactic| first | exact M.nA (by decide) | exact M.nB (by decide) | exact M.nC (by decide) | exact M.nL (by assumption) | exact Nat.ne_of_lt (by assumption) | lia)
noncomputable def SrcIt:Bool->Heap->Addr->Addr->Nat->Prop
 |true,h,it,a,i=>h.IsTupleIter it a i
 |false,h,it,a,i=>h.IsListIter it a i
noncomputable def SrcH:Bool->Heap->Addr->Array Value->Prop
 |true,h,a,its=>h.IsTuple a its
 |false,h,a,its=>h.IsList a its
theorem SrcIt.at (x:SrcIt t h it a i)(e:∀o,h.get? it=some o->h'.get? it=some o):SrcIt t h' it a i:=by
 cases t
 ·exact Heap.IsListIter.at x e
 ·exact Heap.IsTupleIter.at x e
theorem SrcH.at (x:SrcH t h a is)(e:∀o,h.get? a=some o->h'.get? a=some o):SrcH t h' a is:=by
 cases t
 ·exact Heap.IsList.at x e
 ·obtain⟨o,ho,r⟩:=x;exact⟨o,e _ ho,r⟩
theorem SrcIt.obj (x:SrcIt t h it a i):∃o,h.get? it=some o/\∀v,o.data≠ .cell v:=by
 cases t<;>(obtain⟨o,e,c,d⟩:=x;exact⟨o,e,fun v z=>by rw[d]at z;cases z⟩)
theorem SrcH.lt (x:SrcH t h a is):a<h.objs.size:=by
 cases t<;>(obtain⟨o,e,_⟩:=x;exact Heap.lt_size e)
section
variable {prog:Program} {w:World} {A:Around} {E:Value->Shared->Prop} {s:Shared}
theorem zlI {items}(hit:s.heap.IsTupleIter it l i)(hl:s.heap.IsTuple l items)
  (k : (∃ x, items[i]? = some x /\ ∀ h', h'.IsTupleIter it l (i + 1) -> Heap.SameBut it s.heap h' -> Q x { s with heap := h' }) \/
   (items[i]? =none/\A.handled=none/\∀h' e,Heap.ExtBut it s.heap h'->(∃o,h'.get? e=some o/\o.cls= .type "StopIteration")->E (.ref e) {s with heap:=h'})):
  wpAny (model prog w) A (Builtin.SmallTypes.nextOf (.ref it)) Q E s:=by
 obtain⟨o,ho,hc,hd⟩:=id hit
 obtain⟨ol,hol,-,nl,hdl⟩:=hl
 have ne:¬((Value.ref l==Value.none)=true):=Bool.false_ne_true
 unfold Builtin.SmallTypes.nextOf
 refine wpAny_bind (wpAny_callSpecial?_slot (name:=Str.ofString "__next__") hit.typeIs slot_tupleiter_next (wpAny_call_entry slot_tupleiter_next hit.typeIs entry_tupleiter_next ?_ (args_tupleiter_next _)))
 refine(?_:wpAny _ _ (field (.ref it) 0>>=_) _ _ s)
 refine wpAny_bind (wpAny_field ho hd (x:= .ref l) rfl (?_:wpAny _ _ (if(Value.ref l==Value.none)=true then _ else _) _ _ s))
 rw[if_neg ne]
 refine(?_:wpAny _ _ (field (.ref it) 1>>=_) _ _ s)
 refine wpAny_bind (wpAny_field ho hd (x:= .int i 0) rfl (?_:wpAny _ _ (seqItems? (.ref l)>>=_) _ _ s))
 refine wpAny_bind (wpAny_seqItems hol hdl ?_)
 rcases k with⟨x,hx,k⟩|⟨hx,hh,k⟩<;>simp only[Int.toNat_natCast,hx]
 ·have upd:∀h':Heap,h'.get? it=some (o.mapFields fun a=>a.setIfInBounds 1 (rawInt (((i:Nat):Int)+1)))->h'.IsTupleIter it l (i+1):=fun h' e=>⟨_,e,(Obj.cls_mapFields ..).trans hc,by rw[Obj.data_mapFields hd];simp[rawInt]⟩
  refine wpAny_bind (wpAny_setField ho hd (by simp) (wpAny_pure ⟨x,rfl,wpAny_pure (k _ ?_ (Heap.SameBut.update ..))⟩))
  refine⟨_,Heap.get?_update_self _ ho (Obj.isFreed_of_fields (Obj.data_mapFields hd _)),(Obj.cls_mapFields ..).trans hc,?_⟩
  rw[Obj.data_mapFields hd]
  simp[rawInt]
 ·refine wpAny_bind (wpAny_rule (wpAny_bind (wpAny_setField ho hd (by simp) (?_:wpAny _ _ (newExc (.type "StopIteration") []>>=_) _ _ _))))
  refine wpAny_bind ?_
  simp only[newExc,newTuple]
  refine wpAny_bind (wpAny_newObj_type (wpAny_bind (m:=firstArgMember _ _) (wpAny_of_eq (a:=Value.none) (by first|rfl|(simp only[firstArgMember];rfl)) (wpAny_newObj_type ?_ (by size_fits)))) (by size_fits))
  simp only[raiseNew]
  refine wpAny_bind (wpAny_handled ?_)
  first|rw[show A.in1.handled=none from hh]|rw[hh]
  exact wpAny_bind (wpAny_pure (wpAny_throw (k _ _ (((Heap.SameBut.update ..).extBut.push _).push _) ⟨_,Heap.get?_push_size _ rfl,rfl⟩)))
theorem za4 (hh:A.handled=none)(it l:Addr)(hne:l≠it)(items:Array Value):Draws prog w A it [it,l] items.size (fun i v=>items[i]? =some v) (fun i h=>SrcIt t h it l i/\SrcH t h l items):=by
 cases t
 ·exact Draws.list hh it l hne items
 ·refine⟨fun _ _ st=>?_,fun _ _ _ st hk=>⟨SrcIt.at st.1 fun o e=>hk it (by simp) o e,SrcH.at st.2 fun o e=>hk l (by simp) o e⟩,fun i s Q E hi st hQ=>?_,fun s Q E st hE=>zlI st.1 st.2 (.inr ⟨by simp,hh,hE⟩)⟩
  ·obtain⟨o,e,-⟩:=SrcIt.obj st.1
   exact⟨o,e⟩
  ·exact zlI st.1 st.2 (.inl ⟨items[i],by simp[hi],fun h' a b=>hQ _ h' s.toks (by simp[hi]) ⟨a,SrcH.at st.2 fun o e=>(b.2 l hne).trans e⟩ b⟩)
noncomputable def srcO (t:Bool)(a:Addr):Obj:={cls:= .type (if t then "tuple_iterator" else "list_iterator"),data:= .fields #[.ref a,.int 0 0]}
theorem zgw (e:h.get? it=some (srcO t a)):SrcIt t h it a 0:=by
 cases t<;>exact⟨_,e,rfl,rfl⟩
theorem zdG (t:Bool)(a:Addr):(srcO t a).isFreed=false:=by cases t<;>rfl
theorem zbO {items}(hl:SrcH t s.heap a items)(hQ:Q (.ref s.heap.objs.size) {s with heap:=s.heap.push (srcO t a)}):
  wpAny (model prog w) A (pyIter (.ref a)) Q E s:=by
 cases t
 ·exact wpAny_pyIter_list hl hQ
 ·exact wpAny_pyIter_tuple hl hQ
noncomputable abbrev zc6 (h:Heap)(T:Addr)(a b c:Value):Prop:=h.get? T=some {cls:= .type "tuple",data:= .seq #[a,b,c]}
theorem zhq {T:Addr}{a b c x:Value}{Q:Unit->Shared->Prop}(hT:zc6 s.heap T a b c)
  (h:∀h',h'.get? T=some {cls:= .type "tuple",data:= .seq ((#[a,b,c]:Array Value).setIfInBounds k x)}->Heap.SameBut T s.heap h'->Q () {s with heap:=h'}):
  wpAny (model prog w) A (updateSeq T (·.setIfInBounds k x)) Q E s:=
 wpAny_updateSeq hT rfl (h _ (by rw[Heap.get?_update_self _ hT rfl];simp[Obj.mapSeq]) (Heap.SameBut.update ..))
section
variable {N a1 a2 a3:Nat} {n1 n2 n3:Nat} {P1 P2 P3:Nat->Value->Prop} {S1 S2 S3:Nat->Heap->Prop}
theorem zot {a b c:Value}(D1:Draws prog w A N [N,a1] n1 P1 S1)(D2:Draws prog w A (N+1) [N+1,a2] n2 P2 S2)(D3:Draws prog w A (N+2) [N+2,a3] n3 P3 S3)(l1:a1<N)(l2:a2<N)(l3:a3<N)
  (hz:IsZip s.heap (N+5) (N+3) (N+4) .none) (hTI:zc6 s.heap (N+3) (.ref N) (.ref (N+1)) (.ref (N+2))) (hTO:zc6 s.heap (N+4) a b c) (h1:S1 i s.heap) (h2:S2 i s.heap) (h3:S3 i s.heap) (i1:i<n1) (i2:i<n2) (i3:i<n3)
  (k : ∀ x y z h' tk, P1 i x -> P2 i y -> P3 i z -> IsZip h' (N + 5) (N + 3) (N + 4) (rawInt s.heap.objs.size) -> zc6 h' (N + 4) x y z -> S1 (i + 1) h' -> S2 (i + 1) h' -> S3 (i + 1) h' -> zc6 h' s.heap.objs.size x y z ->
   (∀c o,c≠N->c≠N+1->c≠N+2->c≠N+4->c≠N+5->s.heap.get? c=some o->h'.get? c=some o)->Q (.ref s.heap.objs.size) {s with heap:=h',toks:=tk}):
  wpAny (model prog w) A (Builtin.«zip.__next__» ⟨[.ref (N+5)],[]⟩) (fun fin s'=>∃v,fin= .done (.ret v)/\Q v s') E s:=by
 refine(?_:wpAny _ _ (field (.ref (N+5)) 2>>=_) _ _ _)
 refine wpAny_bind (wpAny_field hz rfl (x:= .bool false) rfl (?_:wpAny _ _ (field (.ref (N+5)) 3>>=_) _ _ _))
 refine wpAny_bind (wpAny_field hz rfl (x:= .ref (N+3)) rfl (wpAny_bind (wpAny_seqItems hTI rfl (?_:wpAny _ _ (Builtin.SmallTypes.ownedTupleIsFree (.ref (N+5))>>=_) _ _ _))))
 refine wpAny_bind ?_
 unfold Builtin.SmallTypes.ownedTupleIsFree
 refine wpAny_bind (wpAny_field hz rfl (x:= .none) rfl (wpAny_pure ?_))
 simp only[if_true]
 refine wpAny_bind (wpAny_rule (wpAny_bind (wpAny_field hz rfl (x:= .ref (N+4)) rfl (wpAny_bind (wpAny_setField_rec hz (by simp) fun g1 z1 s1=>wpAny_bind ?_)))))
 replace z1:IsZip g1 (N+5) (N+3) (N+4) .ellipsis:=z1
 simp only[List.zipIdx_cons,List.zipIdx_nil,List.forIn_cons,List.forIn_nil]
 refine wpAny_bind (wpAny_bind (wpAny_onRaise (?_:wpAny _ _ (Builtin.SmallTypes.nextOf (.ref N)>>=_) _ _ _)))
 have e1:S1 i g1:=D1.frame _ _ _ h1 fun b hb o e=>(s1.2 b (nin2 hb (by ac_rfl) (by ac_rfl))).trans e
 refine wpAny_bind (D1.item i _ _ _ i1 e1 fun x g2 t2 p1 f2 s2=>wpAny_pure ?_)
 have q2:zc6 g2 (N+4) a b c:=(s2.2 _ (ne_ (by ac_rfl))).trans ((s1.2 _ (ne_ (by ac_rfl))).trans hTO)
 refine wpAny_bind (wpAny_seqItems q2 rfl (wpAny_bind (zhq q2 fun g3 q3 s3=>wpAny_bind (wpAny_letGo (wpAny_pure ?_)))))
 replace q3:zc6 g3 (N+4) x b c:=q3
 have k3:∀d o,d≠N->d≠N+4->d≠N+5->s.heap.get? d=some o->g3.get? d=some o:=fun d o c1 c2 c3 e=>(s3.2 d c2).trans ((s2.2 d c1).trans ((s1.2 d c3).trans e))
 refine wpAny_bind (wpAny_bind (wpAny_onRaise (?_:wpAny _ _ (Builtin.SmallTypes.nextOf (.ref (N+1))>>=_) _ _ _)))
 have e3:S2 i g3:=D2.frame _ _ _ h2 fun b hb o e=>k3 b o (nin2 hb (by ac_rfl) (by ac_rfl)) (nin2 hb (by ac_rfl) (by ac_rfl)) (nin2 hb (by ac_rfl) (by ac_rfl)) e
 refine wpAny_bind (D2.item i _ _ _ i2 e3 fun y g4 t4 p2 f4 s4=>wpAny_pure ?_)
 have q4:zc6 g4 (N+4) x b c:=(s4.2 _ (ne_ (by ac_rfl))).trans q3
 refine wpAny_bind (wpAny_seqItems q4 rfl (wpAny_bind (zhq q4 fun g5 q5 s5=>wpAny_bind (wpAny_letGo (wpAny_pure ?_)))))
 replace q5:zc6 g5 (N+4) x y c:=q5
 refine wpAny_bind (wpAny_bind (wpAny_onRaise (?_:wpAny _ _ (Builtin.SmallTypes.nextOf (.ref (N+2))>>=_) _ _ _)))
 have e5:S3 i g5:=D3.frame _ _ _ h3 fun b hb o e=>(s5.2 b (nin2 hb (by ac_rfl) (by ac_rfl))).trans ((s4.2 b (nin2 hb (by ac_rfl) (by ac_rfl))).trans (k3 b o (nin2 hb (by ac_rfl) (by ac_rfl)) (nin2 hb (by ac_rfl) (by ac_rfl)) (nin2 hb (by ac_rfl) (by ac_rfl)) e))
 refine wpAny_bind (D3.item i _ _ _ i3 e5 fun z g6 t6 p3 f6 s6=>wpAny_pure ?_)
 have q6:zc6 g6 (N+4) x y c:=(s6.2 _ (ne_ (by ac_rfl))).trans q5
 refine wpAny_bind (wpAny_seqItems q6 rfl (wpAny_bind (zhq q6 fun g7 q7 s7=>wpAny_bind (wpAny_letGo (wpAny_pure (wpAny_pure ?_))))))
 replace q7:zc6 g7 (N+4) x y z:=q7
 have sz:g7.objs.size=s.heap.objs.size:=by rw[s7.1,s6.1,s5.1,s4.1,s3.1,s2.1,s1.1]
 have z7:IsZip g7 (N+5) (N+3) (N+4) .ellipsis:=(s7.2 _ (ne_ (by ac_rfl))).trans ((s6.2 _ (ne_ (by ac_rfl))).trans ((s5.2 _ (ne_ (by ac_rfl))).trans ((s4.2 _ (ne_ (by ac_rfl))).trans ((s3.2 _ (ne_ (by ac_rfl))).trans ((s2.2 _ (ne_ (by ac_rfl))).trans z1)))))
 have zl:(N+5:Nat)<g7.objs.size:=Heap.lt_size z7
 have k7:∀d o,d≠N->d≠N+1->d≠N+2->d≠N+4->d≠N+5->s.heap.get? d=some o->g7.get? d=some o:=fun d o c1 c2 c3 c4 c5 e=>(s7.2 d c4).trans ((s6.2 d c3).trans ((s5.2 d c4).trans ((s4.2 d c2).trans (k3 d o c1 c4 c5 e))))
 have f7:S1 (i+1) g7:=D1.frame _ _ _ f2 fun b hb o e=>(s7.2 b (nin2 hb (by ac_rfl) (by ac_rfl))).trans ((s6.2 b (nin2 hb (by ac_rfl) (by ac_rfl))).trans ((s5.2 b (nin2 hb (by ac_rfl) (by ac_rfl))).trans ((s4.2 b (nin2 hb (by ac_rfl) (by ac_rfl))).trans ((s3.2 b (nin2 hb (by ac_rfl) (by ac_rfl))).trans e))))
 have f7':S2 (i+1) g7:=D2.frame _ _ _ f4 fun b hb o e=>(s7.2 b (nin2 hb (by ac_rfl) (by ac_rfl))).trans ((s6.2 b (nin2 hb (by ac_rfl) (by ac_rfl))).trans ((s5.2 b (nin2 hb (by ac_rfl) (by ac_rfl))).trans e))
 have f7'':S3 (i+1) g7:=D3.frame _ _ _ f6 fun b hb o e=>(s7.2 b (nin2 hb (by ac_rfl) (by ac_rfl))).trans e
 refine wpAny_bind (wpAny_seqItems q7 rfl (wpAny_bind (wpAny_newTuple (?_:wpAny _ _ (Builtin.SmallTypes.ownedTupleHandOut (.ref (N+5)) (.ref g7.objs.size)>>=_) _ _ _))))
 refine wpAny_bind ?_
 unfold Builtin.SmallTypes.ownedTupleHandOut
 refine wpAny_bind (wpAny_setField_rec (show IsZip (g7.push {cls:= .type "tuple",data:= .seq #[x,y,z]}) (N+5) (N+3) (N+4) .ellipsis from Heap.get?_push_of_some _ z7) (by simp) fun g9 z9 s9=>?_)
 replace z9:IsZip g9 (N+5) (N+3) (N+4) (rawInt g7.objs.size):=z9
 refine wpAny_setField_rec z9 (by simp) fun g8 z8 s8=>wpAny_pure ⟨_,rfl,?_⟩
 replace z8:IsZip g8 (N+5) (N+3) (N+4) (rawInt g7.objs.size):=z8
 have up:∀c o,c≠N+5->g7.get? c=some o->g8.get? c=some o:=fun c o c1 e=>(s8.2 c c1).trans ((s9.2 c c1).trans (Heap.get?_push_of_some _ e))
 have T8:zc6 g8 g7.objs.size x y z:=(s8.2 _ (ne_ (by ac_rfl))).trans ((s9.2 _ (ne_ (by ac_rfl))).trans (Heap.get?_push_size _ rfl))
 rw[sz]at z8 T8
 refine(?_:Q (.ref g7.objs.size) _)
 rw[sz]
 exact k x y z g8 _ p1 p2 p3 z8 (up _ _ (ne_ (by ac_rfl)) q7) (D1.frame _ _ _ f7 fun b hb o e=>up b o (nin2 hb (by ac_rfl) (by ac_rfl)) e) (D2.frame _ _ _ f7' fun b hb o e=>up b o (nin2 hb (by ac_rfl) (by ac_rfl)) e) (D3.frame _ _ _ f7'' fun b hb o e=>up b o (nin2 hb (by ac_rfl) (by ac_rfl)) e) T8 fun c o c1 c2 c3 c4 c5 e=>up c o c5 (k7 c o c1 c2 c3 c4 c5 e)
theorem zip3_end {a b c:Value}{Q:Fin->Shared->Prop}(D1:Draws prog w A N [N,a1] n1 P1 S1)(D2:Draws prog w A (N+1) [N+1,a2] n2 P2 S2)(D3:Draws prog w A (N+2) [N+2,a3] n3 P3 S3)(l1:a1<N)(l2:a2<N)(l3:a3<N)
  (hz:IsZip s.heap (N+5) (N+3) (N+4) .none) (hTI:zc6 s.heap (N+3) (.ref N) (.ref (N+1)) (.ref (N+2))) (hTO:zc6 s.heap (N+4) a b c) (h1:S1 i s.heap) (h2:S2 i s.heap) (h3:S3 i s.heap) (hi:i=n1\/(i<n1/\(i=n2\/(i<n2/\i=n3))))
  (k:∀h' e tk,(∀c o,c≠N->c≠N+1->c≠N+2->c≠N+4->c≠N+5->s.heap.get? c=some o->h'.get? c=some o)->(∃o,h'.get? e=some o/\o.cls= .type "StopIteration")->E (.ref e) {s with heap:=h',toks:=tk}):
  wpAny (model prog w) A (Builtin.«zip.__next__» ⟨[.ref (N+5)],[]⟩) Q E s:=by
 refine(?_:wpAny _ _ (field (.ref (N+5)) 2>>=_) _ _ _)
 refine wpAny_bind (wpAny_field hz rfl (x:= .bool false) rfl (?_:wpAny _ _ (field (.ref (N+5)) 3>>=_) _ _ _))
 refine wpAny_bind (wpAny_field hz rfl (x:= .ref (N+3)) rfl (wpAny_bind (wpAny_seqItems hTI rfl (?_:wpAny _ _ (Builtin.SmallTypes.ownedTupleIsFree (.ref (N+5))>>=_) _ _ _))))
 refine wpAny_bind ?_
 unfold Builtin.SmallTypes.ownedTupleIsFree
 refine wpAny_bind (wpAny_field hz rfl (x:= .none) rfl (wpAny_pure ?_))
 simp only[if_true]
 refine wpAny_bind (wpAny_rule (wpAny_bind (wpAny_field hz rfl (x:= .ref (N+4)) rfl (wpAny_bind (wpAny_setField_rec hz (by simp) fun g1 z1 s1=>wpAny_bind ?_)))))
 replace z1:IsZip g1 (N+5) (N+3) (N+4) .ellipsis:=z1
 simp only[List.zipIdx_cons,List.zipIdx_nil,List.forIn_cons,List.forIn_nil]
 refine wpAny_bind (wpAny_bind (wpAny_onRaise (?_:wpAny _ _ (Builtin.SmallTypes.nextOf (.ref N)>>=_) _ _ _)))
 have e1:S1 i g1:=D1.frame _ _ _ h1 fun b hb o e=>(s1.2 b (nin2 hb (by ac_rfl) (by ac_rfl))).trans e
 rcases hi with rfl|⟨i1,hi⟩
 ·refine wpAny_bind (D1.done _ _ _ e1 fun g2 e x2 he=>?_)
  obtain⟨oe,hoe,hce⟩:=he
  have z2:IsZip g2 (N+5) (N+3) (N+4) .ellipsis:=x2 _ _ (ne_ (by ac_rfl)) z1
  have hez:e≠N+5:=fun x=>by subst x;rw[z2]at hoe;cases hoe;simp at hce
  exact wpAny_setField_rec z2 (by simp) fun g3 _ s3=>k g3 e _ (fun c o c1 c2 c3 c4 c5 x=>(s3.2 c c5).trans (x2 c o c1 ((s1.2 c c5).trans x))) ⟨oe,(s3.2 _ hez).trans hoe,hce⟩
 refine wpAny_bind (D1.item i _ _ _ i1 e1 fun x g2 t2 p1 f2 s2=>wpAny_pure ?_)
 have q2:zc6 g2 (N+4) a b c:=(s2.2 _ (ne_ (by ac_rfl))).trans ((s1.2 _ (ne_ (by ac_rfl))).trans hTO)
 refine wpAny_bind (wpAny_seqItems q2 rfl (wpAny_bind (zhq q2 fun g3 q3 s3=>wpAny_bind (wpAny_letGo (wpAny_pure ?_)))))
 replace q3:zc6 g3 (N+4) x b c:=q3
 have k3:∀d o,d≠N->d≠N+4->d≠N+5->s.heap.get? d=some o->g3.get? d=some o:=fun d o c1 c2 c3 e=>(s3.2 d c2).trans ((s2.2 d c1).trans ((s1.2 d c3).trans e))
 have z3:IsZip g3 (N+5) (N+3) (N+4) .ellipsis:=(s3.2 _ (ne_ (by ac_rfl))).trans ((s2.2 _ (ne_ (by ac_rfl))).trans z1)
 refine wpAny_bind (wpAny_bind (wpAny_onRaise (?_:wpAny _ _ (Builtin.SmallTypes.nextOf (.ref (N+1))>>=_) _ _ _)))
 have e3:S2 i g3:=D2.frame _ _ _ h2 fun b hb o e=>k3 b o (nin2 hb (by ac_rfl) (by ac_rfl)) (nin2 hb (by ac_rfl) (by ac_rfl)) (nin2 hb (by ac_rfl) (by ac_rfl)) e
 rcases hi with rfl|⟨i2,rfl⟩
 ·refine wpAny_bind (D2.done _ _ _ e3 fun g4 e x4 he=>?_)
  obtain⟨oe,hoe,hce⟩:=he
  have z4:IsZip g4 (N+5) (N+3) (N+4) .ellipsis:=x4 _ _ (ne_ (by ac_rfl)) z3
  have hez:e≠N+5:=fun x=>by subst x;rw[z4]at hoe;cases hoe;simp at hce
  exact wpAny_setField_rec z4 (by simp) fun g5 _ s5=>k g5 e _ (fun c o c1 c2 c3 c4 c5 x=>(s5.2 c c5).trans (x4 c o c2 (k3 c o c1 c4 c5 x))) ⟨oe,(s5.2 _ hez).trans hoe,hce⟩
 refine wpAny_bind (D2.item i _ _ _ i2 e3 fun y g4 t4 p2 f4 s4=>wpAny_pure ?_)
 have q4:zc6 g4 (N+4) x b c:=(s4.2 _ (ne_ (by ac_rfl))).trans q3
 refine wpAny_bind (wpAny_seqItems q4 rfl (wpAny_bind (zhq q4 fun g5 q5 s5=>wpAny_bind (wpAny_letGo (wpAny_pure ?_)))))
 have z5:IsZip g5 (N+5) (N+3) (N+4) .ellipsis:=(s5.2 _ (ne_ (by ac_rfl))).trans ((s4.2 _ (ne_ (by ac_rfl))).trans z3)
 refine wpAny_bind (wpAny_bind (wpAny_onRaise (?_:wpAny _ _ (Builtin.SmallTypes.nextOf (.ref (N+2))>>=_) _ _ _)))
 have e5:S3 i g5:=D3.frame _ _ _ h3 fun b hb o e=>(s5.2 b (nin2 hb (by ac_rfl) (by ac_rfl))).trans ((s4.2 b (nin2 hb (by ac_rfl) (by ac_rfl))).trans (k3 b o (nin2 hb (by ac_rfl) (by ac_rfl)) (nin2 hb (by ac_rfl) (by ac_rfl)) (nin2 hb (by ac_rfl) (by ac_rfl)) e))
 refine wpAny_bind (D3.done _ _ _ e5 fun g6 e x6 he=>?_)
 obtain⟨oe,hoe,hce⟩:=he
 have z6:IsZip g6 (N+5) (N+3) (N+4) .ellipsis:=x6 _ _ (ne_ (by ac_rfl)) z5
 have hez:e≠N+5:=fun x=>by subst x;rw[z6]at hoe;cases hoe;simp at hce
 exact wpAny_setField_rec z6 (by simp) fun g7 _ s7=>k g7 e _ (fun c o c1 c2 c3 c4 c5 x=>(s7.2 c c5).trans (x6 c o c3 ((s5.2 c c4).trans ((s4.2 c c2).trans (k3 c o c1 c4 c5 x))))) ⟨oe,(s7.2 _ hez).trans hoe,hce⟩
end
end
noncomputable abbrev tup_ (vs:Array Value):Obj:={cls:= .type "tuple",data:= .seq vs}
noncomputable abbrev zip_ (ti to:Addr):Obj:={cls:= .type "zip",data:= .fields #[.none,.bool false,.bool false,.ref ti,.ref to]}
noncomputable abbrev z2a (h:Heap)(t1 t2:Bool)(l1 l2:Addr):Heap:=(h.push (srcO t1 l1)).push (srcO t2 l2)
noncomputable abbrev z2b (h:Heap)(t1 t2:Bool)(l1 l2:Addr):Heap:=(z2a h t1 t2 l1 l2).push (tup_ #[.ref h.objs.size,.ref (h.push (srcO t1 l1)).objs.size])
noncomputable abbrev z2c (h:Heap)(t1 t2:Bool)(l1 l2:Addr):Heap:=(z2b h t1 t2 l1 l2).push (tup_ #[.none,.none])
noncomputable abbrev z2d (h:Heap)(t1 t2:Bool)(l1 l2:Addr):Heap:=(z2c h t1 t2 l1 l2).push (zip_ (z2a h t1 t2 l1 l2).objs.size (z2b h t1 t2 l1 l2).objs.size)
theorem zl5 (t1 t2:Bool)(l1 l2:Addr)(xs ys:Array Value):Meets (Builtin.«zip.__new__» ⟨[.type "zip",.ref l1,.ref l2],[]⟩) (fun _ R s=>SrcH t1 s.heap l1 xs/\SrcH t2 s.heap l2 ys/\
   R (.ok (.ret (.ref (z2c s.heap t1 t2 l1 l2).objs.size))) {s with heap:=z2d s.heap t1 t2 l1 l2}):=
 .of_wp fun prog w A R s h=>by
  obtain⟨hp,g,d,tk,os⟩:=s
  obtain⟨b1,b2,h⟩:=h
  have hsub:=sub_zip
  have L1:SrcH t1 (Shared.heap ⟨hp,g,d,tk,os⟩) l1 xs:=b1
  have L2:SrcH t2 (Shared.heap ⟨hp.push (srcO t1 l1),g,d,tk,os⟩) l2 ys:=SrcH.at b2 fun o e=>Heap.get?_push_of_some _ e
  wp_walk using zbO L1,zbO L2
  exact⟨_,rfl,h⟩
noncomputable abbrev z3a (h:Heap)(t1 t2 t3:Bool)(l1 l2 l3:Addr):Heap:=((h.push (srcO t1 l1)).push (srcO t2 l2)).push (srcO t3 l3)
noncomputable abbrev z3b (h:Heap)(t1 t2 t3:Bool)(l1 l2 l3:Addr):Heap:=(z3a h t1 t2 t3 l1 l2 l3).push (tup_ #[.ref h.objs.size,.ref (h.push (srcO t1 l1)).objs.size,.ref ((h.push (srcO t1 l1)).push (srcO t2 l2)).objs.size])
noncomputable abbrev z3c (h:Heap)(t1 t2 t3:Bool)(l1 l2 l3:Addr):Heap:=(z3b h t1 t2 t3 l1 l2 l3).push (tup_ #[.none,.none,.none])
noncomputable abbrev z3d (h:Heap)(t1 t2 t3:Bool)(l1 l2 l3:Addr):Heap:=(z3c h t1 t2 t3 l1 l2 l3).push (zip_ (z3a h t1 t2 t3 l1 l2 l3).objs.size (z3b h t1 t2 t3 l1 l2 l3).objs.size)
set_option maxHeartbeats 4000000 in
theorem zmp (t1 t2 t3:Bool)(l1 l2 l3:Addr)(xs ys zs:Array Value):Meets (Builtin.«zip.__new__» ⟨[.type "zip",.ref l1,.ref l2,.ref l3],[]⟩) (fun _ R s=>SrcH t1 s.heap l1 xs/\SrcH t2 s.heap l2 ys/\SrcH t3 s.heap l3 zs/\
   R (.ok (.ret (.ref (z3c s.heap t1 t2 t3 l1 l2 l3).objs.size))) {s with heap:=z3d s.heap t1 t2 t3 l1 l2 l3}):=
 .of_wp fun prog w A R s h=>by
  obtain⟨hp,g,d,tk,os⟩:=s
  obtain⟨b1,b2,b3,h⟩:=h
  have hsub:=sub_zip
  have L1:SrcH t1 (Shared.heap ⟨hp,g,d,tk,os⟩) l1 xs:=b1
  have L2:SrcH t2 (Shared.heap ⟨hp.push (srcO t1 l1),g,d,tk,os⟩) l2 ys:=SrcH.at b2 fun o e=>Heap.get?_push_of_some _ e
  have L3:SrcH t3 (Shared.heap ⟨(hp.push (srcO t1 l1)).push (srcO t2 l2),g,d,tk,os⟩) l3 zs:=SrcH.at b3 fun o e=>Heap.get?_push_of_some _ (Heap.get?_push_of_some _ e)
  wp_walk using zbO L1,zbO L2,zbO L3
  exact⟨_,rfl,h⟩
theorem ziY (a b c:Value):checkTypeCall "zip" ⟨[a,b,c],[]⟩=pure ():=by kernel_rfl
theorem zkg (a b c:Value):checkBuiltinCall "zip.__new__" ⟨[.type "zip",a,b,c],[]⟩=pure ():=by kernel_rfl
theorem zmh (a b c d:Value):argsOk "object.__init__" ⟨[a,b,c,d],[]⟩:=by
 unfold argsOk;rw[signature?_of (id:="object.__init__") (n:=['_','_','t','i','n','i','_','_']) (o:=['t','c','e','j','b','o']) (by kernel_rfl) F.owner_object];kernel_rfl
section
variable {prog:Program} {w:World} {A:Around} {E:Value->Shared->Prop} {s:Shared}
theorem znD {t1 t2:Bool}{l1 l2:Addr}(h1:SrcH t1 s.heap l1 xs)(h2:SrcH t2 s.heap l2 ys)
  (k : ∀ h', IsZip h' (s.heap.objs.size + 4) (s.heap.objs.size + 2) (s.heap.objs.size + 3) .none -> IsPair h' (s.heap.objs.size + 2) (.ref s.heap.objs.size) (.ref (s.heap.objs.size + 1)) ->
   IsPair h' (s.heap.objs.size+3) .none .none->SrcIt t1 h' s.heap.objs.size l1 0->SrcIt t2 h' (s.heap.objs.size+1) l2 0->
   (∀c o,s.heap.get? c=some o->h'.get? c=some o)->Q (.ref (s.heap.objs.size+4)) {s with heap:=h'}):wpAny (model prog w) A (call (.type "zip") [.ref l1,.ref l2]) Q E s:=by
 refine callType_new F.called_zip (by decide) (F.typeCall_zip_2 _ _) (F.newCall_zip_2 _ _) (fun obj=>F.args_object_init_3 obj _ _) F.entry_zip_new (zl5 t1 t2 l1 l2 xs ys) ⟨h1,h2,(?_:_/\_)⟩
 have y1:(s.heap.push (srcO t1 l1)).objs.size=s.heap.objs.size+1:=Heap.size_push ..
 have y2:(z2a s.heap t1 t2 l1 l2).objs.size=s.heap.objs.size+2:=by rw[Heap.size_push,y1]
 have y3:(z2b s.heap t1 t2 l1 l2).objs.size=s.heap.objs.size+3:=by rw[Heap.size_push,y2]
 have y4:(z2c s.heap t1 t2 l1 l2).objs.size=s.heap.objs.size+4:=by rw[Heap.size_push,y3]
 have g5:(z2d s.heap t1 t2 l1 l2).get? (z2c s.heap t1 t2 l1 l2).objs.size=some _:=Heap.get?_push_size _ rfl
 have g4:(z2d s.heap t1 t2 l1 l2).get? (z2b s.heap t1 t2 l1 l2).objs.size=some _:=Heap.get?_push_of_some _ (Heap.get?_push_size _ rfl)
 have g3:(z2d s.heap t1 t2 l1 l2).get? (z2a s.heap t1 t2 l1 l2).objs.size=some _:=Heap.get?_push_of_some _ (Heap.get?_push_of_some _ (Heap.get?_push_size _ rfl))
 have g2:(z2d s.heap t1 t2 l1 l2).get? (s.heap.push (srcO t1 l1)).objs.size=some (srcO t2 l2):=Heap.get?_push_of_some _ (Heap.get?_push_of_some _ (Heap.get?_push_of_some _ (Heap.get?_push_size _ (zdG ..))))
 have g1:(z2d s.heap t1 t2 l1 l2).get? s.heap.objs.size=some (srcO t1 l1):=Heap.get?_push_of_some _ (Heap.get?_push_of_some _ (Heap.get?_push_of_some _ (Heap.get?_push_of_some _ (Heap.get?_push_size _ (zdG ..)))))
 rw[y2,y3,y4]at g5
 rw[y1,y2]at g3
 rw[y3]at g4
 rw[y1]at g2
 rw[y4]
 exact⟨⟨_,g5,rfl⟩,k _ g5 g3 g4 (zgw g1) (zgw g2) fun c o x=>Heap.get?_push_of_some _ (Heap.get?_push_of_some _ (Heap.get?_push_of_some _ (Heap.get?_push_of_some _ (Heap.get?_push_of_some _ x))))⟩
theorem znb {t1 t2 t3:Bool}{l1 l2 l3:Addr}{xs ys zs:Array Value}(h1:SrcH t1 s.heap l1 xs)(h2:SrcH t2 s.heap l2 ys)(h3:SrcH t3 s.heap l3 zs)
  (k : ∀ h', IsZip h' (s.heap.objs.size + 5) (s.heap.objs.size + 3) (s.heap.objs.size + 4) .none -> zc6 h' (s.heap.objs.size + 3) (.ref s.heap.objs.size) (.ref (s.heap.objs.size + 1)) (.ref (s.heap.objs.size + 2)) ->
   zc6 h' (s.heap.objs.size+4) .none .none .none->SrcIt t1 h' s.heap.objs.size l1 0->SrcIt t2 h' (s.heap.objs.size+1) l2 0->SrcIt t3 h' (s.heap.objs.size+2) l3 0->
   (∀c o,s.heap.get? c=some o->h'.get? c=some o)->Q (.ref (s.heap.objs.size+5)) {s with heap:=h'}):wpAny (model prog w) A (call (.type "zip") [.ref l1,.ref l2,.ref l3]) Q E s:=by
 refine callType_new F.called_zip (by decide) (ziY _ _ _) (zkg _ _ _) (fun obj=>zmh obj _ _ _) F.entry_zip_new (zmp t1 t2 t3 l1 l2 l3 xs ys zs) ⟨h1,h2,h3,(?_:_/\_)⟩
 have y1:(s.heap.push (srcO t1 l1)).objs.size=s.heap.objs.size+1:=Heap.size_push ..
 have y2:((s.heap.push (srcO t1 l1)).push (srcO t2 l2)).objs.size=s.heap.objs.size+2:=by rw[Heap.size_push,y1]
 have y3:(z3a s.heap t1 t2 t3 l1 l2 l3).objs.size=s.heap.objs.size+3:=by rw[Heap.size_push,y2]
 have y4:(z3b s.heap t1 t2 t3 l1 l2 l3).objs.size=s.heap.objs.size+4:=by rw[Heap.size_push,y3]
 have y5:(z3c s.heap t1 t2 t3 l1 l2 l3).objs.size=s.heap.objs.size+5:=by rw[Heap.size_push,y4]
 have g6:(z3d s.heap t1 t2 t3 l1 l2 l3).get? (z3c s.heap t1 t2 t3 l1 l2 l3).objs.size=some _:=Heap.get?_push_size _ rfl
 have g5:(z3d s.heap t1 t2 t3 l1 l2 l3).get? (z3b s.heap t1 t2 t3 l1 l2 l3).objs.size=some _:=Heap.get?_push_of_some _ (Heap.get?_push_size _ rfl)
 have g4:(z3d s.heap t1 t2 t3 l1 l2 l3).get? (z3a s.heap t1 t2 t3 l1 l2 l3).objs.size=some _:=Heap.get?_push_of_some _ (Heap.get?_push_of_some _ (Heap.get?_push_size _ rfl))
 have g3:(z3d s.heap t1 t2 t3 l1 l2 l3).get? ((s.heap.push (srcO t1 l1)).push (srcO t2 l2)).objs.size=some (srcO t3 l3):=Heap.get?_push_of_some _ (Heap.get?_push_of_some _ (Heap.get?_push_of_some _ (Heap.get?_push_size _ (zdG ..))))
 have g2:(z3d s.heap t1 t2 t3 l1 l2 l3).get? (s.heap.push (srcO t1 l1)).objs.size=some (srcO t2 l2):=Heap.get?_push_of_some _ (Heap.get?_push_of_some _ (Heap.get?_push_of_some _ (Heap.get?_push_of_some _ (Heap.get?_push_size _ (zdG ..)))))
 have g1:(z3d s.heap t1 t2 t3 l1 l2 l3).get? s.heap.objs.size=some (srcO t1 l1):=Heap.get?_push_of_some _ (Heap.get?_push_of_some _ (Heap.get?_push_of_some _ (Heap.get?_push_of_some _ (Heap.get?_push_of_some _ (Heap.get?_push_size _ (zdG ..))))))
 rw[y3,y4,y5]at g6
 rw[y1,y2,y3]at g4
 rw[y4]at g5
 rw[y2]at g3
 rw[y1]at g2
 rw[y5]
 exact⟨⟨_,g6,rfl⟩,k _ g6 g4 g5 (zgw g1) (zgw g2) (zgw g3) fun c o x=>Heap.get?_push_of_some _ (Heap.get?_push_of_some _ (Heap.get?_push_of_some _ (Heap.get?_push_of_some _ (Heap.get?_push_of_some _ (Heap.get?_push_of_some _ x)))))⟩
noncomputable abbrev en_ (it:Addr):Obj:={cls:= .type "enumerate",data:= .fields #[.none,.bool false,.ref it,rawInt 0,.none,.none]}
theorem zmr (t:Bool)(l:Addr)(o:Obj)(xs:Array Value):Meets (Builtin.«enumerate.__new__» ⟨[.type "enumerate",.ref l],[]⟩) (fun _ R s=>s.heap.get? l=some o/\SrcH t s.heap l xs/\
   R (.ok (.ret (.ref (s.heap.push (srcO t l)).objs.size))) {s with heap:=(s.heap.push (srcO t l)).push (en_ s.heap.objs.size)}):=
 .of_wp fun prog w A R s h=>by
  obtain⟨hp,g,d,tk,os⟩:=s
  obtain⟨hl,b,h⟩:=h
  have hsub:=sub_enumerate
  have hL:SrcH t (Shared.heap ⟨hp,g,d,tk,os⟩) l xs:=b
  wp_walk using AutoSeq1.wpAny_loadPart' hl
  refine wpAny_stack_any fun st=>wpAny_pure ?_
  split
  ·rename_i c _ _ _ _ _
   cases(c==Value.type "enumerate")<;>(wp_walk using AutoSeq1.wpAny_loadPart' hl,zbO hL;exact⟨_,rfl,h⟩)
  ·wp_walk using AutoSeq1.wpAny_loadPart' hl,zbO hL
   exact⟨_,rfl,h⟩
theorem zn4 (h1:SrcH t s.heap l xs)
  (k:∀h',IsEnum h' (s.heap.objs.size+1) s.heap.objs.size 0 .none->SrcIt t h' s.heap.objs.size l 0->(∀b o,s.heap.get? b=some o->h'.get? b=some o)->Q (.ref (s.heap.objs.size+1)) {s with heap:=h'}):
  wpAny (model prog w) A (call (.type "enumerate") [.ref l]) Q E s:=by
 have⟨o,ho⟩:∃o,s.heap.get? l=some o:=by cases t<;>(obtain⟨o,e,-⟩:=h1;exact⟨o,e⟩)
 refine callType_new F.called_enumerate (by decide) (F.typeCall_enumerate_1 _) (F.newCall_enumerate_1 _) (fun obj=>F.args_object_init_2 obj _) F.entry_enumerate_new (zmr t l o xs) ⟨ho,h1,(?_:_/\_)⟩
 have y1:(s.heap.push (srcO t l)).objs.size=s.heap.objs.size+1:=Heap.size_push ..
 have g2:((s.heap.push (srcO t l)).push (en_ s.heap.objs.size)).get? (s.heap.push (srcO t l)).objs.size=some _:=Heap.get?_push_size _ rfl
 have g1:((s.heap.push (srcO t l)).push (en_ s.heap.objs.size)).get? s.heap.objs.size=some (srcO t l):=Heap.get?_push_of_some _ (Heap.get?_push_size _ (zdG ..))
 rw[y1]at g2
 rw[y1]
 exact⟨⟨_,g2,rfl⟩,k _ g2 (zgw g1) fun b o x=>Heap.get?_push_of_some _ (Heap.get?_push_of_some _ x)⟩
end
end M
namespace M
local macro_rules | `(tactic| ac_rfl) => `(tactic| first | exact M.nA (by decide) | exact M.nB (by decide) | exact M.nC (by decide) | exact M.nL (by assumption) | exact Nat.ne_of_lt (by assumption) | lia)
open L2 PySem PySem.Spec
open PyProof.Rows hiding St
open Sem (wp)
variable {t' ek:Nat} {h':Heap} {fp:List Addr} {vs xs:List V} {its:List Value} {t:Bool} {X:Cx} {pins:List (Addr×Obj)} {σ:St} {H:Hp} {s:Shared} {a:Expr} {K:W.Frag} {elts:List Expr} {ep p pos:Pos} {ta:TA} {es:List D} {ma:MA}
section
variable {X:Cx} {pins:List (Addr×Obj)} {σ:St} {H:Hp} {s:Shared}
theorem zi6 (I:Inv X pins σ H s)(k:∀b o,b∉fp->s.heap.get? b=some o->h'.get? b=some o)(hf:∀b∈fp,FpOk X pins H b):Inv X pins σ H {s with heap:=h',toks:=t'}:=by
 have nit:∀b u,H b=some u->b∉fp:=fun b u e z=>by rw[(hf b z).1]at e;cases e
 refine I.step (g':=s.gens) (d':=s.drawn) (ch:=fp) (fun b hb=>?_) (fun b o _ _ hc e _=>k b o hc e) (fun b o _ _ hc e _=>⟨o.slots,k b o hc e⟩) (fun _ _ _ _ n=>n)
  (fun b o hc e=>⟨o,k b o hc e⟩) (fun _ _ e=>e) (fun _ _ _ e=>e) (fun b ps e=>⟨#[],by rw[e];simp⟩) (fun m hm=>?_) (fun b u e=>?_) I.bare
 ·obtain⟨f0,f1,f2,f3,f4,f5⟩:=hf b hb
  exact⟨f3,f1,f4,f5⟩
 ·obtain⟨o,es,ep,ho,r⟩:=hm
  exact⟨o,es,ep,k _ o (fun z=>(hf _ z).2.1 rfl) ho,r⟩
 ·refine(I.hok b u e).stay (fun c v hc q=>k c v ?_ q) (fun _ q=>q) fun _ _ q=>q
  rcases hc with z|z
  ·rw[z];exact nit b u e
  ·exact nit c _ z
theorem zkL {t':Nat}{h':Heap}{fp:List Addr}(I:Inv X pins σ H s)(k:∀b o,b∉fp->s.heap.get? b=some o->h'.get? b=some o)(hf:∀b∈fp,FpOk X pins H b)(hl:∀b∈fp,b<s.heap.objs.size)
  (hT:h'.get? s.heap.objs.size=some (tup_ its.toArray)) (hz:vs.length<=sizeLine) (r:Vals vs its):Inv X pins σ (upd H s.heap.objs.size (.tup vs)) {s with heap:=h',toks:=t'}:=by
 have I1:=I.laid (t':=s.toks) (a:=s.heap.objs.size) (o:= .tup vs) (h':=s.heap.push (tup_ its.toArray)) (fun b u q=>Heap.get?_push_of_some _ q) (Nat.le_refl _) ⟨hz,its,r,IsTup.new _ _⟩
 refine zi6 (s:={s with heap:=s.heap.push (tup_ its.toArray),toks:=s.toks}) (t':=t') (fp:=fp) I1 (fun b o hb e=>?_) fun b hb=>?_
 ·have e':(s.heap.push (tup_ its.toArray)).get? b=some o:=e
  rcases Heap.get?_push_cases e' with⟨rfl,rfl⟩|q
  ·exact hT
  ·exact k b o hb q
 ·obtain⟨f0,fr⟩:=hf b hb
  refine⟨?_,fr⟩
  rw[zaA (Nat.ne_of_lt (hl b hb))]
  exact f0
end
noncomputable def SrcSq (t:Bool)(K:W.Frag)(H:Hp)(a:Addr)(xs:List V):Prop:=match t with
 |true=>SqT K H a xs
 |false=>SqL K H a xs
theorem SrcSq.heap {a:Addr}(I:Inv X pins σ H s)(h:SrcSq t X.K H a xs):∃its:List Value,Vals xs its/\SrcH t s.heap a its.toArray/\xs.length<=sizeLine:=by
 cases t
 ·obtain⟨its,r,p,z⟩:=I.list h
  exact⟨its,r,p.isList,z⟩
 ·obtain⟨its,r,p,z⟩:=I.tuple h
  exact⟨its,r,p,z⟩
theorem SrcSq.inj {a:Addr}{xs ys:List V}(I:Inv X pins σ H s)(h:SrcSq t X.K H a xs)(h':SrcSq t X.K H a ys):xs=ys:=by
 cases t
 ·exact I.list_inj h h'
 ·exact I.tuple_inj h h'
noncomputable def Itz2 (K:W.Frag)(t1:Bool)(a1:Addr)(t2:Bool)(a2:Addr)(n:Nat):It where
 go:=fun i H=>i<n/\∃xs ys,SrcSq t1 K H a1 xs/\SrcSq t2 K H a2 ys/\n=min xs.length ys.length
 yld:=fun i H x H'=>∃p x1 x2,H p=none/\H'=upd H p (.tup [x1,x2])/\x= .ref p/\∀xs ys,SrcSq t1 K H a1 xs->SrcSq t2 K H a2 ys->xs[i]? =some x1/\ys[i]? =some x2
 stop:=fun i H=>n<=i/\∃xs ys,SrcSq t1 K H a1 xs/\SrcSq t2 K H a2 ys/\n=min xs.length ys.length
theorem nin4 {c N:Nat}(h:c∉([N,N+1,N+2,N+3,N+4]:List Nat)):c≠N/\c≠N+1/\c≠N+3/\c≠N+4:=
 ⟨fun e=>h (e ▸ .head _),fun e=>h (e ▸ .tail _ (.head _)),fun e=>h (e ▸ .tail _ (.tail _ (.tail _ (.head _)))),fun e=>h (e ▸ .tail _ (.tail _ (.tail _ (.tail _ (.head _)))))⟩
theorem nin5 {c N:Nat}(h:c∉([N,N+1,N+2,N+3,N+4,N+5]:List Nat)):c≠N/\c≠N+1/\c≠N+2/\c≠N+4/\c≠N+5:=
 ⟨fun e=>h (e ▸ .head _),fun e=>h (e ▸ .tail _ (.head _)),fun e=>h (e ▸ .tail _ (.tail _ (.head _))),fun e=>h (e ▸ .tail _ (.tail _ (.tail _ (.tail _ (.head _))))),fun e=>h (e ▸ .tail _ (.tail _ (.tail _ (.tail _ (.tail _ (.head _))))))⟩
noncomputable def Itz3 (K:W.Frag)(t1:Bool)(a1:Addr)(t2:Bool)(a2:Addr)(t3:Bool)(a3:Addr)(n:Nat):It where
 go:=fun i H=>i<n/\∃xs ys zs,SrcSq t1 K H a1 xs/\SrcSq t2 K H a2 ys/\SrcSq t3 K H a3 zs/\n=min xs.length (min ys.length zs.length)
 yld:=fun i H x H'=>∃p x1 x2 x3,H p=none/\H'=upd H p (.tup [x1,x2,x3])/\x= .ref p/\∀xs ys zs,SrcSq t1 K H a1 xs->SrcSq t2 K H a2 ys->SrcSq t3 K H a3 zs->xs[i]? =some x1/\ys[i]? =some x2/\zs[i]? =some x3
 stop:=fun i H=>n<=i/\∃xs ys zs,SrcSq t1 K H a1 xs/\SrcSq t2 K H a2 ys/\SrcSq t3 K H a3 zs/\n=min xs.length (min ys.length zs.length)
theorem zof {P:Program}{w:World}(t1:Bool)(a1:Nat)(t2:Bool)(a2:Nat)(t3:Bool)(a3:Nat)(n N:Nat)(l1:a1<N)(l2:a2<N)(l3:a3<N):
  Turn P w K (.Tuple elts ek ep) (Itz3 K t1 a1 t2 a2 t3 a3 n) ([N,N+1,N+2,N+3,N+4,N+5]:List Nat) (N+5:Nat)
   (fun i h=>i<=n/\IsZip h (N+5:Nat) (N+3:Nat) (N+4:Nat) .none/\zc6 h (N+3:Nat) (.ref N) (.ref (N+1:Nat)) (.ref (N+2:Nat))/\(∃a b c,zc6 h (N+4:Nat) a b c)/\SrcIt t1 h N a1 i/\SrcIt t2 h (N+1:Nat) a2 i/\SrcIt t3 h (N+2:Nat) a3 i) where
 mem:=by simp
 obj:=fun i h st b hb=>by
  obtain⟨-,h5,h3,⟨a,c,d,h4⟩,h0,h1,h2⟩:=st
  simp only[List.mem_cons,List.not_mem_nil,or_false]at hb
  rcases hb with rfl|rfl|rfl|rfl|rfl|rfl
  ·exact h0.obj
  ·exact h1.obj
  ·exact h2.obj
  ·exact⟨_,h3,fun v z=>by cases z⟩
  ·exact⟨_,h4,fun v z=>by cases z⟩
  ·exact⟨_,h5,fun v z=>by cases z⟩
 keep:=fun i h h' st k=>by
  obtain⟨hi,h5,h3,⟨a,c,d,h4⟩,h0,h1,h2⟩:=st
  exact⟨hi,k _ (by simp) _ h5,k _ (by simp) _ h3,⟨a,c,d,k _ (by simp) _ h4⟩,h0.at fun o e=>k _ (by simp) o e,h1.at fun o e=>k _ (by simp) o e,h2.at fun o e=>k _ (by simp) o e⟩
 item:=by
  intro X hP hw hK hc i pins s σ H E I hf st hg
  subst hP hw hK
  obtain⟨hi,h5,h3,⟨a,c,d,h4⟩,h0,h1,h2⟩:=st
  obtain⟨hn,xs,ys,zs,q1,q2,q3,en⟩:=hg
  obtain⟨us,ru,hu,zu⟩:=q1.heap I
  obtain⟨ws,rw',hw',zw⟩:=q2.heap I
  obtain⟨os,ro,ho',zo⟩:=q3.heap I
  have lu:=ru.length
  have lw:=rw'.length
  have lo:=ro.length
  have D1:=za4 (prog:=X.prog) (w:=X.w) (A:=X.A.in1) (t:=t1) (I.ok.hd hc) N a1 (ne_ (by ac_rfl)) us.toArray
  have D2:=za4 (prog:=X.prog) (w:=X.w) (A:=X.A.in1) (t:=t2) (I.ok.hd hc) (N+1) a2 (ne_ (by ac_rfl)) ws.toArray
  have D3:=za4 (prog:=X.prog) (w:=X.w) (A:=X.A.in1) (t:=t3) (I.ok.hd hc) (N+2) a3 (ne_ (by ac_rfl)) os.toArray
  have hT:s.TypeIs (.ref (N+5:Nat)) "zip":=⟨_,h5,rfl⟩
  unfold pyNext
  refine wpAny_bind (wpAny_attempt (wpAny_callSpecial?_slot (name:=Str.ofString "__next__") hT F.slot_zip_next (wpAny_call_entry F.slot_zip_next hT F.entry_zip_next
   (zot D1 D2 D3 l1 l2 l3 h5 h3 h4 ⟨h0,hu⟩ ⟨h1,hw'⟩ ⟨h2,ho'⟩ (by simp;lia) (by simp;lia) (by simp;lia) fun x y z h' tk p1 p2 p3 g5 g4 g0 g1 g2 gT kk=>wpAny_pure ?_) (F.args_zip_next_1 _))))
  obtain⟨x1,hx1⟩:∃x1,xs[i]? =some x1:=⟨xs[i]'(by lia),List.getElem?_eq_getElem _⟩
  obtain⟨x2,hx2⟩:∃x2,ys[i]? =some x2:=⟨ys[i]'(by lia),List.getElem?_eq_getElem _⟩
  obtain⟨x3,hx3⟩:∃x3,zs[i]? =some x3:=⟨zs[i]'(by lia),List.getElem?_eq_getElem _⟩
  obtain⟨u1,hu1,r1⟩:=ru.get hx1
  obtain⟨u2,hu2,r2⟩:=rw'.get hx2
  obtain⟨u3,hu3,r3⟩:=ro.get hx3
  have e1:u1=x:=by
   have:us[i]? =some x:=by simpa using p1
   rw[hu1]at this;cases this;rfl
  have e2:u2=y:=by
   have:ws[i]? =some y:=by simpa using p2
   rw[hu2]at this;cases this;rfl
  have e3:u3=z:=by
   have:os[i]? =some z:=by simpa using p3
   rw[hu3]at this;cases this;rfl
  subst e1 e2 e3
  refine⟨_,rfl,wpAny_letOwnedTupleGo_zip (s:={s with heap:=h',toks:=tk}) g5 fun h'' g5' sb=>?_⟩
  replace sb:Heap.SameBut (N+5:Nat) h' h'':=sb
  have lz:N+5<s.heap.objs.size:=Heap.lt_size h5
  have kk':∀b o,b∉([N,N+1,N+2,N+3,N+4,N+5]:List Nat)->s.heap.get? b=some o->h''.get? b=some o:=fun b o hb e=>by
   obtain⟨c1,c2,c3,c4,c5⟩:=nin5 hb
   exact(sb.2 b c5).trans (kk b o c1 c2 c3 c4 c5 e)
  have I1:=zkL (t':=tk) (vs:=[x1,x2,x3]) (its:=[u1,u2,u3]) I kk' hf (fun b hb=>by
   have:b=N\/b=N+1\/b=N+2\/b=N+3\/b=N+4\/b=N+5:=by simpa using hb
   exact Nat.lt_of_le_of_lt (show(b:Nat)<=N+5 by rcases this with h|h|h|h|h|h<;>rw[h]<;>simp) lz) ((sb.2 _ (ne_ (by ac_rfl))).trans gT) (by simp;rw[sizeLine_eq];decide) (.cons r1 (.cons r2 (.cons r3 .nil)))
  refine⟨.ref s.heap.objs.size,_,I1,rfl,⟨_,x1,x2,x3,I.hok.fresh (Nat.le_refl _),rfl,rfl,fun xs' ys' zs' b1 b2 b3=>?_⟩,⟨hn,g5',(sb.2 _ (ne_ (by ac_rfl))).trans (kk _ _ (ne_ (by ac_rfl)) (ne_ (by ac_rfl)) (ne_ (by ac_rfl)) (ne_ (by ac_rfl)) (ne_ (by ac_rfl)) h3),⟨_,_,_,(sb.2 _ (ne_ (by ac_rfl))).trans g4⟩,SrcIt.at g0.1 fun o e=>(sb.2 _ (ne_ (by ac_rfl))).trans e,SrcIt.at g1.1 fun o e=>(sb.2 _ (ne_ (by ac_rfl))).trans e,SrcIt.at g2.1 fun o e=>(sb.2 _ (ne_ (by ac_rfl))).trans e⟩,fun b hb=>?_⟩
  ·rw[SrcSq.inj I b1 q1,SrcSq.inj I b2 q2,SrcSq.inj I b3 q3]
   exact⟨hx1,hx2,hx3⟩
  ·have:b=N\/b=N+1\/b=N+2\/b=N+3\/b=N+4\/b=N+5:=by simpa using hb
   rw[zaA (Nat.ne_of_lt (Nat.lt_of_le_of_lt (show(b:Nat)<=N+5 by rcases this with h|h|h|h|h|h<;>rw[h]<;>simp) lz))]
   exact(hf b hb).1
 done:=by
  intro X hP hw hK hc i pins s σ H E I hf st hg
  subst hP hw hK
  obtain⟨hi,h5,h3,⟨a,c,d,h4⟩,h0,h1,h2⟩:=st
  obtain⟨hn,xs,ys,zs,q1,q2,q3,en⟩:=hg
  obtain⟨us,ru,hu,zu⟩:=q1.heap I
  obtain⟨ws,rw',hw',zw⟩:=q2.heap I
  obtain⟨os,ro,ho',zo⟩:=q3.heap I
  have lu:=ru.length
  have lw:=rw'.length
  have lo:=ro.length
  have D1:=za4 (prog:=X.prog) (w:=X.w) (A:=X.A.in1) (t:=t1) (I.ok.hd hc) N a1 (ne_ (by ac_rfl)) us.toArray
  have D2:=za4 (prog:=X.prog) (w:=X.w) (A:=X.A.in1) (t:=t2) (I.ok.hd hc) (N+1) a2 (ne_ (by ac_rfl)) ws.toArray
  have D3:=za4 (prog:=X.prog) (w:=X.w) (A:=X.A.in1) (t:=t3) (I.ok.hd hc) (N+2) a3 (ne_ (by ac_rfl)) os.toArray
  have hT:s.TypeIs (.ref (N+5:Nat)) "zip":=⟨_,h5,rfl⟩
  unfold pyNext
  refine wpAny_bind (wpAny_attempt (wpAny_callSpecial?_slot (name:=Str.ofString "__next__") hT F.slot_zip_next (wpAny_call_entry F.slot_zip_next hT F.entry_zip_next
   (zip3_end D1 D2 D3 l1 l2 l3 h5 h3 h4 ⟨h0,hu⟩ ⟨h1,hw'⟩ ⟨h2,ho'⟩ (by simp;lia) fun h' e tk kk he=>?_) (F.args_zip_next_1 _))))
  obtain⟨o,ho,hce⟩:=he
  refine wpAny_bind (wpAny_isInstance (T:="StopIteration") (b:=true) ⟨o,ho,hce⟩ isSubtype_stop (wpAny_pure ⟨rfl,zi6 I (fun b o hb e=>?_) hf⟩))
  obtain⟨c1,c2,c3,c4,c5⟩:=nin5 hb
  exact kk b o c1 c2 c3 c4 c5 e
 self:=fun _ _ _ _ _ st h=>wpAny_pyIter_zip st.2.1 h
noncomputable def Ite (K:W.Frag)(t1:Bool)(a1:Addr)(n:Nat):It where
 go:=fun i H=>i<n/\∃xs,SrcSq t1 K H a1 xs/\n=xs.length
 yld:=fun i H x H'=>∃p x1,H p=none/\H'=upd H p (.tup [.int i,x1])/\x= .ref p/\∀xs,SrcSq t1 K H a1 xs->xs[i]? =some x1
 stop:=fun i H=>n<=i/\∃xs,SrcSq t1 K H a1 xs/\n=xs.length
theorem zog {P:Program}{w:World}(t1:Bool)(a1:Nat)(n N:Nat)(l1:a1<N):
  Turn P w K (.Tuple elts ek ep) (Ite K t1 a1 n) ([N+1,N]:List Nat) (N+1:Nat) (fun i h=>i<=n/\(∃old,IsEnum h (N+1:Nat) N i old)/\SrcIt t1 h N a1 i) where
 mem:=by simp
 obj:=fun i h st b hb=>by
  obtain⟨-,⟨old,h1⟩,h0⟩:=st
  simp only[List.mem_cons,List.not_mem_nil,or_false]at hb
  rcases hb with rfl|rfl
  ·exact⟨_,h1,fun v z=>by cases z⟩
  ·exact h0.obj
 keep:=fun i h h' st k=>by
  obtain⟨hi,⟨old,h1⟩,h0⟩:=st
  exact⟨hi,⟨old,k _ (by simp) _ h1⟩,h0.at fun o e=>k _ (by simp) o e⟩
 item:=by
  intro X hP hw hK hc i pins s σ H E I hf st hg
  subst hP hw hK
  obtain⟨hi,⟨old,h1⟩,h0⟩:=st
  obtain⟨hn,xs,q1,en⟩:=hg
  obtain⟨us,ru,hu,zu⟩:=q1.heap I
  have lu:=ru.length
  have D1:=za4 (prog:=X.prog) (w:=X.w) (A:=X.A.in1) (t:=t1) (I.ok.hd hc) N a1 (ne_ (by ac_rfl)) us.toArray
  refine wpAny_pyNext_enum_itemD D1 h1 ⟨h0,hu⟩ (by simp;lia) (ne_ (by ac_rfl)) (fun z=>nin2 (z:=N+1) z (by lia) (by lia) rfl) fun x h' tk p1 ho g0 gT gz kk=>?_
  obtain⟨x1,hx1⟩:∃x1,xs[i]? =some x1:=⟨xs[i]'(by lia),List.getElem?_eq_getElem _⟩
  obtain⟨u1,hu1,r1⟩:=ru.get hx1
  have e1:u1=x:=by
   have:us[i]? =some x:=by simpa using p1
   rw[hu1]at this;cases this;rfl
  subst e1
  refine⟨_,rfl,wpAny_letOwnedTupleGo_enum (s:={s with heap:=h',toks:=tk+1}) ho fun h'' he' sb=>?_⟩
  replace sb:Heap.SameBut (N+1:Nat) h' h'':=sb
  have lz:N+1<s.heap.objs.size:=Heap.lt_size h1
  have kk':∀b o,b∉([N+1,N]:List Nat)->s.heap.get? b=some o->h''.get? b=some o:=fun b o hb e=>
   (sb.2 b fun z=>hb (by simp[z])).trans (kk b o (fun z=>hb (by simp[z])) (fun z=>hb (by simp[z])) e)
  have I1:=zkL (t':=tk+1) (vs:=[.int i,x1]) (its:=[.int i tk,u1]) I kk' hf (fun b hb=>by
   have:b=N+1\/b=N:=by simpa using hb
   exact Nat.lt_of_le_of_lt (show(b:Nat)<=N+1 by rcases this with h|h<;>rw[h]<;>simp) lz) ((sb.2 _ (ne_ (by ac_rfl))).trans gT) (by simp;rw[sizeLine_eq];decide) (.cons ⟨_,rfl⟩ (.cons r1 .nil))
  refine⟨.ref s.heap.objs.size,_,I1,rfl,⟨_,x1,I.hok.fresh (Nat.le_refl _),rfl,rfl,fun xs' b1=>?_⟩,⟨hn,⟨_,by simpa using he'⟩,SrcIt.at g0.1 fun o e=>(sb.2 _ (ne_ (by ac_rfl))).trans e⟩,fun b hb=>?_⟩
  ·rw[SrcSq.inj I b1 q1]
   exact hx1
  ·have:b=N+1\/b=N:=by simpa using hb
   rw[zaA (Nat.ne_of_lt (Nat.lt_of_le_of_lt (show(b:Nat)<=N+1 by rcases this with h|h<;>rw[h]<;>simp) lz))]
   exact(hf b hb).1
 done:=by
  intro X hP hw hK hc i pins s σ H E I hf st hg
  subst hP hw hK
  obtain⟨hi,⟨old,h1⟩,h0⟩:=st
  obtain⟨hn,xs,q1,en⟩:=hg
  obtain⟨us,ru,hu,zu⟩:=q1.heap I
  have lu:=ru.length
  have D1:=za4 (prog:=X.prog) (w:=X.w) (A:=X.A.in1) (t:=t1) (I.ok.hd hc) N a1 (ne_ (by ac_rfl)) us.toArray
  have W:=WalksT.enumerateD D1 (N+1:Nat) (ne_ (by ac_rfl)) (fun z=>nin2 (z:=N+1) z (by lia) (by lia) rfl) (by simp)
  have ei:i=us.toArray.size:=by simp;lia
  subst ei
  exact W.done s _ _ ⟨⟨old,h1⟩,h0,hu⟩ fun h' tk kk=>⟨rfl,zi6 I kk hf⟩
 self:=fun _ _ _ _ _ st h=>by
  obtain⟨hi,⟨old,h1⟩,h0⟩:=st
  exact wpAny_pyIter_enum h1 h
theorem zlO:bootBuiltins "zip"=some (.type "zip"):=by decide+kernel
theorem zh6:bootBuiltins "enumerate"=some (.type "enumerate"):=by decide+kernel
section
variable {X:Cx} {elts:List Expr} {ek:Nat} {ep:Pos}
theorem pi_zip3 {a b c:Expr}(hg:Gl X "zip")(hm:X.mg "zip"=none)(ha:PA X [a,b,c] ta)(hs:autoParam (starEach [a,b,c] X.env=(false,eval a X.env)::starEach [b,c] X.env) zu2._auto_1)(hs2:autoParam ((backTo pos (starEach [b,c] X.env)).any (·.1)=false) zu2._auto_1):
  PI X (.Tuple elts ek ep) (.Call (.Name "zip" p) [a,b,c] [] pos) (fun σ H R=>ta σ H fun vs H1=>∃t1 a1 xs t2 a2 ys t3 a3 zs,vs=[.ref a1,.ref a2,.ref a3]/\SrcSq t1 X.K H1 a1 xs/\SrcSq t2 X.K H1 a2 ys/\SrcSq t3 X.K H1 a3 zs/\R (Itz3 X.K t1 a1 t2 a2 t3 a3 (min xs.length (min ys.length zs.length))) H1):=by
 intro pins s σ H R I h
 refine Call_ (zgZ I hg hm zlO (PyProof.Rows.callWith_type1 (thn (ha pos pins s σ H _ I h) fun us s1 ⟨vs,H1,I1,r1,q1⟩=>?_) hs hs2))
 obtain⟨t1,a1,xs,t2,a2,ys,t3,a3,zs,e,q1,q2,q3,q⟩:=q1
 subst e
 cases r1 with
 |cons r rr=>
  cases rr with
  |cons r' rr=>
   cases rr with
   |cons r'' rr=>
    cases rr
    cases r
    cases r'
    cases r''
    obtain⟨us,ru,hu,-⟩:=q1.heap I1
    obtain⟨ws,rw',hw',-⟩:=q2.heap I1
    obtain⟨os,ro,ho',-⟩:=q3.heap I1
    refine znb hu hw' ho' fun h' g5 g3 g4 g0 g1 g2 kk=>wpAny_pyIter_zip g5 ⟨_,_,_,_,H1,rfl,I1.kept (t':=s1.toks) kk,zof t1 a1 t2 a2 t3 a3 (min xs.length (min ys.length zs.length)) s1.heap.objs.size hu.lt hw'.lt ho'.lt,⟨Nat.zero_le _,g5,g3,⟨_,_,_,g4⟩,g0,g1,g2⟩,fun b hb=>?_,q⟩
    have:b=s1.heap.objs.size\/b=s1.heap.objs.size+1\/b=s1.heap.objs.size+2\/b=s1.heap.objs.size+3\/b=s1.heap.objs.size+4\/b=s1.heap.objs.size+5:=by simpa using hb
    have le:s1.heap.objs.size<=b:=by rcases this with h|h|h|h|h|h<;>rw[h]<;>simp
    exact I1.fpOk le (I1.hok.fresh le)
theorem pi_enum (hg:Gl X "enumerate")(hm:X.mg "enumerate"=none)(ha:PA X [a] ta)(hs:autoParam (starEach [a] X.env=(false,eval a X.env)::starEach [] X.env) zu2._auto_1)(hs2:autoParam ((backTo pos (starEach [] X.env)).any (·.1)=false) zu2._auto_1):
  PI X (.Tuple elts ek ep) (.Call (.Name "enumerate" p) [a] [] pos) (fun σ H R=>ta σ H fun vs H1=>∃t1 a1 xs,vs=[.ref a1]/\SrcSq t1 X.K H1 a1 xs/\R (Ite X.K t1 a1 xs.length) H1):=by
 intro pins s σ H R I h
 refine Call_ (zgZ I hg hm zh6 (PyProof.Rows.callWith_type1 (thn (ha pos pins s σ H _ I h) fun us s1 ⟨vs,H1,I1,r1,q1⟩=>?_) hs hs2))
 obtain⟨t1,a1,xs,e,q1,q⟩:=q1
 subst e
 cases r1 with
 |cons r rr=>
  cases rr
  cases r
  obtain⟨us,ru,hu,-⟩:=q1.heap I1
  refine zn4 hu fun h' g1 g0 kk=>wpAny_pyIter_enum g1 ⟨_,_,_,_,H1,rfl,I1.kept (t':=s1.toks) kk,zog t1 a1 xs.length s1.heap.objs.size hu.lt,⟨Nat.zero_le _,⟨_,g1⟩,g0⟩,fun b hb=>?_,q⟩
  have:b=s1.heap.objs.size+1\/b=s1.heap.objs.size:=by simpa using hb
  have le:s1.heap.objs.size<=b:=by rcases this with h|h<;>rw[h]<;>simp
  exact I1.fpOk le (I1.hok.fresh le)
end
theorem zir {G:Hp}{x:V}{d:D}(r:RepD K G x d)(e:zax [d]=some es):∃t a xs,x= .ref a/\(∀H,Fz G H->SrcSq t K H a xs)/\RepL K G xs es:=by
 cases d<;>simp only[zax]at e<;>try cases e
 ·obtain⟨a,xs,rfl,ha,r⟩:=r
  exact⟨false,a,xs,rfl,fun H f=>SqL.of (f _ _ ha),r⟩
 ·obtain⟨a,xs,rfl,ha,r⟩:=r
  exact⟨true,a,xs,rfl,fun H f=>SqT.of (f _ _ ha),r⟩
 ·obtain⟨a,rfl,ha⟩:=r
  exact⟨false,a,_,rfl,fun H f=>f.sql ha,RepL.ints _⟩
noncomputable def zkM (xs ys:List D):List D:=List.zipWith (fun x y=>D.tup [x,y]) xs ys
noncomputable def zku (xs ys zs:List D):List D:=List.zipWith (fun x (p:D×D)=>D.tup [x,p.1,p.2]) xs (List.zip ys zs)
noncomputable def zkJ (xs:List D):List D:=List.zipWith (fun x (i:Nat)=>D.tup [.int i,x]) xs (List.range xs.length)
noncomputable def iZ2 (ma:MA):MA:=fun ρ=>(ma ρ).bind fun p=>match p.1 with
 |[a,b]=>(zax [a]).bind fun xs=>(zax [b]).bind fun ys=>some (zkM xs ys,p.2)
 |_=>none
noncomputable def iZ3 (ma:MA):MA:=fun ρ=>(ma ρ).bind fun p=>match p.1 with
 |[a,b,c]=>(zax [a]).bind fun xs=>(zax [b]).bind fun ys=>(zax [c]).bind fun zs=>some (zku xs ys zs,p.2)
 |_=>none
noncomputable def iEn (ma:MA):MA:=fun ρ=>(ma ρ).bind fun p=>(zax p.1).map fun xs=>(zkJ xs,p.2)
theorem it_zip3 {a b c:Expr}(hm:X.mg "zip"=none)(ha:SA X [a,b,c] ma)(hg:autoParam (Gl X "zip") zu2._auto_1)(hs:autoParam (starEach [a,b,c] X.env=(false,eval a X.env)::starEach [b,c] X.env) zu2._auto_1)(hs2:autoParam ((backTo pos (starEach [b,c] X.env)).any (·.1)=false) zu2._auto_1):
  SIt X (.Tuple elts ek ep) (.Call (.Name "zip" p) [a,b,c] [] pos) (iZ3 ma):=by
 obtain⟨t,pa,sa⟩:=ha
 refine⟨_,pi_zip3 hg hm pa hs hs2,fun B G H σ ρ ds ρ' Q I hm k=>?_⟩
 obtain⟨⟨es,ρ1⟩,e1,h2⟩:=zah hm
 dsimp only at h2
 refine sa B G H σ ρ es ρ1 _ I e1 fun G1 H1 vs I1 f1 r1=>?_
 split at h2
 ·obtain⟨xs,ex,h2⟩:=zah h2
  obtain⟨ys,ey,h2⟩:=zah h2
  obtain⟨zs,ez,h2⟩:=zah h2
  cases h2
  obtain⟨x,us,rfl,rx,r2⟩:=r1
  obtain⟨y,ws,rfl,ry,r3⟩:=r2
  obtain⟨z,os,rfl,rz,r4⟩:=r3
  cases(show os=[]from r4)
  obtain⟨t1,a1,us,rfl,s1,c1⟩:=zir rx ex
  obtain⟨t2,a2,ws,rfl,s2,c2⟩:=zir ry ey
  obtain⟨t3,a3,os,rfl,s3,c3⟩:=zir rz ez
  have n1:=c1.length
  have n2:=c2.length
  have n3:=c3.length
  refine⟨t1,a1,us,t2,a2,ws,t3,a3,os,rfl,s1 _ I1.fz,s2 _ I1.fz,s3 _ I1.fz,k _ G1 H1 I1 f1 ⟨fun H i f hi=>?_,fun H i x H' f y d e=>?_,fun H i f hi=>?_⟩⟩
  ·exact⟨by simp[zku]at hi;lia,us,ws,os,s1 _ f,s2 _ f,s3 _ f,rfl⟩
  ·obtain⟨p,x1,x2,x3,hp,eh,ex',q⟩:=y
   obtain⟨q1,q2,q3⟩:=q us ws os (s1 _ f) (s2 _ f) (s3 _ f)
   simp only[zku,List.zip,List.getElem?_zipWith]at e
   have hi:i<us.length/\i<ws.length/\i<os.length:=⟨(List.getElem?_eq_some_iff.mp q1).1,(List.getElem?_eq_some_iff.mp q2).1,(List.getElem?_eq_some_iff.mp q3).1⟩
   have g1:xs[i]? =some (xs[i]'(by lia)):=List.getElem?_eq_getElem _
   have g2:ys[i]? =some (ys[i]'(by lia)):=List.getElem?_eq_getElem _
   have g3:zs[i]? =some (zs[i]'(by lia)):=List.getElem?_eq_getElem _
   rw[g1,g2,g3]at e
   cases e
   obtain⟨v1,b1,r1⟩:=c1.get g1
   obtain⟨v2,b2,r2⟩:=c2.get g2
   obtain⟨v3,b3,r3⟩:=c3.get g3
   rw[q1]at b1;cases b1
   rw[q2]at b2;cases b2
   rw[q3]at b3;cases b3
   exact .inr ⟨p,_,_,hp,eh,ex',rfl,⟨_,_,rfl,r1,_,_,rfl,r2,_,_,rfl,r3,rfl⟩⟩
  ·exact⟨by simp[zku]at hi;lia,us,ws,os,s1 _ f,s2 _ f,s3 _ f,rfl⟩
 ·cases h2
theorem zf2 (hm:X.mg "enumerate"=none)(ha:SA X [a] ma)(hg:autoParam (Gl X "enumerate") zu2._auto_1)(hs:autoParam (starEach [a] X.env=(false,eval a X.env)::starEach [] X.env) zu2._auto_1)(hs2:autoParam ((backTo pos (starEach [] X.env)).any (·.1)=false) zu2._auto_1):
  SIt X (.Tuple elts ek ep) (.Call (.Name "enumerate" p) [a] [] pos) (iEn ma):=by
 obtain⟨t,pa,sa⟩:=ha
 refine⟨_,pi_enum hg hm pa hs hs2,fun B G H σ ρ ds ρ' Q I hm k=>?_⟩
 obtain⟨⟨es,ρ1⟩,e1,h2⟩:=zah hm
 obtain⟨xs,ex,h2⟩:=zav h2
 cases h2
 refine sa B G H σ ρ es ρ1 _ I e1 fun G1 H1 vs I1 f1 r1=>?_
 match es,ex,r1 with
 |[],ex,_=>cases ex
 |_::_::_,ex,_=>exact absurd ex (by simp[zax])
 |[d],ex,r1=>
  obtain⟨x,rfl,rx⟩:=r1.one
  obtain⟨t1,a1,us,rfl,s1,c1⟩:=zir rx ex
  have n1:=c1.length
  refine⟨t1,a1,us,rfl,s1 _ I1.fz,k _ G1 H1 I1 f1 ⟨fun H i f hi=>?_,fun H i x H' f y d e=>?_,fun H i f hi=>?_⟩⟩
  ·exact⟨by simp[zkJ]at hi;lia,us,s1 _ f,rfl⟩
  ·obtain⟨p,x1,hp,eh,ex',q⟩:=y
   have q1:=q us (s1 _ f)
   have hi:i<us.length:=(List.getElem?_eq_some_iff.mp q1).1
   have g1:xs[i]? =some (xs[i]'(by lia)):=List.getElem?_eq_getElem _
   simp only[zkJ,List.getElem?_zipWith]at e
   rw[g1,show(List.range xs.length)[i]? =some i from by rw[List.getElem?_range (by lia)]]at e
   cases e
   obtain⟨v1,b1,r1⟩:=c1.get g1
   rw[q1]at b1;cases b1
   exact .inr ⟨p,_,_,hp,eh,ex',rfl,⟨_,_,rfl,rfl,_,_,rfl,r1,rfl⟩⟩
  ·exact⟨by simp[zkJ]at hi;lia,us,s1 _ f,rfl⟩
end M
namespace M
open L2 PySem PySem.Spec
open PyProof.Rows hiding St
variable {X:Cx} {K:W.Frag} {G H:Hp} {x:Str} {σ:St} {ρ:R} {b:Nat} {cs:List D} {l:Addr} {ys:List V} {tg':Addr->Shared->Hp->List Addr->TG} {tt:Addr->Shared->Hp->List Addr->TT} {te:Addr->Shared->Hp->List Addr->TE}
theorem ss_never {st:Stmt}:SS X st (fun _=>none):=⟨_,ps_never,fun B G H σ ρ fl ρ' E I hm k=>by cases hm⟩
noncomputable def rIndex (K:W.Frag):V->List V->Hp->VK->Prop:=fun x vs H Q=>∃(l:Addr) (ns:List Int) (k:Int),x= .ref l/\vs=[.int k]/\SqL K H l (ns.map V.int)/\k∈ns/\Q (.int (ns.idxOf k:Nat)) H
theorem mt_index:MtR X "list.index" (rIndex X.K):=by
 intro pins s σ H x vs v us Q I rx rv h
 obtain⟨l,ns,k,rfl,rfl,hq,hk,q⟩:=h
 cases rx
 obtain⟨u,rfl,t,rfl⟩:=rv.one
 obtain⟨its,r,p,hz⟩:=I.list hq
 have hi:=zgq r
 have hlen:=hi.length
 have hj:ns.idxOf k<ns.length:=List.idxOf_lt_length_iff.mpr hk
 have hb:ns.length<=sizeLine:=by simpa using hz
 rw[sizeLine_eq]at hb
 obtain⟨⟨cls,dd,data,sl⟩,ho,hc,n,hd⟩:=p.isList
 simp only at hc hd
 subst hc hd
 refine call_meets PySem.F.slot_list_index ⟨_,ho,rfl⟩ PySem.F.entry_list_index (PySem.F.args_list_index_2 _ _)
  (PySem.SeqAt.list_indexAt l its.toArray n dd sl (.int k t) (isInt k) (ns.idxOf k) (by simpa[hlen]using hj) (by lia) ?_ ?_) ⟨ho,fun y hy=>(eq_isInt k t hi y (by simpa using hy)).at _ _,⟨.int (ns.idxOf k:Nat),H,I.tok _,⟨_,rfl⟩,q⟩⟩
 ·show isInt k its[ns.idxOf k]=true
  rw[isInt_at k hi _ (by lia) hj]
  simpa using List.getElem_idxOf hj
 ·intro j hjs hlt
  show isInt k its[j]=false
  rw[isInt_at k hi j (by simpa using hjs) (by lia)]
  exact ne_of_lt_idxOf hlt _
noncomputable def zkl:D->D->Option D
 | .lst ds,.int k=>(zbl ds).bind fun ns=>if k∈ns then some (.int (ns.idxOf k:Nat))else none
 |_,_=>none
theorem se_index {o e:Expr}{mo me:ME}{apos cpos:Pos}(ho:SE X o mo)(he:SE X e me)
  (hbase:autoParam (attributeBase o "index" X.env (eval o X.env)=eval o X.env) zu2._auto_1)
  (hfew :autoParam (((backTo cpos (starEach [e] X.env)).all (fun x => !x.1) && (backToKw cpos (keywordEach [] X.env)).all (fun x => x.1.isSome)
   &&decide ([e].length+([]:List Keyword).length+(if([]:List Keyword).isEmpty then 0 else 1)<30))=true) zu2._auto_1)
  (hline:autoParam ((apos.endLine==cpos.line)=true) zu2._auto_1) (hs:autoParam (starEach [e] X.env=(false,eval e X.env)::starEach [] X.env) zu2._auto_1):SE X (.Call (.Attribute o "index" apos) [e] [] cpos) (m2 zkl mo me):=by
 obtain⟨to,po,so⟩:=ho
 obtain⟨te,pe,se⟩:=he
 refine⟨_,pe_bm PySem.F.plainAttrs_list PySem.F.slot_list_index PySem.F.type_list_index mt_index po (zdm pe zg0 hs) hbase hfew hline hs rfl,fun B G H σ ρ d ρ' Q I hm k=>?_⟩
 obtain⟨⟨d1,ρ1⟩,e1,hm⟩:=zah hm
 obtain⟨⟨d2,ρ2⟩,e2,hm⟩:=zah hm
 obtain⟨d3,e3,hm⟩:=zav hm
 cases hm
 refine so B G H σ ρ d1 ρ1 _ I e1 fun G1 H1 v I1 f1 r1=>?_
 cases d1 with
 |lst ds=>
  cases d2 with
  |int i=>
   obtain⟨ns,e4,e3⟩:=zah e3
   obtain⟨a,xs,rfl,ha,rr⟩:=r1
   refine⟨.inl ⟨rfl,xs,SqL.of (I1.fz _ _ ha)⟩,?_⟩
   refine se B G1 H1 σ ρ1 _ ρ2 _ I1 e2 fun G2 H2 u I2 f2 r2=>?_
   cases(show u=V.int i from r2)
   split at e3
   ·rename_i hk
    cases e3
    cases zdF e4
    have rl:=rr.mono f2
    have ex:xs=ns.map V.int:=RepL.ints_eq rl
    subst ex
    exact⟨a,ns,i,rfl,rfl,SqL.of (I2.fz _ _ (f2 _ _ ha)),hk,k G2 H2 _ I2 (f1.trans f2) rfl⟩
   ·cases e3
  |_=>cases e3
 |_=>cases e3
noncomputable def isN:D->Bool
 | .non=>true
 |_=>false
theorem isN_ok {x:V}{d:D}(r:RepD K G x d):decide (x= .non)=isN d:=by
 cases d with
 |non=>cases(show x=V.non from r);rfl
 |bl b=>cases(show x=V.bl b from r);rfl
 |int i=>cases(show x=V.int i from r);rfl
 |str s=>cases(show x=V.str s from r);rfl
 |lst ds=>obtain⟨a,xs,rfl,-⟩:=r;rfl
 |tup ds=>obtain⟨a,xs,rfl,-⟩:=r;rfl
 |scr ns=>obtain⟨a,rfl,-⟩:=r;rfl
 |exc c=>obtain⟨a,C,rfl,-⟩:=r;rfl
 |dic _ _=>obtain⟨a,ys,rfl,-⟩:=r;rfl
 |dit _ _=>obtain⟨a,ys,o,xs,rfl,-⟩:=r;rfl
noncomputable def dIsN:D->D->Option D
 |a,.non=>some (.bl (isN a))
 |_,_=>none
noncomputable def zkv:D->D->Option D
 |a,.non=>some (.bl (!isN a))
 |_,_=>none
theorem v2_isN:V2 X (fun x y H Q=>y= .non/\Q (.bl (decide (x= .non))) H) dIsN:=by
 intro B G H σ ρ x y a b d Q I ra rb hf k
 cases b<;>simp only[dIsN]at hf<;>cases hf
 exact⟨rb,k G H _ I (Fz.refl G) (by rw[isN_ok ra];rfl)⟩
theorem v2_notN:V2 X (fun x y H Q=>y= .non/\Q (.bl (!decide (x= .non))) H) zkv:=by
 intro B G H σ ρ x y a b d Q I ra rb hf k
 cases b<;>simp only[zkv]at hf<;>cases hf
 exact⟨rb,k G H _ I (Fz.refl G) (by rw[isN_ok ra];rfl)⟩
theorem bl_notN:∀x y d,zkv x y=some d->∃t,d= .bl t:=by
 intro x y d hf
 cases y<;>simp only[zkv]at hf<;>cases hf
 exact⟨_,rfl⟩
section
variable {X:Cx} {a b:Expr} {ma mb:ME} {pos:Pos}
theorem se_is (ha:SE X a ma)(hb:SE X b mb)(hm:autoParam (behindInMarks .Is b=false) zu2._auto_1):SE X (.Compare a [.Is] [b] pos) (m2 dIsN ma mb):=zjB op_isN v2_isN ha hb hm
theorem st_isNot (ha:SE X a ma)(hb:SE X b mb)(hm:autoParam (behindInMarks .IsNot b=false) zu2._auto_1):STt X (.Compare a [.IsNot] [b] pos) (tTru (m2 zkv ma mb)):=zhA op_notN v2_notN bl_notN ha hb hm
end
noncomputable def zkI (b:Nat)(ρ:R):Bool:=match ρ[b]? with
 |some (.par _)=>zdn (ρ.set b .emp)
 |_=>false
noncomputable def znM (b:Nat)(ρ:R):List D:=match ρ[b]? with
 |some (.par cs)=>cs
 |_=>[]
noncomputable def zl6 (b:Nat)(g:D->R->Option R)(mt:MT)(me:ME):D->R->Option (Option D×R):=fun d ρ=>(g d ρ).bind fun ρ1=>(mt ρ1).bind fun p=>if p.1 then(me p.2).bind fun q=>if zkI b q.2 then some (some q.1,q.2)else none else if zkI b p.2 then some (none,p.2)else none
noncomputable def oLCM (cap:List Nat)(t b w:Nat)(mi:MA)(g:D->R->Option R)(mt:MT)(me:ME):MO:=fun ρ=>(mi ρ).bind fun p=>if p.1.length<=16777216 then
    ((fzL (cap.filter (· !=w)) p.2)[w]?).bind fun s=>s.items.bind fun cs=>(zeq (zl6 b g mt me) p.1 ((capR cap t (fzL (cap.filter (· !=w)) p.2)).set b (.par cs))).map fun q=>(q.1,(fzL (cap.filter (· !=w)) p.2).set w (s.put (znM b q.2)))
  else none
theorem VS.setEmp (h:VS K G σ ρ)(b:Nat):VS K G σ (ρ.set b .emp) where
 len:=by rw[List.length_set];exact h.len
 no:=by
  have h0:=h.no
  unfold zdn at*
  rw[List.all_eq_true]at*
  intro s hs
  rcases List.mem_or_eq_of_mem_set hs with z|z
  ·exact h0 s z
  ·rw[z]
 val:=fun i d e=>by
  rw[List.getElem?_set]at e
  split at e
  ·split at e
   ·cases e
   ·cases e
  ·exact h.val i d e
theorem VS.siP (h:VS K G σ (ρ.set b .emp))(fz:Fz G H)(hb:ρ[b]? =some (.par cs))(hs:σ[b]? =some (some (.ref l)))(gl:G l=none)(hl:H l=some (.lst ys))(r:RepL K G ys cs):SI K ⟨G,H,[(b,l)]⟩ G H σ ρ where
 fz:=fz
 g0:=Fz.refl G
 new:=fun b o e=> .inl (by show G b≠none;rw[e];simp)
 keep:=fun b o e _=>e
 there:=fun b e=>e
 ob:=fun i c m=>by
  have:i=b/\c=l:=by simpa using m
  rw[this.2]
  show H l≠none
  rw[hl];simp
 len:=by rw[h.len,List.length_set]
 slot:=fun i s e=>by
  by_cases z:i=b
  ·subst z
   rw[hb]at e;cases e
   exact⟨l,ys,hs,gl,hl,r,by simp⟩
  ·have e':(ρ.set b .emp)[i]? =some s:=by rw[List.getElem?_set_ne (Ne.symm z)];exact e
   cases s with
   |emp=>trivial
   |two _ _=>trivial
   |tre t=>exact absurd rfl ((zhb h.no e').1 t)
   |ptr t=>exact absurd rfl ((zhb h.no e').2 t)
   |val d=>exact h.val i d e'
   |own ds=>exact absurd ⟨_,ds,e',rfl⟩ (zhf h.no (i:=i))
   |par ds=>exact absurd ⟨_,ds,e',rfl⟩ (zhf h.no (i:=i))
 dis:=fun i j s t a hij e1 e2 w1 w2=>by
  have key:∀(i:Nat) (s:Sl) ov,ρ[i]? =some s->OwS K G H ov a s->i=b:=fun i s ov e w=>by
   by_cases z:i=b
   ·exact z
   ·exact absurd w (zlA h.no (show(ρ.set b .emp)[i]? =some s by rw[List.getElem?_set_ne (Ne.symm z)];exact e))
  exact hij ((key i s _ e1 w1).trans (key j t _ e2 w2).symm)
theorem VS.ofP {B:Bs}(I:SI K B G H σ ρ)(hO:B.O=[(b,l)])(h:zkI b ρ=true):∃cs ys,ρ[b]? =some (.par cs)/\σ[b]? =some (some (.ref l))/\G l=none/\H l=some (.lst ys)/\RepL K G ys cs/\VS K G σ (ρ.set b .emp):=by
 unfold zkI at h
 split at h
 ·rename_i cs e
  obtain⟨l',ys,h1,h2,h3,h4,h5⟩:=I.slot b _ e
  have hl:l'=l:=by rw[hO]at h5;simpa using h5
  subst hl
  refine⟨cs,ys,e,h1,h2,h3,h4,⟨by rw[List.length_set];exact I.len,h,fun i d e'=>?_⟩⟩
  rw[List.getElem?_set]at e'
  split at e'
  ·split at e'
   ·cases e'
   ·cases e'
  ·exact I.slot i _ e'
 ·cases h
structure LcP (K:W.Frag) (bk:Nat) (g:D->R->Option R) (mt:MT) (me:ME) (items all:List D) (ρf:R) (G2 H1:Hp) (DD l:Addr) (i:Nat) (σc:St) (Hc Gc:Hp) (ρc:R) (acc:List D) (xs:List V) (rest cs:List D) (ys:List V):Prop where
 fc:Fz G2 Gc
 fcH:Fz Gc Hc
 nw:∀b o,Gc b=some o->G2 b≠none\/H1 b=none
 kp:∀b o,b≠l->H1 b=some o->Hc b=some o
 gD:Gc DD=none
 hDc:Hc DD=some (.lst xs)
 ra:RepL K Gc xs acc
 hx:xs.length<=i
 eb:ρc[bk]? =some (.par cs)
 sb:σc[bk]? =some (some (.ref l))
 glc:Gc l=none
 hlc:Hc l=some (.lst ys)
 rlc:RepL K Gc ys cs
 vs:VS K Gc σc (ρc.set bk .emp)
 ec:zeq (zl6 bk g mt me) (items.drop i) ρc=some (rest,ρf)
 eall:all=acc++rest
section
variable {X:Cx} {elt iter tg:Expr} {ifs:List Expr} {scope:Scope} {pos:Pos} {N:List Str} {cap:List Nat} {t bk wk:Nat} {mi:MA} {g:D->R->Option R} {mt:MT} {me:ME}
theorem znO (hbw:cap[bk]? =some wk){wi:TI}
    (si:∀B G H σ ρ ds ρ' (Q:It->Hp->Prop),SI X.K B G H σ ρ->mi ρ=some (ds,ρ')->(∀J G' H',SI X.K B G' H' σ ρ'->Fz G G'->Itm X.K J G' ds->Q J H')->wi σ H Q)
    (sg:∀C s H₀ fp B G H σ ρ v d ρ' (Q:St->Hp->Prop),SI X.K B G H σ ρ->RepD X.K G v d->g d ρ=some ρ'->(∀G' H' σ',SI X.K B G' H' σ' ρ'->Fz G G'->Q σ' H')->tg' C s H₀ fp v σ H Q)
    (st:∀C s H₀ fp B G H σ ρ d ρ' (Q:Bool->Hp->Prop),SI X.K B G H σ ρ->mt ρ=some (d,ρ')->(∀G' H',SI X.K B G' H' σ ρ'->Fz G G'->Q d H')->tt C s H₀ fp σ H Q)
    (se:∀C s H₀ fp B G H σ ρ d ρ' (Q:VK),SI X.K B G H σ ρ->me ρ=some (d,ρ')->(∀G' H' v,SI X.K B G' H' σ ρ'->Fz G G'->RepD X.K G' v d->Q v H')->te C s H₀ fp σ H Q):
    ∀B G H σ ρ ds ρ' (Q:VK),SI X.K B G H σ ρ->oLCM cap t bk wk mi g mt me ρ=some (ds,ρ')->
      (∀G' H' l xs,SI X.K B G' H' σ ρ'->Fz G G'->G' l=none->H' l=some (.lst xs)->RepL X.K G' xs ds->B.H l=none->Nw X.K G' H' σ ρ' l->Q (.ref l) H')->tLC (capσ cap t) wi tg' tt te σ H Q:=by
  intro B G H σ ρ ds ρ' Q I hm k
  obtain⟨⟨items,ρ1⟩,e1,hm⟩:=zah hm
  refine si B G H σ ρ items ρ1 _ I e1 fun J G1 H1 I1 f1 IT DD hD=>?_
  dsimp only at hm
  split at hm
  . rename_i hlen
    obtain⟨sw,ew,hm⟩:=zah hm
    obtain⟨cs0,qw,hm⟩:=zah hm
    obtain⟨⟨all,ρf⟩,e2,e3⟩:=zav hm
    obtain⟨rfl,rfl⟩:=Prod.mk.inj e3
    obtain⟨G2,I2,f2⟩:=SI.fzL (cap.filter (· !=wk)) I1
    have hDG:G2 DD=none:=I2.fz.free hD
    obtain⟨l,ys0,hσ,gl0,hl0,rl0⟩:=I2.wr ew qw
    have hlD:DD≠l:=(zaG hl0 hD).symm
    have hb:bk<cap.length:=(List.getElem?_eq_some_iff.mp hbw).1
    have hbe:cap[bk]=wk:=(List.getElem?_eq_some_iff.mp hbw).2
    have hσb:(capσ cap t σ)[bk]? =some (some (.ref l)):=by
      unfold capσ
      rw[List.getElem?_append_left (by simpa using hb),List.getElem?_map,List.getElem?_eq_getElem hb,hbe]
      simp[hσ]
    have hcl:bk<(capR cap t (M.fzL (cap.filter (· !=wk)) ρ1)).length:=by unfold capR;simp;lia
    refine⟨fun i m σc Hc=>m=items.length-i/\i<=items.length/\∃Gc ρc acc xs rest cs ys,LcP X.K bk g mt me items all ρf G2 H1 DD l i σc Hc Gc ρc acc xs rest cs ys,
      ⟨items.length,by simp,Nat.zero_le _,G2,(capR cap t (M.fzL (cap.filter (· !=wk)) ρ1)).set bk (.par cs0),[],[],all,cs0,ys0,{fc:=Fz.refl _,fcH:=I2.fz.right hDG _,nw:=fun b o e=> .inl (by rw[e];simp),kp:=fun b o _ e=>by rw[zaA (zaG e hD)];exact e,gD:=hDG,hDc:=zaK,ra:= .nil,hx:=Nat.le_refl _,eb:=by rw[List.getElem?_set];simp[hcl],sb:=hσb,glc:=gl0,hlc:=by rw[zaA (zaG hl0 hD)];exact hl0,rlc:=rl0,vs:=by rw[List.set_set];exact(cap_vs I2 cap t).setEmp bk,ec:=by simpa using e2,eall:=rfl}⟩,?_⟩
    rintro i m σc Hc ⟨rfl,hi,Gc,ρc,acc,xs,rest,cs,ys,J0⟩
    obtain⟨fc,fcH,nw,kp,gD,hDc,ra,hx,eb,sb,glc,hlc,rlc,vs,ec,eall⟩:=J0
    by_cases hlt:i<items.length
    . refine .inr ⟨IT.go Hc i (f2.trans (fc.trans fcH)) hlt,fun C s₀ H₀ fp x H' y=>?_⟩
      rw[List.drop_eq_getElem_cons hlt]at ec
      simp only[zeq]at ec
      obtain⟨⟨o,ρ3⟩,h3,ec⟩:=zah ec
      obtain⟨⟨rest2,ρ4⟩,h4,ec⟩:=zav ec
      obtain⟨rfl,rfl⟩:=Prod.mk.inj ec
      dsimp only at h4
      unfold zl6 at h3
      obtain⟨ρ5,h5,h3⟩:=zah h3
      obtain⟨⟨ok,ρ6⟩,h6,h3⟩:=zah h3
      dsimp only at h3
      have Ic:SI X.K ⟨Gc,Hc,[(bk,l)]⟩ Gc Hc σc ρc:=vs.siP fcH eb sb glc hlc rlc
      have fz2:Fz G1 Hc:=f2.trans (fc.trans fcH)
      have yy:=IT.yld Hc i x H' fz2 y items[i] (List.getElem?_eq_getElem hlt)
      have yy2:(H'=Hc/\RepD X.K Gc x items[i])\/∃p xs es,Hc p=none/\H'=upd Hc p (.tup xs)/\x= .ref p/\items[i]= .tup es/\RepL X.K Gc xs es:=by
        rcases yy with⟨a,b⟩|⟨p,xs,es,a,b,c,d,e⟩
        . exact .inl ⟨a,b.mono (f2.trans fc)⟩
        . exact .inr ⟨p,xs,es,a,b,c,d,e.mono (f2.trans fc)⟩
      obtain⟨G3,I3,f3,r3⟩:=Ic.yld yy2
      refine sg C s₀ H₀ fp _ G3 H' σc ρc x items[i] ρ5 _ I3 r3 h5 fun G4 H4 σ4 I4 f4=>st C s₀ H₀ fp _ G4 H4 σ4 ρ5 ok ρ6 _ I4 h6 fun G5 H5 I5 f5=>?_
      have facts:∀(G' H':Hp) (σ':St) (ρ':R),SI X.K ⟨Gc,Hc,[(bk,l)]⟩ G' H' σ' ρ'->(∀b o,G' b=some o->G2 b≠none\/H1 b=none)/\(∀b o,b≠l->H1 b=some o->H' b=some o)/\G' DD=none/\H' DD=some (.lst xs):=fun G' H' σ' ρ' I'=>by
        refine⟨fun b o e=>?_,fun b o ne e=>I'.keep b o (kp b o ne e) (by simp;exact ne),?_,I'.keep DD _ hDc (by simp;exact hlD)⟩
        . rcases I'.new b o e with h|h
          . have h:Gc b≠none:=h
            cases q:Gc b with
            |none=>exact absurd q h
            |some u=>exact nw b u q
          . refine .inr ?_
            cases q:H1 b with
            |none=>rfl
            |some u=>
              have hn:Hc b=none:=h
              have nb:b≠l:=fun z=>by rw[z,hlc]at hn;cases hn
              have:=kp b u nb q
              rw[hn]at this;cases this
        . cases q:G' DD with
          |none=>rfl
          |some u=>
            rcases I'.new DD u q with h|h
            . exact absurd gD h
            . rw[show Hc DD=none from h]at hDc;cases hDc
      cases ok with
      |false=>
        simp only[Bool.false_eq_true,if_false]at h3
        split at h3
        . rename_i hno
          cases h3
          obtain⟨a1,a2,a3,a4⟩:=facts G5 H5 σ4 _ I5
          obtain⟨cs',ys',w1,w2,w3,w4,w5,w6⟩:=VS.ofP I5 rfl hno
          exact⟨items.length-(i+1),by lia,rfl,hlt,G5,_,acc,xs,rest2,cs',ys',{fc:=fc.trans (f3.trans (f4.trans f5)),fcH:=I5.fz,nw:=a1,kp:=a2,gD:=a3,hDc:=a4,ra:=ra.mono (f3.trans (f4.trans f5)),hx:=by lia,eb:=w1,sb:=w2,glc:=w3,hlc:=w4,rlc:=w5,vs:=w6,ec:=h4,eall:=by simpa using eall}⟩
        . cases h3
      |true=>
        simp only[if_true]at h3 ⊢
        obtain⟨⟨dv,ρ7⟩,h7,h3⟩:=zah h3
        dsimp only at h3
        split at h3
        . rename_i hno
          cases h3
          refine se C s₀ H₀ fp _ G5 H5 σ4 ρ6 dv _ _ I5 h7 fun G6 H6 v I6 f6 r6=>?_
          obtain⟨a1,a2,a3,a4⟩:=facts G6 H6 σ4 _ I6
          obtain⟨cs',ys',w1,w2,w3,w4,w5,w6⟩:=VS.ofP I6 rfl hno
          have ff:Fz Gc G6:=f3.trans (f4.trans (f5.trans f6))
          exact⟨xs,a4,by rw[sizeLine_eq];lia,items.length-(i+1),by lia,rfl,hlt,G6,_,acc++[dv],xs++[v],rest2,cs',ys',{fc:=fc.trans ff,fcH:=I6.fz.right a3 _,nw:=a1,kp:=fun b o ne e=>by rw[zaA (zaG e hD)];exact a2 b o ne e,gD:=a3,hDc:=zaK,ra:=(ra.mono ff).snoc r6,hx:=by rw[List.length_append,List.length_singleton];lia,eb:=w1,sb:=w2,glc:=w3,hlc:=by rw[zaA (Ne.symm hlD)];exact w4,rlc:=w5,vs:=w6,ec:=h4,eall:=by rw[eall];simp}⟩
        . cases h3
    . have e:i=items.length:=by lia
      subst e
      rw[List.drop_length]at ec
      obtain⟨rfl,rfl⟩:=Prod.mk.inj (Option.some.inj ec)
      have hall:all=acc:=by rw[eall,List.append_nil]
      refine .inl ⟨IT.stop Hc _ (f2.trans (fc.trans fcH)) (Nat.le_refl _),?_⟩
      rw[<-hall]at ra
      have hp:znM bk ρc=cs:=by unfold znM;rw[eb]
      rw[hp]at k
      exact k Gc Hc DD xs (I2.growW ew qw hσ fc fcH nw kp glc hlc rlc) (f1.trans (f2.trans fc)) gD hDc ra (I2.there DD hD) (I2.own_neW ew qw hσ hD nw kp)
  . cases hm
theorem ze3 (i:Nat){lpos pos':Pos}(cap:List Nat)(t bk wk:Nat)(N:List Str)(hc:X.calm=true)(hi:SIt X tg iter mi)(hg:∀C s H fp,SG (cxC X N scope C s H fp) tg g)(ht:∀C s H fp,STs (cxC X N scope C s H fp) ifs mt)(he:∀C s H fp,SE (cxC X N scope C s H fp) elt me)(hN:X.N.Nodup)(hbw:autoParam (cap[bk]? =some wk) zu2._auto_1)
    (hxi:autoParam (X.N[i]? =some x) zu2._auto_1) (hx:autoParam (Loc X.env.scope x) zu9._auto_1) (hf:autoParam (X.fn x=true\/X.env.scope.names.lookup x=some .local) zu9._auto_1)
    (hsw:autoParam (swapsWith (.ListComp elt [⟨tg,iter,ifs,0⟩] scope lpos) (some (.Name x pos')) pos.line X.env=pure true) zu2._auto_1)
    (hk:autoParam (scope.kind= .function) zu2._auto_1) (hb:autoParam (blkB X.env scope=true) zu10._auto_1) (hcap:autoParam (capB scope.names N X.N cap t=true) zu10._auto_1)
    (hs:autoParam (∀x,foldedSetIterable iter X.env x=pure x) zu8._auto_1):SS X (.Assign [.Name x pos'] (.ListComp elt [⟨tg,iter,ifs,0⟩] scope lpos) pos) (sSet i (eFz (oLCM cap t bk wk mi g mt me))):=by
  obtain⟨wi,pi,si⟩:=hi
  refine⟨_,zlP hN hxi hx hf hsw hc (zmL hk hb) (zns hcap) pi (fun C s H fp=>(hg C s H fp).choose_spec.1) (fun C s H fp=>(ht C s H fp).choose_spec.1) (fun C s H fp=>(he C s H fp).choose_spec.1) hs,fun B G H σ ρ fl ρ' E I hm k=>?_⟩
  obtain⟨⟨d,ρ1⟩,e1,e3⟩:=zav hm
  obtain⟨⟨ds,ρ2⟩,e4,e5⟩:=zav e1
  obtain⟨rfl,rfl⟩:=Prod.mk.inj e5
  obtain⟨rfl,rfl⟩:=Prod.mk.inj e3
  refine znO hbw si (fun C s H fp=>(hg C s H fp).choose_spec.2) (fun C s H fp=>(ht C s H fp).choose_spec.2) (fun C s H fp=>(he C s H fp).choose_spec.2) B G H σ ρ ds ρ2 _ I e4 fun G1 H1 l xs I1 f1 g1 h1 r1 b1 n1=>?_
  obtain⟨I2,f2,r2⟩:=zjL I1 g1 h1 r1 b1 n1
  exact k _ H1 _ (I2.set r2) (f1.trans f2)
end
end M
namespace M
open L2 PySem
noncomputable def zew (j:Nat)(ml mh:MP):ME:=fun ρ=>if(ρ[j]?.bind Sl.items).isSome then(ml ρ).bind fun q=>(mh q.2).bind fun r=>(r.2[j]?.bind Sl.items).bind fun ds=>some (.lst (cutD ds q.1 r.1),r.2)else none
theorem zbG {X:Cx}{lo hi:Option Expr}{ml mh:MP}{pos p2 pos':Pos}(j:Nat){x:Str}(hl:SPt X lo ml)(hu:SPt X hi mh)(hN:autoParam (X.N[j]? =some x) zu2._auto_1)(hv:autoParam (Vis X.env.scope x) zu5._auto_1)(hd:autoParam ((x==("__debug__":Str))=false) zu1._auto_1)
  (hcd:autoParam ((x==("__classdict__":Str))=false) zu1._auto_1):SE X (.Subscript (.Name x pos') (.Slice lo hi none p2) pos) (zew j ml mh):=by
 obtain⟨tl,pl,sl⟩:=hl
 obtain⟨th,ph,sh⟩:=hu
 refine⟨_,zlh sl_list (zgf hN hv hd hcd) pl ph,fun B G H σ ρ d ρ' Q I hm k=>?_⟩
 unfold zew at hm
 split at hm
 ·rename_i hso
  obtain⟨ds0,hso⟩:=Option.isSome_iff_exists.mp hso
  obtain⟨s0,e0,q0⟩:=zah hso
  obtain⟨l,xs0,h1,h2,h3,h4⟩:=I.wr e0 q0
  obtain⟨⟨a,ρ2⟩,e2,hm⟩:=zah hm
  obtain⟨⟨u,ρ3⟩,e3,hm⟩:=zah hm
  obtain⟨ds,e4,hm⟩:=zah hm
  obtain⟨s3,e5,q5⟩:=zah e4
  cases hm
  refine⟨.ref l,h1,sl B G H σ ρ a ρ2 _ I e2 fun G2 H2 I2 f2=>sh B G2 H2 σ ρ2 u ρ3 _ I2 e3 fun G3 H3 I3 f3=>?_⟩
  obtain⟨l',xs,k1,k2,k3,k4⟩:=I3.wr e5 q5
  rw[h1]at k1;cases k1
  refine⟨l,xs,rfl,SqL.of k3,fun p hp=>?_⟩
  obtain⟨I4,f4,r4⟩:=I3.newL hp (k4.cut a u)
  exact k _ _ _ I4 (f2.trans (f3.trans f4)) r4
 ·cases hm
end M
namespace M
open L2 PySem PySem.Spec
open PyProof.Rows hiding St
variable {w:World} {H:Hp} {h h':Heap} {a b e f:Addr} {X:Cx} {C cN cd:Value} {vs:List Value} {c:Expr} {mc:MT} {K:W.Frag} {N:List Str} {dN:Option Addr} {es:List DictEntry} {qual:Str} {A:Around} {outer:List Env} {s:Shared} {fd:FuncData} {body:List Stmt} {pos:Pos}
noncomputable def iR2L (ma:MA):MA:=fun ρ=>(ma ρ).bind fun p=>match p.1 with
 |[.int i,.int j]=>some (zdt i (j-i).toNat,p.2)
 |_=>none
noncomputable def Flies (h:Heap)(a T:Addr)(C a0:Value):Prop:=∃oe vs oT ts,h.get? a=some oe/\(oe.cls=C/\vs[0]? =some a0)/\oe.data= .fields vs/\vs[1]? =some (.ref T)/\T≠a/\h.get? T=some oT/\oT.data= .fields ts/\ts[3]? =some .none
noncomputable def CX1 (P:Program)(w:World):CXT:=fun outer H s E e s'=>
 ∃(a T:Addr) (C a0:Value) (H':Hp),e= .ref a/\s'.os=s.os/\AllBare s'.gens/\Un (frs outer) [] H H' s.heap s'.heap/\HOk P w H' s'.heap/\Flies s'.heap a T C a0/\(s.heap.get? a=none/\s.heap.get? T=none)/\(H' a=none/\H' T=none)/\E C none H'
theorem un_more {fs:List Addr}{H H' H2:Hp}{h h1 h2:Heap}(u:Un fs [] H H' h h1)(k:∀b o,h.get? b≠none->h1.get? b=some o->b∉fs->h2.get? b=some o)
  (sl:∀b o,b∈fs->h1.get? b=some o->∃sl,h2.get? b=some {o with slots:=sl}) (hh:∀b,h.get? b≠none->H' b=none->H2 b=none) (ht:∀b o,H' b=some o->H2 b=some o):Un fs [] H H2 h h2 where
 keep:=fun b o e n hf hx=>k b o (by rw[e];exact fun z=>by cases z) (u.keep b o e n hf hx) hf
 slot:=fun b o e n hf hx=>by
  obtain⟨s1,e1⟩:=u.slot b o e n hf hx
  obtain⟨s2,e2⟩:=sl b _ hf e1
  exact⟨s2,e2⟩
 free:=fun b o e n hx=>hh b (by rw[e];exact fun z=>by cases z) (u.free b o e n hx)
 there:=fun b o e hx=>by
  obtain⟨o1,e1⟩:=u.there b o e hx
  by_cases hf:b∈fs
  ·obtain⟨s2,e2⟩:=sl b _ hf e1;exact⟨_,e2⟩
  ·exact⟨o1,k b o1 (by rw[e];exact fun z=>by cases z) e1 hf⟩
 tups:=fun b xs e=>ht b _ (u.tups b xs e)
 frzs:=fun b o xs e=>ht b _ (u.frzs b o xs e)
 tbls:=fun b ps e=>by
  obtain⟨m,e1⟩:=u.tbls b ps e
  exact⟨m,ht b _ e1⟩
theorem hok_more {P:Program}{h h2:Heap}(x:HOk P w H h)(k:∀b o,H b≠none->h.get? b=some o->h2.get? b=some o):HOk P w H h2:=fun a o e=>
  (x a o e).stay (fun b u hb q => k b u (by rcases hb with rfl | hb; · rw [e]; exact fun z => by cases z
                                            . rw[hb];exact fun z=>by cases z) q) (fun _ q=>q) fun _ _ q=>q
theorem obj_has {P:Program}{o:HO}(x:ObjOk P w H h a o):∃ob,h.get? a=some ob:=by
 cases o with
 |lst xs=>obtain⟨_,_,_,_,e⟩:=x;exact⟨_,e⟩
 |tup xs=>obtain⟨_,_,_,ob,e,_⟩:=x;exact⟨_,e⟩
 |dK kvs=>obtain⟨_,_,_,_,o,_,_,e,_⟩:=x;exact⟨_,e⟩
 |dT kvs=>obtain⟨_,_,_,_,o,_,_,e,_⟩:=x;exact⟨_,e⟩
 |set S n=>obtain⟨o,_,_,_,e,_⟩:=x;exact⟨_,e⟩
 |ins C dx fs=>obtain⟨_,_,_,e,_⟩:=x;exact⟨_,e⟩
 |own y=>exact x
 |xd fs=>obtain⟨_,⟨_,_,_,e,_⟩,_⟩:=x;exact⟨_,e⟩
 |rng lo hi=>obtain⟨_,_,_,e⟩:=x;exact⟨_,e⟩
 |frz ob u=>exact⟨_,x.1⟩
 |tbl ps=>exact⟨_,x⟩
 |met f y=>exact⟨_,x⟩
 |ext φ=>exact x.2.1
theorem zfZ {P:Program}(x:HOk P w H h)(e:h.get? b=none):H b=none:=by
 cases q:H b with
 |none=>rfl
 |some o=>
  obtain⟨ob,e2⟩:=obj_has (x b o q)
  rw[e]at e2;cases e2
theorem nn {α:Type}{o:Option α}{x:α}(e:o=some x):o≠none:=by rw[e];exact fun z=>by cases z
structure TopF (X:Cx):Prop where
 hs:X.stack=X.env::X.outer
 hfr:X.env.frame=some X.env.locals
 hex:X.ex=[]
theorem TopF.frs (t:TopF X):L2.frs X.stack=X.env.locals::X.fs:=by
 rw[t.hs];unfold Cx.fs L2.frs;rw[List.filterMap_cons,t.hfr]
section
variable {X:Cx} {pins:List (Addr×Obj)} {σ:St} {H H':Hp} {s s1 s2:Shared} {a T T':Addr} {C a0:Value} {E:XK}
theorem cx1_mk (tp:TopF X)(J:Inv X pins σ H' s1)(k:∀b o,s1.heap.get? b=some o->b∉L2.frs X.stack->b≠a->b≠T->s2.heap.get? b=some o)
  (sl:∀b o,b∈L2.frs X.stack->s1.heap.get? b=some o->∃sl,s2.heap.get? b=some {o with slots:=sl})
  (na:X.s₀.heap.get? a=none) (nT:X.s₀.heap.get? T=none) (nT':X.s₀.heap.get? T'=none) (ha:H' a=none) (hT:H' T=none) (hT':H' T'=none)
  (fl:Flies s2.heap a T' C a0) (os:s2.os=s1.os) (g:AllBare s2.gens) (hE:E C none H'):CX1 X.prog X.w X.outer X.H₀ X.s₀ E (.ref a) s2:=by
 have bs:=J.base
 rw[tp.hex]at bs
 refine⟨a,T',C,a0,H',rfl,os.trans J.os,g,un_more bs (fun b o hb e nf=>k b o e ?_ ?_ ?_) (fun b o hb e=>sl b o ?_ e) (fun _ _ q=>q) (fun _ _ q=>q),hok_more J.hok (fun b o hb e=>k b o e (fun z=>hb (J.stkFree b z)) (fun z=>hb (z ▸ ha)) fun z=>hb (z ▸ hT)),fl,⟨na,nT'⟩,⟨ha,hT'⟩,hE⟩
 ·rw[tp.frs]
  intro z
  rcases List.mem_cons.mp z with z|z
  ·obtain⟨ob,eb⟩:∃ob,X.s₀.heap.get? b=some ob:=Option.ne_none_iff_exists'.mp hb
   have h1:=Heap.lt_size eb
   have h2:=J.ok.above
   rw[z]at h1;exact absurd (Nat.lt_of_lt_of_le h1 h2) (Nat.lt_irrefl _)
  ·exact nf z
 ·intro z;exact hb (z ▸ na)
 ·intro z;exact hb (z ▸ nT)
 ·rw[tp.frs];exact List.mem_cons_of_mem _ hb
theorem zl0 (J:Inv X pins σ H' s1)(hex:X.ex=[])(e:s1.heap.get? b=none):X.s₀.heap.get? b=none:=by
 cases q:X.s₀.heap.get? b with
 |none=>rfl
 |some o=>
  obtain⟨o',e'⟩:=J.base.there b o q (by rw[hex];simp)
  rw[e]at e';cases e'
noncomputable abbrev zn6 (X:Cx)(E:XK):Value->Shared->Prop:=fun e s'=>wpAny (model X.prog X.w) X.A (leaving X.env e) (fun _ s''=>CX1 X.prog X.w X.outer X.H₀ X.s₀ E e s'') (fun e' s''=>CX1 X.prog X.w X.outer X.H₀ X.s₀ E e' s'') s'
theorem fun_hide (J:Inv X pins σ H s)(as:List Addr)(h:∀b∈L2.frs X.stack,b∈as):s.heap.FunFrames (W.hideAll s.heap as) X.stack:=W.funFrames_hide J.stack fun env he a' ef=>h a' (List.mem_filterMap.mpr ⟨env,he,ef⟩)
theorem raises1 (tp:TopF X)(hxe:X.xe=zn6 X E)(J:Inv X pins σ H s){tk:Nat}(m:s.heap.MadeExcOf h' e C vs)(hE:E C none H):X.xe (.ref e) {s with heap:=h',toks:=tk}:=by
 rw[hxe]
 have ff0:=fun_hide J (L2.frs X.stack) fun b hb=>hb
 refine wpAny_leaves_madeW (base:=W.hideAll s.heap (L2.frs X.stack)) (h:=s.heap) (outer:=X.outer) (args:=vs) (cls:=C) (by rw[<-tp.hs];exact J.ok.frames) tp.hfr (fun b o q=>W.of_hideAll _ q) (by rw[<-tp.hs];exact ff0) m fun h2 t fl _ _ up=>?_
 obtain⟨stay,ne,ff,⟨oe',vs',T',oT',ts',q1,q2,q4,q5,q6,q7,q8,q9,q10⟩⟩:=fl
 have nofield:∀b∈L2.frs X.stack,∃o,s.heap.get? b=some o/\∀vs:Array Value,o.data≠Data.fields vs:=fun b hb=>(J.stack.mem hb).2
 have fr':T'∉L2.frs X.stack:=fun z=>by
  obtain⟨o,ho,nd⟩:=nofield _ z
  obtain⟨sl,h3⟩:=up T' o (m.keeps _ _ ho) nd
  rw[q8]at h3;cases h3;exact nd _ q9
 have hT0:s.heap.get? T'=none:=by
  cases z:s.heap.get? T' with
  |none=>rfl
  |some o=>rw[W.hideAll_get _ z fr']at q6;cases q6
 have hT2:X.s₀.heap.get? T'=none/\H T'=none:=⟨zl0 J tp.hex hT0,zfZ J.hok hT0⟩
 refine cx1_mk (T:=T') (T':=T') (a0:= .ref t) tp J (fun b o e nf n1 n2=>stay b o (W.hideAll_get _ e nf)) (fun b o hb e=>?_) (zl0 J tp.hex m.new) hT2.1 hT2.1 (zfZ J.hok m.new) hT2.2 hT2.2 ⟨oe',vs',oT',ts',q1,q2,q4,q5,q7,q8,q9,q10⟩ rfl J.bare hE
 obtain⟨o',ho',nd⟩:=nofield b hb
 rw[e]at ho';cases ho'
 exact up b o (m.keeps _ _ e) nd
end
noncomputable abbrev MX:=R->Option Str
noncomputable abbrev CName (K:W.Frag)(c:Str)(C:Addr):Prop:=W.nsIn K mainGlobals c=some (some (.ref C))
noncomputable def WishN (K:W.Frag)(B:Bs)(E:XK)(c:Str):Prop:=∀H' C,(∀b o,B.H b=some o->(∀i,(i,b)∉B.O)->H' b=some o)->CName K c C->E (.ref C) none H'
section
variable (X:Cx) (S:St->Prop) (E:XK)
noncomputable def XS (st:Stmt)(x:MX):Prop:=∃t,PS X st t/\∀B G H σ ρ c,SI X.K B G H σ ρ->S σ->x ρ=some c->WishN X.K B E c->∀D,t D σ H
noncomputable def XSs (st:List Stmt)(x:MX):Prop:=∃t,PSs X st t/\∀B G H σ ρ c,SI X.K B G H σ ρ->S σ->x ρ=some c->WishN X.K B E c->∀D,t D σ H
end
noncomputable def spX (K:W.Frag)(n:Nat)(F:List D->Option Str):Sp:=fun vs H _ E=>∃G ds c,F ds=some c/\ds.length=n/\Fz G H/\RepL K G vs ds/\∀H' C,Fz H H'->CName K c C->E (.ref C) none H'
structure FDX (P:Program) (w:World) (K:W.Frag) (mg:Str->Option Value) (base:Heap) (k:Nat) (x:Str) (sp:Sp):Prop where
 ex:∃f fd ps,FnOk P w K mg base (CX1 P w) k f fd ps sp/\mg x=some (.ref f)/\W.keepIn K (.ref f)=true/\Binds K fd ps []
noncomputable def xIf (c:MT)(a:MX):MX:=fun ρ=>(c ρ).bind fun p=>if p.1 then a p.2 else none
noncomputable def fX (N:Nat)(x:MX):List D->Option Str:=fun ds=>x (ds.map .val++List.replicate (N-ds.length) .emp)
section
variable {X:Cx} {S:St->Prop} {E:XK} {x:Str} {p pos:Pos} {e:Expr} {es:List Expr} {ma:MA} {k k' n:Nat} {F:List D->Option Str} {mx:MX}
theorem xs_if {a b:List Stmt}(hc:STt X c mc)(ha:XSs X S E a mx):XS X S E (.If c a b pos) (xIf mc mx):=by
 obtain⟨tc,pc,sc⟩:=hc
 obtain⟨t,pt,st⟩:=ha
 refine⟨_,ps_if (u:=fun _ _ _=>False) pc pt (fun _ _ _ _ _ _ h=>h.elim),fun B G H σ ρ c I hS hm w D=>?_⟩
 obtain⟨⟨b,ρ1⟩,e1,hm⟩:=zah hm
 refine sc B G H σ ρ b ρ1 _ I e1 fun G1 H1 I1 f1=>?_
 cases b with
 |true=>rw[if_pos rfl];exact st B G1 H1 σ ρ1 c I1 hS (by simpa using hm) w D
 |false=>simp at hm
theorem zlo {st:Stmt}{rest:List Stmt}(h:XS X S E st mx):XSs X S E (st::rest) mx:=by
 obtain⟨t,pt,so⟩:=h
 exact⟨_,zlz (u:=fun _ _ _=>False) pt (fun _ _ _ _ _ _ h=>h.elim),fun B G H σ ρ c I hS hm w D=>so B G H σ ρ c I hS hm w _⟩
end
noncomputable abbrev bmV:List Value:=[.type "ValueError",.type "Exception",.type "BaseException",.type "object"]
theorem ns_ok {N:Addr}{ep:Nat}{sl:Array (Option Value)}(l:K.lookup N=some ⟨cN,dN,.dict es.toArray ep,sl⟩)(o:(es.all fun e=>match e.key with
  | .str _ _=>true
  |_=>false)=true):W.nsOkIn K N=true:=by
 unfold W.nsOkIn
 have l':List.lookup N K=some ⟨cN,dN,.dict es.toArray ep,sl⟩:=l
 rw[l']
 dsimp only
 rw[List.all_toArray]
 exact o
noncomputable def OwnK (K:W.Frag)(C:Addr):Prop:=∀(h:Heap) (mg:Str->Option Value) (x:Str),K.In h->mg x=some (.ref C)->OwnCls x C bmV "ValueError.__new__" mg h
theorem ownK_two {C CS N NS:Addr}{nm q nmS qS:Str}{bs bsS:List Value}{hdct hS:Bool}{sn snS:List Str}{sub subS:List Value}{ab abS:Bool}{col colS:Option Bool}{dd ddS:Option Addr}{k0 k1 k2 k3 k5 j0 j1 j2 j3 j5:Option Value}
  (l1:K.lookup C=some (excClassObj nm q C N bs (.ref CS::bmV) hdct sn sub ab col dd k0 k1 k2 k3 k5 "ValueError.__new__")) (l2:K.lookup CS=some (excClassObj nmS qS CS NS bsS bmV hS snS subS abS colS ddS j0 j1 j2 j3 j5 "ValueError.__new__"))
  (i1:W.nsIn K N "__init__"=some none) (i2:W.nsIn K NS "__init__"=some none) (o1:W.nsOkIn K N=true) (o2:W.nsOkIn K NS=true):OwnK K C:=fun h mg x kin hm=>
 ⟨hm,.ref CS::bmV,N,nm,q,bs,hdct,sn,sub,ab,col,dd,k0,k1,k2,k3,k5,h.nsMap N,kin _ _ l1,Heap.Ns.of_isNs (W.isNs_of_in kin o1),W.nsMap_none_of_in kin o1 i1,
  .own (kin _ _ l2) (Heap.Ns.of_isNs (W.isNs_of_in kin o2)) (W.nsMap_none_of_in kin o2 i2) .base⟩
section
variable {X:Cx} {E:XK} {S:St->Prop}
noncomputable abbrev RaiOk (K:W.Frag)(mg:Str->Option Value)(c:Str):Prop:=∃C,mg c=some (.ref C)/\CName K c C/\OwnK K C
end
section
variable {P:Program} {w:World} {K:W.Frag} {mg:Str->Option Value} {base:Heap}
theorem cx_top {scope:Scope}{E:XK}:TopF (cxOf (CX1 P w) P w K mg base N qual scope f cd A outer s H E):=⟨rfl,rfl,rfl⟩
theorem fnX_ok {x qual:Str}{st:Stmt}{N ps:List Str}{k n:Nat}{m:MX}(F:Fun K x qual st f fd)(S:FnScope N ps (zaB st))(hn:ps.length=n)(hN:n<=N.length)
  (body:∀(cdv:Value) (A:Around) (outer:List Env) (s:Shared) (H:Hp) (E:XK),Room k (A.deeper (envOfC qual (zaB st) s.heap.objs.size f cdv))->XSs (cxOf (CX1 P w) P w K mg base N qual (zaB st) f cdv A outer s H E) (fun _=>True) E (zbD st) m):
  FnOk P w K mg base (CX1 P w) (k+1) f fd ps (spX K n (fX N.length m)):=by
 obtain⟨oc,od,kV,doc,pm,an,cdv,ct,osl,rfl,lk,hcd⟩:=F.ex
 refine fn_of lk hcd S (fun vs H Q E h=>?_) fun A outer s H vs Q E hr h=>?_
 ·obtain⟨G,ds,c,_,h2,_,h4,_⟩:=h
  rw[h4.length,h2,hn]
 ·obtain⟨G,ds,c,e1,h2,fz,h4,kk⟩:=h
  obtain⟨t,pt,so⟩:=body cdv A outer s H E hr
  exact⟨t,pt,so ⟨G,H,[]⟩ G H (L2.start N vs) _ c (SI.start fz h4 (by lia)) trivial e1 (fun H' C kp hC=>kk H' C (fun b o q=>kp b o q (by simp)) hC) _⟩
end
theorem boot_set:bootBuiltins "set"=some (.type "set"):=by decide+kernel
noncomputable def zgV (mc:MT)(mb:MS):Nat->MS
 |0,_=>none
 |n+1,ρ=>(mc ρ).bind fun p=>if p.1 then(mb p.2).bind fun q=>match q.1 with
  | .next=>zgV mc mb n q.2
  | .cont=>zgV mc mb n q.2
  | .brk=>some (.next,q.2)
  | .ret r=>some (.ret r,q.2)
  else some (.next,p.2)
theorem ss_while {mb:MS}(fuel:Nat)(hp:PassesOwn (model X.prog X.w) X.A X.env X.xe)(hc:STt X c mc)(hb:SSs X body mb):SS X (.While c body [] pos) (zgV mc mb fuel):=by
 obtain⟨tc,pc,sc⟩:=hc
 obtain⟨tb,pb,sb⟩:=hb
 refine⟨_,ps_while hp pc pb,fun B G H σ ρ fl ρ' E I hm k=>?_⟩
 refine⟨fun m σ' H'=>∃G' ρ1,SI X.K B G' H' σ' ρ1/\Fz G G'/\zgV mc mb m ρ1=some (fl,ρ'),⟨fuel,G,ρ,I,Fz.refl G,hm⟩,fun m σ1 H1 w=>?_⟩
 obtain⟨G1,ρ1,I1,f1,e1⟩:=w
 cases m with
 |zero=>cases e1
 |succ m=>
  obtain⟨⟨b,ρ2⟩,e2,e1⟩:=zah e1
  refine sc B G1 H1 σ1 ρ1 b ρ2 _ I1 e2 fun G2 H2 I2 f2=>?_
  dsimp only at e1
  cases b with
  |false=>
   rw[if_neg (by simp)]at e1 ⊢
   cases e1
   exact k G2 H2 σ1 I2 (f1.trans f2)
  |true=>
   rw[if_pos rfl]at e1 ⊢
   obtain⟨⟨f,ρ3⟩,e3,e1⟩:=zah e1
   refine⟨fun σ' H'=>∃G' ρ1,SI X.K B G' H' σ' ρ1/\Fz G G'/\zgV mc mb m ρ1=some (fl,ρ'),fun σ' H' h=>⟨m,Nat.lt_succ_self m,h⟩,?_⟩
   refine sb B G2 H2 σ1 ρ2 f ρ3 _ I2 e3 ?_
   have ff:=f1.trans f2
   cases f with
   |next=>exact fun G' H' σ' I3 f3=>⟨G',ρ3,I3,ff.trans f3,e1⟩
   |cont=>exact fun G' H' σ' I3 f3=>⟨G',ρ3,I3,ff.trans f3,e1⟩
   |brk=>cases e1;exact fun G' H' σ' I3 f3=>k G' H' σ' I3 (ff.trans f3)
   |ret r=>cases e1;exact fun G' H' σ' v I3 f3 rr=>k G' H' σ' v I3 (ff.trans f3) rr
section
variable {X:Cx} {E:XK} {S:St->Prop}
theorem zok {c m:Str}{np cp cpos pos:Pos}{j:Nat}(tp:TopF X)(hxe:X.xe=zn6 X E)(hgl:X.env.globals=mainGlobals)(hc:X.calm=true)(hr:RaiOk X.K X.mg c)
  (hg:autoParam (Gl X c) zu2._auto_1) (hd:autoParam ((c==("__debug__":Str))=false) zu1._auto_1)
  (he:autoParam (starEach [Expr.Constant (.str m) j cp] X.env=(false,eval (.Constant (.str m) j cp) X.env)::starEach [] X.env) zu2._auto_1) (hpl:autoParam (((backTo cpos (starEach [] X.env)).any (·.1))=false) zu2._auto_1):
  XS X S E (.Raise (some (.Call (.Name c np) [.Constant (.str m) j cp] [] cpos)) none pos) (fun _=>some c):=by
 obtain⟨C,hm,hn,hC⟩:=hr
 refine⟨fun D σ H=>E (.ref C) none H,fun pins s σ H D I h=>?_,fun B G H σ ρ c' I hS hm' w D=>?_⟩
 ·obtain⟨mm,fr⟩:=I.fr
  have own:=hC X.base X.mg c I.ok.mod.kin hm
  have pa:=(zdm (X:=X) (pe_str (X:=X) (x:=m) (j:=j) (pos:=cp)) zg0 he) cpos pins s σ H (fun vs H1=>vs.length=1/\H1=H) I ⟨rfl,rfl⟩
  have kd:X.env.kindOf c=some .globalImplicit:=hg
  have gl:=I.ok.mod.glob.keeps fr.keep
  rw[<-hgl]at gl
  obtain⟨v1,v2,v3,v4,v5,v6,v7,v8,v9,v10,v11,v12,v13,v14,v15,v16,v17,o1,o2,o3,o4⟩:=own.obj
  refine wpAny_Raise_call_subT (bm:=v1) (N:=v2) (nm:=v3) (q:=v4) (bs:=v5) (hdct:=v6) (sn:=v7) (sub:=v8) (ab:=v9) (col:=v10) (dd:=v11) (k0:=v12) (k1:=v13) (k2:=v14) (k3:=v15) (k5:=v16) F.excBase_ValueError (o4.hasType F.excBase_ValueError.hasBase) (I.ok.hd hc) ?pl o3 (Calls.Name_function_global I.ok.kind kd (Calls.loadGlobal_global gl own.bound ⟨rfl,?_⟩) hd)
  case pl=>rw[he];exact hpl
  rw[he]at pa ⊢
  refine Calls.evalArgs_plain (wpAny_mono pa (fun us s2 ⟨vs,H1,I1,r,q1,q2⟩=>?_) fun _ _ q=>q)
  subst q2
  refine⟨rfl,?_,I1.bk _ _ o1,o2.keeps I1.bk,o4.keeps I1.bk,fun h' e mk=>raises1 (tk:=s2.toks) tp hxe I1 mk h⟩
  rw[<-r.length,q1];decide
 ·cases hm'
  exact w H C (fun b o q hn=>I.keep b o q hn) hn
end
end M
namespace M
open L2 PySem
noncomputable def likeS:Sl->Sl->Bool
 | .own ds,.own es=>match zbl ds,zbl es with
  |some a,some b=>a==b
  |_,_=>false
 | .par ds,.par es=>match zbl ds,zbl es with
  |some a,some b=>a==b
  |_,_=>false
 | .own _,_=>false
 | .par _,_=>false
 | .tre _,_=>false
 | .ptr _,_=>false
 |_,_=>true
end M
namespace M
open L2 PySem PySem.Spec
open PyProof.Rows hiding St
noncomputable def Sl.putT (s:Sl)(t:T):Sl:=match s with
 | .tre _=> .tre t
 | .ptr _=> .ptr t
 |s=>s
noncomputable def Sl.tree:Sl->Option T
 | .tre t=>some t
 | .ptr t=>some t
 |_=>none
noncomputable def Sl.dic:Sl->Option (List Int×List D)
 | .tre (.dic ks ds)=>some (ks,ds)
 | .ptr (.dic ks ds)=>some (ks,ds)
 | .val (.dic ks ds)=>some (ks,ds)
 |_=>none
noncomputable def fzD (j:Nat)(ρ:R):R:=match ρ[j]? with
 |some (.tre (.dic ks ds))=>ρ.set j (.val (.dic ks ds))
 |_=>ρ
noncomputable def Ch.sl:Ch->Sl
 | .d x=> .val x
 | .l ds=> .own ds
 | .t xss=> .tre (.lst (xss.map .l))
noncomputable def putCs:List Nat->List Ch->R->R
 |i::is,c::cs,ρ=>putCs is cs (ρ.set i c.sl)
 |_,_,ρ=>ρ
end M
namespace M
open L2 PySem PySem.Spec
open PyProof.Rows hiding St
open Classical in
noncomputable def fMT (N:Nat)(m:MS):List D->T->List D->Option (Sl×List D):=fun cs t ds=>(m (.par cs:: .tre t::(ds.map .val++List.replicate (N-(ds.length+2)) .emp))).bind fun p=>match p.1,(p.2[0]?:Option Sl)with
 |Fl.ret r,some (Sl.par out)=>some (r,out)
 |Fl.next,some (Sl.par out)=>some (.val .non,out)
 |_,_=>none
noncomputable abbrev MP':=R->Option (List Ch×R)
end M
namespace M
open L2 PySem PySem.Spec
open PyProof.Rows hiding St
noncomputable def Ch.D:Ch->M.D
 | .d x=>x
 | .l ds=> .lst ds
 | .t xss=> .lst (xss.map .lst)
noncomputable def sTA (i j:Nat):MS:=fun ρ=>match ρ[i]?,ρ[j]? with
 |some (.tre (.lst cs)),some (.own ds)=>if cs.length<16777216 then some (.next,(ρ.set j .emp).set i (.tre (.lst (cs++[.l ds]))))else none
 |_,_=>none
noncomputable abbrev MQ:=R->Option D
noncomputable def fzT (j:Nat)(ρ:R):R:=match ρ[j]? with
 |some (.tre (.lst cs))=>ρ.set j (.val (.lst (cs.map Ch.D)))
 |_=>ρ
section
variable {X:Cx} {x y:Str} {pos p' q' tpos:Pos}
variable {e:Expr} {es:List Expr} {ma:MA} {k k' n:Nat} {F:List D->Option Sl}
variable {a b:Expr} {mi mk:MQ}
noncomputable def sPar (i j:Nat)(ma:MA):MS:=fun ρ=>(ma ρ).bind fun p=>match p.1 with
 |[c,d]=>some (.next,(p.2.set i (.val c)).set j (.val d))
 |_=>none
theorem ss_par (i j:Nat){kt k2:Nat}{pt pt2:Pos}(hij:i≠j)(hc:X.calm=true)(ha:SA X [a,b] ma)(hN:X.N.Nodup)(hi:autoParam (X.N[i]? =some x) zu2._auto_1)(hj:autoParam (X.N[j]? =some y) zu2._auto_1)(hx:autoParam (X.env.scope.names.lookup x=some .local) zu2._auto_1)(hy:autoParam (X.env.scope.names.lookup y=some .local) zu2._auto_1)
  (hw:autoParam (swappedStores [.Tuple [.Name x p',.Name y q'] kt pt] (.Tuple [a,b] k2 pt2) X.env=pure (some [x,y])) zu2._auto_1) (hs:autoParam (swapsWithSole [.Tuple [.Name x p',.Name y q'] kt pt] (.Tuple [a,b] k2 pt2) pos.line X.env=pure false) zu2._auto_1):
  SS X (.Assign [.Tuple [.Name x p',.Name y q'] kt pt] (.Tuple [a,b] k2 pt2) pos) (sPar i j ma):=by
 obtain⟨t,pa,sa⟩:=ha
 refine⟨_,ps_par hc hN hi hj hij hx hy pa hw hs,fun B G H σ ρ fl ρ' E I hm k=>?_⟩
 obtain⟨⟨as,ρ1⟩,e1,hm⟩:=zah hm
 refine sa B G H σ ρ as ρ1 _ I e1 fun G1 H1 vs I1 f1 r1=>?_
 dsimp only at hm
 split at hm
 ·rename_i c d
  cases hm
  obtain⟨v,w,rfl,rv,rw'⟩:=r1.two
  exact⟨v,w,rfl,k G1 H1 _ ((I1.set rv).set rw') f1⟩
 ·cases hm
end
end M
namespace M
local macro_rules | `(tactic| ac_rfl) => `(tactic| first | exact M.nA (by decide) | exact M.nB (by decide) | exact M.nC (by decide) | exact M.nL (by assumption) | exact Nat.ne_of_lt (by assumption) | lia)
open L2 PySem PySem.Spec
open PyProof.Rows hiding St
open Sem (wp)
variable {a b u:Value} {Q E:Value->Shared->Prop} {i:Nat} {prog:Program} {w:World} {A:Around} {s:Shared} {tg:Expr} {K:W.Frag} {X:Cx} {p pos:Pos}
noncomputable abbrev zdw (h:Heap)(z TI TO:Addr)(f0:Value)(b:Bool):Prop:=h.get? z=some {cls:= .type "zip",data:= .fields #[f0,.bool b,.bool false,.ref TI,.ref TO]}
noncomputable def ZipAt (h:Heap)(z TI TO:Addr):Prop:=∃f0 b,zdw h z TI TO f0 b/\(f0= .none\/∃T:Nat,f0=rawInt T)
section
variable {prog:Program} {w:World} {A:Around} {E:Value->Shared->Prop} {s:Shared}
theorem znQ {a:Addr}{Q:Option Obj->Shared->Prop}(h:Q (s.heap.get? a) s):wpAny (model prog w) A (loadIfAlive a) Q E s:=fun Γ p hΓ=>by
 show Sem.wp _ _ (Sem.loadIfAlive a Sem.pure) _ _ p s
 rw[Sem.wp_loadIfAlive]
 exact(wpAny_pure (M:=model prog w) (A:=A) (E:=E) h) Γ p hΓ
theorem znC {z TI TO:Addr}{f0:Value}{b:Bool}(hz:zdw s.heap z TI TO f0 b)(hf:f0= .none\/∃T:Nat,f0=rawInt T){Q:Bool->Shared->Prop}(h1:Q true s)
  (h2:∀h',zdw h' z TI TO f0 true->Heap.SameBut z s.heap h'->Q false {s with heap:=h'}):wpAny (model prog w) A (Builtin.SmallTypes.ownedTupleIsFree (.ref z)) Q E s:=by
 unfold Builtin.SmallTypes.ownedTupleIsFree
 refine wpAny_bind (wpAny_field hz rfl (x:=f0) rfl ?_)
 rcases hf with rfl|⟨T,rfl⟩
 ·exact wpAny_pure h1
 ·refine(?_:wpAny _ _ (loadIfAlive _>>=_) _ _ _)
  refine wpAny_bind (znQ ?_)
  cases e:s.heap.get? (T:Int).toNat with
  |none=>exact wpAny_pure h1
  |some o=>
   refine(?_:wpAny _ _ (field (.ref z) 1>>=_) _ _ _)
   refine wpAny_bind (wpAny_field hz rfl (x:= .bool b) rfl ?_)
   cases b
   ·refine(?_:wpAny _ _ (setField (.ref z) 1 (.bool true)>>=_) _ _ _)
    exact wpAny_bind (wpAny_setField_rec hz (by simp) fun g1 z1 s1=>wpAny_pure (h2 g1 z1 s1))
   ·exact wpAny_pure (h2 s.heap hz ⟨rfl,fun _ _=>rfl⟩)
variable {N a1 a2:Nat} {n1 n2:Nat} {P1 P2:Nat->Value->Prop} {S1 S2:Nat->Heap->Prop}
theorem zml (D1:Draws prog w A N [N,a1] n1 P1 S1)(D2:Draws prog w A (N+1) [N+1,a2] n2 P2 S2)(l1:a1<N)(l2:a2<N)
  (hz':ZipAt s.heap (N+4) (N+2) (N+3)) (hTI:IsPair s.heap (N+2) (.ref N) (.ref (N+1))) (hTO:IsPair s.heap (N+3) a b) (h1:S1 i s.heap) (h2:S2 i s.heap) (i1:i<n1) (i2:i<n2)
  (k : ∀ x y h' tk, P1 i x -> P2 i y -> ZipAt h' (N + 4) (N + 2) (N + 3) -> (∃ a b, IsPair h' (N + 3) a b) -> S1 (i + 1) h' -> S2 (i + 1) h' -> IsPair h' s.heap.objs.size x y ->
   (∀c o,c≠N->c≠N+1->c≠N+3->c≠N+4->s.heap.get? c=some o->h'.get? c=some o)->Q (.ref s.heap.objs.size) {s with heap:=h',toks:=tk}):
  wpAny (model prog w) A (Builtin.«zip.__next__» ⟨[.ref (N+4)],[]⟩) (fun fin s'=>∃v,fin= .done (.ret v)/\Q v s') E s:=by
 obtain⟨f0,bb,hz,hf⟩:=hz'
 refine(?_:wpAny _ _ (field (.ref (N+4)) 2>>=_) _ _ _)
 refine wpAny_bind (wpAny_field hz rfl (x:= .bool false) rfl (?_:wpAny _ _ (field (.ref (N+4)) 3>>=_) _ _ _))
 refine wpAny_bind (wpAny_field hz rfl (x:= .ref (N+2)) rfl (wpAny_bind (wpAny_seqItems hTI rfl (?_:wpAny _ _ (Builtin.SmallTypes.ownedTupleIsFree (.ref (N+4))>>=_) _ _ _))))
 refine wpAny_bind (znC hz hf ?_ fun g0 z0 s0=>?_)
 ·simp only[if_true]
  refine wpAny_bind (wpAny_rule (wpAny_bind (wpAny_field hz rfl (x:= .ref (N+3)) rfl (wpAny_bind (wpAny_setField_rec hz (by simp) fun g1 z1 s1=>wpAny_bind ?_)))))
  replace z1:zdw g1 (N+4) (N+2) (N+3) .ellipsis bb:=z1
  simp only[List.zipIdx_cons,List.zipIdx_nil,List.forIn_cons,List.forIn_nil]
  refine wpAny_bind (wpAny_bind (wpAny_onRaise (?_:wpAny _ _ (Builtin.SmallTypes.nextOf (.ref N)>>=_) _ _ _)))
  have e1:S1 i g1:=D1.frame _ _ _ h1 fun b hb o e=>(s1.2 b (nin2 hb (by ac_rfl) (by ac_rfl))).trans e
  refine wpAny_bind (D1.item i _ _ _ i1 e1 fun x g2 t2 p1 f2 s2=>wpAny_pure ?_)
  have q2:IsPair g2 (N+3) a b:=(s2.2 _ (ne_ (by ac_rfl))).trans ((s1.2 _ (ne_ (by ac_rfl))).trans hTO)
  refine wpAny_bind (wpAny_seqItems q2 rfl (wpAny_bind (wpAny_updateSeq_pair q2 fun g3 q3 s3=>wpAny_bind (wpAny_letGo (wpAny_pure ?_)))))
  replace q3:IsPair g3 (N+3) x b:=q3
  refine wpAny_bind (wpAny_bind (wpAny_onRaise (?_:wpAny _ _ (Builtin.SmallTypes.nextOf (.ref (N+1))>>=_) _ _ _)))
  have e3:S2 i g3:=D2.frame _ _ _ h2 fun b hb o e=>(s3.2 b (nin2 hb (by ac_rfl) (by ac_rfl))).trans ((s2.2 b (nin2 hb (by ac_rfl) (by ac_rfl))).trans ((s1.2 b (nin2 hb (by ac_rfl) (by ac_rfl))).trans e))
  refine wpAny_bind (D2.item i _ _ _ i2 e3 fun y g4 t4 p2 f4 s4=>wpAny_pure ?_)
  have q4:IsPair g4 (N+3) x b:=(s4.2 _ (ne_ (by ac_rfl))).trans q3
  refine wpAny_bind (wpAny_seqItems q4 rfl (wpAny_bind (wpAny_updateSeq_pair q4 fun g5 q5 s5=>wpAny_bind (wpAny_letGo (wpAny_pure (wpAny_pure ?_))))))
  replace q5:IsPair g5 (N+3) x y:=q5
  have sz:g5.objs.size=s.heap.objs.size:=by rw[s5.1,s4.1,s3.1,s2.1,s1.1]
  have z5:zdw g5 (N+4) (N+2) (N+3) .ellipsis bb:=(s5.2 _ (ne_ (by ac_rfl))).trans ((s4.2 _ (ne_ (by ac_rfl))).trans ((s3.2 _ (ne_ (by ac_rfl))).trans ((s2.2 _ (ne_ (by ac_rfl))).trans z1)))
  have zl:(N+4:Nat)<g5.objs.size:=Heap.lt_size z5
  have k5:∀c o,c≠N->c≠N+1->c≠N+3->c≠N+4->s.heap.get? c=some o->g5.get? c=some o:=fun c o c1 c2 c3 c4 e=>(s5.2 c c3).trans ((s4.2 c c2).trans ((s3.2 c c3).trans ((s2.2 c c1).trans ((s1.2 c c4).trans e))))
  have f5:S1 (i+1) g5:=D1.frame _ _ _ f2 fun b hb o e=>(s5.2 b (nin2 hb (by ac_rfl) (by ac_rfl))).trans ((s4.2 b (nin2 hb (by ac_rfl) (by ac_rfl))).trans ((s3.2 b (nin2 hb (by ac_rfl) (by ac_rfl))).trans e))
  have f5':S2 (i+1) g5:=D2.frame _ _ _ f4 fun b hb o e=>(s5.2 b (nin2 hb (by ac_rfl) (by ac_rfl))).trans e
  refine wpAny_bind (wpAny_seqItems q5 rfl (wpAny_bind (wpAny_newTuple (?_:wpAny _ _ (Builtin.SmallTypes.ownedTupleHandOut (.ref (N+4)) (.ref g5.objs.size)>>=_) _ _ _))))
  refine wpAny_bind ?_
  unfold Builtin.SmallTypes.ownedTupleHandOut
  refine wpAny_bind (wpAny_setField_rec (show zdw (g5.push {cls:= .type "tuple",data:= .seq #[x,y]}) (N+4) (N+2) (N+3) .ellipsis bb from Heap.get?_push_of_some _ z5) (by simp) fun g7 z7 s7=>?_)
  replace z7:zdw g7 (N+4) (N+2) (N+3) (rawInt g5.objs.size) bb:=z7
  refine wpAny_setField_rec z7 (by simp) fun g8 z8 s8=>wpAny_pure ⟨_,rfl,?_⟩
  replace z8:zdw g8 (N+4) (N+2) (N+3) (rawInt g5.objs.size) false:=z8
  have up:∀c o,c≠N+4->g5.get? c=some o->g8.get? c=some o:=fun c o c1 e=>(s8.2 c c1).trans ((s7.2 c c1).trans (Heap.get?_push_of_some _ e))
  have T8:IsPair g8 g5.objs.size x y:=(s8.2 _ (ne_ (by ac_rfl))).trans ((s7.2 _ (ne_ (by ac_rfl))).trans (Heap.get?_push_size _ rfl))
  rw[sz]at z8 T8
  refine(?_:Q (.ref g5.objs.size) _)
  rw[sz]
  exact k x y g8 _ p1 p2 ⟨_,_,z8,.inr ⟨_,rfl⟩⟩ ⟨_,_,up _ _ (ne_ (by ac_rfl)) q5⟩ (D1.frame _ _ _ f5 fun b hb o e=>up b o (nin2 hb (by ac_rfl) (by ac_rfl)) e) (D2.frame _ _ _ f5' fun b hb o e=>up b o (nin2 hb (by ac_rfl) (by ac_rfl)) e) T8 fun c o c1 c2 c3 c4 e=>up c o c4 (k5 c o c1 c2 c3 c4 e)
 ·simp only[Bool.false_eq_true,if_false]
  simp only[List.forIn_toArray,List.forIn_cons,List.forIn_nil]
  have e0:S1 i g0:=D1.frame _ _ _ h1 fun b hb o e=>(s0.2 b (nin2 hb (by ac_rfl) (by ac_rfl))).trans e
  refine wpAny_bind (wpAny_bind (wpAny_bind (wpAny_holding (?_:wpAny _ _ (Builtin.SmallTypes.nextOf (.ref N)>>=_) _ _ _))))
  refine wpAny_bind (D1.item i _ _ _ i1 e0 fun x g2 t2 p1 f2 s2=>wpAny_pure (wpAny_pure ?_))
  refine wpAny_bind (wpAny_bind (wpAny_holding (?_:wpAny _ _ (Builtin.SmallTypes.nextOf (.ref (N+1))>>=_) _ _ _)))
  have e3:S2 i g2:=D2.frame _ _ _ h2 fun b hb o e=>(s2.2 b (nin2 hb (by ac_rfl) (by ac_rfl))).trans ((s0.2 b (nin2 hb (by ac_rfl) (by ac_rfl))).trans e)
  refine wpAny_bind (D2.item i _ _ _ i2 e3 fun y g4 t4 p2 f4 s4=>wpAny_pure (wpAny_pure (wpAny_pure ?_)))
  have sz:g4.objs.size=s.heap.objs.size:=by rw[s4.1,s2.1,s0.1]
  have z4:zdw g4 (N+4) (N+2) (N+3) f0 true:=(s4.2 _ (ne_ (by ac_rfl))).trans ((s2.2 _ (ne_ (by ac_rfl))).trans z0)
  have f4':S1 (i+1) g4:=D1.frame _ _ _ f2 fun b hb o e=>(s4.2 b (nin2 hb (by ac_rfl) (by ac_rfl))).trans e
  refine(?_:wpAny _ _ (newTuple [x,y]>>=_) _ _ _)
  refine wpAny_bind (wpAny_newTuple (wpAny_pure ⟨_,rfl,?_⟩))
  have k5:∀c o,c≠N->c≠N+1->c≠N+3->c≠N+4->s.heap.get? c=some o->g4.get? c=some o:=fun c o c1 c2 c3 c4 e=>(s4.2 c c2).trans ((s2.2 c c1).trans ((s0.2 c c4).trans e))
  have q4:IsPair g4 (N+3) a b:=(s4.2 _ (ne_ (by ac_rfl))).trans ((s2.2 _ (ne_ (by ac_rfl))).trans ((s0.2 _ (ne_ (by ac_rfl))).trans hTO))
  have T8:IsPair (g4.push {cls:= .type "tuple",data:= .seq #[x,y]}) g4.objs.size x y:=Heap.get?_push_size _ rfl
  rw[sz]at T8
  refine(?_:Q (.ref g4.objs.size) _)
  rw[sz]
  exact k x y _ _ p1 p2 ⟨_,_,Heap.get?_push_of_some _ z4,hf⟩ ⟨_,_,Heap.get?_push_of_some _ q4⟩ (D1.frame _ _ _ f4' fun b hb o e=>Heap.get?_push_of_some _ e) (D2.frame _ _ _ f4 fun b hb o e=>Heap.get?_push_of_some _ e) T8 fun c o c1 c2 c3 c4 e=>Heap.get?_push_of_some _ (k5 c o c1 c2 c3 c4 e)
theorem zmB {Q:Fin->Shared->Prop}(D1:Draws prog w A N [N,a1] n1 P1 S1)(D2:Draws prog w A (N+1) [N+1,a2] n2 P2 S2)(l1:a1<N)(l2:a2<N)
  (hz':ZipAt s.heap (N+4) (N+2) (N+3)) (hTI:IsPair s.heap (N+2) (.ref N) (.ref (N+1))) (hTO:IsPair s.heap (N+3) a b) (h1:S1 i s.heap) (h2:S2 i s.heap) (hi:i=n1\/(i<n1/\i=n2))
  (k:∀h' e tk,(∀c o,c≠N->c≠N+1->c≠N+3->c≠N+4->s.heap.get? c=some o->h'.get? c=some o)->(∃o,h'.get? e=some o/\o.cls= .type "StopIteration")->E (.ref e) {s with heap:=h',toks:=tk}):
  wpAny (model prog w) A (Builtin.«zip.__next__» ⟨[.ref (N+4)],[]⟩) Q E s:=by
 obtain⟨f0,bb,hz,hf⟩:=hz'
 refine(?_:wpAny _ _ (field (.ref (N+4)) 2>>=_) _ _ _)
 refine wpAny_bind (wpAny_field hz rfl (x:= .bool false) rfl (?_:wpAny _ _ (field (.ref (N+4)) 3>>=_) _ _ _))
 refine wpAny_bind (wpAny_field hz rfl (x:= .ref (N+2)) rfl (wpAny_bind (wpAny_seqItems hTI rfl (?_:wpAny _ _ (Builtin.SmallTypes.ownedTupleIsFree (.ref (N+4))>>=_) _ _ _))))
 refine wpAny_bind (znC hz hf ?_ fun g0 z0 s0=>?_)
 ·simp only[if_true]
  refine wpAny_bind (wpAny_rule (wpAny_bind (wpAny_field hz rfl (x:= .ref (N+3)) rfl (wpAny_bind (wpAny_setField_rec hz (by simp) fun g1 z1 s1=>wpAny_bind ?_)))))
  replace z1:zdw g1 (N+4) (N+2) (N+3) .ellipsis bb:=z1
  simp only[List.zipIdx_cons,List.zipIdx_nil,List.forIn_cons,List.forIn_nil]
  refine wpAny_bind (wpAny_bind (wpAny_onRaise (?_:wpAny _ _ (Builtin.SmallTypes.nextOf (.ref N)>>=_) _ _ _)))
  have e1:S1 i g1:=D1.frame _ _ _ h1 fun b hb o e=>(s1.2 b (nin2 hb (by ac_rfl) (by ac_rfl))).trans e
  rcases hi with rfl|⟨i1,rfl⟩
  ·refine wpAny_bind (D1.done _ _ _ e1 fun g2 e x2 he=>?_)
   obtain⟨oe,hoe,hce⟩:=he
   have z2:zdw g2 (N+4) (N+2) (N+3) .ellipsis bb:=x2 _ _ (ne_ (by ac_rfl)) z1
   have hez:e≠N+4:=fun x=>by subst x;rw[z2]at hoe;cases hoe;simp at hce
   exact wpAny_setField_rec z2 (by simp) fun g3 _ s3=>k g3 e _ (fun c o c1 c2 c3 c4 x=>(s3.2 c c4).trans (x2 c o c1 ((s1.2 c c4).trans x))) ⟨oe,(s3.2 _ hez).trans hoe,hce⟩
  ·refine wpAny_bind (D1.item i _ _ _ i1 e1 fun x g2 t2 p1 f2 s2=>wpAny_pure ?_)
   have q2:IsPair g2 (N+3) a b:=(s2.2 _ (ne_ (by ac_rfl))).trans ((s1.2 _ (ne_ (by ac_rfl))).trans hTO)
   refine wpAny_bind (wpAny_seqItems q2 rfl (wpAny_bind (wpAny_updateSeq_pair q2 fun g3 q3 s3=>wpAny_bind (wpAny_letGo (wpAny_pure ?_)))))
   replace q3:IsPair g3 (N+3) x b:=q3
   refine wpAny_bind (wpAny_bind (wpAny_onRaise (?_:wpAny _ _ (Builtin.SmallTypes.nextOf (.ref (N+1))>>=_) _ _ _)))
   have e3:S2 i g3:=D2.frame _ _ _ h2 fun b hb o e=>(s3.2 b (nin2 hb (by ac_rfl) (by ac_rfl))).trans ((s2.2 b (nin2 hb (by ac_rfl) (by ac_rfl))).trans ((s1.2 b (nin2 hb (by ac_rfl) (by ac_rfl))).trans e))
   refine wpAny_bind (D2.done _ _ _ e3 fun g4 e x4 he=>?_)
   obtain⟨oe,hoe,hce⟩:=he
   have z3:zdw g3 (N+4) (N+2) (N+3) .ellipsis bb:=(s3.2 _ (ne_ (by ac_rfl))).trans ((s2.2 _ (ne_ (by ac_rfl))).trans z1)
   have z4:zdw g4 (N+4) (N+2) (N+3) .ellipsis bb:=x4 _ _ (ne_ (by ac_rfl)) z3
   have hez:e≠N+4:=fun x=>by subst x;rw[z4]at hoe;cases hoe;simp at hce
   exact wpAny_setField_rec z4 (by simp) fun g5 _ s5=>k g5 e _ (fun c o c1 c2 c3 c4 x=>(s5.2 c c4).trans (x4 c o c2 ((s3.2 c c3).trans ((s2.2 c c1).trans ((s1.2 c c4).trans x))))) ⟨oe,(s5.2 _ hez).trans hoe,hce⟩
 ·simp only[Bool.false_eq_true,if_false,List.forIn_toArray,List.forIn_cons,List.forIn_nil]
  have e0:S1 i g0:=D1.frame _ _ _ h1 fun b hb o e=>(s0.2 b (nin2 hb (by ac_rfl) (by ac_rfl))).trans e
  refine wpAny_bind (wpAny_bind (wpAny_bind (wpAny_holding (?_:wpAny _ _ (Builtin.SmallTypes.nextOf (.ref N)>>=_) _ _ _))))
  rcases hi with rfl|⟨i1,rfl⟩
  ·refine wpAny_bind (D1.done _ _ _ e0 fun g2 e x2 he=>?_)
   exact k g2 e _ (fun c o c1 c2 c3 c4 x=>x2 c o c1 ((s0.2 c c4).trans x)) he
  ·refine wpAny_bind (D1.item i _ _ _ i1 e0 fun x g2 t2 p1 f2 s2=>wpAny_pure (wpAny_pure ?_))
   refine wpAny_bind (wpAny_bind (wpAny_holding (?_:wpAny _ _ (Builtin.SmallTypes.nextOf (.ref (N+1))>>=_) _ _ _)))
   have e3:S2 i g2:=D2.frame _ _ _ h2 fun b hb o e=>(s2.2 b (nin2 hb (by ac_rfl) (by ac_rfl))).trans ((s0.2 b (nin2 hb (by ac_rfl) (by ac_rfl))).trans e)
   refine wpAny_bind (D2.done _ _ _ e3 fun g4 e x4 he=>?_)
   exact k g4 e _ (fun c o c1 c2 c3 c4 x=>x4 c o c2 ((s2.2 c c1).trans ((s0.2 c c4).trans x))) he
end
theorem ZipAt.at {h h':Heap}{z TI TO:Addr}(x:ZipAt h z TI TO)(e:∀o,h.get? z=some o->h'.get? z=some o):ZipAt h' z TI TO:=by
 obtain⟨f0,b,q,r⟩:=x
 exact⟨f0,b,e _ q,r⟩
theorem zkR {z TI TO:Addr}(hz:ZipAt s.heap z TI TO)(h:Q (.ref z) s):wpAny (model prog w) A (pyIter (.ref z)) Q E s:=by
 obtain⟨f0,b,q,r⟩:=hz
 have hT:s.TypeIs (.ref z) "zip":=⟨_,q,rfl⟩
 exact wpAny_pyIter_slot hT F.slot_zip_iter (wpAny_call_entry F.slot_zip_iter hT F.entry_zip_iter (wpAny_pure ⟨.ref z,rfl,"zip",.builtin "zip.__next__",hT,F.slot_zip_next.lookup,h⟩) (F.args_zip_iter_1 (.ref z)))
theorem letGoZ {z TI TO:Addr}{Q:Unit->Shared->Prop}(hz:ZipAt s.heap z TI TO)(h1:Q () s)
  (h2:∀h',ZipAt h' z TI TO->Heap.SameBut z s.heap h'->Q () {s with heap:=h'}):wpAny (model prog w) A (letOwnedTupleGo tg (.ref z) u) Q E s:=by
 obtain⟨f0,b,q,r⟩:=hz
 have core:∀a:Addr,wpAny (model prog w) A (do
   let o<-load z
   match o.cls,o.data with
    |Value.type n,Data.fields vs=>
     if(["enumerate","zip","dict_itemiterator","dict_reverseitemiterator","odict_iterator","itertools.zip_longest","itertools.pairwise"].contains n&&vs[0]? ==some (rawInt ↑a))=true then do
      rule "for.unpacks-the-owned-tuple"
      updateField z 0 Value.none
     else pure ()
    |x,x_1=>pure ()) Q E s:=fun a=>by
  refine wpAny_bind (wpAny_load q ?_)
  dsimp only
  split
  ·refine wpAny_bind (wpAny_rule ?_)
   refine(?_:wpAny _ _ (setField (.ref z) 0 .none) _ _ _)
   exact wpAny_setField_rec q (by simp) fun g1 z1 s1=>h2 g1 ⟨_,_,z1,.inl rfl⟩ s1
  ·exact wpAny_pure h1
 unfold letOwnedTupleGo
 cases tg<;>first|exact wpAny_pure h1|(cases u<;>first|exact wpAny_pure h1|exact core _)
theorem zmc {P:Program}{w:World}(t1:Bool)(a1:Nat)(t2:Bool)(a2:Nat)(n N:Nat)(l1:a1<N)(l2:a2<N):
  Turn P w K tg (Itz2 K t1 a1 t2 a2 n) ([N,N+1,N+2,N+3,N+4]:List Nat) (N+4:Nat)
   (fun i h=>i<=n/\ZipAt h (N+4:Nat) (N+2:Nat) (N+3:Nat)/\IsPair h (N+2:Nat) (.ref N) (.ref (N+1:Nat))/\(∃a b,IsPair h (N+3:Nat) a b)/\SrcIt t1 h N a1 i/\SrcIt t2 h (N+1:Nat) a2 i) where
 mem:=by simp
 obj:=fun i h st b hb=>by
  obtain⟨-,h4,h2,⟨a,c,h3⟩,h0,h1⟩:=st
  simp only[List.mem_cons,List.not_mem_nil,or_false]at hb
  rcases hb with rfl|rfl|rfl|rfl|rfl
  ·exact h0.obj
  ·exact h1.obj
  ·exact⟨_,h2,fun v z=>by cases z⟩
  ·exact⟨_,h3,fun v z=>by cases z⟩
  ·obtain⟨f0,bb,z4,-⟩:=h4
   exact⟨_,z4,fun v z=>by cases z⟩
 keep:=fun i h h' st k=>by
  obtain⟨hi,h4,h2,⟨a,c,h3⟩,h0,h1⟩:=st
  exact⟨hi,h4.at fun o e=>k _ (by simp) o e,k _ (by simp) _ h2,⟨a,c,k _ (by simp) _ h3⟩,h0.at fun o e=>k _ (by simp) o e,h1.at fun o e=>k _ (by simp) o e⟩
 item:=by
  intro X hP hw hK hc i pins s σ H E I hf st hg
  subst hP hw hK
  obtain⟨hi,h4,h2,⟨a,c,h3⟩,h0,h1⟩:=st
  obtain⟨hn,xs,ys,q1,q2,en⟩:=hg
  obtain⟨us,ru,hu,zu⟩:=q1.heap I
  obtain⟨ws,rw',hw',zw⟩:=q2.heap I
  have lu:=ru.length
  have lw:=rw'.length
  have D1:=za4 (prog:=X.prog) (w:=X.w) (A:=X.A.in1) (t:=t1) (I.ok.hd hc) N a1 (ne_ (by ac_rfl)) us.toArray
  have D2:=za4 (prog:=X.prog) (w:=X.w) (A:=X.A.in1) (t:=t2) (I.ok.hd hc) (N+1) a2 (ne_ (by ac_rfl)) ws.toArray
  have z4:=h4
  obtain⟨f0,bb,z4,-⟩:=z4
  have hT:s.TypeIs (.ref (N+4:Nat)) "zip":=⟨_,z4,rfl⟩
  unfold pyNext
  refine wpAny_bind (wpAny_attempt (wpAny_callSpecial?_slot (name:=Str.ofString "__next__") hT F.slot_zip_next (wpAny_call_entry F.slot_zip_next hT F.entry_zip_next
   (zml D1 D2 l1 l2 h4 h2 h3 ⟨h0,hu⟩ ⟨h1,hw'⟩ (by simp;lia) (by simp;lia) fun x y h' tk p1 p2 g4 g3 g0 g1 gT kk=>wpAny_pure ?_) (F.args_zip_next_1 _))))
  obtain⟨x1,hx1⟩:∃x1,xs[i]? =some x1:=⟨xs[i]'(by lia),List.getElem?_eq_getElem _⟩
  obtain⟨x2,hx2⟩:∃x2,ys[i]? =some x2:=⟨ys[i]'(by lia),List.getElem?_eq_getElem _⟩
  obtain⟨u1,hu1,r1⟩:=ru.get hx1
  obtain⟨u2,hu2,r2⟩:=rw'.get hx2
  have e1:u1=x:=by
   have:us[i]? =some x:=by simpa using p1
   rw[hu1]at this;cases this;rfl
  have e2:u2=y:=by
   have:ws[i]? =some y:=by simpa using p2
   rw[hu2]at this;cases this;rfl
  subst e1 e2
  refine⟨_,rfl,?_⟩
  have fin:∀h'',ZipAt h'' (N+4:Nat) (N+2:Nat) (N+3:Nat)->Heap.SameBut (N+4:Nat) h' h''->∃x H',L2.Inv X pins σ H' {s with heap:=h'',toks:=tk}/\RelV x (.ref s.heap.objs.size)/\(Itz2 X.K t1 a1 t2 a2 n).yld i H x H'/\(i+1<=n/\ZipAt h'' (N+4:Nat) (N+2:Nat) (N+3:Nat)/\IsPair h'' (N+2:Nat) (.ref N) (.ref (N+1:Nat))/\(∃a b,IsPair h'' (N+3:Nat) a b)/\SrcIt t1 h'' N a1 (i+1)/\SrcIt t2 h'' (N+1:Nat) a2 (i+1))/\∀b∈([N,N+1,N+2,N+3,N+4]:List Nat),H' b=none:=fun h'' z'' sb=>by
   have lz:N+4<s.heap.objs.size:=Heap.lt_size z4
   have kk':∀b o,b∉([N,N+1,N+2,N+3,N+4]:List Nat)->s.heap.get? b=some o->h''.get? b=some o:=fun b o hb e=>by
    obtain⟨c1,c2,c3,c4⟩:=nin4 hb
    exact(sb.2 b c4).trans (kk b o c1 c2 c3 c4 e)
   have I1:=zkL (t':=tk) (vs:=[x1,x2]) (its:=[u1,u2]) I kk' hf (fun b hb=>by
    have:b=N\/b=N+1\/b=N+2\/b=N+3\/b=N+4:=by simpa using hb
    exact Nat.lt_of_le_of_lt (show(b:Nat)<=N+4 by rcases this with h|h|h|h|h<;>rw[h]<;>simp) lz) ((sb.2 _ (ne_ (by ac_rfl))).trans gT) (by simp;rw[sizeLine_eq];decide) (.cons r1 (.cons r2 .nil))
   refine⟨.ref s.heap.objs.size,_,I1,rfl,⟨_,x1,x2,I.hok.fresh (Nat.le_refl _),rfl,rfl,fun xs' ys' b1 b2=>?_⟩,⟨hn,z'',(sb.2 _ (ne_ (by ac_rfl))).trans (kk _ _ (ne_ (by ac_rfl)) (ne_ (by ac_rfl)) (ne_ (by ac_rfl)) (ne_ (by ac_rfl)) h2),(let⟨a',b',e'⟩:=g3;⟨a',b',(sb.2 _ (ne_ (by ac_rfl))).trans e'⟩),SrcIt.at g0.1 fun o e=>(sb.2 _ (ne_ (by ac_rfl))).trans e,SrcIt.at g1.1 fun o e=>(sb.2 _ (ne_ (by ac_rfl))).trans e⟩,fun b hb=>?_⟩
   ·rw[SrcSq.inj I b1 q1,SrcSq.inj I b2 q2]
    exact⟨hx1,hx2⟩
   ·have:b=N\/b=N+1\/b=N+2\/b=N+3\/b=N+4:=by simpa using hb
    rw[zaA (Nat.ne_of_lt (Nat.lt_of_le_of_lt (show(b:Nat)<=N+4 by rcases this with h|h|h|h|h<;>rw[h]<;>simp) lz))]
    exact(hf b hb).1
  exact letGoZ (s:={s with heap:=h',toks:=tk}) g4 (fin h' g4 ⟨rfl,fun _ _=>rfl⟩) fun h'' z'' sb=>fin h'' z'' sb
 done:=by
  intro X hP hw hK hc i pins s σ H E I hf st hg
  subst hP hw hK
  obtain⟨hi,h4,h2,⟨a,c,h3⟩,h0,h1⟩:=st
  obtain⟨hn,xs,ys,q1,q2,en⟩:=hg
  obtain⟨us,ru,hu,zu⟩:=q1.heap I
  obtain⟨ws,rw',hw',zw⟩:=q2.heap I
  have lu:=ru.length
  have lw:=rw'.length
  have D1:=za4 (prog:=X.prog) (w:=X.w) (A:=X.A.in1) (t:=t1) (I.ok.hd hc) N a1 (ne_ (by ac_rfl)) us.toArray
  have D2:=za4 (prog:=X.prog) (w:=X.w) (A:=X.A.in1) (t:=t2) (I.ok.hd hc) (N+1) a2 (ne_ (by ac_rfl)) ws.toArray
  have z4:=h4
  obtain⟨f0,bb,z4,-⟩:=z4
  have hT:s.TypeIs (.ref (N+4:Nat)) "zip":=⟨_,z4,rfl⟩
  unfold pyNext
  refine wpAny_bind (wpAny_attempt (wpAny_callSpecial?_slot (name:=Str.ofString "__next__") hT F.slot_zip_next (wpAny_call_entry F.slot_zip_next hT F.entry_zip_next
   (zmB D1 D2 l1 l2 h4 h2 h3 ⟨h0,hu⟩ ⟨h1,hw'⟩ (by simp;lia) fun h' e tk kk he=>?_) (F.args_zip_next_1 _))))
  obtain⟨o,ho,hce⟩:=he
  refine wpAny_bind (wpAny_isInstance (T:="StopIteration") (b:=true) ⟨o,ho,hce⟩ isSubtype_stop (wpAny_pure ⟨rfl,zi6 I (fun b o hb e=>?_) hf⟩))
  obtain⟨c1,c2,c3,c4⟩:=nin4 hb
  exact kk b o c1 c2 c3 c4 e
 self:=fun _ _ _ _ _ st h=>zkR st.2.1 h
theorem pi_zip2N {a b:Expr}{ta:TA}(hg:Gl X "zip")(hm:X.mg "zip"=none)(ha:PA X [a,b] ta)(hs:autoParam (starEach [a,b] X.env=(false,eval a X.env)::starEach [b] X.env) zu2._auto_1)(hs2:autoParam ((backTo pos (starEach [b] X.env)).any (·.1)=false) zu2._auto_1):
  PI X tg (.Call (.Name "zip" p) [a,b] [] pos) (fun σ H R=>ta σ H fun vs H1=>∃t1 a1 xs t2 a2 ys,vs=[.ref a1,.ref a2]/\SrcSq t1 X.K H1 a1 xs/\SrcSq t2 X.K H1 a2 ys/\R (Itz2 X.K t1 a1 t2 a2 (min xs.length ys.length)) H1):=by
 intro pins s σ H R I h
 refine Call_ (zgZ I hg hm zlO (PyProof.Rows.callWith_type1 (thn (ha pos pins s σ H _ I h) fun us s1 ⟨vs,H1,I1,r1,q1⟩=>?_) hs hs2))
 obtain⟨t1,a1,xs,t2,a2,ys,e,q1,q2,q⟩:=q1
 subst e
 cases r1 with
 |cons r rr=>
  cases rr with
  |cons r' rr=>
   cases rr
   cases r
   cases r'
   obtain⟨us,ru,hu,-⟩:=q1.heap I1
   obtain⟨ws,rw',hw',-⟩:=q2.heap I1
   refine znD hu hw' fun h' g4 g2 g3 g0 g1 kk=>wpAny_pyIter_zip g4 ⟨_,_,_,_,H1,rfl,I1.kept (t':=s1.toks) kk,zmc t1 a1 t2 a2 (min xs.length ys.length) s1.heap.objs.size hu.lt hw'.lt,⟨Nat.zero_le _,⟨_,_,g4,.inl rfl⟩,g2,⟨_,_,g3⟩,g0,g1⟩,fun b hb=>?_,q⟩
   have:b=s1.heap.objs.size\/b=s1.heap.objs.size+1\/b=s1.heap.objs.size+2\/b=s1.heap.objs.size+3\/b=s1.heap.objs.size+4:=by simpa using hb
   have le:s1.heap.objs.size<=b:=by rcases this with h|h|h|h|h<;>rw[h]<;>simp
   exact I1.fpOk le (I1.hok.fresh le)
theorem zhc {a b:Expr}{ma:MA}(hm:X.mg "zip"=none)(ha:SA X [a,b] ma)(hg:autoParam (Gl X "zip") zu2._auto_1)(hs:autoParam (starEach [a,b] X.env=(false,eval a X.env)::starEach [b] X.env) zu2._auto_1)(hs2:autoParam ((backTo pos (starEach [b] X.env)).any (·.1)=false) zu2._auto_1):
  SIt X tg (.Call (.Name "zip" p) [a,b] [] pos) (iZ2 ma):=by
 obtain⟨t,pa,sa⟩:=ha
 refine⟨_,pi_zip2N hg hm pa hs hs2,fun B G H σ ρ ds ρ' Q I hm k=>?_⟩
 obtain⟨⟨es,ρ1⟩,e1,h2⟩:=zah hm
 dsimp only at h2
 refine sa B G H σ ρ es ρ1 _ I e1 fun G1 H1 vs I1 f1 r1=>?_
 split at h2
 ·obtain⟨xs,ex,h2⟩:=zah h2
  obtain⟨ys,ey,h2⟩:=zah h2
  cases h2
  obtain⟨x,y,rfl,rx,ry⟩:=r1.two
  obtain⟨t1,a1,us,rfl,s1,c1⟩:=zir rx ex
  obtain⟨t2,a2,ws,rfl,s2,c2⟩:=zir ry ey
  have n1:=c1.length
  have n2:=c2.length
  refine⟨t1,a1,us,t2,a2,ws,rfl,s1 _ I1.fz,s2 _ I1.fz,k _ G1 H1 I1 f1 ⟨fun H i f hi=>?_,fun H i x H' f y d e=>?_,fun H i f hi=>?_⟩⟩
  ·exact⟨by simp[zkM]at hi;lia,us,ws,s1 _ f,s2 _ f,rfl⟩
  ·obtain⟨p,x1,x2,hp,eh,ex',q⟩:=y
   obtain⟨q1,q2⟩:=q us ws (s1 _ f) (s2 _ f)
   simp only[zkM,List.getElem?_zipWith]at e
   split at e
   ·rename_i d1 d2 g1 g2
    cases e
    obtain⟨v1,b1,r1⟩:=c1.get g1
    obtain⟨v2,b2,r2⟩:=c2.get g2
    rw[q1]at b1;cases b1
    rw[q2]at b2;cases b2
    exact .inr ⟨p,_,_,hp,eh,ex',rfl,⟨_,_,rfl,r1,_,_,rfl,r2,rfl⟩⟩
   ·cases e
  ·exact⟨by simp[zkM]at hi;lia,us,ws,s1 _ f,s2 _ f,rfl⟩
 ·cases h2
end M
namespace M
open L2 PySem PySem.Spec
open PyProof.Rows hiding St
theorem ndk {l:List Str}(h:autoParam (decide l.Nodup=true) zu10._auto_1):l.Nodup:=of_decide_eq_true h
theorem us_0 {p:List Value->Prop}(h:p []):∀us:List Value,us.length=0->p us:=fun us e=>by
 cases us with
 |nil=>exact h
 |cons=>cases e
theorem us_s {p:List Value->Prop}{n:Nat}(h:∀(a:Value) (us:List Value),us.length=n->p (a::us)):∀us:List Value,us.length=n+1->p us:=fun us e=>by
 cases us with
 |nil=>cases e
 |cons a us=>exact h a us (Nat.succ.inj e)
section
variable {P:Program} {w:World} {K:W.Frag} {mg:Str->Option Value} {base hp:Heap} {x:Str} {st:Stmt} {f:Addr}
noncomputable def FnAt (K:W.Frag)(x:Str)(st:Stmt):Prop:=∃f fd,W.nsIn K mainGlobals x=some (some (.ref f))/\Fun K x x st f fd
theorem FnAt.mk {oc:Value}{od an:Option Addr}{osl:Array (Option Value)}{kV doc pm cdv ct:Value}(a:W.nsIn K mainGlobals x=some (some (.ref f)))(l:K.lookup f=some ⟨oc,od,.func (W.fnOf x x (zeR st) (zbD st) (zaB st) .none kV doc pm an cdv ct),osl⟩)
  (c:W.codeIn K cdv x=true) (k:W.keepIn K (.ref f)=true):FnAt K x st:=⟨f,_,a,fun_mk l c k⟩
noncomputable abbrev BindsAt (x:Str)(st:Stmt)(ps:List Str):Prop:=∀(kV doc pm:Value) (an:Option Addr) (cdv ct:Value) (us:List Value),us.length=ps.length->bindArgs (W.fnOf x x (zeR st) (zbD st) (zaB st) .none kV doc pm an cdv ct) ⟨us,[]⟩=pure (ps.zip us)
theorem FnAt.law (h:FnAt K x st)(X:K.In hp)(G:hp.Ns mainGlobals mg)(hf:mg x=some (.ref f)):∃kV doc pm an cdv ct,Fun K x x st f (W.fnOf x x (zeR st) (zbD st) (zaB st) .none kV doc pm an cdv ct):=by
 obtain⟨f',fd,a,T⟩:=h
 have e:=hf.symm.trans (W.mg_of X G a)
 cases e
 obtain⟨oc,od,kV,doc,pm,an,cdv,ct,osl,rfl,lk,hcd⟩:=id T.ex
 exact⟨kV,doc,pm,an,cdv,ct,T⟩
variable {N:List Str} {k n:Nat} {m:MS}
noncomputable abbrev Bd (P:Program)(w:World)(K:W.Frag)(mg:Str->Option Value)(base:Heap)(x:Str)(st:Stmt)(N:List Str)(k:Nat)(m:MS):Prop:=∀(f:Addr) (cdv:Value) (A:Around) (outer:List Env) (s:Shared) (H:Hp) (E:XK),Room k (A.deeper (PyProof.Rows.envOfC x (zaB st) s.heap.objs.size f cdv))->N.Nodup->SSs (cxOf CX0 P w K mg base N x (zaB st) f cdv A outer s H E).nox (zbD st) m
structure DefOk (x:Str) (st:Stmt) (N:List Str) (n:Nat):Prop where
 sc:FnScope N (N.take n) (zaB st)
 len:(N.take n).length=n
 le:n<=N.length
 bs:BindsAt x st (N.take n)
theorem lawP {fd:FuncData}(F:Fun K x x st f fd)(b:Bd P w K mg base x st N k m)(d:DefOk x st N n:=by exact⟨⟨rfl,rfl,rfl,by decide+kernel,rfl,by decide+kernel,by decide+kernel⟩,rfl,by decide,fun _ _ _ _ _ _=>by first|exact us_s fun _=>us_0 rfl|exact us_s fun _=>us_s fun _=>us_0 rfl|exact us_s fun _=>us_s fun _=>us_s fun _=>us_0 rfl|exact us_s fun _=>us_s fun _=>us_s fun _=>us_s fun _=>us_0 rfl|exact us_0 rfl|exact us_s fun _=>us_s fun _=>us_s fun _=>us_s fun _=>us_s fun _=>us_0 rfl⟩):FnOk P w K mg base CX0 (k+1) f fd (N.take n) (spP K n (fP N.length m)):=fnP_ok F d.sc d.len d.le fun cdv A outer s H E hr=>b _ cdv A outer s H E hr d.sc.nd
theorem fdP (X:K.In hp)(G:hp.Ns mainGlobals mg)(h:FnAt K x st)(b:Bd P w K mg base x st N k m)(d:DefOk x st N n:=by exact⟨⟨rfl,rfl,rfl,by decide+kernel,rfl,by decide+kernel,by decide+kernel⟩,rfl,by decide,fun _ _ _ _ _ _=>by first|exact us_s fun _=>us_0 rfl|exact us_s fun _=>us_s fun _=>us_0 rfl|exact us_s fun _=>us_s fun _=>us_s fun _=>us_0 rfl|exact us_s fun _=>us_s fun _=>us_s fun _=>us_s fun _=>us_0 rfl|exact us_0 rfl|exact us_s fun _=>us_s fun _=>us_s fun _=>us_s fun _=>us_s fun _=>us_0 rfl⟩):FD P w K mg base (k+1) x (spP K n (fP N.length m)):=
 let⟨f,fd,a,T⟩:=h
 ⟨⟨f,fd,_,fnP_ok T d.sc d.len d.le fun cdv A outer s H E hr=>b _ cdv A outer s H E hr d.sc.nd,W.mg_of X G a,T.kp,T.binds d.bs⟩⟩
theorem fdM (X:K.In hp)(G:hp.Ns mainGlobals mg)(h:FnAt K x st)(b:Bd P w K mg base x st N k m)(d:DefOk x st N n:=by exact⟨⟨rfl,rfl,rfl,by decide+kernel,rfl,by decide+kernel,by decide+kernel⟩,rfl,by decide,fun _ _ _ _ _ _=>by first|exact us_s fun _=>us_0 rfl|exact us_s fun _=>us_s fun _=>us_0 rfl|exact us_s fun _=>us_s fun _=>us_s fun _=>us_0 rfl|exact us_s fun _=>us_s fun _=>us_s fun _=>us_s fun _=>us_0 rfl|exact us_0 rfl|exact us_s fun _=>us_s fun _=>us_s fun _=>us_s fun _=>us_s fun _=>us_0 rfl⟩):FD P w K mg base (k+1) x (spM K n (fM N.length m)):=
 let⟨f,fd,a,T⟩:=h
 ⟨⟨f,fd,_,fnM_ok T d.sc d.len d.le fun cdv A outer s H E hr=>b _ cdv A outer s H E hr d.sc.nd,W.mg_of X G a,T.kp,T.binds d.bs⟩⟩
theorem fdX {m:MX}(X:K.In hp)(G:hp.Ns mainGlobals mg)(h:FnAt K x st)(b:∀(f:Addr) (cdv:Value) (A:Around) (outer:List Env) (s:Shared) (H:Hp) (E:XK),Room k (A.deeper (PyProof.Rows.envOfC x (zaB st) s.heap.objs.size f cdv))->N.Nodup->XSs (cxOf (CX1 P w) P w K mg base N x (zaB st) f cdv A outer s H E) (fun _=>True) E (zbD st) m)(d:DefOk x st N n:=by exact⟨⟨rfl,rfl,rfl,by decide+kernel,rfl,by decide+kernel,by decide+kernel⟩,rfl,by decide,fun _ _ _ _ _ _=>by first|exact us_s fun _=>us_0 rfl|exact us_s fun _=>us_s fun _=>us_0 rfl|exact us_s fun _=>us_s fun _=>us_s fun _=>us_0 rfl|exact us_s fun _=>us_s fun _=>us_s fun _=>us_s fun _=>us_0 rfl|exact us_0 rfl|exact us_s fun _=>us_s fun _=>us_s fun _=>us_s fun _=>us_s fun _=>us_0 rfl⟩):FDX P w K mg base (k+1) x (spX K n (fX N.length m)):=
 let⟨f,fd,a,T⟩:=h
 ⟨⟨f,fd,_,fnX_ok T d.sc d.len d.le fun cdv A outer s H E hr=>b _ cdv A outer s H E hr d.sc.nd,W.mg_of X G a,T.kp,T.binds d.bs⟩⟩
end
variable {P:Program} {w:World} {H G:Hp} {h:Heap} {a b:Addr} {o:Obj} {xs:List (List L2.Key×Addr×Value)} {ks:List (List Int)} {ys:List (List L2.Key×V)}
noncomputable def Sl.dit:Sl->Option (List (List Int)×List D)
 | .tre (.dit ks ds)=>some (ks,ds)
 | .ptr (.dit ks ds)=>some (ks,ds)
 | .val (.dit ks ds)=>some (ks,ds)
 |_=>none
end M
namespace M
open L2 PySem PySem.Spec
open PyProof.Rows hiding St
noncomputable def fzDT (j:Nat)(ρ:R):R:=match ρ[j]? with
 |some (.tre (.dit ks ds))=>ρ.set j (.val (.dit ks ds))
 |_=>ρ
noncomputable def eCallU (F:List D->Option Sl)(ma:MA):ME:=fun ρ=>(ma ρ).bind fun p=>(F p.1).bind fun r=>match r with
 | .tre (.tup cs)=>some (.tup (cs.map Ch.D),p.2)
 |_=>none
noncomputable def fzU (j:Nat)(ρ:R):R:=match ρ[j]? with
 |some (.tre (.tup cs))=>ρ.set j (.val (.tup (cs.map Ch.D)))
 |_=>ρ
noncomputable def turnT (g:D->R->Option R)(mt:MT)(mo:MO):D->R->Option (Option (List D)×R):=fun d ρ=>(g d ρ).bind fun ρ1=>(mt ρ1).bind fun p=>if p.1 then(mo p.2).bind fun q=>if zdn q.2 then some (some q.1,q.2)else none else if zdn p.2 then some (none,p.2)else none
noncomputable def rowsOf:List Ch->Option (List (List D))
 |[]=>some []
 | .l ds::cs=>(rowsOf cs).map (ds:: ·)
 |_=>none
noncomputable def znI (b c:Nat)(ρ:R):Bool:=match ρ[b]?,ρ[c]? with
 |some (.par _),some (.par _)=>zdn ((ρ.set b .emp).set c .emp)
 |_,_=>false
noncomputable def turnQ (b c:Nat)(g:D->R->Option R)(mt:MT)(me:ME):D->R->Option (Option D×R):=fun d ρ=>(g d ρ).bind fun ρ1=>(mt ρ1).bind fun p=>if p.1 then(me p.2).bind fun q=>if znI b c q.2 then some (some q.1,q.2)else none else if znI b c p.2 then some (none,p.2)else none
end M
namespace M
open PySem PySem.W
open PyProof.Rows (bubble mirror bubble_size bubble_perm mirror_size mirror_perm getElem?_bubble getElem?_mirror_all)
variable {cmp:Nat->Nat->(Bool->Shared->Prop)->Shared->Prop} {s:Shared} {a b i j n m k:Nat} {p q:Array Nat}
noncomputable def kGd (n:Nat)(lt:Nat->Nat->Bool){α:Type}:KasT α->(α->Prop)->Prop
 | .ret a,Q=>Q a
 | .ask i j k,Q=>i<n/\j<n/\kGd n lt (k (lt i j)) Q
noncomputable def kRun (lt:Nat->Nat->Bool){α:Type}:KasT α->α
 | .ret a=>a
 | .ask i j k=>kRun lt (k (lt i j))
section
variable {n:Nat} {lt:Nat->Nat->Bool} {α β:Type}
theorem ze0 {f:α->KasT β}{Q:β->Prop}:∀{t:KasT α},kGd n lt t (fun a=>kGd n lt (f a) Q)->kGd n lt (t.bind f) Q
 | .ret _,h=>h
 | .ask _ _ _,⟨h1,h2,h3⟩=>⟨h1,h2,ze0 h3⟩
theorem zb2 {Q Q':α->Prop}(q:∀a,Q a->Q' a):∀{t:KasT α},kGd n lt t Q->kGd n lt t Q'
 | .ret a,h=>q a h
 | .ask _ _ _,⟨h1,h2,h3⟩=>⟨h1,h2,zb2 q h3⟩
theorem zk5 {Q:α->Prop}:∀{t:KasT α},kGd n lt t Q->Q (kRun lt t)
 | .ret _,h=>h
 | .ask i j k,⟨_,_,h3⟩=>zk5 (t:=k (lt i j)) h3
theorem kGd_wp {Q0:α->Prop}{Q:α->Shared->Prop}(hc:∀i j C,i<n->j<n->C (lt i j) s->cmp i j C s):
  ∀{t:KasT α},kGd n lt t Q0->Q (kRun lt t) s->t.kasWp cmp Q s
 | .ret _,_,h=>h
 | .ask i j k,⟨h1,h2,h3⟩,h=>hc i j _ h1 h2 (kGd_wp (t:=k (lt i j)) hc h3 h)
end
structure Ord (lt:Nat->Nat->Bool):Prop where
 tr:∀a b c,lt b a=false->lt c b=false->lt c a=false
 as:∀a b,lt a b=true->lt b a=false
theorem Ord.rf {lt:Nat->Nat->Bool}(o:Ord lt)(a:Nat):lt a a=false:=by
 cases h:lt a a with
 |false=>rfl
 |true=>rw[o.as a a h]at h;cases h
theorem Ord.lt_le {lt:Nat->Nat->Bool}(o:Ord lt){a b c:Nat}(h:lt a b=true)(k:lt c b=false):lt a c=true:=by
 cases z:lt a c with
 |true=>rfl
 |false=>rw[o.tr b c a k z]at h;cases h
noncomputable def kv (p:Array Nat)(k:Nat):Nat:=p.getD k 0
theorem zm6 (h:p[i]? =q[j]?):kv p i=kv q j:=by
 unfold kv
 rw[Array.getD_eq_getD_getElem?,Array.getD_eq_getD_getElem?,h]
structure Pm (n:Nat) (p:Array Nat):Prop where
 pm:p.toList.Perm (List.range n)
theorem Pm.size (h:Pm n p):p.size=n:=by
 have:=h.pm.length_eq
 rwa[Array.length_toList,List.length_range]at this
theorem Pm.lt (h:Pm n p)(hn:0<n)(k:Nat):kv p k<n:=by
 unfold kv
 by_cases hk:k<p.size
 ·have:p.getD k 0=p[k]:=by simp[Array.getD,hk]
  rw[this]
  exact List.mem_range.mp (h.pm.mem_iff.mp (Array.mem_toList_iff.mpr (Array.getElem_mem hk)))
 ·have:p.getD k 0=0:=by simp[Array.getD,hk]
  rw[this];exact hn
theorem Pm.bub (h:Pm n p)(a d:Nat):Pm n (bubble p a d):=⟨(Array.perm_iff_toList_perm.mp (bubble_perm p a d)).trans h.pm⟩
theorem Pm.rev (h:Pm n p)(i j:Nat):Pm n (kas_rev p i j):=⟨(Array.perm_iff_toList_perm.mp (mirror_perm p i j _)).trans h.pm⟩
theorem znj {i j:Nat}(hj:j<=p.size)(k:Nat):kv (kas_rev p i j) k=if i<=k/\k<j then kv p (i+j-1-k)else kv p k:=by
 have h:=getElem?_mirror_all (i:=i) hj k
 split
 ·rename_i z;rw[if_pos z]at h;exact zm6 h
 ·rename_i z;rw[if_neg z]at h;exact zm6 h
theorem kv_bub {a d:Nat}(ha:a<p.size)(hd:d<=a)(k:Nat):kv (bubble p a d) k=if k=a-d then kv p a else if a-d<k/\k<=a then kv p (k-1)else kv p k:=by
 have h:=getElem?_bubble ha d hd k
 by_cases z:k=a-d
 ·rw[if_pos z]at h ⊢;exact zm6 h
 ·rw[if_neg z]at h ⊢
  by_cases y:a-d<k/\k<=a
  ·rw[if_pos y]at h ⊢;exact zm6 h
  ·rw[if_neg y]at h ⊢;exact zm6 h
section
variable {n:Nat} {lt:Nat->Nat->Bool}
noncomputable def Up (lt:Nat->Nat->Bool)(p:Array Nat)(m:Nat):Prop:=∀i,0<i->i<m->lt (kv p i) (kv p (i-1))=false
noncomputable def Dn (lt:Nat->Nat->Bool)(p:Array Nat)(m:Nat):Prop:=∀i,0<i->i<m->lt (kv p (i-1)) (kv p i)=false
noncomputable def Eqv (lt:Nat->Nat->Bool)(a b:Nat):Prop:=lt a b=false/\lt b a=false
theorem Eqv.sy (h:Eqv lt a b):Eqv lt b a:=⟨h.2,h.1⟩
theorem Eqv.tr (o:Ord lt){a b c:Nat}(h:Eqv lt a b)(k:Eqv lt b c):Eqv lt a c:=⟨o.tr c b a k.1 h.1,o.tr a b c h.2 k.2⟩
theorem Up.le (o:Ord lt)(h:Up lt p m):∀{j i:Nat},i<=j->j<m->lt (kv p j) (kv p i)=false
 |0,i,h1,_=>by cases Nat.le_zero.mp h1;exact o.rf _
 |j+1,i,h1,h2=>by
  rcases Nat.lt_or_eq_of_le h1 with z|z
  ·exact o.tr _ _ _ (Up.le o h (by lia) (by lia)) (h (j+1) (by lia) h2)
  ·subst z;exact o.rf _
theorem Dn.eqv (o:Ord lt)(h:Dn lt p m)(e:∀k,Eqv lt (kv q k) (kv p k)):Dn lt q m:=fun i h1 h2=>
 o.tr _ _ _ (e i).2 (o.tr _ _ _ (h i h1 h2) (e (i-1)).1)
theorem zkN (o:Ord lt)(hj:j<=p.size)(h:∀k,i<=k->k<j->Eqv lt (kv p k) (kv p (j-1)))(k:Nat):Eqv lt (kv (kas_rev p i j) k) (kv p k):=by
 rw[znj hj]
 split
 ·rename_i z
  exact(h _ (by lia) (by lia)).tr o (h k z.1 z.2).sy
 ·exact⟨o.rf _,o.rf _⟩
theorem Dn.turn (h:Dn lt p m)(hm:m<=p.size):Up lt (kas_rev p 0 m) m:=fun i h1 h2=>by
 rw[znj hm,znj hm,if_pos ⟨by lia,h2⟩,if_pos ⟨by lia,by lia⟩]
 have:=h (0+m-1-(i-1)) (by lia) (by lia)
 rwa[show 0+m-1-(i-1)-1=0+m-1-i by lia]at this
theorem zop (hn:0<n)(hp:Pm n p):∀(f m:Nat),1<=m->Up lt p m->kGd n lt (kas_asc p f m) fun r=>m<=r/\r<=m+f/\Up lt p r/\(r<m+f->lt (kv p r) (kv p (r-1))=true)
 |0,m,_,h=>⟨Nat.le_refl _,Nat.le_refl _,h,fun z=>absurd z (Nat.lt_irrefl _)⟩
 |f+1,m,h1,h=>by
  refine⟨hp.lt hn m,hp.lt hn (m-1),?_⟩
  show kGd n lt (if lt (kv p m) (kv p (m-1))=true then _ else _) _
  split
  ·rename_i c
   exact⟨Nat.le_refl _,by lia,h,fun _=>c⟩
  ·rename_i c
   have c':lt (kv p m) (kv p (m-1))=false:=by simpa using c
   refine zb2 (fun r hr=>⟨by lia,by lia,hr.2.2.1,fun z=>hr.2.2.2 (by lia)⟩) (zop hn hp f (m+1) (by lia) fun i a b=>?_)
   rcases Nat.lt_or_eq_of_le (Nat.le_of_lt_succ b)with z|z
   ·exact h i a z
   ·subst z;exact c'
theorem ziF (o:Ord lt)(hn:0<n):∀(f:Nat) (p:Array Nat) (m q:Nat),Pm n p->m+f<=n->q+1<=m->Dn lt p m->(∀k,m-(q+1)<=k->k<m->Eqv lt (kv p k) (kv p (m-1)))->
  kGd n lt (kas_desc f p m q) fun r=>Pm n r.1/\m<=r.2.1/\r.2.1<=m+f/\r.2.2+1<=r.2.1/\Dn lt r.1 r.2.1/\∀k,r.2.1-(r.2.2+1)<=k->k<r.2.1->Eqv lt (kv r.1 k) (kv r.1 (r.2.1-1))
 |0,p,m,q,hp,hm,hq,h,e=>⟨hp,Nat.le_refl _,Nat.le_refl _,hq,h,e⟩
 |f+1,p,m,q,hp,hm,hq,h,e=>by
  have more:∀{p':Array Nat},Dn lt p' m->lt (kv p' (m-1)) (kv p' m)=false->Dn lt p' (m+1):=fun h' c i a b=>by
   rcases Nat.lt_or_eq_of_le (Nat.le_of_lt_succ b)with z|z
   ·exact h' i a z
   ·subst z;exact c
  have one:∀{p':Array Nat} (k:Nat),m+1-(0+1)<=k->k<m+1->Eqv lt (kv p' k) (kv p' (m+1-1)):=fun k a b=>by
   obtain rfl:k=m:=by lia
   exact⟨o.rf _,o.rf _⟩
  refine⟨hp.lt hn m,hp.lt hn (m-1),?_⟩
  show kGd n lt (if lt (kv p m) (kv p (m-1))=true then(if q>0 then _ else _)else KasT.ask (kv p (m-1)) (kv p m) _) _
  split
  ·rename_i c
   have c2:=o.as _ _ c
   split
   ·have ev:=zkN o (p:=p) (i:=m-(q+1)) (j:=m) (by rw[hp.size];lia) e
    have hl:lt (kv (kas_rev p (m-(q+1)) m) (m-1)) (kv (kas_rev p (m-(q+1)) m) m)=false:=o.tr _ _ _ (ev m).2 (o.tr _ _ _ c2 (ev (m-1)).1)
    exact zb2 (fun r hr=>⟨hr.1,by lia,by lia,hr.2.2.2.1,hr.2.2.2.2⟩) (ziF o hn f _ (m+1) 0 (hp.rev _ _) (by lia) (by lia) (more (h.eqv o ev) hl) one)
   ·exact zb2 (fun r hr=>⟨hr.1,by lia,by lia,hr.2.2.2.1,hr.2.2.2.2⟩) (ziF o hn f _ (m+1) 0 hp (by lia) (by lia) (more h c2) one)
  ·rename_i c
   have c':lt (kv p m) (kv p (m-1))=false:=by simpa using c
   refine⟨hp.lt hn (m-1),hp.lt hn m,?_⟩
   show kGd n lt (if lt (kv p (m-1)) (kv p m)=true then _ else _) _
   split
   ·exact⟨hp,Nat.le_refl _,Nat.le_add_right m (f+1),hq,h,e⟩
   ·rename_i d
    have d':lt (kv p (m-1)) (kv p m)=false:=by simpa using d
    refine zb2 (fun r hr=>⟨hr.1,by lia,by lia,hr.2.2.2.1,hr.2.2.2.2⟩) (ziF o hn f p (m+1) (q+1) hp (by lia) (by lia) (more h d') fun k a b=>?_)
    rcases Nat.lt_or_eq_of_le (Nat.le_of_lt_succ b)with z|z
    ·exact(e k (by lia) z).tr o ⟨d',c'⟩
    ·subst z;exact⟨o.rf _,o.rf _⟩
noncomputable def Run (lt:Nat->Nat->Bool)(n:Nat)(r:Nat×Array Nat):Prop:=Pm n r.2/\1<=r.1/\r.1<=n/\Up lt r.2 r.1
theorem zk9 (hn:0<n)(hp:Pm n p)(h1:1<=m)(h2:m<=n)(h:Dn lt p m):kGd n lt (kas_tail3 m n p) (Run lt n):=by
 refine ze0 (zb2 (fun r hr=>?_) (zop hn (hp.rev 0 m) (n-m) m h1 (h.turn (by rw[hp.size];exact h2))))
 exact⟨hp.rev 0 m,by lia,by lia,hr.2.2.1⟩
theorem zht (o:Ord lt)(hn:0<n){p:Array Nat}(hp:Pm n p)(h1:1<=m)(h2:m<n)(h:Dn lt p (m+1)):kGd n lt (kas_descPart m n p) (Run lt n):=by
 refine ze0 (zb2 (fun r hr=>?_) (ziF o hn (n-(m+1)) p (m+1) 0 hp (by lia) (by lia) h fun k a b=>?_))
 ·obtain⟨a1,a2,a3,a4,a5,a6⟩:=hr
  split
  ·have ev:=zkN o (p:=r.1) (i:=r.2.1-(r.2.2+1)) (j:=r.2.1) (by rw[a1.size];lia) a6
   exact zk9 hn (a1.rev _ _) (by lia) (by lia) (a5.eqv o ev)
  ·exact zk9 hn a1 (by lia) (by lia) a5
 ·obtain rfl:k=m:=by lia
  exact⟨o.rf _,o.rf _⟩
theorem gd_count (o:Ord lt)(hn:0<n){p:Array Nat}(hp:Pm n p):kGd n lt (kas_count n p) (Run lt n):=by
 refine ze0 (zb2 (fun m hm=>?_) (zop hn hp (n-1) 1 (Nat.le_refl _) fun i a b=>absurd a (by lia)))
 obtain⟨a1,a2,a3,a4⟩:=hm
 split
 ·exact⟨hp,a1,by lia,a3⟩
 ·rename_i ne
  have ne':m≠n:=by simpa using ne
  have c:=a4 (by lia)
  split
  ·refine⟨hp.lt hn 0,hp.lt hn (m-1),?_⟩
   show kGd n lt (if lt (kv p 0) (kv p (m-1))=true then _ else _) _
   split
   ·exact⟨hp,a1,by lia,a3⟩
   ·rename_i d
    have d':lt (kv p 0) (kv p (m-1))=false:=by simpa using d
    have eq:∀k,0<=k->k<m->Eqv lt (kv p k) (kv p (m-1)):=fun k _ hk=>⟨o.tr _ _ _ d' (a3.le o (Nat.zero_le k) hk)|>fun z=>?_,a3.le o (by lia) (by lia)⟩
    ·have ev:=zkN o (p:=p) (i:=0) (j:=m) (by rw[hp.size];lia) eq
     refine zht o hn (hp.rev 0 m) a1 (by lia) fun i x y=>?_
     rcases Nat.lt_or_eq_of_le (Nat.le_of_lt_succ y)with z|z
     ·exact o.tr _ _ _ (ev i).2 (o.tr _ _ _ ((eq (i-1) (by lia) (by lia)).tr o (eq i (by lia) z).sy).1 (ev (i-1)).1)
     ·subst z;exact o.tr _ _ _ (ev i).2 (o.tr _ _ _ (o.as _ _ c) (ev (i-1)).1)
    ·exact o.tr _ _ _ d' (a3.le o (Nat.zero_le k) hk)
  ·obtain rfl:m=1:=by lia
   refine zht o hn hp (Nat.le_refl _) (by lia) fun i x y=>?_
   obtain rfl:i=1:=by lia
   exact o.as _ _ c
theorem ziG (o:Ord lt)(hn:0<n)(hp:Pm n p)(hu:Up lt p k):∀(f l r:Nat),l<=r->r<=k->r-l<=f->(∀i,i<l->lt (kv p k) (kv p i)=false)->(∀i,r<=i->i<k->lt (kv p k) (kv p i)=true)->
  kGd n lt (kas_place p k f l r) fun x=>x<=k/\(∀i,i<x->lt (kv p k) (kv p i)=false)/\∀i,x<=i->i<k->lt (kv p k) (kv p i)=true
 |0,l,r,h1,h2,h3,h4,h5=>by
  obtain rfl:l=r:=by lia
  exact⟨h2,h4,h5⟩
 |f+1,l,r,h1,h2,h3,h4,h5=>by
  unfold kas_place
  split
  ·obtain rfl:l=r:=by lia
   exact⟨h2,h4,h5⟩
  ·rename_i ne
   refine⟨hp.lt hn k,hp.lt hn _,?_⟩
   show kGd n lt (if lt (kv p k) (kv p ((l+r)/2))=true then _ else _) _
   split
   ·rename_i c
    refine ziG o hn hp hu f l _ (by lia) (by lia) (by lia) h4 fun i a b=>?_
    exact o.lt_le c (hu.le o a b)
   ·rename_i c
    have c':lt (kv p k) (kv p ((l+r)/2))=false:=by simpa using c
    refine ziG o hn hp hu f _ r (by lia) h2 (by lia) (fun i a=>?_) h5
    exact o.tr _ _ _ (hu.le o (i:=i) (j:=(l+r)/2) (by lia) (by lia)) c'
theorem gd_bin (o:Ord lt)(hn:0<n):∀(f:Nat) (p:Array Nat) (k:Nat),k+f=n->1<=k->Pm n p->Up lt p k->kGd n lt (kas_bin f p k) fun q=>Pm n q/\Up lt q n
 |0,p,k,h1,_,hp,hu=>by
  obtain rfl:k=n:=by lia
  exact⟨hp,hu⟩
 |f+1,p,k,h1,hk,hp,hu=>by
  refine ze0 (zb2 (fun x hx=>?_) (ziG o hn hp hu k 0 k (Nat.zero_le _) (Nat.le_refl _) (by lia) (fun i a=>absurd a (by lia)) fun i a b=>absurd a (by lia)))
  obtain⟨b1,b2,b3⟩:=hx
  have hs:k<p.size:=by rw[hp.size];lia
  refine gd_bin o hn f _ (k+1) (by lia) (by lia) (hp.bub _ _) fun i a b=>?_
  have e:k-(k-x)=x:=by lia
  rw[kv_bub hs (by lia),kv_bub hs (by lia),e]
  by_cases z:i=x
  ·rw[if_pos z,if_neg (by lia),if_neg (by lia)]
   exact b2 (i-1) (by lia)
  ·rw[if_neg z]
   by_cases y:x<i
   ·rw[if_pos ⟨y,by lia⟩]
    by_cases u:i-1=x
    ·rw[if_pos u,u];exact o.as _ _ (b3 x (Nat.le_refl _) (by lia))
    ·rw[if_neg u,if_pos ⟨by lia,by lia⟩];exact hu (i-1) (by lia) (by lia)
   ·rw[if_neg (fun q=>y q.1),if_neg (by lia),if_neg (by lia)];exact hu i a (by lia)
theorem zkE (o:Ord lt)(hn:0<n):kGd n lt (kas_sort n) fun q=>Pm n q/\Up lt q n:=by
 refine ze0 (zb2 (fun r hr=>?_) (gd_count o hn (p:=List.toArray (List.range n)) ⟨List.Perm.refl _⟩))
 obtain⟨a1,a2,a3,a4⟩:=hr
 split
 ·rw[show max r.1 1=r.1 by lia]
  exact gd_bin o hn _ _ _ (by lia) a2 a1 a4
 ·obtain e:r.1=n:=by lia
  rw[e]at a4
  exact⟨a1,a4⟩
end
noncomputable def srt (n:Nat)(lt:Nat->Nat->Bool):List Nat:=if n<2 then List.range n else(kRun lt (kas_sort n)).toList
theorem ziS {n:Nat}{lt:Nat->Nat->Bool}(o:Ord lt):(srt n lt).Perm (List.range n):=by
 unfold srt
 split
 ·exact List.Perm.refl _
 ·exact(zk5 (zkE o (n:=n) (by lia))).1.pm
theorem srt_up {n:Nat}{lt:Nat->Nat->Bool}(o:Ord lt)(hij:i<=j)(ha:(srt n lt)[i]? =some a)(hb:(srt n lt)[j]? =some b):lt b a=false:=by
 unfold srt at ha hb
 split at ha
 ·rename_i h
  rw[if_pos h]at hb
  have h1:=(List.getElem?_eq_some_iff.mp hb).1
  rw[List.length_range]at h1
  obtain rfl:i=j:=by lia
  rw[ha]at hb;cases hb;exact o.rf _
 ·rename_i h
  rw[if_neg h]at hb
  obtain⟨p1,p2⟩:=zk5 (zkE o (n:=n) (by lia))
  have e:∀{k c:Nat},(kRun lt (kas_sort n)).toList[k]? =some c->kv (kRun lt (kas_sort n)) k=c:=fun{k c} q=>by
   unfold kv
   rw[Array.getElem?_toList]at q
   rw[Array.getD_eq_getD_getElem?,q];rfl
  have h1:=(List.getElem?_eq_some_iff.mp hb).1
  rw[Array.length_toList,p1.size]at h1
  rw[<-e ha,<-e hb]
  exact p2.le o hij h1
end M
namespace HT
open PySem PySem.W
open PyProof.Rows (seqObj listItems_at listUpdate_at seqEpoch_at get?_update_seq size_push' sortedHeap sortedAll list_sort_plain arrOf failedOf general' keyKind' pairsOf collect_list)
noncomputable def outA (vs:List Value)(lt:Nat->Nat->Bool):List Value:=(M.srt vs.length lt).map fun i=>vs.getD i Value.none
theorem zlC {vs:List Value}{lt:Nat->Nat->Bool}(o:M.Ord lt):(outA vs lt).length=vs.length:=by
 unfold outA
 rw[List.length_map,(M.ziS o).length_eq,List.length_range]
theorem zmi (vs:List Value):(List.range vs.length).map (fun i=>vs.getD i Value.none)=vs:=by
 refine List.ext_getElem (by simp) fun i h1 h2=>?_
 rw[List.getElem_map,List.getElem_range,List.getD_eq_getElem?_getD,List.getElem?_eq_getElem h2]
 rfl
section
variable {prog:Program} {w:World} {A:Around} {E:Value->Shared->Prop} {s:Shared}
noncomputable def Asked (prog:Program)(w:World)(A:Around)(ks:List Value)(lt:Nat->Nat->Bool)(s:Shared):Prop:=
 ∃κ,(∀(Q:PyProof.Rows.SortKind->Shared->Prop) (E:Value->Shared->Prop),Q κ s->wpAny (model prog w) A (keyKind' (List.toArray ks)) Q E s)/\∀i j C,i<ks.length->j<ks.length->C (lt i j) s->kas_ask prog w A κ ks i j C s
theorem zmy {a:Addr}{vs:List Value}{n:Nat}{lt:Nat->Nat->Bool}{P:PySem.Fin->Shared->Prop}(o:M.Ord lt)(ho:s.heap.get? a=some (seqObj "list" vs.toArray n))(h64:vs.length<64)
  (hk:2<=vs.length->∀h',(∀b u,b≠a->s.heap.get? b=some u->h'.get? b=some u)->Asked prog w A vs lt {s with heap:=h'})
  (h:P (.done (.ret .none)) {s with heap:=sortedHeap s.heap a vs (outA vs lt).toArray}):wpAny (model prog w) A (Builtin.«list.sort» ⟨[.ref a],[]⟩) P E s:=by
 rw[list_sort_plain]
 have ha:=Heap.lt_size ho
 have hsl:vs.length<=sizeLine:=by rw[sizeLine_eq];lia
 obtain⟨e1,g1⟩:∃c,(s.heap.update a (Obj.mapSeq fun _=> #[])).get? a=some (seqObj "list" #[] c):=⟨_,get?_update_seq ho fun _=> #[]⟩
 refine wpAny_bind (listItems_at ho rfl (wpAny_bind (listUpdate_at ho rfl (wpAny_bind (seqEpoch_at g1 rfl (wpAny_bind (wpAny_newTuple (wpAny_bind (wpAny_newList (wpAny_holding ?_) (Nat.zero_le _))) hsl)))) (by rw[List.size_toArray];exact hsl) (Nat.zero_le _))))
 generalize hH:((s.heap.update a (Obj.mapSeq fun _=>(#[]:Array Value))).push (seqObj "tuple" vs.toArray 0)).push (seqObj "list" #[] 0)=H3
 have g3:H3.get? a=some (seqObj "list" #[] e1):=by
  rw[<-hH];exact Heap.get?_push_of_some _ (Heap.get?_push_of_some _ g1)
 have k3:∀b u,b≠a->s.heap.get? b=some u->H3.get? b=some u:=fun b u z q=>by
  rw[<-hH];exact Heap.get?_push_of_some _ (Heap.get?_push_of_some _ ((Heap.get?_update_other _ _ (Ne.symm z)).trans q))
 show wpAny _ A _ P E {s with heap:=H3}
 dsimp only
 have fin:∀(st:PyProof.Rows.SortSt),(arrOf st).map (·.2)=(outA vs lt).toArray->failedOf st=none->wpAny (model prog w) A (do
   let sorted:=(arrOf st).map (·.2)
   let touched:=(<-seqEpoch a) !=e1
   Builtin.List.listUpdate (.ref a) fun _=>sorted
   if let some e:=failedOf st then rule "list.sort.comparison-raised";throw e
   if touched then rule "list.sort.modified";raiseError "ValueError" "list modified during sort"
   ret .none) P E {s with heap:=H3}:=fun st e f=>by
  dsimp only
  rw[e,f]
  refine wpAny_bind (seqEpoch_at g3 rfl (wpAny_bind (listUpdate_at g3 rfl ?_ (Nat.zero_le _) (by rw[List.size_toArray,zlC o];lia))))
  simp only[bne_self_eq_false,Bool.false_eq_true,if_false]
  refine wpAny_pure ?_
  rw[<-hH]
  exact h
 have hz:vs.toArray.size=vs.length:=List.size_toArray ..
 by_cases h2:vs.length<2
 ·simp only[if_pos (show vs.toArray.size<2 by rw[hz];exact h2)]
  refine wpAny_bind (wpAny_pure ?_)
  rw[StateT.run_pure]
  refine wpAny_bind (wpAny_pure (fin _ ?_ rfl))
  unfold outA M.srt
  rw[if_pos h2,zmi]
  show((vs.toArray.zip vs.toArray).map (·.2))=_
  apply Array.toList_inj.mp
  simp[List.map_snd_zip]
 ·simp only[if_neg (show ¬vs.toArray.size<2 by rw[hz];exact h2)]
  obtain⟨κ,a1,a2⟩:=hk (by lia) H3 k3
  refine wpAny_bind (a1 _ _ (wpAny_bind (wpAny_mono (kat_run (Q:=fun st s'=>s'={s with heap:=H3}/\(arrOf st).map (·.2)=(outA vs lt).toArray/\failedOf st=none) (G:=fun p s'=>s'={s with heap:=H3}/\p=M.kRun lt (kas_sort vs.length)) rfl (by lia) h64 (fun p st s' b1 b2 b3 b4=>⟨b4.1,?_,b3⟩) (M.kGd_wp (n:=vs.length) (lt:=lt) a2 (M.zkE o (by lia)) ⟨rfl,rfl⟩)) (fun r s' ⟨c1,c2,c3⟩=>?_) fun _ _ x=>x)))
  ·rw[kat_snds rfl b2,b4.2]
   unfold outA M.srt
   rw[if_neg h2]
  ·subst c1
   exact fin r.2 c2 c3
end
end HT
namespace HT
open PySem PySem.Spec PySem.W
open PyProof.Rows (IntsAre IsTup)
theorem lex_tr:∀a b c:List Int,ziL b a=false->ziL c b=false->ziL c a=false
 |[],_,[],_,_=>rfl
 |[],_,_::_,_,_=>rfl
 |_::_,[],_,h,_=>by cases h
 |_::_,_::_,[],_,h=>by cases h
 |x::xs,y::ys,z::zs,h,k=>by
  rw[ze4]at h k ⊢
  by_cases e:y=x
  ·by_cases f:z=y
   ·rw[if_pos e]at h;rw[if_pos f]at k;rw[if_pos (f.trans e)];exact lex_tr xs ys zs h k
   ·rw[if_neg f]at k;subst e;rw[if_neg f];exact k
  ·rw[if_neg e]at h
   have h':=of_decide_eq_false h
   by_cases f:z=y
   ·rw[if_neg (by lia)];exact decide_eq_false (by lia)
   ·rw[if_neg f]at k
    have k':=of_decide_eq_false k
    rw[if_neg (by lia)];exact decide_eq_false (by lia)
theorem lex_as:∀a b:List Int,ziL a b=true->ziL b a=false
 |[],[],h=>by cases h
 |[],_::_,_=>rfl
 |_::_,[],h=>by cases h
 |x::xs,y::ys,h=>by
  rw[ze4]at h ⊢
  by_cases e:x=y
  ·rw[if_pos e]at h;rw[if_pos e.symm];exact lex_as xs ys h
  ·rw[if_neg e]at h
   have h':=of_decide_eq_true h
   rw[if_neg (by lia)];exact decide_eq_false (by lia)
noncomputable def zgh (nss:List (List Int))(i j:Nat):Bool:=ziL (nss.getD i []) (nss.getD j [])
theorem zld (nss:List (List Int)):M.Ord (zgh nss):=⟨fun _ _ _=>lex_tr _ _ _,fun _ _=>lex_as _ _⟩
section
variable {prog:Program} {w:World} {A:Around} {E:Value->Shared->Prop} {s:Shared}
theorem zfD {α:Type}{l:List α}{i:Nat}{x d:α}(h:l[i]? =some x):l.getD i d=x:=by rw[List.getD_eq_getElem?_getD,h];rfl
theorem zmx {ks:List Value}{ns:List Int}(hi:IntsAre ks ns)(h2:2<=ks.length):Asked prog w A ks (zgh (ns.map fun n=>[n])) s:=by
 refine⟨PyProof.Rows.oneType',fun Q E h=>?_,fun i j C h1 h3 h=>?_⟩
 ·rw[PyProof.Rows.ksk_kind (kz:=ns) hi (by rw[List.size_toArray];exact h2)]
  exact wpAny_pure h
 ·obtain⟨n,t,e1,e2⟩:=hi.at i _ (List.getElem?_eq_getElem h1)
  obtain⟨m,u,f1,f2⟩:=hi.at j _ (List.getElem?_eq_getElem h3)
  unfold kas_ask
  rw[zfD (List.getElem?_eq_getElem h1),zfD (List.getElem?_eq_getElem h3),e1,f1]
  refine kat_lt_int ?_
  unfold zgh at h
  rw[zfD (x:=[n]) (by rw[List.getElem?_map,e2];rfl),zfD (x:=[m]) (by rw[List.getElem?_map,f2];rfl),ze4]at h
  by_cases z:n=m
  ·subst z;rw[if_pos rfl]at h;rw[decide_eq_false (Int.lt_irrefl n)];exact h
  ·rwa[if_neg z]at h
end
end HT
namespace HT
open PySem PySem.W
open PyProof.Rows (seqObj)
section
variable {prog:Program} {w:World} {A:Around} {E:Value->Shared->Prop} {s:Shared}
noncomputable def Iters (prog:Program)(w:World)(A:Around)(d S:Addr)(Pv:List Value->Prop)(s:Shared):Prop:=
 ∀(Q:Value->Shared->Prop) (E:Value->Shared->Prop),(∀I fp wr St (ord:List Value) h' dr,Walks prog w A I fp wr ord.length (fun i v=>ord[i]? =some v) St->(∀b∈wr,s.heap.objs.size<=b)->S∉fp->
  (∀b o,s.heap.get? b=some o->h'.get? b=some o)->St 0 h'->Pv ord->ord.length<=2^24->Q (.ref I) {s with heap:=h',drawn:=dr})->wpAny (model prog w) A (pyIter (.ref d)) Q E s
theorem zm0 {ord:List Value}{acc:Array Value}(it:ItemsOf (fun i v=>ord[i]? =some v) acc ord.length):acc.toList=ord:=by
 refine List.ext_getElem? fun i=>?_
 by_cases hi:i<ord.length
 ·have e:=it.2 i (acc[i]'(by rw[it.1];exact hi)) (by simp[it.1,hi])
  rw[e];simp[it.1,hi]
 ·rw[List.getElem?_eq_none (by simp[it.1];lia),List.getElem?_eq_none (by lia)]
theorem zkP {R:Result->Shared->Prop}{T:String}{d S:Addr}{res:Value}{c₀:Nat}{Pv:List Value->Prop}(hT:s.TypeIs (.ref d) T)
  (h1:(Value.type T==Value.type "list")=false) (h2:(Value.type T==Value.type "tuple")=false) (hS:s.heap.get? S=some {cls:= .type "list",data:= .seq #[] c₀}) (hd:S≠d) (hi:Iters prog w A.in1 d S Pv s)
  (hh:∀(s':Shared) (Q:Bool->Shared->Prop) (E:Value->Shared->Prop),s'.TypeIs (.ref d) T->Q false s'->wpAny (model prog w) A.in1 (Builtin.List.listLengthHint (.ref d)) Q E s')
  (hR:∀h' tk dr acc c,(∀b o,b≠S->s.heap.get? b=some o->h'.get? b=some o)->h'.get? S=some {cls:= .type "list",dict:=none,data:= .seq acc c,slots:= #[]}->Pv acc.toList->R (.ok (.ret res)) {s with heap:=h',toks:=tk,drawn:=dr}):
  wpAny (model prog w) A.in1 (Builtin.List.listExtendWith (.ref S) (.ref d) res)
   (fun fin s'=>match fin with| .done f=>R (.ok f) s'| .again c'=>c'.quiet=true/\codeAny (model prog w) A c' R s') (fun e s'=>R (.error e) s') s:=by
 unfold Builtin.List.listExtendWith
 refine wpAny_bind (wpAny_typeOf hT ?_)
 have h0:Builtin.List.listSameRef (.ref S) (.ref d)=false:=by simp[Builtin.List.listSameRef,hd]
 simp only[h0,h1,h2,Bool.or_false,Bool.false_eq_true,if_false]
 refine wpAny_bind (hi _ _ fun I fp wr St ord h' dr W hw hf k1 st pv hn=>?_)
 have key:∀(h:Heap) (c₁:Nat),St 0 h->(∀b o,b≠S->s.heap.get? b=some o->h.get? b=some o)->
   h.get? S=some {cls:= .type "list",data:= .seq #[] c₁}->codeAny (model prog w) A (.builtin "list.extend.loop" ⟨[.ref S,.ref I,res],[]⟩) R {s with heap:=h,drawn:=dr}:=by
  intro h c₁ st hk g
  refine codeAny_extend_loopS W.toS (by rw[sizeLine_eq];lia) S hf res ord.length 0 _ #[] c₁ rfl (Nat.zero_le _) st g (ItemsOf.nil _) fun s' acc' c' m g' it=>?_
  rw[Moved.eq_with m]
  refine hR s'.heap s'.toks dr acc' c' (fun b o z e=>m.heap b o (fun y=>?_) (hk b o z e)) g' (by rw[zm0 it];exact pv)
  rcases List.mem_cons.mp y with e'|y
  ·exact z e'
  ·exact absurd (Heap.lt_size e) (Nat.not_lt.mpr (hw b y))
 obtain⟨od,g,gc⟩:=hT
 refine wpAny_bind (wpAny_holding (hh _ _ _ ⟨od,k1 _ _ g,gc⟩ ?_))
 have g1:=k1 _ _ hS
 refine wpAny_ite_split (fun _=>?_) (fun _=>wpAny_pure ⟨plainId_quiet F.plain_extend_loop _,key _ c₀ st (fun b o _ e=>k1 b o e) g1⟩)
 refine wpAny_bind (wpAny_rule (wpAny_bind ?_))
 show wpAny _ _ (updateSeq S (·.push .none)>>=fun _=>updateSeq S (·.pop)) _ _ _
 refine wpAny_bind (wpAny_updateSeq g1 rfl ?_)
 have g2:=Heap.get?_update_self (Obj.mapSeq (·.push Value.none)) g1 rfl
 refine wpAny_updateSeq (hz:=by seq_fits) g2 rfl ?_
 have g3:=Heap.get?_update_self (Obj.mapSeq (·.pop)) g2 rfl
 refine wpAny_pure ⟨plainId_quiet F.plain_extend_loop _,key _ _ (W.frame _ _ _ st fun b hb o e=>?_) (fun b o z e=>?_) g3⟩
 ·have z:S≠b:=fun y=>hf (y ▸ hb)
  exact(Heap.get?_update_other _ _ z).trans ((Heap.get?_update_other _ _ z).trans e)
 ·exact(Heap.get?_update_other _ _ (Ne.symm z)).trans ((Heap.get?_update_other _ _ (Ne.symm z)).trans (k1 _ _ e))
theorem zmR {R:Result->Shared->Prop}{T:String}{d S:Addr}{Pv:List Value->Prop}(hT:s.TypeIs (.ref d) T)(h1:(Value.type T==Value.type "list")=false)(h2:(Value.type T==Value.type "tuple")=false)
  (hS:s.heap.get? S=some {cls:= .type "list",data:= .seq #[]}) (hd:S≠d) (hi:Iters prog w A.in1 d S Pv s)
  (hh:∀(s':Shared) (Q:Bool->Shared->Prop) (E:Value->Shared->Prop),s'.TypeIs (.ref d) T->Q false s'->wpAny (model prog w) A.in1 (Builtin.List.listLengthHint (.ref d)) Q E s')
  (hR:∀h' tk dr acc c,(∀b o,b≠S->s.heap.get? b=some o->h'.get? b=some o)->h'.get? S=some {cls:= .type "list",dict:=none,data:= .seq acc c,slots:= #[]}->Pv acc.toList->R (.ok (.ret (.ref S))) {s with heap:=h',toks:=tk,drawn:=dr}):
  codeAny (model prog w) A (.builtin "list.__iadd__" ⟨[.ref S,.ref d],[]⟩) R s:=by
 refine codeAny_builtin F.entry_list_iadd ?_
 rw[Around.under_plainId F.plain_list_iadd _]
 exact zkP (c₀:=0) hT h1 h2 hS hd hi hh hR
noncomputable def Gives (prog:Program)(w:World)(A:Around)(d:Addr)(P:List Value->Prop)(s:Shared):Prop:=
 ∀(Q:List Value->Shared->Prop) (E:Value->Shared->Prop),(∀h' tk dr vs,(∀b o,s.heap.get? b=some o->h'.get? b=some o)->s.heap.objs.size<=h'.objs.size->P vs->Q vs {s with heap:=h',toks:=tk,drawn:=dr})->wpAny (model prog w) A (collect (.ref d)) Q E s
theorem zl4 {T:String}{d:Addr}{Pv:List Value->Prop}(hT:s.TypeIs (.ref d) T)(h1:(Value.type T==Value.type "list")=false)(h2:(Value.type T==Value.type "tuple")=false)
  (hi:Iters prog w A.in1 d s.heap.objs.size Pv {s with heap:=s.heap.push {cls:= .type "list",data:= .seq #[]}})
  (hh:∀(s':Shared) (Q:Bool->Shared->Prop) (E:Value->Shared->Prop),s'.TypeIs (.ref d) T->Q false s'->wpAny (model prog w) A.in1 (Builtin.List.listLengthHint (.ref d)) Q E s'):Gives prog w A d Pv s:=by
 intro Q E hQ
 obtain⟨od,g1,gc⟩:=hT
 unfold collect
 refine wpAny_bind (wpAny_runValue (codeAny_builtin F.entry_proto_collect ?_))
 rw[Around.under_plainId F.plain_proto_collect _]
 show wpAny _ A.in1 (newList []>>=fun l=>again (.builtin "list.__iadd__" ⟨[l,.ref d],[]⟩)) _ _ s
 refine wpAny_bind (wpAny_newObj_type ?_)
 have g:(s.heap.push {cls:= .type "list",data:= .seq #[]}).get? s.heap.objs.size=some {cls:= .type "list",data:= .seq #[]}:=Heap.get?_push_size _ rfl
 have gd:=Heap.get?_push_of_some {cls:= .type "list",data:= .seq #[]} g1
 refine wpAny_pure ⟨plainId_quiet F.plain_list_iadd _,zmR (s:={s with heap:=s.heap.push {cls:= .type "list",data:= .seq #[]}}) (Pv:=Pv) ⟨od,gd,gc⟩ h1 h2 g (Nat.ne_of_gt (Heap.lt_size g1)) hi hh fun h' tk dr acc c k1 k2 e=>?_⟩
 show wpAny _ A (load s.heap.objs.size>>=_) _ _ _
 refine wpAny_bind (wpAny_load k2 ?_)
 exact wpAny_pure (hQ h' tk dr acc.toList (fun b o e=>k1 b o (Nat.ne_of_lt (Heap.lt_size e)) (Heap.get?_push_of_some _ e)) (Nat.le_of_lt (Heap.lt_size k2)) e)
theorem sortedW {d:Addr}{P:List Value->Prop}{lt:List Value->Nat->Nat->Bool}{Q:Value->Shared->Prop}(o:∀vs,P vs->M.Ord (lt vs))(hg:Gives prog w A.in1 d P s)(h64:∀vs,P vs->vs.length<64)
  (hk:∀vs,P vs->2<=vs.length->∀h' tk dr,(∀b u,s.heap.get? b=some u->h'.get? b=some u)->Asked prog w A.in1.in1 vs (lt vs) {s with heap:=h',toks:=tk,drawn:=dr})
  (h:∀vs h' tk dr p n,P vs->(∀b u,s.heap.get? b=some u->h'.get? b=some u)->s.heap.objs.size<=p->h'.get? p=some (seqObj "list" (outA vs (lt vs)).toArray n)->Q (.ref p) {s with heap:=h',toks:=tk,drawn:=dr}):
  wpAny (model prog w) A (call (.builtin "sorted") [.ref d]) Q E s:=by
 refine Calls.call_function_entry PyProof.Rows.kind_sorted PyProof.Rows.plain_sorted PyProof.Rows.entry_sorted (PyProof.Rows.args_sorted1 _) (?_:wpAny _ _ (Builtin.«sorted» _) _ _ _)
 unfold Builtin.«sorted»
 refine wpAny_bind (m:=checkCount "sorted" 1 1 _) (wpAny_pure (wpAny_bind (hg _ _ fun h1 tk dr vs k1 kz pv=>wpAny_bind (wpAny_newList ?_ (by have:=h64 vs pv;rw[sizeLine_eq];lia)))))
 have g:(h1.push (seqObj "list" vs.toArray 0)).get? h1.objs.size=some (seqObj "list" vs.toArray 0):=Heap.get?_push_size _ rfl
 have k2:∀b u,s.heap.get? b=some u->(h1.push (seqObj "list" vs.toArray 0)).get? b=some u:=fun b u e=>Heap.get?_push_of_some _ (k1 b u e)
 have nb:∀b u,s.heap.get? b=some u->b≠h1.objs.size:=fun b u e=>Nat.ne_of_lt (Heap.lt_size (k1 b u e))
 show wpAny _ _ _ _ _ {s with heap:=h1.push (seqObj "list" vs.toArray 0),toks:=tk,drawn:=dr}
 refine wpAny_bind (wpAny_holding (wpAny_call_entry PyProof.Rows.slot_list_sort ⟨_,g,rfl⟩ PyProof.Rows.entry_list_sort (zmy (o vs pv) g (h64 vs pv) (fun h2 h' k=>hk vs pv h2 h' tk dr fun b u q=>k b u (nb b u q) (k2 b u q)) ⟨_,rfl,wpAny_pure ⟨_,rfl,?_⟩⟩) (PyProof.Rows.args_list_sort _)))
 have g2:=PyProof.Rows.get?_update_seq g fun _=>(#[]:Array Value)
 have g3:=Heap.get?_push_of_some (seqObj "list" #[] 0) (Heap.get?_push_of_some (seqObj "tuple" vs.toArray 0) g2)
 refine h vs _ tk dr _ _ pv (fun b u e=>?_) ?_ (PyProof.Rows.get?_update_seq g3 fun _=>(outA vs (lt vs)).toArray)
 ·exact(Heap.get?_update_other _ _ (Ne.symm (nb b u e))).trans (Heap.get?_push_of_some _ (Heap.get?_push_of_some _ ((Heap.get?_update_other _ _ (Ne.symm (nb b u e))).trans (k2 b u e))))
 ·exact kz
end
end HT
namespace M
open L2 PySem PySem.Spec
open PyProof.Rows hiding St
theorem _root_.L2.Inv.dr {X:Cx}{pins:List (Addr×Obj)}{σ:List (Option V)}{H:Hp}{s:Shared}{d:Drawn}(I:Inv X pins σ H s):Inv X pins σ H {s with drawn:=d}:=⟨I.ok,I.os,I.bare,I.base,I.loc,I.cell,I.free,I.freeC,I.pin,I.hok,I.len⟩
end M
namespace HT
open PySem
variable {l:List Nat} {bt b:Bool} {t:SetTable} {h:Heap} {j:Nat} {k n:Int} {v:Value} {es:List (Int×Value)} {a:Addr} {o:Obj} {vs:List Int} {Q:Bool->Shared->Prop}
theorem ziR (up:l.Pairwise (· < ·))(j:Nat):∀(f lo hi:Nat),hi<=l.length->hi-lo<=f->lo<=hi->(∀i,i<lo->∀x,l[i]? =some x->x<j)->(∀i,hi<=i->∀x,l[i]? =some x->j<=x)->
    let p:=SetTable.below.go l.toArray j f lo hi
    p<=l.length/\(∀i,i<p->∀x,l[i]? =some x->x<j)/\(∀i,p<=i->∀x,l[i]? =some x->j<=x)
  |0,lo,hi,h1,h2,h3,h4,h5=>by
    have:lo=hi:=by lia
    subst this
    exact⟨h1,h4,h5⟩
  |f+1,lo,hi,h1,h2,h3,h4,h5=>by
    unfold SetTable.below.go
    by_cases h:lo<hi
    . rw[if_pos h]
      dsimp only
      have lt:(lo+hi)/2<l.length:=by lia
      have g:l.toArray.getD ((lo+hi)/2) j=l[(lo+hi)/2]:=by simp[Array.getD,lt]
      rw[g]
      have mono:∀a b:Nat,a<=b->∀x y:Nat,l[a]? =some x->l[b]? =some y->x<=y:=fun a b ab x y ex ey=>by
        obtain⟨ha,rfl⟩:=List.getElem?_eq_some_iff.mp ex
        obtain⟨hb,rfl⟩:=List.getElem?_eq_some_iff.mp ey
        by_cases z:a=b
        . subst z;exact Nat.le_refl _
        . exact Nat.le_of_lt (List.pairwise_iff_getElem.mp up a b ha hb (by lia))
      split
      . rename_i c
        refine ziR up j f _ _ h1 (by lia) (by lia) (fun i hi' x ex=>?_) h5
        have:=mono i ((lo+hi)/2) (by lia) x _ ex (List.getElem?_eq_getElem lt)
        lia
      . rename_i c
        refine ziR up j f _ _ (by lia) (by lia) (by lia) h4 (fun i hi' x ex=>?_)
        have:=mono ((lo+hi)/2) i (by lia) _ x (List.getElem?_eq_getElem lt) ex
        lia
    . rw[if_neg h]
      have:lo=hi:=by lia
      subst this
      exact⟨h1,h4,h5⟩
theorem zlD (up:l.Pairwise (· < ·))(j:Nat):SetTable.below l.toArray j<=l.length/\(∀i,i<SetTable.below l.toArray j->∀x,l[i]? =some x->x<j)/\(∀i,SetTable.below l.toArray j<=i->∀x,l[i]? =some x->j<=x):=by
  have:=ziR up j l.toArray.size 0 l.toArray.size (by simp) (by lia) (Nat.zero_le _) (fun i hi=>absurd hi (Nat.not_lt_zero _)) (fun i hi x ex=>by
    obtain⟨ha,_⟩:=List.getElem?_eq_some_iff.mp ex
    simp at hi;lia)
  exact this
structure Ext (bt:Bool) (t:SetTable):Prop where
  led:t.led=!bt
  no:t.dummies= #[]
  up:t.place.toList.Pairwise (· < ·)
theorem zlJ (j:Nat):SetTable.has #[] j=false:=by unfold SetTable.has;simp
theorem Ext.slot (e:Ext bt t)(j:Nat):t.slot j≠ .dummy:=by
 unfold SetTable.slot
 rw[e.no,zlJ]
 dsimp only
 split
 ·intro h;cases h
 ·simp
theorem Ext.go (e:Ext bt t)(ha:Nat->Int)(h:Int):∀(f:Nat) (p:SetTable.Probe) (j:Nat) (d:Option Nat),p.dummy=none->SetTable.probe.go t ha h f p=some (.empty j d)->d=none/\t.slot j= .empty
 |0,_,_,_,_,q=>by cases q
 |f+1,p,j,d,hp,q=>by
  unfold SetTable.probe.go at q
  split at q
  ·rename_i z
   cases q
   exact⟨hp,z⟩
  ·rename_i z
   exact absurd z (e.slot _)
  ·split at q
   ·cases q
   ·refine e.go ha h f _ j d ?_ q
    unfold SetTable.advance
    split<;>exact hp
theorem Ext.free (e:Ext bt t){h:Int}(q:t.freeSlot h=some (j,b)):t.slot j= .empty:=by
 unfold SetTable.freeSlot at q
 split at q
 ·rename_i j' d z
  obtain⟨rfl,y⟩:=e.go _ _ _ _ _ _ (by unfold SetTable.probeStart;rfl) z
  cases q
  exact y
 ·cases q
theorem Ext.put (e:Ext bt t)(q:t.slot j= .empty):Ext bt (t.put j).1:=by
 have b:=zlD (l:=t.place.toList) e.up j
 have tl:t.place.toList.toArray=t.place:=by simp
 rw[tl]at b
 have ne:¬t.place[SetTable.below t.place j]? =some j:=fun z=>by
  unfold SetTable.slot at q
  dsimp only at q
  rw[if_pos (by rw[z];exact beq_self_eq_true _)]at q
  cases q
 unfold SetTable.put
 refine⟨e.led,?_,?_⟩
 ·dsimp only
  rw[e.no,zlJ];rfl
 ·dsimp only
  rw[SetTable.toList_insertAt]
  have up:=e.up
  rw[<-List.take_append_drop (SetTable.below t.place j) t.place.toList,List.pairwise_append]at up
  rw[List.pairwise_append,List.pairwise_cons]
  refine⟨up.1,⟨fun x hx=>?_,up.2.1⟩,fun x hx y hy=>?_⟩
  ·obtain⟨i,hi⟩:=List.getElem?_of_mem hx
   rw[List.getElem?_drop]at hi
   have l:=b.2.2 _ (Nat.le_add_right _ i) x hi
   by_cases z:i=0
   ·subst z
    rw[Nat.add_zero,Array.getElem?_toList]at hi
    have:x≠j:=fun y=>ne (by rw[hi,y])
    lia
   ·have hb:SetTable.below t.place j<t.place.toList.length:=by
     obtain⟨ha,_⟩:=List.getElem?_eq_some_iff.mp hi
     lia
    have l0:=b.2.2 _ (Nat.le_refl _) _ (List.getElem?_eq_getElem hb)
    obtain⟨ha,rfl⟩:=List.getElem?_eq_some_iff.mp hi
    have:=List.pairwise_iff_getElem.mp e.up _ _ hb ha (by lia)
    lia
  ·obtain⟨i,hi⟩:=List.getElem?_of_mem hx
   rw[List.getElem?_take]at hi
   have l:x<j:=by
    split at hi
    ·exact b.2.1 i (by assumption) x hi
    ·cases hi
   rcases List.mem_cons.mp hy with rfl|hy
   ·exact l
   ·exact up.2.2 x hx y hy
theorem Ext.stand (e:Ext bt t)(n:Nat):Ext bt (t.standIn n):=by
  refine⟨e.led,rfl,?_⟩
  show(Array.range n).toList.Pairwise (· < ·)
  rw[Array.toList_range]
  exact List.pairwise_lt_range
theorem Ext.lay (e:Ext bt t)(es:Array (Int×Value))(h:Int)(x:Value):Ext bt (layNew t es h x).2.1:=by
 unfold layNew
 split
 ·rename_i j b q
  dsimp only
  have p:=e.put (e.free q)
  unfold SetTable.orStandIn
  split
  ·exact p
  ·exact p.stand _
 ·exact e.stand _
theorem Ext.relay (e:Ext bt t)(es:Array (Int×Value))(n:Nat):Ext bt (relayAll t es n).2.1:=by
 unfold relayAll
 split
 ·rename_i t' o q
  dsimp only
  split
  ·unfold SetTable.relaid SetTable.laid at q
   rw[Option.bind_eq_bind,Option.bind_eq_some_iff]at q
   obtain⟨ow,-,q⟩:=q
   cases q
   refine⟨e.led,rfl,?_⟩
   show(List.map _ _).Pairwise _
   rw[List.pairwise_map]
   refine List.Pairwise.filterMap _ (fun a b hab c hc d hd=>?_) (List.pairwise_lt_range (n:=_))
   obtain⟨u,-,rfl⟩:=Option.map_eq_some_iff.mp hc
   obtain⟨v,-,rfl⟩:=Option.map_eq_some_iff.mp hd
   exact hab
  ·exact e.stand _
 ·exact e.stand _
noncomputable def keyI:Value->Int
 | .int n _=>n
 |_=>0
noncomputable def SW (prog:Program)(w:World)(bt:Bool)(h:Heap)(a:Addr)(vs:List Int):Prop:=
 ∃o es ep t,h.get? a=some o/\o.ExactSet/\o.data= .set es ep t/\ElemsOf (intKind prog w) es.toList/\(es.toList.map fun e=>keyI e.2).Perm vs/\es.size<scanBound/\t.fits es.size=true/\Ext bt t
section
variable {prog:Program} {w:World} {A:Around} {E:Value->Shared->Prop} {s:Shared} {bt:Bool}
theorem is_key (h:(intKind prog w).is k v=true):keyI v=k:=by
 obtain⟨t,rfl⟩:=Value.isInt_shape (show Value.isInt k v=true from h);rfl
theorem zlX (h:ElemsOf (intKind prog w) es)(k:Int):(∃e∈es,(intKind prog w).is k e.2=true)↔(es.map fun e=>keyI e.2).any (· ==k)=true:=by
  rw[List.any_eq_true]
  constructor
  . rintro⟨e,he,q⟩
    exact⟨_,List.mem_map.mpr ⟨e,he,rfl⟩,by rw[is_key q];exact beq_self_eq_true _⟩
  . rintro⟨_,hx,q⟩
    obtain⟨e,he,rfl⟩:=List.mem_map.mp hx
    obtain⟨⟨k',q',-⟩,-⟩:=h e he
    refine⟨e,he,?_⟩
    rw[is_key q',beq_iff_eq]at q
    rw[<-q];exact q'
theorem SW.put {es es':Array (Int×Value)}{ep:Nat}{t t':SetTable}(ho:h.get? a=some o)(hx:o.ExactSet)(hd:o.data= .set es ep t)(he:ElemsOf (intKind prog w) es'.toList)
  (hp:(es'.toList.map fun e=>keyI e.2).Perm vs) (hb:es'.size<scanBound) (hf:t'.fits es'.size=true) (e:Ext bt t'):
  (h.update a (Obj.putSet es' t')).get? a=some {o with data:= .set es' (ep+1) t'}/\SW prog w bt (h.update a (Obj.putSet es' t')) a vs:=by
 have g:(h.update a (Obj.putSet es' t')).get? a=some {o with data:= .set es' (ep+1) t'}:=by
  have z:=Heap.get?_update_self (Obj.putSet es' t') ho (by rw[putSet_of es' t' hd];rfl)
  rwa[putSet_of es' t' hd]at z
 exact⟨g,_,es',ep+1,t',g,hx,rfl,he,hp,hb,hf,e⟩
open PyProof.Rows (step_dedup) in
theorem sadd_int {tk:Tok}(hS:SW prog w bt s.heap a vs)(room:vs.length+1<scanBound)
    (h:∀h' b,Heap.SameBut a s.heap h'->SW prog w bt h' a (step_dedup vs n)->Q b {s with heap:=h'}):wpAny (model prog w) A (setAddHashed a (.int n tk) ((intKind prog w).hash n)) Q E s:=by
  obtain⟨o,es,ep,t,ho,hx,hd,hel,hp,hb,hf,e⟩:=hS
  have hk:(intKind prog w).is n (.int n tk)=true:=intKind_is _ _ _ _
  have hn:es.size=vs.length:=by have:=hp.length_eq;simpa using this
  have any:(es.toList.map fun e=>keyI e.2).any (· ==n)=vs.any (· ==n):=by
    rw[Bool.eq_iff_iff,List.any_eq_true,List.any_eq_true]
    exact⟨fun⟨x,hx,q⟩=>⟨x,hp.mem_iff.mp hx,q⟩,fun⟨x,hx,q⟩=>⟨x,hp.mem_iff.mpr hx,q⟩⟩
  unfold setAddHashed setAddHashedIn
  refine wpAny_holding (wpAny_bind (wpAny_setState_of ho hd hf ?_))
  dsimp only
  rw[byScan_of rfl hb hel]
  simp only[↓reduceIte]
  unfold setAddByScan
  refine wpAny_bind (wpAny_bind (wpAny_rule (wpAny_bind (wpAny_setScan_of hk ho hd hf hel ?_))))
  cases hr:List.findIdx? (fun e=>(intKind prog w).is n e.2) es.toList with
  |some j=>
    dsimp only
    obtain⟨hj,q,_⟩:=List.findIdx?_eq_some_iff_getElem.mp hr
    have hv:vs.any (· ==n)=true:=by rw[<-any];exact(zlX hel n).mp ⟨_,List.getElem_mem hj,q⟩
    refine wpAny_pure (wpAny_pure ?_)
    have:=h s.heap false (Heap.SameBut.refl a s.heap) ⟨o,es,ep,t,ho,hx,hd,hel,by unfold step_dedup;rw[if_pos hv];exact hp,hb,hf,e⟩
    exact this
  |none=>
    dsimp only
    have hv:¬vs.any (· ==n)=true:=fun z=>by
      rw[<-any]at z
      obtain⟨y,hy,q⟩:=(zlX hel n).mpr z
      have:=List.findIdx?_eq_none_iff.mp hr y hy
      rw[q]at this;cases this
    have way:∀(b:Bool) {s₁:Shared} {Q':Unit->Shared->Prop},Q' () s₁->wpAny (model prog w) A (match b with|true=>rule "set.scan.the-table-gave-way"|false=>pure ()) Q' E s₁:=
      fun b s₁ Q' z=>by cases b<;>first|exact wpAny_pure z|exact wpAny_rule z
    have p1:=layNew_perm t es ((intKind prog w).hash n) (.int n tk)
    have f1:=layNew_fits t es ((intKind prog w).hash n) (.int n tk)
    have x1:=e.lay es ((intKind prog w).hash n) (.int n tk)
    generalize layNew t es ((intKind prog w).hash n) (.int n tk)=L at p1 f1 x1 ⊢
    obtain⟨es1,t1,wd,gv⟩:=L
    dsimp only at p1 f1 x1 ⊢
    rw[Array.toList_push]at p1
    have e1:ElemsOf (intKind prog w) es1.toList:=(hel.push hk rfl).perm p1
    have z1:es1.size=es.size+1:=by rw[<-Array.length_toList,p1.length_eq,List.length_append,Array.length_toList];rfl
    have b1:es1.size<scanBound:=by rw[z1,hn];exact room
    have k1:(es1.toList.map fun e=>keyI e.2).Perm (step_dedup vs n):=by
      unfold step_dedup
      rw[if_neg hv]
      refine(p1.map _).trans ?_
      rw[List.map_append]
      exact hp.append_right _
    refine wpAny_bind (way _ ?_)
    have fin:wpAny (model prog w) A (do
        storeSet a es1 t1
        if(!wd&&t1.tooFull)=true then do
            (match(relayAll t1 es1 (SetTable.grown es1.size)).2.2 with|true=>rule "set.scan.the-table-gave-way"|false=>pure ())
            storeSet a (relayAll t1 es1 (SetTable.grown es1.size)).1 (relayAll t1 es1 (SetTable.grown es1.size)).2.1
            pure (some true)
          else pure (some true)) (fun r s'=>wpAny (model prog w) A (match r with|some added=>pure added|none=>setAddHashedIn a (.int n tk) ((intKind prog w).hash n) 99999) Q E s') E s:=by
      refine wpAny_bind (wpAny_storeSet_of ho hd ?_ (fits_of_scanBound b1))
      obtain⟨g1,w1⟩:=SW.put (bt:=bt) ho hx hd e1 k1 b1 f1 x1
      have sb:=Heap.SameBut.update s.heap a (Obj.putSet es1 t1)
      split
      . have p2:=relayAll_perm t1 es1 (SetTable.grown es1.size)
        have f2:=relayAll_fits t1 es1 (SetTable.grown es1.size)
        have x2:=x1.relay es1 (SetTable.grown es1.size)
        generalize relayAll t1 es1 (SetTable.grown es1.size)=L2 at p2 f2 x2 ⊢
        obtain⟨es2,t2,gv2⟩:=L2
        dsimp only at p2 f2 x2 ⊢
        have z2:es2.size=es1.size:=by rw[<-Array.length_toList,p2.length_eq,Array.length_toList]
        have b2:es2.size<scanBound:=by rw[z2];exact b1
        refine wpAny_bind (way _ ?_)
        refine wpAny_bind (wpAny_storeSet_of g1 rfl ?_ (fits_of_scanBound b2))
        obtain⟨_,w2⟩:=SW.put (bt:=bt) g1 hx rfl (e1.perm p2) ((p2.map _).trans k1) b2 f2 x2
        exact wpAny_pure (wpAny_pure (h _ true (sb.trans (Heap.SameBut.update _ a _)) w2))
      . exact wpAny_pure (wpAny_pure (h _ true sb w1))
    split
    . refine wpAny_bind ?_
      rw[hashByValue_scannable 8 (x:= .int n tk) rfl]
      refine wpAny_pure ?_
      simp only[plainKind,↓reduceIte]
      exact fin
    . refine wpAny_bind (wpAny_pure ?_)
      simp only[↓reduceIte]
      exact fin
end
end HT
namespace HT
open PySem
open PyProof.Rows (firstMet firstMet_succ firstMet_length_le IntsAre)
section
variable {prog:Program} {w:World} {A:Around} {R:Result->Shared->Prop} {I:Addr} {fp wr:List Addr} {n:Nat} {P:Nat->Value->Prop} {St:Nat->Heap->Prop} {bt:Bool}
theorem SW.at {h h':Heap}{a:Addr}{vs:List Int}(x:SW prog w bt h a vs)(k:∀o,h.get? a=some o->h'.get? a=some o):SW prog w bt h' a vs:=let⟨o,es,ep,t,g,r⟩:=x;⟨o,es,ep,t,k _ g,r⟩
theorem zla (W:Walks prog w A.in1 I fp wr n P St)(S:Addr)(hS:S∉fp)(val:Nat->Int)(hv:∀i v,P i v->∃t,v= .int (val i) t)(hb:n+1<scanBound):
  ∀(k i:Nat) (s:Shared),n-i=k->i<=n->St i s.heap->SW prog w bt s.heap S (firstMet val i)->
   (∀h' tk,(∀b o,b∉S::wr->s.heap.get? b=some o->h'.get? b=some o)->SW prog w bt h' S (firstMet val n)->R (.ok (.ret .none)) {s with heap:=h',toks:=tk})->
   codeAny (model prog w) A (.builtin "set.update.loop" ⟨[.ref S,.ref I],[]⟩) R s:=by
 have hw:S∉wr:=fun h=>hS (W.sub _ h)
 intro k
 induction k with
 |zero=>
  intro i s hk hi st sw hR
  have:i=n:=by lia
  subst this
  refine codeAny_builtin PyProof.Rows.F.entry_set_update_loop ?_
  rw[Around.under_plainId PyProof.Rows.F.plain_set_update_loop _]
  show wpAny _ A.in1 (pyNext (.ref I)>>=_) _ _ s
  refine wpAny_bind (W.done s _ _ st fun h' tk kp=>?_)
  exact wpAny_pure (hR h' tk (fun b o hb e=>kp b o (fun z=>hb (List.mem_cons_of_mem _ z)) e) (sw.at fun o e=>kp S o hw e))
 |succ k ih=>
  intro i s hk hi st sw hR
  have lt:i<n:=by lia
  refine codeAny_builtin PyProof.Rows.F.entry_set_update_loop ?_
  rw[Around.under_plainId PyProof.Rows.F.plain_set_update_loop _]
  show wpAny _ A.in1 (pyNext (.ref I)>>=_) _ _ s
  refine wpAny_bind (W.item i s _ _ lt st fun v h' tk pv st' kp=>?_)
  obtain⟨t,rfl⟩:=hv i v pv
  have sw':SW prog w bt h' S (firstMet val i):=sw.at fun o e=>kp S o hw e
  show wpAny _ A.in1 (holding [Value.int (val i) t] (setAdd S (.int (val i) t))>>=_) _ _ _
  refine wpAny_bind (wpAny_holding ?_)
  unfold setAdd
  refine wpAny_holding (wpAny_bind ((intKind prog w).pyHash (k:=val i) (intKind_is _ _ _ _) ?_))
  refine sadd_int (bt:=bt) (vs:=firstMet val i) sw' (by have:=firstMet_length_le val i;lia) fun h2 b sb sw2=>?_
  refine wpAny_pure ⟨plainId_quiet PyProof.Rows.F.plain_set_update_loop _,ih (i+1) _ (by lia) lt (W.frame _ _ _ st' fun b hb o e=>?_) (by rw[firstMet_succ];exact sw2) fun h3 tk3 kp3 sw3=>?_⟩
  ·rw[sb.2 b (fun z:b=S=>hS (z ▸ hb))];exact e
  ·refine hR h3 tk3 (fun b o hb e=>kp3 b o hb ?_) sw3
   show h2.get? b=some o
   rw[sb.2 b (fun z:b=S=>hb (z ▸ List.mem_cons_self))]
   exact kp b o (fun z=>hb (List.mem_cons_of_mem _ z)) e
end
section
variable {prog:Program} {w:World} {A:Around} {E:Value->Shared->Prop} {s:Shared}
theorem set_new (a:Value){Q₁:Value->Shared->Prop}
  (h:Q₁ (.ref s.heap.objs.size) {s with heap:=s.heap.push {cls:= .type "set",dict:=none,data:= .set #[] 0 (.fresh 0 0 !(w.params.followText "set-order"))}}):
  codeAny (model prog w) A (.call (.builtin "set.__new__") ⟨[.type "set",a],[]⟩) (wants Q₁ E) s:=by
 refine codeAny_of_tree ?_
 show wpAny _ A.in1 (do checkBuiltinCall "set.__new__" ⟨[.type "set",a],[]⟩;again (.builtin "set.__new__" ⟨[.type "set",a],[]⟩)) _ _ s
 refine wpAny_bind (wpAny_of_eq (F.newCall_set_1 a) (wpAny_pure ⟨plainId_quiet F.plain_set_new _,codeAny_builtin F.entry_set_new ?_⟩))
 rw[Around.under_plainId F.plain_set_new _]
 unfold Builtin.«set.__new__» Builtin.Frozenset.newClass
 have hsub:=sub_set_self
 obtain⟨hp,g,d,tk,os⟩:=s
 dsimp only
 wp_walk
 refine wpAny_askSetting (wpAny_pure ?_)
 dsimp only
 simp only[newObj]
 exact wpAny_bind (wpAny_alloc (wpAny_pure (wpAny_pure h)))
noncomputable def Made (prog:Program)(w:World)(s:Shared)(vs:List Int)(r:Value)(s2:Shared):Prop:=r= .none/\∃h' tk,s2={s with heap:=h',toks:=tk}/\SW prog w (w.params.followText "set-order") h' s.heap.objs.size vs/\(∀b o,b<s.heap.objs.size->s.heap.get? b=some o->h'.get? b=some o)
noncomputable def Inits (prog:Program)(w:World)(A:Around)(E:Value->Shared->Prop)(s:Shared)(l:Addr)(vs:List Int):Prop:=∀led:Bool,(!(w.params.followText "set-order"))=led->
 wpAny (model prog w) A.in1.in1 (Builtin.«set.__init__» ⟨[.ref s.heap.objs.size,.ref l],[]⟩) (fun fin s'=>match fin with| .done f=>wants (Made prog w s vs) E (.ok f) s'| .again c'=>c'.quiet=true/\codeAny (model prog w) A.in1 c' (wants (Made prog w s vs) E) s')
  (fun e s'=>wants (Made prog w s vs) E (.error e) s') {s with heap:=s.heap.push {cls:= .type "set",dict:=none,data:= .set #[] 0 (.fresh 0 0 led)}}
set_option maxHeartbeats 4000000 in
theorem zom {l:Addr}{items:Array Value}{ns:List Int}(hh:A.handled=none)(hl:s.heap.IsList l items)(hi:IntsAre items.toList ns)(hb:items.size+1<scanBound):Inits prog w A E s l (firstMet (fun i=>ns.getD i 0) items.size):=by
 intro led hle
 have hS:(s.heap.push {cls:= .type "set",dict:=none,data:= .set #[] 0 (.fresh 0 0 led)}).get? s.heap.objs.size=some {cls:= .type "set",dict:=none,data:= .set #[] 0 (.fresh 0 0 led)}:=Heap.get?_push_size _ rfl
 have hT:Shared.TypeIs {s with heap:=s.heap.push {cls:= .type "set",dict:=none,data:= .set #[] 0 (.fresh 0 0 led)}} (.ref s.heap.objs.size) "set":=⟨_,hS,rfl⟩
 obtain⟨ol,hol,hcl,nl,hdl⟩:=hl
 obtain⟨ocls,odict,odata,oslots⟩:=ol
 simp only at hcl hdl
 subst hcl;subst hdl
 have hol':(s.heap.push {cls:= .type "set",dict:=none,data:= .set #[] 0 (.fresh 0 0 led)}).get? l=some {cls:= .type "list",dict:=odict,data:= .seq items nl,slots:=oslots}:=Heap.get?_push_of_some _ hol
 have q1:=F.sub_list_set
 have q2:=F.sub_list_frozenset
 have q3:(Value.type "list"==Value.type "dict")=false:=by decide
 have hl1:(s.heap.push {cls:= .type "set",dict:=none,data:= .set #[] 0 (.fresh 0 0 led)}).IsList l items:=⟨_,hol',rfl,nl,rfl⟩
 unfold Builtin.«set.__init__» noKeywords Builtin.Frozenset.updateFrom
 generalize hPI:pyIter=PI
 wp_walk
 subst hPI
 refine wpAny_pyIter_list hl1 (wpAny_bind (wpAny_runValue ?_))
 have lS:l<s.heap.objs.size:=Heap.lt_size hol
 have h3:A.in1.in1.in1.handled=none:=by simp[hh]
 have nI:l≠(s.heap.push {cls:= .type "set",dict:=none,data:= .set #[] 0 (.fresh 0 0 led)}).objs.size:=by
  rw[Heap.size_push];exact Nat.ne_of_lt (Nat.lt_succ_of_lt lS)
 have nf:s.heap.objs.size∉[(s.heap.push {cls:= .type "set",dict:=none,data:= .set #[] 0 (.fresh 0 0 led)}).objs.size,l]:=by
  rw[Heap.size_push]
  intro z
  rcases List.mem_cons.mp z with z|z
  ·exact absurd z (Nat.ne_of_lt (Nat.lt_succ_self _))
  ·exact absurd (List.mem_singleton.mp z) (Nat.ne_of_gt lS)
 have hval:∀(i:Nat) (v:Value),items[i]? =some v->∃t,v= .int ((fun i=>ns.getD i 0) i) t:=fun i v hv=>
  PyProof.Rows.IntsAre.int_at hi i v (by rw[Array.getElem?_toList];exact hv)
 refine zla (bt:=w.params.followText "set-order") (Walks.list h3 _ l nI items) s.heap.objs.size nf (fun i=>ns.getD i 0) hval hb (items.size-0) 0 _ (by lia) (Nat.zero_le _)
  ⟨⟨_,Heap.get?_push_size _ rfl,rfl,rfl⟩,(hl1.push _)⟩ ?_ ?_
 ·exact⟨_,#[],0,_,Heap.get?_push_of_some _ hS,⟨rfl,rfl,rfl⟩,rfl,fun e he=>by simp at he,List.Perm.refl _,by decide,rfl,⟨hle.symm,rfl,List.Pairwise.nil⟩⟩
 ·intro h' tk kp sw
  refine wpAny_pure ?_
  show wpAny _ _ (ret Value.none) _ _ _
  refine wpAny_pure ⟨rfl,h',tk,rfl,sw,fun b o hb e=>kp b o (fun z=>?_) (Heap.get?_push_of_some _ (Heap.get?_push_of_some _ e))⟩
  rcases List.mem_cons.mp z with z|z
  ·exact absurd z (Nat.ne_of_lt hb)
  ·rw[List.mem_singleton,Heap.size_push]at z
   exact absurd z (Nat.ne_of_lt (Nat.lt_succ_of_lt hb))
set_option maxHeartbeats 4000000 in
theorem zoo {l:Addr}{items:Array Value}{ns:List Int}(hh:A.handled=none)(hl:s.heap.IsTuple l items)(hi:IntsAre items.toList ns)(hb:items.size+1<scanBound):Inits prog w A E s l (firstMet (fun i=>ns.getD i 0) items.size):=by
 intro led hle
 have hS:(s.heap.push {cls:= .type "set",dict:=none,data:= .set #[] 0 (.fresh 0 0 led)}).get? s.heap.objs.size=some {cls:= .type "set",dict:=none,data:= .set #[] 0 (.fresh 0 0 led)}:=Heap.get?_push_size _ rfl
 have hT:Shared.TypeIs {s with heap:=s.heap.push {cls:= .type "set",dict:=none,data:= .set #[] 0 (.fresh 0 0 led)}} (.ref s.heap.objs.size) "set":=⟨_,hS,rfl⟩
 obtain⟨ol,hol,hcl,nl,hdl⟩:=hl
 obtain⟨ocls,odict,odata,oslots⟩:=ol
 simp only at hcl hdl
 subst hcl;subst hdl
 have hol':(s.heap.push {cls:= .type "set",dict:=none,data:= .set #[] 0 (.fresh 0 0 led)}).get? l=some {cls:= .type "tuple",dict:=odict,data:= .seq items nl,slots:=oslots}:=Heap.get?_push_of_some _ hol
 have q1:=F.sub_tuple_set
 have q2:=F.sub_tuple_frozenset
 have q3:(Value.type "tuple"==Value.type "dict")=false:=by decide
 have hl1:(s.heap.push {cls:= .type "set",dict:=none,data:= .set #[] 0 (.fresh 0 0 led)}).IsTuple l items:=⟨_,hol',rfl,nl,rfl⟩
 unfold Builtin.«set.__init__» noKeywords Builtin.Frozenset.updateFrom
 generalize hPI:pyIter=PI
 wp_walk
 subst hPI
 refine wpAny_pyIter_tuple hl1 (wpAny_bind (wpAny_runValue ?_))
 have lS:l<s.heap.objs.size:=Heap.lt_size hol
 have h3:A.in1.in1.in1.handled=none:=by simp[hh]
 have nI:l≠(s.heap.push {cls:= .type "set",dict:=none,data:= .set #[] 0 (.fresh 0 0 led)}).objs.size:=by
  rw[Heap.size_push];exact Nat.ne_of_lt (Nat.lt_succ_of_lt lS)
 have nf:s.heap.objs.size∉[(s.heap.push {cls:= .type "set",dict:=none,data:= .set #[] 0 (.fresh 0 0 led)}).objs.size,l]:=by
  rw[Heap.size_push]
  intro z
  rcases List.mem_cons.mp z with z|z
  ·exact absurd z (Nat.ne_of_lt (Nat.lt_succ_self _))
  ·exact absurd (List.mem_singleton.mp z) (Nat.ne_of_gt lS)
 have hval:∀(i:Nat) (v:Value),items[i]? =some v->∃t,v= .int ((fun i=>ns.getD i 0) i) t:=fun i v hv=>
  PyProof.Rows.IntsAre.int_at hi i v (by rw[Array.getElem?_toList];exact hv)
 refine zla (bt:=w.params.followText "set-order") (Walks.tuple h3 _ l nI items) s.heap.objs.size nf (fun i=>ns.getD i 0) hval hb (items.size-0) 0 _ (by lia) (Nat.zero_le _)
  ⟨⟨_,Heap.get?_push_size _ rfl,rfl,rfl⟩,(let⟨o,e,r⟩:=hl1;⟨o,Heap.get?_push_of_some _ e,r⟩)⟩ ?_ ?_
 ·exact⟨_,#[],0,_,Heap.get?_push_of_some _ hS,⟨rfl,rfl,rfl⟩,rfl,fun e he=>by simp at he,List.Perm.refl _,by decide,rfl,⟨hle.symm,rfl,List.Pairwise.nil⟩⟩
 ·intro h' tk kp sw
  refine wpAny_pure ?_
  show wpAny _ _ (ret Value.none) _ _ _
  refine wpAny_pure ⟨rfl,h',tk,rfl,sw,fun b o hb e=>kp b o (fun z=>?_) (Heap.get?_push_of_some _ (Heap.get?_push_of_some _ e))⟩
  rcases List.mem_cons.mp z with z|z
  ·exact absurd z (Nat.ne_of_lt hb)
  ·rw[List.mem_singleton,Heap.size_push]at z
   exact absurd z (Nat.ne_of_lt (Nat.lt_succ_of_lt hb))
set_option maxHeartbeats 4000000 in
theorem znJ {l:Addr}{vs:List Int}{Q:Value->Shared->Prop}(hinit:Inits prog w A E s l vs)
  (h : ∀ (h' : Heap) (tk : Nat), SW prog w (w.params.followText "set-order") h' s.heap.objs.size vs ->
   (∀b o,b<s.heap.objs.size->s.heap.get? b=some o->h'.get? b=some o)->Q (.ref s.heap.objs.size) {s with heap:=h',toks:=tk}):
  wpAny (model prog w) A (call (.type "set") [.ref l]) Q E s:=by
 obtain⟨c,tl,hmro⟩:=F.called_set.mro
 have hmade:=F.called_set.made
 have hsub:=F.called_set.sub
 refine wpAny_call (codeAny_of_tree ?_)
 show wpAny _ _ (callAny (.type "set") _) _ _ _
 refine wpAny_pure ⟨Code.quiet_builtin _ (by decide+kernel),codeAny_builtin F.entry_type_call ?_⟩
 rw[Around.under_plain (weight_type_call_type "set" [.ref l] []) rfl]
 have h1:=F.called_set.notType
 have h2:=F.called_set.canCreate
 have hct:=F.typeCall_set_1 (.ref l)
 repeat (any_goals (first|assumption|wp_step))
 generalize hle:(!(w.params.followText "set-order"))=led
 refine codeAny_mono (set_new (.ref l) (E:=E) (Q₁:=fun obj s₁=>obj= .ref s.heap.objs.size/\s₁={s with heap:=s.heap.push {cls:= .type "set",dict:=none,data:= .set #[] 0 (.fresh 0 0 led)}}) (by rw[hle];exact⟨rfl,rfl⟩)) fun r s₁ hr=>?_
 cases r with
 |error e=>exact hr
 |ok fl0=>
  cases fl0 with
  |ret obj=>
   obtain⟨rfl,rfl⟩:=hr
   have hS:(s.heap.push {cls:= .type "set",dict:=none,data:= .set #[] 0 (.fresh 0 0 led)}).get? s.heap.objs.size=some {cls:= .type "set",dict:=none,data:= .set #[] 0 (.fresh 0 0 led)}:=Heap.get?_push_size _ rfl
   have hT:Shared.TypeIs {s with heap:=s.heap.push {cls:= .type "set",dict:=none,data:= .set #[] 0 (.fresh 0 0 led)}} (.ref s.heap.objs.size) "set":=⟨_,hS,rfl⟩
   have hli:=F.called_set.init.lookup
   have hbi:=F.called_set.init.bind (.ref s.heap.objs.size)
   repeat (any_goals (first|assumption|wp_step))
   refine codeAny_mono (codeAny_call_builtin (R:=wants (Made prog w s vs) E) F.called_set.init.plain F.entry_set_init (check_set_init_1 hT ?_)) fun r2 s2 hr2=>?_
   ·exact hinit led hle
   ·cases r2 with
    |error e=>exact hr2
    |ok fl2=>
     cases fl2 with
     |ret r=>
      obtain⟨rfl,h',tk,rfl,sw,kp⟩:=hr2
      repeat (any_goals (first|assumption|wp_step))
      exact h _ _ sw kp
     |_=>exact hr2.elim
  |_=>exact hr.elim
end
end HT
namespace HT
open PySem
theorem zgu {α:Type}:∀{l:List α} {i:Nat} (h:i<l.length),(l[i]::l.eraseIdx i).Perm l
 |_::_,0,_=>List.Perm.refl _
 |a::l,i+1,h=>by
  have ih:=zgu (l:=l) (i:=i) (by simpa using h)
  exact(List.Perm.swap ..).trans (ih.cons a)
theorem zmT {α:Type}(nx:Nat->Nat):∀(f k:Nat) (l:List α) (o:Array α),l.length<=f->(pickOrder.go nx f k l o).toList.Perm (o.toList++l)
 |0,k,l,o,h=>by
  have:l=[]:=List.length_eq_zero_iff.mp (by lia)
  subst this
  unfold pickOrder.go
  simp
 |f+1,k,l,o,h=>by
  unfold pickOrder.go
  split
  ·rename_i x e
   obtain⟨hi,rfl⟩:=List.getElem?_eq_some_iff.mp e
   refine(zmT nx f (k+1) _ _ (by rw[List.length_eraseIdx_of_lt hi];lia)).trans ?_
   rw[Array.toList_push,List.append_assoc]
   refine List.Perm.append_left _ ?_
   exact zgu hi
  ·rename_i e
   have:l=[]:=by
    cases l with
    |nil=>rfl
    |cons a l=>
     rw[List.getElem?_eq_none_iff]at e
     have:=Nat.mod_lt (nx k) (show 0<(a::l).length by simp)
     lia
   subst this
   simp
theorem znV {α:Type}(nx:Nat->Nat)(xs:Array α):(pickOrder nx xs).toList.Perm xs.toList:=by
 have:=zmT nx xs.size 0 xs.toList #[] (by simp)
 simpa[pickOrder]using this
section
variable {prog:Program} {w:World} {A:Around} {E:Value->Shared->Prop} {s:Shared} {S:Addr} {o:Obj} {es:Array (Int×Value)} {ep:Nat} {t:SetTable}
theorem zkb {M:Model}{src:Source}{n:Nat}{Q:Nat->Shared->Prop}(hn:n≠0)(h:Q (M.w.draws src (s.drawn.get src)%n) {s with drawn:=s.drawn.bump src}):wpAny M A (choose src n) Q E s:=fun _ _ _=>⟨hn,h⟩
theorem zix {α:Type}:∀(n:Nat) (xs:List α) (s:Shared) (Q:List α->Shared->Prop),xs.length=n->(∀ys d,ys.Perm xs->Q ys {s with drawn:=d})->wpAny (model prog w) A (drawOrder n xs) Q E s
 |0,xs,s,Q,hl,h=>by
  have:xs=[]:=List.length_eq_zero_iff.mp hl
  subst this
  exact wpAny_pure (h [] s.drawn (List.Perm.refl _))
 |n+1,[],s,Q,hl,h=>by simp at hl
 |n+1,x::xs,s,Q,hl,h=>by
  unfold drawOrder
  refine wpAny_bind (zkb (by simp) ?_)
  have lt:(model prog w).w.draws .order (s.drawn.get .order)%(x::xs).length<(x::xs).length:=Nat.mod_lt _ (by simp)
  generalize (model prog w).w.draws .order (s.drawn.get .order)%(x::xs).length=i at lt
  rw[List.getElem?_eq_getElem lt]
  dsimp only
  refine wpAny_bind (zix n _ _ _ (by rw[List.length_eraseIdx_of_lt lt];simpa using hl) fun ys d p=>?_)
  exact wpAny_pure (h _ d ((p.cons _).trans (zgu lt)))
theorem zj0 {slot i:Nat}{Q:Option (Value×Nat)->Shared->Prop}(ho:s.heap.get? S=some o)(hd:o.data= .set es ep t)(hf:t.fits es.size=true)(bt:w.params.followText "set-order"=true)
  (h:Q (((pickOrder (w.params.setOrder S ep) es)[i]?).map fun e=>(e.2,slot)) s):wpAny (model prog w) A (setNext S slot i ep) Q E s:=by
 unfold setNext
 refine wpAny_bind (wpAny_setState_of ho hd hf ?_)
 refine wpAny_bind (m:=setsByText) (wpAny_bind (wpAny_askSetting (wpAny_pure ?_)))
 dsimp only
 rw[show(model prog w).w=w from rfl,bt]
 simp only[bne_self_eq_false,Bool.false_eq_true,↓reduceIte]
 refine wpAny_bind (m:=setWalk S) ?_
 unfold setWalk
 refine wpAny_bind (wpAny_setState_of ho hd hf ?_)
 refine wpAny_bind (m:=setsByText) (wpAny_bind (wpAny_askSetting (wpAny_pure ?_)))
 dsimp only
 rw[show(model prog w).w=w from rfl,bt]
 simp only[↓reduceIte]
 refine wpAny_bind (wpAny_askSetting ?_)
 exact wpAny_pure (wpAny_pure h)
theorem zls {slot i ep':Nat}{Q:Option (Value×Nat)->Shared->Prop}(ho:s.heap.get? S=some o)(hd:o.data= .set es ep t)(hf:t.fits es.size=true)(bt:w.params.followText "set-order"=false)(pl:(!t.plain&&decide (es.size>1))=false)(le:t.led=true)
  (h : Q (match es[SetTable.below t.place slot]?, t.place[SetTable.below t.place slot]? with
  |some (_,x),some j=>some (x,j+1)
  |_,_=>none) s):wpAny (model prog w) A (setNext S slot i ep') Q E s:=by
 unfold setNext
 refine wpAny_bind (wpAny_setState_of ho hd hf ?_)
 refine wpAny_bind (m:=setsByText) (wpAny_bind (wpAny_askSetting (wpAny_pure ?_)))
 dsimp only
 rw[show(model prog w).w=w from rfl,bt]
 simp only[Bool.false_eq_true,↓reduceIte]
 show wpAny _ _ (if(!t.plain&&decide (es.size>1))=true then _ else _) _ _ _
 rw[pl]
 simp only[Bool.false_eq_true,↓reduceIte]
 show wpAny _ _ ((if(!t.led&&!es.isEmpty)=true then unsupported "set:maker-not-led" else pure ())>>=_) _ _ _
 rw[le]
 simp only[Bool.not_true,Bool.false_and,Bool.false_eq_true,↓reduceIte]
 exact wpAny_bind (wpAny_pure (wpAny_pure h))
theorem zl3 {p:Nat}{Q:Value->Shared->Prop}(ho:s.heap.get? S=some o)(hd:o.data= .set es ep t)(hf:t.fits es.size=true)(hp:p<es.size)(h:Q es[p].2 s):wpAny (model prog w) A (setNextDrawn S p ep) Q E s:=by
 unfold setNextDrawn
 refine wpAny_bind (wpAny_setState_of ho hd hf ?_)
 dsimp only
 simp only[bne_self_eq_false,Bool.false_eq_true,↓reduceIte]
 rw[Array.getElem?_eq_getElem hp]
 exact wpAny_pure h
end
theorem si_slot:Slot "set_iterator" "__next__" "set_iterator.__next__":=
 .of (owner:="set_iterator") (n:="__next__") (by rw[typeLookup_type,builtinLookup_eq_fast];kernel_rfl) (by decide+kernel) (by decide+kernel) (by decide+kernel) (by first|exact .inl (by decide+kernel)|exact .inr (by decide+kernel)) (by rw[isSubtype_type];kernel_rfl)
theorem zhd:entryFor table "set_iterator.__next__"=some Builtin.«set_iterator.__next__»:=entryFor_of_tree (by kernel_rfl)
theorem zlr:Slot "set_iterator" "__iter__" "set_iterator.__iter__":=
 .of (owner:="set_iterator") (n:="__iter__") (by rw[typeLookup_type,builtinLookup_eq_fast];kernel_rfl) (by decide+kernel) (by decide+kernel) (by decide+kernel) (by first|exact .inl (by decide+kernel)|exact .inr (by decide+kernel)) (by rw[isSubtype_type];kernel_rfl)
theorem znK:entryFor table "set_iterator.__iter__"=some Builtin.«dict_keyiterator.__iter__»:=entryFor_alias (id':="dict_keyiterator.__iter__") (by kernel_rfl) rfl (by decide+kernel) (by kernel_rfl)
theorem s_entryI:entryFor table "set.__iter__"=some Builtin.«frozenset.__iter__»:=entryFor_alias (id':="frozenset.__iter__") (by kernel_rfl) rfl (by decide+kernel) (by kernel_rfl)
theorem zlE:Manifest.owners.lookup (String.ofList ['r','o','t','a','r','e','t','i','_','t','e','s'].reverse)=some Manifest.sig_set_iterator:=by kernel_rfl
theorem zji (a:Value):argsOk "set_iterator.__next__" ⟨[a],[]⟩:=by
 unfold argsOk;rw[signature?_of (id:="set_iterator.__next__") (n:=['_','_','t','x','e','n','_','_']) (o:=['r','o','t','a','r','e','t','i','_','t','e','s']) (by kernel_rfl) zlE];kernel_rfl
theorem si_argsI (a:Value):argsOk "set_iterator.__iter__" ⟨[a],[]⟩:=by
 unfold argsOk;rw[signature?_of (id:="set_iterator.__iter__") (n:=['_','_','r','e','t','i','_','_']) (o:=['r','o','t','a','r','e','t','i','_','t','e','s']) (by kernel_rfl) zlE];kernel_rfl
noncomputable def SIt (h:Heap)(I S:Addr)(first:Value)(i n ep:Nat):Prop:=∃o,h.get? I=some o/\o.cls= .type "set_iterator"/\o.data= .fields #[first,.int i 0,.ref S,.int n 0,.int ep 0]
theorem SIt.typeIs {s:Shared}{I S:Addr}{first:Value}{i n ep:Nat}(x:SIt s.heap I S first i n ep):s.TypeIs (.ref I) "set_iterator":=let⟨o,h,c,_⟩:=x;⟨o,h,c⟩
theorem SIt.at {h h':Heap}{I S:Addr}{first:Value}{i n ep:Nat}(x:SIt h I S first i n ep)(e:∀o,h.get? I=some o->h'.get? I=some o):SIt h' I S first i n ep:=let⟨o,ho,r⟩:=x;⟨o,e _ ho,r⟩
section
variable {prog:Program} {w:World} {A:Around} {E:Value->Shared->Prop} {s:Shared} {I S:Addr} {o:Obj} {es:Array (Int×Value)} {ep i:Nat} {t:SetTable} {first:Value}
theorem zlm {h:Heap}{Q:Option Value->Shared->Prop}(hh:A.handled=none)(k:∀h',(∀b u,h.get? b=some u->h'.get? b=some u)->Q none {s with heap:=h'}):
  wpAny (model prog w) A.in1 (newExc (.type "StopIteration") []>>=fun e=>raiseNew (α:=Fin) e) (fun _ _=>False) (fun e s'=>wpAny (model prog w) A (isInstance e (.type "StopIteration")>>=fun b=>if b=true then pure none else throw e) Q E s') {s with heap:=h}:=by
 refine wpAny_bind ?_
 simp only[newExc,newTuple]
 refine wpAny_bind (wpAny_newObj_type ?_ (by size_fits))
 refine wpAny_bind (m:=firstArgMember _ _) (wpAny_of_eq (a:=Value.none) (by first|rfl|(simp only[firstArgMember];rfl)) ?_)
 refine wpAny_newObj_type ?_ (by size_fits)
 simp only[raiseNew]
 refine wpAny_bind (wpAny_handled ?_)
 rw[show A.in1.handled=none from hh]
 refine wpAny_bind (wpAny_pure (wpAny_throw ?_))
 refine wpAny_bind (wpAny_isInstance (b:=true) (T:="StopIteration") ⟨_,Heap.get?_push_size _ rfl,rfl⟩ isSubtype_stop ?_)
 exact wpAny_pure (k _ fun b u e=>Heap.get?_push_of_some _ (Heap.get?_push_of_some _ e))
theorem zn2 {slot nx:Nat}{x:Value}{Q:Option Value->Shared->Prop}(hit:SIt s.heap I S (.int slot 0) i es.size ep)(ho:s.heap.get? S=some o)(hd:o.data= .set es ep t)(hf:t.fits es.size=true)
  (hx:∀(Q':Option (Value×Nat)->Shared->Prop) (E':Value->Shared->Prop),Q' (some (x,nx)) s->wpAny (model prog w) A.in1 (setNext S slot i ep) Q' E' s)
  (k:∀h',SIt h' I S (.int nx 0) (i+1) es.size ep->Heap.SameBut I s.heap h'->Q (some x) {s with heap:=h'}):wpAny (model prog w) A (pyNext (.ref I)) Q E s:=by
 obtain⟨oi,q1,q2,q3⟩:=id hit
 unfold pyNext
 refine wpAny_bind (wpAny_attempt (wpAny_callSpecial?_slot (name:=Str.ofString "__next__") hit.typeIs si_slot (wpAny_call_entry si_slot hit.typeIs zhd ?_ (zji _))))
 unfold Builtin.«set_iterator.__next__»
 refine wpAny_bind (m:=slotArgs "__next__" 0 _) (wpAny_pure ?_)
 refine wpAny_bind (wpAny_fieldsOf q1 q3 ?_)
 dsimp only
 refine wpAny_bind (wpAny_setEntries_of ho hd hf ?_)
 simp only[bne_self_eq_false,Bool.false_eq_true,if_false,Int.toNat_natCast]
 refine wpAny_bind (hx _ _ ?_)
 dsimp only
 refine wpAny_bind (wpAny_setField q1 q3 (by simp) ?_)
 have g1:=Heap.get?_update_self (Obj.mapFields (·.setIfInBounds 0 (rawInt (nx:Int)))) q1 (Obj.isFreed_of_fields (Obj.data_mapFields q3 _))
 have d1:=Obj.data_mapFields q3 (·.setIfInBounds 0 (rawInt (nx:Int)))
 refine wpAny_bind (wpAny_setField g1 d1 (by simp) ?_)
 have g2:=Heap.get?_update_self (Obj.mapFields (·.setIfInBounds 1 (rawInt ((i:Int)+1)))) g1 (Obj.isFreed_of_fields (Obj.data_mapFields d1 _))
 exact wpAny_pure ⟨_,rfl,wpAny_pure (k _ ⟨_,g2,(Obj.cls_mapFields ..).trans ((Obj.cls_mapFields ..).trans q2),by rw[Obj.data_mapFields d1];simp[rawInt]⟩ ((Heap.SameBut.update ..).trans (Heap.SameBut.update ..)))⟩
theorem si_end {slot:Nat}{Q:Option Value->Shared->Prop}(hh:A.handled=none)(hit:SIt s.heap I S (.int slot 0) i es.size ep)(ho:s.heap.get? S=some o)(hd:o.data= .set es ep t)(hf:t.fits es.size=true)
  (hx:∀(Q':Option (Value×Nat)->Shared->Prop) (E':Value->Shared->Prop),Q' none s->wpAny (model prog w) A.in1 (setNext S slot i ep) Q' E' s)
  (k:∀h',(∀b u,b≠I->s.heap.get? b=some u->h'.get? b=some u)->Q none {s with heap:=h'}):wpAny (model prog w) A (pyNext (.ref I)) Q E s:=by
 obtain⟨oi,q1,q2,q3⟩:=id hit
 unfold pyNext
 refine wpAny_bind (wpAny_attempt (wpAny_callSpecial?_slot (name:=Str.ofString "__next__") hit.typeIs si_slot (wpAny_call_entry si_slot hit.typeIs zhd ?_ (zji _))))
 unfold Builtin.«set_iterator.__next__»
 refine wpAny_bind (m:=slotArgs "__next__" 0 _) (wpAny_pure ?_)
 refine wpAny_bind (wpAny_fieldsOf q1 q3 ?_)
 dsimp only
 refine wpAny_bind (wpAny_setEntries_of ho hd hf ?_)
 simp only[bne_self_eq_false,Bool.false_eq_true,if_false,Int.toNat_natCast]
 refine wpAny_bind (hx _ _ ?_)
 dsimp only
 refine wpAny_bind (wpAny_setField q1 q3 (by simp) ?_)
 refine wpAny_mono (zlm (Q:=Q) (E:=E) hh fun h' kp=>k h' fun b u z e=>kp b u ((Heap.get?_update_other _ _ (Ne.symm z)).trans e)) (fun _ _ z=>z.elim) (fun _ _ z=>z)
theorem sd_item {T:Addr}{ps:List Nat}{p:Nat}{Q:Option Value->Shared->Prop}(hit:SIt s.heap I S (.ref T) i es.size ep)(hT:s.heap.IsTuple T (ps.map fun(p:Nat)=>Value.int p 0).toArray)(ho:s.heap.get? S=some o)(hd:o.data= .set es ep t)(hf:t.fits es.size=true)
  (hi:ps[i]? =some p) (hp:p<es.size) (k:∀h',SIt h' I S (.ref T) (i+1) es.size ep->Heap.SameBut I s.heap h'->Q (some es[p].2) {s with heap:=h'}):wpAny (model prog w) A (pyNext (.ref I)) Q E s:=by
 obtain⟨oi,q1,q2,q3⟩:=id hit
 obtain⟨oT,t1,t2,n,t3⟩:=hT
 unfold pyNext
 refine wpAny_bind (wpAny_attempt (wpAny_callSpecial?_slot (name:=Str.ofString "__next__") hit.typeIs si_slot (wpAny_call_entry si_slot hit.typeIs zhd ?_ (zji _))))
 unfold Builtin.«set_iterator.__next__»
 refine wpAny_bind (m:=slotArgs "__next__" 0 _) (wpAny_pure ?_)
 refine wpAny_bind (wpAny_fieldsOf q1 q3 ?_)
 dsimp only
 refine wpAny_bind (wpAny_setEntries_of ho hd hf ?_)
 simp only[bne_self_eq_false,Bool.false_eq_true,if_false,Int.toNat_natCast]
 unfold seqItems?
 dsimp only
 refine wpAny_bind (wpAny_bind (wpAny_load t1 ?_))
 rw[t3]
 refine wpAny_pure ?_
 dsimp only
 have e:(ps.map fun(p:Nat)=>Value.int p 0).toArray[i]? =some (.int p 0):=by simp[hi]
 rw[e]
 dsimp only
 refine wpAny_bind (zl3 ho hd hf (by simpa using hp) ?_)
 refine wpAny_bind (wpAny_setField q1 q3 (by simp) ?_)
 have g1:=Heap.get?_update_self (Obj.mapFields (·.setIfInBounds 1 (rawInt ((i:Int)+1)))) q1 (Obj.isFreed_of_fields (Obj.data_mapFields q3 _))
 exact wpAny_pure ⟨_,rfl,wpAny_pure (k _ ⟨_,g1,(Obj.cls_mapFields ..).trans q2,by rw[Obj.data_mapFields q3];simp[rawInt]⟩ (Heap.SameBut.update ..))⟩
theorem sd_end {T:Addr}{ps:List Nat}{Q:Option Value->Shared->Prop}(hh:A.handled=none)(hit:SIt s.heap I S (.ref T) i es.size ep)(hT:s.heap.IsTuple T (ps.map fun(p:Nat)=>Value.int p 0).toArray)(ho:s.heap.get? S=some o)(hd:o.data= .set es ep t)(hf:t.fits es.size=true)
  (hi:ps.length<=i) (k:∀h',(∀b u,b≠I->s.heap.get? b=some u->h'.get? b=some u)->Q none {s with heap:=h'}):wpAny (model prog w) A (pyNext (.ref I)) Q E s:=by
 obtain⟨oi,q1,q2,q3⟩:=id hit
 obtain⟨oT,t1,t2,n,t3⟩:=hT
 unfold pyNext
 refine wpAny_bind (wpAny_attempt (wpAny_callSpecial?_slot (name:=Str.ofString "__next__") hit.typeIs si_slot (wpAny_call_entry si_slot hit.typeIs zhd ?_ (zji _))))
 unfold Builtin.«set_iterator.__next__»
 refine wpAny_bind (m:=slotArgs "__next__" 0 _) (wpAny_pure ?_)
 refine wpAny_bind (wpAny_fieldsOf q1 q3 ?_)
 dsimp only
 refine wpAny_bind (wpAny_setEntries_of ho hd hf ?_)
 simp only[bne_self_eq_false,Bool.false_eq_true,if_false,Int.toNat_natCast]
 unfold seqItems?
 dsimp only
 refine wpAny_bind (wpAny_bind (wpAny_load t1 ?_))
 rw[t3]
 refine wpAny_pure ?_
 dsimp only
 have e:(ps.map fun(p:Nat)=>Value.int p 0).toArray[i]? =none:=by simp[hi]
 rw[e]
 dsimp only
 refine wpAny_bind (wpAny_setField q1 q3 (by simp) ?_)
 have g1:=Heap.get?_update_self (Obj.mapFields (·.setIfInBounds 0 (rawInt 0))) q1 (Obj.isFreed_of_fields (Obj.data_mapFields q3 _))
 refine wpAny_bind (wpAny_setField g1 (Obj.data_mapFields q3 _) (by simp) ?_)
 refine wpAny_mono (zlm (Q:=Q) (E:=E) hh fun h' kp=>k h' fun b u z e=>kp b u ((Heap.get?_update_other _ _ (Ne.symm z)).trans ((Heap.get?_update_other _ _ (Ne.symm z)).trans e))) (fun _ _ z=>z.elim) (fun _ _ z=>z)
theorem zkW {Q:Value->Shared->Prop}{n:Nat}(hit:SIt s.heap I S first i n ep)(h:Q (.ref I) s):wpAny (model prog w) A (pyIter (.ref I)) Q E s:=by
 refine wpAny_pyIter_slot hit.typeIs zlr (wpAny_call_entry zlr hit.typeIs znK ?_ (si_argsI _))
 show wpAny _ _ (ret (.ref I)) _ _ s
 exact wpAny_pure ⟨_,rfl,"set_iterator",_,hit.typeIs,si_slot.lookup,h⟩
end
end HT
namespace HT
open PySem
open PyProof.Rows (IntsAre)
theorem ziM:∀{l:List Value},(∀v∈l,∃n t,v= .int n t)->IntsAre l (l.map keyI)
 |[],_=> .nil
 |v::l,h=>by
  obtain⟨n,t,rfl⟩:=h v List.mem_cons_self
  exact .cons n t (ziM fun v hv=>h v (List.mem_cons_of_mem _ hv))
noncomputable def zcg (t:SetTable):Nat->Nat
 |0=>0
 |i+1=>t.place.getD i 0+1
theorem zij {bt:Bool}{t:SetTable}(e:Ext bt t){i:Nat}(hi:i<=t.place.size):SetTable.below t.place (zcg t i)=i:=by
 have b:=zlD (l:=t.place.toList) e.up (zcg t i)
 rw[show t.place.toList.toArray=t.place by simp]at b
 obtain⟨b1,b2,b3⟩:=b
 rw[Array.length_toList]at b1
 have at':∀j,j<t.place.size->t.place.toList[j]? =some (t.place.getD j 0):=fun j hj=>by simp[Array.getD,hj]
 have up:∀a b,a<b->b<t.place.size->t.place.getD a 0<t.place.getD b 0:=fun a b ab hb=>by
  have:=List.pairwise_iff_getElem.mp e.up a b (by rw[Array.length_toList];lia) (by rw[Array.length_toList];lia) ab
  simpa[Array.getD,hb,show a<t.place.size by lia]using this
 cases i with
 |zero=>
  by_cases z:SetTable.below t.place (zcg t 0)=0
  ·exact z
  ·have:=b2 0 (by lia) _ (at' 0 (by lia))
   rw[show zcg t 0=0 from rfl]at this
   lia
 |succ i=>
  have h1:i<SetTable.below t.place (zcg t (i+1)):=by
   by_cases z:i<SetTable.below t.place (zcg t (i+1))
   ·exact z
   ·have:=b3 i (by lia) _ (at' i (by lia))
    rw[show zcg t (i+1)=t.place.getD i 0+1 from rfl]at this
    lia
  by_cases z:SetTable.below t.place (zcg t (i+1))=i+1
  ·exact z
  ·have l:=b2 (i+1) (by lia) _ (at' (i+1) (by lia))
   have u:=up i (i+1) (by lia) (by lia)
   rw[show zcg t (i+1)=t.place.getD i 0+1 from rfl]at l
   lia
section
variable {prog:Program} {w:World} {A:Around} {E:Value->Shared->Prop} {s:Shared} {S I:Addr} {o:Obj} {es:Array (Int×Value)} {ep:Nat} {t:SetTable}
theorem zka (hf:t.fits es.size=true):t.place.size=es.size:=by
 simp only[SetTable.fits,Bool.and_eq_true,beq_iff_eq]at hf;exact hf.1
theorem zme (hh:A.handled=none)(hne:S≠I)(hd:o.data= .set es ep t)(hf:t.fits es.size=true)(bt:w.params.followText "set-order"=true):
  Walks prog w A I [I,S] [I] ((pickOrder (w.params.setOrder S ep) es).toList.map (·.2)).length (fun i v=>((pickOrder (w.params.setOrder S ep) es).toList.map (·.2))[i]? =some v) (fun i h=>SIt h I S (.int 0 0) i es.size ep/\h.get? S=some o) where
 sub:=fun b hb=>by simp at hb;simp[hb]
 frame:=fun _ _ _ st hk=>⟨st.1.at fun o e=>hk I (by simp) o e,hk S (by simp) _ st.2⟩
 item:=fun i s Q E hi st hQ=>by
  rw[List.length_map,Array.length_toList]at hi
  refine zn2 (slot:=0) (nx:=0) (x:=((pickOrder (w.params.setOrder S ep) es)[i]).2) st.1 st.2 hd hf (fun Q' E' q=>zj0 st.2 hd hf bt (by rw[Array.getElem?_eq_getElem hi];exact q)) fun h' k sb=>hQ _ h' s.toks (by simp[hi]) ⟨k,sb.extBut S _ hne st.2⟩ fun b o hb e=>sb.extBut b o (fun z=>hb (by simp[z])) e
 done:=fun s Q E st hQ=>si_end (slot:=0) hh st.1 st.2 hd hf (fun Q' E' q=>zj0 st.2 hd hf bt (by rw[List.length_map,Array.length_toList,Array.getElem?_eq_none (Nat.le_refl _)];exact q)) fun h' k=>hQ h' s.toks fun b o hb e=>k b o (fun z=>hb (by simp[z])) e
 self:=fun _ _ _ _ st hQ=>zkW st.1 hQ
theorem zmJ {b0:Bool}(hh:A.handled=none)(hne:S≠I)(hd:o.data= .set es ep t)(hf:t.fits es.size=true)(bt:w.params.followText "set-order"=false)(pl:(!t.plain&&decide (es.size>1))=false)(ex:Ext b0 t)(le:t.led=true):
  Walks prog w A I [I,S] [I] (es.toList.map (·.2)).length (fun i v=>(es.toList.map (·.2))[i]? =some v) (fun i h=>SIt h I S (.int (zcg t i) 0) i es.size ep/\h.get? S=some o) where
 sub:=fun b hb=>by simp at hb;simp[hb]
 frame:=fun _ _ _ st hk=>⟨st.1.at fun o e=>hk I (by simp) o e,hk S (by simp) _ st.2⟩
 item:=fun i s Q E hi st hQ=>by
  rw[List.length_map,Array.length_toList]at hi
  have hz:=zka hf
  refine zn2 (slot:=zcg t i) (nx:=zcg t (i+1)) (x:=es[i].2) st.1 st.2 hd hf (fun Q' E' q=>zls st.2 hd hf bt pl le (by
   rw[zij ex (by lia),Array.getElem?_eq_getElem hi,Array.getElem?_eq_getElem (by lia)]
   have:zcg t (i+1)=t.place[i]+1:=by unfold zcg;simp[Array.getD,show i<t.place.size by lia]
   rw[this]at q
   exact q)) fun h' k sb=>hQ _ h' s.toks (by simp[hi]) ⟨k,sb.extBut S _ hne st.2⟩ fun b o hb e=>sb.extBut b o (fun z=>hb (by simp[z])) e
 done:=fun s Q E st hQ=>si_end (slot:=zcg t (es.toList.map (·.2)).length) hh st.1 st.2 hd hf (fun Q' E' q=>zls st.2 hd hf bt pl le (by
   have hz:=zka hf
   rw[List.length_map,Array.length_toList,zij ex (by lia),Array.getElem?_eq_none (Nat.le_refl _)];exact q)) fun h' k=>hQ h' s.toks fun b o hb e=>k b o (fun z=>hb (by simp[z])) e
 self:=fun _ _ _ _ st hQ=>zkW st.1 hQ
theorem zkT {T:Addr}{ps:List Nat}(hh:A.handled=none)(hne:S≠I)(hnt:T≠I)(hd:o.data= .set es ep t)(hf:t.fits es.size=true)(hp:ps.Perm (List.range es.size)):
  Walks prog w A I [I,S,T] [I] (ps.map fun p=>(es.getD p (0,.none)).2).length (fun i v=>(ps.map fun p=>(es.getD p (0,.none)).2)[i]? =some v) (fun i h=>SIt h I S (.ref T) i es.size ep/\h.get? S=some o/\h.IsTuple T (ps.map fun(p:Nat)=>Value.int p 0).toArray) where
 sub:=fun b hb=>by simp at hb;simp[hb]
 frame:=fun _ _ _ st hk=>⟨st.1.at fun o e=>hk I (by simp) o e,hk S (by simp) _ st.2.1,let⟨o,e,r⟩:=st.2.2;⟨o,hk T (by simp) _ e,r⟩⟩
 item:=fun i s Q E hi st hQ=>by
  rw[List.length_map]at hi
  have lt:ps[i]<es.size:=List.mem_range.mp (hp.mem_iff.mp (List.getElem_mem hi))
  refine sd_item (ps:=ps) (p:=ps[i]) st.1 st.2.2 st.2.1 hd hf (List.getElem?_eq_getElem hi) lt fun h' k sb=>hQ _ h' s.toks (by simp[hi,Array.getD,lt]) ⟨k,sb.extBut S _ hne st.2.1,let⟨o,e,r⟩:=st.2.2;⟨o,sb.extBut T _ hnt e,r⟩⟩ fun b o hb e=>sb.extBut b o (fun z=>hb (by simp[z])) e
 done:=fun s Q E st hQ=>sd_end (ps:=ps) hh st.1 st.2.2 st.2.1 hd hf (by rw[List.length_map];exact Nat.le_refl _) fun h' k=>hQ h' s.toks fun b o hb e=>k b o (fun z=>hb (by simp[z])) e
 self:=fun _ _ _ _ st hQ=>zkW st.1 hQ
theorem zmb {l:List (Int×Value)}(h:ElemsOf (intKind prog w) l):∀v∈l.map (·.2),∃n t,v= .int n t:=fun v hv=>by
 obtain⟨e,he,rfl⟩:=List.mem_map.mp hv
 obtain⟨⟨k,q,-⟩,-⟩:=h e he
 obtain⟨t,e⟩:=Value.isInt_shape (show Value.isInt k e.2=true from q)
 exact⟨k,t,e⟩
noncomputable def OrdOf (vs:List Int)(ord:List Value):Prop:=∃ns,IntsAre ord ns/\ns.Perm vs
theorem zmE {vs:List Int}{l:List (Int×Value)}(h:ElemsOf (intKind prog w) l)(hp:(l.map fun e=>keyI e.2).Perm vs){ord:List Value}(ho:ord.Perm (l.map (·.2))):OrdOf vs ord:=
 ⟨ord.map keyI,ziM fun v hv=>zmb h v (ho.mem_iff.mp hv),((ho.map keyI).trans (by rw[List.map_map];exact List.Perm.refl _)).trans hp⟩
theorem drawn_is {Q:Bool->Shared->Prop}(ho:s.heap.get? S=some o)(hd:o.data= .set es ep t)(hf:t.fits es.size=true)(h:Q (!(w.params.followText "set-order")&&(!t.plain&&decide (es.size>1))) s):wpAny (model prog w) A (setDrawn S) Q E s:=by
 unfold setDrawn
 refine wpAny_bind (wpAny_setState_of ho hd hf ?_)
 exact wpAny_bind (m:=setsByText) (wpAny_bind (wpAny_askSetting (wpAny_pure (wpAny_pure h))))
theorem zni {L:Addr}{vs:List Int}(hh:A.handled=none)(sw:SW prog w (w.params.followText "set-order") s.heap S vs)(hL:L≠S)(lL:L<s.heap.objs.size):Iters prog w A S L (OrdOf vs) s:=by
 obtain⟨o,es,ep,t,ho,hx,hd,hel,hp,hb,hf,ex⟩:=sw
 have lS:=Heap.lt_size ho
 have b24:es.size<=2^24:=by have:scanBound=4096:=rfl;lia
 intro Q E k
 have hT:s.TypeIs (.ref S) "set":=⟨o,ho,hx.1⟩
 refine wpAny_pyIter_slot hT F.slot_set_iter (wpAny_call_entry F.slot_set_iter hT s_entryI ?_ (F.args_set_iter_1 _))
 unfold Builtin.«frozenset.__iter__» Builtin.Frozenset.slot0 slotArgs
 simp only[List.isEmpty_nil,Bool.not_true,Bool.false_eq_true,↓reduceIte,bind_assoc,List.length_nil,bne_self_eq_false]
 unfold Builtin.Frozenset.addrOf Builtin.Frozenset.sizeOf
 refine wpAny_bind (wpAny_pure ?_)
 try dsimp only
 refine wpAny_bind (wpAny_pure ?_)
 refine wpAny_bind (wpAny_bind (wpAny_setEntries_of ho hd hf (wpAny_pure ?_)))
 refine wpAny_bind (drawn_is ho hd hf ?_)
 have two:∀(h0:Heap),h0.objs.size=s.heap.objs.size->L∉[s.heap.objs.size,S]:=fun h0 _ z=>by
  rcases List.mem_cons.mp z with z|z
  ·exact absurd z (Nat.ne_of_lt lL)
  ·exact hL (List.mem_singleton.mp z)
 by_cases c:(!w.params.followText "set-order"&&(!t.plain&&decide (es.size>1)))=true
 ·rw[if_pos c]
  refine wpAny_bind (zix _ _ _ _ (List.length_range ..) fun ps dr pp=>?_)
  have pl:ps.length=es.size:=by rw[pp.length_eq,List.length_range]
  refine wpAny_bind (wpAny_newTuple ?_ (by rw[List.length_map,pl,sizeLine_eq];lia))
  have g1:=Heap.get?_push_of_some (PyProof.Rows.seqObj "tuple" (ps.map fun(i:Nat)=>rawInt i).toArray 0) ho
  refine wpAny_bind (wpAny_setEpoch_of g1 hd hf ?_)
  refine wpAny_bind (wpAny_newObj_type (wpAny_pure ⟨_,rfl,"set_iterator",_,⟨_,Heap.get?_push_size _ rfl,rfl⟩,si_slot.lookup,?_⟩))
  have sz:(s.heap.push (PyProof.Rows.seqObj "tuple" (ps.map fun(i:Nat)=>rawInt i).toArray 0)).objs.size=s.heap.objs.size+1:=PyProof.Rows.size_push' ..
  refine k _ [_,S,s.heap.objs.size] [_] _ (ps.map fun p=>(es.getD p (0,.none)).2) _ dr (zkT (T:=s.heap.objs.size) (I:=(s.heap.push (PyProof.Rows.seqObj "tuple" (ps.map fun(i:Nat)=>rawInt i).toArray 0)).objs.size) hh (by rw[sz];exact Nat.ne_of_lt (Nat.lt_succ_of_lt lS)) (by rw[sz];exact Nat.ne_of_lt (Nat.lt_succ_self _)) hd hf pp) (fun b hb=>by rw[List.mem_singleton.mp hb,sz];exact Nat.le_succ _) (fun z=>?_) (fun b u e=>Heap.get?_push_of_some _ (Heap.get?_push_of_some _ e))
   ⟨⟨_,Heap.get?_push_size _ rfl,rfl,by simp[rawInt]⟩,Heap.get?_push_of_some _ g1,⟨_,Heap.get?_push_of_some _ (Heap.get?_push_size _ rfl),rfl,0,by simp[PyProof.Rows.seqObj,rawInt]⟩⟩ (zmE hel hp ?_) (by rw[List.length_map,pl];exact b24)
  ·rw[sz]at z
   rcases List.mem_cons.mp z with z|z
   ·exact absurd z (Nat.ne_of_lt (Nat.lt_succ_of_lt lL))
   ·rcases List.mem_cons.mp z with z|z
    ·exact hL z
    ·exact absurd (List.mem_singleton.mp z) (Nat.ne_of_lt lL)
  ·refine(pp.map _).trans ?_
   have:(List.range es.size).map (fun p=>(es.getD p (0,.none)).2)=es.toList.map (·.2):=by
    refine List.ext_getElem? fun i=>?_
    by_cases hi:i<es.size
    ·simp[hi,Array.getD]
    ·simp[hi]
   rw[this]
 ·rw[if_neg c]
  refine wpAny_bind (wpAny_pure ?_)
  refine wpAny_bind (wpAny_setEpoch_of ho hd hf ?_)
  refine wpAny_bind (wpAny_newObj_type (wpAny_pure ⟨_,rfl,"set_iterator",_,⟨_,Heap.get?_push_size _ rfl,rfl⟩,si_slot.lookup,?_⟩))
  by_cases bt:w.params.followText "set-order"=true
  ·have pp:=znV (w.params.setOrder S ep) es
   exact k _ [_,S] [_] _ _ _ s.drawn (zme hh (Nat.ne_of_lt lS) hd hf bt) (fun b hb=>by rw[List.mem_singleton.mp hb];exact Nat.le_refl _) (two s.heap rfl) (fun b u e=>Heap.get?_push_of_some _ e) ⟨⟨_,Heap.get?_push_size _ rfl,rfl,by simp[rawInt]⟩,Heap.get?_push_of_some _ ho⟩ (zmE hel hp (pp.map _)) (by rw[List.length_map,pp.length_eq,Array.length_toList];exact b24)
  ·have bt:w.params.followText "set-order"=false:=by simpa using bt
   rw[bt]at c
   have le:t.led=true:=by rw[ex.led,bt];rfl
   exact k _ [_,S] [_] _ _ _ s.drawn (zmJ hh (Nat.ne_of_lt lS) hd hf bt (by simpa using c) ex le) (fun b hb=>by rw[List.mem_singleton.mp hb];exact Nat.le_refl _) (two s.heap rfl) (fun b u e=>Heap.get?_push_of_some _ e) ⟨⟨_,Heap.get?_push_size _ rfl,rfl,by simp[rawInt,zcg]⟩,Heap.get?_push_of_some _ ho⟩ (zmE hel hp (List.Perm.refl _)) (by rw[List.length_map,Array.length_toList];exact b24)
end
end HT
namespace HT
open PySem
open PyProof.Rows (IntsAre step_dedup firstMet)
section
variable {prog:Program} {w:World} {A:Around} {E:Value->Shared->Prop} {s:Shared}
theorem hint_set {d:Addr}{Q:Bool->Shared->Prop}(hT:s.TypeIs (.ref d) "set")(h:Q false s):wpAny (model prog w) A (Builtin.List.listLengthHint (.ref d)) Q E s:=by
 unfold Builtin.List.listLengthHint
 refine wpAny_bind (wpAny_specialOf hT F.slot_set_len.lookup ?_)
 generalize hz:("set.__len__":String)=z
 wp_delta
 rw[show splitId z=some ("set","__len__")from by subst hz;decide+kernel]
 subst hz
 refine wpAny_bind (wpAny_isInstance (T:="set") (b:=true) hT (by rw[isSubtype_type];kernel_rfl) ?_)
 refine wpAny_ite_split (fun u=>absurd u (by decide)) (fun _=>?_)
 refine wpAny_ite_split (fun _=>?_) (fun u=>absurd (by decide+kernel) u)
 exact wpAny_bind (wpAny_typeOf hT (wpAny_pure h))
theorem zn1 {S:Addr}{vs:List Int}(hh:A.handled=none)(sw:SW prog w (w.params.followText "set-order") s.heap S vs):Gives prog w A S (OrdOf vs) s:=by
 obtain⟨o,es,ep,t,ho,hx,r⟩:=id sw
 refine zl4 (T:="set") ⟨o,ho,hx.1⟩ (by decide) (by decide) ?_ fun s' Q E hT q=>hint_set hT q
 refine zni (show A.in1.handled=none from hh) (sw.at fun o e=>Heap.get?_push_of_some _ e) (Nat.ne_of_gt (Heap.lt_size ho)) ?_
 rw[PyProof.Rows.size_push'];exact Nat.lt_succ_self _
end
noncomputable def insI (x:Int):List Int->List Int
 |[]=>[x]
 |y::l=>if x<y then x::y::l else if x=y then y::l else y::insI x l
noncomputable def usrt (ns:List Int):List Int:=ns.foldr insI []
theorem mem_insI {x z:Int}:∀{l:List Int},z∈insI x l↔z=x\/z∈l
 |[]=>by simp[insI]
 |y::l=>by
  unfold insI
  split
  ·simp
  ·split
   ·rename_i e;subst e;simp
   ·rw[List.mem_cons,mem_insI,List.mem_cons];grind
theorem zoq {x:Int}:∀{l:List Int},l.Pairwise (· < ·)->(insI x l).Pairwise (· < ·)
  |[],_=>by simp[insI]
  |y::l,h=>by
    have h':=List.pairwise_cons.mp h
    unfold insI
    split
    . rename_i c
      refine List.pairwise_cons.mpr ⟨fun z hz=>?_,h⟩
      rcases List.mem_cons.mp hz with rfl|hz
      . exact c
      . have:=h'.1 z hz;lia
    . split
      . exact h
      . refine List.pairwise_cons.mpr ⟨fun z hz=>?_,zoq h'.2⟩
        rcases mem_insI.mp hz with rfl|hz
        . lia
        . exact h'.1 z hz
theorem mem_usrt {z:Int}:∀{ns:List Int},z∈usrt ns↔z∈ns
 |[]=>by simp[usrt]
 |n::ns=>by
  show z∈insI n (usrt ns)↔_
  rw[mem_insI,mem_usrt,List.mem_cons]
theorem zgr:∀ns:List Int,(usrt ns).Pairwise (· < ·)
  |[]=>List.Pairwise.nil
  |n::ns=>zoq (zgr ns)
theorem eq_up:∀{l m:List Int},l.Pairwise (· < ·)->m.Pairwise (· < ·)->(∀z,z∈l↔z∈m)->l=m
  |[],[],_,_,_=>rfl
  |[],y::m,_,_,h=>absurd ((h y).mpr List.mem_cons_self) List.not_mem_nil
  |x::l,[],_,_,h=>absurd ((h x).mp List.mem_cons_self) List.not_mem_nil
  |x::l,y::m,hl,hm,h=>by
    have a:=List.pairwise_cons.mp hl
    have b:=List.pairwise_cons.mp hm
    have e:x=y:=by
      have h1:=List.mem_cons.mp ((h x).mp List.mem_cons_self)
      have h2:=List.mem_cons.mp ((h y).mpr List.mem_cons_self)
      rcases h1 with z|z
      . exact z
      . rcases h2 with y'|y'
        . exact y'.symm
        . have:=a.1 y y';have:=b.1 x z;lia
    subst e
    congr 1
    refine eq_up a.2 b.2 fun z=>?_
    have hz:=h z
    rw[List.mem_cons,List.mem_cons]at hz
    constructor
    . intro q
      have:=a.1 z q
      rcases hz.mp (.inr q)with e|e
      . lia
      . exact e
    . intro q
      have:=b.1 z q
      rcases hz.mpr (.inr q)with e|e
      . lia
      . exact e
theorem zfJ:∀(l acc:List Int),acc.Nodup->(l.foldl step_dedup acc).Nodup
 |[],acc,h=>h
 |x::l,acc,h=>by
  refine zfJ l _ ?_
  unfold step_dedup
  split
  ·exact h
  ·rename_i c
   rw[List.nodup_append]
   refine⟨h,by simp,fun a ha b hb e=>c ?_⟩
   rw[List.mem_singleton.mp hb]at e
   subst e
   exact List.any_eq_true.mpr ⟨a,ha,beq_self_eq_true _⟩
end HT
namespace M
open L2 PySem PySem.Spec
open PyProof.Rows hiding St
noncomputable def swO (P:Program)(w:World)(a:Addr)(vs:List Int):HO:= .ext fun h=>HT.SW P w (w.params.followText "set-order") h a vs
theorem swO_ok {P:Program}{w:World}{H:Hp}{h:Heap}{a:Addr}{vs:List Int}(x:HT.SW P w (w.params.followText "set-order") h a vs):ObjOk P w H h a (swO P w a vs):=
 ⟨x,let⟨o,_,_,_,e,_⟩:=x;⟨o,e⟩,fun _ _ z k=>z.at k⟩
noncomputable def rSet (X:Cx):List V->Hp->VK->Prop:=fun xs H Q=>∃(l:Addr) (ns:List Int),xs=[.ref l]/\(SqL X.K H l (ns.map V.int)\/SqT X.K H l (ns.map V.int))/\ns.length<4095/\∀p,H p=none->Q (.ref p) (upd H p (swO X.prog X.w p (ns.foldl step_dedup [])))
theorem zhC (ns:List Int):firstMet (fun i=>ns.getD i 0) ns.length=ns.foldl step_dedup []:=by
 unfold firstMet
 congr 1
 refine List.ext_getElem? fun i=>?_
 by_cases h:i<ns.length
 ·simp[h]
 ·simp[h]
theorem znU {X:Cx}(hc:X.calm=true):zeT X (.type "set") (rSet X):=by
 intro pins s σ H xs us Q I r h
 obtain⟨l,ns,rfl,hq,hl,q⟩:=h
 obtain⟨u,rfl,rx⟩:=zh9 r
 cases rx
 have ini:HT.Inits X.prog X.w X.A X.xe s l (ns.foldl step_dedup []):=by
  have sb:scanBound=4096:=rfl
  rcases hq with hq|hq
  ·obtain⟨its,r',pl,hz⟩:=I.list hq
   have hi:=zgq r'
   have:=HT.zom (prog:=X.prog) (w:=X.w) (E:=X.xe) (I.ok.hd hc) pl.isList (ns:=ns) (by simpa using hi) (by rw[List.size_toArray,hi.length];lia)
   rwa[List.size_toArray,hi.length,zhC]at this
  ·obtain⟨its,r',pl,hz⟩:=I.tuple hq
   have hi:=zgq r'
   have:=HT.zoo (prog:=X.prog) (w:=X.w) (E:=X.xe) (I.ok.hd hc) pl (ns:=ns) (by simpa using hi) (by rw[List.size_toArray,hi.length];lia)
   rwa[List.size_toArray,hi.length,zhC]at this
 refine HT.znJ ini fun h' tk sw kp=>?_
 exact⟨.ref s.heap.objs.size,_,I.laid (t':=tk) (o:=swO X.prog X.w s.heap.objs.size (ns.foldl step_dedup [])) (fun b o e=>kp b o (Heap.lt_size e) e) (Nat.le_refl _) (swO_ok sw),rfl,q _ (I.hok.fresh (Nat.le_refl _))⟩
noncomputable def rSrtS (X:Cx):List V->Hp->VK->Prop:=fun xs H Q=>∃(p:Addr) (vs:List Int),xs=[.ref p]/\H p=some (swO X.prog X.w p vs)/\vs.Nodup/\vs.length<64/\∀l,H l=none->Q (.ref l) (upd H l (.lst ((HT.usrt vs).map V.int)))
theorem zdY:∀{vs:List Value} {ns:List Int},IntsAre vs ns->vs.map HT.keyI=ns
 |_,_,.nil=>rfl
 |_,_,.cons n t h=>by rw[List.map_cons,zdY h];rfl
theorem zeH:∀{its:List Value} {ns:List Int},IntsAre its ns->Vals (ns.map V.int) its
 |_,_,.nil=> .nil
 |_,_,.cons n t h=> .cons ⟨t,rfl⟩ (zeH h)
theorem out_usrt {ord:List Value}{ns vs:List Int}(hi:IntsAre ord ns)(hp:ns.Perm vs)(nd:vs.Nodup):(HT.outA ord (HT.zgh (ns.map fun n=>[n]))).map HT.keyI=HT.usrt vs:=by
 have hl:ord.length=ns.length:=hi.length
 have o:=HT.zld (ns.map fun n=>[n])
 have pm:=ziS (n:=ord.length) o
 have km:(HT.outA ord (HT.zgh (ns.map fun n=>[n]))).map HT.keyI=(srt ord.length (HT.zgh (ns.map fun n=>[n]))).map fun i=>ns.getD i 0:=by
  unfold HT.outA
  rw[List.map_map]
  refine List.map_congr_left fun i hi'=>?_
  have lt:i<ord.length:=List.mem_range.mp (pm.mem_iff.mp hi')
  rw[<-zdY hi]
  simp[lt]
 rw[km]
 have pn:((srt ord.length (HT.zgh (ns.map fun n=>[n]))).map fun i=>ns.getD i 0).Perm ns:=by
  refine(pm.map _).trans ?_
  rw[hl]
  have:(List.range ns.length).map (fun i=>ns.getD i 0)=ns:=by
   refine List.ext_getElem? fun i=>?_
   by_cases h:i<ns.length
   ·simp[h]
   ·simp[h]
  rw[this]
 refine HT.eq_up ?_ (HT.zgr vs) fun z=>by rw[(pn.trans hp).mem_iff,HT.mem_usrt]
 have nd2:=(pn.trans hp).nodup_iff.mpr nd
 rw[List.pairwise_iff_getElem]
 intro i j hi' hj ij
 have ne:=List.pairwise_iff_getElem.mp (List.nodup_iff_pairwise_ne.mp nd2) i j hi' hj ij
 rw[List.length_map]at hi' hj
 have up:=srt_up o (Nat.le_of_lt ij) (List.getElem?_eq_getElem hi') (List.getElem?_eq_getElem hj)
 rw[List.getElem_map,List.getElem_map]at ne ⊢
 have l1:(srt ord.length (HT.zgh (ns.map fun n=>[n])))[i]<ns.length:=by rw[<-hl];exact List.mem_range.mp (pm.mem_iff.mp (List.getElem_mem _))
 have l2:(srt ord.length (HT.zgh (ns.map fun n=>[n])))[j]<ns.length:=by rw[<-hl];exact List.mem_range.mp (pm.mem_iff.mp (List.getElem_mem _))
 generalize (srt ord.length (HT.zgh (ns.map fun n=>[n])))[i]=a at*
 generalize (srt ord.length (HT.zgh (ns.map fun n=>[n])))[j]=b at*
 unfold HT.zgh at up
 rw[HT.zfD (x:=[ns.getD b 0]) (by simp[l2]),HT.zfD (x:=[ns.getD a 0]) (by simp[l1]),HT.ze4]at up
 by_cases z:ns.getD b 0=ns.getD a 0
 ·exact absurd z.symm ne
 ·rw[if_neg z]at up
  have:=of_decide_eq_false up
  lia
theorem zjY {X:Cx}(hc:X.calm=true):zeT X (.builtin "sorted") (rSrtS X):=by
 intro pins s σ H xs us Q I r h
 obtain⟨p,vs,rfl,hp,nd,h64,q⟩:=h
 obtain⟨u,rfl,rx⟩:=zh9 r
 cases rx
 have sw:HT.SW X.prog X.w (X.w.params.followText "set-order") s.heap p vs:=(show ObjOk X.prog X.w H s.heap p (swO X.prog X.w p vs)from I.hok p _ hp).1
 refine HT.sortedW (P:=HT.OrdOf vs) (lt:=fun ord=>HT.zgh ((ord.map HT.keyI).map fun n=>[n])) (fun _ _=>HT.zld _) (HT.zn1 (I.ok.hd hc) sw) (fun ord ⟨ns,hi,pn⟩=>by rw[hi.length,pn.length_eq];exact h64) (fun ord ⟨ns,hi,pn⟩ h2 h' tk dr k=>?_) (fun ord h' tk dr l n ⟨ns,hi,pn⟩ k lz gl=>?_)
 ·rw[zdY hi]
  exact HT.zmx hi h2
 ·rw[zdY hi]at gl
  have iu:IntsAre (HT.outA ord (HT.zgh (ns.map fun n=>[n]))) (HT.usrt vs):=by
   rw[<-out_usrt hi pn nd]
   refine HT.ziM fun v hv=>?_
   unfold HT.outA at hv
   obtain⟨i,hi',rfl⟩:=List.mem_map.mp hv
   have lt:i<ord.length:=List.mem_range.mp ((ziS (HT.zld _)).mem_iff.mp hi')
   obtain⟨t,e⟩:=hi.int_at i ord[i] (List.getElem?_eq_getElem lt)
   exact⟨_,t,by rw[HT.zfD (List.getElem?_eq_getElem lt)];exact e⟩
  refine⟨.ref l,upd H l (.lst ((HT.usrt vs).map V.int)),(I.laid (t':=tk) k lz ?_).dr,rfl,q _ (I.hok.fresh lz)⟩
  refine⟨?_,_,n,zeH iu,gl⟩
  rw[List.length_map,<-iu.length,HT.zlC (HT.zld _),hi.length,pn.length_eq,sizeLine_eq];lia
noncomputable def oSrtS (m:ME):MO:=fun ρ=>(m ρ).bind fun p=>match p.1 with
 | .lst ds=>(zbl ds).bind fun ns=>if ns.length<64 then some ((HT.usrt ns).map .int,p.2)else none
 | .tup ds=>(zbl ds).bind fun ns=>if ns.length<64 then some ((HT.usrt ns).map .int,p.2)else none
 |_=>none
theorem zic (ns:List Int):HT.usrt (ns.foldl step_dedup [])=HT.usrt ns:=HT.eq_up (HT.zgr _) (HT.zgr _) fun z=>by
 rw[HT.mem_usrt,HT.mem_usrt]
 have:=firstMet_any (fun i=>ns.getD i 0) ns.length z
 rw[zhC]at this
 have e:(List.range ns.length).map (fun i=>ns.getD i 0)=ns:=by
  refine List.ext_getElem? fun i=>?_
  by_cases h:i<ns.length
  ·simp[h]
  ·simp[h]
 rw[e,Bool.eq_iff_iff,List.any_eq_true,List.any_eq_true]at this
 simpa using this
theorem zmv {X:Cx}{e:Expr}{m:ME}{p q pos pos':Pos}(hc:X.calm=true)(ml:X.mg "sorted"=none)(ms:X.mg "set"=none)(h:SE X e m)(hg:autoParam (Gl X "sorted") zu2._auto_1)(hg2:autoParam (Gl X "set") zu2._auto_1)
  (he:autoParam (starEach [Expr.Call (.Name "set" q) [e] [] pos'] X.env=(false,eval (.Call (.Name "set" q) [e] [] pos') X.env)::starEach [] X.env) zu2._auto_1) (he2:autoParam (starEach [e] X.env=(false,eval e X.env)::starEach [] X.env) zu2._auto_1) (hpl:autoParam ((backTo pos (starEach [] X.env)).any (·.1)=false) zu2._auto_1) (hpl2:autoParam ((backTo pos' (starEach [] X.env)).any (·.1)=false) zu2._auto_1)
  (hb:autoParam (bootBuiltins "sorted"=some (.builtin "sorted")) zu7._auto_1):SO X (.Call (.Name "sorted" p) [.Call (.Name "set" q) [e] [] pos'] [] pos) (oSrtS m):=by
 obtain⟨t,pe,so⟩:=h
 refine⟨_,zhg (zjY hc) hg ml hb (zdm (zhP (znU hc) hg2 ms boot_set (zdm pe zg0 he2) (by decide) (by decide) he2 hpl2) zg0 he) (by decide) (by decide) he hpl,fun B G H σ ρ ds ρ' Q I hm k=>?_⟩
 obtain⟨⟨d1,ρ1⟩,e1,hm⟩:=zah hm
 refine so B G H σ ρ d1 ρ1 _ I e1 fun G1 H1 v I1 f1 r1=>?_
 match d1,hm with
 | .lst es,hm=>
  obtain⟨ns,e2,hm⟩:=zah hm
  split at hm
  ·rename_i h64
   cases hm
   cases zdF e2
   obtain⟨a,xs,rfl,ha,rr⟩:=r1
   have ex:xs=ns.map V.int:=RepL.ints_eq rr
   subst ex
   refine⟨a,ns,rfl,.inl (SqL.of (I1.fz _ _ ha)),by lia,fun p hp=>⟨p,_,rfl,zaK,HT.zfJ _ _ List.nodup_nil,?_,fun l h0=>?_⟩⟩
   ·have:=firstMet_length_le (fun i=>ns.getD i 0) ns.length
    rw[zhC]at this;lia
   ·obtain⟨I2,g2,h2,b2,n2⟩:=(I1.allocO hp (swO X.prog X.w p (ns.foldl step_dedup []))).newO h0 ((HT.usrt (ns.foldl step_dedup [])).map V.int)
    refine k G1 _ l _ I2 f1 g2 h2 ?_ b2 n2
    rw[zic];exact RepL.ints _
  ·cases hm
 | .tup es,hm=>
  obtain⟨ns,e2,hm⟩:=zah hm
  split at hm
  ·rename_i h64
   cases hm
   cases zdF e2
   obtain⟨a,xs,rfl,ha,rr⟩:=r1
   have ex:xs=ns.map V.int:=RepL.ints_eq rr
   subst ex
   refine⟨a,ns,rfl,.inr (SqT.of (I1.fz _ _ ha)),by lia,fun p hp=>⟨p,_,rfl,zaK,HT.zfJ _ _ List.nodup_nil,?_,fun l h0=>?_⟩⟩
   ·have:=firstMet_length_le (fun i=>ns.getD i 0) ns.length
    rw[zhC]at this;lia
   ·obtain⟨I2,g2,h2,b2,n2⟩:=(I1.allocO hp (swO X.prog X.w p (ns.foldl step_dedup []))).newO h0 ((HT.usrt (ns.foldl step_dedup [])).map V.int)
    refine k G1 _ l _ I2 f1 g2 h2 ?_ b2 n2
    rw[zic];exact RepL.ints _
  ·cases hm
end M
namespace L2
open PyProof.Rows PySem PySem.Spec
section
variable {X:Cx} {a b c d:Expr} {ta tb tc td:TE} {pos:Pos}
noncomputable def tChain3 (r r' r'':R2)(ta tb tc td:TE):TE:=fun σ H Q=>ta σ H fun x H1=>tb σ H1 fun y H2=>r x y H2 fun z H3=>∃k,z= .bl k/\
 (if k=true then tc σ H3 fun w H4=>r' y w H4 fun z' H5=>∃k',z'= .bl k'/\(if k'=true then td σ H5 fun v H6=>r'' w v H6 Q else Q (.bl false) H5)else Q (.bl false) H3)
theorem zor {op op' op'':CmpOp}{r r' r'':R2}(ho:OpR X (compareOp op) r)(ho':OpR X (compareOp op') r')(ho'':OpR X (compareOp op'') r'')(ha:PE X a ta)(hb:PE X b tb)(hc:PE X c tc)(hd:PE X d td)
  (hm:autoParam (lastMarks [op,op',op''] [b,c,d]=false) zu4._auto_1):PT X (.Compare a [op,op',op''] [b,c,d] pos) (tTest (tChain3 r r' r'' ta tb tc td)):=by
 intro pins s σ H Q I h
 refine isTrue_chain (thn (ha pins s σ H _ I h) fun v s1 ⟨x,H1,I1,r1,q1⟩=>test_link (thn (hb pins s1 σ H1 _ I1 q1) fun u s2 ⟨y,H2,I2,r2,q2⟩=>
  thn (ho pins s2 σ H2 x y v u _ I2 r1 r2 q2) fun _ s3 ⟨z,H3,I3,r3,k,e,q3⟩=>?_)) hm
 subst e
 cases r3
 refine wpAny_truthy_bool ?_
 cases k with
 |false=>
  obtain⟨k',e',q'⟩:=q3
  cases e'
  exact ite_ff ⟨H3,I3,q'⟩
 |true=>
  refine ite_tt (test_link (thn (hc pins s3 σ H3 _ I3 q3) fun w' s4 ⟨z',H4,I4,r4,q4⟩=>thn (ho' pins s4 σ H4 y z' u w' _ I4 r2 r4 q4) fun _ s5 ⟨z2,H5,I5,r5,k2,e2,q5⟩=>?_))
  subst e2
  cases r5
  refine wpAny_truthy_bool ?_
  cases k2 with
  |false=>
   obtain⟨k',e',q'⟩:=q5
   cases e'
   exact ite_ff ⟨H5,I5,q'⟩
  |true=>
   refine ite_tt (test_last (thn (hd pins s5 σ H5 _ I5 q5) fun w2 s6 ⟨z3,H6,I6,r6,q6⟩=>thn (ho'' pins s6 σ H6 z' z3 w' w2 _ I6 r4 r6 q6) fun _ s7 ⟨z4,H7,I7,r7,k3,e3,q7⟩=>?_))
   subst e3
   cases r7
   exact wpAny_truthy_bool ⟨H7,I7,q7⟩
end
end L2
namespace M
open L2 PySem
variable {f:D->R->Option (Option D×R)} {g:D->R->Option R} {h:List D->R->Option R} {c d x:D} {b:MS} {z:Bool} {Q:Fl×R->Prop} {a i n j N k:Nat} {mt:MT} {me m:ME} {ρ:R} {r:Sl} {ds xs ys:List D} {mi ma:MA} {t:Option Sl} {F:List D->Option Sl} {cap:List Nat} {I:R->Prop} {ns:List Int}
noncomputable def zhj (f g h:D->D->Option D)(a b c d:ME):ME:=fun ρ=>(a ρ).bind fun p=>(b p.2).bind fun q=>(f p.1 q.1).bind fun t=>match t with
 | .bl true=>(c q.2).bind fun r=>(g q.1 r.1).bind fun t'=>match t' with
  | .bl true=>(d r.2).bind fun s=>(h r.1 s.1).map fun x=>(x,s.2)
  | .bl false=>some (.bl false,r.2)
  |_=>none
 | .bl false=>some (.bl false,q.2)
 |_=>none
section
variable {X:Cx} {a b c d:Expr} {ma mb mc md:ME} {pos:Pos}
theorem zj1 {op op' op'':CmpOp}{r r' r'':R2}{f g h:D->D->Option D}(ho:OpR X (compareOp op) r)(ho':OpR X (compareOp op') r')(ho'':OpR X (compareOp op'') r'')(hv:V2 X r f)(hw:V2 X r' g)(hx:V2 X r'' h)(hB:∀x y d,h x y=some d->∃t,d= .bl t)
  (ha:SE X a ma) (hb:SE X b mb) (hc:SE X c mc) (hd:SE X d md) (hm:autoParam (lastMarks [op,op',op''] [b,c,d]=false) zu4._auto_1):STt X (.Compare a [op,op',op''] [b,c,d] pos) (tTru (zhj f g h ma mb mc md)):=by
 obtain⟨ta,pa,sa⟩:=ha
 obtain⟨tb,pb,sb⟩:=hb
 obtain⟨tc,pc,sc⟩:=hc
 obtain⟨td,pd,sd⟩:=hd
 refine⟨_,zor ho ho' ho'' pa pb pc pd hm,fun B G H σ ρ e ρ' Q I hm k=>?_⟩
 obtain⟨⟨x0,ρ0⟩,e1,e2⟩:=zah hm
 obtain⟨t0,e3,e4⟩:=zav e2
 obtain⟨rfl,rfl⟩:=Prod.mk.inj e4
 obtain⟨⟨x,ρ1⟩,f1,h1⟩:=zah e1
 obtain⟨⟨y,ρ2⟩,f2,h2⟩:=zah h1
 obtain⟨t,f3,h3⟩:=zah h2
 refine sa B G H σ ρ x ρ1 _ I f1 fun G1 H1 v I1 g1 r1=>sb B G1 H1 σ ρ1 y ρ2 _ I1 f2 fun G2 H2 u I2 g2 r2=>hv B G2 H2 σ ρ2 v u x y t _ I2 (r1.mono g2) r2 f3 fun G3 H3 z I3 g3 r3=>?_
 cases t<;>try cases h3
 rename_i t
 refine⟨t,r3,?_⟩
 cases t with
 |false=>
  cases h3
  cases e3
  exact⟨false,rfl,k G3 H3 I3 (g1.trans (g2.trans g3))⟩
 |true=>
  obtain⟨⟨w,ρ3⟩,f4,h4⟩:=zah h3
  obtain⟨t',f5,h5⟩:=zah h4
  refine sc B G3 H3 σ ρ2 w ρ3 _ I3 f4 fun G4 H4 s I4 g4 r4=>hw B G4 H4 σ ρ3 u s y w t' _ I4 (r2.mono (g3.trans g4)) r4 f5 fun G5 H5 z5 I5 g5 r5=>?_
  cases t'<;>try cases h5
  rename_i t'
  refine⟨t',r5,?_⟩
  cases t' with
  |false=>
   cases h5
   cases e3
   exact⟨false,rfl,k G5 H5 I5 (g1.trans (g2.trans (g3.trans (g4.trans g5))))⟩
  |true=>
   obtain⟨⟨w2,ρ4⟩,f6,h6⟩:=zah h5
   obtain⟨d',f7,f8⟩:=zav h6
   obtain⟨rfl,rfl⟩:=Prod.mk.inj f8
   obtain⟨tt,rfl⟩:=hB _ _ _ f7
   cases e3
   exact sd B G5 H5 σ ρ3 w2 ρ4 _ I5 f6 fun G6 H6 s6 I6 g6 r6=>hx B G6 H6 σ ρ4 s s6 w w2 _ _ I6 (r4.mono (g5.trans g6)) r6 f7 fun G7 H7 z7 I7 g7 r7=>⟨_,r7,k G7 H7 I7 (g1.trans (g2.trans (g3.trans (g4.trans (g5.trans (g6.trans g7))))))⟩
end
noncomputable abbrev Rt {α:Type}(_:α->Prop):Type:=Option α
noncomputable def OkQ {α:Type}(Q:α->Prop)(o:Rt Q):Prop:=∃a,o=some a/\Q a
noncomputable def Ok {α:Type}(o:Option α)(Q:α->Prop):Prop:=OkQ Q o
noncomputable abbrev RtS {α:Sort u}(_:α):Type:=Option Sl
section
variable {α β:Type} {o:Option α} {Q Q':α->Prop}
theorem ok_some {a:α}:OkQ Q (some a)=Q a:=propext ⟨fun⟨_,e,q⟩=>by cases e;exact q,fun q=>⟨a,rfl,q⟩⟩
theorem ok_none:OkQ Q (none:Option α)=False:=propext ⟨fun⟨_,e,_⟩=>(by cases e),False.elim⟩
theorem ok_bind {f:α->Option β}{Q:β->Prop}:OkQ Q (o.bind f)=OkQ (fun a=>OkQ Q (f a)) o:=by
 cases o with
 |none=>exact propext ⟨fun⟨_,e,_⟩=>(by cases e),fun⟨_,e,_⟩=>(by cases e)⟩
 |some a=>exact propext ⟨fun h=>⟨a,rfl,h⟩,fun⟨_,e,h⟩=>by cases e;exact h⟩
theorem ok_map {f:α->β}{Q:β->Prop}:OkQ Q (o.map f)=OkQ (fun a=>Q (f a)) o:=by
 cases o with
 |none=>exact propext ⟨fun⟨_,e,_⟩=>(by cases e),fun⟨_,e,_⟩=>(by cases e)⟩
 |some a=>exact propext ⟨fun h=>⟨a,rfl,ok_some.mp h⟩,fun⟨_,e,h⟩=>by cases e;exact ok_some.mpr h⟩
theorem zeL {c:Prop}[Decidable c]:OkQ Q (if c then o else none)=(c/\OkQ Q o):=by
 by_cases h:c
 ·rw[if_pos h];exact propext ⟨fun k=>⟨h,k⟩,fun k=>k.2⟩
 ·rw[if_neg h];exact propext ⟨fun k=>(ok_none.mp k).elim,fun k=>absurd k.1 h⟩
theorem ok_Q:Ok o Q=OkQ Q o:=rfl
noncomputable def gd {α:Type}(b:Bool)(o:Option α):Option α:=if b then o else none
theorem ok_gd {b:Bool}(h:b=true):OkQ Q (gd b o)=OkQ Q o:=by subst h;rfl
theorem Ok.mono (h:Ok o Q)(k:∀a,Q a->Q' a):Ok o Q':=by
 obtain⟨a,e,q⟩:=h;exact⟨a,e,k a q⟩
theorem zaD {Q':α->Prop}(h:∀a,Q a=Q' a):OkQ Q o=OkQ Q' o:=by rw[funext h]
end
section
variable {c:MT} {a b:MS} {ρ:R}
theorem zkc {α:Type}{o u:Option α}{Q:α->Prop}:OkQ Q (if z then o else u)=((z=true->OkQ Q o)/\(z=false->OkQ Q u)):=by cases z<;>simp
theorem ok_sIf:OkQ Q (sIf c a b ρ)=(OkQ (fun p=>(p.1=true->OkQ Q (a p.2))/\(p.1=false->OkQ Q (b p.2))) (c ρ)):=by
 unfold sIf;rw[ok_bind];exact zaD fun p=>zkc
theorem ok_eIf {a b:ME}{Q:D×R->Prop}:OkQ Q (eIf c a b ρ)=(OkQ (fun p=>(p.1=true->OkQ Q (a p.2))/\(p.1=false->OkQ Q (b p.2))) (c ρ)):=by
 unfold eIf;rw[ok_bind];exact zaD fun p=>zkc
theorem ok_tAnd {a b:MT}{Q:Bool×R->Prop}:OkQ Q (znt a b ρ)=(OkQ (fun p=>(p.1=true->OkQ Q (b p.2))/\(p.1=false->Q (false,p.2))) (a ρ)):=by
 unfold znt;rw[ok_bind];exact zaD fun p=>by rw[zkc,ok_some]
theorem ok_tOr {a b:MT}{Q:Bool×R->Prop}:OkQ Q (tOrM a b ρ)=(OkQ (fun p=>(p.1=true->Q (true,p.2))/\(p.1=false->OkQ Q (b p.2))) (a ρ)):=by
 unfold tOrM;rw[ok_bind];exact zaD fun p=>by rw[zkc,ok_some]
theorem ok_eAnd {a b:ME}{Q:D×R->Prop}:OkQ Q (eAnd a b ρ)=(OkQ (fun p=>∃z,p.1= .bl z/\(z=true->OkQ Q (b p.2))/\(z=false->Q (.bl false,p.2))) (a ρ)):=by
 unfold eAnd;rw[ok_bind]
 have:∀p:D×R,Ok (match p.1 with
  | .bl true=>b p.2
  | .bl false=>some (.bl false,p.2)
  |_=>none) Q↔∃z,p.1= .bl z/\(z=true->Ok (b p.2) Q)/\(z=false->Q (.bl false,p.2)):=by
  rintro⟨d,ρ⟩
  cases d with
  |bl z=>cases z<;>simp[ok_Q,ok_some]
  |_=>simp[ok_Q,ok_none]
 exact zaD fun p=>propext (this p)
theorem ok_eOr {a b:ME}{Q:D×R->Prop}:OkQ Q (eOr a b ρ)=(OkQ (fun p=>∃z,p.1= .bl z/\(z=true->Q (.bl true,p.2))/\(z=false->OkQ Q (b p.2))) (a ρ)):=by
 unfold eOr;rw[ok_bind]
 have:∀p:D×R,Ok (match p.1 with
  | .bl true=>some (.bl true,p.2)
  | .bl false=>b p.2
  |_=>none) Q↔∃z,p.1= .bl z/\(z=true->Q (.bl true,p.2))/\(z=false->Ok (b p.2) Q):=by
  rintro⟨d,ρ⟩
  cases d with
  |bl z=>cases z<;>simp[ok_Q,ok_some]
  |_=>simp[ok_Q,ok_none]
 exact zaD fun p=>propext (this p)
theorem ok_chain {f g:D->D->Option D}{a b c:ME}{Q:D×R->Prop}:OkQ Q (zgi f g a b c ρ)=(OkQ (fun p=>OkQ (fun q=>OkQ (fun t=>∃z,t= .bl z/\(z=true->OkQ (fun r=>OkQ (fun d=>Q (d,r.2)) (g q.1 r.1)) (c q.2))/\(z=false->Q (.bl false,q.2))) (f p.1 q.1)) (b p.2)) (a ρ)):=by
 unfold zgi;rw[ok_bind]
 have:∀(p q:D×R) (t:D),Ok (match t with
  | .bl true=>(c q.2).bind fun r=>(g q.1 r.1).map fun d=>(d,r.2)
  | .bl false=>some (.bl false,q.2)
  |_=>none) Q↔∃z,t= .bl z/\(z=true->Ok (c q.2) fun r=>Ok (g q.1 r.1) fun d=>Q (d,r.2))/\(z=false->Q (.bl false,q.2)):=by
  intro p q t
  cases t with
  |bl z=>
   cases z
   ·simp[ok_Q,ok_some]
   ·simp only[ok_Q,ok_bind,D.bl.injEq,exists_eq_left',forall_const,reduceCtorEq,false_implies,and_true]
    exact iff_of_eq (zaD fun r=>ok_map)
  |_=>simp[ok_Q,ok_none]
 exact zaD fun p=>by rw[ok_bind];exact zaD fun q=>by rw[ok_bind];exact zaD fun t=>propext (this p q t)
theorem ok_turnM {Q:Option D×R->Prop}:OkQ Q (zkY g mt me d ρ)=(OkQ (fun ρ1=>OkQ (fun p=>(p.1=true->OkQ (fun q=>zdn q.2=true/\Q (some q.1,q.2)) (me p.2))/\(p.1=false->zdn p.2=true/\Q (none,p.2))) (mt ρ1)) (g d ρ)):=by
 unfold zkY;rw[ok_bind];exact zaD fun ρ1=>by rw[ok_bind];exact zaD fun p=>by rw[zkc,ok_bind,zeL,ok_some];congr 1;exact propext (imp_congr Iff.rfl (iff_of_eq (zaD fun q=>by rw[zeL,ok_some])))
theorem ok_turnP {bk:Nat}{Q:Option D×R->Prop}:OkQ Q (zl6 bk g mt me d ρ)=(OkQ (fun ρ1=>OkQ (fun p=>(p.1=true->OkQ (fun q=>zkI bk q.2=true/\Q (some q.1,q.2)) (me p.2))/\(p.1=false->zkI bk p.2=true/\Q (none,p.2))) (mt ρ1)) (g d ρ)):=by
 unfold zl6;rw[ok_bind];exact zaD fun ρ1=>by rw[ok_bind];exact zaD fun p=>by rw[zkc,ok_bind,zeL,ok_some];congr 1;exact propext (imp_congr Iff.rfl (iff_of_eq (zaD fun q=>by rw[zeL,ok_some])))
theorem zmf (n:Nat):Int.natAbs (no_index (OfNat.ofNat n))=n:=rfl
end
section
theorem ok_sNext:OkQ Q (zbb ρ)=(Q (.next,ρ)):=ok_some
noncomputable def SeqK (b:MS)(Q:Fl×R->Prop)(p:Fl×R):Prop:=OkQ Q (match p.1 with
 | .next=>b p.2
 |f=>some (f,p.2))
theorem zmS:SeqK b Q (.next,ρ)=(OkQ Q (b ρ)):=rfl
theorem seqK_ret:SeqK b Q (.ret r,ρ)=(Q (.ret r,ρ)):=ok_some
theorem seqK_brk:SeqK b Q (.brk,ρ)=(Q (.brk,ρ)):=ok_some
theorem zmF:SeqK b Q (.cont,ρ)=(Q (.cont,ρ)):=ok_some
theorem ok_sSeq {a b:MS}:OkQ Q (sSeq a b ρ)=(OkQ (SeqK b Q) (a ρ)):=ok_bind
theorem ok_sRet:OkQ Q (sRet m ρ)=(OkQ (fun p=>Q (.ret (.val p.1),p.2)) (m ρ)):=ok_map
theorem ok_sRetO {m:MO}:OkQ Q (zjk m ρ)=(OkQ (fun p=>Q (.ret (.own p.1),p.2)) (m ρ)):=ok_map
theorem ok_sRetV:OkQ Q (zgp i ρ)=OkQ Q (match ρ[i]? with
 |some (.val d)=>some (.ret (.val d),ρ)
 |some (.own ds)=>some (.ret (.own ds),ρ.set i .emp)
 |_=>none):=rfl
theorem ok_gN {Q:R->Prop}:OkQ Q (gN i d ρ)=(Q (ρ.set i (.val d))):=ok_some
theorem ok_gsNil {ds:List D}{ρ:R}{Q:R->Prop}:OkQ Q (zdS ds ρ)=OkQ Q (match ds with
 |[]=>some ρ
 |_=>none):=rfl
theorem zno {Q:R->Prop}:OkQ Q (zaE g h ds ρ)=OkQ Q (match ds with
 |d::ds=>(g d ρ).bind fun ρ1=>h ds ρ1
 |[]=>none):=rfl
theorem ok_gT {g:List D->R->Option R}{Q:R->Prop}:OkQ Q (gT n g d ρ)=OkQ Q (match d with
 | .tup ds=>if ds.length=n then g ds ρ else none
 |_=>none):=rfl
theorem ok_sAsg:OkQ Q (sAsg m g ρ)=(OkQ (fun p=>OkQ (fun ρ'=>Q (.next,ρ')) (g p.1 p.2)) (m ρ)):=ok_bind.trans (zaD fun _=>ok_map)
theorem ok_sSet:OkQ Q (sSet i m ρ)=(OkQ (fun p=>Q (.next,p.2.set i (.val p.1))) (m ρ)):=ok_map
theorem ok_sSetO {m:MO}:OkQ Q (zg7 i m ρ)=(OkQ (fun p=>Q (.next,p.2.set i (.own p.1))) (m ρ)):=ok_map
theorem ok_sApp:OkQ Q (sApp i m ρ)=OkQ Q (gd ((ρ[i]?.bind Sl.items).isSome) ((m ρ).bind fun p=>p.2[i]?.bind fun s=>s.items.bind fun ds=>if ds.length<16777216 then some (.next,p.2.set i (s.put (ds++[p.1])))else none)):=rfl
theorem ok_sPut {mi me:ME}:OkQ Q (sPut j mi me ρ)=OkQ Q ((me ρ).bind fun p=>gd (hasV p.2 j) ((mi p.2).bind fun q=>match q.1 with
 | .int k=>q.2[j]?.bind fun s=>s.items.bind fun ds=>(ixN ds.length k).bind fun n=>some (.next,q.2.set j (s.put (ds.set n p.1)))
 |_=>none)):=rfl
theorem ok_eC {Q:D×R->Prop}:OkQ Q (eC d ρ)=(Q (d,ρ)):=ok_some
noncomputable def eVQ (Q:D×R->Prop)(s:RtS Q)(ρ:R)(i:Nat):Prop:=match s with
 |some (.val d)=>Q (d,ρ)
 |some (.own ds)=>Q (.lst ds,ρ.set i (.val (.lst ds)))
 |_=>False
theorem zhz {Q:D×R->Prop}:eVQ Q (some (.val d)) ρ i=Q (d,ρ):=rfl
theorem eVQ_own {Q:D×R->Prop}:eVQ Q (some (.own ds)) ρ i=Q (.lst ds,ρ.set i (.val (.lst ds))):=rfl
theorem zhK {Q:D×R->Prop}:OkQ Q (eVar i ρ)=eVQ Q ρ[i]? ρ i:=by
 unfold eVar eVQ
 cases ρ[i]? with
 |none=>exact ok_none
 |some s=>cases s<;>first|exact ok_some|exact ok_none
noncomputable def Vb (Q:D->D->Prop)(P:Prop)(s:RtS Q)(t:Option Sl):Prop:=match s,t with
 |some (.val x),some (.val y)=>Q x y
 |_,_=>P
theorem Vb_val {Q:D->D->Prop}{P:Prop}{x y:D}:Vb Q P (some (.val x)) (some (.val y))=Q x y:=rfl
theorem Vb_own {Q:D->D->Prop}{P:Prop}:Vb Q P (some (.own xs)) t=P:=rfl
theorem Vb_own2 {Q:D->D->Prop}{P:Prop}:Vb Q P (some (.val x)) (some (.own ys))=P:=rfl
noncomputable def Va (Q:D->Prop)(P:Prop)(s:RtS Q):Prop:=match s with
 |some (.val x)=>Q x
 |_=>P
theorem Va_val {Q:D->Prop}{P:Prop}:Va Q P (some (.val x))=Q x:=rfl
theorem Va_own {Q:D->Prop}{P:Prop}:Va Q P (some (.own xs))=P:=rfl
theorem ok_aNil {Q:List D×R->Prop}:OkQ Q (aNil ρ)=(Q ([],ρ)):=ok_some
theorem ok_aCons {r:MA}{Q:List D×R->Prop}:OkQ Q (zaf m r ρ)=(OkQ (fun p=>OkQ (fun q=>Q (p.1::q.1,q.2)) (r p.2)) (m ρ)):=ok_bind.trans (zaD fun _=>ok_map)
theorem ok_m2 {f:D->D->Option D}{ma mb:ME}{Q:D×R->Prop}:OkQ Q (m2 f ma mb ρ)=(OkQ (fun p=>OkQ (fun q=>OkQ (fun d=>Q (d,q.2)) (f p.1 q.1)) (mb p.2)) (ma ρ)):=ok_bind.trans (zaD fun _=>ok_bind.trans (zaD fun _=>ok_map))
theorem ok_m2VV {f:D->D->Option D}{a b:Nat}{Q:D×R->Prop}:OkQ Q (m2 f (eVar a) (eVar b) ρ)=Vb (fun x y=>OkQ (fun d=>Q (d,ρ)) (f x y)) (OkQ (fun p=>OkQ (fun q=>OkQ (fun d=>Q (d,q.2)) (f p.1 q.1)) (eVar b p.2)) (eVar a ρ)) ρ[a]? ρ[b]?:=by
 rw[ok_m2,Vb.eq_def]
 split
 ·rename_i x y h1 h2
  rw[zhK,h1,zhz,zhK,h2,zhz]
 ·rfl
theorem ok_m2VC {f:D->D->Option D}{Q:D×R->Prop}:OkQ Q (m2 f (eVar a) (eC c) ρ)=Va (fun x=>OkQ (fun d=>Q (d,ρ)) (f x c)) (OkQ (fun p=>OkQ (fun d=>Q (d,p.2)) (f p.1 c)) (eVar a ρ)) ρ[a]?:=by
 rw[ok_m2,Va.eq_def,show(fun p:D×R=>OkQ (fun q=>OkQ (fun d=>Q (d,q.2)) (f p.1 q.1)) (eC c p.2))=fun p=>OkQ (fun d=>Q (d,p.2)) (f p.1 c)from funext fun p=>ok_eC]
 split
 ·rename_i x h1
  rw[zhK,h1,zhz]
 ·rfl
theorem ok_m2CV {f:D->D->Option D}{Q:D×R->Prop}:OkQ Q (m2 f (eC c) (eVar a) ρ)=Va (fun x=>OkQ (fun d=>Q (d,ρ)) (f c x)) (OkQ (fun p=>OkQ (fun d=>Q (d,p.2)) (f c p.1)) (eVar a ρ)) ρ[a]?:=by
 rw[ok_m2,Va.eq_def,ok_eC]
 split
 ·rename_i x h1
  rw[zhK,h1,zhz]
 ·rfl
theorem ok_m1 {f:D->Option D}{ma:ME}{Q:D×R->Prop}:OkQ Q (m1 f ma ρ)=(OkQ (fun p=>OkQ (fun d=>Q (d,p.2)) (f p.1)) (ma ρ)):=ok_bind.trans (zaD fun _=>ok_map)
theorem ok_mC {f:List D->Option D}{Q:D×R->Prop}:OkQ Q (mC f ma ρ)=(OkQ (fun p=>OkQ (fun d=>Q (d,p.2)) (f p.1)) (ma ρ)):=ok_bind.trans (zaD fun _=>ok_map)
theorem ok_eIxV {mi:ME}{Q:D×R->Prop}:OkQ Q (eIxV j mi ρ)=OkQ Q (gd (hasV ρ j) ((mi ρ).bind fun p=>(p.2[j]?.bind Sl.read).bind fun d=>(dIx d p.1).map fun e=>(e,p.2))):=Eq.trans rfl rfl
noncomputable def ixR (s:Option Sl)(c:D):Option D:=match s with
 |some (.val d)=>dIx d c
 |some (.own ds)=>dIx (.lst ds) c
 |some (.par ds)=>dIx (.lst ds) c
 |_=>none
theorem ixR_val:ixR (some (.val d)) c=dIx d c:=rfl
theorem ixR_own:ixR (some (.own ds)) c=dIx (.lst ds) c:=rfl
theorem ixR_par:ixR (some (.par ds)) c=dIx (.lst ds) c:=rfl
theorem zlK:(if hasV ρ j then(ρ[j]?.bind Sl.read).bind fun d=>(dIx d c).map fun e=>(e,ρ)else none)=(ixR ρ[j]? c).map fun e=>(e,ρ):=by
 unfold hasV
 cases ρ[j]? with
 |none=>rfl
 |some s=>cases s<;>rfl
theorem ok_eIxC {Q:D×R->Prop}:OkQ Q (eIxV j (eC c) ρ)=OkQ (fun e=>Q (e,ρ)) (ixR ρ[j]? c):=by
 rw[show eIxV j (eC c) ρ=(ixR ρ[j]? c).map fun e=>(e,ρ)from zlK,ok_map]
theorem ok_eIxE {Q:D×R->Prop}:OkQ Q (eIxV j (eVar i) ρ)=Va (fun c=>OkQ (fun e=>Q (e,ρ)) (ixR ρ[j]? c)) (OkQ Q (gd (hasV ρ j) ((eVar i ρ).bind fun p=>(p.2[j]?.bind Sl.read).bind fun d=>(dIx d p.1).map fun e=>(e,p.2)))) ρ[i]?:=by
 rw[Va.eq_def]
 split
 ·rename_i x h1
  rw[show eIxV j (eVar i) ρ=(ixR ρ[j]? x).map fun e=>(e,ρ) by
   rw[<-zlK];unfold eIxV;rw[show eVar i ρ=some (x,ρ) by unfold eVar;rw[h1]];rfl,ok_map]
 ·rfl
theorem ok_eLenV {Q:D×R->Prop}:OkQ Q (zbW j ρ)=OkQ Q ((ρ[j]?.bind Sl.read).bind fun d=>(dLen [d]).map fun e=>(e,ρ)):=rfl
theorem ok_oC {f:List D->Option (List D)}{Q:List D×R->Prop}:OkQ Q (oC f ma ρ)=(OkQ (fun p=>OkQ (fun d=>Q (d,p.2)) (f p.1)) (ma ρ)):=ok_bind.trans (zaD fun _=>ok_map)
theorem ok_eTup {Q:D×R->Prop}:OkQ Q (eTup ma ρ)=(OkQ (fun p=>p.1.length<=16777216/\Q (.tup p.1,p.2)) (ma ρ)):=ok_bind.trans (zaD fun _=>by rw[zeL,ok_some])
theorem ok_oLst {Q:List D×R->Prop}:OkQ Q (oLst ma ρ)=(OkQ (fun p=>p.1.length<=16777216/\Q (p.1,p.2)) (ma ρ)):=ok_bind.trans (zaD fun _=>by rw[zeL,ok_some])
theorem ok_tTru {ma:ME}{Q:Bool×R->Prop}:OkQ Q (tTru ma ρ)=(OkQ (fun p=>OkQ (fun b=>Q (b,p.2)) (dTru p.1)) (ma ρ)):=ok_bind.trans (zaD fun _=>ok_map)
theorem ok_tNotM {a:MT}{Q:Bool×R->Prop}:OkQ Q (zhy a ρ)=(OkQ (fun p=>Q (!p.1,p.2)) (a ρ)):=ok_map
theorem ok_eCall {Q:D×R->Prop}:OkQ Q (za0 F ma ρ)=OkQ Q ((ma ρ).bind fun p=>(F p.1).bind fun r=>match r with
 | .val d=>some (d,p.2)
 | .own ds=>some (.lst ds,p.2)
 |_=>none):=rfl
theorem ok_oCall {Q:List D×R->Prop}:OkQ Q (zmd F ma ρ)=OkQ Q ((ma ρ).bind fun p=>(F p.1).bind fun r=>match r with
 | .own ds=>some (ds,p.2)
 |_=>none):=rfl
theorem zoi {F:List D->List D->Option (Sl×List D)}{Q:D×R->Prop}:OkQ Q (zaw F j ma ρ)=OkQ Q (gd ((ρ[j]?.bind Sl.items).isSome) ((ma ρ).bind fun p=>p.2[j]?.bind fun s=>s.items.bind fun cs=>(F cs p.1).bind fun r=>match r.1 with
 | .val d=>some (d,p.2.set j (s.put r.2))
 | .own ds=>some (.lst ds,p.2.set j (s.put r.2))
 |_=>none)):=rfl
theorem ok_iR2L {Q:List D×R->Prop}:OkQ Q (iR2L ma ρ)=OkQ Q ((ma ρ).bind fun p=>match p.1 with
 |[.int i,.int j]=>some (zdt i (j-i).toNat,p.2)
 |_=>none):=rfl
theorem ok_eFz {m:MO}{Q:D×R->Prop}:OkQ Q (eFz m ρ)=(OkQ (fun p=>Q (.lst p.1,p.2)) (m ρ)):=ok_map
theorem ok_eCut {ma:ME}{ml mh:MP}{Q:D×R->Prop}:OkQ Q (eCut ma ml mh ρ)=OkQ Q ((ma ρ).bind fun p=>(ml p.2).bind fun q=>(mh q.2).bind fun r=>(dCut p.1 q.1 r.1).map fun d=>(d,r.2)):=rfl
theorem ok_pNo {Q:Option Int×R->Prop}:OkQ Q (pNo ρ)=(Q (none,ρ)):=ok_some
theorem ok_pSome {Q:Option Int×R->Prop}:OkQ Q (zba m ρ)=OkQ Q ((m ρ).bind fun p=>match p.1 with
 | .int i=>some (some i,p.2)
 |_=>none):=rfl
theorem ok_iSeq {Q:List D×R->Prop}:OkQ Q (iSeq m ρ)=(OkQ (fun p=>OkQ (fun ds=>Q (ds,p.2)) (zax [p.1])) (m ρ)):=ok_bind.trans (zaD fun _=>ok_map)
theorem ok_iR1 {Q:List D×R->Prop}:OkQ Q (iR1 ma ρ)=OkQ Q ((ma ρ).bind fun p=>match p.1 with
 |[.int j]=>if zdE j then some (zdt 0 j.toNat,p.2)else none
 |_=>none):=rfl
theorem ok_iR2 {Q:List D×R->Prop}:OkQ Q (iR2 ma ρ)=OkQ Q ((ma ρ).bind fun p=>match p.1 with
 |[.int i,.int j]=>if zdE i&&zdE j then some (zdt i (j-i).toNat,p.2)else none
 |_=>none):=rfl
theorem ok_sFor {mb:MS}:OkQ Q (sFor mi g mb ρ)=(OkQ (fun p=>OkQ Q (forM (fun d ρ=>(g d ρ).bind fun ρ'=>mb ρ') p.1 p.2)) (mi ρ)):=ok_bind
theorem ok_oLC {t:Nat}{Q:List D×R->Prop}:OkQ Q (oLC cap t mi g mt me ρ)=OkQ Q ((mi ρ).bind fun p=>if p.1.length<=16777216 then(zeq (zkY g mt me) p.1 (capR cap t (fzL cap p.2))).map fun q=>(q.1,fzL cap p.2)else none):=rfl
theorem ok_tTrue {Q:Bool×R->Prop}:OkQ Q (zcA ρ)=(Q (true,ρ)):=ok_some
theorem ok_eIsI {T:String}{ma:ME}{Q:D×R->Prop}:OkQ Q (eIsI T ma ρ)=OkQ Q ((ma ρ).bind fun p=>if okT T&&eIsI.noS1 p.1 then some (.bl (isI T p.1),p.2)else none):=rfl
theorem ok_sAugI {g:Int->Int->Int}:OkQ Q (zmo i g me ρ)=OkQ Q (match ρ[i]? with
 |some (.val (.int a))=>(me ρ).bind fun p=>match p.1 with
  | .int b=>some (.next,p.2.set i (.val (.int (g a b))))
  |_=>none
 |_=>none):=rfl
theorem ok_eCutS {ma:ME}{ml mh ms:MP}{Q:D×R->Prop}:OkQ Q (zmX ma ml mh ms ρ)=OkQ Q ((ma ρ).bind fun p=>(ml p.2).bind fun q=>(mh q.2).bind fun r=>(ms r.2).bind fun t=>(zm3 p.1 q.1 r.1 t.1).map fun d=>(d,t.2)):=rfl
theorem ok_oRep {ma mb:ME}{Q:List D×R->Prop}:OkQ Q (oRep ma mb ρ)=OkQ Q ((ma ρ).bind fun p=>(mb p.2).bind fun q=>match p.1,q.1 with
 | .lst xs,.int k=>if zdE k&&decide (xs.length*k.toNat<=16777216)then some ((List.replicate k.toNat xs).flatten,q.2)else none
 |_,_=>none):=rfl
theorem ok_iZ2 {Q:List D×R->Prop}:OkQ Q (iZ2 ma ρ)=OkQ Q ((ma ρ).bind fun p=>match p.1 with
 |[a,b]=>(zax [a]).bind fun xs=>(zax [b]).bind fun ys=>some (zkM xs ys,p.2)
 |_=>none):=rfl
theorem ok_iZ3 {Q:List D×R->Prop}:OkQ Q (iZ3 ma ρ)=OkQ Q ((ma ρ).bind fun p=>match p.1 with
 |[a,b,c]=>(zax [a]).bind fun xs=>(zax [b]).bind fun ys=>(zax [c]).bind fun zs=>some (zku xs ys zs,p.2)
 |_=>none):=rfl
theorem ok_iEn {Q:List D×R->Prop}:OkQ Q (iEn ma ρ)=OkQ Q ((ma ρ).bind fun p=>(zax p.1).map fun xs=>(zkJ xs,p.2)):=rfl
theorem ok_oLCM {t b w:Nat}{Q:List D×R->Prop}:OkQ Q (oLCM cap t b w mi g mt me ρ)=OkQ Q ((mi ρ).bind fun p=>if p.1.length<=16777216 then
    ((fzL (cap.filter (· !=w)) p.2)[w]?).bind fun s=>s.items.bind fun cs=>(zeq (zl6 b g mt me) p.1 ((capR cap t (fzL (cap.filter (· !=w)) p.2)).set b (.par cs))).map fun q=>(q.1,(fzL (cap.filter (· !=w)) p.2).set w (s.put (znM b q.2)))
  else none):=rfl
noncomputable def zj3:Nat->List D->R
 |N,[]=>List.replicate N .emp
 |N,d::ds=> .val d::zj3 (N-1) ds
theorem ziv {d:D}:zj3 N (d::ds)= .val d::zj3 (N-1) ds:=rfl
theorem znu:zj3 N []=List.replicate N .emp:=rfl
theorem zg9:∀(N:Nat) (ds:List D),ds.map .val++List.replicate (N-ds.length) .emp=zj3 N ds
 |_,[]=>rfl
 |N,d::ds=>by rw[ziv,<-zg9 (N-1) ds,List.map_cons,List.length_cons,Nat.sub_sub,Nat.add_comm 1];rfl
theorem zoa {α β:Type}{f:α->β}{a:α}{l:List α}:(a::l).map f=f a::l.map f:=rfl
theorem map_nilR {α β:Type}{f:α->β}:[].map f=[]:=rfl
theorem ok_fP {m:MS}{Q:Sl->Prop}:OkQ Q (fP N m ds)=OkQ Q ((m (zj3 N ds)).bind fun p=>match p.1 with
 | .ret r=>some r
 | .next=>some (.val .non)
 |_=>none):=by rw[<-zg9];rfl
theorem ok_fM {m:MS}{cs:List D}{Q:Sl×List D->Prop}:OkQ Q (fM N m cs ds)=OkQ Q ((m (.par cs::zj3 (N-1) ds)).bind fun p=>match p.1,(p.2[0]?:Option Sl)with
 |Fl.ret r,some (Sl.par out)=>some (r,out)
 |Fl.next,some (Sl.par out)=>some (.val .non,out)
 |_,_=>none):=by rw[<-zg9,Nat.sub_sub,Nat.add_comm 1];rfl
end
noncomputable def Turn (I:R->Prop)(Q:Fl×R->Prop)(p:Fl×R):Prop:=match p.1 with
 | .next=>I p.2
 | .cont=>I p.2
 | .brk=>Q (.next,p.2)
 | .ret r=>Q (.ret r,p.2)
theorem znF:Turn I Q (.next,ρ)=(I ρ):=rfl
theorem zm2:Turn I Q (.cont,ρ)=(I ρ):=rfl
theorem turn_brk:Turn I Q (.brk,ρ)=(Q (.next,ρ)):=rfl
theorem turn_ret:Turn I Q (.ret r,ρ)=(Q (.ret r,ρ)):=rfl
theorem znZ {α:Type}{f:D->R->Option (Fl×R)}(enc:α->D)(I:Nat->R->Prop):∀(l:List α) (b:Nat) (ρ:R),I b ρ->
  (∀i a ρ,l[i]? =some a->I (b+i) ρ->Ok (f (enc a) ρ) (Turn (I (b+i+1)) Q))->(∀ρ,I (b+l.length) ρ->Q (.next,ρ))->Ok (forM f (l.map enc) ρ) Q
 |[],b,ρ,h0,_,hq=>ok_some.mpr (hq ρ h0)
 |a::l,b,ρ,h0,hs,hq=>by
  obtain⟨p,e,t⟩:=hs 0 a ρ rfl h0
  obtain⟨fl,ρ1⟩:=p
  have go:∀ρ1,I (b+1) ρ1->Ok (forM f (l.map enc) ρ1) Q:=fun ρ1 h1=>znZ enc I l (b+1) ρ1 h1 (fun i a' ρ' hi hp=>by
   have:=hs (i+1) a' ρ' (by simpa using hi) (by rw[show b+(i+1)=b+1+i by lia];exact hp)
   rw[show b+(i+1)+1=b+1+i+1 by lia]at this
   exact this) (fun ρ h=>hq ρ (by rw[List.length_cons,show b+(l.length+1)=b+1+l.length by lia];exact h))
  have e':forM f ((a::l).map enc) ρ=(f (enc a) ρ).bind fun p=>match p.1 with
   | .next=>forM f (l.map enc) p.2
   | .cont=>forM f (l.map enc) p.2
   | .brk=>some (.next,p.2)
   | .ret r=>some (.ret r,p.2):=rfl
  rw[e',e]
  cases fl with
  |next=>exact go ρ1 t
  |cont=>exact go ρ1 t
  |brk=>exact ok_some.mpr t
  |ret r=>exact ok_some.mpr t
theorem zm4 {α:Type}{f:D->R->Option (Fl×R)}{enc:α->D}{l:List α}(I:Nat->R->Prop)(h0:I 0 ρ)
  (hs:∀i a ρ,l[i]? =some a->I i ρ->Ok (f (enc a) ρ) (Turn (I (i+1)) Q)) (hq:∀ρ,I l.length ρ->Q (.next,ρ)):Ok (forM f (l.map enc) ρ) Q:=
 znZ enc I l 0 ρ h0 (fun i a ρ hi h=>by rw[Nat.zero_add]at h ⊢;exact hs i a ρ hi h) (fun ρ h=>hq ρ (by rw[Nat.zero_add]at h;exact h))
theorem zkm {α:Type}(enc:α->D){Q:List D×R->Prop}(I:Nat->List D->R->Prop):∀(l:List α) (b:Nat) (acc:List D) (ρ:R),I b acc ρ->
  (∀i a acc ρ,l[i]? =some a->I (b+i) acc ρ->Ok (f (enc a) ρ) fun p=>I (b+i+1) (acc++p.1.toList) p.2)->(∀ds ρ,I (b+l.length) (acc++ds) ρ->Q (ds,ρ))->Ok (zeq f (l.map enc) ρ) Q
 |[],b,acc,ρ,h0,_,hq=>ok_some.mpr (hq [] ρ (by rw[List.append_nil];exact h0))
 |a::l,b,acc,ρ,h0,hs,hq=>by
  obtain⟨p,e,t⟩:=hs 0 a acc ρ rfl h0
  have go:=zkm enc (Q:=fun q=>Q (p.1.toList++q.1,q.2)) I l (b+1) (acc++p.1.toList) p.2 t (fun i a' acc' ρ' hi hp=>by
   have:=hs (i+1) a' acc' ρ' (by simpa using hi) (by rw[show b+(i+1)=b+1+i by lia];exact hp)
   rw[show b+(i+1)+1=b+1+i+1 by lia]at this
   exact this) (fun ds ρ h=>hq _ ρ (by rw[List.length_cons,show b+(l.length+1)=b+1+l.length by lia,<-List.append_assoc];exact h))
  have e':zeq f ((a::l).map enc) ρ=(f (enc a) ρ).bind fun p=>(zeq f (l.map enc) p.2).map fun q=>(p.1.toList++q.1,q.2):=rfl
  rw[e',e]
  exact ok_map.mpr go
theorem zlj {α:Type}{enc:α->D}{l:List α}{Q:List D×R->Prop}(I:Nat->List D->R->Prop)(h0:I 0 [] ρ)
  (hs:∀i a acc ρ,l[i]? =some a->I i acc ρ->Ok (f (enc a) ρ) fun p=>I (i+1) (acc++p.1.toList) p.2) (hq:∀ds ρ,I l.length ds ρ->Q (ds,ρ)):Ok (zeq f (l.map enc) ρ) Q:=
 zkm enc I l 0 [] ρ h0 (fun i a acc ρ hi h=>by rw[Nat.zero_add]at h ⊢;exact hs i a acc ρ hi h) (fun ds ρ h=>hq ds ρ (by rw[Nat.zero_add]at h;exact h))
theorem ok_compF {α:Type}{enc:α->D}{l:List α}{Q:List D×R->Prop}(P:R->Prop)(g:α->Option D)(h0:P ρ)
  (hs:∀a ρ,a∈l->P ρ->Ok (f (enc a) ρ) fun p=>p.1=g a/\P p.2) (hq:∀ρ,P ρ->Q (l.filterMap g,ρ)):Ok (zeq f (l.map enc) ρ) Q:=
 zlj (fun i ds ρ=>ds=(l.take i).filterMap g/\P ρ) ⟨rfl,h0⟩ (fun i a acc ρ hi ⟨e,p⟩=>by
  refine(hs a ρ (List.mem_of_getElem? hi) p).mono fun r h=>⟨?_,h.2⟩
  obtain⟨h1,h2⟩:=List.getElem?_eq_some_iff.mp hi
  rw[h.1,e,List.take_add_one,hi,List.filterMap_append]
  cases q:g a<;>simp[q]) (fun ds ρ ⟨e,p⟩=>by rw[List.take_length]at e;rw[e];exact hq ρ p)
theorem zoh {α:Type}{enc:α->D}{l:List α}{Q:List D×R->Prop}(P:R->Prop)(g:α->D)(h0:P ρ)
  (hs:∀a ρ,a∈l->P ρ->Ok (f (enc a) ρ) fun p=>p.1=some (g a)/\P p.2) (hq:∀ρ,P ρ->Q (l.map g,ρ)):Ok (zeq f (l.map enc) ρ) Q:=
 ok_compF P (fun a=>some (g a)) h0 hs (fun ρ p=>by rw[<-Function.comp_def some g,List.filterMap_eq_map];exact hq ρ p)
theorem dEq_int (i j:Int):dEq (.int i) (.int j)=some (.bl (i==j)):=by
 unfold dEq
 rw[show noS (.int i)=true from rfl,show noS (.int j)=true from rfl,show depth (.int i)=0 from rfl]
 rfl
theorem dNe_int (i j:Int):dNe (.int i) (.int j)=some (.bl (i !=j)):=by
 unfold dNe
 rw[show noS (.int i)=true from rfl,show noS (.int j)=true from rfl,show depth (.int i)=0 from rfl]
 rfl
theorem atI_n {α:Type}(xs:List α)(i:Nat):atI xs (i:Int)=xs[i]?:=by
 unfold atI ixN
 rw[if_pos (by lia)]
 by_cases h:i<xs.length
 ·rw[if_pos (by lia)];simp
 ·rw[if_neg (by lia)];simp[List.getElem?_eq_none (by lia:xs.length<=i)]
theorem atI_lit {α:Type}(xs:List α)(n:Nat):atI xs (no_index (@OfNat.ofNat Int n _))=xs[n]?:=atI_n xs n
theorem atI_n1 {α:Type}(xs:List α)(i:Nat):atI xs ((i:Int)+1)=xs[i+1]?:=atI_n xs (i+1)
theorem ixN_n (n i:Nat):ixN n (i:Int)=if i<n then some i else none:=by
 unfold ixN
 rw[if_pos (by lia)]
 by_cases h:i<n
 ·rw[if_pos (by lia),if_pos h];simp
 ·rw[if_neg (by lia),if_neg h]
theorem ixN_lit (n i:Nat):ixN n (no_index (@OfNat.ofNat Int i _))=if i<n then some i else none:=ixN_n n i
theorem zdN {i j:Int}(h:i.natAbs<18446744073709551616):zkz i j=true:=by
 unfold zkz
 have:decide (i.natAbs<2^64)=true:=decide_eq_true h
 rw[this];rfl
theorem zmK {i j:Int}(h:j.natAbs<18446744073709551616):zkz i j=true:=by
 unfold zkz
 have:decide (j.natAbs<2^64)=true:=decide_eq_true h
 rw[this];simp
theorem zaF {j:Int}(h1: -1000000000000<=j)(h2:j<=1000000000000):zdE j=true:=by
 unfold zdE;rw[decide_eq_true h1,decide_eq_true h2];rfl
noncomputable def wL (n:Nat)(f:Nat->D):List D:=(List.range n).map f
noncomputable abbrev wI (n:Nat)(f:Nat->Int):List D:=wL n fun i=> .int (f i)
theorem zaW (n:Nat)(f:Nat->D):(wL n f).length=n:=by simp[wL]
theorem zaC (f:Nat->D)(h:i<n):(wL n f)[i]? =some (f i):=by simp[wL,h]
theorem zhs (n:Nat)(f:Nat->D):wL (n+1) f=wL n f++[f n]:=by simp[wL,List.range_succ]
theorem zgm {f g:Nat->D}(h:∀i,i<n->f i=g i):wL n f=wL n g:=List.map_congr_left fun i hi=>h i (List.mem_range.mp hi)
theorem wL_snoc (n:Nat)(f:Nat->D)(x:D):wL n f++[x]=wL (n+1) fun j=>if j<n then f j else x:=by
 rw[zhs];congr 1
 ·exact zgm fun i hi=>by rw[if_pos hi]
 ·rw[if_neg (by lia)]
theorem wL_set (f:Nat->D)(x:D)(h:i<n):(wL n f).set i x=wL n fun j=>if j=i then x else f j:=by
 apply List.ext_getElem?
 intro j
 by_cases hj:j<n
 ·rw[zaC _ hj,List.getElem?_set]
  by_cases e:i=j
  ·subst e;simp[zaW,h]
  ·simp[e,zaC _ hj,Ne.symm e]
 ·rw[List.getElem?_eq_none (by simp[zaW];lia),List.getElem?_eq_none (by simp[zaW];lia)]
theorem zkn (l:List Int):l.map D.int=wI l.length fun i=>l.getD i 0:=by
 apply List.ext_getElem?
 intro j
 by_cases hj:j<l.length
 ·simp[wL,hj]
 ·rw[List.getElem?_eq_none (by simp;lia),List.getElem?_eq_none (by simp[wL];lia)]
theorem znp (n:Nat)(f:Nat->D):zkJ (wL n f)=wL n fun i=> .tup [.int (i:Nat),f i]:=by
 apply List.ext_getElem?
 intro j
 unfold zkJ
 by_cases hj:j<n
 ·rw[List.getElem?_zipWith,zaC _ hj,zaC _ hj]
  simp[zaW,hj]
 ·rw[List.getElem?_eq_none (by simp[zaW];lia),List.getElem?_eq_none (by simp[zaW];lia)]
theorem ziz (n:Nat)(f g:Nat->D):zkM (wL n f) (wL n g)=wL n fun i=> .tup [f i,g i]:=by
 apply List.ext_getElem?
 intro j
 unfold zkM
 by_cases hj:j<n
 ·rw[List.getElem?_zipWith,zaC _ hj,zaC _ hj,zaC _ hj]
 ·rw[List.getElem?_eq_none (by simp[zaW];lia),List.getElem?_eq_none (by simp[zaW];lia)]
theorem zf7 {α:Type}(xs:List α)(i:Nat):cutD xs none (some (i:Int))=xs.take i:=by
 unfold cutD
 rw[HT.zje,HT.zlp,Nat.sub_zero,List.drop_zero]
 by_cases h:i<=xs.length
 ·rw[Nat.min_eq_left h]
 ·rw[Nat.min_eq_right (by lia),List.take_of_length_le (Nat.le_refl _),List.take_of_length_le (by lia)]
theorem zgd {α:Type}(xs:List α)(i:Nat):cutD xs (some (i:Int)) none=xs.drop i:=by
 unfold cutD
 rw[HT.zje,HT.zlp]
 by_cases h:i<=xs.length
 ·rw[Nat.min_eq_left h,List.take_of_length_le (by simp)]
 ·rw[Nat.min_eq_right (by lia),List.drop_of_length_le (Nat.le_refl _),List.drop_of_length_le (by lia)];simp
theorem zcS:∀(l:List Int),zbl (l.map .int)=some l
 |[]=>rfl
 |i::l=>by simp[zbl,zcS l]
theorem zhw (bt:Nat->Nat->Bool):∀n,argBest bt n<=n
 |0=>Nat.le_refl 0
 |n+1=>by
  have:=zhw bt n
  unfold argBest
  split<;>lia
theorem zjv (lt:Int->Int->Bool)(h:ns≠[]):zhn lt ns∈ns:=by
 unfold zhn
 have hl:0<ns.length:=List.length_pos_iff.mpr h
 have:=zhw (fun i j=>lt (ns.getD i 0) (ns.getD j 0)) (ns.length-1)
 generalize argBest (fun i j=>lt (ns.getD i 0) (ns.getD j 0)) (ns.length-1)=k at*
 rw[List.getD_eq_getElem?_getD,List.getElem?_eq_getElem (by lia)]
 exact List.getElem_mem _
theorem zio (lt:Int->Int->Bool)(h:ns≠[]):zn0 lt [.lst (ns.map .int)]=some (.int (zhn lt ns)):=by
 have hne:ns.isEmpty=false:=by cases ns with|nil=>exact absurd rfl h|cons=>rfl
 simp only[zn0,zax,Option.bind_some,zcS,hne]
 rfl
mutual
theorem zlM:∀(d:D),noS d=true->eqB d d=true
 | .non,_=>rfl
 | .bl b,_=>by simp[eqB]
 | .int i,_=>by simp[eqB]
 | .str s,_=>by simp[eqB]
 | .lst ds,h=>by simp only[eqB];exact zhR ds (by simpa[noS]using h)
 | .tup ds,h=>by simp only[eqB];exact zhR ds (by simpa[noS]using h)
 | .scr _,h=>by simp[noS]at h
 | .exc _,h=>by simp[noS]at h
theorem zhR:∀(ds:List D),noSL ds=true->eqBL ds ds=true
 |[],_=>rfl
 |d::ds,h=>by
  simp only[noSL,Bool.and_eq_true]at h
  simp only[eqBL,Bool.and_eq_true]
  exact⟨zlM d h.1,zhR ds h.2⟩
end
theorem dNe_same (h:noS d=true)(k:depth d<=50):dNe d d=some (.bl false):=by simp[dNe,h,k,zlM d h]
theorem zkX:∀{ds:List D},(∀d∈ds,noS d=true)->noSL ds=true
 |[],_=>rfl
 |d::ds,h=>by simp only[noSL,Bool.and_eq_true];exact⟨h d List.mem_cons_self,zkX fun e he=>h e (List.mem_cons_of_mem _ he)⟩
theorem zhJ:∀{ds:List D},(∀d∈ds,depth d<=k)->zff ds<=k
 |[],_=>Nat.zero_le _
 |d::ds,h=>by simp only[zff];exact Nat.max_le.mpr ⟨h d List.mem_cons_self,zhJ fun e he=>h e (List.mem_cons_of_mem _ he)⟩
noncomputable def Pl (k:Nat)(d:D):Prop:=noS d=true/\depth d<=k
theorem zif (k:Nat)(i:Int):Pl k (.int i):=⟨rfl,Nat.zero_le _⟩
theorem zkr (h:∀d∈ds,Pl k d):Pl (k+1) (.lst ds):=⟨by simp only[noS];exact zkX fun d hd=>(h d hd).1,by simp only[depth];exact Nat.succ_le_succ (zhJ fun d hd=>(h d hd).2)⟩
theorem zmG (h:∀d∈ds,Pl k d):Pl (k+1) (.tup ds):=⟨by simp only[noS];exact zkX fun d hd=>(h d hd).1,by simp only[depth];exact Nat.succ_le_succ (zhJ fun d hd=>(h d hd).2)⟩
theorem pl_w {f:Nat->D}(h:∀i,Pl k (f i)):∀d∈wL n f,Pl k d:=fun d hd=>by
 obtain⟨i,_,rfl⟩:=List.mem_map.mp hd;exact h i
theorem Pl.ne (h:Pl k d)(l:k<=50):dNe d d=some (.bl false):=dNe_same h.1 (Nat.le_trans h.2 l)
theorem rangeD_w (n:Nat):zdt 0 n=wL n fun i=> .int (i:Nat):=by unfold zdt wL;simp only[Int.zero_add]
theorem znL (lo:Int)(n:Nat):zdt lo n=wL n fun i=> .int (lo+(i:Nat)):=rfl
section
variable {n:Nat} {e:Nat->D} {ρ:R}
theorem zbJ {f:D->R->Option (Fl×R)}(I:Nat->R->Prop)(h0:I 0 ρ)
  (hs:∀i ρ,i<n->I i ρ->Ok (f (e i) ρ) (Turn (I (i+1)) Q)) (hq:∀ρ,I n ρ->Q (.next,ρ)):Ok (forM f (wL n e) ρ) Q:=
 zm4 (enc:=e) (l:=List.range n) I h0 (fun i a ρ hi h=>by
  obtain⟨h1,h2⟩:=List.getElem?_eq_some_iff.mp hi
  have:a=i:=by simpa using h2.symm
  subst this
  exact hs a ρ (by simpa using h1) h) (fun ρ h=>hq ρ (by simpa using h))
variable {f:D->R->Option (Option D×R)} {Q:List D×R->Prop}
theorem zge (I:Nat->List D->R->Prop)(h0:I 0 [] ρ)
  (hs:∀i acc ρ,i<n->I i acc ρ->Ok (f (e i) ρ) fun p=>I (i+1) (acc++p.1.toList) p.2) (hq:∀ds ρ,I n ds ρ->Q (ds,ρ)):Ok (zeq f (wL n e) ρ) Q:=
 zlj (enc:=e) (l:=List.range n) I h0 (fun i a acc ρ hi h=>by
  obtain⟨h1,h2⟩:=List.getElem?_eq_some_iff.mp hi
  have:a=i:=by simpa using h2.symm
  subst this
  exact hs a acc ρ (by simpa using h1) h) (fun ds ρ h=>hq ds ρ (by simpa using h))
theorem zaQ (P:R->Prop)(g:Nat->D)(h0:P ρ)
  (hs:∀i ρ,i<n->P ρ->Ok (f (e i) ρ) fun p=>p.1=some (g i)/\P p.2) (hq:∀ρ,P ρ->Q (wL n g,ρ)):Ok (zeq f (wL n e) ρ) Q:=
 zoh (enc:=e) (l:=List.range n) P g h0 (fun a ρ ha hp=>hs a ρ (List.mem_range.mp ha) hp) hq
end
end M
namespace M
theorem zhp (n:Nat)(f:Nat->Int)(x:Int):wI n f++[.int x]=wI (n+1) fun j=>if j<n then f j else x:=by
 rw[wI,wL_snoc];exact zgm fun j _=>by dsimp only;split<;>rfl
theorem zkB {j:Int}(h0:0<j)(h1:j<1073741824):zmk j=true:=by
 have h:j.natAbs.log2<9000:=by
  have:j.natAbs.log2<30:=(Nat.log2_lt (by lia)).mpr (by lia)
  lia
 unfold zmk;rw[decide_eq_true h0,decide_eq_true h];rfl
theorem zmI {j:Int}(h0:0<j)(h1:j<2^250):zmk j=true:=by
 have h:j.natAbs.log2<9000:=by
  have:j.natAbs.log2<250:=(Nat.log2_lt (by lia)).mpr (by lia)
  lia
 unfold zmk;rw[decide_eq_true h0,decide_eq_true h];rfl
theorem zlf {n i:Nat}(f:Nat->Int)(x:Int)(h:i<n):(wI n f).set i (.int x)=wI n fun j=>if j=i then x else f j:=by
 rw[wI,wL_set _ _ h];exact zgm fun j _=>by dsimp only;split<;>rfl
theorem isN_non:isN .non=true:=rfl
theorem isN_int (i:Int):isN (.int i)=false:=rfl
theorem isN_bl (b:Bool):isN (.bl b)=false:=rfl
theorem isN_str (s:PySem.Str):isN (.str s)=false:=rfl
theorem isN_lst (ds:List D):isN (.lst ds)=false:=rfl
theorem isN_tup (ds:List D):isN (.tup ds)=false:=rfl
end M
namespace M
open L2 PySem
theorem zlw (ds:List D):zax [.lst ds]=some ds:=rfl
theorem zli (ds:List D):zax [.tup ds]=some ds:=rfl
theorem dItems_s (ns:List Int):zax [.scr ns]=some (ns.map .int):=rfl
theorem znE (ds:List D):dLen [.lst ds]=some (.int ds.length):=rfl
theorem znR (ds:List D):dLen [.tup ds]=some (.int ds.length):=rfl
theorem dLen_s (ns:List Int):dLen [.scr ns]=some (.int ns.length):=rfl
theorem zl2 (ds:List D):zbp [.lst ds]=some (.tup ds):=rfl
theorem zlT (ds:List D):zbp [.tup ds]=some (.tup ds):=rfl
theorem dTuple_s (ns:List Int):zbp [.scr ns]=some (.tup (ns.map .int)):=rfl
theorem dCut_l (ds:List D)(a b:Option Int):dCut (.lst ds) a b=some (.lst (cutD ds a b)):=rfl
theorem dCut_t (ds:List D)(a b:Option Int):dCut (.tup ds) a b=some (.tup (cutD ds a b)):=rfl
theorem dCut_s (ns:List Int)(a b:Option Int):dCut (.scr ns) a b=some (.lst ((cutD ns a b).map .int)):=rfl
theorem dIx_l (ds:List D)(i:Int):dIx (.lst ds) (.int i)=atI ds i:=rfl
theorem dIx_t (ds:List D)(i:Int):dIx (.tup ds) (.int i)=atI ds i:=rfl
theorem dIx_s (ns:List Int)(i:Int):dIx (.scr ns) (.int i)=(atI ns i).map .int:=rfl
theorem dEq_str (a b:Str):dEq (.str a) (.str b)=some (.bl (a==b)):=by
 unfold dEq
 rw[show noS (.str a)=true from rfl,show noS (.str b)=true from rfl,show depth (.str a)=0 from rfl]
 rfl
theorem zip3D_w (n:Nat)(f g h:Nat->D):zku (wL n f) (wL n g) (wL n h)=wL n fun i=> .tup [f i,g i,h i]:=by
 apply List.ext_getElem?
 intro j
 unfold zku
 by_cases hj:j<n
 ·have e:(List.zip (wL n g) (wL n h))[j]? =some (g j,h j):=by
   rw[List.getElem?_zip_eq_some];exact⟨zaC g hj,zaC h hj⟩
  rw[List.getElem?_zipWith,e,zaC _ hj,zaC _ hj]
 ·rw[List.getElem?_eq_none (by simp[zaW];lia),List.getElem?_eq_none (by simp[zaW];lia)]
structure Sq (d:D) (n:Nat) (f:Nat->Int):Prop where
 it:zax [d]=some (wI n f)
 ln:dLen [d]=some (.int n)
 tp:zbp [d]=some (.tup (wI n f))
 ix:∀i,dIx d (.int i)=atI (wI n f) i
 ct:∀lo hi,∃d',dCut d lo hi=some d'/\zax [d']=some (cutD (wI n f) lo hi)
theorem Sq.lst (n:Nat)(f:Nat->Int):Sq (.lst (wI n f)) n f:=⟨rfl,by rw[znE,zaW],rfl,fun _=>rfl,fun lo hi=>⟨_,rfl,rfl⟩⟩
theorem Sq.tup (n:Nat)(f:Nat->Int):Sq (.tup (wI n f)) n f:=⟨rfl,by rw[znR,zaW],rfl,fun _=>rfl,fun lo hi=>⟨_,rfl,rfl⟩⟩
theorem zi4:∀(xs ys:List Int),eqBL (xs.map D.int) (ys.map D.int)=(xs==ys)
 |[],[]=>rfl
 |[],_::_=>rfl
 |_::_,[]=>rfl
 |x::xs,y::ys=>by simp[eqBL,eqB,zi4 xs ys]
theorem zcO (n:Nat)(b:Nat->Bool):zdM (wL n fun i=> .bl (b i))=some ((List.range n).map b):=by
 have:∀l:List Nat,zdM (l.map fun i=>D.bl (b i))=some (l.map b):=by
  intro l
  induction l with
  |nil=>rfl
  |cons a l ih=>simp[zdM,ih]
 exact this _
theorem ziX (n:Nat)(b:Nat->Bool):(((List.range n).map b).all id=true)↔∀i,i<n->b i=true:=by simp
theorem ok_eCutO {j:Nat}{ml mh:MP}{ρ:R}{Q:D×R->Prop}:OkQ Q (zew j ml mh ρ)=OkQ Q (gd ((ρ[j]?.bind Sl.items).isSome) ((ml ρ).bind fun q=>(mh q.2).bind fun r=>(r.2[j]?.bind Sl.items).bind fun ds=>some (.lst (cutD ds q.1 r.1),r.2))):=rfl
theorem znl (a b:Int):eqV (.int a) (.int b)=(b==a):=by
 show(a==b)=(b==a)
 by_cases h:a=b
 ·subst h;rfl
 ·rw[beq_eq_false_iff_ne.mpr h,beq_eq_false_iff_ne.mpr fun e=>h e.symm]
theorem zgt:∀(l:List Int),zkH (l.map D.int)=some (l.map V.int)
 |[]=>rfl
 |i::l=>by simp[zkH,flV,zgt l]
theorem zlk (a:Int):∀(l:List Int),inV (.int a) (l.map V.int)=l.contains a
 |[]=>rfl
 |i::l=>by
  have:=zlk a l
  unfold inV at this ⊢
  rw[List.map_cons,List.any_cons,this,znl,List.contains_cons]
theorem zdZ {j n m i:Nat}(hm:0<m):i<cntS (j:Int) (n:Int) (m:Int)↔j+i*m<n:=by
 unfold cntS
 by_cases h:(j:Int)<(n:Int)
 ·rw[if_pos h]
  have e:((n:Int)-(j:Int)-1)/(m:Int)=(((n-j-1)/m:Nat):Int):=by
   rw[Int.natCast_ediv];congr 1;lia
  have e2:∀q:Nat,((q:Int)+1).toNat=q+1:=fun q=>by lia
  rw[e,e2,Nat.lt_succ_iff,Nat.le_div_iff_mul_le hm]
  lia
 ·rw[if_neg h]
  constructor
  ·intro h;lia
  ·intro h;lia
theorem zol {α β:Type}{h:α->Option β}{g:α->β}:∀(l:List α),(∀a∈l,h a=some (g a))->l.filterMap h=l.map g
 |[],_=>rfl
 |a::l,e=>by rw[List.filterMap_cons,e a List.mem_cons_self,List.map_cons,zol l fun b hb=>e b (List.mem_cons_of_mem _ hb)]
theorem znq {n j m:Nat}(f:Nat->D)(hm:0<m)(hj:j<n):zcR (wL n f) (some (j:Int)) none (some (m:Int))=wL (cntS (j:Int) (n:Int) (m:Int)) fun i=>f (j+i*m):=by
 have hb:sliceBounds (some (j:Int)) none (some (m:Int)) n=((j:Int),(n:Int),(m:Int)):=by
  have:(m:Int)>0:=by lia
  simp[sliceBounds,this]
  lia
 unfold zcR
 rw[zaW,hb]
 unfold sliceRange
 have h1:(m:Int)>0:=by lia
 have h2:(j:Int)<(n:Int):=by lia
 simp only[h1,h2,if_true]
 have ec:(((n:Int)-(j:Int)+(m:Int)-1)/(m:Int)).toNat=cntS (j:Int) (n:Int) (m:Int):=by
  unfold cntS
  rw[if_pos h2,show((n:Int)-(j:Int)+(m:Int)-1)=((n:Int)-(j:Int)-1)+(m:Int) by lia,Int.add_ediv_of_dvd_right (Int.dvd_refl _),Int.ediv_self (by lia)]
 rw[ec]
 rw[List.filterMap_map]
 apply zol
 intro i hi
 have hi:j+i*m<n:=(zdZ hm).mp (List.mem_range.mp hi)
 have ht:((j:Int)+(m:Int)*(i:Int)).toNat=j+i*m:=by
  rw[show((j:Int)+(m:Int)*(i:Int))=((j+i*m:Nat):Int) by push_cast;rw[Int.mul_comm]];lia
 simp only[Function.comp_def,ht]
 exact zaC f hi
noncomputable def sumR:Nat->(Nat->Int)->Int
 |0,_=>0
 |n+1,f=>sumR n f+f n
theorem zbY {f g:Nat->Int}:∀{n:Nat},(∀i,i<n->f i=g i)->sumR n f=sumR n g
 |0,_=>rfl
 |n+1,h=>by rw[sumR,sumR,zbY fun i hi=>h i (by lia),h n (by lia)]
theorem zho {f g:Nat->Int}:∀{n:Nat},(∀i,i<n->f i<=g i)->sumR n f<=sumR n g
 |0,_=>Int.le_refl _
 |n+1,h=>by
  have h1:=zho (n:=n) fun i hi=>h i (by lia)
  have h2:=h n (by lia)
  simp only[sumR];lia
theorem zcB (f:Nat->Int)(a:Nat):∀b,sumR (a+b) f=sumR a f+sumR b fun i=>f (a+i)
 |0=>by simp[sumR]
 |b+1=>by rw[show a+(b+1)=a+b+1 by lia,sumR,sumR,zcB f a b];lia
theorem zdB (f:Nat->Int):∀n,((List.range n).map f).sum=sumR n f
 |0=>rfl
 |n+1=>by simp[List.range_succ,zdB f n,sumR]
theorem zd1 (n:Nat)(f:Nat->Int):zbl (wI n f)=some ((List.range n).map f):=by
 have:wI n f=((List.range n).map f).map .int:=by simp[wL,List.map_map,Function.comp_def]
 rw[this,zcS]
theorem cut_w {n a b:Nat}(f:Nat->D)(h:a+b<=n):cutD (wL n f) (some (a:Int)) (some ((a:Int)+(b:Int)))=wL b fun i=>f (a+i):=by
 have e:cutD (wL n f) (some (a:Int)) (some ((a:Int)+(b:Int)))=((wL n f).drop a).take b:=by
  unfold cutD
  rw[HT.zje,show((a:Int)+(b:Int))=((a+b:Nat):Int) by lia,HT.zje,zaW]
  rw[Nat.min_eq_left h,Nat.min_eq_left (by lia:a<=n),Nat.add_sub_cancel_left]
 rw[e]
 apply List.ext_getElem?
 intro j
 by_cases hj:j<b
 ·rw[List.getElem?_take_of_lt hj,List.getElem?_drop,zaC _ (by lia),zaC _ hj]
 ·rw[List.getElem?_eq_none (by simp[zaW];lia),List.getElem?_eq_none (by rw[zaW];lia)]
theorem zet (v:Nat->Int):∀n i,i<=n->v i<=v (argBest (fun i j=>decide (v i>v j)) n)
 |0,i,h=>by rw[show i=0 by lia];exact Int.le_refl _
 |n+1,i,h=>by
  simp only[argBest]
  by_cases c:v (n+1)>v (argBest (fun i j=>decide (v i>v j)) n)
  ·rw[if_pos (decide_eq_true c)]
   by_cases e:i=n+1
   ·rw[e];exact Int.le_refl _
   ·have:=zet v n i (by lia);lia
  ·rw[if_neg (by simpa using c)]
   by_cases e:i=n+1
   ·rw[e];lia
   ·exact zet v n i (by lia)
theorem zeF (v:Nat->Int):∀n i,i<=n->v (argBest (fun i j=>decide (v i<v j)) n)<=v i
 |0,i,h=>by rw[show i=0 by lia];exact Int.le_refl _
 |n+1,i,h=>by
  simp only[argBest]
  by_cases c:v (n+1)<v (argBest (fun i j=>decide (v i<v j)) n)
  ·rw[if_pos (decide_eq_true c)]
   by_cases e:i=n+1
   ·rw[e];exact Int.le_refl _
   ·have:=zeF v n i (by lia);lia
  ·rw[if_neg (by simpa using c)]
   by_cases e:i=n+1
   ·rw[e];lia
   ·exact zeF v n i (by lia)
theorem zk8 (g:Nat->Int){c i:Nat}(h:i<c):((List.range c).map g).getD i 0=g i:=by
 rw[List.getD_eq_getElem?_getD];simp[h]
theorem max_w (g:Nat->Int){c:Nat}(hc:0<c):∃v,zjx [.lst (wI c g)]=some (.int v)/\(∃i,i<c/\g i=v)/\∀i,i<c->g i<=v:=by
 have hne:(List.range c).map g≠[]:=fun h=>by have:=congrArg List.length h;simp at this;lia
 have e1:wI c g=((List.range c).map g).map .int:=by simp[wL,List.map_map,Function.comp_def]
 refine⟨_,by rw[e1];exact zio _ hne,?_,?_⟩
 ·obtain⟨i,hi,e⟩:=List.mem_map.mp (zjv (fun i j=>decide (i>j)) hne)
  exact⟨i,List.mem_range.mp hi,e⟩
 ·intro i hi
  have:=zet (fun i=>((List.range c).map g).getD i 0) (c-1) i (by lia)
  rw[zk8 g hi]at this
  unfold zhn
  rw[List.length_map,List.length_range]
  exact this
theorem min_w (g:Nat->Int){c:Nat}(hc:0<c):∃v,zkj [.lst (wI c g)]=some (.int v)/\(∃i,i<c/\g i=v)/\∀i,i<c->v<=g i:=by
 have hne:(List.range c).map g≠[]:=fun h=>by have:=congrArg List.length h;simp at this;lia
 have e1:wI c g=((List.range c).map g).map .int:=by simp[wL,List.map_map,Function.comp_def]
 refine⟨_,by rw[e1];exact zio _ hne,?_,?_⟩
 ·obtain⟨i,hi,e⟩:=List.mem_map.mp (zjv (fun i j=>decide (i<j)) hne)
  exact⟨i,List.mem_range.mp hi,e⟩
 ·intro i hi
  have:=zeF (fun i=>((List.range c).map g).getD i 0) (c-1) i (by lia)
  rw[zk8 g hi]at this
  unfold zhn
  rw[List.length_map,List.length_range]
  exact this
theorem max_pick (f:Nat->Int){n m j:Nat}(hm:0<m)(hj:j<m)(hn:m<=n):∃v,zjx [.lst (zcR (wI n f) (some (j:Int)) none (some (m:Int)))]=some (.int v)/\(∃p,p<n/\p%m=j/\f p=v)/\∀p,p<n->p%m=j->f p<=v:=by
 rw[wI,znq _ hm (by lia)]
 obtain⟨v,e,⟨i,hi,ei⟩,h⟩:=max_w (fun i=>f (j+i*m)) (c:=cntS (j:Int) (n:Int) (m:Int)) ((zdZ hm).mpr (by lia))
 refine⟨v,e,⟨j+i*m,(zdZ hm).mp hi,by rw[Nat.add_mul_mod_self_right,Nat.mod_eq_of_lt hj],ei⟩,fun p hp hpm=>?_⟩
 have e2:j+p/m*m=p:=by have:=Nat.mod_add_div p m;rw[Nat.mul_comm];lia
 have:=h (p/m) ((zdZ hm).mpr (by lia))
 rw[e2]at this
 exact this
theorem min_pick (f:Nat->Int){n m j:Nat}(hm:0<m)(hj:j<m)(hn:m<=n):∃v,zkj [.lst (zcR (wI n f) (some (j:Int)) none (some (m:Int)))]=some (.int v)/\(∃p,p<n/\p%m=j/\f p=v)/\∀p,p<n->p%m=j->v<=f p:=by
 rw[wI,znq _ hm (by lia)]
 obtain⟨v,e,⟨i,hi,ei⟩,h⟩:=min_w (fun i=>f (j+i*m)) (c:=cntS (j:Int) (n:Int) (m:Int)) ((zdZ hm).mpr (by lia))
 refine⟨v,e,⟨j+i*m,(zdZ hm).mp hi,by rw[Nat.add_mul_mod_self_right,Nat.mod_eq_of_lt hj],ei⟩,fun p hp hpm=>?_⟩
 have e2:j+p/m*m=p:=by have:=Nat.mod_add_div p m;rw[Nat.mul_comm];lia
 have:=h (p/m) ((zdZ hm).mpr (by lia))
 rw[e2]at this
 exact this
theorem zms (f:Nat->Int){n m j:Nat}(hm:0<m)(hj:j<m){v:Int}(h:∃p,p<n/\p%m=j/\f p=v):∃i:Nat,zkl (.lst (zcR (wI n f) (some (j:Int)) none (some (m:Int)))) (.int v)=some (.int i)/\j+i*m<n/\f (j+i*m)=v:=by
 obtain⟨p,hp,hpm,hv⟩:=h
 have hjn:j<n:=by have:=Nat.mod_le p m;lia
 rw[wI,znq _ hm hjn]
 have e2:j+p/m*m=p:=by have:=Nat.mod_add_div p m;rw[Nat.mul_comm];lia
 have hc:p/m<cntS (j:Int) (n:Int) (m:Int):=(zdZ hm).mpr (by lia)
 have mem:v∈(List.range (cntS (j:Int) (n:Int) (m:Int))).map fun i=>f (j+i*m):=List.mem_map.mpr ⟨p/m,List.mem_range.mpr hc,by rw[e2];exact hv⟩
 have e3:zbl (wL (cntS (j:Int) (n:Int) (m:Int)) fun i=>D.int (f (j+i*m)))=some ((List.range (cntS (j:Int) (n:Int) (m:Int))).map fun i=>f (j+i*m)):=zd1 _ fun i=>f (j+i*m)
 have hl:=List.idxOf_lt_length_iff.mpr mem
 have hg:=List.getElem_idxOf hl
 refine⟨List.idxOf v ((List.range (cntS (j:Int) (n:Int) (m:Int))).map fun i=>f (j+i*m)),by simp only[zkl,e3,Option.bind_some,mem,if_true],?_,?_⟩
 ·exact(zdZ hm).mp (by simpa using hl)
 ·rw[List.getElem_map,List.getElem_range]at hg
  exact hg
theorem zlL {mc:MT}{mb:MS}{Q:Fl×R->Prop}(I:Nat->R->Prop)(turn:∀m ρ,I m ρ->Ok (mc ρ) fun p=>(p.1=true->∃m',m=m'+1/\Ok (mb p.2) fun q=>q.1= .next/\I m' q.2)/\(p.1=false->Q (.next,p.2))):∀(fuel m:Nat) (ρ:R),m<fuel->I m ρ->Ok (zgV mc mb fuel ρ) Q
 |0,m,ρ,h,_=>by lia
 |n+1,m,ρ,h,hI=>by
  obtain⟨⟨b,ρ1⟩,e,h1,h2⟩:=(turn m ρ hI)
  unfold zgV
  rw[e]
  cases b with
  |false=>exact ok_some.mpr (h2 rfl)
  |true=>
   obtain⟨m',rfl,h3⟩:=h1 rfl;obtain⟨⟨f,ρ2⟩,e2,ef,hI2⟩:=h3
   show Ok ((mb ρ1).bind _) Q
   rw[e2]
   cases(show f= .next from ef)
   exact zlL I turn n m' ρ2 (by lia) hI2
theorem notInL (j:Int)(ns:List Int):zii (.int j) (.lst (ns.map .int))=some (.bl (!(ns.contains j))):=by
 have e:inV (.int j) (ns.map V.int)=ns.contains j:=by
  unfold inV
  induction ns with
  |nil=>rfl
  |cons a l ih=>rw[List.map_cons,List.any_cons,ih,znl,List.contains_cons]
 show((zkH (ns.map D.int)).map fun xs=>D.bl (!inV (.int j) xs))=_
 rw[zgt]
 show some (D.bl (!inV (.int j) (ns.map V.int)))=_
 rw[e]
theorem inL (j:Int)(ns:List Int):dIn (.int j) (.lst (ns.map .int))=some (.bl (ns.contains j)):=by
 show((zkH (ns.map D.int)).map fun xs=>D.bl (inV (.int j) xs))=_
 rw[zgt]
 show some (D.bl (inV (.int j) (ns.map V.int)))=_
 rw[zlk]
theorem like_par (ns:List Int):likeS (.par (ns.map .int)) (.par (ns.map .int))=true:=by
 show(match zbl (ns.map D.int),zbl (ns.map D.int)with
  |some a,some b=>a==b
  |_,_=>false)=true
 rw[zcS];exact beq_self_eq_true ns
section
variable {j:Nat} {mk me:ME} {ρ:R}
theorem ok_fMT {N:Nat}{m:MS}{cs:List D}{t:T}{ds:List D}{Q:Sl×List D->Prop}:OkQ Q (fMT N m cs t ds)=OkQ Q ((m (.par cs:: .tre t::zj3 (N-2) ds)).bind fun p=>match p.1,(p.2[0]?:Option Sl)with
 |Fl.ret r,some (Sl.par out)=>some (r,out)
 |Fl.next,some (Sl.par out)=>some (.val .non,out)
 |_,_=>none):=by rw[<-zg9,Nat.sub_sub,Nat.add_comm 2];rfl
theorem ok_sPar {i:Nat}{ma:MA}{Q:Fl×R->Prop}:OkQ Q (sPar i j ma ρ)=OkQ Q ((ma ρ).bind fun p=>match p.1 with
 |[c,d]=>some (.next,(p.2.set i (.val c)).set j (.val d))
 |_=>none):=rfl
theorem ok_turnT {g:D->R->Option R}{mt:MT}{mo:MO}{d:D}{Q:Option (List D)×R->Prop}:OkQ Q (turnT g mt mo d ρ)=(OkQ (fun ρ1=>OkQ (fun p=>(p.1=true->OkQ (fun q=>zdn q.2=true/\Q (some q.1,q.2)) (mo p.2))/\(p.1=false->zdn p.2=true/\Q (none,p.2))) (mt ρ1)) (g d ρ)):=by
 unfold turnT;rw[ok_bind];exact zaD fun ρ1=>by rw[ok_bind];exact zaD fun p=>by rw[zkc,ok_bind,zeL,ok_some];congr 1;exact propext (imp_congr Iff.rfl (iff_of_eq (zaD fun q=>by rw[zeL,ok_some])))
theorem ok_turnQ {b c:Nat}{g:D->R->Option R}{mt:MT}{me:ME}{d:D}{Q:Option D×R->Prop}:OkQ Q (turnQ b c g mt me d ρ)=(OkQ (fun ρ1=>OkQ (fun p=>(p.1=true->OkQ (fun q=>znI b c q.2=true/\Q (some q.1,q.2)) (me p.2))/\(p.1=false->znI b c p.2=true/\Q (none,p.2))) (mt ρ1)) (g d ρ)):=by
 unfold turnQ;rw[ok_bind];exact zaD fun ρ1=>by rw[ok_bind];exact zaD fun p=>by rw[zkc,ok_bind,zeL,ok_some];congr 1;exact propext (imp_congr Iff.rfl (iff_of_eq (zaD fun q=>by rw[zeL,ok_some])))
theorem ok_oSrtS {m:ME}{Q:List D×R->Prop}:OkQ Q (oSrtS m ρ)=OkQ Q ((m ρ).bind fun p=>match p.1 with
 | .lst ds=>(zbl ds).bind fun ns=>if ns.length<64 then some ((HT.usrt ns).map .int,p.2)else none
 | .tup ds=>(zbl ds).bind fun ns=>if ns.length<64 then some ((HT.usrt ns).map .int,p.2)else none
 |_=>none):=rfl
theorem zmY {f g h:D->D->Option D}{a b c d:ME}{Q:D×R->Prop}:OkQ Q (zhj f g h a b c d ρ)=(OkQ (fun p=>OkQ (fun q=>OkQ (fun t=>∃z,t= .bl z/\(z=true->OkQ (fun r=>OkQ (fun t'=>∃z',t'= .bl z'/\(z'=true->OkQ (fun s=>OkQ (fun x=>Q (x,s.2)) (h r.1 s.1)) (d r.2))/\(z'=false->Q (.bl false,r.2))) (g q.1 r.1)) (c q.2))/\(z=false->Q (.bl false,q.2))) (f p.1 q.1)) (b p.2)) (a ρ)):=by
 unfold zhj
 rw[ok_bind]
 refine zaD fun p=>?_
 rw[ok_bind]
 refine zaD fun q=>?_
 rw[ok_bind]
 refine zaD fun t=>?_
 cases t with
 |bl z=>
  cases z
  ·simp[ok_some]
  ·simp only[D.bl.injEq,exists_eq_left',forall_const,Bool.true_eq_false,false_implies,and_true]
   rw[ok_bind]
   refine zaD fun r=>?_
   rw[ok_bind]
   refine zaD fun t'=>?_
   cases t' with
   |bl z=>
    cases z
    ·simp[ok_some]
    ·simp only[D.bl.injEq,exists_eq_left',forall_const,Bool.true_eq_false,false_implies,and_true]
     rw[ok_bind]
     exact zaD fun s=>ok_map
   |_=>simp[ok_none]
 |_=>simp[ok_none]
end
end M
local macro_rules | `(tactic| simp! only [$ls,*]) => `(tactic| simp only [↓M.ok_Q, ↓M.ok_sIf, ↓M.ok_eIf, ↓M.ok_tAnd, ↓M.ok_tOr, ↓M.ok_eAnd, ↓M.ok_eOr, ↓M.ok_chain, ↓M.zmY, ↓M.ok_turnM, ↓M.ok_turnP, ↓M.ok_turnQ, ↓M.ok_bind, ↓M.ok_map, ↓M.ok_gd, ↓M.zeL, ↓M.ok_some, ↓M.ok_sNext, ↓M.ok_sSeq, ↓M.ok_sRet, ↓M.ok_sRetO, ↓M.ok_sRetV, ↓M.ok_gN, ↓M.ok_gsNil, ↓M.zno, ↓M.ok_gT, ↓M.ok_sAsg, ↓M.ok_sSet, ↓M.ok_sSetO, ↓M.ok_sApp, ↓M.ok_sPut, ↓M.ok_eC, ↓M.zhK, ↓M.ok_aNil, ↓M.ok_aCons, M.ok_m2, ↓M.ok_m1, ↓M.ok_mC, M.ok_eIxV, ↓M.ok_eLenV, ↓M.ok_oC, ↓M.ok_eTup, ↓M.ok_oLst, ↓M.ok_tTru, ↓M.ok_tNotM, ↓M.ok_eCall, ↓M.ok_oCall, ↓M.zoi, ↓M.ok_eFz, ↓M.ok_eCut, ↓M.ok_pNo, ↓M.ok_pSome, ↓M.ok_iSeq, ↓M.ok_iR1, ↓M.ok_iR2, ↓M.ok_sFor, ↓M.ok_oLC, ↓M.ok_tTrue, ↓M.ok_eIsI, ↓M.ok_fP, ↓M.ok_fM, ↓M.ok_sAugI, ↓M.ok_eCutS, ↓M.ok_oRep, ↓M.ok_iZ2, ↓M.ok_iZ3, ↓M.ok_iEn, ↓M.ok_oLCM, ↓M.ok_eCutO, ↓M.ok_fMT, ↓M.ok_sPar, ↓M.ok_turnT, ↓M.ok_oSrtS, ↓M.ok_eIxC, ↓M.ok_eIxE, ↓M.ok_m2VV, ↓M.ok_m2VC, ↓M.ok_m2CV, M.dI2, M.dSub, M.dDiv, M.dMod, M.dPow, M.dLt, M.dLe, M.dGt, M.dGe, M.dNeg, M.dMul, M.dAdd, M.dTru, M.Sl.read, M.Sl.items, M.Sl.put, M.hasV, M.zdn, M.fz1, M.fzL, M.capS, M.capR, M.eIsI.noS1, M.okT, M.isI, M.d2I, M.dAbs, M.dSum, M.dAll, M.zjx, M.zkj, M.dIsN, M.zkv, M.zkI, M.znM, M.fzD, M.putCs, M.Ch.sl, M.Sl.dic, M.Sl.dit, M.Sl.tree, M.Sl.putT, M.Sl.dit, M.fzT, M.Ch.D, M.fzDT, M.fzU, M.rowsOf, M.znI, M.zmS, M.seqK_ret, M.seqK_brk, M.zmF, M.znF, M.zm2, M.turn_brk, M.turn_ret, List.getElem?_cons_zero, List.getElem?_cons_succ, List.set_cons_zero, List.set_cons_succ, Option.bind_some, Option.isSome_some, Option.map_some, if_true, M.zoa, M.map_nilR, M.ziv, M.znu, M.ixR_val, M.ixR_own, M.ixR_par, M.zhz, M.eVQ_own, M.Vb_val, M.Vb_own, M.Vb_own2, M.Va_val, M.Va_own, List.replicate_succ, List.replicate_zero, List.length_cons, List.length_nil, List.cons_append, List.nil_append, List.all_cons, List.all_nil, Bool.and_true, Bool.true_and, Bool.and_self, Bool.true_eq_false, Bool.false_eq_true, if_false, M.dEq_int, M.dNe_int, List.length_map, List.length_append, M.atI_n, M.atI_lit, M.ixN_n, M.ixN_lit, M.atI_n1, M.ok_none, M.zlw, M.zli, M.dItems_s, M.znE, M.znR, M.dLen_s, M.zl2, M.zlT, M.dTuple_s, M.dCut_l, M.dCut_t, M.dCut_s, M.dIx_l, M.dIx_t, M.dIx_s, M.dEq_str, M.zip3D_w, M.isN_non, M.isN_int, M.isN_bl, M.isN_str, M.isN_lst, M.isN_tup, M.zcS, Int.toNat_natCast, M.rangeD_w, M.zaW, decide_eq_true_eq, Bool.and_eq_true, true_and, and_true, Nat.reduceAdd, Nat.reduceLeDiff, Int.reduceLT, Int.reduceLE, Int.reduceNeg, Nat.reduceSub, Int.reducePow, Int.reduceMul, Int.reduceAdd, Int.reduceSub, Int.reduceMod, Int.reduceDiv, Nat.reduceLT, Nat.reduceBNe, Nat.reduceEqDiff, List.filter_cons, List.filter_nil, bne_self_eq_false, Int.reduceToNat, Nat.reducePow, M.zmf, Int.reduceEq, Int.reduceBEq, Int.reduceBNe, Nat.reduceMod, decide_true, decide_false, beq_iff_eq, beq_eq_false_iff_ne, bne_iff_ne, bne_eq_false_iff_eq, decide_eq_false_iff_not, Int.not_le, Int.not_lt, ne_eq, forall_const, true_implies, false_implies, reduceCtorEq, imp_self, implies_true, M.D.bl.injEq, exists_eq_left', Bool.not_true, Bool.not_false, $ls,*])
namespace Prf
open L2 M PySem
noncomputable def top (i:Nat):Stmt:=PySem.Challenge.pw_tellsum_k75_wrong_sums_judged.main.body.getD i (.Pass ⟨0,0,0,0⟩)
structure BN (K:W.Frag) (mg:Str->Option Value):Prop where
 r_NotTwos:RaiOk K mg "NotTwos"
 abs':mg "abs"=none
 all':mg "all"=none
 bool':mg "bool"=none
 enumerate':mg "enumerate"=none
 isinstance':mg "isinstance"=none
 len':mg "len"=none
 list':mg "list"=none
 max':mg "max"=none
 min':mg "min"=none
 range':mg "range"=none
 set':mg "set"=none
 sorted':mg "sorted"=none
 sum':mg "sum"=none
 tuple':mg "tuple"=none
 zip':mg "zip"=none
section
variable {P:Program} {w:World} {K:W.Frag} {mg:Str->Option Value} {base hp:Heap} {f:Addr} {fd:FuncData} (X:K.In hp) (G:hp.Ns mainGlobals mg) (bn:BN K mg)
include X G bn
abbrev zf0:Stmt:=top 4
def zeK:ME:=
 (m2 dSub (eVar 0) (eVar 1))
def zeA:MO:=
 oLC [] 2 (iZ2 (zaf (eVar 0) (zaf (eVar 1) aNil))) (gT 2 (zaE (gN 0) (zaE (gN 1) zdS))) zcA zeK
def zeZ:MS:=
 (zjk zeA)
def zbc:List D->Option Sl:=fP 2 zeZ
theorem ziP (h:FnAt K "less_mores" zf0):FD P w K mg base 1 "less_mores" (spP K 2 zbc):=
 fdP (N:=["bounds","mores"]) (k:=0) (m:=zeZ) X G h fun _ _ _ _ _ _ _ hr nd=>(zal (zfG (zfA [] 2 ["bound","more"] rfl (zhc bn.zip' (zaa (zab 0) (zaa (zab 1) zae))) (fun C s H fp=>(zcm rfl (zaq (zan 0 ndk) (zaq (zan 1 ndk) zbn)))) (fun C s H fp=>zaN) (fun C s H fp=>(zbd (zab 0) (zab 1))))))
abbrev zf4:Stmt:=top 5
def zeB:ME:=
 (eTup (zaf (mC zjx (zaf (zmX (eVar 0) (zba (eVar 3)) pNo (zba (eVar 1))) aNil)) (zaf (mC zkj (zaf (zmX (eVar 2) (zba (eVar 3)) pNo (zba (eVar 1))) aNil)) aNil)))
def zeJ:MO:=
 oLC [0,2,1] 1 (iR1 (zaf (eVar 2) aNil)) (gN 3) zcA zeB
def zeM:MS:=
 (zjk zeJ)
def za9:List D->Option Sl:=fP 3 zeM
theorem ziJ (h:FnAt K "head_spans" zf4):FD P w K mg base 1 "head_spans" (spP K 3 za9):=
 fdP (N:=["lows","highs","many"]) (k:=0) (m:=zeM) X G h fun _ _ _ _ _ _ _ hr nd=>(zal (zfG (zfA [0,2,1] 1 ["lows","many","highs","j"] rfl (zaH bn.range' (zaa (zab 2) zae)) (fun C s H fp=>(zan 3 ndk)) (fun C s H fp=>zaN) (fun C s H fp=>(zbu (zaa (se_maxL rfl bn.max' (zaa (zkG (zab 0) (zaz (zab 3)) zdx (zaz (zab 1))) zae)) (zaa (se_minL rfl bn.min' (zaa (zkG (zab 2) (zaz (zab 3)) zdx (zaz (zab 1))) zae)) zae)))))))
abbrev zeG:Stmt:=top 6
def zdC:ME:=
 (m2 dAdd (eIxV 0 (m2 dMod (eVar 2) (eVar 1))) (eVar 3))
def zdy:MO:=
 oLC [0,2] 2 (iEn (zaf (eVar 1) aNil)) (gT 2 (zaE (gN 2) (zaE (gN 3) zdS))) zcA zdC
def zdd:MS:=
 (sSeq (sSet 2 (zbW 0))
  (sRet (mC zbp (zaf (eFz zdy) aNil))))
def zbo:List D->Option Sl:=fP 3 zdd
theorem zhO (h:FnAt K "row_by_heads" zeG):FD P w K mg base 1 "row_by_heads" (spP K 2 zbo):=
 fdP (N:=["heads","mores","many"]) (k:=0) (m:=zdd) X G h fun _ _ _ _ _ _ _ hr nd=>(zad (zap 2 (zaJ 0 bn.len') nd)
  (zal (zat (zbr bn.tuple' (zaa (SO.se (zfA [0,2] 2 ["heads","many","place","more"] rfl (zf2 bn.enumerate' (zaa (zab 1) zae)) (fun C s H fp=>(zcm rfl (zaq (zan 2 ndk) (zaq (zan 3 ndk) zbn)))) (fun C s H fp=>zaN) (fun C s H fp=>(zar (zak 0 (zg1 (zab 2) (zab 1))) (zab 3))))) zae)))))
abbrev zec:Stmt:=top 7
def zc1:ME:=
 (m2 dAdd (eVar 3) (m2 dMul (eVar 0) (m2 zkl (zmX (eVar 1) (zba (eVar 3)) pNo (zba (eVar 0))) (eIxV 2 (eVar 3)))))
def zc2:MO:=
 oLC [2,0,1] 1 (iR1 (zaf (eVar 2) aNil)) (gN 3) zcA zc1
def zcC:MS:=
 (sSeq (sSet 2 (zbW 1))
  (sRet (mC zbp (zaf (eFz zc2) aNil))))
def zaY:List D->Option Sl:=fP 3 zcC
theorem zg6 (h:FnAt K "places_asking" zec):FD P w K mg base 1 "places_asking" (spP K 2 zaY):=
 fdP (N:=["asks","ends","many"]) (k:=0) (m:=zcC) X G h fun _ _ _ _ _ _ _ hr nd=>(zad (zap 2 (zaJ 1 bn.len') nd)
  (zal (zat (zbr bn.tuple' (zaa (SO.se (zfA [2,0,1] 1 ["many","asks","ends","j"] rfl (zaH bn.range' (zaa (zab 2) zae)) (fun C s H fp=>(zan 3 ndk)) (fun C s H fp=>zaN) (fun C s H fp=>(zar (zab 3) (zcI (zab 0) (se_index (zkG (zab 1) (zaz (zab 3)) zdx (zaz (zab 0))) (zak 2 (zab 3)))))))) zae)))))
abbrev zfu:Stmt:=top 8
def zed:ME:=
 (eVar 0)
def zd2:MO:=
 oLC [] 2 (iSeq (eVar 4)) (gT 2 (zaE (gN 0) (zaE (gN 1) zdS))) zcA zed
def zd4:ME:=
 (eVar 1)
def zej:MO:=
 oLC [] 2 (iSeq (eVar 4)) (gT 2 (zaE (gN 0) (zaE (gN 1) zdS))) zcA zd4
def zee:MS:=
 (sIf (tTru (m2 dGt (eIxV 5 (eVar 9)) (eIxV 6 (eVar 9))))
  (sRet (eTup (zaf (eC (.str "clash")) (zaf (eIxV 7 (eVar 9)) (zaf (eIxV 8 (eVar 9)) aNil)))))
  zbb)
def zd6:MS:=
 sFor (iR1 (zaf (eVar 2) aNil)) (gN 9) zee
def zep:MS:=
 (sRet (eC .non))
def zeo:MS:=
 (sSeq (sIf (tTru (m2 dLt (mC dSum (zaf (eVar 6) aNil)) (eVar 3)))
  (sRet (eTup (zaf (eC (.str "high")) (zaf (eVar 8) aNil))))
  zbb)
  zep)
def zdL:MS:=
 (sSeq (sSet 4 (za0 za9 (zaf (eVar 0) (zaf (eVar 1) (zaf (eVar 2) aNil)))))
  (sSeq (sSet 5 (eFz zd2))
  (sSeq (sSet 6 (eFz zej))
  (sSeq (sSet 7 (za0 zaY (zaf (eVar 0) (zaf (eVar 5) aNil))))
  (sSeq (sSet 8 (za0 zaY (zaf (eVar 1) (zaf (eVar 6) aNil))))
  (sSeq zd6
  (sSeq (sIf (tTru (m2 dGt (mC dSum (zaf (eVar 5) aNil)) (eVar 3)))
  (sRet (eTup (zaf (eC (.str "low")) (zaf (eVar 7) aNil))))
  zbb)
  zeo)))))))
def zbF:List D->Option Sl:=fP 10 zdL
theorem zh5 (zbe:FD P w K mg base 1 "head_spans" (spP K 3 za9))(zbq:FD P w K mg base 1 "places_asking" (spP K 2 zaY))(h:FnAt K "heads_paper" zfu):FD P w K mg base 2 "heads_paper" (spP K 4 zbF):=
 fdP (N:=["lows","highs","many","total","spans","low_ends","high_ends","low_places","high_places","j"]) (k:=1) (m:=zdL) X G h fun _ _ _ _ _ _ _ hr nd=>(zad (zap 4 (zas zbe hr (zaa (zab 0) (zaa (zab 1) (zaa (zab 2) zae))) (hlen:=(zac (zac (zac zaj))))) nd)
  (zad (zjt 5 [] 2 ["low", "high"] rfl (zd3 (zab 4)) (fun C s H fp => (zcm rfl (zaq (zan 0 ndk) (zaq (zan 1 ndk) zbn)))) (fun C s H fp => zaN) (fun C s H fp => (zab 0)) nd)
  (zad (zjt 6 [] 2 ["low", "high"] rfl (zd3 (zab 4)) (fun C s H fp => (zcm rfl (zaq (zan 0 ndk) (zaq (zan 1 ndk) zbn)))) (fun C s H fp => zaN) (fun C s H fp => (zab 1)) nd)
  (zad (zap 7 (zas zbq hr (zaa (zab 0) (zaa (zab 5) zae)) (hlen := (zac (zac zaj)))) nd)
  (zad (zap 8 (zas zbq hr (zaa (zab 1) (zaa (zab 6) zae)) (hlen := (zac (zac zaj)))) nd)
  (zad (zcr PassesOwn.never rfl (zaH bn.range' (zaa (zab 2) zae)) (zan 9 nd)
  (zal (zbj (st_gt (zak 5 (zab 9)) (zak 6 (zab 9)))
  (zal (zat (zbu (zaa zle (zaa (zak 7 (zab 9)) (zaa (zak 8 (zab 9)) zae))))))
  zay)))
  (zad (zbj (st_gt (zj7 rfl bn.sum' (zaa (zab 5) zae)) (zab 3))
  (zal (zat (zbu (zaa zle (zaa (zab 7) zae)))))
  zay)
  (zad (zbj (st_lt (zj7 rfl bn.sum' (zaa (zab 6) zae)) (zab 3))
  (zal (zat (zbu (zaa zle (zaa (zab 8) zae)))))
  zay)
  (zal (zat zn7))))))))))
abbrev zfy:Stmt:=top 9
def zd5:ME:=
 (eVar 1)
def zeg:MO:=
 oLC [] 2 (iSeq (eVar 0)) (gT 2 (zaE (gN 0) (zaE (gN 1) zdS))) zcA zd5
def zef:MS:=
 (sSeq (zmo 4 (fun i j => i - j) (eVar 6))
  (sSeq (sSet 7 (mC (d2I max2) (zaf (eVar 5) (zaf (m2 dSub (eVar 3) (eVar 4)) aNil))))
  (sSeq (sApp 2 (eVar 7))
  (zmo 3 (fun i j=>i-j) (eVar 7)))))
def zei:MS:=
 sFor (iSeq (eVar 0)) (gT 2 (zaE (gN 5) (zaE (gN 6) zdS))) zef
def zdW:MS:=
 (sSeq (zg7 2 (oLst aNil))
  (sSeq (sSet 3 (eVar 1))
  (sSeq (sSet 4 (mC dSum (zaf (eFz zeg) aNil)))
  (sSeq zei
  (zgp 2)))))
def zbM:List D->Option Sl:=fP 8 zdW
theorem zhU (h:FnAt K "least_heads" zfy):FD P w K mg base 1 "least_heads" (spP K 2 zbM):=
 fdP (N:=["spans","total","heads","left","room","low","high","head"]) (k:=0) (m:=zdW) X G h fun _ _ _ _ _ _ _ hr nd=>(zad (zdc 2 (zbv zae) nd)
  (zad (zap 3 (zab 1) nd)
  (zad (zap 4 (zj7 rfl bn.sum' (zaa (SO.se (zfA [] 2 ["low", "high"] rfl (zd3 (zab 0)) (fun C s H fp => (zcm rfl (zaq (zan 0 ndk) (zaq (zan 1 ndk) zbn)))) (fun C s H fp => zaN) (fun C s H fp => (zab 1)))) zae)) nd)
  (zad (zcr PassesOwn.never rfl (zd3 (zab 0)) (zcm rfl (zaq (zan 5 nd) (zaq (zan 6 nd) zbn)))
  (zad (zke 4 (zab 6) nd)
  (zad (zap 7 (ziQ rfl bn.max' (zaa (zab 5) (zaa (zbd (zab 3) (zab 4)) zae))) nd)
  (zad (zjS 2 (zab 7))
  (zal (zke 3 (zab 7) nd))))))
  (zal (zdq 2))))))
abbrev zhi:Stmt:=top 11
def zfT:MS:=
 (sApp 2 (m2 dSub (m2 dAdd (eIxV 2 (eVar 3)) (eIxV 1 (m2 dAdd (eVar 3) (eC (.int 1))))) (eIxV 1 (eVar 3))))
def zgk:MS:=
 sFor (iR1 (zaf (m2 dSub (zbW 1) (eC (.int 1))) aNil)) (gN 3) zfT
def zgv:MS:=
 (sSeq (sSet 1 (eIxV 0 (eC (.int 1))))
  (sSeq (zg7 2 (oRep (eFz (oLst (zaf (eC (.int 0)) aNil))) (eIxV 0 (eC (.int 0)))))
  (sSeq zgk
  (zgp 2))))
def zbi:List D->Option Sl:=fP 4 zgv
theorem zk6 (h:FnAt K "mores_of" zhi):FD P w K mg base 1 "mores_of" (spP K 1 zbi):=
 fdP (N:=["line","sums","mores","i"]) (k:=0) (m:=zgv) X G h fun _ _ _ _ _ _ _ hr nd=>(zad (zap 1 (zak 0 zag) nd)
  (zad (zdc 2 (so_rep (SO.se (zbv (zaa zag zae))) (zak 0 zag)) nd)
  (zad (zcr PassesOwn.never rfl (zaH bn.range' (zaa (zbd (zaJ 1 bn.len') zag) zae)) (zan 3 nd)
  (zal (zjS 2 (zbd (zar (zak 2 (zab 3)) (zak 1 (zar (zab 3) zag))) (zak 1 (zab 3))))))
  (zal (zdq 2)))))
abbrev zhQ:Stmt:=top 12
def zgz:MS:=
 (zjk (zmd zbc (zaf (eIxV 0 (eC (.int 2))) (zaf (za0 zbi (zaf (eVar 0) aNil)) aNil))))
def zbN:List D->Option Sl:=fP 1 zgz
theorem zk0 (zbg:FD P w K mg base 1 "less_mores" (spP K 2 zbc))(za1:FD P w K mg base 1 "mores_of" (spP K 1 zbi))(h:FnAt K "low_asks" zhQ):FD P w K mg base 2 "low_asks" (spP K 1 zbN):=
 fdP (N:=["line"]) (k:=1) (m:=zgz) X G h fun _ _ _ _ _ _ _ hr nd=>(zal (zfG (zi7 zbg hr (zaa (zak 0 zag) (zaa (zas za1 hr (zaa (zab 0) zae) (hlen:=(zac zaj))) zae)) (hlen:=(zac (zac zaj))))))
abbrev zgM:Stmt:=top 13
def zfB:MS:=
 (zjk (zmd zbc (zaf (eIxV 0 (eC (.int 3))) (zaf (za0 zbi (zaf (eVar 0) aNil)) aNil))))
def zbs:List D->Option Sl:=fP 1 zfB
theorem zjJ (zbg:FD P w K mg base 1 "less_mores" (spP K 2 zbc))(za1:FD P w K mg base 1 "mores_of" (spP K 1 zbi))(h:FnAt K "high_asks" zgM):FD P w K mg base 2 "high_asks" (spP K 1 zbs):=
 fdP (N:=["line"]) (k:=1) (m:=zfB) X G h fun _ _ _ _ _ _ _ hr nd=>(zal (zfG (zi7 zbg hr (zaa (zak 0 zag) (zaa (zas za1 hr (zaa (zab 0) zae) (hlen:=(zac zaj))) zae)) (hlen:=(zac (zac zaj))))))
abbrev zfV:Stmt:=top 14
def zev:MS:=
 (zjk (zmd za9 (zaf (za0 zbN (zaf (eVar 0) aNil)) (zaf (za0 zbs (zaf (eVar 0) aNil)) (zaf (eIxV 0 (eC (.int 0))) aNil)))))
def zb4:List D->Option Sl:=fP 1 zev
theorem ziV (zbe:FD P w K mg base 1 "head_spans" (spP K 3 za9))(zbx:FD P w K mg base 2 "high_asks" (spP K 1 zbs))(zbU:FD P w K mg base 2 "low_asks" (spP K 1 zbN))(h:FnAt K "rest_spans" zfV):FD P w K mg base 3 "rest_spans" (spP K 1 zb4):=
 fdP (N:=["line"]) (k:=2) (m:=zev) X G h fun _ _ _ _ _ _ _ hr nd=>(zal (zfG (zi7 zbe hr (zaa (zas zbU hr (zaa (zab 0) zae) (hlen:=(zac zaj))) (zaa (zas zbx hr (zaa (zab 0) zae) (hlen:=(zac zaj))) (zaa (zak 0 zag) zae))) (hlen:=(zac (zac (zac zaj)))))))
abbrev zjN:Stmt:=top 15
def ziT:MS:=
 (sRet (za0 zbo (zaf (eVar 1) (zaf (za0 zbi (zaf (eVar 0) aNil)) aNil))))
def zf8:List D->Option Sl:=fP 2 ziT
theorem zna (za1:FD P w K mg base 1 "mores_of" (spP K 1 zbi))(zcL:FD P w K mg base 1 "row_by_heads" (spP K 2 zbo))(h:FnAt K "row_of" zjN):FD P w K mg base 2 "row_of" (spP K 2 zf8):=
 fdP (N:=["line","heads"]) (k:=1) (m:=ziT) X G h fun _ _ _ _ _ _ _ hr nd=>(zal (zat (zas zcL hr (zaa (zab 1) (zaa (zas za1 hr (zaa (zab 0) zae) (hlen:=(zac zaj))) zae)) (hlen:=(zac (zac zaj))))))
abbrev zf3:Stmt:=top 16
def zc0:MS:=
 (sRet (za0 zbF (zaf (za0 zbN (zaf (eVar 0) aNil)) (zaf (za0 zbs (zaf (eVar 0) aNil)) (zaf (eIxV 0 (eC (.int 0))) (zaf (m2 dIx (eIxV 0 (eC (.int 1))) (eC (.int 0))) aNil))))))
def zaM:List D->Option Sl:=fP 1 zc0
theorem ziD (zdf:FD P w K mg base 2 "heads_paper" (spP K 4 zbF))(zbx:FD P w K mg base 2 "high_asks" (spP K 1 zbs))(zbU:FD P w K mg base 2 "low_asks" (spP K 1 zbN))(h:FnAt K "line_paper" zf3):FD P w K mg base 3 "line_paper" (spP K 1 zaM):=
 fdP (N:=["line"]) (k:=2) (m:=zc0) X G h fun _ _ _ _ _ _ _ hr nd=>(zal (zat (zas zdf hr (zaa (zas zbU hr (zaa (zab 0) zae) (hlen:=(zac zaj))) (zaa (zas zbx hr (zaa (zab 0) zae) (hlen:=(zac zaj))) (zaa (zak 0 zag) (zaa (za3 (zak 0 zag) zag) zae)))) (hlen:=(zac (zac (zac (zac zaj))))))))
abbrev zfs:Stmt:=top 17
def zd7:MS:=
 (sRet (eTup (zaf (eC (.str "row")) (zaf (za0 zf8 (zaf (eVar 0) (zaf (za0 zbM (zaf (za0 zb4 (zaf (eVar 0) aNil)) (zaf (m2 dIx (eIxV 0 (eC (.int 1))) (eC (.int 0))) aNil))) aNil))) aNil))))
def zdJ:MS:=
 (sSeq (sSet 1 (za0 zaM (zaf (eVar 0) aNil)))
  (sSeq (sIf (tTru (m2 zkv (eVar 1) (eC .non)))
  (zgp 1)
  zbb)
  zd7))
def zbB:List D->Option Sl:=fP 2 zdJ
theorem zh8 (zde:FD P w K mg base 1 "least_heads" (spP K 2 zbM))(zbf:FD P w K mg base 3 "line_paper" (spP K 1 zaM))(zdK:FD P w K mg base 3 "rest_spans" (spP K 1 zb4))(zhu:FD P w K mg base 2 "row_of" (spP K 2 zf8))(h:FnAt K "fitted_line" zfs):FD P w K mg base 4 "fitted_line" (spP K 1 zbB):=
 fdP (N:=["line","paper"]) (k:=3) (m:=zdJ) X G h fun _ _ _ _ _ _ _ hr nd=>(zad (zap 1 (zas zbf hr (zaa (zab 0) zae) (hlen:=(zac zaj))) nd)
  (zad (zbj (st_isNot (zab 1) zn7)
  (zal (zdq 1))
  zay)
  (zal (zat (zbu (zaa zle (zaa (zas zhu hr (zaa (zab 0) (zaa (zas zde hr (zaa (zas zdK hr (zaa (zab 0) zae) (hlen:=(zac zaj))) (zaa (za3 (zak 0 zag) zag) zae)) (hlen:=(zac (zac zaj)))) zae)) (hlen:=(zac (zac zaj)))) zae)))))))
abbrev zg4:Stmt:=top 19
def zfx:ME:=
 (mC dSum (zaf (eCut (eVar 0) (zba (eVar 2)) (zba (m2 dAdd (eVar 2) (eVar 1)))) aNil))
def ze6:MO:=
 oLC [0,1] 1 (iR1 (zaf (m2 dAdd (m2 dSub (zbW 0) (eVar 1)) (eC (.int 1))) aNil)) (gN 2) zcA zfx
def zfC:MS:=
 (sRet (mC zbp (zaf (eFz ze6) aNil)))
def zcP:List D->Option Sl:=fP 2 zfC
theorem zjP (h:FnAt K "line_sums" zg4):FD P w K mg base 1 "line_sums" (spP K 2 zcP):=
 fdP (N:=["row","k"]) (k:=0) (m:=zfC) X G h fun _ _ _ _ _ _ _ hr nd=>(zal (zat (zbr bn.tuple' (zaa (SO.se (zfA [0,1] 1 ["row","k","i"] rfl (zaH bn.range' (zaa (zar (zbd (zaJ 0 bn.len') (zab 1)) zag) zae)) (fun C s H fp=>(zan 2 ndk)) (fun C s H fp=>zaN) (fun C s H fp=>(zj7 rfl bn.sum' (zaa (zgQ (zab 0) (zaz (zab 2)) (zaz (zar (zab 2) (zab 1)))) zae))))) zae))))
abbrev zf9:Stmt:=top 21
def zeU:ME:=
 (zgi dLe dLe (eVar 0) (eVar 1) (eVar 2))
def zeX:MO:=
 oLC [] 3 (iZ3 (zaf (eVar 1) (zaf (eVar 0) (zaf (eVar 2) aNil)))) (gT 3 (zaE (gN 0) (zaE (gN 1) (zaE (gN 2) zdS)))) zcA zeU
def zeP:MS:=
 (sRet (mC (dAll fun bs=>bs.all id) (zaf (eFz zeX) aNil)))
def zez:MS:=
 (sSeq (sIf (tTru (m2 dNe (zbW 0) (zbW 1)))
  (sRet (eC (.bl false)))
  zbb)
  zeP)
def zb5:List D->Option Sl:=fP 3 zez
theorem zjl (h:FnAt K "row_within" zf9):FD P w K mg base 1 "row_within" (spP K 3 zb5):=
 fdP (N:=["row","least","greatest"]) (k:=0) (m:=zez) X G h fun _ _ _ _ _ _ _ hr nd=>(zad (zbj (zhV hr.units (zaJ 0 bn.len') (zaJ 1 bn.len'))
  (zal (zat ze5))
  zay)
  (zal (zat (zhh rfl bn.all' (zaa (SO.se (zfA [] 3 ["low","number","high"] rfl (it_zip3 bn.zip' (zaa (zab 1) (zaa (zab 0) (zaa (zab 2) zae)))) (fun C s H fp=>(zcm rfl (zaq (zan 0 ndk) (zaq (zan 1 ndk) (zaq (zan 2 ndk) zbn))))) (fun C s H fp=>zaN) (fun C s H fp=>(ziZ ziA ziA zby zby (zab 0) (zab 1) (zab 2))))) zae)))))
abbrev zlV:Stmt:=top 22
def ziw:ME:=
 (m2 dLt (eIxV 0 (eVar 1)) (eIxV 0 (m2 dAdd (eVar 1) (eC (.int 1)))))
def zih:MO:=
 oLC [0] 1 (iR1 (zaf (m2 dSub (zbW 0) (eC (.int 1))) aNil)) (gN 1) zcA ziw
def zky:MS:=
 (sRet (mC (dAll fun bs=>bs.all id) (zaf (eFz zih) aNil)))
def zhl:List D->Option Sl:=fP 1 zky
theorem ok_rises (h:FnAt K "rises" zlV):FD P w K mg base 1 "rises" (spP K 1 zhl):=
 fdP (N:=["numbers"]) (k:=0) (m:=zky) X G h fun _ _ _ _ _ _ _ hr nd=>(zal (zat (zhh rfl bn.all' (zaa (SO.se (zfA [0] 1 ["numbers","i"] rfl (zaH bn.range' (zaa (zbd (zaJ 0 bn.len') zag) zae)) (fun C s H fp=>(zan 1 ndk)) (fun C s H fp=>zaN) (fun C s H fp=>(se_lt (zak 0 (zab 1)) (zak 0 (zar (zab 1) zag)))))) zae))))
abbrev zer:Stmt:=top 24
def zdi:MS:=
 (sRet (eTup (zaf (eC (.int 2)) (zaf (eCut (eIxV 0 (eC (.int 1))) (zba (eVar 1)) (zba (m2 dAdd (eVar 2) (eC (.int 1))))) (zaf (eCut (eIxV 0 (eC (.int 2))) (zba (eVar 1)) (zba (m2 dAdd (eVar 2) (eC (.int 2))))) (zaf (eCut (eIxV 0 (eC (.int 3))) (zba (eVar 1)) (zba (m2 dAdd (eVar 2) (eC (.int 2))))) aNil))))))
def zaO:List D->Option Sl:=fP 3 zdi
theorem zhr (h:FnAt K "stretch_line" zer):FD P w K mg base 1 "stretch_line" (spP K 3 zaO):=
 fdP (N:=["line","a","b"]) (k:=0) (m:=zdi) X G h fun _ _ _ _ _ _ _ hr nd=>(zal (zat (zbu (zaa zag (zaa (zgQ (zak 0 zag) (zaz (zab 1)) (zaz (zar (zab 2) zag))) (zaa (zgQ (zak 0 zag) (zaz (zab 1)) (zaz (zar (zab 2) zag))) (zaa (zgQ (zak 0 zag) (zaz (zab 1)) (zaz (zar (zab 2) zag))) zae)))))))
abbrev zeY:Stmt:=top 25
def zdb:MS:=
 (sRet (m2 dIsN (za0 zaM (zaf (za0 zaO (zaf (eVar 0) (zaf (eVar 1) (zaf (eVar 2) aNil)))) aNil)) (eC .non)))
def zaL:List D->Option Sl:=fP 3 zdb
theorem zhE (zbf:FD P w K mg base 3 "line_paper" (spP K 1 zaM))(zaZ:FD P w K mg base 1 "stretch_line" (spP K 3 zaO))(h:FnAt K "stretch_fits" zeY):FD P w K mg base 4 "stretch_fits" (spP K 3 zaL):=
 fdP (N:=["line","a","b"]) (k:=3) (m:=zdb) X G h fun _ _ _ _ _ _ _ hr nd=>(zal (zat (se_is (zas zbf hr (zaa (zas zaZ hr (zaa (zab 0) (zaa (zab 1) (zaa (zab 2) zae))) (hlen:=(zac (zac (zac zaj))))) zae) (hlen:=(zac zaj))) zn7)))
abbrev zcY:Stmt:=top 26
def zcp:MS:=
 (sIf (zhy (tTru (za0 zaL (zaf (eVar 0) (zaf (eVar 2) (zaf (eVar 3) aNil))))))
  (sSeq (sApp 1 (eTup (zaf (eVar 2) (zaf (eVar 3) aNil))))
  (sSet 2 (m2 dAdd (eVar 3) (eC (.int 1)))))
  zbb)
def zcy:MS:=
 sFor (iR1 (zaf (mC dLen (zaf (eIxV 0 (eC (.int 1))) aNil)) aNil)) (gN 3) zcp
def zbT:MS:=
 (sSeq (zg7 1 (oLst aNil))
  (sSeq (sSet 2 (eC (.int 0)))
  (sSeq zcy
  (zgp 1))))
def zaS:List D->Option Sl:=fP 4 zbT
theorem zfU (zaT:FD P w K mg base 4 "stretch_fits" (spP K 3 zaL))(h:FnAt K "short_stretches" zcY):FD P w K mg base 5 "short_stretches" (spP K 1 zaS):=
 fdP (N:=["line","stretches","a","b"]) (k:=4) (m:=zbT) X G h fun _ _ _ _ _ _ _ hr nd=>(zad (zdc 1 (zbv zae) nd)
  (zad (zap 2 zag nd)
  (zad (zcr PassesOwn.never rfl (zaH bn.range' (zaa (zhL bn.len' (zaa (zak 0 zag) zae)) zae)) (zan 3 nd)
  (zal (zbj (zf5 (zcz (zas zaT hr (zaa (zab 0) (zaa (zab 2) (zaa (zab 3) zae))) (hlen := (zac (zac (zac zaj)))))))
  (zad (zjS 1 (zbu (zaa (zab 2) (zaa (zab 3) zae))))
  (zal (zap 2 (zar (zab 3) zag) nd)))
  zay)))
  (zal (zdq 1)))))
abbrev zhN:Stmt:=top 27
def zfW:MS:=
 (sRet (m2 dIx (za0 zbB (zaf (za0 zaO (zaf (eVar 0) (zaf (eVar 1) (zaf (m2 dSub (eVar 2) (eC (.int 1))) aNil)))) aNil)) (eC (.int 1))))
def zgD:MS:=
 (sSeq (sIf (tTru (m2 dEq (eVar 1) (eVar 2)))
  (sRet (eCut (eIxV 0 (eC (.int 2))) (zba (eVar 1)) (zba (m2 dAdd (eVar 1) (eC (.int 1))))))
  zbb)
  zfW)
def zdA:List D->Option Sl:=fP 3 zgD
theorem zkQ (zdr:FD P w K mg base 4 "fitted_line" (spP K 1 zbB))(zaZ:FD P w K mg base 1 "stretch_line" (spP K 3 zaO))(h:FnAt K "part_row" zhN):FD P w K mg base 5 "part_row" (spP K 3 zdA):=
 fdP (N:=["line","a","b"]) (k:=4) (m:=zgD) X G h fun _ _ _ _ _ _ _ hr nd=>(zad (zbj (zfO hr.units (zab 1) (zab 2))
  (zal (zat (zgQ (zak 0 zag) (zaz (zab 1)) (zaz (zar (zab 1) zag)))))
  zay)
  (zal (zat (za3 (zas zdr hr (zaa (zas zaZ hr (zaa (zab 0) (zaa (zab 1) (zaa (zbd (zab 2) zag) zae))) (hlen:=(zac (zac (zac zaj))))) zae) (hlen:=(zac zaj))) zag))))
abbrev zfa:Stmt:=top 28
def zeh:MS:=
 (sSeq (sSet 2 (m2 dAdd (eVar 2) (za0 zdA (zaf (eVar 0) (zaf (eVar 3) (zaf (eVar 4) aNil))))))
  (sSet 3 (m2 dAdd (eVar 4) (eC (.int 1)))))
def zd9:MS:=
 sFor (iSeq (m2 dAdd (eVar 1) (eTup (zaf (mC dLen (zaf (eIxV 0 (eC (.int 1))) aNil)) aNil)))) (gN 4) zeh
def zdP:MS:=
 (sSeq (sSet 2 (eTup aNil))
  (sSeq (sSet 3 (eC (.int 0)))
  (sSeq zd9
  (zgp 2))))
def zbE:List D->Option Sl:=fP 5 zdP
theorem zhT (zfL:FD P w K mg base 5 "part_row" (spP K 3 zdA))(h:FnAt K "row_without" zfa):FD P w K mg base 6 "row_without" (spP K 2 zbE):=
 fdP (N:=["line","wrong","row","a","b"]) (k:=5) (m:=zdP) X G h fun _ _ _ _ _ _ _ hr nd=>(zad (zap 2 (zbu zae) nd)
  (zad (zap 3 zag nd)
  (zad (zcr PassesOwn.never rfl (zd3 (zar (zab 1) (zbu (zaa (zhL bn.len' (zaa (zak 0 zag) zae)) zae)))) (zan 4 nd)
  (zad (zap 2 (zar (zab 2) (zas zfL hr (zaa (zab 0) (zaa (zab 3) (zaa (zab 4) zae))) (hlen := (zac (zac (zac zaj)))))) nd)
  (zal (zap 3 (zar (zab 4) zag) nd))))
  (zal (zdq 2)))))
abbrev zdQ:Stmt:=top 29
def zeN:ME:=
 (eVar 1)
def zeD:MO:=
 oLC [] 2 (iSeq (eVar 1)) (gT 2 (zaE (gN 0) (zaE (gN 1) zdS))) zcA zeN
def zeQ:MS:=
 (sSeq (sSet 1 (za0 zaS (zaf (eVar 0) aNil)))
  (sSeq (sSet 2 (mC zbp (zaf (eFz zeD) aNil)))
  (sRet (eTup (zaf (eVar 2) (zaf (za0 zbE (zaf (eVar 0) (zaf (eVar 2) aNil))) (zaf (eVar 1) aNil)))))))
def zeO:MS:=
 (sSeq (sIf (tTru (m2 dNe (eIxV 0 (eC (.int 0))) (eC (.int 2))))
  (fun _=>none)
  zbb)
  zeQ)
def zbt:List D->Option Sl:=fP 3 zeO
theorem ziW (zc7:FD P w K mg base 6 "row_without" (spP K 2 zbE))(zbL:FD P w K mg base 5 "short_stretches" (spP K 1 zaS))(h:FnAt K "twos_wrong" zdQ):FD P w K mg base 7 "twos_wrong" (spP K 1 zbt):=
 fdP (N:=["line","stretches","wrong"]) (k:=6) (m:=zeO) X G h fun _ _ _ _ _ _ _ hr nd=>(zad (zbj (zhV hr.units (zak 0 zag) zag)
  (zal ss_never)
  zay)
  (zad (zap 1 (zas zbL hr (zaa (zab 0) zae) (hlen := (zac zaj))) nd)
  (zad (zap 2 (zbr bn.tuple' (zaa (SO.se (zfA [] 2 ["a", "b"] rfl (zd3 (zab 1)) (fun C s H fp => (zcm rfl (zaq (zan 0 ndk) (zaq (zan 1 ndk) zbn)))) (fun C s H fp => zaN) (fun C s H fp => (zab 1)))) zae)) nd)
  (zal (zat (zbu (zaa (zab 2) (zaa (zas zc7 hr (zaa (zab 0) (zaa (zab 2) zae)) (hlen:=(zac (zac zaj)))) (zaa (zab 1) zae)))))))))
def zgO:MX:=
 (xIf (tTru (m2 dNe (eIxV 0 (eC (.int 0))) (eC (.int 2)))) (fun _=>some "NotTwos"))
def zjZ:List D->Option Str:=fX 3 zgO
theorem zh4 (h:FnAt K "twos_wrong" zdQ):FDX P w K mg base 1 "twos_wrong" (spX K 1 zjZ):=
 fdX (N:=["line","stretches","wrong"]) (k:=0) (m:=zgO) X G h fun _ _ _ _ _ _ _ hr nd=>(zlo (xs_if (zhV hr.units (zak 0 zag) zag) (zlo (zok cx_top rfl rfl rfl bn.r_NotTwos))))
abbrev zfq:Stmt:=top 30
def zen:ME:=
 (zgi dLe dLt (eC (.int 0)) (eVar 1) (mC dLen (zaf (eIxV 0 (eC (.int 1))) aNil)))
def zel:MO:=
 oLC [0] 1 (iSeq (eVar 1)) (gN 1) zcA zen
def zdR:MS:=
 (sRet (eAnd (za0 zhl (zaf (eVar 1) aNil)) (mC (dAll fun bs=>bs.all id) (zaf (eFz zel) aNil))))
def zbA:List D->Option Sl:=fP 2 zdR
theorem zh1 (zjn:FD P w K mg base 1 "rises" (spP K 1 zhl))(h:FnAt K "wrong_right" zfq):FD P w K mg base 2 "wrong_right" (spP K 2 zbA):=
 fdP (N:=["line","wrong"]) (k:=1) (m:=zdR) X G h fun _ _ _ _ _ _ _ hr nd=>(zal (zat (znr (zas zjn hr (zaa (zab 1) zae) (hlen:=(zac zaj))) (zj2 (zhh rfl bn.all' (zaa (SO.se (zfA [0] 1 ["line","i"] rfl (zd3 (zab 1)) (fun C s H fp=>(zan 1 ndk)) (fun C s H fp=>zaN) (fun C s H fp=>(ziZ ziA zjs zby zby zag (zab 1) (zhL bn.len' (zaa (zak 0 zag) zae)))))) zae))))))
abbrev zgR:Stmt:=top 31
def zfd:ME:=
 (eOr (m2 dIn (eVar 2) (eVar 0)) (m2 dEq (eIxV 1 (eVar 2)) (eVar 3)))
def zfm:MO:=
 oLC [1,3] 2 (iEn (zaf (eIxV 0 (eC (.int 1))) aNil)) (gT 2 (zaE (gN 2) (zaE (gN 3) zdS))) zcA zfd
def zfl:MS:=
 (sSeq (sSet 3 (za0 zcP (zaf (eVar 2) (zaf (eC (.int 2)) aNil))))
  (sRet (mC (dAll fun bs=>bs.all id) (zaf (eFz zfm) aNil))))
def zfM:MS:=
 (sSeq (sIf (zhy (tTru (za0 zb5 (zaf (eVar 2) (zaf (eIxV 0 (eC (.int 2))) (zaf (eIxV 0 (eC (.int 3))) aNil))))))
  (sRet (eC (.bl false)))
  zbb)
  zfl)
def zcJ:List D->Option Sl:=fP 4 zfM
theorem zjD (zey:FD P w K mg base 1 "line_sums" (spP K 2 zcP))(zdV:FD P w K mg base 1 "row_within" (spP K 3 zb5))(h:FnAt K "row_right" zgR):FD P w K mg base 2 "row_right" (spP K 3 zcJ):=
 fdP (N:=["line","wrong","row","sums"]) (k:=1) (m:=zfM) X G h fun _ _ _ _ _ _ _ hr nd=>(zad (zbj (zf5 (zcz (zas zdV hr (zaa (zab 2) (zaa (zak 0 zag) (zaa (zak 0 zag) zae))) (hlen:=(zac (zac (zac zaj)))))))
  (zal (zat ze5))
  zay)
  (zad (zap 3 (zas zey hr (zaa (zab 2) (zaa zag zae)) (hlen := (zac (zac zaj)))) nd)
  (zal (zat (zhh rfl bn.all' (zaa (SO.se (zfA [1,3] 2 ["wrong","sums","i","total"] rfl (zf2 bn.enumerate' (zaa (zak 0 zag) zae)) (fun C s H fp=>(zcm rfl (zaq (zan 2 ndk) (zaq (zan 3 ndk) zbn)))) (fun C s H fp=>zaN) (fun C s H fp=>(se_or (se_in (zab 2) (zab 0)) (zj2 (se_eq hr.units (zak 1 (zab 2)) (zab 3))))))) zae))))))
abbrev zc3:Stmt:=top 32
def zck:MS:=
 (sSet 2 (m2 dAdd (eVar 4) (eC (.int 1))))
def zbm:MS:=
 (sSeq (sIf (tOrM (zhy (tTru (zhj dLe dLe dLt (eVar 2) (eVar 3) (eVar 4) (mC dLen (zaf (eIxV 0 (eC (.int 1))) aNil))))) (tTru (za0 zaL (zaf (eVar 0) (zaf (eVar 3) (zaf (eVar 4) aNil))))))
  (sRet (eC (.bl false)))
  zbb)
  zck)
def zcn:MS:=
 sFor (iSeq (eVar 1)) (gT 2 (zaE (gN 3) (zaE (gN 4) zdS))) zbm
def zbV:MS:=
 (sSeq (sSet 2 (eC (.int 0)))
  (sSeq zcn
  (sRet (eC (.bl true)))))
def zaV:List D->Option Sl:=fP 5 zbV
theorem zfS (zaT:FD P w K mg base 4 "stretch_fits" (spP K 3 zaL))(h:FnAt K "stretches_right" zc3):FD P w K mg base 5 "stretches_right" (spP K 2 zaV):=
 fdP (N:=["line","stretches","after","a","b"]) (k:=4) (m:=zbV) X G h fun _ _ _ _ _ _ _ hr nd=>(zad (zap 2 zag nd)
  (zad (zcr PassesOwn.never rfl (zd3 (zab 1)) (zcm rfl (zaq (zan 3 nd) (zaq (zan 4 nd) zbn)))
  (zad (zbj (STw.st (zjg (zf5 (zj1 ziA ziA zjs zby zby zby zis (zab 2) (zab 3) (zab 4) (zhL bn.len' (zaa (zak 0 zag) zae)))) (zg3 (zcz (zas zaT hr (zaa (zab 0) (zaa (zab 3) (zaa (zab 4) zae))) (hlen := (zac (zac (zac zaj)))))))))
  (zal (zat ze5))
  zay)
  (zal (zap 2 (zar (zab 4) zag) nd))))
  (zal (zat ze5))))
abbrev zgj:Stmt:=top 33
def zeW:MS:=
 (sRet (eAnd (za0 zcJ (zaf (eVar 0) (zaf (eVar 2) (zaf (eIxV 1 (eC (.int 1))) aNil)))) (za0 zaV (zaf (eVar 0) (zaf (eIxV 1 (eC (.int 2))) aNil)))))
def zeV:MS:=
 (sSeq (sSet 2 (eIxV 1 (eC (.int 0))))
  (sSeq (sIf (tOrM (zhy (tTru (za0 zbA (zaf (eVar 0) (zaf (eVar 2) aNil))))) (tTru (m2 dNe (mC dLen (zaf (eIxV 1 (eC (.int 2))) aNil)) (zbW 2))))
  (sRet (eC (.bl false)))
  zbb)
  zeW))
def zb3:List D->Option Sl:=fP 3 zeV
theorem ziE (zeE:FD P w K mg base 2 "row_right" (spP K 3 zcJ))(zbH:FD P w K mg base 5 "stretches_right" (spP K 2 zaV))(zc9:FD P w K mg base 2 "wrong_right" (spP K 2 zbA))(h:FnAt K "twos_right" zgj):FD P w K mg base 6 "twos_right" (spP K 2 zb3):=
 fdP (N:=["line","told","wrong"]) (k:=5) (m:=zeV) X G h fun _ _ _ _ _ _ _ hr nd=>(zad (zap 2 (zak 1 zag) nd)
  (zad (zbj (STw.st (zjg (zf5 (zcz (zas zc9 hr (zaa (zab 0) (zaa (zab 2) zae)) (hlen := (zac (zac zaj)))))) (zg3 (zhV hr.units (zhL bn.len' (zaa (zak 1 zag) zae)) (zaJ 2 bn.len')))))
  (zal (zat ze5))
  zay)
  (zal (zat (znr (zas zeE hr (zaa (zab 0) (zaa (zab 2) (zaa (zak 1 zag) zae))) (hlen:=(zac (zac (zac zaj))))) (zj2 (zas zbH hr (zaa (zab 0) (zaa (zak 1 zag) zae)) (hlen:=(zac (zac zaj))))))))))
abbrev zgU:Stmt:=top 35
def zfr:MS:=
 (sSeq (sSet 3 (m2 dMod (m2 dAdd (m2 dMul (eVar 3) (eC (.int 48271))) (eC (.int 12345))) (eC (.int 2147483647))))
  (sSet 4 (m2 dAdd (m2 dMul (eVar 4) (eC (.int 16777216))) (m2 dMod (m2 dDiv (m2 dMod (m2 dMul (eVar 3) (eVar 3)) (eC (.int 2147483629))) (eC (.int 64))) (eC (.int 16777216))))))
def zdo:MS:=
 sFor (iR1 (zaf (eC (.int 40)) aNil)) (gN 5) zfr
def zfk:MS:=
 (sSeq (sSet 3 (m2 dAdd (m2 dAdd (m2 dMod (eVar 2) (eC (.int 2147483629))) (m2 dMul (eC (.int 7919)) (eVar 1))) (eC (.int 1))))
  (sSeq (sSet 4 (eC (.int 0)))
  (sSeq zdo
  (zjk (oLst (zaf (eVar 4) aNil))))))
def zdg:MS:=
 (sSeq (sIf (tTru (m2 dGe (eVar 2) (m2 dPow (eC (.int 10)) (eC (.int 18)))))
  (zjk (oLst (zaf (m2 dSub (eVar 2) (m2 dPow (eC (.int 10)) (eC (.int 18)))) aNil)))
  zbb)
  zfk)
def zfH:MS:=
 (sSeq (sSet 2 (eC (.int 0)))
  (sSeq (sIf (tTru (m2 dLt (eVar 1) (zbW 0)))
  (sSet 2 (m2 dMod (eIxV 0 (eVar 1)) (m2 dMul (m2 dMul (m2 dMul (m2 dPow (eC (.int 10)) (eC (.int 60))) (m2 dPow (eC (.int 10)) (eC (.int 60)))) (m2 dPow (eC (.int 10)) (eC (.int 60)))) (m2 dPow (eC (.int 10)) (eC (.int 60))))))
  zbb)
  zdg))
def zcG:List D->Option Sl:=fP 6 zfH
theorem zjC (h:FnAt K "_law_deal" zgU):FD P w K mg base 1 "_law_deal" (spP K 2 zcG):=
 fdP (N:=["script","k","cell","seed","number","turn"]) (k:=0) (m:=zfH) X G h fun _ _ _ _ _ _ _ hr nd=>(zad (zap 2 zag nd)
  (zad (zbj (st_lt (zab 1) (zaJ 0 bn.len'))
  (zal (zap 2 (zg1 (zak 0 (zab 1)) (zcI (zcI (zcI (zgP zag zag) (zgP zag zag)) (zgP zag zag)) (zgP zag zag))) nd))
  zay)
  (zad (zbj (st_ge (zab 2) (zgP zag zag))
  (zal (zfG (zbv (zaa (zbd (zab 2) (zgP zag zag)) zae))))
  zay)
  (zad (zap 3 (zar (zar (zg1 (zab 2) zag) (zcI zag (zab 1))) zag) nd)
  (zad (zap 4 zag nd)
  (zad (zcr PassesOwn.never rfl (zaH bn.range' (zaa zag zae)) (zan 5 nd)
  (zad (zap 3 (zg1 (zar (zcI (zab 3) zag) zag) zag) nd)
  (zal (zap 4 (zar (zcI (zab 4) zag) (zg1 (znY (zg1 (zcI (zab 3) (zab 3)) zag) zag) zag)) nd))))
  (zal (zfG (zbv (zaa (zab 4) zae))))))))))
abbrev zgN:Stmt:=top 36
def zfK:MS:=
 (sSeq (sSet 2 (m2 dMod (eIxV 0 (eC (.int 0))) (eVar 1)))
  (sSeq (sPut 0 (eC (.int 0)) (m2 dDiv (eIxV 0 (eC (.int 0))) (eVar 1)))
  (zgp 2)))
def zam:List D->List D->Option (Sl×List D):=fM 3 zfK
theorem zjw (h:FnAt K "_law_take" zgN):FD P w K mg base 1 "_law_take" (spM K 2 zam):=
 fdM (N:=["pot","many","digit"]) (k:=0) (m:=zfK) X G h fun _ _ _ _ _ _ _ hr nd=>(zad (zap 2 (zg1 (zak 0 zag) (zab 1)) nd)
  (zad (zie 0 (znY (zak 0 zag) (zab 1)) zag)
  (zal (zdq 2))))
abbrev ze7:Stmt:=top 37
def zdT:MS:=
 (sRet (m2 dIx (eTup (zaf (eFz (oC zax (zaf (eVar 1) aNil))) (zaf (mC zbp (zaf (eVar 1) aNil)) aNil))) (zaw zam 0 (zaf (eC (.int 2)) aNil))))
def zbk:List D->List D->Option (Sl×List D):=fM 2 zdT
theorem zh7 (zai:FD P w K mg base 1 "_law_take" (spM K 2 zam))(h:FnAt K "_law_either" ze7):FD P w K mg base 2 "_law_either" (spM K 2 zbk):=
 fdM (N:=["pot","some"]) (k:=1) (m:=zdT) X G h fun _ _ _ _ _ _ _ hr nd=>(zal (zat (za3 (zbu (zaa (SO.se (zcK bn.list' (zaa (zab 1) zae))) (zaa (zbr bn.tuple' (zaa (zab 1) zae)) zae))) (zao 0 zai hr (zaa zag zae) (zaP (zac zaj))))))
abbrev zgS:Stmt:=top 38
def zfo:ME:=
 (eIxV 0 (m2 dAdd (eVar 1) (eVar 2)))
def zfw:MO:=
 oLC [0,3] 1 (iR1 (zaf (eVar 1) aNil)) (gN 2) zcA zfo
def zdj:MS:=
 (sApp 2 (mC dSum (zaf (eFz zfw) aNil)))
def zfv:MS:=
 sFor (iR1 (zaf (m2 dAdd (m2 dSub (zbW 0) (eVar 1)) (eC (.int 1))) aNil)) (gN 3) zdj
def zfR:MS:=
 (sSeq (zg7 2 (oLst aNil))
  (sSeq zfv
  (sRet (mC zbp (zaf (eVar 2) aNil)))))
def za8:List D->Option Sl:=fP 4 zfR
theorem zkk (h:FnAt K "_law_sums" zgS):FD P w K mg base 1 "_law_sums" (spP K 2 za8):=
 fdP (N:=["row","k","told","at"]) (k:=0) (m:=zfR) X G h fun _ _ _ _ _ _ _ hr nd=>(zad (zdc 2 (zbv zae) nd)
  (zad (zcr PassesOwn.never rfl (zaH bn.range' (zaa (zar (zbd (zaJ 0 bn.len') (zab 1)) zag) zae)) (zan 3 nd)
  (zal (zjS 2 (zj7 rfl bn.sum' (zaa (SO.se (zfA [0,3] 1 ["row","at","j"] rfl (zaH bn.range' (zaa (zab 1) zae)) (fun C s H fp=>(zan 2 ndk)) (fun C s H fp=>zaN) (fun C s H fp=>(zak 0 (zar (zab 1) (zab 2)))))) zae)))))
  (zal (zat (zbr bn.tuple' (zaa (zab 2) zae))))))
abbrev zg2:Stmt:=top 39
def zfg:ME:=
 (m2 dIx (eFz (oLst (zaf (eC (.int 1)) (zaf (eC (.int 1000)) (zaf (m2 dPow (eC (.int 10)) (eC (.int 30))) (zaf (eVar 0) aNil)))))) (zaw zam 1 (zaf (eC (.int 4)) aNil)))
def zfc:MO:=
 oLCM [5,0] 1 1 0 (iR1 (zaf (eVar 4) aNil)) (gN 2) zcA zfg
def zfi:ME:=
 (m2 dMul (eVar 1) (m2 dSub (zaw zam 0 (zaf (eC (.int 9)) aNil)) (eC (.int 4))))
def zfp:MO:=
 oLCM [0] 1 0 0 (iSeq (eVar 6)) (gN 1) zcA zfi
def zfe:ME:=
 (m2 dSub (eVar 2) (m2 dMul (zaw zam 0 (zaf (eVar 1) aNil)) (eVar 3)))
def zfj:MO:=
 oLCM [0,3] 2 0 0 (iZ2 (zaf (eVar 7) (zaf (eVar 6) aNil))) (gT 2 (zaE (gN 2) (zaE (gN 3) zdS))) zcA zfe
def zfh:ME:=
 (m2 dAdd (eVar 2) (m2 dMul (zaw zam 0 (zaf (eVar 1) aNil)) (eVar 3)))
def ze8:MO:=
 oLCM [0,3] 2 0 0 (iZ2 (zaf (eVar 7) (zaf (eVar 6) aNil))) (gT 2 (zaE (gN 2) (zaE (gN 3) zdS))) zcA zfh
def zdl:MS:=
 (sSeq (sSet 12 (zaw zam 0 (zaf (zbW 10) aNil)))
  (sPut 10 (eVar 12) (m2 dAdd (eIxV 10 (eVar 12)) (m2 dMul (m2 dSub (zaw zam 0 (zaf (eC (.int 9)) aNil)) (eC (.int 4))) (m2 dIx (eFz (oLst (zaf (eC (.int 1)) (zaf (eIxV 6 (eVar 12)) aNil)))) (zaw zam 0 (zaf (eC (.int 2)) aNil)))))))
def zfn:MS:=
 sFor (iR1 (zaf (m2 dIx (eFz (oLst (zaf (eC (.int 0)) (zaf (eC (.int 1)) (zaf (eC (.int 3)) (zaf (zbW 10) aNil)))))) (zaw zam 0 (zaf (eC (.int 4)) aNil))) aNil)) (gN 11) zdl
def zds:MS:=
 (sSeq (sSet 7 (eFz zfp))
  (sSeq (sSet 8 (eFz zfj))
  (sSeq (sSet 9 (eFz ze8))
  (sSeq (zg7 10 (oC zax (zaf (za0 za8 (zaf (eVar 7) (zaf (eVar 1) aNil))) aNil)))
  (sSeq zfn
  (sRet (eTup (zaf (eVar 1) (zaf (mC zbp (zaf (eVar 10) aNil)) (zaf (mC zbp (zaf (eVar 8) aNil)) (zaf (mC zbp (zaf (eVar 9) aNil)) aNil)))))))))))
def zfE:MS:=
 (sSeq (sSet 4 (m2 dAdd (eVar 1) (zaw zam 0 (zaf (m2 dAdd (m2 dSub (eVar 2) (eVar 1)) (eC (.int 1))) aNil))))
  (sSeq (sSet 5 (m2 dIx (eFz (oLst (zaf (eC (.int 1)) (zaf (eC (.int 1)) (zaf (eC (.int 1)) (zaf (m2 dPow (eC (.int 10)) (eC (.int 57))) aNil)))))) (zaw zam 0 (zaf (eC (.int 4)) aNil))))
  (sSeq (sSet 6 (m2 dMul (eFz (oLst (zaf (eVar 5) aNil))) (eVar 4)))
  (sSeq (sIf (tTru (m2 dEq (zaw zam 0 (zaf (eC (.int 4)) aNil)) (eC (.int 0))))
  (sSet 6 (eFz zfc))
  zbb)
  zds))))
def zcF:List D->List D->Option (Sl×List D):=fM 13 zfE
theorem zjF (zbw:FD P w K mg base 1 "_law_sums" (spP K 2 za8))(zai:FD P w K mg base 1 "_law_take" (spM K 2 zam))(h:FnAt K "_law_line" zg2):FD P w K mg base 2 "_law_line" (spM K 4 zcF):=
 fdM (N:=["pot","k","most","wide","many","great","scales","row","least","greatest","sums","turn","at"]) (k:=1) (m:=zfE) X G h fun _ _ _ _ _ _ _ hr nd=>(zad (zap 4 (zar (zab 1) (zao 0 zai hr (zaa (zar (zbd (zab 2) (zab 1)) zag) zae) (zaP (zac zaj)))) nd)
  (zad (zap 5 (za3 (SO.se (zbv (zaa zag (zaa zag (zaa zag (zaa (zgP zag zag) zae)))))) (zao 0 zai hr (zaa zag zae) (zaP (zac zaj)))) nd)
  (zad (zap 6 (zcI (SO.se (zbv (zaa (zab 5) zae))) (zab 4)) nd)
  (zad (zbj (zfO hr.units (zao 0 zai hr (zaa zag zae) (zaP (zac zaj))) zag)
  (zal (ze3 6 [5,0] 1 1 0 ["great","pot","place"] rfl (zaH bn.range' (zaa (zab 4) zae)) (fun C s H fp=>(zan 2 ndk)) (fun C s H fp=>zaN) (fun C s H fp=>(za3 (SO.se (zbv (zaa zag (zaa zag (zaa (zgP zag zag) (zaa (zab 0) zae)))))) (zao 1 zai hr (zaa zag zae) (zaP (zac zaj))))) nd))
  zay)
  (zad (ze3 7 [0] 1 0 0 ["pot", "scale"] rfl (zd3 (zab 6)) (fun C s H fp => (zan 1 ndk)) (fun C s H fp => zaN) (fun C s H fp => (zcI (zab 1) (zbd (zao 0 zai hr (zaa zag zae) (zaP (zac zaj))) zag))) nd)
  (zad (ze3 8 [0, 3] 2 0 0 ["pot", "wide", "number", "scale"] rfl (zhc bn.zip' (zaa (zab 7) (zaa (zab 6) zae))) (fun C s H fp => (zcm rfl (zaq (zan 2 ndk) (zaq (zan 3 ndk) zbn)))) (fun C s H fp => zaN) (fun C s H fp => (zbd (zab 2) (zcI (zao 0 zai hr (zaa (zab 1) zae) (zaP (zac zaj))) (zab 3)))) nd)
  (zad (ze3 9 [0, 3] 2 0 0 ["pot", "wide", "number", "scale"] rfl (zhc bn.zip' (zaa (zab 7) (zaa (zab 6) zae))) (fun C s H fp => (zcm rfl (zaq (zan 2 ndk) (zaq (zan 3 ndk) zbn)))) (fun C s H fp => zaN) (fun C s H fp => (zar (zab 2) (zcI (zao 0 zai hr (zaa (zab 1) zae) (zaP (zac zaj))) (zab 3)))) nd)
  (zad (zdc 10 (zcK bn.list' (zaa (zas zbw hr (zaa (zab 7) (zaa (zab 1) zae)) (hlen := (zac (zac zaj)))) zae)) nd)
  (zad (zcr PassesOwn.never rfl (zaH bn.range' (zaa (za3 (SO.se (zbv (zaa zag (zaa zag (zaa zag (zaa (zaJ 10 bn.len') zae)))))) (zao 0 zai hr (zaa zag zae) (zaP (zac zaj)))) zae)) (zan 11 nd)
  (zad (zap 12 (zao 0 zai hr (zaa (zaJ 10 bn.len') zae) (zaP (zac zaj))) nd)
  (zal (zie 10 (zar (zak 10 (zab 12)) (zcI (zbd (zao 0 zai hr (zaa zag zae) (zaP (zac zaj))) zag) (za3 (SO.se (zbv (zaa zag (zaa (zak 6 (zab 12)) zae)))) (zao 0 zai hr (zaa zag zae) (zaP (zac zaj)))))) (zab 12)))))
  (zal (zat (zbu (zaa (zab 1) (zaa (zbr bn.tuple' (zaa (zab 10) zae)) (zaa (zbr bn.tuple' (zaa (zab 8) zae)) (zaa (zbr bn.tuple' (zaa (zab 9) zae)) zae))))))))))))))))
abbrev zft:Stmt:=top 40
def zb9:ME:=
 (eAnd (m2 dLe (eIxV 0 (eVar 3)) (eIxV 1 (eVar 3))) (m2 dLe (eIxV 1 (eVar 3)) (eIxV 2 (eVar 3))))
def zeb:MO:=
 oLC [1,0,2] 1 (iR1 (zaf (zbW 0) aNil)) (gN 3) zcA zb9
def zem:MS:=
 (sRet (mC (dAll fun bs=>bs.all id) (zaf (eFz zeb) aNil)))
def zdU:MS:=
 (sSeq (sIf (tTru (m2 dNe (zbW 0) (zbW 1)))
  (sRet (eC (.bl false)))
  zbb)
  zem)
def zbz:List D->Option Sl:=fP 3 zdU
theorem zhX (h:FnAt K "_law_within" zft):FD P w K mg base 1 "_law_within" (spP K 3 zbz):=
 fdP (N:=["row","least","greatest"]) (k:=0) (m:=zdU) X G h fun _ _ _ _ _ _ _ hr nd=>(zad (zbj (zhV hr.units (zaJ 0 bn.len') (zaJ 1 bn.len'))
  (zal (zat ze5))
  zay)
  (zal (zat (zhh rfl bn.all' (zaa (SO.se (zfA [1,0,2] 1 ["least","row","greatest","at"] rfl (zaH bn.range' (zaa (zaJ 0 bn.len') zae)) (fun C s H fp=>(zan 3 ndk)) (fun C s H fp=>zaN) (fun C s H fp=>(znr (se_le (zak 0 (zab 3)) (zak 1 (zab 3))) (zj2 (se_le (zak 1 (zab 3)) (zak 2 (zab 3)))))))) zae)))))
abbrev zdz:Stmt:=top 41
def zcE:MS:=
 (sApp 2 (m2 dIx (eFz (oLst (zaf (eVar 3) (zaf (eVar 4) (zaf (m2 dAdd (eVar 3) (zaw zam 0 (zaf (m2 dAdd (m2 dSub (eVar 4) (eVar 3)) (eC (.int 1))) aNil))) aNil))))) (zaw zam 0 (zaf (eC (.int 3)) aNil))))
def zcN:MS:=
 sFor (iZ2 (zaf (eIxV 1 (eC (.int 2))) (zaf (eIxV 1 (eC (.int 3))) aNil))) (gT 2 (zaE (gN 3) (zaE (gN 4) zdS))) zcE
def zb8:MS:=
 (sSeq (zg7 2 (oLst aNil))
  (sSeq zcN
  (zgp 2)))
def za5:List D->List D->Option (Sl×List D):=fM 5 zb8
theorem zgG (zai:FD P w K mg base 1 "_law_take" (spM K 2 zam))(h:FnAt K "_law_inner_row" zdz):FD P w K mg base 2 "_law_inner_row" (spM K 2 za5):=
 fdM (N:=["pot","line","row","low","high"]) (k:=1) (m:=zb8) X G h fun _ _ _ _ _ _ _ hr nd=>(zad (zdc 2 (zbv zae) nd)
  (zad (zcr PassesOwn.never rfl (zhc bn.zip' (zaa (zak 1 zag) (zaa (zak 1 zag) zae))) (zcm rfl (zaq (zan 3 nd) (zaq (zan 4 nd) zbn)))
  (zal (zjS 2 (za3 (SO.se (zbv (zaa (zab 3) (zaa (zab 4) (zaa (zar (zab 3) (zao 0 zai hr (zaa (zar (zbd (zab 4) (zab 3)) zag) zae) (zaP (zac zaj)))) zae))))) (zao 0 zai hr (zaa zag zae) (zaP (zac zaj)))))))
  (zal (zdq 2))))
abbrev zdv:Stmt:=top 42
def zb7:MS:=
 (sRet (zaw zcF 0 (zaf (eC (.int 2)) (zaf (m2 dIx (eFz (oLst (zaf (eC (.int 12)) (zaf (eC (.int 24)) aNil)))) (m2 dDiv (zaw zam 0 (zaf (eC (.int 6)) aNil)) (eC (.int 5)))) (zaf (m2 dAdd (eC (.int 1)) (zaw zam 0 (zaf (eC (.int 5)) aNil))) aNil)))))
def za7:List D->List D->Option (Sl×List D):=fM 1 zb7
theorem zgE (zes:FD P w K mg base 2 "_law_line" (spM K 4 zcF))(zai:FD P w K mg base 1 "_law_take" (spM K 2 zam))(h:FnAt K "_law_twos_line" zdv):FD P w K mg base 3 "_law_twos_line" (spM K 1 za7):=
 fdM (N:=["pot"]) (k:=2) (m:=zb7) X G h fun _ _ _ _ _ _ _ hr nd=>(zal (zat (zao 0 zes hr (zaa zag (zaa (za3 (SO.se (zbv (zaa zag (zaa zag zae)))) (znY (zao 0 zai hr (zaa zag zae) (zaP (zac zaj))) zag)) (zaa (zar zag (zao 0 zai hr (zaa zag zae) (zaP (zac zaj)))) zae))) (zaP (zac (zac (zac zaj)))))))
abbrev ze9:Stmt:=top 43
def zea:MS:=
 (sSeq (sSet 6 (eTup (zaf (eVar 3) (zaf (eVar 4) aNil))))
  (sSeq (sSet 3 (mC (d2I max2) (zaf (m2 dIx (eIxV 0 (eC (.int 2))) (m2 dAdd (eVar 5) (eC (.int 1)))) (zaf (m2 dSub (m2 dIx (eIxV 0 (eC (.int 1))) (eVar 5)) (eIxV 6 (eC (.int 1)))) aNil))))
  (sSeq (sSet 4 (mC (d2I min2) (zaf (m2 dIx (eIxV 0 (eC (.int 3))) (m2 dAdd (eVar 5) (eC (.int 1)))) (zaf (m2 dSub (m2 dIx (eIxV 0 (eC (.int 1))) (eVar 5)) (eIxV 6 (eC (.int 0)))) aNil))))
  (sIf (tTru (m2 dGt (eVar 3) (eVar 4)))
  (sRet (eC (.bl false)))
  zbb))))
def zd8:MS:=
 sFor (iR2 (zaf (eVar 1) (zaf (m2 dAdd (eVar 2) (eC (.int 1))) aNil))) (gN 5) zea
def zdO:MS:=
 (sSeq (sPar 3 4 (zaf (m2 dIx (eIxV 0 (eC (.int 2))) (eVar 1)) (zaf (m2 dIx (eIxV 0 (eC (.int 3))) (eVar 1)) aNil)))
  (sSeq zd8
  (sRet (eC (.bl true)))))
def zbh:List D->Option Sl:=fP 7 zdO
theorem zhS (h:FnAt K "_law_can_be" ze9):FD P w K mg base 1 "_law_can_be" (spP K 3 zbh):=
 fdP (N:=["line","a","b","low","high","at","ahead"]) (k:=0) (m:=zdO) X G h fun _ _ _ _ _ _ _ hr nd=>(zad (ss_par 3 4 (by decide) rfl (zaa (za3 (zak 0 zag) (zab 1)) (zaa (za3 (zak 0 zag) (zab 1)) zae)) nd)
  (zad (zcr PassesOwn.never rfl (znG bn.range' (zaa (zab 1) (zaa (zar (zab 2) zag) zae))) (zan 5 nd)
  (zad (zap 6 (zbu (zaa (zab 3) (zaa (zab 4) zae))) nd)
  (zad (zap 3 (ziQ rfl bn.max' (zaa (za3 (zak 0 zag) (zar (zab 5) zag)) (zaa (zbd (za3 (zak 0 zag) (zab 5)) (zak 6 zag)) zae))) nd)
  (zad (zap 4 (ziI rfl bn.min' (zaa (za3 (zak 0 zag) (zar (zab 5) zag)) (zaa (zbd (za3 (zak 0 zag) (zab 5)) (zak 6 zag)) zae))) nd)
  (zal (zbj (st_gt (zab 3) (zab 4))
  (zal (zat ze5))
  zay))))))
  (zal (zat ze5))))
abbrev zcW:Stmt:=top 44
def zcj:ME:=
 (zgi dLe dLt (eC (.int 0)) (eVar 1) (eVar 0))
def zcb:MO:=
 oLC [4] 1 (iSeq (eVar 1)) (gN 1) zcA zcj
def zci:ME:=
 (eOr (m2 dIn (eVar 3) (eVar 0)) (m2 dEq (eIxV 1 (eVar 3)) (m2 dIx (eIxV 2 (eC (.int 1))) (eVar 3))))
def zce:MO:=
 oLC [1,5,0] 1 (iR1 (zaf (eVar 4) aNil)) (gN 3) zcA zci
def zcs:MS:=
 (sSet 6 (eVar 8))
def zcd:MS:=
 (sSeq (sIf (tOrM (zhy (tTru (zhj dLt dLe dLt (eVar 6) (eVar 7) (eVar 8) (eVar 4)))) (tTru (za0 zbh (zaf (eVar 0) (zaf (eVar 7) (zaf (eVar 8) aNil))))))
  (sRet (eC (.bl false)))
  zbb)
  zcs)
def zcl:MS:=
 sFor (iSeq (eVar 3)) (gT 2 (zaE (gN 7) (zaE (gN 8) zdS))) zcd
def zcx:MS:=
 (sSeq (sSet 6 (m1 dNeg (eC (.int 1))))
  (sSeq zcl
  (sRet (eC (.bl true)))))
def zca:MS:=
 (sSeq (sSet 5 (za0 za8 (zaf (eVar 2) (zaf (eC (.int 2)) aNil))))
  (sSeq (sIf (zhy (tTru (mC (dAll fun bs => bs.all id) (zaf (eFz zce) aNil))))
  (sRet (eC (.bl false)))
  zbb)
  zcx))
def zcw:MS:=
 (sSeq (sIf (zhy (tTru (za0 zbz (zaf (eVar 2) (zaf (eIxV 0 (eC (.int 2))) (zaf (eIxV 0 (eC (.int 3))) aNil))))))
  (sRet (eC (.bl false)))
  zbb)
  zca)
def zbP:MS:=
 (sSeq (sSet 4 (mC dLen (zaf (eIxV 0 (eC (.int 1))) aNil)))
  (sSeq (sIf (tOrM (tTru (m2 dNe (eFz (oC zax (zaf (eVar 1) aNil))) (eFz (oSrtS (eVar 1))))) (tOrM (zhy (tTru (mC (dAll fun bs => bs.all id) (zaf (eFz zcb) aNil)))) (tTru (m2 dNe (zbW 3) (zbW 1)))))
  (sRet (eC (.bl false)))
  zbb)
  zcw))
def zaX:List D->Option Sl:=fP 9 zbP
theorem zgc (zdp:FD P w K mg base 1 "_law_can_be" (spP K 3 zbh))(zbw:FD P w K mg base 1 "_law_sums" (spP K 2 za8))(zda:FD P w K mg base 1 "_law_within" (spP K 3 zbz))(h:FnAt K "_law_twos_right" zcW):FD P w K mg base 2 "_law_twos_right" (spP K 4 zaX):=
 fdP (N:=["line","wrong","row","stretches","many","sums","ahead","a","b"]) (k:=1) (m:=zbP) X G h fun _ _ _ _ _ _ _ hr nd=>(zad (zap 4 (zhL bn.len' (zaa (zak 0 zag) zae)) nd)
  (zad (zbj (STw.st (zjg (zhV hr.units (SO.se (zcK bn.list' (zaa (zab 1) zae))) (SO.se (zmv rfl bn.sorted' bn.set' (zab 1)))) (zjg (zf5 (zcz (zhh rfl bn.all' (zaa (SO.se (zfA [4] 1 ["many", "at"] rfl (zd3 (zab 1)) (fun C s H fp => (zan 1 ndk)) (fun C s H fp => zaN) (fun C s H fp => (ziZ ziA zjs zby zby zag (zab 1) (zab 0))))) zae)))) (zg3 (zhV hr.units (zaJ 3 bn.len') (zaJ 1 bn.len'))))))
  (zal (zat ze5))
  zay)
  (zad (zbj (zf5 (zcz (zas zda hr (zaa (zab 2) (zaa (zak 0 zag) (zaa (zak 0 zag) zae))) (hlen := (zac (zac (zac zaj)))))))
  (zal (zat ze5))
  zay)
  (zad (zap 5 (zas zbw hr (zaa (zab 2) (zaa zag zae)) (hlen := (zac (zac zaj)))) nd)
  (zad (zbj (zf5 (zcz (zhh rfl bn.all' (zaa (SO.se (zfA [1, 5, 0] 1 ["wrong", "sums", "line", "at"] rfl (zaH bn.range' (zaa (zab 4) zae)) (fun C s H fp => (zan 3 ndk)) (fun C s H fp => zaN) (fun C s H fp => (se_or (se_in (zab 3) (zab 0)) (zj2 (se_eq hr.units (zak 1 (zab 3)) (za3 (zak 2 zag) (zab 3)))))))) zae))))
  (zal (zat ze5))
  zay)
  (zad (zap 6 (zng zag) nd)
  (zad (zcr PassesOwn.never rfl (zd3 (zab 3)) (zcm rfl (zaq (zan 7 nd) (zaq (zan 8 nd) zbn)))
  (zad (zbj (STw.st (zjg (zf5 (zj1 zjs ziA zjs zby zby zby zis (zab 6) (zab 7) (zab 8) (zab 4))) (zg3 (zcz (zas zdp hr (zaa (zab 0) (zaa (zab 7) (zaa (zab 8) zae))) (hlen := (zac (zac (zac zaj)))))))))
  (zal (zat ze5))
  zay)
  (zal (zap 6 (zab 8) nd))))
  (zal (zat ze5)))))))))
abbrev zdD:Stmt:=top 45
def zcD:MS:=
 (sSeq (sPut 3 (eVar 4) (eVar 6))
  (zgp 3))
def zcM:MS:=
 (sSeq (sIf (tTru (m2 dEq (eVar 5) (eC (.int 2))))
  (sRet (m2 dAdd (zew 3 (zba (eVar 4)) pNo) (zew 3 pNo (zba (eVar 4)))))
  zbb)
  zcD)
def zcU:MS:=
 (sSeq (sIf (tTru (m2 dEq (eVar 5) (eC (.int 1))))
  (sRet (m2 dAdd (zew 3 pNo (zba (eVar 4))) (zew 3 (zba (m2 dAdd (eVar 4) (eC (.int 1)))) pNo)))
  zbb)
  zcM)
def zb6:MS:=
 (sSeq (zg7 3 (oC zax (zaf (eVar 1) aNil)))
  (sSeq (sSet 4 (zaw zam 0 (zaf (m2 dAdd (zbW 3) (eC (.int 1))) aNil)))
  (sSeq (sSet 5 (zaw zam 0 (zaf (eC (.int 4)) aNil)))
  (sSeq (sSet 6 (m2 dIx (eTup (zaf (zaw zam 0 (zaf (eVar 2) aNil)) (zaf (eVar 2) (zaf (m1 dNeg (eC (.int 1))) aNil)))) (mC (d2I max2) (zaf (eC (.int 0)) (zaf (m2 dSub (zaw zam 0 (zaf (eC (.int 6)) aNil)) (eC (.int 3))) aNil)))))
  (sSeq (sIf (tOrM (tTru (m2 dEq (eVar 5) (eC (.int 0)))) (tTru (m2 dEq (zew 3 (zba (eVar 4)) pNo) (eFz (oLst aNil)))))
  (sRet (m2 dAdd (m2 dAdd (zew 3 pNo (zba (eVar 4))) (eFz (oLst (zaf (eVar 6) aNil)))) (zew 3 (zba (eVar 4)) pNo)))
  zbb)
  zcU)))))
def za6:List D->List D->Option (Sl×List D):=fM 7 zb6
theorem zgK (zai:FD P w K mg base 1 "_law_take" (spM K 2 zam))(h:FnAt K "_law_some_bent" zdD):FD P w K mg base 2 "_law_some_bent" (spM K 3 za6):=
 fdM (N:=["pot","some","many","bent","at","way","number"]) (k:=1) (m:=zb6) X G h fun _ _ _ _ _ _ _ hr nd=>(zad (zdc 3 (zcK bn.list' (zaa (zab 1) zae)) nd)
  (zad (zap 4 (zao 0 zai hr (zaa (zar (zaJ 3 bn.len') zag) zae) (zaP (zac zaj))) nd)
  (zad (zap 5 (zao 0 zai hr (zaa zag zae) (zaP (zac zaj))) nd)
  (zad (zap 6 (za3 (zbu (zaa (zao 0 zai hr (zaa (zab 2) zae) (zaP (zac zaj))) (zaa (zab 2) (zaa (zng zag) zae)))) (ziQ rfl bn.max' (zaa zag (zaa (zbd (zao 0 zai hr (zaa zag zae) (zaP (zac zaj))) zag) zae)))) nd)
  (zad (zbj (STw.st (zjg (zfO hr.units (zab 5) zag) (zg3 (zfO hr.units (zbG 3 (zaz (zab 4)) zdx) (SO.se (zbv zae))))))
  (zal (zat (zar (zar (zbG 3 zdx (zaz (zab 4))) (SO.se (zbv (zaa (zab 6) zae)))) (zbG 3 (zaz (zab 4)) zdx))))
  zay)
  (zad (zbj (zfO hr.units (zab 5) zag)
  (zal (zat (zar (zbG 3 zdx (zaz (zab 4))) (zbG 3 (zaz (zar (zab 4) zag)) zdx))))
  zay)
  (zad (zbj (zfO hr.units (zab 5) zag)
  (zal (zat (zar (zbG 3 (zaz (zab 4)) zdx) (zbG 3 zdx (zaz (zab 4))))))
  zay)
  (zad (zie 3 (zab 6) (zab 4))
  (zal (zdq 3))))))))))
abbrev zcX:Stmt:=top 46
def zct:MS:=
 (sSeq (sAsg (eIxV 3 (eVar 4)) (gT 2 (zaE (gN 6) (zaE (gN 7) zdS))))
  (sSeq (sSet 8 (m2 dSub (zaw zam 0 (zaf (eC (.int 5)) aNil)) (eC (.int 2))))
  (sSeq (sPut 3 (eVar 4) (m2 dIx (eFz (oLst (zaf (eTup (zaf (m2 dAdd (eVar 6) (eVar 8)) (zaf (eVar 7) aNil))) (zaf (eTup (zaf (eVar 6) (zaf (m2 dAdd (eVar 7) (eVar 8)) aNil))) aNil)))) (m2 dSub (eVar 5) (eC (.int 3)))))
  (zgp 3))))
def zcv:MS:=
 (sSeq (sIf (tTru (m2 dEq (eVar 5) (eC (.int 2))))
  (sRet (m2 dAdd (zew 3 (zba (eVar 4)) pNo) (zew 3 pNo (zba (eVar 4)))))
  zbb)
  zct)
def zco:MS:=
 (sSeq (sIf (tTru (m2 dEq (eVar 5) (eC (.int 1))))
  (sRet (m2 dAdd (zew 3 pNo (zba (eVar 4))) (zew 3 (zba (m2 dAdd (eVar 4) (eC (.int 1)))) pNo)))
  zbb)
  zcv)
def zbQ:MS:=
 (sSeq (zg7 3 (oC zax (zaf (eVar 1) aNil)))
  (sSeq (sSet 4 (zaw zam 0 (zaf (m2 dAdd (zbW 3) (eC (.int 1))) aNil)))
  (sSeq (sSet 5 (zaw zam 0 (zaf (eC (.int 5)) aNil)))
  (sSeq (sIf (tOrM (tTru (m2 dEq (eVar 5) (eC (.int 0)))) (tTru (m2 dEq (zew 3 (zba (eVar 4)) pNo) (eFz (oLst aNil)))))
  (sSeq (sSet 6 (zaw zam 0 (zaf (eVar 2) aNil)))
  (sRet (m2 dAdd (m2 dAdd (zew 3 pNo (zba (eVar 4))) (eFz (oLst (zaf (eTup (zaf (eVar 6) (zaf (m2 dAdd (eVar 6) (zaw zam 0 (zaf (eC (.int 3)) aNil))) aNil))) aNil)))) (zew 3 (zba (eVar 4)) pNo))))
  zbb)
  zco))))
def zaR:List D->List D->Option (Sl×List D):=fM 9 zbQ
theorem zgg (zai:FD P w K mg base 1 "_law_take" (spM K 2 zam))(h:FnAt K "_law_pairs_bent" zcX):FD P w K mg base 2 "_law_pairs_bent" (spM K 3 zaR):=
 fdM (N:=["pot","pairs","many","bent","at","way","a","b","more"]) (k:=1) (m:=zbQ) X G h fun _ _ _ _ _ _ _ hr nd=>(zad (zdc 3 (zcK bn.list' (zaa (zab 1) zae)) nd)
  (zad (zap 4 (zao 0 zai hr (zaa (zar (zaJ 3 bn.len') zag) zae) (zaP (zac zaj))) nd)
  (zad (zap 5 (zao 0 zai hr (zaa zag zae) (zaP (zac zaj))) nd)
  (zad (zbj (STw.st (zjg (zfO hr.units (zab 5) zag) (zg3 (zfO hr.units (zbG 3 (zaz (zab 4)) zdx) (SO.se (zbv zae))))))
  (zad (zap 6 (zao 0 zai hr (zaa (zab 2) zae) (zaP (zac zaj))) nd)
  (zal (zat (zar (zar (zbG 3 zdx (zaz (zab 4))) (SO.se (zbv (zaa (zbu (zaa (zab 6) (zaa (zar (zab 6) (zao 0 zai hr (zaa zag zae) (zaP (zac zaj)))) zae))) zae)))) (zbG 3 (zaz (zab 4)) zdx)))))
  zay)
  (zad (zbj (zfO hr.units (zab 5) zag)
  (zal (zat (zar (zbG 3 zdx (zaz (zab 4))) (zbG 3 (zaz (zar (zab 4) zag)) zdx))))
  zay)
  (zad (zbj (zfO hr.units (zab 5) zag)
  (zal (zat (zar (zbG 3 (zaz (zab 4)) zdx) (zbG 3 zdx (zaz (zab 4))))))
  zay)
  (zad (ss_asg (zak 3 (zab 4)) (zcm rfl (zaq (zan 6 nd) (zaq (zan 7 nd) zbn))))
  (zad (zap 8 (zbd (zao 0 zai hr (zaa zag zae) (zaP (zac zaj))) zag) nd)
  (zad (zie 3 (za3 (SO.se (zbv (zaa (zbu (zaa (zar (zab 6) (zab 8)) (zaa (zab 7) zae))) (zaa (zbu (zaa (zab 6) (zaa (zar (zab 7) (zab 8)) zae))) zae)))) (zbd (zab 5) zag)) (zab 4))
  (zal (zdq 3)))))))))))
abbrev zcZ:Stmt:=top 47
def zch:MT:=
 (znt (tTru (zgi dLe dLt (eC (.int 0)) (m2 dAdd (eVar 7) (eVar 6)) (zbW 1))) (tTru (m2 zii (mC (d2I min2) (zaf (eVar 7) (zaf (m2 dAdd (eVar 7) (eVar 6)) aNil))) (eVar 2))))
def zcc:MS:=
 (sSeq (sSet 7 (m2 dAdd (eVar 7) (eVar 6)))
  (sPut 5 (eVar 7) (m2 dAdd (eIxV 5 (eVar 7)) (m2 dMul (eVar 4) (m2 dSub (eC (.int 1)) (m2 dMul (eC (.int 2)) (m2 dMod (mC dAbs (zaf (m2 dSub (eVar 7) (eVar 3)) aNil)) (eC (.int 2)))))))))
def zcu:MS:=
 zgV zch zcc 400
def zcq:MS:=
 (sSeq (sSet 7 (eVar 3))
  zcu)
def zcf:MS:=
 sFor (iSeq (eTup (zaf (eC (.int 1)) (zaf (m1 dNeg (eC (.int 1))) aNil)))) (gN 6) zcq
def zbR:MS:=
 (sSeq (sSet 3 (zaw zam 0 (zaf (zbW 1) aNil)))
  (sSeq (sSet 4 (m2 dSub (zaw zam 0 (zaf (eC (.int 7)) aNil)) (eC (.int 3))))
  (sSeq (zg7 5 (oC zax (zaf (eVar 1) aNil)))
  (sSeq (sPut 5 (eVar 3) (m2 dAdd (eIxV 5 (eVar 3)) (eVar 4)))
  (sSeq zcf
  (zgp 5))))))
def zaU:List D->List D->Option (Sl×List D):=fM 8 zbR
theorem zgb (zai:FD P w K mg base 1 "_law_take" (spM K 2 zam))(h:FnAt K "_law_part_moved" zcZ):FD P w K mg base 2 "_law_part_moved" (spM K 3 zaU):=
 fdM (N:=["pot","row","wrong","at","more","moved","step","here"]) (k:=1) (m:=zbR) X G h fun _ _ _ _ _ _ _ hr nd=>(zad (zap 3 (zao 0 zai hr (zaa (zaJ 1 bn.len') zae) (zaP (zac zaj))) nd)
  (zad (zap 4 (zbd (zao 0 zai hr (zaa zag zae) (zaP (zac zaj))) zag) nd)
  (zad (zdc 5 (zcK bn.list' (zaa (zab 1) zae)) nd)
  (zad (zie 5 (zar (zak 5 (zab 3)) (zab 4)) (zab 3))
  (zad (zcr PassesOwn.never rfl (zd3 (zbu (zaa zag (zaa (zng zag) zae)))) (zan 6 nd)
  (zad (zap 7 (zab 3) nd)
  (zal (ss_while 400 PassesOwn.never (STw.st (sw_and (st_chain ziA zjs zby zby zis zag (zar (zab 7) (zab 6)) (zaJ 1 bn.len')) (zmZ (st_notIn (ziI rfl bn.min' (zaa (zab 7) (zaa (zar (zab 7) (zab 6)) zae))) (zab 2)))))
  (zad (zap 7 (zar (zab 7) (zab 6)) nd)
  (zal (zie 5 (zar (zak 5 (zab 7)) (zcI (zab 4) (zbd zag (zcI zag (zg1 (se_abs bn.abs' (zaa (zbd (zab 7) (zab 3)) zae)) zag))))) (zab 7))))))))
  (zal (zdq 5)))))))
abbrev zgL:Stmt:=top 48
def zfb:MS:=
 (sRet (eTup (zaf (mC zbp (zaf (eVar 3) aNil)) (zaf (mC zbp (zaf (eVar 4) aNil)) (zaf (eFz (oC zax (zaf (eVar 5) aNil))) aNil)))))
def zc4:MS:=
 (sSeq (sIf (tTru (m2 dEq (zaw zam 0 (zaf (eC (.int 4)) aNil)) (eC (.int 0))))
  (sSet 3 (eCut (eFz (oC zax (zaf (eVar 3) aNil))) pNo (zba (zbW 5))))
  zbb)
  zfb)
def zb0:MS:=
 (sSeq (sIf (tTru (m2 dGt (eVar 7) (eC (.int 3))))
  (sSet 5 (zaw zaR 0 (zaf (eVar 5) (zaf (eVar 6) aNil))))
  zbb)
  zc4)
def zdh:MS:=
 (sSeq (sIf (znt (tTru (m2 dEq (eVar 7) (eC (.int 3)))) (tTru (m2 dEq (zaw zam 0 (zaf (eC (.int 3)) aNil)) (eC (.int 0)))))
  (sSet 4 (zaw za5 0 (zaf (eVar 1) aNil)))
  (sIf (tTru (m2 dEq (eVar 7) (eC (.int 3))))
  (sSeq (sSet 8 (zaw zam 0 (zaf (zbW 4) aNil)))
  (sSet 4 (m2 dAdd (m2 dAdd (eFz (oC zax (zaf (eCut (eVar 4) pNo (zba (eVar 8))) aNil))) (eFz (oLst (zaf (m2 dSub (m2 dAdd (eIxV 4 (eVar 8)) (zaw zam 0 (zaf (eC (.int 3)) aNil))) (eC (.int 1))) aNil)))) (eFz (oC zax (zaf (eCut (eVar 4) (zba (m2 dAdd (eVar 8) (eC (.int 1)))) pNo) aNil))))))
  zbb))
  zb0)
def zc8:MS:=
 (sSeq (sIf (tTru (m2 dEq (eVar 7) (eC (.int 2))))
  (sSet 4 (zaw zaU 0 (zaf (eVar 4) (zaf (eVar 3) aNil))))
  zbb)
  zdh)
def zfQ:MS:=
 (sSeq (sAsg (eVar 2) (gT 3 (zaE (gN 3) (zaE (gN 4) (zaE (gN 5) zdS)))))
  (sSeq (sSet 6 (mC dLen (zaf (eIxV 1 (eC (.int 1))) aNil)))
  (sSeq (sSet 7 (zaw zam 0 (zaf (eC (.int 6)) aNil)))
  (sSeq (sIf (tTru (m2 dLt (eVar 7) (eC (.int 2))))
  (sSet 3 (zaw za6 0 (zaf (eVar 3) (zaf (eVar 6) aNil))))
  zbb)
  zc8))))
def zcQ:List D->List D->Option (Sl×List D):=fM 9 zfQ
theorem zjV (zbS:FD P w K mg base 2 "_law_inner_row" (spM K 2 za5))(zbK:FD P w K mg base 2 "_law_pairs_bent" (spM K 3 zaR))(zbI:FD P w K mg base 2 "_law_part_moved" (spM K 3 zaU))(zbZ:FD P w K mg base 2 "_law_some_bent" (spM K 3 za6))(zai:FD P w K mg base 1 "_law_take" (spM K 2 zam))(h:FnAt K "_law_bent" zgL):FD P w K mg base 3 "_law_bent" (spM K 3 zcQ):=
 fdM (N:=["pot","line","told","wrong","row","pairs","many","way","at"]) (k:=2) (m:=zfQ) X G h fun _ _ _ _ _ _ _ hr nd=>(zad (ss_asg (zab 2) (zcm rfl (zaq (zan 3 nd) (zaq (zan 4 nd) (zaq (zan 5 nd) zbn)))))
  (zad (zap 6 (zhL bn.len' (zaa (zak 1 zag) zae)) nd)
  (zad (zap 7 (zao 0 zai hr (zaa zag zae) (zaP (zac zaj))) nd)
  (zad (zbj (st_lt (zab 7) zag)
  (zal (zap 3 (zao 0 zbZ hr (zaa (zab 3) (zaa (zab 6) zae)) (zaP (zac (zac zaj)))) nd))
  zay)
  (zad (zbj (zfO hr.units (zab 7) zag)
  (zal (zap 4 (zao 0 zbI hr (zaa (zab 4) (zaa (zab 3) zae)) (zaP (zac (zac zaj)))) nd))
  zay)
  (zad (zbj (STw.st (sw_and (zfO hr.units (zab 7) zag) (zmZ (zfO hr.units (zao 0 zai hr (zaa zag zae) (zaP (zac zaj))) zag))))
  (zal (zap 4 (zao 0 zbS hr (zaa (zab 1) zae) (zaP (zac zaj))) nd))
  (zal (zbj (zfO hr.units (zab 7) zag)
  (zad (zap 8 (zao 0 zai hr (zaa (zaJ 4 bn.len') zae) (zaP (zac zaj))) nd)
  (zal (zap 4 (zar (zar (SO.se (zcK bn.list' (zaa (zgQ (zab 4) zdx (zaz (zab 8))) zae))) (SO.se (zbv (zaa (zbd (zar (zak 4 (zab 8)) (zao 0 zai hr (zaa zag zae) (zaP (zac zaj)))) zag) zae)))) (SO.se (zcK bn.list' (zaa (zgQ (zab 4) (zaz (zar (zab 8) zag)) zdx) zae)))) nd)))
  zay)))
  (zad (zbj (st_gt (zab 7) zag)
  (zal (zap 5 (zao 0 zbK hr (zaa (zab 5) (zaa (zab 6) zae)) (zaP (zac (zac zaj)))) nd))
  zay)
  (zad (zbj (zfO hr.units (zao 0 zai hr (zaa zag zae) (zaP (zac zaj))) zag)
  (zal (zap 3 (zgQ (SO.se (zcK bn.list' (zaa (zab 3) zae))) zdx (zaz (zaJ 5 bn.len'))) nd))
  zay)
  (zal (zat (zbu (zaa (zbr bn.tuple' (zaa (zab 3) zae)) (zaa (zbr bn.tuple' (zaa (zab 4) zae)) (zaa (SO.se (zcK bn.list' (zaa (zab 5) zae))) zae))))))))))))))
abbrev zjG:Stmt:=top 49
def zlG:MS:=
 (sSet 6 (zaw zcQ 2 (zaf (eVar 3) (zaf (eVar 6) aNil))))
def zlN:MS:=
 sFor (iR1 (zaf (mC (d2I min2) (zaf (eVar 5) (zaf (m2 dAdd (eC (.int 1)) (zaw zam 2 (zaf (eC (.int 2)) aNil))) aNil))) aNil)) (gN 7) zlG
def zlH:MS:=
 (sIf (tOrM (tTru (m2 dNe (mC zbp (zaf (eIxV 8 (eC (.int 1))) aNil)) (eIxV 6 (eC (.int 1))))) (tTru (m2 dNe (eFz (oC zax (zaf (eIxV 8 (eC (.int 2))) aNil))) (eIxV 6 (eC (.int 2))))))
  (sRet (eC (.bl false)))
  zbb)
def zl1:MS:=
 (sSeq (sSet 6 (eVar 4))
  (sSeq zlN
  (sSeq (sSet 8 (eTup (zaf (eIxV 6 (eC (.int 0))) (zaf (zaw zbk 2 (zaf (eIxV 6 (eC (.int 1))) aNil)) (zaf (zaw zbk 2 (zaf (eIxV 6 (eC (.int 2))) aNil)) aNil)))))
  (sSeq (sSet 9 (za0 zb3 (zaf (eVar 3) (zaf (eVar 8) aNil))))
  (sSeq (sIf (tOrM (zhy (tTru (eIsI "bool" (eVar 9)))) (tTru (m2 dNe (eVar 9) (za0 zaX (zaf (eVar 3) (zaf (eIxV 6 (eC (.int 0))) (zaf (eIxV 6 (eC (.int 1))) (zaf (eIxV 6 (eC (.int 2))) aNil))))))))
  (sRet (eC (.bl false)))
  zbb)
  zlH)))))
def zlx:MS:=
 sFor (iR1 (zaf (eC (.int 12)) aNil)) (gN 5) zl1
def zlt:MS:=
 (sSeq (zg7 2 (zmd zcG (zaf (eVar 0) (zaf (eVar 1) aNil))))
  (sSeq (sSet 3 (zaw za7 2 aNil))
  (sSeq (sSet 4 (za0 zbt (zaf (eVar 3) aNil)))
  zlx)))
def zlq:MS:=
 sFor (iR1 (zaf (mC (d2I max2) (zaf (eC (.int 2)) (zaf (mC (d2I min2) (zaf (zbW 0) (zaf (eC (.int 6)) aNil))) aNil))) aNil)) (gN 1) zlt
def m_law:MS:=
 (sSeq zlq
  (sRet (eC (.bl true))))
def zjT:List D->Option Sl:=fP 10 m_law
theorem ok_law (zeI:FD P w K mg base 3 "_law_bent" (spM K 3 zcQ))(zex:FD P w K mg base 1 "_law_deal" (spP K 2 zcG))(zb1:FD P w K mg base 2 "_law_either" (spM K 2 zbk))(zai:FD P w K mg base 1 "_law_take" (spM K 2 zam))(zbX:FD P w K mg base 3 "_law_twos_line" (spM K 1 za7))(zbC:FD P w K mg base 2 "_law_twos_right" (spP K 4 zaX))(zdX:FD P w K mg base 6 "twos_right" (spP K 2 zb3))(zd0:FD P w K mg base 7 "twos_wrong" (spP K 1 zbt))(F:Fun K "law" "law" zjG f fd):FnOk P w K mg base CX0 8 f fd ["script"] (spP K 1 zjT):=
 lawP (N:=["script","k","pot","line","first","turn","told","bend","handed","found"]) (k:=7) (n:=1) (m:=m_law) F fun _ _ _ _ _ _ _ hr nd=>(zad (zcr PassesOwn.never rfl (zaH bn.range' (zaa (ziQ rfl bn.max' (zaa zag (zaa (ziI rfl bn.min' (zaa (zaJ 0 bn.len') (zaa zag zae))) zae))) zae)) (zan 1 nd)
  (zad (zdc 2 (zi7 zex hr (zaa (zab 0) (zaa (zab 1) zae)) (hlen := (zac (zac zaj)))) nd)
  (zad (zap 3 (zao 2 zbX hr zae (zaP zaj)) nd)
  (zad (zap 4 (zas zd0 hr (zaa (zab 3) zae) (hlen := (zac zaj))) nd)
  (zal (zcr PassesOwn.never rfl (zaH bn.range' (zaa zag zae)) (zan 5 nd)
  (zad (zap 6 (zab 4) nd)
  (zad (zcr PassesOwn.never rfl (zaH bn.range' (zaa (ziI rfl bn.min' (zaa (zab 5) (zaa (zar zag (zao 2 zai hr (zaa zag zae) (zaP (zac zaj)))) zae))) zae)) (zan 7 nd)
  (zal (zap 6 (zao 2 zeI hr (zaa (zab 3) (zaa (zab 6) zae)) (zaP (zac (zac zaj)))) nd)))
  (zad (zap 8 (zbu (zaa (zak 6 zag) (zaa (zao 2 zb1 hr (zaa (zak 6 zag) zae) (zaP (zac zaj))) (zaa (zao 2 zb1 hr (zaa (zak 6 zag) zae) (zaP (zac zaj))) zae)))) nd)
  (zad (zap 9 (zas zdX hr (zaa (zab 3) (zaa (zab 8) zae)) (hlen := (zac (zac zaj)))) nd)
  (zad (zbj (STw.st (zjg (zf5 (zcz (se_isI "bool" bn.isinstance' bn.bool' (by decide +kernel) (zab 9)))) (zg3 (zhV hr.units (zab 9) (zas zbC hr (zaa (zab 3) (zaa (zak 6 zag) (zaa (zak 6 zag) (zaa (zak 6 zag) zae)))) (hlen := (zac (zac (zac (zac zaj))))))))))
  (zal (zat ze5))
  zay)
  (zal (zbj (STw.st (zjg (zhV hr.units (zbr bn.tuple' (zaa (zak 8 zag) zae)) (zak 6 zag)) (zg3 (zhV hr.units (SO.se (zcK bn.list' (zaa (zak 8 zag) zae))) (zak 6 zag)))))
  (zal (zat ze5))
  zay)))))))))))))
  (zal (zat ze5)))
end
set_option maxHeartbeats 0 in
theorem all_mk {l:W.OpenLaw}{w:World}{K:W.Frag}{h:Heap}{mg:Str->Option Value}{fa:Addr}(X:K.In h)(G:h.Ns mainGlobals mg)(hfa:mg "law"=some (.ref fa))
  (h1:FnAt K "less_mores" zf0)
  (h2:FnAt K "head_spans" zf4)
  (h3:FnAt K "row_by_heads" zeG)
  (h4:FnAt K "places_asking" zec)
  (h5:FnAt K "heads_paper" zfu)
  (h6:FnAt K "least_heads" zfy)
  (h7:FnAt K "mores_of" zhi)
  (h8:FnAt K "low_asks" zhQ)
  (h9:FnAt K "high_asks" zgM)
  (h10:FnAt K "rest_spans" zfV)
  (h11:FnAt K "row_of" zjN)
  (h12:FnAt K "line_paper" zf3)
  (h13:FnAt K "fitted_line" zfs)
  (h14:FnAt K "line_sums" zg4)
  (h15:FnAt K "row_within" zf9)
  (h16:FnAt K "rises" zlV)
  (h17:FnAt K "stretch_line" zer)
  (h18:FnAt K "stretch_fits" zeY)
  (h19:FnAt K "short_stretches" zcY)
  (h20:FnAt K "part_row" zhN)
  (h21:FnAt K "row_without" zfa)
  (h22:FnAt K "twos_wrong" zdQ)
  (h23:FnAt K "wrong_right" zfq)
  (h24:FnAt K "row_right" zgR)
  (h25:FnAt K "stretches_right" zc3)
  (h26:FnAt K "twos_right" zgj)
  (h27:FnAt K "_law_deal" zgU)
  (h28:FnAt K "_law_take" zgN)
  (h29:FnAt K "_law_either" ze7)
  (h30:FnAt K "_law_sums" zgS)
  (h31:FnAt K "_law_line" zg2)
  (h32:FnAt K "_law_within" zft)
  (h33:FnAt K "_law_inner_row" zdz)
  (h34:FnAt K "_law_twos_line" zdv)
  (h35:FnAt K "_law_can_be" ze9)
  (h36:FnAt K "_law_twos_right" zcW)
  (h37:FnAt K "_law_some_bent" zdD)
  (h38:FnAt K "_law_pairs_bent" zcX)
  (h39:FnAt K "_law_part_moved" zcZ)
  (h40:FnAt K "_law_bent" zgL)
  (h41:FnAt K "law" zjG)
  (z0:W.nsIn K mainGlobals "abs"=some none) (z1:W.nsIn K mainGlobals "all"=some none) (z2:W.nsIn K mainGlobals "bool"=some none) (z3:W.nsIn K mainGlobals "enumerate"=some none) (z4:W.nsIn K mainGlobals "isinstance"=some none) (z5:W.nsIn K mainGlobals "len"=some none) (z6:W.nsIn K mainGlobals "list"=some none) (z7:W.nsIn K mainGlobals "max"=some none) (z8:W.nsIn K mainGlobals "min"=some none) (z9:W.nsIn K mainGlobals "range"=some none) (z10:W.nsIn K mainGlobals "set"=some none) (z11:W.nsIn K mainGlobals "sorted"=some none) (z12:W.nsIn K mainGlobals "sum"=some none) (z13:W.nsIn K mainGlobals "tuple"=some none) (z14:W.nsIn K mainGlobals "zip"=some none) {zcT:Addr} (zf6:W.nsIn K mainGlobals "NotTwos"=some (some (.ref zcT))) {zdI:Addr} (ziu:W.nsIn K mainGlobals "SumError"=some (some (.ref zdI))) (hsp:W.specialIn K (.builtin "object.__class__") "__get__"=some (some (.builtin "getset_descriptor.__get__"))) (htk:W.takesIn K (.builtin "object.__class__")=some true) {nm_NotTwos qn_NotTwos:Str} {N_NotTwos:Addr} {bs_NotTwos sub_NotTwos:List Value} {hd_NotTwos ab_NotTwos:Bool} {sn_NotTwos:List Str} {col_NotTwos:Option Bool} {dd_NotTwos:Option Addr} {j0_NotTwos j1_NotTwos j2_NotTwos j3_NotTwos j5_NotTwos:Option Value} (zgJ:K.lookup zcT=some (excClassObj nm_NotTwos qn_NotTwos zcT N_NotTwos bs_NotTwos (.ref zdI::bmV) hd_NotTwos sn_NotTwos sub_NotTwos ab_NotTwos col_NotTwos dd_NotTwos j0_NotTwos j1_NotTwos j2_NotTwos j3_NotTwos j5_NotTwos "ValueError.__new__")) (zgH:W.nsIn K N_NotTwos "__init__"=some none) {cN_NotTwos:Value} {dN_NotTwos:Option Addr} {es_NotTwos:List DictEntry} {ep_NotTwos:Nat} {sN_NotTwos:Array (Option Value)} (zgC:K.lookup N_NotTwos=some ⟨cN_NotTwos,dN_NotTwos,.dict es_NotTwos.toArray ep_NotTwos,sN_NotTwos⟩) (zgs:(es_NotTwos.all fun e=>match e.key with| .str _ _=>true|_=>false)=true) {nm_SumError qn_SumError:Str} {N_SumError:Addr} {bs_SumError sub_SumError:List Value} {hd_SumError ab_SumError:Bool} {sn_SumError:List Str} {col_SumError:Option Bool} {dd_SumError:Option Addr} {j0_SumError j1_SumError j2_SumError j3_SumError j5_SumError:Option Value} (zfz:K.lookup zdI=some (excClassObj nm_SumError qn_SumError zdI N_SumError bs_SumError bmV hd_SumError sn_SumError sub_SumError ab_SumError col_SumError dd_SumError j0_SumError j1_SumError j2_SumError j3_SumError j5_SumError "ValueError.__new__")) (zfI:W.nsIn K N_SumError "__init__"=some none) {cN_SumError:Value} {dN_SumError:Option Addr} {es_SumError:List DictEntry} {ep_SumError:Nat} {sN_SumError:Array (Option Value)} (zfP:K.lookup N_SumError=some ⟨cN_SumError,dN_SumError,.dict es_SumError.toArray ep_SumError,sN_SumError⟩) (zfF:(es_SumError.all fun e=>match e.key with| .str _ _=>true|_=>false)=true) (zig:W.typeIn K (.ref zcT)=some (.type "type")) (zhk:W.typeIn K (.ref zdI)=some (.type "type")) (zdH:W.mroIn K zcT (.ref zcT)=some true):
  ∃fd:FuncData,(∀(s:Shared) (v:Value),BindsTo s fd ⟨[v],[]⟩ [("script",v)])/\∀base:Heap,K.In base->base.Ns mainGlobals mg->FnOk l.prog w K mg base CX0 8 fa fd ["script"] (spP K 1 zjT):=by
 have bn:BN K mg:=⟨⟨zcT,W.mg_of X G zf6,zf6,ownK_two zgJ zfz zgH zfI (ns_ok zgC zgs) (ns_ok zfP zfF)⟩,W.mg_none_of X G z0,W.mg_none_of X G z1,W.mg_none_of X G z2,W.mg_none_of X G z3,W.mg_none_of X G z4,W.mg_none_of X G z5,W.mg_none_of X G z6,W.mg_none_of X G z7,W.mg_none_of X G z8,W.mg_none_of X G z9,W.mg_none_of X G z10,W.mg_none_of X G z11,W.mg_none_of X G z12,W.mg_none_of X G z13,W.mg_none_of X G z14⟩
 obtain⟨a,b,c,d,e,f,T⟩:=h41.law X G hfa
 refine⟨W.fnOf "law" "law" (zeR zjG) (zbD zjG) (zaB zjG) .none a b c d e f,fun s v=> .of_eq rfl,fun base _ _=>?_⟩
 have zbg:=ziP (P:=l.prog) (w:=w) (base:=base) X G bn h1
 have zbe:=ziJ (P:=l.prog) (w:=w) (base:=base) X G bn h2
 have zcL:=zhO (P:=l.prog) (w:=w) (base:=base) X G bn h3
 have zbq:=zg6 (P:=l.prog) (w:=w) (base:=base) X G bn h4
 have zdf:=zh5 (P:=l.prog) (w:=w) (base:=base) X G bn zbe zbq h5
 have zde:=zhU (P:=l.prog) (w:=w) (base:=base) X G bn h6
 have za1:=zk6 (P:=l.prog) (w:=w) (base:=base) X G bn h7
 have zbU:=zk0 (P:=l.prog) (w:=w) (base:=base) X G bn zbg za1 h8
 have zbx:=zjJ (P:=l.prog) (w:=w) (base:=base) X G bn zbg za1 h9
 have zdK:=ziV (P:=l.prog) (w:=w) (base:=base) X G bn zbe zbx zbU h10
 have zhu:=zna (P:=l.prog) (w:=w) (base:=base) X G bn za1 zcL h11
 have zbf:=ziD (P:=l.prog) (w:=w) (base:=base) X G bn zdf zbx zbU h12
 have zdr:=zh8 (P:=l.prog) (w:=w) (base:=base) X G bn zde zbf zdK zhu h13
 have zey:=zjP (P:=l.prog) (w:=w) (base:=base) X G bn h14
 have zdV:=zjl (P:=l.prog) (w:=w) (base:=base) X G bn h15
 have zjn:=ok_rises (P:=l.prog) (w:=w) (base:=base) X G bn h16
 have zaZ:=zhr (P:=l.prog) (w:=w) (base:=base) X G bn h17
 have zaT:=zhE (P:=l.prog) (w:=w) (base:=base) X G bn zbf zaZ h18
 have zbL:=zfU (P:=l.prog) (w:=w) (base:=base) X G bn zaT h19
 have zfL:=zkQ (P:=l.prog) (w:=w) (base:=base) X G bn zdr zaZ h20
 have zc7:=zhT (P:=l.prog) (w:=w) (base:=base) X G bn zfL h21
 have zd0:=ziW (P:=l.prog) (w:=w) (base:=base) X G bn zc7 zbL h22
 have fdx_twos_wrong:=zh4 (P:=l.prog) (w:=w) (base:=base) X G bn h22
 have zc9:=zh1 (P:=l.prog) (w:=w) (base:=base) X G bn zjn h23
 have zeE:=zjD (P:=l.prog) (w:=w) (base:=base) X G bn zey zdV h24
 have zbH:=zfS (P:=l.prog) (w:=w) (base:=base) X G bn zaT h25
 have zdX:=ziE (P:=l.prog) (w:=w) (base:=base) X G bn zeE zbH zc9 h26
 have zex:=zjC (P:=l.prog) (w:=w) (base:=base) X G bn h27
 have zai:=zjw (P:=l.prog) (w:=w) (base:=base) X G bn h28
 have zb1:=zh7 (P:=l.prog) (w:=w) (base:=base) X G bn zai h29
 have zbw:=zkk (P:=l.prog) (w:=w) (base:=base) X G bn h30
 have zes:=zjF (P:=l.prog) (w:=w) (base:=base) X G bn zbw zai h31
 have zda:=zhX (P:=l.prog) (w:=w) (base:=base) X G bn h32
 have zbS:=zgG (P:=l.prog) (w:=w) (base:=base) X G bn zai h33
 have zbX:=zgE (P:=l.prog) (w:=w) (base:=base) X G bn zes zai h34
 have zdp:=zhS (P:=l.prog) (w:=w) (base:=base) X G bn h35
 have zbC:=zgc (P:=l.prog) (w:=w) (base:=base) X G bn zdp zbw zda h36
 have zbZ:=zgK (P:=l.prog) (w:=w) (base:=base) X G bn zai h37
 have zbK:=zgg (P:=l.prog) (w:=w) (base:=base) X G bn zai h38
 have zbI:=zgb (P:=l.prog) (w:=w) (base:=base) X G bn zai h39
 have zeI:=zjV (P:=l.prog) (w:=w) (base:=base) X G bn zbS zbK zbI zbZ zai h40
 exact ok_law X G bn zeI zex zb1 zai zbX zbC zdX zd0 T
theorem walk {l:W.OpenLaw}{q:Program}{loose:List Str}{XP:(Str->Option Value)->Heap->Prop}{YP:World->Heap->Prop}{d:DefRec}{K:Params->W.Frag}(hn:l.most=some 63)(hdf:d.params.defaults=[])
  (hm:∀ns:List Int,ns.length<=63->zjT [.scr ns]=some (.val (.bl true)))
  (hY:∀(w:World) (h:Heap),YP w h->(K w.params).In h)
  (F : ∀ (w : World) (mg : Str -> Option Value) (fa : Addr) (h : Heap), (K w.params).In h -> h.Ns mainGlobals mg -> mg d.name = some (.ref fa) ->
   ∃fd:FuncData,(∀(s:Shared) (u:Value),BindsTo s fd ⟨[u],[]⟩ [("script",u)])/\∀base:Heap,(K w.params).In base->base.Ns mainGlobals mg->FnOk l.prog w (K w.params) mg base CX0 8 fa fd ["script"] (spP (K w.params) 1 zjT)):
  W.WalkO q loose XP YP l.row.toRowW d [] (fun f vs=>PySem.call f vs):=
 L2.walk_of (n:=63) (k:=8) (x:="script") (CX:=fun _=>CX0) (sp:=fun w=>spP (K w.params) 1 zjT) hn (by decide) hdf ⟨rfl,by decide,by decide,rfl⟩ hY F
  (fun w H a ns hl _ hS=>⟨H,[.scr ns],.val (.bl true),hm ns hl,rfl,Fz.refl H,.cons ⟨a,rfl,hS⟩ .nil,fun _ _ _ _ _ _ _ rr=>rr⟩) fun _ _ _ _ _ z=>z
end Prf
set_option exponentiation.threshold 5000
namespace Prf
open L2 M PySem
variable {n m j e k s a c b c':Nat} {f g lo hi S L G r h A B:Nat->Int} {t:Int} {l:List (Nat×Nat)} {ds xs:List D} {Q:Fl×R->Prop} {J:Prop} {d dp dW dR:D} {ns:List Int} {ps:List (Int×Int)}
abbrev zaI (k m n:Nat)(T L G:Nat->Int):D:= .tup [.int k,.tup (wI m T),.tup (wI n L),.tup (wI n G)]
def win (k:Nat)(r:Nat->Int)(i:Nat):Int:=sumR k fun j=>r (i+j)
theorem rep_w (n:Nat)(x:D):(List.replicate n [x]).flatten=wL n fun _=>x:=by
 induction n with
 |zero=>rfl
 |succ n ih=>rw[List.replicate_succ',List.flatten_append,ih,zhs];rfl
theorem zmD (a b:Nat->Int)(hn:n<=1000):Ok (zbc [.tup (wI n a),.lst (wI n b)]) fun x=>x= .own (wI n fun p=>a p-b p):=by
 simp! only[↓zbc,↓zeZ,↓zeA,ziz]
 refine⟨by lia,zaQ (fun ρ=>∃s s',ρ=[s,s']) (fun p=> .int (a p-b p)) ⟨_,_,rfl⟩ ?_ ?_⟩
 ·rintro i _ hi ⟨s,s',rfl⟩
  simp! only[↓zeK]
  exact⟨_,_,rfl⟩
 ·rintro _ ⟨_,_,rfl⟩
  simp! only[]
structure Span (f g:Nat->Int) (n m:Nat) (lo hi:Nat->Int):Prop where
 lm:∀j,j<m->∃p,p<n/\p%m=j/\f p=lo j
 lg:∀p,p<n->f p<=lo (p%m)
 hm:∀j,j<m->∃p,p<n/\p%m=j/\g p=hi j
 hg:∀p,p<n->hi (p%m)<=g p
def zjh (m:Nat)(lo hi:Nat->Int):List D:=wL m fun j=> .tup [.int (lo j),.int (hi j)]
theorem zkD (f g:Nat->Int){n m:Nat}(hm:0<m)(hn:m<=n):∃lo hi:Nat->Int,Span f g n m lo hi/\∀j,j<m->zjx [.lst (zcR (wI n f) (some (j:Int)) none (some (m:Int)))]=some (.int (lo j))/\zkj [.lst (zcR (wI n g) (some (j:Int)) none (some (m:Int)))]=some (.int (hi j)):=by
 have h1:∀j,∃v,j<m->zjx [.lst (zcR (wI n f) (some (j:Int)) none (some (m:Int)))]=some (.int v)/\(∃p,p<n/\p%m=j/\f p=v)/\∀p,p<n->p%m=j->f p<=v:=fun j=>by
  by_cases hj:j<m
  ·obtain⟨v,h⟩:=max_pick f hm hj hn;exact⟨v,fun _=>h⟩
  ·exact⟨0,fun h=>absurd h hj⟩
 have h2:∀j,∃v,j<m->zkj [.lst (zcR (wI n g) (some (j:Int)) none (some (m:Int)))]=some (.int v)/\(∃p,p<n/\p%m=j/\g p=v)/\∀p,p<n->p%m=j->v<=g p:=fun j=>by
  by_cases hj:j<m
  ·obtain⟨v,h⟩:=min_pick g hm hj hn;exact⟨v,fun _=>h⟩
  ·exact⟨0,fun h=>absurd h hj⟩
 refine⟨fun j=>(h1 j).choose,fun j=>(h2 j).choose,⟨fun j hj=>((h1 j).choose_spec hj).2.1,fun p hp=>((h1 (p%m)).choose_spec (Nat.mod_lt _ hm)).2.2 p hp rfl,fun j hj=>((h2 j).choose_spec hj).2.1,fun p hp=>((h2 (p%m)).choose_spec (Nat.mod_lt _ hm)).2.2 p hp rfl⟩,fun j hj=>⟨((h1 j).choose_spec hj).1,((h2 j).choose_spec hj).1⟩⟩
theorem zjH {lo hi lo' hi':Nat->Int}(s:Span f g n m lo hi)(t:Span f g n m lo' hi')(hj:j<m):lo j=lo' j/\hi j=hi' j:=by
 obtain⟨p,h1,h2,h3⟩:=s.lm j hj
 obtain⟨p',h1',h2',h3'⟩:=t.lm j hj
 obtain⟨q,k1,k2,k3⟩:=s.hm j hj
 obtain⟨q',k1',k2',k3'⟩:=t.hm j hj
 have a1:=s.lg p' h1'
 have a2:=t.lg p h1
 have a3:=s.hg q' k1'
 have a4:=t.hg q k1
 rw[h2']at a1;rw[h2]at a2;rw[k2']at a3;rw[k2]at a4
 lia
theorem zln (hm:0<m)(hn:m<=n)(h24:n<=1000)(sp:Span f g n m lo hi):Ok (za9 [.lst (wI n f),.lst (wI n g),.int m]) fun x=>x= .own (zjh m lo hi):=by
 obtain⟨lo',hi',sp',e⟩:=zkD f g hm hn
 have el:zjh m lo' hi'=zjh m lo hi:=zgm fun j hj=>by rw[(zjH sp' sp hj).1,(zjH sp' sp hj).2]
 rw[<-el]
 simp! only[↓za9,↓zeM,↓zeJ]
 refine⟨zaF (by lia) (by lia),by lia,zaQ (fun ρ=>∃s,ρ=[.val (.lst (wI n f)),.val (.int m),.val (.lst (wI n g)),s]) (fun j=> .tup [.int (lo' j),.int (hi' j)]) ⟨_,rfl⟩ ?_ ?_⟩
 ·rintro j _ hj ⟨s,rfl⟩
  have hk0:¬(some (m:Int)=some 0):=by intro h;have:=Option.some.inj h;lia
  obtain⟨e1,e2⟩:=e j hj
  unfold zjx at e1
  unfold zkj at e2
  simp! only[↓zeB,zm3,hk0,e1,e2]
  exact⟨_,rfl⟩
 ·rintro _ ⟨s,rfl⟩
  simp! only[]
  rfl
theorem zjW (hm:0<m)(hmn:m<=n)(h24:n<=1000){e:Nat->Int}(he:∀j,j<m->∃p,p<n/\p%m=j/\f p=e j):
  Ok (zaY [.lst (wI n f),.lst (wI m e)]) fun x=>∃pl:Nat->Nat,(∀j,j<m->pl j<n/\pl j%m=j/\f (pl j)=e j)/\x= .val (.tup (wI m fun j=>(pl j:Nat))):=by
 have h1:∀j,∃i:Nat,j<m->zkl (.lst (zcR (wI n f) (some (j:Int)) none (some (m:Int)))) (.int (e j))=some (.int i)/\j+i*m<n/\f (j+i*m)=e j:=fun j=>by
  by_cases hj:j<m
  ·obtain⟨i,h⟩:=zms f hm hj (he j hj);exact⟨i,fun _=>h⟩
  ·exact⟨0,fun h=>absurd h hj⟩
 have hk0:¬(some (m:Int)=some 0):=by intro h;have:=Option.some.inj h;lia
 simp! only[↓zaY,↓zcC,↓zc2]
 refine⟨zaF (by lia) (by lia),by lia,zaQ (fun ρ=>∃s,ρ=[.val (.int m),.val (.lst (wI n f)),.val (.lst (wI m e)),s]) (fun j=> .int ((j+(h1 j).choose*m:Nat):Int)) ⟨_,rfl⟩ ?_ ?_⟩
 ·rintro j _ hj ⟨s,rfl⟩
  obtain⟨e1,-,-⟩:=(h1 j).choose_spec hj
  generalize (h1 j).choose=i at*
  have ee:(j:Int)+(m:Int)*(i:Int)=((j+i*m:Nat):Int):=by push_cast;rw[Int.mul_comm]
  simp! only[↓zc1,zm3,hk0,e1,zaC _ hj,ee]
  exact⟨zdN (by lia),_,rfl⟩
 ·rintro _ ⟨s,rfl⟩
  simp! only[]
  exact⟨_,fun j hj=>⟨((h1 j).choose_spec hj).2.1,by rw[Nat.add_mul_mod_self_right,Nat.mod_eq_of_lt hj],((h1 j).choose_spec hj).2.2⟩,rfl⟩
structure Room' (m:Nat) (lo hi:Nat->Int) (t:Int):Prop where
 le:∀j,j<m->lo j<=hi j
 low:sumR m lo<=t
 high:t<=sumR m hi
def Paper (f g:Nat->Int)(n m:Nat)(t:Int)(d:D):Prop:=
 (∃a b:Nat,a<n/\b<n/\a%m=b%m/\f a>g b/\d= .tup [.str "clash",.int a,.int b])\/
 (∃pl:Nat->Nat,(∀j,j<m->pl j<n/\pl j%m=j)/\sumR m (fun j=>f (pl j))>t/\d= .tup [.str "low",.tup (wI m fun j=>(pl j:Nat))])\/
 (∃pl:Nat->Nat,(∀j,j<m->pl j<n/\pl j%m=j)/\sumR m (fun j=>g (pl j))<t/\d= .tup [.str "high",.tup (wI m fun j=>(pl j:Nat))])
theorem zlY (hm:0<m)(hn:m<=n)(h24:n<=1000)(t:Int)(sp:Span f g n m lo hi):
  Ok (zbF [.lst (wI n f),.lst (wI n g),.int m,.int t]) fun x=>(Room' m lo hi t/\x= .val .non)\/(¬Room' m lo hi t/\∃d,Paper f g n m t d/\x= .val d):=by
 simp! only[↓zbF,↓zdL]
 refine(zln hm hn h24 sp).mono ?_
 rintro _ rfl
 simp! only[↓zd2,zjh]
 refine⟨by lia,zaQ (fun ρ=>∃s s',ρ=[s,s']) (fun j=> .int (lo j)) ⟨_,_,rfl⟩ ?_ ?_⟩
 ·rintro j _ hj ⟨s,s',rfl⟩
  simp! only[↓zed]
  exact⟨_,_,rfl⟩
 rintro _ ⟨_,_,rfl⟩
 simp! only[↓zej]
 refine⟨by lia,zaQ (fun ρ=>∃s s',ρ=[s,s']) (fun j=> .int (hi j)) ⟨_,_,rfl⟩ ?_ ?_⟩
 ·rintro j _ hj ⟨s,s',rfl⟩
  simp! only[↓zd4]
  exact⟨_,_,rfl⟩
 rintro _ ⟨_,_,rfl⟩
 simp! only[]
 refine(zjW hm hn h24 sp.lm).mono ?_
 rintro _ ⟨pl,hpl,rfl⟩
 simp! only[]
 refine(zjW hm hn h24 sp.hm).mono ?_
 rintro _ ⟨ph,hph,rfl⟩
 simp! only[↓zd6]
 refine⟨zaF (by lia) (by lia),zbJ (fun i ρ=>(∀j,j<i->lo j<=hi j)/\∃s,ρ=[.val (.lst (wI n f)),.val (.lst (wI n g)),.val (.int m),.val (.int t),.val (.lst (zjh m lo hi)),.val (.lst (wI m lo)),.val (.lst (wI m hi)),.val (.tup (wI m fun j=>(pl j:Nat))),.val (.tup (wI m fun j=>(ph j:Nat))),s]) ⟨fun _ h=>by lia,_,rfl⟩ ?_ ?_⟩
 ·rintro j _ hj ⟨hb,s,rfl⟩
  simp! only[↓zee,zaC _ hj]
  refine⟨fun h=> .inr ⟨fun r=>by have:=r.le j hj;lia,_,.inl ⟨pl j,ph j,(hpl j hj).1,(hph j hj).1,by rw[(hpl j hj).2.1,(hph j hj).2.1],by rw[(hpl j hj).2.2,(hph j hj).2.2];exact h,rfl⟩,rfl⟩,fun h=>⟨fun j' hj'=>?_,_,rfl⟩⟩
  by_cases e:j'=j
  ·subst e;lia
  ·exact hb j' (by lia)
 rintro _ ⟨hb,s,rfl⟩
 have el:sumR m (fun j=>f (pl j))=sumR m lo:=zbY fun j hj=>(hpl j hj).2.2
 have eh:sumR m (fun j=>g (ph j))=sumR m hi:=zbY fun j hj=>(hph j hj).2.2
 simp! only[zd1,zdB]
 refine⟨fun h=> .inr ⟨fun r=>by have:=r.low;lia,_,.inr (.inl ⟨pl,fun j hj=>⟨(hpl j hj).1,(hpl j hj).2.1⟩,by lia,rfl⟩),rfl⟩,fun h1=>?_⟩
 simp! only[↓zeo,zd1,zdB]
 refine⟨fun h=> .inr ⟨fun r=>by have:=r.high;lia,_,.inr (.inr ⟨ph,fun j hj=>⟨(hph j hj).1,(hph j hj).2.1⟩,by lia,rfl⟩),rfl⟩,fun h2=>?_⟩
 simp! only[↓zep]
 exact .inl ⟨hb,by lia,by lia⟩
def left (lo hi:Nat->Int)(m:Nat)(t:Int):Nat->Int
 |0=>t
 |j+1=>left lo hi m t j-max2 (lo j) (left lo hi m t j-(sumR m hi-sumR (j+1) hi))
def hd (lo hi:Nat->Int)(m:Nat)(t:Int)(j:Nat):Int:=max2 (lo j) (left lo hi m t j-(sumR m hi-sumR (j+1) hi))
theorem zhZ (lo hi:Nat->Int)(t:Int)(hm:m<=1000):Ok (zbM [.lst (zjh m lo hi),.int t]) fun x=>x= .own (wI m (hd lo hi m t)):=by
 simp! only[↓zbM,↓zdW,↓zeg,zjh]
 refine⟨by lia,zaQ (fun ρ=>∃s s',ρ=[s,s']) (fun j=> .int (hi j)) ⟨_,_,rfl⟩ ?_ ?_⟩
 ·rintro j _ hj ⟨s,s',rfl⟩
  simp! only[↓zd5]
  exact⟨_,_,rfl⟩
 rintro _ ⟨_,_,rfl⟩
 simp! only[zd1,zdB,↓zei]
 refine zbJ (fun i ρ=>∃s5 s6 s7,ρ=[.val (.lst (zjh m lo hi)),.val (.int t),.own (wI i (hd lo hi m t)),.val (.int (left lo hi m t i)),.val (.int (sumR m hi-sumR i hi)),s5,s6,s7]) ⟨_,_,_,by rw[show sumR 0 hi=0 from rfl,Int.sub_zero];rfl⟩ ?_ ?_
 ·rintro j _ hj ⟨s5,s6,s7,rfl⟩
  simp! only[↓zef]
  have e:sumR m hi-sumR j hi-hi j=sumR m hi-sumR (j+1) hi:=by simp only[sumR];lia
  rw[e]
  exact⟨by lia,_,_,_,by rw[show wI (j+1) (hd lo hi m t)=_ from zhs _ _];rfl⟩
 ·rintro _ ⟨s5,s6,s7,rfl⟩
  simp! only[]
theorem zi5 (lo hi:Nat->Int)(m:Nat)(t:Int):∀j,left lo hi m t j=t-sumR j (hd lo hi m t)
 |0=>by simp[left,sumR]
 |j+1=>by rw[sumR,left,zi5 lo hi m t j,hd,zi5 lo hi m t j];lia
theorem zk2 (a b:Int):(max2 a b=a\/max2 a b=b)/\a<=max2 a b/\b<=max2 a b:=by unfold max2;split<;>lia
theorem zkZ (r:Room' m lo hi t):∀j,j<=m->sumR m lo-sumR j lo<=left lo hi m t j/\left lo hi m t j<=sumR m hi-sumR j hi
 |0,_=>by have:=r.low;have:=r.high;simp[left,sumR];lia
 |j+1,h=>by
  have ih:=zkZ r j (by lia)
  have hj:=r.le j (by lia)
  obtain⟨c,c1,c2⟩:=zk2 (lo j) (left lo hi m t j-(sumR m hi-sumR (j+1) hi))
  have e:left lo hi m t (j+1)=left lo hi m t j-max2 (lo j) (left lo hi m t j-(sumR m hi-sumR (j+1) hi)):=rfl
  rw[e]
  have key:sumR m lo-sumR (j+1) lo<=sumR m hi-sumR (j+1) hi:=by
   obtain⟨b,rfl⟩:∃b,m=j+1+b:=⟨m-(j+1),by lia⟩
   rw[zcB lo (j+1) b,zcB hi (j+1) b]
   have:=zho (f:=fun i=>lo (j+1+i)) (g:=fun i=>hi (j+1+i)) (n:=b) fun i hi'=>r.le _ (by lia)
   lia
  simp only[sumR]at*
  rcases c with c|c<;>rw[c]at c1 c2 ⊢ <;>lia
theorem hd_in (r:Room' m lo hi t)(hj:j<m):lo j<=hd lo hi m t j/\hd lo hi m t j<=hi j:=by
 have h:=zkZ r j (by lia)
 have hjj:=r.le j hj
 obtain⟨c,c1,c2⟩:=zk2 (lo j) (left lo hi m t j-(sumR m hi-sumR (j+1) hi))
 unfold hd
 simp only[sumR]at*
 rcases c with c|c<;>rw[c]at c1 c2 ⊢ <;>lia
theorem hd_sum (r:Room' m lo hi t):sumR m (hd lo hi m t)=t:=by
 have h:=zkZ r m (Nat.le_refl _)
 have e:=zi5 lo hi m t m
 lia
theorem hd_least {lo hi h':Nat->Int}(hh:∀j,j<m->lo j<=h' j/\h' j<=hi j)(hs:sumR m h'=t)(hj:j<m)(he:∀i,i<j->hd lo hi m t i=h' i):hd lo hi m t j<=h' j:=by
 have e:=zi5 lo hi m t j
 have e1:sumR j (hd lo hi m t)=sumR j h':=zbY he
 obtain⟨b,rfl⟩:∃b,m=j+1+b:=⟨m-(j+1),by lia⟩
 have e2:=zcB h' (j+1) b
 have e3:=zcB hi (j+1) b
 have e4:=zho (f:=fun i=>h' (j+1+i)) (g:=fun i=>hi (j+1+i)) (n:=b) fun i hi'=>(hh _ (by lia)).2
 have h1:=(hh j hj).1
 unfold hd
 obtain⟨c,c1,c2⟩:=zk2 (lo j) (left lo hi (j+1+b) t j-(sumR (j+1+b) hi-sumR (j+1) hi))
 simp only[sumR]at*
 rcases c with c|c<;>rw[c]<;>lia
theorem zkU (hm:0<m)(h24:n<=1000)(h mo:Nat->Int):Ok (zbo [.lst (wI m h),.lst (wI n mo)]) fun x=>x= .val (.tup (wI n fun p=>h (p%m)+mo p)):=by
 simp! only[↓zbo,↓zdd,↓zdy,znp]
 refine⟨by lia,zaQ (fun ρ=>∃s s',ρ=[.val (.lst (wI m h)),.val (.int m),s,s']) (fun p=> .int (h (p%m)+mo p)) ⟨_,_,rfl⟩ ?_ ?_⟩
 ·rintro p _ hp ⟨s,s',rfl⟩
  have e:(p:Int)%(m:Int)=((p%m:Nat):Int):=by push_cast;rfl
  simp! only[↓zdC,e,zaC _ (Nat.mod_lt p hm)]
  exact⟨by lia,_,_,rfl⟩
 ·rintro _ ⟨_,_,rfl⟩
  simp! only[]
structure Dim (k s n:Nat):Prop where
 k2:2<=k
 k5:k<=5
 kn:k<=n
 n24:n<=24
 s:n+1=s+k
def mo (k:Nat)(S:Nat->Int)(p:Nat):Int:=sumR (p/k) fun i=>S (p%k+i*k+1)-S (p%k+i*k)
theorem zit {k p:Nat}(S:Nat->Int)(h:p<k):mo k S p=0:=by unfold mo;rw[Nat.div_eq_of_lt h];rfl
theorem zkC (hk:0<k)(S:Nat->Int)(p:Nat):mo k S (p+k)=mo k S p+S (p+1)-S p:=by
 unfold mo
 rw[Nat.add_div_right _ hk,Nat.add_mod_right,sumR]
 have e:p%k+p/k*k=p:=by have:=Nat.mod_add_div p k;rw[Nat.mul_comm];lia
 rw[e];lia
theorem zi9 (d:Dim k s n)(S L G:Nat->Int):Ok (zbi [zaI k s n S L G]) fun x=>x= .own (wI n (mo k S)):=by
 obtain⟨k2,k5,kn,n24,hs⟩:=d
 simp! only[↓zbi,↓zgv,↓zgk,zaI,rep_w]
 rw[show((s:Int)-1).toNat=s-1 by lia]
 refine⟨⟨zaF (by lia) (by lia),by lia⟩,zaF (by lia) (by lia),zbJ (fun i ρ=>∃s3,ρ=[.val (zaI k s n S L G),.val (.tup (wI s S)),.own (wI (k+i) (mo k S)),s3]) ⟨.emp,?_⟩ ?_ ?_⟩
 ·rw[Nat.add_zero,show wI k (mo k S)=wL k (fun _=> .int 0)from zgm fun p hp=>by rw[zit S hp]]
 ·rintro i _ hi ⟨s3,rfl⟩
  simp! only[↓zfT,zaC _ (show i<k+i by lia),zaC _ (show i+1<s by lia),zaC _ (show i<s by lia)]
  exact⟨by lia,_,by rw[show k+(i+1)=k+i+1 by lia,show wI (k+i+1) (mo k S)=_ from zhs _ _,show mo k S (k+i)=mo k S i+S (i+1)-S i by rw[Nat.add_comm k i];exact zkC (by lia) S i]⟩
 ·rintro _ ⟨s3,rfl⟩
  rw[show k+(s-1)=n by lia]
  simp! only[]
abbrev ask (k:Nat)(S B:Nat->Int)(p:Nat):Int:=B p-mo k S p
theorem zmW (d:Dim k s n)(S L G:Nat->Int):Ok (zbN [zaI k s n S L G]) fun x=>x= .own (wI n (ask k S L)):=by
 have n24:=d.n24
 simp! only[↓zbN,↓zgz,zaI]
 refine(zi9 d S L G).mono ?_
 rintro _ rfl
 simp! only[]
 refine(zmD L (mo k S) (by lia)).mono ?_
 rintro _ rfl
 simp! only[]
theorem zkF (d:Dim k s n)(S L G:Nat->Int):Ok (zbs [zaI k s n S L G]) fun x=>x= .own (wI n (ask k S G)):=by
 have n24:=d.n24
 simp! only[↓zbs,↓zfB,zaI]
 refine(zi9 d S L G).mono ?_
 rintro _ rfl
 simp! only[]
 refine(zmD G (mo k S) (by lia)).mono ?_
 rintro _ rfl
 simp! only[]
abbrev LSpan (k n:Nat)(S L G lo hi:Nat->Int):Prop:=Span (ask k S L) (ask k S G) n k lo hi
theorem zi8 (d:Dim k s n)(sp:LSpan k n S L G lo hi):Ok (zb4 [zaI k s n S L G]) fun x=>x= .own (zjh k lo hi):=by
 have n24:=d.n24
 have k2:=d.k2
 simp! only[↓zb4,↓zev]
 refine(zmW d S L G).mono ?_
 rintro _ rfl
 simp! only[]
 refine(zkF d S L G).mono ?_
 rintro _ rfl
 simp! only[zaI]
 refine(zln (by lia) d.kn (by lia) sp).mono ?_
 rintro _ rfl
 simp! only[]
theorem znc (d:Dim k s n)(S L G h:Nat->Int):Ok (zf8 [zaI k s n S L G,.lst (wI k h)]) fun x=>x= .val (.tup (wI n fun p=>h (p%k)+mo k S p)):=by
 have n24:=d.n24
 have k2:=d.k2
 simp! only[↓zf8,↓ziT]
 refine(zi9 d S L G).mono ?_
 rintro _ rfl
 simp! only[]
 refine(zkU (by lia) (by lia) h (mo k S)).mono ?_
 rintro _ rfl
 simp! only[]
structure Fits (k s n:Nat) (S L G r:Nat->Int):Prop where
 low:∀p,p<n->L p<=r p
 high:∀p,p<n->r p<=G p
 sum:∀i,i<s->win k r i=S i
theorem zlS (k:Nat)(r:Nat->Int)(i:Nat):win k r (i+1)=win k r i+r (i+k)-r i:=by
 unfold win
 have h1:sumR (k+1) (fun j=>r (i+j))=sumR k (fun j=>r (i+j))+r (i+k):=rfl
 have h2:sumR (k+1) (fun j=>r (i+j))=r i+sumR k (fun j=>r (i+1+j)):=by
  rw[show k+1=1+k by lia,zcB]
  simp only[sumR,Nat.add_zero,Int.zero_add]
  congr 1
  exact zbY fun j _=>by rw[Nat.add_assoc]
 lia
theorem zhv (d:Dim k s n)(f:Fits k s n S L G r):∀p,p<n->r p=r (p%k)+mo k S p:=by
 intro p
 induction p using Nat.strongRecOn with
 |_ p ih=>
  intro hp
  by_cases h:p<k
  ·rw[zit S h,Nat.mod_eq_of_lt h];lia
  ·obtain⟨q,rfl⟩:∃q,p=q+k:=⟨p-k,by lia⟩
   have h1:=ih q (by have:=d.k2;lia) (by lia)
   have h2:=f.sum q (by have:=d.s;lia)
   have h3:=f.sum (q+1) (by have:=d.s;lia)
   rw[zlS]at h3
   rw[zkC (by have:=d.k2;lia),Nat.add_mod_right]
   lia
theorem zoe (hk:0<k)(hs:n+1=s+k)(S h:Nat->Int)(h0:sumR k h=S 0):∀i,i<s->win k (fun p=>h (p%k)+mo k S p) i=S i
 |0,_=>by
  unfold win
  rw[<-h0]
  exact zbY fun j hj=>by dsimp only;rw[Nat.zero_add,Nat.mod_eq_of_lt hj,zit S hj];lia
 |i+1,hi=>by
  have ih:=zoe hk hs S h h0 i (by lia)
  rw[zlS,ih,zkC hk,Nat.add_mod_right]
  lia
theorem zlg (d:Dim k s n)(sp:LSpan k n S L G lo hi)(f:Fits k s n S L G r):(∀j,j<k->lo j<=r j/\r j<=hi j)/\sumR k r=S 0:=by
 have k2:=d.k2
 have kn:=d.kn
 have hs:=d.s
 refine⟨fun j hj=>?_,?_⟩
 ·obtain⟨p,h1,h2,h3⟩:=sp.lm j hj
  obtain⟨q,g1,g2,g3⟩:=sp.hm j hj
  have e1:=zhv d f p h1
  have e2:=zhv d f q g1
  have b1:=f.low p h1
  have b2:=f.high q g1
  rw[h2]at e1;rw[g2]at e2
  unfold ask at h3 g3
  lia
 ·have:=f.sum 0 (by lia)
  rw[<-this]
  exact zbY fun j _=>by rw[Nat.zero_add]
theorem zmP (d:Dim k s n)(sp:LSpan k n S L G lo hi)(hh:∀j,j<k->lo j<=h j/\h j<=hi j)(h0:sumR k h=S 0):Fits k s n S L G fun p=>h (p%k)+mo k S p:=by
 have k2:=d.k2
 refine⟨fun p hp=>?_,fun p hp=>?_,zoe (by lia) d.s S h h0⟩
 ·have h1:=sp.lg p hp
  have h2:=(hh (p%k) (Nat.mod_lt _ (by lia))).1
  unfold ask at h1;lia
 ·have h1:=sp.hg p hp
  have h2:=(hh (p%k) (Nat.mod_lt _ (by lia))).2
  unfold ask at h1;lia
theorem zjo (d:Dim k s n)(sp:LSpan k n S L G lo hi):Room' k lo hi (S 0)↔∃r,Fits k s n S L G r:=by
 constructor
 ·intro rm
  exact⟨_,zmP d sp (fun j hj=>hd_in rm hj) (hd_sum rm)⟩
 ·rintro⟨r,f⟩
  obtain⟨h1,h2⟩:=zlg d sp f
  refine⟨fun j hj=>Int.le_trans (h1 j hj).1 (h1 j hj).2,?_,?_⟩
  ·rw[<-h2];exact zho fun j hj=>(h1 j hj).1
  ·rw[<-h2];exact zho fun j hj=>(h1 j hj).2
def LeR (n:Nat)(a b:Nat->Int):Prop:=∀q,q<n->(∀p,p<q->a p=b p)->a q<=b q
def LPaper (k n:Nat)(S L G:Nat->Int)(d:D):Prop:=Paper (ask k S L) (ask k S G) n k (S 0) d
theorem zmV (d:Dim k s n)(S L G:Nat->Int):Ok (zbB [zaI k s n S L G]) fun x=>
  (∃r,Fits k s n S L G r/\(∀r',Fits k s n S L G r'->LeR n r r')/\x= .val (.tup [.str "row",.tup (wI n r)]))\/
  ((∀r,¬Fits k s n S L G r)/\∃pd,LPaper k n S L G pd/\x= .val pd):=by
 have k2:=d.k2
 have kn:=d.kn
 have n24:=d.n24
 have hs:=d.s
 obtain⟨lo,hi,sp,-⟩:=zkD (ask k S L) (ask k S G) (show 0<k by lia) kn
 have lp:Ok (zaM [zaI k s n S L G]) fun x=>(Room' k lo hi (S 0)/\x= .val .non)\/(¬Room' k lo hi (S 0)/\∃pd,LPaper k n S L G pd/\x= .val pd):=by
  simp! only[↓zaM,↓zc0]
  refine(zmW d S L G).mono ?_
  rintro _ rfl
  simp! only[]
  refine(zkF d S L G).mono ?_
  rintro _ rfl
  simp! only[zaI,zaC _ (show 0<s by lia)]
  refine(zlY (by lia) kn (by lia) (S 0) sp).mono ?_
  rintro _ (⟨h,rfl⟩|⟨h,pd,hp,rfl⟩)
  ·simp! only[];exact .inl h
  ·simp! only[];exact .inr ⟨h,pd,hp,rfl⟩
 simp! only[↓zbB,↓zdJ]
 refine lp.mono ?_
 rintro _ (⟨rm,rfl⟩|⟨rm,pd,hp,rfl⟩)
 ·simp! only[↓zd7]
  refine(zi8 d sp).mono ?_
  rintro _ rfl
  simp! only[zaI,zaC _ (show 0<s by lia)]
  refine(zhZ lo hi (S 0) (by lia)).mono ?_
  rintro _ rfl
  simp! only[]
  refine(znc d S L G (hd lo hi k (S 0))).mono ?_
  rintro _ rfl
  simp! only[]
  refine .inl ⟨_,zmP d sp (fun j hj=>hd_in rm hj) (hd_sum rm),fun r' f' q hq he=>?_,rfl⟩
  obtain⟨h1,h2⟩:=zlg d sp f'
  by_cases hqk:q<k
  ·have:=hd_least h1 h2 hqk fun i hi=>by
    have:=he i hi
    dsimp only at this
    rw[Nat.mod_eq_of_lt (by lia),zit S (by lia)]at this
    lia
   dsimp only
   rw[Nat.mod_eq_of_lt hqk,zit S hqk]
   lia
  ·have e:=zhv d f' q hq
   have:=he (q%k) (Nat.lt_of_lt_of_le (Nat.mod_lt _ (by lia)) (by lia))
   dsimp only at this ⊢
   rw[Nat.mod_mod,zit S (Nat.mod_lt _ (by lia))]at this
   lia
 ·have hpn:isN pd=false:=by
   rcases hp with⟨_,_,_,_,_,_,rfl⟩|⟨_,_,_,rfl⟩|⟨_,_,_,rfl⟩<;>rfl
  simp! only[hpn]
  exact .inr ⟨fun r f=>rm ((zjo d sp).mpr ⟨r,f⟩),pd,hp,rfl⟩
abbrev sh (a:Nat)(f:Nat->Int)(i:Nat):Int:=f (a+i)
theorem cutAB {n a c:Nat}(f:Nat->Int)(h:a+c<=n)(b:Int)(hb:b=((a+c:Nat):Int)):cutD (wI n f) (some (a:Int)) (some b)=wI c (sh a f):=by
 subst hb
 have:=cut_w (n:=n) (a:=a) (b:=c) (fun i=> .int (f i)) h
 rw[show((a:Int)+(c:Int))=((a+c:Nat):Int) by lia]at this
 exact this
section
variable {m n:Nat} {T L G:Nat->Int}
def Fit (T L G:Nat->Int)(a c:Nat):Prop:=∃r,Fits 2 (c+1) (c+2) (sh a T) (sh a L) (sh a G) r
theorem dim2 (h:c<=22):Dim 2 (c+1) (c+2):=⟨by lia,by lia,by lia,by lia,by lia⟩
theorem zid (hn:n=m+1){a c:Nat}(h:a+c<m)(b:Int)(hb:b=((a+c:Nat):Int)):Ok (zaO [zaI 2 m n T L G,.int a,.int b]) fun x=>x= .val (zaI 2 (c+1) (c+2) (sh a T) (sh a L) (sh a G)):=by
 have e1:=cutAB (n:=m) (a:=a) (c:=c+1) T (by lia) (b+1) (by lia)
 have e2:=cutAB (n:=n) (a:=a) (c:=c+2) L (by lia) (b+2) (by lia)
 have e3:=cutAB (n:=n) (a:=a) (c:=c+2) G (by lia) (b+2) (by lia)
 simp! only[↓zaO,↓zdi,e1,e2,e3]
 rfl
theorem zmQ (d:Dim k s n)(S L G:Nat->Int):Ok (zaM [zaI k s n S L G]) fun x=>((∃r,Fits k s n S L G r)/\x= .val .non)\/((¬ ∃r,Fits k s n S L G r)/\∃l,x= .val (.tup l)):=by
 have k2:=d.k2
 have kn:=d.kn
 have n24:=d.n24
 have hs:=d.s
 obtain⟨lo,hi,sp,-⟩:=zkD (ask k S L) (ask k S G) (show 0<k by lia) kn
 simp! only[↓zaM,↓zc0]
 refine(zmW d S L G).mono ?_
 rintro _ rfl
 simp! only[]
 refine(zkF d S L G).mono ?_
 rintro _ rfl
 simp! only[zaI,zaC _ (show 0<s by lia)]
 refine(zlY (by lia) kn (by lia) (S 0) sp).mono ?_
 rintro _ (⟨h,rfl⟩|⟨h,pd,hp,rfl⟩)
 ·simp! only[];exact .inl ((zjo d sp).mp h)
 ·simp! only[]
  refine .inr ⟨fun z=>h ((zjo d sp).mpr z),?_⟩
  rcases hp with⟨a,b,_,_,_,_,rfl⟩|⟨pl,_,_,rfl⟩|⟨pl,_,_,rfl⟩<;>exact⟨_,rfl⟩
theorem znT (hn:n=m+1)(m9:m<=23){a c:Nat}(h:a+c<m)(b:Int)(hb:b=((a+c:Nat):Int)):Ok (zaL [zaI 2 m n T L G,.int a,.int b]) fun x=>∃z,x= .val (.bl z)/\(z=true↔Fit T L G a c):=by
 simp! only[↓zaL,↓zdb]
 refine(zid hn h b hb).mono ?_
 rintro _ rfl
 simp! only[]
 refine(zmQ (dim2 (c:=c) (by lia)) (sh a T) (sh a L) (sh a G)).mono ?_
 rintro _ (⟨f,rfl⟩|⟨f,l,rfl⟩)
 ·simp! only[]
  exact⟨true,rfl,⟨fun _=>f,fun _=>rfl⟩⟩
 ·simp! only[]
  exact⟨false,rfl,⟨fun z=>(by cases z),fun z=>absurd z f⟩⟩
def cw (T r:Nat->Int)(x:Nat):Int:=sumR x fun i=>if r i+r (i+1)=T i then 0 else 1
theorem zgA (T r:Nat->Int)(x:Nat):cw T r (x+1)=cw T r x+if r x+r (x+1)=T x then 0 else 1:=rfl
theorem zk4 {T r:Nat->Int}(x:Nat):∀c,cw T r x<=cw T r (x+c)
 |0=>Int.le_refl _
 |c+1=>by
  have:=zk4 (T:=T) (r:=r) x c
  rw[show x+(c+1)=x+c+1 by lia,zgA]
  split<;>lia
theorem zly {T r r':Nat->Int}:∀x,(∀p,p<=x->r p=r' p)->cw T r x=cw T r' x
 |0,_=>rfl
 |x+1,h=>by
  rw[zgA,zgA,zly x fun p hp=>h p (by lia),h x (by lia),h (x+1) (by lia)]
theorem zm1 {r:Nat->Int}(bx:∀p,p<n->L p<=r p/\r p<=G p)(h:a+c+1<n)(e:cw T r (a+(c+1))<=cw T r a):Fit T L G a c:=by
 have key:∀i,i<=c+1->cw T r (a+i)=cw T r a/\∀j,j<i->r (a+j)+r (a+j+1)=T (a+j):=fun i=>by
  induction i with
  |zero=>exact fun _=>⟨rfl,fun j hj=>by lia⟩
  |succ i ih=>
   intro hi
   obtain⟨h1,h2⟩:=ih (by lia)
   have h3:=zk4 (T:=T) (r:=r) (a+(i+1)) (c+1-(i+1))
   rw[show a+(i+1)+(c+1-(i+1))=a+(c+1) by lia]at h3
   have h4:=zgA T r (a+i)
   have h5:r (a+i)+r (a+i+1)=T (a+i):=by
    by_cases z:r (a+i)+r (a+i+1)=T (a+i)
    ·exact z
    ·rw[if_neg z]at h4
     rw[show a+(i+1)=a+i+1 by lia]at h3
     lia
   rw[if_pos h5]at h4
   refine⟨by rw[show a+(i+1)=a+i+1 by lia];lia,fun j hj=>?_⟩
   by_cases z:j=i
   ·rw[z];exact h5
   ·exact h2 j (by lia)
 have k2:=(key (c+1) (Nat.le_refl _)).2
 refine⟨fun p=>r (a+p),fun p hp=>(bx (a+p) (by lia)).1,fun p hp=>(bx (a+p) (by lia)).2,fun i hi=>?_⟩
 show(0+r (a+(i+0)))+r (a+(i+1))=T (a+i)
 have:=k2 i (by lia)
 rw[show a+(i+1)=a+i+1 by lia,Nat.add_zero]
 lia
structure Gd (m n:Nat) (T L G:Nat->Int) (b a:Nat) (c:Nat):Prop where
 ab:a<=b
 low:∀r,(∀p,p<n->L p<=r p/\r p<=G p)->(c:Int)<=cw T r a
 up:(a=0/\c=0)\/(1<=a/\1<=c/\∃r,(∀p,p<a->L p<=r p/\r p<=G p)/\cw T r (a-1)+1<=c)
 fit:∀e,a+e<b->Fit T L G a e
theorem Gd.start:Gd m n T L G 0 0 0:=⟨Nat.le_refl _,fun r _=>Int.le_refl _,.inl ⟨rfl,rfl⟩,fun e h=>by lia⟩
theorem Gd.stay (g:Gd m n T L G b a c)(he:a+e=b)(f:Fit T L G a e):Gd m n T L G (b+1) a c:=
  ⟨by have:=g.ab;lia,g.low,g.up,fun e' h=>by
    by_cases z:e'=e
    . rw[z];exact f
    . exact g.fit e' (by lia)⟩
theorem Gd.row (le:∀p,p<n->L p<=G p)(g:Gd m n T L G b a c)(hb:b<n):∃r,(∀p,p<b+1->L p<=r p/\r p<=G p)/\cw T r b<=c:=by
 have seg:∃r':Nat->Int,(∀p,a<=p->p<=b->L p<=r' p/\r' p<=G p)/\∀i,a<=i->i<b->r' i+r' (i+1)=T i:=by
  by_cases z:a=b
  ·exact⟨L,fun p h1 h2=>⟨Int.le_refl _,le p (by lia)⟩,fun i h1 h2=>by lia⟩
  ·have ab:=g.ab
   obtain⟨r,f⟩:=g.fit (b-1-a) (by lia)
   refine⟨fun p=>r (p-a),fun p h1 h2=>?_,fun i h1 h2=>?_⟩
   ·have l1:=f.low (p-a) (by lia)
    have l2:=f.high (p-a) (by lia)
    rw[show sh a L (p-a)=L p from congrArg L (by lia)]at l1
    rw[show sh a G (p-a)=G p from congrArg G (by lia)]at l2
    exact⟨l1,l2⟩
   ·have l3:=f.sum (i-a) (by lia)
    rw[show sh a T (i-a)=T i from congrArg T (by lia)]at l3
    rw[<-l3]
    show r (i-a)+r (i+1-a)=(0+r (i-a))+r (i-a+1)
    rw[show i+1-a=i-a+1 by lia]
    lia
 obtain⟨r',b',s'⟩:=seg
 have ab:=g.ab
 have more:∀(r:Nat->Int) (x:Int),cw T r a<=x->(∀i,a<=i->i<b->r i+r (i+1)=T i)->cw T r b<=x:=fun r x h1 h2=>by
  have key:∀i,a+i<=b->cw T r (a+i)<=x:=fun i=>by
   induction i with
   |zero=>exact fun _=>h1
   |succ i ih=>
    intro hi
    have:=ih (by lia)
    rw[show a+(i+1)=a+i+1 by lia,zgA,if_pos (h2 (a+i) (by lia) (by lia))]
    lia
  have:=key (b-a) (by lia)
  rw[show a+(b-a)=b by lia]at this
  exact this
 rcases g.up with⟨h1,h2⟩|⟨h1,h2,r,h3,h4⟩
 ·subst h1 h2
  exact⟨r',fun p hp=>b' p (by lia) (by lia),more r' _ (Int.le_refl _) s'⟩
 ·refine⟨fun p=>if p<a then r p else r' p,fun p hp=>?_,more _ _ ?_ fun i h5 h6=>?_⟩
  ·(try dsimp only)
   by_cases z:p<a
   ·rw[if_pos z];exact h3 p z
   ·rw[if_neg z];exact b' p (by lia) (by lia)
  ·obtain⟨a',rfl⟩:∃a',a=a'+1:=⟨a-1,by lia⟩
   rw[zgA,zly (r':=r) a' fun p hp=>by(try dsimp only);rw[if_pos (by lia)]]
   rw[Nat.add_sub_cancel]at h4
   split<;>lia
  ·(try dsimp only)
   rw[if_neg (by lia),if_neg (by lia)];exact s' i h5 h6
theorem Gd.next (le:∀p,p<n->L p<=G p)(hn:n=m+1)(g:Gd m n T L G b a c)(hb:b<m)(he:a+e=b)(f:¬Fit T L G a e):Gd m n T L G (b+1) (b+1) (c+1):=by
 refine⟨Nat.le_refl _,fun r bx=>?_,.inr ⟨by lia,by lia,?_⟩,fun e h=>by lia⟩
 ·have h1:=g.low r bx
  rcases Int.lt_or_le (cw T r a) (cw T r (b+1))with h|h
  ·push_cast;lia
  ·exact absurd (zm1 bx (by lia) (by rw[show a+(e+1)=b+1 by lia];exact h)) f
 ·obtain⟨r,h1,h2⟩:=g.row le (by lia)
  exact⟨r,h1,by rw[Nat.add_sub_cancel];push_cast;lia⟩
abbrev pD2 (s:Nat×Nat):D:= .tup [.int (s.1:Nat),.int (s.2:Nat)]
def Ch (T L G:Nat->Int):Nat->List (Nat×Nat)->Nat->Prop
 |a,[],e=>e=a
 |a,s::l,e=>s.1=a/\a<=s.2/\((∀x,a+x<s.2->Fit T L G a x)/\¬Fit T L G a (s.2-a))/\Ch T L G (s.2+1) l e
theorem Ch.snoc {T L G:Nat->Int}:∀{l:List (Nat×Nat)} {a e b:Nat},Ch T L G a l e->e<=b->((∀x,e+x<b->Fit T L G e x)/\¬Fit T L G e (b-e))->Ch T L G a (l++[(e,b)]) (b+1)
 |[],a,e,b,h,hb,hf=>by
  cases(show e=a from h)
  exact⟨rfl,hb,hf,rfl⟩
 |s::l,a,e,b,⟨h1,h2,h3,h4⟩,hb,hf=>⟨h1,h2,h3,Ch.snoc h4 hb hf⟩
theorem short_ok (hn:n=m+1)(m9:m<=23)(le:∀p,p<n->L p<=G p):Ok (zaS [zaI 2 m n T L G]) fun x=>∃l a,l.length<=m/\Gd m n T L G m a l.length/\Ch T L G 0 l a/\x= .own (l.map pD2):=by
 simp! only[↓zaS,↓zbT,↓zcy]
 refine⟨zaF (by lia) (by lia),zbJ (fun b ρ=>∃(l:List (Nat×Nat)) (a:Nat) (z:Sl),l.length<=b/\Gd m n T L G b a l.length/\Ch T L G 0 l a/\ρ=[.val (zaI 2 m n T L G),.own (l.map pD2),.val (.int a),z]) ⟨[],0,_,Nat.le_refl _,Gd.start,rfl,rfl⟩ ?_ ?_⟩
 ·rintro b _ hb ⟨l,a,z,ll,g,ch,rfl⟩
  have ab:=g.ab
  obtain⟨e,he⟩:∃e,a+e=b:=⟨b-a,by lia⟩
  simp! only[↓zcp]
  refine(znT hn m9 (a:=a) (c:=e) (by lia) (b:Int) (by lia)).mono ?_
  rintro _ ⟨z,rfl,hz⟩
  cases z with
  |true=>
   simp! only[]
   exact⟨l,a,_,by lia,g.stay he (hz.mp rfl),ch,rfl⟩
  |false=>
   have nf:¬Fit T L G a e:=fun f=>by have:=hz.mpr f;cases this
   simp! only[]
   refine⟨by lia,l++[(a,b)],b+1,.val (.int b),by simp;lia,?_,ch.snoc (by lia) ⟨fun x hx=>g.fit x hx,by rw[show b-a=e by lia];exact nf⟩,?_⟩
   ·rw[List.length_append];exact g.next le hn hb he nf
   ·rw[List.map_append];rfl
 ·rintro _ ⟨l,a,z,ll,g,ch,rfl⟩
  simp! only[]
  exact⟨l,a,ll,g,ch,rfl⟩
theorem part_ok (hn:n=m+1)(m9:m<=23){a b:Nat}(ab:a<=b)(hb:b<=m)(le:∀p,p<n->L p<=G p)(f:∀x,a+x<b->Fit T L G a x):Ok (zdA [zaI 2 m n T L G,.int a,.int b]) fun x=>∃r:Nat->Int,(∀i,i<b+1-a->L (a+i)<=r i/\r i<=G (a+i))/\(∀i,a+i<b->r i+r (i+1)=T (a+i))/\x= .val (.tup (wI (b+1-a) r)):=by
 simp! only[↓zdA,↓zgD]
 refine⟨fun z=>?_,fun z=>?_⟩
 ·have e1:=cutAB (n:=n) (a:=a) (c:=1) L (by lia) ((a:Int)+1) (by lia)
  simp! only[e1]
  refine⟨sh a L,fun i hi=>⟨Int.le_refl _,le _ (by lia)⟩,fun i hi=>by lia,?_⟩
  rw[show b+1-a=1 by lia]
 ·simp! only[↓zfW]
  refine(zid hn (a:=a) (c:=b-1-a) (by lia) ((b:Int)-1) (by lia)).mono ?_
  rintro _ rfl
  simp! only[]
  refine(zmV (dim2 (c:=b-1-a) (by lia)) (sh a T) (sh a L) (sh a G)).mono ?_
  rintro _ (⟨r,fr,_,rfl⟩|⟨nf,_⟩)
  ·simp! only[]
   refine⟨r,fun i hi=>⟨fr.low i (by lia),fr.high i (by lia)⟩,fun i hi=>?_,?_⟩
   ·have:=fr.sum i (by lia)
    rw[<-show win 2 r i=r i+r (i+1)from by show 0+r (i+0)+r (i+1)=_;rw[Int.zero_add];rfl]
    exact this
   ·rw[show b+1-a=b-1-a+2 by lia]
  ·obtain⟨r,fr⟩:=f (b-1-a) (by lia)
   exact absurd fr (nf r)
theorem app_w (a c:Nat)(f g:Nat->Int):wI a f++wI c g=wI (a+c) fun p=>if p<a then f p else g (p-a):=by
 apply List.ext_getElem?
 intro j
 by_cases hj:j<a
 ·rw[List.getElem?_append_left (by rw[zaW];exact hj),zaC _ hj,zaC _ (by lia)]
  show _=some (D.int (if j<a then f j else g (j-a)))
  rw[if_pos hj]
 ·rw[List.getElem?_append_right (by rw[zaW];lia),zaW]
  by_cases h2:j<a+c
  ·rw[zaC _ (by lia),zaC _ h2]
   show _=some (D.int (if j<a then f j else g (j-a)))
   rw[if_neg hj]
  ·rw[List.getElem?_eq_none (by rw[zaW];lia),List.getElem?_eq_none (by rw[zaW];lia)]
def stA (a:Nat)(l:List (Nat×Nat)):Nat->Nat
 |0=>a
 |i+1=>(l.getD i (0,0)).2+1
theorem zlQ (a:Nat)(s:Nat×Nat)(l:List (Nat×Nat))(i:Nat):stA a (s::l) (i+1)=stA (s.2+1) l i:=by cases i<;>rfl
theorem Ch.get {T L G:Nat->Int}:∀{l:List (Nat×Nat)} {a e:Nat},Ch T L G a l e->e=stA a l l.length/\∀i,i<l.length->stA a l i<=(l.getD i (0,0)).2/\∀x,stA a l i+x<(l.getD i (0,0)).2->Fit T L G (stA a l i) x
 |[],a,e,h=>⟨h,fun i hi=>by simp at hi⟩
 |s::l,a,e,⟨h1,h2,h3,h4⟩=>by
  obtain⟨e1,e2⟩:=Ch.get h4
  refine⟨by rw[List.length_cons,zlQ];exact e1,fun i hi=>?_⟩
  cases i with
  |zero=>exact⟨h2,h3.1⟩
  |succ i=>rw[zlQ];exact e2 i (by simpa using hi)
theorem zmn (hn:n=m+1)(m9:m<=23)(le:∀p,p<n->L p<=G p){l:List (Nat×Nat)}(ll:l.length<=m)(ch:Ch T L G 0 l a)(am:a<=m)(bm:∀i,i<l.length->(l.getD i (0,0)).2<=m)(ft:∀x,a+x<m->Fit T L G a x):Ok (zbE [zaI 2 m n T L G,.tup (l.map fun s=> .int (s.2:Nat))]) fun x=>∃r,(∀p,p<n->L p<=r p/\r p<=G p)/\(∀i,i<m->i∉l.map (·.2)->r i+r (i+1)=T i)/\x= .val (.tup (wI n r)):=by
 obtain⟨ea,hc⟩:=ch.get
 simp! only[↓zbE,↓zdP,↓zd9]
 refine⟨by lia,?_⟩
 rw[show(l.map fun s=>D.int (s.2:Nat))++[.int (m:Nat)]=(l.map (·.2)++[m]).map fun b:Nat=>D.int (b:Nat) by rw[List.map_append,List.map_map];rfl]
 refine zm4 (enc:=fun b:Nat=>D.int (b:Nat)) (l:=l.map (·.2)++[m]) (fun i ρ=>∃(r:Nat->Int) (a':Nat) (z:Sl),a'<=m+1/\(∀p,p<a'->L p<=r p/\r p<=G p)/\(∀x,x+1<a'->x∉l.map (·.2)->r x+r (x+1)=T x)/\(i<=l.length->a'=stA 0 l i)/\(i=l.length+1->a'=m+1)/\ρ=[.val (zaI 2 m n T L G),.val (.tup (l.map fun s=> .int (s.2:Nat))),.val (.tup (wI a' r)),.val (.int a'),z]) ⟨fun _=>0,0,_,by lia,fun p h=>by lia,fun x h=>by lia,fun _=>rfl,fun h=>by lia,rfl⟩ ?_ ?_
 ·rintro i b _ hi ⟨r,a',z,a9,hr,hcw,ha,-,rfl⟩
  have il:i<l.length+1:=by
   have:=(List.getElem?_eq_some_iff.mp hi).1
   simpa using this
  have ha:=ha (by lia)
  have hb:a'<=b/\b<=m/\(∀x,a'+x<b->Fit T L G a' x)/\(i<l.length->b=(l.getD i (0,0)).2)/\(i=l.length->b=m):=by
   by_cases z:i<l.length
   ·have eb:b=(l.getD i (0,0)).2:=by
     rw[List.getElem?_append_left (by simpa using z),List.getElem?_map,List.getElem?_eq_getElem z]at hi
     rw[List.getD_eq_getElem?_getD,List.getElem?_eq_getElem z]
     exact(Option.some.inj hi).symm
    obtain⟨h1,h2⟩:=hc i z
    rw[ha,eb]
    exact⟨h1,bm i z,h2,fun _=>rfl,fun h=>by lia⟩
   ·have ei:i=l.length:=by lia
    have eb:b=m:=by
     rw[List.getElem?_append_right (by simp;lia)]at hi
     simp only[List.length_map,ei,Nat.sub_self]at hi
     exact(Option.some.inj hi).symm
    rw[ei,<-ea]at ha
    rw[ha,eb]
    exact⟨am,Nat.le_refl _,ft,fun h=>absurd h z,fun _=>rfl⟩
  obtain⟨h1,h2,h3,h4,h5⟩:=hb
  simp! only[↓zeh]
  refine(part_ok hn m9 h1 h2 le h3).mono ?_
  rintro _ ⟨r',hr',hs',rfl⟩
  simp! only[]
  rw[app_w,show a'+(b+1-a')=b+1 by lia]
  refine⟨by lia,_,b+1,.val (.int (b:Nat)),by lia,fun p hp=>?_,fun x hx=>?_,fun h6=>?_,fun h6=>by rw[h5 (by lia)],rfl⟩
  ·(try dsimp only)
   by_cases q:p<a'
   ·rw[if_pos q];exact hr p q
   ·rw[if_neg q]
    have:=hr' (p-a') (by lia)
    rwa[show a'+(p-a')=p by lia]at this
  ·intro nx
   (try dsimp only)
   by_cases q:x+1<a'
   ·rw[if_pos (by lia),if_pos q];exact hcw x q nx
   by_cases q2:x+1=a'
   ·exfalso
    apply nx
    cases i with
    |zero=>rw[ha]at q2;exact absurd q2 (by show ¬x+1=0;lia)
    |succ i=>
     have e3:x=(l.getD i (0,0)).2:=by
      rw[ha]at q2
      have:x+1=(l.getD i (0,0)).2+1:=q2
      lia
     rw[e3,List.getD_eq_getElem?_getD,List.getElem?_eq_getElem (by lia)]
     exact List.mem_map_of_mem (List.getElem_mem _)
   ·rw[if_neg (by lia),if_neg (by lia)]
    have:=hs' (x-a') (by lia)
    rwa[show x-a'+1=x+1-a' by lia,show a'+(x-a')=x by lia]at this
  ·rw[h4 (by lia)];rfl
 ·rintro _ ⟨r,a',z,a9,hr,hcw,ha,he,rfl⟩
  simp! only[]
  have he:=he (by simp)
  subst he
  rw[<-hn]
  exact⟨r,fun p hp=>hr p (by lia),fun i hi ni=>hcw i (by lia) ni,rfl⟩
theorem Ch.le {T L G:Nat->Int}:∀{l:List (Nat×Nat)} {a e:Nat},Ch T L G a l e->a<=e/\∀i,i<l.length->(l.getD i (0,0)).2<e
 |[],a,e,h=>⟨Nat.le_of_eq (show e=a from h).symm,fun i hi=>by simp at hi⟩
 |s::l,a,e,⟨h1,h2,h3,h4⟩=>by
  obtain⟨e1,e2⟩:=Ch.le h4
  refine⟨by lia,fun i hi=>?_⟩
  cases i with
  |zero=>show s.2<e;lia
  |succ i=>exact e2 i (by simpa using hi)
structure Few (m n:Nat) (T L G:Nat->Int) (c:Nat):Prop where
 low:∀r,(∀p,p<n->L p<=r p/\r p<=G p)->(c:Int)<=cw T r m
 up:∃r,(∀p,p<n->L p<=r p/\r p<=G p)/\cw T r m<=c
structure Told (m n:Nat) (T L G:Nat->Int) (l:List (Nat×Nat)) (r:Nat->Int):Prop where
 few:Few m n T L G l.length
 box:∀p,p<n->L p<=r p/\r p<=G p
 right:∀i,i<m->i∉l.map (·.2)->r i+r (i+1)=T i
 len:l.length<=m
 ch:∃a,a<=m/\Ch T L G 0 l a
theorem twos_ok (hn:n=m+1)(m9:m<=23)(le:∀p,p<n->L p<=G p):Ok (zbt [zaI 2 m n T L G]) fun x=>∃(l:List (Nat×Nat)) (r:Nat->Int),Told m n T L G l r/\x= .val (.tup [.tup (l.map fun s=> .int (s.2:Nat)),.tup (wI n r),.lst (l.map pD2)]):=by
 simp! only[↓zbt,↓zeO,↓zeQ]
 refine⟨fun z=>absurd rfl z,fun _=>?_⟩
 refine(short_ok hn m9 le).mono ?_
 rintro _ ⟨l,a,ll,g,ch,rfl⟩
 have am:=g.ab
 have chl:=ch.le
 simp! only[↓zeD]
 refine⟨by lia,zoh (enc:=pD2) (l:=l) (fun ρ=>∃a b,ρ=[a,b]) (fun s=> .int (s.2:Nat)) ⟨_,_,rfl⟩ ?_ ?_⟩
 ·rintro s _ hs ⟨a,b,rfl⟩
  simp! only[↓zeN,pD2]
  exact⟨_,_,rfl⟩
 rintro _ ⟨a1,b1,rfl⟩
 simp! only[]
 refine(zmn hn m9 le ll ch am (fun i hi=>by have:=chl.2 i hi;lia) fun x hx=>g.fit x hx).mono ?_
 rintro _ ⟨r0,br,cr,rfl⟩
 simp! only[]
 refine⟨l,r0,⟨⟨fun r bx=>?_,?_⟩,br,cr,ll,a,am,ch⟩,rfl⟩
 ·have h1:=g.low r bx
  have h2:=zk4 (T:=T) (r:=r) a (m-a)
  rw[show a+(m-a)=m by lia]at h2
  lia
 ·obtain⟨r,h1,h2⟩:=g.row le (by lia)
  exact⟨r,fun p hp=>h1 p (by lia),h2⟩
end
abbrev sqD (t:Bool)(n:Nat)(r:Nat->Int):D:=if t then .tup (wI n r)else .lst (wI n r)
section
variable {k m n:Nat} {T L G s r:Nat->Int}
theorem zhB (t:Bool)(hk:k<=n)(hn:n<=900):Ok (za8 [sqD t n r,.int k]) fun x=>x= .val (.tup (wI (n+1-k) (win k r))):=by
 have hl:((n:Int)-(k:Int)+1).toNat=n+1-k:=by lia
 have main:∀d,(d= .lst (wI n r)\/d= .tup (wI n r))->Ok (za8 [d,.int k]) fun x=>x= .val (.tup (wI (n+1-k) (win k r))):=fun d hd=>by
  have loop:∀(Q:Fl×R->Prop),(∀s,Q (.next,[.val d,.val (.int k),.own (wI (n+1-k) (win k r)),s]))->Ok (forM (fun d ρ=>(gN 3 d ρ).bind fun ρ'=>zdj ρ') (wL (n+1-k) fun i=> .int (i:Nat)) [.val d,.val (.int k),.own [],.emp]) Q:=fun Q hQ=>by
   refine zbJ (fun i ρ=>∃s,ρ=[.val d,.val (.int k),.own (wI i (win k r)),s]) ⟨_,rfl⟩ ?_ ?_
   ·rintro i _ hi ⟨s,rfl⟩
    simp! only[↓zdj,↓zfw]
    refine⟨zaF (by lia) (by lia),by lia,zaQ (fun ρ=>∃s,ρ=[.val d,.val (.int i),s]) (fun j=> .int (r (i+j))) ⟨_,rfl⟩ ?_ ?_⟩
    ·rintro j _ hj ⟨s,rfl⟩
     have e:((i:Int)+(j:Int))=((i+j:Nat):Int):=by lia
     rcases hd with rfl|rfl<;>
     ·simp! only[↓zfo,e,zaC _ (show i+j<n by lia)]
      exact⟨_,rfl⟩
    ·rintro _ ⟨s,rfl⟩
     simp! only[zd1,zdB]
     exact⟨by lia,_,by rw[show wI (i+1) (win k r)=_ from zhs _ _];rfl⟩
   ·rintro _ ⟨s,rfl⟩
    exact hQ s
  rcases hd with rfl|rfl<;>
  ·simp! only[↓za8,↓zfR,↓zfv,hl]
   refine⟨zaF (by lia) (by lia),loop _ fun s=>?_⟩
   simp! only[]
 cases t
 ·exact main _ (.inl rfl)
 ·exact main _ (.inr rfl)
end
def Pot (ds:List D):Prop:=∃p:Int,ds=[.int p]
theorem zau (h:Pot ds){m:Int}(h0:0<m)(h1:m<2^250):Ok (zam ds [.int m]) fun r=>∃(i:Nat) (ds':List D),(i:Int)<m/\Pot ds'/\r=(.val (.int i),ds'):=by
 obtain⟨p,rfl⟩:=h
 simp! only[↓zam,↓zfK]
 have m0:=Int.emod_nonneg p (Int.ne_of_gt h0)
 refine⟨h0,zmI h0 h1,(p%m).toNat,[.int (p/m)],?_,⟨_,rfl⟩,?_⟩
 ·have:=Int.emod_lt_of_pos p h0;lia
 ·rw[show(((p%m).toNat:Nat):Int)=p%m by lia]
theorem deal_ok (ns:List Int)(k:Nat)(hk:k<64):Ok (zcG [.scr ns,.int k]) fun r=>∃ds,Pot ds/\r= .own ds:=by
 have tail:∀(c b:Int),0<=b->b<4294967296->Ok (zdo [.val (.scr ns),.val (.int k),.val (.int c),.val (.int b),.val (.int 0),.emp]) fun p=>∃(a:Int) (s3 s5:Sl),p=(.next,[.val (.scr ns),.val (.int k),.val (.int c),s3,.val (.int a),s5]):=fun c b h0 h1=>by
  simp! only[↓zdo]
  refine⟨rfl,zbJ (fun _ ρ=>∃(a b:Int) (s5:Sl),0<=b/\b<4294967296/\ρ=[.val (.scr ns),.val (.int k),.val (.int c),.val (.int b),.val (.int a),s5]) ⟨0,_,.emp,h0,h1,rfl⟩ ?_ ?_⟩
  ·rintro i _ hi ⟨a,b,s5,b0,b1,rfl⟩
   simp! only[↓zfr]
   have e1:0<=(b*48271+12345)%2147483647:=Int.emod_nonneg _ (by decide)
   have e2:(b*48271+12345)%2147483647<2147483647:=Int.emod_lt_of_pos _ (by decide)
   exact⟨zdN (by lia),zmK (by decide),zdN (by lia),by decide+kernel,_,_,_,e1,by lia,rfl⟩
  ·rintro _ ⟨a,b,s5,_,_,rfl⟩
   exact⟨_,_,_,rfl⟩
 have last:∀c:Int,Ok (zdg [.val (.scr ns),.val (.int k),.val (.int c),.emp,.emp,.emp]) fun p=>∃ds a,Pot ds/\p=(.ret (.own ds),a):=fun c=>by
  simp! only[↓zdg,↓zfk]
  refine⟨fun _=>⟨_,_,⟨_,rfl⟩,rfl⟩,fun _=>⟨zdN (by decide),?_⟩⟩
  refine(tail c _ (by lia) (by lia)).mono ?_
  rintro _ ⟨a,s3,s5,rfl⟩
  simp! only[]
  exact⟨_,_,⟨_,rfl⟩,rfl⟩
 simp! only[↓zcG,↓zfH]
 refine⟨fun h=>?_,fun h=>?_⟩
 ·rw[List.getElem?_eq_getElem (show k<ns.length by lia)]
  simp! only[]
  refine⟨by decide+kernel,by decide+kernel,by decide+kernel,(last _).mono ?_⟩
  rintro _ ⟨d,a,h,rfl⟩
  simp! only[]
  exact⟨_,h,rfl⟩
 ·refine(last _).mono ?_
  rintro _ ⟨d,a,h,rfl⟩
  simp! only[]
  exact⟨_,h,rfl⟩
structure LineOk (k s n:Nat) (L G:Nat->Int):Prop where
 k2:2<=k
 k5:k<=5
 kn:k<=n
 n24:n<=24
 s:n+1=s+k
 le:∀p,p<n->L p<=G p
 far:∀p,p<n->G p-L p<2^240
theorem zki {t c a b:Int}(h0:0<=t)(h1:t<=a)(g0:0<=c)(g1:c<=b)(ha:0<=a):0<=t*c/\t*c<=a*b:=
 ⟨Int.mul_nonneg h0 g0,Int.mul_le_mul h1 g1 g0 ha⟩
def Sc (n:Nat)(c:Nat->Int):Prop:=∀p,p<n->0<=c p/\c p<=1000000000000000000000000000000000000000000000000000000000
theorem lp_bend (h:Pot ds)(s n t:Nat)(hs:0<s)(hsn:s<=n)(hn:n<=24)(ht:t<=24)(S sc:Nat->Int)(a1 a2 a3 a4 a5 a7 a8 a9 a11 a12:Sl)
  (hQ:∀(ds':List D) (S:Nat->Int) (a11 a12:Sl),Pot ds'->Q (.next,[.par ds',a1,a2,a3,a4,a5,.val (.lst (wI n sc)),a7,a8,a9,.own (wI s S),a11,a12])):
  Ok (forM (fun d ρ=>(gN 11 d ρ).bind fun ρ'=>zdl ρ') (wL t fun i=> .int (i:Nat)) [.par ds,a1,a2,a3,a4,a5,.val (.lst (wI n sc)),a7,a8,a9,.own (wI s S),a11,a12]) Q:=by
 refine zbJ (fun i ρ=>∃(ds':List D) (S:Nat->Int) (a11 a12:Sl),Pot ds'/\ρ=[.par ds',a1,a2,a3,a4,a5,.val (.lst (wI n sc)),a7,a8,a9,.own (wI s S),a11,a12]) ⟨ds,S,_,_,h,rfl⟩ ?_ ?_
 ·rintro i _ hi ⟨d1,S,a11,a12,h1,rfl⟩
  simp! only[↓zdl]
  refine(zau h1 (m:=(s:Int)) (by lia) (by lia)).mono ?_
  rintro _ ⟨at',d2,hat,h2,rfl⟩
  simp! only[zaC _ (show at'<s by lia)]
  refine(zau h2 (m:=9) (by lia) (by lia)).mono ?_
  rintro _ ⟨x,d3,hx,h3,rfl⟩
  simp! only[zaC _ (show at'<n by lia)]
  refine(zau h3 (m:=2) (by lia) (by lia)).mono ?_
  rintro _ ⟨y,d4,hy,h4,rfl⟩
  have hy':∃z:Int,[D.int 1,D.int (sc at')][y]? =some (.int z):=by
   have:y=0\/y=1:=by lia
   rcases this with rfl|rfl<;>exact⟨_,rfl⟩
  obtain⟨z,ez⟩:=hy'
  simp! only[ez,zlf _ _ (show at'<s by lia),show at'<s by lia]
  exact⟨zdN (by lia),d4,_,_,_,h4,rfl⟩
 ·rintro _ ⟨d1,S,a11,a12,h1,rfl⟩
  exact hQ d1 S a11 a12 h1
theorem zjA (h:Pot ds)(k most wide n:Nat)(k2:2<=k)(k5:k<=5)(kn:k<=n)(n24:n<=24)(w1:1<=wide)(w2:wide<=5)(great:Int)(sc:Nat->Int)(hsc:Sc n sc)(hQ:∀(s:Nat) (S L G:Nat->Int) (ds':List D) (a:List Sl),Pot ds'->LineOk k s n L G->Q (.ret (.val (zaI k s n S L G)),.par ds'::a)):
  Ok (zds [.par ds,.val (.int k),.val (.int most),.val (.int wide),.val (.int n),.val (.int great),.val (.lst (wI n sc)),.emp,.emp,.emp,.emp,.emp,.emp]) Q:=by
 simp! only[↓zds,↓zfp]
 refine⟨by lia,zge (fun i acc ρ=>∃(f:Nat->Int) (ds':List D) (s:Sl),Pot ds'/\acc=wI i f/\ρ=[.par ds',s]) ⟨fun _=>0,ds,.emp,h,rfl,rfl⟩ ?_ ?_⟩
 ·rintro i _ _ hi ⟨f,d1,s,h1,rfl,rfl⟩
  simp! only[↓zfi]
  refine(zau h1 (m:=9) (by lia) (by lia)).mono ?_
  rintro _ ⟨t,d2,ht,h2,rfl⟩
  simp! only[]
  exact⟨zmK (by lia),_,d2,_,h2,zhp i f _,rfl⟩
 rintro _ _ ⟨R,d1,s,h1,rfl,rfl⟩
 simp! only[↓zfj,ziz]
 refine⟨by lia,zge (fun i acc ρ=>∃(f:Nat->Int) (ds':List D) (s s':Sl),Pot ds'/\(∀j,j<i->f j<=R j/\R j-f j<=4*1000000000000000000000000000000000000000000000000000000000)/\acc=wI i f/\ρ=[.par ds',.val (.int wide),s,s']) ⟨fun _=>0,d1,.emp,.emp,h1,fun _ h=>by lia,rfl,rfl⟩ ?_ ?_⟩
 ·rintro i _ _ hi ⟨f,d2,s,s',h2,b,rfl,rfl⟩
  simp! only[↓zfe]
  refine(zau h2 (m:=(wide:Int)) (by lia) (by lia)).mono ?_
  rintro _ ⟨t,d3,ht,h3,rfl⟩
  simp! only[]
  refine⟨zdN (by lia),_,d3,_,_,h3,?_,zhp i f _,rfl⟩
  intro j hj
  split
  ·rename_i hji;exact b j hji
  ·have e:j=i:=by lia
   subst e
   have:=zki (t:=(t:Int)) (a:=4) (by lia) (by lia) (hsc j (by lia)).1 (hsc j (by lia)).2 (by lia)
   lia
 rintro _ _ ⟨L,d2,s,s',h2,bL,rfl,rfl⟩
 simp! only[↓ze8,ziz]
 refine⟨by lia,zge (fun i acc ρ=>∃(f:Nat->Int) (ds':List D) (s s':Sl),Pot ds'/\(∀j,j<i->R j<=f j/\f j-R j<=4*1000000000000000000000000000000000000000000000000000000000)/\acc=wI i f/\ρ=[.par ds',.val (.int wide),s,s']) ⟨fun _=>0,d2,.emp,.emp,h2,fun _ h=>by lia,rfl,rfl⟩ ?_ ?_⟩
 ·rintro i _ _ hi ⟨f,d3,s,s',h3,b,rfl,rfl⟩
  simp! only[↓zfh]
  refine(zau h3 (m:=(wide:Int)) (by lia) (by lia)).mono ?_
  rintro _ ⟨t,d4,ht,h4,rfl⟩
  simp! only[]
  refine⟨zdN (by lia),_,d4,_,_,h4,?_,zhp i f _,rfl⟩
  intro j hj
  split
  ·rename_i hji;exact b j hji
  ·have e:j=i:=by lia
   subst e
   have:=zki (t:=(t:Int)) (a:=4) (by lia) (by lia) (hsc j (by lia)).1 (hsc j (by lia)).2 (by lia)
   lia
 rintro _ _ ⟨G,d3,s,s',h3,bG,rfl,rfl⟩
 simp! only[]
 refine(zhB false (r:=R) (by lia) (by lia)).mono ?_
 rintro _ rfl
 simp! only[↓zfn]
 refine(zau h3 (m:=4) (by lia) (by lia)).mono ?_
 rintro _ ⟨w,d4,hw,h4,rfl⟩
 have hw':∃t:Nat,t<=24/\[D.int 0,D.int 1,D.int 3,D.int ((n+1-k:Nat):Int)][w]? =some (.int t):=by
  have:w=0\/w=1\/w=2\/w=3:=by lia
  rcases this with rfl|rfl|rfl|rfl
  ·exact⟨0,by lia,rfl⟩
  ·exact⟨1,by lia,rfl⟩
  ·exact⟨3,by lia,rfl⟩
  ·exact⟨n+1-k,by lia,rfl⟩
 obtain⟨t,ht,et⟩:=hw'
 simp! only[et]
 refine⟨zaF (by lia) (by lia),lp_bend h4 (n+1-k) n t (by lia) (by lia) (by lia) ht _ _ _ _ _ _ _ _ _ _ _ _ ?_⟩
 intro d5 S a11 a12 h5
 simp! only[]
 refine hQ (n+1-k) S L G d5 _ h5 ⟨k2,k5,by lia,by lia,by lia,fun p hp=>?_,fun p hp=>?_⟩
 ·have:=bL p hp;have:=bG p hp;lia
 ·have:=bL p hp;have:=bG p hp;lia
theorem line_ok (h:Pot ds)(k most wide:Nat)(k2:2<=k)(k5:k<=5)(q1:k<=most)(q2:most<=24)(w1:1<=wide)(w2:wide<=5):
  Ok (zcF ds [.int k,.int most,.int wide]) fun r=>∃(s n:Nat) (S L G:Nat->Int) (ds':List D),Pot ds'/\LineOk k s n L G/\r=(.val (zaI k s n S L G),ds'):=by
 simp! only[↓zcF,↓zfE]
 refine(zau h (m:=(most:Int)-k+1) (by lia) (by lia)).mono ?_
 rintro _ ⟨x,d1,hx,h1,rfl⟩
 simp! only[]
 refine(zau h1 (m:=4) (by lia) (by lia)).mono ?_
 rintro _ ⟨y,d2,hy,h2,rfl⟩
 have hy':∃z:Int,(0<=z/\z<=1000000000000000000000000000000000000000000000000000000000)/\[D.int 1,D.int 1,D.int 1,D.int 1000000000000000000000000000000000000000000000000000000000][y]? =some (.int z):=by
  have:y=0\/y=1\/y=2\/y=3:=by lia
  rcases this with rfl|rfl|rfl|rfl<;>exact⟨_,by decide,rfl⟩
 obtain⟨great,hg,eg⟩:=hy'
 rw[show(k:Int)+(x:Int)=((k+x:Nat):Int) by lia]
 generalize hnn:k+x=n
 simp! only[eg,rep_w]
 refine⟨by lia,?_⟩
 refine(zau h2 (m:=4) (by lia) (by lia)).mono ?_
 rintro _ ⟨c,d3,hc,h3,rfl⟩
 simp! only[]
 refine⟨fun hz=>?_,fun hz=>?_⟩
 ·simp! only[↓zfc]
  refine⟨zaF (by lia) (by lia),by lia,zge (fun i acc ρ=>∃(f:Nat->Int) (ds':List D) (s:Sl),Pot ds'/\Sc i f/\acc=wI i f/\ρ=[.val (.int great),.par ds',s]) ⟨fun _=>0,d3,.emp,h3,fun _ h=>by lia,rfl,rfl⟩ ?_ ?_⟩
  ·rintro i _ _ hi ⟨f,d4,s,h4,b,rfl,rfl⟩
   simp! only[↓zfg]
   refine(zau h4 (m:=4) (by lia) (by lia)).mono ?_
   rintro _ ⟨t,d5,ht,h5,rfl⟩
   have ht':∃z:Int,(0<=z/\z<=1000000000000000000000000000000000000000000000000000000000)/\[D.int 1,D.int 1000,D.int 1000000000000000000000000000000,D.int great][t]? =some (.int z):=by
    have:t=0\/t=1\/t=2\/t=3:=by lia
    rcases this with rfl|rfl|rfl|rfl
    ·exact⟨_,by decide,rfl⟩
    ·exact⟨_,by decide,rfl⟩
    ·exact⟨_,by decide,rfl⟩
    ·exact⟨_,hg,rfl⟩
   obtain⟨z,hz,ez⟩:=ht'
   simp! only[ez]
   refine⟨_,d5,_,h5,fun j hj=>?_,zhp i f _,rfl⟩
   split
   ·rename_i hji;exact b j hji
   ·exact hz
  rintro _ _ ⟨sc,d4,s,h4,b,rfl,rfl⟩
  simp! only[]
  refine zjA h4 k most wide n k2 k5 (by lia) (by lia) w1 w2 great sc b fun s S L G d5 a h5 ok=>?_
  simp! only[]
  exact⟨s,n,S,L,G,d5,h5,ok,rfl⟩
 ·refine zjA h3 k most wide n k2 k5 (by lia) (by lia) w1 w2 great (fun _=>great) (fun _ _=>hg) fun s S L G d5 a h5 ok=>?_
  simp! only[]
  exact⟨s,n,S,L,G,d5,h5,ok,rfl⟩
section
variable {m n:Nat} {T L G:Nat->Int}
structure Seg (T L G:Nat->Int) (a i:Nat) (r:Nat->Int):Prop where
 box:∀p,p<=i->L (a+p)<=r p/\r p<=G (a+p)
 sum:∀p,p<i->r p+r (p+1)=T (a+p)
theorem win2 (r:Nat->Int)(i:Nat):win 2 r i=r i+r (i+1):=by show 0+r (i+0)+r (i+1)=_;rw[Int.zero_add];rfl
theorem fit_seg:Fit T L G a c↔∃r,Seg T L G a (c+1) r:=by
 constructor
 ·rintro⟨r,f⟩
  exact⟨r,fun p hp=>⟨f.low p (by lia),f.high p (by lia)⟩,fun p hp=>by have:=f.sum p hp;rw[win2]at this;exact this⟩
 ·rintro⟨r,s⟩
  exact⟨r,fun p hp=>(s.box p (by lia)).1,fun p hp=>(s.box p (by lia)).2,fun p hp=>by rw[win2];exact s.sum p hp⟩
def Rng (T L G:Nat->Int)(a i:Nat)(lo hi:Int):Prop:=∀v,lo<=v/\v<=hi↔∃r,Seg T L G a i r/\r i=v
theorem Rng.start:Rng T L G a 0 (L a) (G a):=fun v=>by
  constructor
  . intro h
    exact ⟨fun _ => v, ⟨fun p hp => by obtain rfl : p = 0 := by lia
                                       exact h,fun p hp=>by lia⟩,rfl⟩
  . rintro⟨r,s,rfl⟩;exact s.box 0 (Nat.le_refl _)
theorem Rng.next {a i:Nat}{lo hi:Int}(h:Rng T L G a i lo hi):Rng T L G a (i+1) (max2 (L (a+i+1)) (T (a+i)-hi)) (min2 (G (a+i+1)) (T (a+i)-lo)):=fun v=>by
 have k:(max2 (L (a+i+1)) (T (a+i)-hi)<=v/\v<=min2 (G (a+i+1)) (T (a+i)-lo))↔(L (a+i+1)<=v/\v<=G (a+i+1))/\(lo<=T (a+i)-v/\T (a+i)-v<=hi):=by unfold max2 min2;split<;>split<;>lia
 rw[k,h (T (a+i)-v)]
 constructor
 ·rintro⟨b,r,s,e⟩
  refine⟨fun p=>if p<=i then r p else v,⟨fun p hp=>?_,fun p hp=>?_⟩,if_neg (by lia)⟩
  ·(try dsimp only)
   by_cases z:p<=i
   ·rw[if_pos z];exact s.box p z
   ·rw[if_neg z]
    obtain rfl:p=i+1:=by lia
    exact b
  ·(try dsimp only)
   by_cases z:p+1<=i
   ·rw[if_pos (by lia),if_pos z];exact s.sum p (by lia)
   ·obtain rfl:p=i:=by lia
    rw[if_pos (by lia),if_neg z,e];lia
 ·rintro⟨r,s,rfl⟩
  exact⟨s.box (i+1) (Nat.le_refl _),r,⟨fun p hp=>s.box p (by lia),fun p hp=>s.sum p (by lia)⟩,by have:=s.sum i (by lia);lia⟩
theorem can_ok (hn:n=m+1)(m9:m<=900)(le:∀p,p<n->L p<=G p){a c:Nat}(h:a+c<m)(b:Int)(hb:b=((a+c:Nat):Int)):Ok (zbh [zaI 2 m n T L G,.int a,.int b]) fun x=>∃z,x= .val (.bl z)/\(z=true↔Fit T L G a c):=by
 simp! only[↓zbh,↓zdO,zaC _ (show a<n by lia),↓zd8]
 have ec:(b+1-(a:Int)).toNat=c+1:=by lia
 rw[znL,ec]
 refine⟨⟨zaF (by lia) (by lia),zaF (by lia) (by lia)⟩,zbJ (fun i ρ=>∃(lo hi:Int) (s5 s6:Sl),lo<=hi/\Rng T L G a i lo hi/\ρ=[.val (zaI 2 m n T L G),.val (.int a),.val (.int b),.val (.int lo),.val (.int hi),s5,s6]) ⟨_,_,_,_,le a (by lia),Rng.start,rfl⟩ ?_ ?_⟩
 ·rintro i _ hi' ⟨lo,hi,s5,s6,lh,g,rfl⟩
  have e:(a:Int)+(i:Int)=((a+i:Nat):Int):=by lia
  have e1:((a+i:Nat):Int)+1=((a+i+1:Nat):Int):=by lia
  simp! only[↓zea,e,e1,zaC _ (show a+i<m by lia),zaC _ (show a+i+1<n by lia)]
  refine⟨fun z=>⟨false,rfl,⟨fun q=>(by cases q),fun f=>?_⟩⟩,fun z=>⟨_,_,_,_,by lia,g.next,rfl⟩⟩
  obtain⟨r,sg⟩:=fit_seg.mp f
  have:=(g.next (r (i+1))).mpr ⟨r,⟨fun p hp=>sg.box p (by lia),fun p hp=>sg.sum p (by lia)⟩,rfl⟩
  lia
 ·rintro _ ⟨lo,hi,s5,s6,lh,g,rfl⟩
  simp! only[]
  obtain⟨r,sg,-⟩:=(g lo).mp ⟨Int.le_refl _,lh⟩
  exact⟨true,rfl,fun _=>fit_seg.mpr ⟨r,sg⟩,fun _=>rfl⟩
end
section
variable {m n:Nat} {T L G:Nat->Int}
theorem Ch.all {T L G:Nat->Int}:∀{l:List (Nat×Nat)} {a e:Nat},Ch T L G a l e->a<=e/\∀i,i<l.length->a<=(l.getD i (0,0)).1/\(l.getD i (0,0)).1<=(l.getD i (0,0)).2/\(l.getD i (0,0)).2<e/\¬Fit T L G (l.getD i (0,0)).1 ((l.getD i (0,0)).2-(l.getD i (0,0)).1)/\(i+1<l.length->(l.getD i (0,0)).2<(l.getD (i+1) (0,0)).1)
 |[],a,e,h=>⟨Nat.le_of_eq (show e=a from h).symm,fun i hi=>by simp at hi⟩
 |s::l,a,e,⟨h1,h2,h3,h4⟩=>by
  obtain⟨e1,e2⟩:=Ch.all h4
  refine⟨by lia,fun i hi=>?_⟩
  cases i with
  |zero=>
   refine⟨Nat.le_of_eq h1.symm,by show s.1<=s.2;lia,by show s.2<e;lia,by show ¬Fit T L G s.1 (s.2-s.1);rw[h1];exact h3.2,fun h=>?_⟩
   have:=(e2 0 (by simpa using h)).1
   show s.2<(l.getD 0 (0,0)).1
   lia
  |succ i=>
   obtain⟨k1,k2,k3,k4,k5⟩:=e2 i (by simpa using hi)
   exact⟨by show a<=(l.getD i (0,0)).1;lia,k2,k3,k4,fun h=>k5 (by simpa using h)⟩
theorem zin {α:Type}(l:List α)(d:α)(f:α->D):l.map f=wL l.length fun i=>f (l.getD i d):=by
 apply List.ext_getElem?
 intro i
 by_cases h:i<l.length
 ·rw[zaC _ h,List.getElem?_map,List.getElem?_eq_getElem h,List.getD_eq_getElem?_getD,List.getElem?_eq_getElem h];rfl
 ·rw[List.getElem?_eq_none (by simpa using h),List.getElem?_eq_none (by rw[zaW];lia)]
structure Tells (m n:Nat) (T L G:Nat->Int) (c:Nat) (A B:Nat->Nat) (r:Nat->Int):Prop where
 few:Few m n T L G c
 box:∀p,p<n->L p<=r p/\r p<=G p
 right:∀i,i<m->(∀j,j<c->B j≠i)->r i+r (i+1)=T i
 len:c<=m
 ab:∀i,i<c->A i<=B i/\B i<m/\¬Fit T L G (A i) (B i-A i)
 up:∀i,i+1<c->B i<A (i+1)
theorem Told.tells (t:Told m n T L G l r):Tells m n T L G l.length (fun i=>(l.getD i (0,0)).1) (fun i=>(l.getD i (0,0)).2) r:=by
 obtain⟨a,am,ch⟩:=t.ch
 obtain⟨-,al⟩:=ch.all
 refine⟨t.few,t.box,fun i hi h=>t.right i hi fun q=>?_,t.len,fun i hi=>?_,fun i hi=>(al i (by lia)).2.2.2.2 hi⟩
 ·obtain⟨s,h1,h2⟩:=List.mem_map.mp q
  obtain⟨j,hj,e⟩:=List.getElem_of_mem h1
  refine h j hj ?_
  show(l.getD j (0,0)).2=i
  rw[List.getD_eq_getElem?_getD,List.getElem?_eq_getElem hj]
  show(l[j]).2=i
  rw[e];exact h2
 ·obtain⟨h1,h2,h3,h4,h5⟩:=al i hi
  exact⟨h2,by show(l.getD i (0,0)).2<m;lia,h4⟩
abbrev pD3 (A B:Nat->Nat)(i:Nat):D:= .tup [.int (A i:Nat),.int (B i:Nat)]
theorem tell_ok (hn:n=m+1)(m9:m<=23)(le:∀p,p<n->L p<=G p):Ok (zbt [zaI 2 m n T L G]) fun x=>∃(c:Nat) (A B:Nat->Nat) (r:Nat->Int),Tells m n T L G c A B r/\x= .val (.tup [.tup (wI c fun i=>(B i:Nat)),.tup (wI n r),.lst (wL c (pD3 A B))]):=by
 refine(twos_ok hn m9 le).mono ?_
 rintro _ ⟨l,r,t,rfl⟩
 exact⟨_,_,_,_,t.tells,by rw[zin l (0,0),zin l (0,0)]⟩
end
section
variable {m n:Nat} {T L G r:Nat->Int}
theorem ziK (t:Bool){n':Nat}(n9:n<=900):
  Ok (zbz [sqD t n' r,.tup (wI n L),.tup (wI n G)]) fun x=>∃b,x= .val (.bl b)/\(b=true↔n'=n/\∀p,p<n->L p<=r p/\r p<=G p):=by
 have loop:∀(d:D),(d= .lst (wI n r)\/d= .tup (wI n r))->∀(Q:List D×R->Prop),(∀ρ,Q (wL n (fun p=> .bl (decide (L p<=r p)&&decide (r p<=G p))),ρ))->Ok (zeq (zkY (gN 3) zcA zb9) (wL n fun i=> .int (i:Nat)) [.val (.tup (wI n L)),.val d,.val (.tup (wI n G)),.emp]) Q:=fun d hd Q hQ=>by
  refine zaQ (fun ρ=>∃s,ρ=[.val (.tup (wI n L)),.val d,.val (.tup (wI n G)),s]) (fun p=> .bl (decide (L p<=r p)&&decide (r p<=G p))) ⟨_,rfl⟩ ?_ fun ρ _=>hQ ρ
  rintro p _ hp ⟨s,rfl⟩
  rcases hd with rfl|rfl<;>
  ·simp! only[↓zb9,zaC _ hp]
   refine⟨fun h=>⟨by simp[h],_,rfl⟩,fun h=>⟨?_,_,rfl⟩⟩
   rw[decide_eq_false (by lia)];rfl
 cases t<;>
 ·simp! only[↓zbz,↓zdU,sqD,Bool.false_eq_true,if_false,if_true]
  refine⟨fun h=>⟨false,rfl,by simp;lia⟩,fun h=>?_⟩
  have e:n'=n:=by lia
  subst e
  simp! only[↓zem,↓zeb]
  refine⟨zaF (by lia) (by lia),by lia,loop _ (by first|exact .inl rfl|exact .inr rfl) _ fun ρ=>?_⟩
  simp! only[zcO]
  refine⟨_,rfl,?_⟩
  rw[ziX]
  simp
theorem zkn (c:Nat)(f:Nat->Int):wI c f=((List.range c).map f).map .int:=by simp[wL,List.map_map,Function.comp_def]
theorem in_t (x:Int)(c:Nat)(f:Nat->Int):dIn (.int x) (.tup (wI c f))=some (.bl (((List.range c).map f).contains x)):=by
 refine(show dIn (.int x) (.tup (wI c f))=dIn (.int x) (.lst (wI c f))from rfl).trans ?_
 rw[zkn];exact inL _ _
end
section
variable {m n:Nat} {T L G:Nat->Int}
abbrev pZ (A B:Nat->Int)(i:Nat):D:= .tup [.int (A i),.int (B i)]
structure Wr (m c:Nat) (f:Nat->Int):Prop where
 up:∀i j,i<j->j<c->f i<f j
 inr:∀i,i<c->0<=f i/\f i<m
structure Rr (m n:Nat) (T L G:Nat->Int) (c:Nat) (f r:Nat->Int):Prop where
 box:∀p,p<n->L p<=r p/\r p<=G p
 right:∀i,i<m->(∃j,j<c/\f j=(i:Int))\/r i+r (i+1)=T i
def bef (B:Nat->Int):Nat->Int
 |0=> -1
 |i+1=>B i
def So (m:Nat)(T L G:Nat->Int)(A B:Nat->Int)(i:Nat):Prop:=(bef B i<A i/\A i<=B i/\B i<m)/\¬Fit T L G (A i).toNat (B i-A i).toNat
def znw (m n:Nat)(T L G:Nat->Int)(c:Nat)(f r:Nat->Int)(c':Nat)(A B:Nat->Int):Prop:=(Wr m c f/\c'=c)/\Rr m n T L G c f r/\∀i,i<c'->So m T L G A B i
theorem dNe_l (xs ys:List Int):dNe (.lst (xs.map .int)) (.lst (ys.map .int))=some (.bl (!(xs==ys))):=by
 have h1:Pl 1 (.lst (xs.map .int)):=zkr fun d hd=>by obtain⟨z,_,rfl⟩:=List.mem_map.mp hd;exact zif 0 _
 have h2:Pl 1 (.lst (ys.map .int)):=zkr fun d hd=>by obtain⟨z,_,rfl⟩:=List.mem_map.mp hd;exact zif 0 _
 unfold dNe
 rw[h1.1,h2.1,decide_eq_true (Nat.le_trans h1.2 (by lia)),if_pos (by rfl)]
 simp only[eqB]
 rw[zi4]
theorem znS (c:Nat)(f:Nat->Int):((List.range c).map f==HT.usrt ((List.range c).map f))=true↔∀i j,i<j->j<c->f i<f j:=by
 rw[beq_iff_eq]
 constructor
 ·intro e i j hij hj
  have:=HT.zgr ((List.range c).map f)
  rw[<-e,List.pairwise_iff_getElem]at this
  have:=this i j (by simp;lia) (by simp;lia) hij
  simpa using this
 ·intro h
  refine HT.eq_up ?_ (HT.zgr _) fun z=>HT.mem_usrt.symm
  rw[List.pairwise_iff_getElem]
  intro i j hi hj hij
  rw[List.getElem_map,List.getElem_map,List.getElem_range,List.getElem_range]
  exact h i j hij (by simpa using hj)
theorem no_b (h:¬J):∃b,Sl.val (D.bl false)=Sl.val (D.bl b)/\(b=true↔J):=⟨false,rfl,fun z=>(by cases z),fun z=>absurd z h⟩
theorem ziU (hn:n=m+1)(m1:1<=m)(m9:m<=23)(le:∀p,p<n->L p<=G p){c c':Nat}{f r A B:Nat->Int}(c9:c<64)(c9':c'<=900):
  Ok (zaX [zaI 2 m n T L G,.tup (wI c f),.tup (wI n r),.lst (wL c' (pZ A B))]) fun x=>∃b,x= .val (.bl b)/\(b=true↔znw m n T L G c f r c' A B):=by
 have ns:=dNe_l ((List.range c).map f) (HT.usrt ((List.range c).map f))
 rw[<-zkn]at ns
 simp! only[↓zaX,↓zbP,zd1,ns,↓zcb]
 refine⟨by rw[List.length_range];lia,fun h=>no_b fun J=>?_,fun h=>⟨by lia,zaQ (fun ρ=>∃s,ρ=[.val (.int m),s]) (fun i=> .bl (decide (0<=f i/\f i<m))) ⟨_,rfl⟩ ?_ ?_⟩⟩
 ·rw[(znS c f).mpr J.1.1.up]at h;cases h
 ·rintro i _ hi ⟨s,rfl⟩
  simp! only[↓zcj]
  refine⟨fun h=>⟨?_,_,rfl⟩,fun h=>⟨?_,_,rfl⟩⟩
  ·rw[decide_eq_decide.mpr];exact⟨fun q=>⟨h,q⟩,fun q=>q.2⟩
  ·rw[decide_eq_false (by lia)]
 have up:∀i j,i<j->j<c->f i<f j:=(znS c f).mp (by simpa using h)
 rintro _ ⟨s,rfl⟩
 simp! only[zcO]
 refine⟨fun h2=>no_b fun J=>?_,fun h2=>⟨fun h3=>no_b fun J=>?_,fun h3=>?_⟩⟩
 ·have:(((List.range c).map fun i=>decide (0<=f i/\f i<(m:Int))).all id)=true:=(ziX _ _).mpr fun i hi=>decide_eq_true (J.1.1.inr i hi)
  rw[this]at h2;cases h2
 ·have:=J.1.2;lia
 have w:Wr m c f/\c'=c:=⟨⟨up,fun i hi=>of_decide_eq_true ((ziX c fun i=>decide (0<=f i/\f i<(m:Int))).mp (by simpa using h2) i hi)⟩,by lia⟩
 simp! only[↓zcw]
 refine(ziK (n:=n) (r:=r) true (n':=n) (by lia)).mono ?_
 rintro _ ⟨b,rfl,hb⟩
 cases b with
 |false=>
  simp! only[]
  exact no_b fun J=>by have:=hb.mpr ⟨rfl,J.2.1.box⟩;cases this
 |true=>
 have bx:=(hb.mp rfl).2
 simp! only[↓zca]
 refine(zhB (k:=2) (n:=n) (r:=r) true (by lia) (by lia)).mono ?_
 rintro _ rfl
 rw[show n+1-2=m by lia]
 simp! only[↓zce]
 refine⟨zaF (by lia) (by lia),by lia,zaQ (fun ρ=>∃s,ρ=[.val (.tup (wI c f)),.val (.tup (wI m (win 2 r))),.val (zaI 2 m n T L G),s]) (fun i=> .bl (((List.range c).map f).contains (i:Int)||win 2 r i==T i)) ⟨_,rfl⟩ ?_ ?_⟩
 ·rintro i _ hi ⟨s,rfl⟩
  simp! only[↓zci,in_t,zaC _ hi]
  exact⟨fun h=>⟨by rw[h];rfl,_,rfl⟩,fun h=>⟨by rw[h];rfl,_,rfl⟩⟩
 have key:∀i:Nat,(((List.range c).map f).contains (i:Int)||win 2 r i==T i)=true↔((∃j,j<c/\f j=(i:Int))\/r i+r (i+1)=T i):=fun i=>by
  rw[Bool.or_eq_true,beq_iff_eq,win2,List.contains_eq_mem,decide_eq_true_iff,List.mem_map]
  simp only[List.mem_range]
 rintro _ ⟨s,rfl⟩
 simp! only[zcO]
 refine⟨fun h4=>no_b fun J=>?_,fun h4=>?_⟩
 ·have:(((List.range m).map fun i:Nat=>((List.range c).map f).contains (i:Int)||win 2 r i==T i).all id)=true:=(ziX _ _).mpr fun i hi=>(key i).mpr (J.2.1.right i hi)
  rw[this]at h4;cases h4
 have rr:Rr m n T L G c f r:=⟨bx,fun i hi=>(key i).mp ((ziX m fun i:Nat=>((List.range c).map f).contains (i:Int)||win 2 r i==T i).mp (by simpa using h4) i hi)⟩
 simp! only[↓zcx,↓zcl]
 have nj:∀i,i<c'->¬So m T L G A B i->¬znw m n T L G c f r c' A B:=fun i hi h J=>h (J.2.2 i hi)
 refine zbJ (fun i ρ=>∃(s7 s8:Sl),((∀j,j<i->So m T L G A B j)/\ -1<=bef B i)/\ρ=[.val (zaI 2 m n T L G),.val (.tup (wI c f)),.val (.tup (wI n r)),.val (.lst (wL c' (pZ A B))),.val (.int m),.val (.tup (wI m (win 2 r))),.val (.int (bef B i)),s7,s8]) ⟨_,_,⟨fun j hj=>by lia,Int.le_refl _⟩,rfl⟩ ?_ ?_
 ·rintro i _ hi ⟨s7,s8,⟨al,b0⟩,rfl⟩
  simp! only[↓zcd,pZ]
  have can:bef B i<A i->A i<=B i->B i<(m:Int)->Ok (zbh [zaI 2 m n T L G,.int (A i),.int (B i)]) fun x=>∃z,x= .val (.bl z)/\(z=true↔Fit T L G (A i).toNat (B i-A i).toNat):=fun q1 q2 q3=>by
   have:=can_ok (T:=T) hn (by lia) le (a:=(A i).toNat) (c:=(B i-A i).toNat) (by lia) (B i) (by lia)
   rwa[show((A i).toNat:Int)=A i by lia]at this
  refine⟨fun q1=>⟨fun q2=>⟨fun q3=>no_b (nj i hi fun h=>?_),fun q3=>?_⟩,fun q2=>no_b (nj i hi fun h=>?_)⟩,fun q1=>no_b (nj i hi fun h=>?_)⟩
  ·have:=h.1.2.2
   rw[decide_eq_true this]at q3;cases q3
  ·have q3:B i<(m:Int):=by simpa using q3
   refine(can q1 q2 q3).mono ?_
   rintro _ ⟨z,rfl,hz⟩
   cases z with
   |true=>
    simp! only[]
    exact no_b (nj i hi fun h=>h.2 (hz.mp rfl))
   |false=>
    simp! only[↓zcs]
    refine⟨_,_,⟨fun j hj=>?_,?_⟩,rfl⟩
    ·by_cases e:j=i
     ·subst e;exact⟨⟨q1,q2,q3⟩,fun h=>by have:=hz.mpr h;cases this⟩
     ·exact al j (by lia)
    ·show-1<=B i;lia
  ·have:=h.1.2.1;lia
  ·have:=h.1.1;lia
 ·rintro _ ⟨s7,s8,⟨al,-⟩,rfl⟩
  simp! only[]
  exact⟨true,rfl,fun _=>⟨w,rr,al⟩,fun _=>rfl⟩
end
theorem zja {d1 d2 d3:D}(h1:Sq d1 m r)(h2:Sq d2 n L)(h3:Sq d3 n G)(hn:n<=1000):
  Ok (zb5 [d1,d2,d3]) fun x=>∃b,x= .val (.bl b)/\(b=true↔m=n/\∀p,p<n->L p<=r p/\r p<=G p):=by
 simp! only[↓zb5,↓zez,h1.ln,h2.ln]
 refine⟨fun h=>⟨false,rfl,by simp;lia⟩,fun h=>?_⟩
 have e:m=n:=by lia
 subst e
 simp! only[↓zeP,↓zeX,h1.it,h2.it,h3.it]
 refine⟨by lia,zaQ (fun ρ=>∃a b c,ρ=[a,b,c]) (fun p=> .bl (decide (L p<=r p)&&decide (r p<=G p))) ⟨_,_,_,rfl⟩ ?_ ?_⟩
 ·rintro p _ hp ⟨a,b,c,rfl⟩
  simp! only[↓zeU]
  refine⟨fun h=>⟨by simp[h],_,_,_,rfl⟩,fun h=>⟨?_,_,_,_,rfl⟩⟩
  rw[decide_eq_false (by lia)];rfl
 ·rintro _ ⟨a,b,c,rfl⟩
  simp! only[zcO]
  refine⟨_,rfl,?_⟩
  rw[ziX]
  simp
theorem zjU {n k:Nat}(h:Sq d n r)(hk:k<=n)(hn:n<=1000):Ok (zcP [d,.int k]) fun x=>x= .val (.tup (wI (n+1-k) (win k r))):=by
 have hl:((n:Int)-(k:Int)+1).toNat=n+1-k:=by lia
 simp! only[↓zcP,↓zfC,↓ze6,hl,h.ln]
 refine⟨zaF (by lia) (by lia),by lia,zaQ (fun ρ=>∃s,ρ=[.val d,.val (.int k),s]) (fun i=> .int (win k r i)) ⟨_,rfl⟩ ?_ ?_⟩
 ·rintro i _ hi ⟨s,rfl⟩
  have hc:=cut_w (n:=n) (a:=i) (b:=k) (fun j=> .int (r j)) (by lia)
  obtain⟨d',e1,e2⟩:=h.ct (some (i:Int)) (some ((i:Int)+(k:Int)))
  rw[hc]at e2
  simp! only[↓zfx,e1,e2,zd1,zdB]
  exact⟨rfl,_,rfl⟩
 ·rintro _ ⟨s,rfl⟩
  simp! only[]
section
variable {m n:Nat} {T L G:Nat->Int}
theorem znN (c9:c<64):Ok (zhl [.tup (wI c f)]) fun x=>∃b,x= .val (.bl b)/\(b=true↔∀i j,i<j->j<c->f i<f j):=by
 have hc:((c:Int)-1).toNat=c-1:=by lia
 simp! only[↓zhl,↓zky,↓zih,hc]
 refine⟨zaF (by lia) (by lia),by lia,zaQ (fun ρ=>∃s,ρ=[.val (.tup (wI c f)),s]) (fun i=> .bl (decide (f i<f (i+1)))) ⟨_,rfl⟩ ?_ ?_⟩
 ·rintro i _ hi ⟨s,rfl⟩
  have e:(i:Int)+1=((i+1:Nat):Int):=by lia
  simp! only[↓ziw,e,zaC _ (show i<c by lia),zaC _ (show i+1<c by lia)]
  exact⟨_,rfl⟩
 rintro _ ⟨s,rfl⟩
 simp! only[zcO]
 refine⟨_,rfl,?_⟩
 rw[ziX]
 constructor
 ·intro h i j
  induction j with
  |zero=>intro q;lia
  |succ j ih=>
   intro h1 h2
   have h3:f j<f (j+1):=of_decide_eq_true (h j (by lia))
   by_cases e:i=j
   ·rw[e];exact h3
   ·have:=ih (by lia) (by lia);lia
 ·intro h i hi
  exact decide_eq_true (h i (i+1) (by lia) (by lia))
theorem zob (c9:c<64):Ok (zbA [zaI 2 m n T L G,.tup (wI c f)]) fun x=>∃b,x= .val (.bl b)/\(b=true↔Wr m c f):=by
 simp! only[↓zbA,↓zdR]
 refine(znN c9).mono ?_
 rintro _ ⟨b,rfl,hb⟩
 cases b with
 |false=>
  simp! only[]
  exact no_b fun w=>by have:=hb.mpr w.up;cases this
 |true=>
 have up:=hb.mp rfl
 simp! only[↓zel]
 refine⟨by lia,zaQ (fun ρ=>∃s,ρ=[.val (zaI 2 m n T L G),s]) (fun i=> .bl (decide (0<=f i/\f i<m))) ⟨_,rfl⟩ ?_ ?_⟩
 ·rintro i _ hi ⟨s,rfl⟩
  simp! only[↓zen]
  refine⟨fun h=>⟨?_,_,rfl⟩,fun h=>⟨?_,_,rfl⟩⟩
  ·rw[decide_eq_decide.mpr];exact⟨fun q=>⟨h,q⟩,fun q=>q.2⟩
  ·rw[decide_eq_false (by lia)]
 rintro _ ⟨s,rfl⟩
 simp! only[zcO]
 refine⟨_,rfl,?_⟩
 rw[ziX]
 exact⟨fun h=>⟨up,fun i hi=>of_decide_eq_true (h i hi)⟩,fun w i hi=>decide_eq_true (w.inr i hi)⟩
theorem row_iff (hn:n=m+1)(m1:1<=m)(m9:m<=23){dr:D}(h:Sq dr n r):Ok (zcJ [zaI 2 m n T L G,.tup (wI c f),dr]) fun x=>∃b,x= .val (.bl b)/\(b=true↔Rr m n T L G c f r):=by
 simp! only[↓zcJ,↓zfM]
 refine(zja h (Sq.tup n L) (Sq.tup n G) (by lia)).mono ?_
 rintro _ ⟨b,rfl,hb⟩
 cases b with
 |false=>
  simp! only[]
  exact no_b fun w=>by have:=hb.mpr ⟨rfl,w.box⟩;cases this
 |true=>
 have bx:=(hb.mp rfl).2
 simp! only[↓zfl]
 refine(zjU (k:=2) h (by lia) (by lia)).mono ?_
 rintro _ rfl
 rw[show n+1-2=m by lia]
 simp! only[↓zfm,znp]
 refine⟨by lia,zaQ (fun ρ=>∃s s',ρ=[.val (.tup (wI c f)),.val (.tup (wI m (win 2 r))),s,s']) (fun i=> .bl (((List.range c).map f).contains (i:Int)||win 2 r i==T i)) ⟨_,_,rfl⟩ ?_ ?_⟩
 ·rintro i _ hi ⟨s,s',rfl⟩
  simp! only[↓zfd,in_t,zaC _ hi]
  exact⟨fun h=>⟨by rw[h];rfl,_,_,rfl⟩,fun h=>⟨by rw[h];rfl,_,_,rfl⟩⟩
 have key:∀i:Nat,(((List.range c).map f).contains (i:Int)||win 2 r i==T i)=true↔((∃j,j<c/\f j=(i:Int))\/r i+r (i+1)=T i):=fun i=>by
  rw[Bool.or_eq_true,beq_iff_eq,win2,List.contains_eq_mem,decide_eq_true_iff,List.mem_map]
  simp only[List.mem_range]
 rintro _ ⟨s,s',rfl⟩
 simp! only[zcO]
 refine⟨_,rfl,?_⟩
 rw[ziX]
 exact⟨fun h=>⟨bx,fun i hi=>(key i).mp (h i hi)⟩,fun w i hi=>(key i).mpr (w.right i hi)⟩
theorem zjb (hn:n=m+1)(m9:m<=23)(hd:dp= .tup (wL c' (pZ A B))\/dp= .lst (wL c' (pZ A B))):Ok (zaV [zaI 2 m n T L G,dp]) fun x=>∃b,x= .val (.bl b)/\(b=true↔∀i,i<c'->So m T L G A B i):=by
 have loop:∀(Q:Fl×R->Prop),(∀i,i<c'->¬So m T L G A B i->∀ρ,Q (.ret (.val (.bl false)),ρ))->((∀i,i<c'->So m T L G A B i)->∀ρ,Q (.next,ρ))->Ok (forM (fun d ρ=>(gT 2 (zaE (gN 3) (zaE (gN 4) zdS)) d ρ).bind fun ρ'=>zbm ρ') (wL c' (pZ A B)) [.val (zaI 2 m n T L G),.val dp,.val (.int 0),.emp,.emp]) Q:=fun Q hf ht=>by
  refine zbJ (fun i ρ=>∃(s7 s8:Sl),((∀j,j<i->So m T L G A B j)/\ -1<=bef B i)/\ρ=[.val (zaI 2 m n T L G),.val dp,.val (.int (bef B i+1)),s7,s8]) ⟨_,_,⟨fun j hj=>by lia,Int.le_refl _⟩,rfl⟩ ?_ ?_
  ·rintro i _ hi ⟨s7,s8,⟨al,b0⟩,rfl⟩
   have can:bef B i<A i->A i<=B i->B i<(m:Int)->Ok (zaL [zaI 2 m n T L G,.int (A i),.int (B i)]) fun x=>∃z,x= .val (.bl z)/\(z=true↔Fit T L G (A i).toNat (B i-A i).toNat):=fun q1 q2 q3=>by
    have:=znT (T:=T) (L:=L) (G:=G) hn m9 (a:=(A i).toNat) (c:=(B i-A i).toNat) (by lia) (B i) (by lia)
    rwa[show((A i).toNat:Int)=A i by lia]at this
   simp! only[↓zbm,pZ]
   refine⟨fun q1=>⟨fun q2=>⟨fun q3=>hf i hi (fun h=>?_) _,fun q3=>?_⟩,fun q2=>hf i hi (fun h=>?_) _⟩,fun q1=>hf i hi (fun h=>?_) _⟩
   ·have:=h.1.2.2
    rw[decide_eq_true this]at q3;cases q3
   ·have q3:B i<(m:Int):=by simpa using q3
    refine(can (by lia) q2 q3).mono ?_
    rintro _ ⟨z,rfl,hz⟩
    cases z with
    |true=>
     simp! only[]
     exact hf i hi (fun h=>h.2 (hz.mp rfl)) _
    |false=>
     simp! only[↓zck]
     refine⟨_,_,⟨fun j hj=>?_,?_⟩,rfl⟩
     ·by_cases e:j=i
      ·subst e;exact⟨⟨by lia,q2,q3⟩,fun h=>by have:=hz.mpr h;cases this⟩
      ·exact al j (by lia)
     ·show-1<=B i;lia
   ·have:=h.1.2.1;lia
   ·have:=h.1.1;lia
  ·rintro _ ⟨s7,s8,⟨al,-⟩,rfl⟩
   exact ht al _
 rcases hd with rfl|rfl<;>
 ·simp! only[↓zaV,↓zbV,↓zcn]
  refine loop _ (fun i hi h ρ=>?_) (fun h ρ=>?_)
  ·simp! only[]
   exact no_b fun q=>h (q i hi)
  ·simp! only[]
   exact⟨true,rfl,fun _=>h,fun _=>rfl⟩
theorem zh3 (hn:n=m+1)(m1:1<=m)(m9:m<=23)(c9:c<64){dr dp:D}(h:Sq dr n r)(hd:dp= .tup (wL c' (pZ A B))\/dp= .lst (wL c' (pZ A B))):
  Ok (zb3 [zaI 2 m n T L G,.tup [.tup (wI c f),dr,dp]]) fun x=>∃b,x= .val (.bl b)/\(b=true↔znw m n T L G c f r c' A B):=by
 simp! only[↓zb3,↓zeV]
 refine(zob c9).mono ?_
 rintro _ ⟨b,rfl,hb⟩
 cases b with
 |false=>
  simp! only[]
  exact no_b fun J=>by have:=hb.mpr J.1.1;cases this
 |true=>
 have ln:dLen [dp]=some (.int c'):=by rcases hd with rfl|rfl<;>simp only[znR,znE,zaW]
 simp! only[ln]
 refine⟨fun h2=>no_b fun J=>?_,fun h2=>?_⟩
 ·have:=J.1.2;lia
 simp! only[↓zeW]
 refine(row_iff hn m1 m9 h).mono ?_
 rintro _ ⟨b,rfl,hr⟩
 cases b with
 |false=>
  simp! only[]
  exact no_b fun J=>by have:=hr.mpr J.2.1;cases this
 |true=>
 simp! only[]
 refine(zjb hn m9 hd).mono ?_
 rintro _ ⟨b,rfl,hs⟩
 simp! only[]
 exact⟨b,rfl,fun q=>⟨⟨hb.mp rfl,by lia⟩,hr.mp rfl,hs.mp q⟩,fun J=>hs.mpr J.2.2⟩
end
section
theorem dEq_nil (xs:List Int):dEq (.lst (xs.map .int)) (.lst [])=some (.bl (xs==[])):=by
 have h1:Pl 1 (.lst (xs.map .int)):=zkr fun d hd=>by obtain⟨z,_,rfl⟩:=List.mem_map.mp hd;exact zif 0 _
 unfold dEq
 rw[h1.1,decide_eq_true (Nat.le_trans h1.2 (by lia)),if_pos (by rfl)]
 simp only[eqB]
 exact congrArg (fun b=>some (D.bl b)) (zi4 xs [])
theorem zj6 (h:Pot ds)(ns:List Int)(c9:ns.length<=50)(m:Nat)(m1:1<=m)(m9:m<=23):Ok (za6 ds [.tup (ns.map .int),.int m]) fun r=>∃(l:List Int) (ds':List D),l.length<=ns.length+1/\Pot ds'/\(r=(.val (.lst (l.map .int)),ds')\/r=(.own (l.map .int),ds')):=by
 simp! only[↓za6,↓zb6]
 refine(zau h (m:=(ns.length:Int)+1) (by lia) (by lia)).mono ?_
 rintro _ ⟨a,d1,ha,h1,rfl⟩
 simp! only[]
 refine(zau h1 (m:=4) (by lia) (by lia)).mono ?_
 rintro _ ⟨w,d2,hw,h2,rfl⟩
 simp! only[]
 refine(zau h2 (m:=m) (by lia) (by lia)).mono ?_
 rintro _ ⟨x,d3,hx,h3,rfl⟩
 simp! only[]
 refine(zau h3 (m:=6) (by lia) (by lia)).mono ?_
 rintro _ ⟨y,d4,hy,h4,rfl⟩
 have hn:∃v:Int,atI [D.int x,D.int m,D.int (-1)] (max2 0 ((y:Int)-3))=some (.int v):=by
  have:y=0\/y=1\/y=2\/y=3\/y=4\/y=5:=by lia
  rcases this with rfl|rfl|rfl|rfl|rfl|rfl<;>exact⟨_,rfl⟩
 obtain⟨v,ev⟩:=hn
 have e0:cutD (ns.map D.int) none (some (a:Int))=(ns.take a).map .int:=by rw[zf7,List.map_take]
 have e1:cutD (ns.map D.int) (some (a:Int)) none=(ns.drop a).map .int:=by rw[zgd,List.map_drop]
 have e2:cutD (ns.map D.int) (some ((a:Int)+1)) none=(ns.drop (a+1)).map .int:=by rw[show(a:Int)+1=((a+1:Nat):Int) by lia,zgd,List.map_drop]
 have l0:(ns.take a).length=a:=by rw[List.length_take];lia
 have l1:(ns.drop a).length=ns.length-a:=List.length_drop
 have l2:(ns.drop (a+1)).length=ns.length-(a+1):=List.length_drop
 simp! only[ev,e0,e1,dEq_nil]
 have put:(ns.take a).length<=16777215/\(ns.take a).length+1+(ns.drop a).length<=16777216/\∃(l:List Int) (ds':List D),l.length<=ns.length+1/\Pot ds'/\((Sl.val (D.lst ((ns.take a).map D.int++[D.int v]++(ns.drop a).map D.int)),d4)=(Sl.val (D.lst (l.map D.int)),ds')\/(Sl.val (D.lst ((ns.take a).map D.int++[D.int v]++(ns.drop a).map D.int)),d4)=(Sl.own (l.map D.int),ds')):=
  ⟨by lia,by lia,ns.take a++[v]++ns.drop a,d4,by simp only[List.length_append,List.length_cons,List.length_nil];lia,h4,.inl (by simp)⟩
 refine⟨fun _=>put,fun h5=>⟨fun _=>put,fun h6=>?_⟩⟩
 have lt:a<ns.length:=by
  rcases Nat.lt_or_ge a ns.length with q|q
  ·exact q
  ·exact absurd (List.drop_eq_nil_of_le q) h6
 simp! only[↓zcU,↓zcM,↓zcD,e0,e1,e2]
 refine⟨fun _=>⟨by lia,ns.take a++ns.drop (a+1),d4,by rw[List.length_append];lia,h4,.inl (by simp)⟩,fun _=>⟨fun _=>⟨by lia,ns.drop a++ns.take a,d4,by rw[List.length_append];lia,h4,.inl (by simp)⟩,fun _=>?_⟩⟩
 exact⟨lt,ns.set a v,d4,by rw[List.length_set];lia,h4,.inr (by rw[List.map_set])⟩
abbrev pP (p:Int×Int):D:= .tup [.int p.1,.int p.2]
theorem dEq_nil2 (xs:List (Int×Int)):dEq (.lst (xs.map pP)) (.lst [])=some (.bl xs.isEmpty):=by
 have h1:Pl 2 (.lst (xs.map pP)):=zkr fun d hd=>by
  obtain⟨z,_,rfl⟩:=List.mem_map.mp hd
  exact zmG fun d hd=>by
   simp only[List.mem_cons,List.not_mem_nil,or_false]at hd
   rcases hd with rfl|rfl<;>exact zif 0 _
 unfold dEq
 rw[h1.1,decide_eq_true (Nat.le_trans h1.2 (by lia)),if_pos (by rfl)]
 cases xs<;>rfl
theorem zjf (h:Pot ds)(ns:List (Int×Int))(c9:ns.length<=50)(m:Nat)(m1:1<=m)(m9:m<=23):Ok (zaR ds [.lst (ns.map pP),.int m]) fun r=>∃(l:List (Int×Int)) (ds':List D),l.length<=ns.length+1/\Pot ds'/\(r=(.val (.lst (l.map pP)),ds')\/r=(.own (l.map pP),ds')):=by
 simp! only[↓zaR,↓zbQ]
 refine(zau h (m:=(ns.length:Int)+1) (by lia) (by lia)).mono ?_
 rintro _ ⟨a,d1,ha,h1,rfl⟩
 simp! only[]
 refine(zau h1 (m:=5) (by lia) (by lia)).mono ?_
 rintro _ ⟨w,d2,hw,h2,rfl⟩
 have e0:cutD (ns.map pP) none (some (a:Int))=(ns.take a).map pP:=by rw[zf7,List.map_take]
 have e1:cutD (ns.map pP) (some (a:Int)) none=(ns.drop a).map pP:=by rw[zgd,List.map_drop]
 have e2:cutD (ns.map pP) (some ((a:Int)+1)) none=(ns.drop (a+1)).map pP:=by rw[show(a:Int)+1=((a+1:Nat):Int) by lia,zgd,List.map_drop]
 have l0:(ns.take a).length=a:=by rw[List.length_take];lia
 have l1:(ns.drop a).length=ns.length-a:=List.length_drop
 have l2:(ns.drop (a+1)).length=ns.length-(a+1):=List.length_drop
 simp! only[e0,e1,dEq_nil2]
 refine⟨fun _=>?_,fun h5=>⟨fun _=>?_,fun h6=>?_⟩⟩
 ·refine(zau h2 (m:=m) (by lia) (by lia)).mono ?_
  rintro _ ⟨x,d3,hx,h3,rfl⟩
  simp! only[e0]
  refine(zau h3 (m:=3) (by lia) (by lia)).mono ?_
  rintro _ ⟨y,d4,hy,h4,rfl⟩
  simp! only[e0,e1]
  exact⟨by lia,by lia,ns.take a++[((x:Int),(x:Int)+y)]++ns.drop a,d4,by simp only[List.length_append,List.length_cons,List.length_nil];lia,h4,.inl (by simp)⟩
 ·refine(zau h2 (m:=m) (by lia) (by lia)).mono ?_
  rintro _ ⟨x,d3,hx,h3,rfl⟩
  simp! only[e0]
  refine(zau h3 (m:=3) (by lia) (by lia)).mono ?_
  rintro _ ⟨y,d4,hy,h4,rfl⟩
  simp! only[e0,e1]
  exact⟨by lia,by lia,ns.take a++[((x:Int),(x:Int)+y)]++ns.drop a,d4,by simp only[List.length_append,List.length_cons,List.length_nil];lia,h4,.inl (by simp)⟩
 have lt:a<ns.length:=by
  rcases Nat.lt_or_ge a ns.length with q|q
  ·exact q
  ·rw[List.drop_eq_nil_of_le q]at h6;cases h6
 simp! only[↓zco,↓zcv,e0,e1,e2]
 refine⟨fun _=>⟨by lia,ns.take a++ns.drop (a+1),d2,by rw[List.length_append];lia,h2,.inl (by simp)⟩,fun _=>⟨fun _=>⟨by lia,ns.drop a++ns.take a,d2,by rw[List.length_append];lia,h2,.inl (by simp)⟩,fun _=>?_⟩⟩
 have eg:(ns.map pP)[a]? =some (pP ns[a]):=by rw[List.getElem?_map,List.getElem?_eq_getElem lt];rfl
 simp! only[↓zct,eg]
 refine(zau h2 (m:=5) (by lia) (by lia)).mono ?_
 rintro _ ⟨y,d3,hy,h3,rfl⟩
 have hw':w=3\/w=4:=by lia
 rcases hw' with rfl|rfl
 ·have ei:((3:Nat):Int)-3=0:=rfl
  simp! only[ei]
  exact⟨lt,ns.set a (ns[a].1+((y:Int)-2),ns[a].2),d3,by rw[List.length_set];lia,h3,.inr (by rw[List.map_set])⟩
 ·have ei:((4:Nat):Int)-3=1:=rfl
  simp! only[ei]
  exact⟨lt,ns.set a (ns[a].1,ns[a].2+((y:Int)-2)),d3,by rw[List.length_set];lia,h3,.inr (by rw[List.map_set])⟩
end
section
theorem zkq (h:Pot ds)(hd:d= .tup xs\/d= .lst xs):Ok (zbk ds [d]) fun r=>∃ds',Pot ds'/\(r=(.val (.lst xs),ds')\/r=(.val (.tup xs),ds')):=by
 have two:∀i:Nat,(i:Int)<2->i=0\/i=1:=fun i hi=>by lia
 rcases hd with rfl|rfl<;>
 ·simp! only[↓zbk,↓zdT]
  refine(zau h (m:=2) (by lia) (by lia)).mono ?_
  rintro _ ⟨i,d1,hi,h1,rfl⟩
  rcases two i hi with rfl|rfl
  ·have e0:((0:Nat):Int)=0:=rfl
   simp! only[e0]
   exact⟨d1,h1,.inl rfl⟩
  ·have e0:((1:Nat):Int)=1:=rfl
   simp! only[e0]
   exact⟨d1,h1,.inr rfl⟩
theorem zjQ (h:Pot ds){k m n:Nat}{T L G:Nat->Int}(ok:LineOk k m n L G):Ok (za5 ds [zaI k m n T L G]) fun r=>∃(q:Nat->Int) (ds':List D),Pot ds'/\r=(.own (wI n q),ds'):=by
 have n24:=ok.n24
 simp! only[↓za5,↓zb8,↓zcN,ziz]
 refine zbJ (fun i ρ=>∃(q:Nat->Int) (ds':List D) (s3 s4:Sl),Pot ds'/\ρ=[.par ds',.val (zaI k m n T L G),.own (wI i q),s3,s4]) ⟨fun _=>0,ds,_,_,h,rfl⟩ ?_ ?_
 ·rintro p _ hp ⟨q,d1,s3,s4,h1,rfl⟩
  have le:=ok.le p hp
  have far:=ok.far p hp
  simp! only[↓zcE]
  refine(zau h1 (m:=G p-L p+1) (by lia) (by lia)).mono ?_
  rintro _ ⟨x,d2,hx,h2,rfl⟩
  simp! only[]
  refine(zau h2 (m:=3) (by lia) (by lia)).mono ?_
  rintro _ ⟨y,d3,hy,h3,rfl⟩
  have hn:∃v:Int,[D.int (L p),D.int (G p),D.int (L p+(x:Int))][y]? =some (.int v):=by
   have:y=0\/y=1\/y=2:=by lia
   rcases this with rfl|rfl|rfl<;>exact⟨_,rfl⟩
  obtain⟨v,ev⟩:=hn
  simp! only[ev]
  exact⟨by lia,_,d3,_,_,h3,by rw[zhp]⟩
 ·rintro _ ⟨q,d1,s3,s4,h1,rfl⟩
  simp! only[]
  exact⟨q,d1,h1,rfl⟩
theorem notin_t (x:Int)(c:Nat)(f:Nat->Int):zii (.int x) (.tup (wI c f))=some (.bl (!((List.range c).map f).contains x)):=by
 refine(show zii (.int x) (.tup (wI c f))=zii (.int x) (.lst (wI c f))from rfl).trans ?_
 rw[zkn];exact notInL _ _
theorem zi1 (h:Pot ds)(n1:1<=n)(n9:n<=24):Ok (zaU ds [.tup (wI n r),.tup (wI c f)]) fun x=>∃(q:Nat->Int) (ds':List D),Pot ds'/\x=(.own (wI n q),ds'):=by
 simp! only[↓zaU,↓zbR]
 refine(zau h (m:=n) (by lia) (by lia)).mono ?_
 rintro _ ⟨a,d1,ha,h1,rfl⟩
 simp! only[]
 refine(zau h1 (m:=7) (by lia) (by lia)).mono ?_
 rintro _ ⟨y,d2,hy,h2,rfl⟩
 have la:a<n:=by lia
 simp! only[zaC _ la,zlf _ _ la,↓zcf]
 refine⟨la,zm4 (enc:=fun z:Int=>D.int z) (l:=[1,-1]) (fun i ρ=>∃(q:Nat->Int) (s6 s7:Sl),ρ=[.par d2,.val (.tup (wI n r)),.val (.tup (wI c f)),.val (.int a),.val (.int ((y:Int)-3)),.own (wI n q),s6,s7]) ⟨_,_,_,rfl⟩ ?_ ?_⟩
 ·rintro i s _ hs ⟨q,s6,s7,rfl⟩
  have hs:s=1\/s= -1:=by
   have:=List.mem_of_getElem? hs
   simpa using this
  simp! only[↓zcq,↓zcu]
  refine zlL (fun k ρ=>∃(q:Nat->Int) (b:Nat),b<n/\k=(if s=1 then n-1-b else b)/\ρ=[.par d2,.val (.tup (wI n r)),.val (.tup (wI c f)),.val (.int a),.val (.int ((y:Int)-3)),.own (wI n q),.val (.int s),.val (.int b)]) ?_ 400 (if s=1 then n-1-a else a) _ (by split<;>lia) ⟨q,a,la,rfl,rfl⟩
  rintro k _ ⟨q,b,lb,rfl,rfl⟩
  simp! only[↓zch,notin_t]
  refine⟨fun z1=>⟨fun z2=>⟨fun z3=>⟨(if s=1 then n-1-b else b)-1,by split<;>lia,?_⟩,fun z3=>⟨_,_,_,rfl⟩⟩,fun _=>⟨_,_,_,rfl⟩⟩,fun _=>⟨_,_,_,rfl⟩⟩
  obtain⟨b',eb⟩:∃b':Nat,(b:Int)+s=(b':Int):=⟨((b:Int)+s).toNat,by lia⟩
  have lb':b'<n:=by lia
  simp! only[↓zcc,eb,zaC _ lb',zlf _ _ lb']
  exact⟨zdN (by lia),zdN (by lia),lb',_,b',lb',by rcases hs with rfl|rfl<;>simp<;>lia,rfl⟩
 ·rintro _ ⟨q,s6,s7,rfl⟩
  simp! only[]
  exact⟨q,d2,h2,rfl⟩
end
section
variable {m n:Nat}
abbrev tolD (n:Nat)(ns:List Int)(r:Nat->Int)(ps:List (Int×Int)):D:= .tup [.tup (ns.map .int),.tup (wI n r),.lst (ps.map pP)]
theorem bent_2 (h:Pot ds)(hW:dW= .tup (ns.map .int)\/dW= .lst (ns.map .int))(hR:dR= .tup (wI n r)\/dR= .lst (wI n r))(l t:Sl)(w:Int)(s8:Sl)
  (hQ:∀(ns':List Int) (ds':List D) (a:List Sl),ns'.length<=ns.length->Pot ds'->Q (.ret (.val (tolD n ns' r ps)),.par ds'::a)):
  Ok (zc4 [.par ds,l,t,.val dW,.val dR,.val (.lst (ps.map pP)),.val (.int m),.val (.int w),s8]) Q:=by
 simp! only[↓zc4]
 refine(zau h (m:=4) (by lia) (by lia)).mono ?_
 rintro _ ⟨y,d2,hy,h2,rfl⟩
 have ec:cutD (ns.map D.int) none (some (ps.length:Int))=(ns.take ps.length).map .int:=by rw[zf7,List.map_take]
 rcases hW with rfl|rfl<;>rcases hR with rfl|rfl<;>
 ·simp! only[↓zfb,ec]
  refine⟨fun _=>?_,fun _=>?_⟩
  ·exact hQ (ns.take ps.length) _ _ (by rw[List.length_take];lia) h2
  ·exact hQ ns _ _ (Nat.le_refl _) h2
theorem bent_3 (h:Pot ds)(hW:dW= .tup (ns.map .int)\/dW= .lst (ns.map .int))(hR:dR= .tup (wI n r)\/dR= .lst (wI n r))(m1:1<=m)(m9:m<=23)(p9:ps.length<=50)(l t:Sl)(w:Int)(s8:Sl)
  (hQ:∀(ns':List Int) (ps':List (Int×Int)) (ds':List D) (a:List Sl),ns'.length<=ns.length->ps'.length<=ps.length+1->Pot ds'->Q (.ret (.val (tolD n ns' r ps')),.par ds'::a)):
  Ok (zb0 [.par ds,l,t,.val dW,.val dR,.val (.lst (ps.map pP)),.val (.int m),.val (.int w),s8]) Q:=by
 simp! only[↓zb0]
 refine⟨fun _=>?_,fun _=>?_⟩
 ·refine(zjf h ps p9 m m1 m9).mono ?_
  rintro _ ⟨q,d2,lq,h2,rfl|rfl⟩<;>
  ·simp! only[]
   exact bent_2 h2 hW hR l t w s8 fun ns' ds' a l1 h3=>hQ ns' q ds' a l1 lq h3
 ·exact bent_2 h hW hR l t w s8 fun ns' ds' a l1 h3=>hQ ns' ps ds' a l1 (by lia) h3
theorem zos (h:Pot ds){T L G:Nat->Int}(ok:LineOk k m n L G)(hW:dW= .tup (ns.map .int)\/dW= .lst (ns.map .int))(hR:dR= .tup (wI n r)\/dR= .lst (wI n r))(m1:1<=m)(m9:m<=23)(p9:ps.length<=50)(t:Sl)(w:Int)(s8:Sl)
  (hQ:∀(ns':List Int) (r':Nat->Int) (ps':List (Int×Int)) (ds':List D) (a:List Sl),ns'.length<=ns.length->ps'.length<=ps.length+1->Pot ds'->Q (.ret (.val (tolD n ns' r' ps')),.par ds'::a)):
  Ok (zdh [.par ds,.val (zaI k m n T L G),t,.val dW,.val dR,.val (.lst (ps.map pP)),.val (.int m),.val (.int w),s8]) Q:=by
 have go:∀{ds:List D} (h:Pot ds) {r':Nat->Int} {dR:D} (hR:dR= .tup (wI n r')\/dR= .lst (wI n r')) (s8:Sl),Ok (zb0 [.par ds,.val (zaI k m n T L G),t,.val dW,.val dR,.val (.lst (ps.map pP)),.val (.int m),.val (.int w),s8]) Q:=fun{ds} h {r'} {dR} hR s8=>
  bent_3 h hW hR m1 m9 p9 _ t w s8 fun ns' ps' ds' a l1 l2 h3=>hQ ns' r' ps' ds' a l1 l2 h3
 have n24:=ok.n24
 have kn:=ok.kn
 have k2:=ok.k2
 have es:∀(b:Nat) (v:Int),b<n->List.take b (wI n r)++[D.int v]++List.drop (b+1) (wI n r)=wI n fun j=>if j=b then v else r j:=fun b v lb=>by
  rw[<-zlf r _ lb,List.set_eq_take_append_cons_drop,if_pos (by rw[zaW];exact lb),List.append_assoc];rfl
 simp! only[↓zdh]
 refine⟨fun e3=>?_,fun e3=>?_⟩
 ·refine(zau h (m:=3) (by lia) (by lia)).mono ?_
  rintro _ ⟨y,d2,hy,h2,rfl⟩
  simp! only[]
  refine⟨fun _=>?_,fun _=>?_⟩
  ·refine(zjQ h2 ok).mono ?_
   rintro _ ⟨q,d3,h3,rfl⟩
   simp! only[]
   exact go h3 (.inr rfl) _
  ·refine⟨fun _=>?_,fun q=>absurd e3 q⟩
   rcases hR with rfl|rfl<;>
   ·simp! only[]
    refine(zau h2 (m:=n) (by lia) (by lia)).mono ?_
    rintro _ ⟨b,d4,hb,h4,rfl⟩
    have lb:b<n:=by lia
    simp! only[zf7,zaC _ lb]
    refine(zau h4 (m:=3) (by lia) (by lia)).mono ?_
    rintro _ ⟨z,d5,hz,h5,rfl⟩
    have e3:(b:Int)+1=((b+1:Nat):Int):=by lia
    have l1:(List.take b (wI n r)).length<=n:=by rw[List.length_take,zaW];lia
    have l2:(List.drop (b+1) (wI n r)).length<=n:=by rw[List.length_drop,zaW];lia
    simp! only[zf7,zgd,e3,es _ _ lb]
    exact⟨by lia,by lia,go h5 (.inr rfl) _⟩
 ·exact⟨fun q=>absurd q e3,fun _=>go h hR _⟩
end
section
variable {m n:Nat}
theorem bent_ok (h:Pot ds){T L G:Nat->Int}(ok:LineOk 2 m n L G)(n9:ns.length<=49)(p9:ps.length<=49):
  Ok (zcQ ds [zaI 2 m n T L G,tolD n ns r ps]) fun x=>∃(ns':List Int) (r':Nat->Int) (ps':List (Int×Int)) (ds':List D),ns'.length<=ns.length+1/\ps'.length<=ps.length+1/\Pot ds'/\x=(.val (tolD n ns' r' ps'),ds'):=by
 have n24:=ok.n24
 have kn:=ok.kn
 have hs:=ok.s
 simp! only[↓zcQ,↓zfQ]
 refine(zau h (m:=6) (by lia) (by lia)).mono ?_
 rintro _ ⟨w,d1,hw,h1,rfl⟩
 simp! only[]
 refine⟨fun _=>?_,fun _=>?_⟩
 ·refine(zj6 h1 ns (by lia) m (by lia) (by lia)).mono ?_
  rintro _ ⟨q,d2,lq,h2,rfl|rfl⟩<;>
  ·simp! only[↓zc8]
   refine⟨fun _=>by lia,fun _=>?_⟩
   refine zos h2 ok (.inr rfl) (.inl rfl) (by lia) (by lia) (by lia) _ _ _ fun ns' r' ps' ds' a l1 l2 h3=>?_
   simp! only[]
   exact⟨ns',r',ps',ds',by lia,l2,h3,rfl⟩
 ·simp! only[↓zc8]
  refine⟨fun _=>?_,fun _=>?_⟩
  ·rw[show ns.map D.int=wI ns.length fun i=>ns.getD i 0 from zin ns 0 D.int]
   refine(zi1 h1 (by lia) n24).mono ?_
   rintro _ ⟨q,d2,h2,rfl⟩
   rw[<-show ns.map D.int=wI ns.length fun i=>ns.getD i 0 from zin ns 0 D.int]
   simp! only[]
   refine zos h2 ok (.inl rfl) (.inr rfl) (by lia) (by lia) (by lia) _ _ _ fun ns' r' ps' ds' a l1 l2 h3=>?_
   simp! only[]
   exact⟨ns',r',ps',ds',by lia,l2,h3,rfl⟩
  ·refine zos h1 ok (.inl rfl) (.inl rfl) (by lia) (by lia) (by lia) _ _ _ fun ns' r' ps' ds' a l1 l2 h3=>?_
   simp! only[]
   exact⟨ns',r',ps',ds',by lia,l2,h3,rfl⟩
end
section
theorem zjr (h:Pot ds):
  Ok (za7 ds []) fun r=>∃(s n:Nat) (S L G:Nat->Int) (ds':List D),Pot ds'/\LineOk 2 s n L G/\r=(.val (zaI 2 s n S L G),ds'):=by
 simp! only[↓za7,↓zb7]
 refine(zau h (m:=6) (by lia) (by lia)).mono ?_
 rintro _ ⟨y,d2,hy,h2,rfl⟩
 have hy':∃w:Nat,12<=w/\w<=24/\[D.int 12,D.int 24][y/5]? =some (.int w):=by
  have:y/5=0\/y/5=1:=by lia
  rcases this with e|e<;>rw[e]
  ·exact⟨12,by lia,by lia,rfl⟩
  ·exact⟨24,by lia,by lia,rfl⟩
 obtain⟨w,hw,hw',ew⟩:=hy'
 have ey:(y:Int)/5=((y/5:Nat):Int):=by lia
 simp! only[ey,ew]
 refine⟨zkB (by lia) (by lia),?_⟩
 refine(zau h2 (m:=5) (by lia) (by lia)).mono ?_
 rintro _ ⟨v,d3,hv,h3,rfl⟩
 simp! only[]
 rw[show(1:Int)+(v:Int)=((1+v:Nat):Int) by lia]
 refine(line_ok h3 2 w (1+v) (by lia) (by lia) (by lia) (by lia) (by lia) (by lia)).mono ?_
 rintro _ ⟨s,n,S,L,G,d4,h4,ok,rfl⟩
 simp! only[]
 exact⟨_,_,_,_,_,_,h4,ok,rfl⟩
theorem told_w (c:Nat)(A B:Nat->Nat):wL c (pD3 A B)=((List.range c).map fun i=>((A i:Int),(B i:Int))).map pP:=by simp[wL,List.map_map,Function.comp_def]
theorem pl_pairs (ps:List (Int×Int)):Pl 2 (.lst (ps.map pP)):=zkr fun d hd=>by
 obtain⟨z,_,rfl⟩:=List.mem_map.mp hd
 exact zmG fun d hd=>by
  simp only[List.mem_cons,List.not_mem_nil,or_false]at hd
  rcases hd with rfl|rfl<;>exact zif 0 _
theorem math (ns:List Int)(hl:ns.length<=63):zjT [.scr ns]=some (.val (.bl true)):=by
 have:Ok (zjT [.scr ns]) fun x=>x= .val (.bl true):=by
  have hm:∃m:Nat,m<=6/\max2 2 (min2 (ns.length:Int) 6)=(m:Int):=by
   unfold max2 min2
   exact⟨(if(if(6:Int)<(ns.length:Int)then 6 else(ns.length:Int))>2 then(if(6:Int)<(ns.length:Int)then 6 else(ns.length:Int))else 2).toNat,by split<;>split<;>lia,by split<;>split<;>lia⟩
  obtain⟨M,hM,eM⟩:=hm
  simp! only[↓zjT,↓m_law,↓zlq,eM]
  refine⟨zaF (by lia) (by lia),zbJ (fun i ρ=>∃s1 s2 s3 s4 s5 s6 s7 s8 s9,ρ=[.val (.scr ns),s1,s2,s3,s4,s5,s6,s7,s8,s9]) ⟨_,_,_,_,_,_,_,_,_,rfl⟩ ?_ ?_⟩
  ·rintro i _ hi ⟨s1,s2,s3,s4,s5,s6,s7,s8,s9,rfl⟩
   simp! only[↓zlt]
   refine(deal_ok ns i (by lia)).mono ?_
   rintro _ ⟨d1,h1,rfl⟩
   simp! only[]
   refine(zjr h1).mono ?_
   rintro _ ⟨m,n,T,L,G,d2,h2,ok,rfl⟩
   have n24:=ok.n24
   have kn:=ok.kn
   have hs:=ok.s
   have hn:n=m+1:=by lia
   simp! only[]
   refine(tell_ok hn (by lia) ok.le).mono ?_
   rintro _ ⟨c,A,B,r,t,rfl⟩
   have cm:=t.len
   rw[zkn,told_w]
   simp! only[↓zlx]
   generalize eF:(List.range c).map (fun i=>((B i:Nat):Int))=ns0
   generalize eP:(List.range c).map (fun i=>(((A i:Nat):Int),((B i:Nat):Int)))=ps0
   have ln:ns0.length=c:=by rw[<-eF];simp
   have lp:ps0.length=c:=by rw[<-eP];simp
   refine⟨rfl,zbJ (fun _ ρ=>∃d s5 s6 s7 s8 s9,Pot d/\ρ=[.val (.scr ns),.val (.int i),.own d,.val (zaI 2 m n T L G),.val (tolD n ns0 r ps0),s5,s6,s7,s8,s9]) ⟨_,_,_,_,_,_,h2,rfl⟩ ?_ ?_⟩
   ·rintro j _ hj ⟨d,s5,s6,s7,s8,s9,h3,rfl⟩
    simp! only[↓zl1,↓zlN]
    refine(zau h3 (m:=2) (by lia) (by lia)).mono ?_
    rintro _ ⟨x,d4,hx,h4,rfl⟩
    have hK:∃K:Nat,K<=2/\(min2 (j:Int) (1+(x:Int))).toNat=K/\zdE (min2 (j:Int) (1+(x:Int)))=true:=⟨_,by unfold min2;split<;>lia,rfl,zaF (by unfold min2;split<;>lia) (by unfold min2;split<;>lia)⟩
    obtain⟨K,hK2,eK,sK⟩:=hK
    simp! only[eK,sK]
    refine zbJ (fun b ρ=>∃ns1 r1 ps1 d s7,ns1.length<=23+b/\ps1.length<=23+b/\Pot d/\ρ=[.val (.scr ns),.val (.int i),.own d,.val (zaI 2 m n T L G),.val (tolD n ns0 r ps0),.val (.int j),.val (tolD n ns1 r1 ps1),s7,s8,s9]) ⟨ns0,r,ps0,_,_,by lia,by lia,h4,rfl⟩ ?_ ?_
    ·rintro b _ hb ⟨ns1,r1,ps1,d,s7,l1,l2,h5,rfl⟩
     simp! only[↓zlG]
     refine(bent_ok h5 ok (by lia) (by lia)).mono ?_
     rintro _ ⟨ns2,r2,ps2,d6,l3,l4,h6,rfl⟩
     simp! only[]
     exact⟨ns2,r2,ps2,_,_,by lia,by lia,h6,rfl⟩
    ·rintro _ ⟨ns1,r1,ps1,d,s7,l1,l2,h5,rfl⟩
     simp! only[]
     refine(zkq h5 (.inl rfl)).mono ?_
     rintro X1 ⟨d6,h6,hr⟩
     obtain⟨dr,sq,tr,rfl⟩:∃dr,Sq dr n r1/\zbp [dr]=some (.tup (wI n r1))/\X1=(.val dr,d6):=by
      rcases hr with rfl|rfl
      ·exact⟨_,Sq.lst n r1,zl2 _,rfl⟩
      ·exact⟨_,Sq.tup n r1,zlT _,rfl⟩
     simp! only[]
     refine(zkq h6 (.inr rfl)).mono ?_
     rintro X2 ⟨d7,h7,hp⟩
     obtain⟨dp,hd,tp,rfl⟩:∃dp,(dp= .tup (ps1.map pP)\/dp= .lst (ps1.map pP))/\zax [dp]=some (ps1.map pP)/\X2=(.val dp,d7):=by
      rcases hp with rfl|rfl
      ·exact⟨_,.inr rfl,zlw _,rfl⟩
      ·exact⟨_,.inl rfl,zli _,rfl⟩
     simp! only[]
     have en:ns1.map D.int=wI ns1.length fun i=>ns1.getD i 0:=zin ns1 0 D.int
     have ep:ps1.map pP=wL ps1.length (pZ (fun i=>(ps1.getD i (0,0)).1) fun i=>(ps1.getD i (0,0)).2):=zin ps1 (0,0) pP
     have tb:(!("bool":Str)==("bool":Str))=false:=by decide
     have tc:(["int","bool","tuple","list","str"]:List String).contains "bool"=true:=by decide
     obtain⟨X3,e3,b1,rfl,hb1⟩:=zh3 (T:=T) (L:=L) (G:=G) (f:=fun i=>ns1.getD i 0) hn (by lia) (by lia) (c:=ns1.length) (by lia) sq (ep ▸ hd)
     obtain⟨X4,e4,b2,rfl,hb2⟩:=ziU (T:=T) (L:=L) (G:=G) (f:=fun i=>ns1.getD i 0) (r:=r1) (A:=fun i=>(ps1.getD i (0,0)).1) (B:=fun i=>(ps1.getD i (0,0)).2) hn (by lia) (by lia) ok.le (c:=ns1.length) (c':=ps1.length) (by lia) (by lia)
     rw[<-en]at e3 e4
     rw[<-ep]at e4
     have eb:b1=b2:=by
      cases b1<;>cases b2<;>simp_all
     subst eb
     have bb:dNe (.bl b1) (.bl b1)=some (.bl false):=by cases b1<;>rfl
     have n1:dNe (.tup (wI n r1)) (.tup (wI n r1))=some (.bl false):=(zmG (pl_w fun c=>zif 0 _)).ne (by decide)
     have n2:dNe (.lst (ps1.map pP)) (.lst (ps1.map pP))=some (.bl false):=(pl_pairs ps1).ne (by decide)
     simp! only[e3,e4,bb,tb,tc,tr,tp,n1,n2,↓zlH]
     exact⟨fun z=>absurd z (by decide),fun _=>⟨_,_,_,_,_,_,h7,rfl⟩⟩
   ·rintro _ ⟨d,s5,s6,s7,s8,s9,h3,rfl⟩
    exact⟨_,_,_,_,_,_,_,_,_,rfl⟩
  ·rintro _ ⟨s1,s2,s3,s4,s5,s6,s7,s8,s9,rfl⟩
   simp! only[]
 obtain⟨_,e,rfl⟩:=this
 exact e
end
end Prf
def PySem.W.Fast.tw17061442209231550917:Nat:=0
def PySem.W.Fast.tw1087712912988104486:Nat:=0
def PySem.W.Fast.tw1476165837819237804:Nat:=0
def PySem.W.Fast.tw15193457677701960429:Nat:=0
def PySem.W.Fast.tw4811832854682468849:Nat:=0
def PySem.W.Fast.tw5458192358097747695:Nat:=0
def PySem.W.Fast.tw1826712779546730480:Nat:=0
def PySem.W.Fast.tw15199916534945073120:Nat:=0
def PySem.W.Fast.tw11485538118492529500:Nat:=0
def PySem.W.Fast.tw6879564483149307931:Nat:=0
def PySem.W.Fast.tw6377056447199016079:Nat:=0
def PySem.W.Fast.tw9179883921178766372:Nat:=0
def PySem.W.Fast.tw12141870131089364287:Nat:=0
def PySem.W.Fast.tw7816698016043838336:Nat:=0
def PySem.W.Fast.tw13521069746237348300:Nat:=0
def PySem.W.Fast.tw10930343463509735351:Nat:=0
def PySem.W.Fast.tw15466048573681630424:Nat:=0
def PySem.W.Fast.tw4026669017794160347:Nat:=0
def PySem.W.Fast.tw672680064610067884:Nat:=0
def PySem.W.Fast.tw7987072908235845003:Nat:=0
def PySem.W.Fast.tw15478780553198516070:Nat:=0
def PySem.W.Fast.tw15458058276772895844:Nat:=0
def PySem.W.Fast.tw5376197431338953394:Nat:=0
def PySem.W.Fast.tw17818898081681096445:Nat:=0
def PySem.W.Fast.tw6007746072928438494:Nat:=0
def PySem.W.Fast.tw6003983577097622694:Nat:=0
def PySem.W.Fast.tw10487274663371584471:Nat:=0
def PySem.W.Fast.tw10993805260031740700:Nat:=0
def PySem.W.Fast.tw1280481535184650044:Nat:=0
def PySem.W.Fast.tw15244630192920317045:Nat:=0
def PySem.W.Fast.tw16397065831954805094:Nat:=0
def PySem.W.Fast.tw13619948820244309714:Nat:=0
def PySem.W.Fast.tw8665601716792205719:Nat:=0
def PySem.W.Fast.tw5570216034987081533:Nat:=0
def PySem.W.Fast.tw16337594660396956774:Nat:=0
def PySem.W.Fast.tw7100436809608299352:Nat:=0
def PySem.W.Fast.tw4569812469675924968:Nat:=0
def PySem.W.Fast.tw1964150132294137364:Nat:=0
def PySem.W.Fast.tw15350582423403708289:Nat:=0
def PySem.W.Fast.tw14753537581882827709:Nat:=0
def PySem.W.Fast.tw12629500144506182056:Nat:=0
def PySem.W.Fast.tw15614153347316032597:Nat:=0
def PySem.W.Fast.tw8293457111922946359:Nat:=0
def PySem.W.Fast.tw17159864767238942192:Nat:=0
def PySem.W.Fast.tw12899190591263336525:Nat:=0
def PySem.W.Fast.tw4439695831154408325:Nat:=0
def PySem.W.Fast.tw9821658676251375345:Nat:=0
def PySem.W.Fast.tw16534581919220798335:Nat:=0
def PySem.W.Fast.tw17863861563714472306:Nat:=0
def PySem.W.Fast.tw7436228365639200658:Nat:=0
def PySem.W.Fast.tw12082134420427236331:Nat:=0
def PySem.W.Fast.tw13684390238210642118:Nat:=0
def PySem.W.Fast.tw18102814338972065454:Nat:=0
def PySem.W.Fast.tw2303772222572302283:Nat:=0
def PySem.W.Fast.tw12686585860915532362:Nat:=0
def PySem.W.Fast.tw4747897950643334888:Nat:=0
def PySem.W.Fast.tw4137051924542008455:Nat:=0
def PySem.W.Fast.tw10947257162374186841:Nat:=0
def PySem.W.Fast.tw5866244796553109694:Nat:=0
def PySem.W.Fast.tw466868531436102040:Nat:=0
def PySem.W.Fast.tw11036461356081842472:Nat:=0
def PySem.W.Fast.tw17701043439547508146:Nat:=0
def PySem.W.Fast.tw17987233348046695620:Nat:=0
def PySem.W.Fast.tw16957779678692720065:Nat:=0
def PySem.W.Fast.tw16528664886330778612:Nat:=0
def PySem.W.Fast.tw12753188349628641768:Nat:=0
def PySem.W.Fast.tw6554678496367992632:Nat:=0
def PySem.W.Fast.tw13999175882647061443:Nat:=0
def PySem.W.Fast.tw814701626244045460:Nat:=0
def PySem.W.Fast.tw9616387420753067072:Nat:=0
def PySem.W.Fast.tw17014971709477815207:Nat:=0
def PySem.W.Fast.tw16256803374960627771:Nat:=0
def PySem.W.Fast.tw15842280463352495528:Nat:=0
def PySem.W.Fast.tw10296060568818952310:Nat:=0
def PySem.W.Fast.tw13359482609593394233:Nat:=0
def PySem.W.Fast.tw452645736824767063:Nat:=0
def PySem.W.Fast.tw17362548428929732465:Nat:=0
def PySem.W.Fast.tw6275363481393793422:Nat:=0
def PySem.W.Fast.tw9827563642783130503:Nat:=0
def PySem.W.Fast.tw9951047250986317771:Nat:=0
def PySem.W.Fast.tw2508775488716496509:Nat:=0
def PySem.W.Fast.tw13783962018157895412:Nat:=0
def PySem.W.Fast.tw5609709227558021919:Nat:=0
def PySem.W.Fast.tw16860110355696428824:Nat:=0
def PySem.W.Fast.tw17417145693596093239:Nat:=0
def PySem.W.Fast.tw2488199706382874781:Nat:=0
def PySem.W.Fast.tw970859839198951659:Nat:=0
def PySem.W.Fast.tw12228033204945622184:Nat:=0
def PySem.W.Fast.tw8594718421410053268:Nat:=0
def PySem.W.Fast.tw16779594039087483278:Nat:=0
def PySem.W.Fast.tw693335033953937012:Nat:=0
def PySem.W.Fast.tw14537698245871501287:Nat:=0
def PySem.W.Fast.tw16047424022204144059:Nat:=0
def PySem.W.Fast.tw1505885088696366087:Nat:=0
def PySem.W.Fast.tw6639986079795436939:Nat:=0
def PySem.W.Fast.tw5163285043817045719:Nat:=0
def PySem.W.Fast.tw6687294992705306826:Nat:=0
def PySem.W.Fast.tw5059947879727722587:Nat:=0
def PySem.W.Fast.tw5727804394992771372:Nat:=0
def PySem.W.Fast.tw18108485194563182766:Nat:=0
def PySem.W.Fast.tw1471575349008704690:Nat:=0
def PySem.W.Fast.tw16536411901764988035:Nat:=0
def PySem.W.Fast.tw4000272434881140914:Nat:=0
def PySem.W.Fast.tw7179415667427084561:Nat:=0
def PySem.W.Fast.tw6897952677648579697:Nat:=0
def PySem.W.Fast.tw13982256404599619229:Nat:=0
def PySem.W.Fast.tw16796263491642246918:Nat:=0
def PySem.W.Fast.tw10642952924545152326:Nat:=0
def PySem.W.Fast.tw5448621134239435144:Nat:=0
def PySem.W.Fast.tw15679786375214933636:Nat:=0
def PySem.W.Fast.tw211410182410282102:Nat:=0
def PySem.W.Fast.tw3875995947502912761:Nat:=0
def PySem.W.Fast.tw7342368324641514681:Nat:=0
def PySem.W.Fast.tw13215485601025658250:Nat:=0
def PySem.W.Fast.tw1290431044182848807:Nat:=0
def PySem.W.Fast.tw9999540406216287585:Nat:=0
def PySem.W.Fast.tw3373030066386556277:Nat:=0
def PySem.W.Fast.tw10938531453874898349:Nat:=0
def PySem.W.Fast.tw1013525546496199526:Nat:=0
def PySem.W.Fast.tw14564864473720020422:Nat:=0
def PySem.W.Fast.tw14233630180075856100:Nat:=0
def PySem.W.Fast.tw3542476261198741241:Nat:=0
def PySem.W.Fast.tw2010265433406718574:Nat:=0
def PySem.W.Fast.tw16176179064395921220:Nat:=0
def PySem.W.Fast.tw18407646113166899174:Nat:=0
def PySem.W.Fast.tw15817611900768468858:Nat:=0
def PySem.W.Fast.tw1901552732046076059:Nat:=0
def PySem.W.Fast.tw1254072431574403784:Nat:=0
def PySem.W.Fast.tw13899076881179189291:Nat:=0
def PySem.W.Fast.tw14010194320609272775:Nat:=0
def PySem.W.Fast.tw6867838419894828149:Nat:=0
def PySem.W.Fast.tw17960625842047565146:Nat:=0
def PySem.W.Fast.tw16048761004203177493:Nat:=0
def PySem.W.Fast.tw17930589195720013099:Nat:=0
def PySem.W.Fast.tw3377359117247594173:Nat:=0
def PySem.W.Fast.tw10159054324416807161:Nat:=0
def PySem.W.Fast.tw5746105320430728304:Nat:=0
def PySem.W.Fast.tw4847798712831162586:Nat:=0
def PySem.W.Fast.tw8114221496209903898:Nat:=0
def PySem.W.Fast.tw2370567145282827061:Nat:=0
def PySem.W.Fast.tw11227140468724815039:Nat:=0
def PySem.W.Fast.tw16514201574248045423:Nat:=0
def PySem.W.Fast.tw10017256854721683650:Nat:=0
def PySem.W.Fast.tw2810949426926311187:Nat:=0
def PySem.W.Fast.tw5245970100684984844:Nat:=0
def PySem.W.Fast.tw737534169170969117:Nat:=0
def PySem.W.Fast.tw4474225329287747620:Nat:=0
def PySem.W.Fast.tw15718970641803028134:Nat:=0
def PySem.W.Fast.tw10168774945596804274:Nat:=0
def PySem.W.Fast.tw807888558747663015:Nat:=0
def PySem.W.Fast.tw11196317844326924317:Nat:=0
def PySem.W.Fast.tw10640919119589695703:Nat:=0
def PySem.W.Fast.tw13579659605860487886:Nat:=0
def PySem.W.Fast.tw15108529569000246659:Nat:=0
def PySem.W.Fast.tw7962194386422685262:Nat:=0
def PySem.W.Fast.tw5598559818729604877:Nat:=0
def PySem.W.Fast.tw17093278551282634774:Nat:=0
def PySem.W.Fast.tw8424520819044649286:Nat:=0
def PySem.W.Fast.tw10563446016992549692:Nat:=0
def PySem.W.Fast.tw15216274338695532768:Nat:=0
def PySem.W.Fast.tw13996979469993606287:Nat:=0
def PySem.W.Fast.tw16123665487668253535:Nat:=0
def PySem.W.Fast.tw12225271867365796476:Nat:=0
def PySem.W.Fast.tw11723138956170419881:Nat:=0
open PyProof.Rows PySem PySem.W
set_option maxRecDepth 100000 in
set_option maxHeartbeats 0 in
theorem PySem.Challenge.cw_tellsum_k75_wrong_sums_judged_holds : PySem.Challenge.rw_tellsum_k75_wrong_sums_judged.Holds := by
  w_on; o_law; k_head; (case hw => w_witness2)
  k_fill
  refine Prf.walk (l := PySem.Challenge.rw_tellsum_k75_wrong_sums_judged) rfl rfl Prf.math (fun w h Y => W.kIn_of Y) ?F
  case F =>
    intro w mg fa h KX G hmg
    refine' Prf.all_mk KX G hmg ?h1 ?h2 ?h3 ?h4 ?h5 ?h6 ?h7 ?h8 ?h9 ?h10 ?h11 ?h12 ?h13 ?h14 ?h15 ?h16 ?h17 ?h18 ?h19 ?h20 ?h21 ?h22 ?h23 ?h24 ?h25 ?h26 ?h27 ?h28 ?h29 ?h30 ?h31 ?h32 ?h33 ?h34 ?h35 ?h36 ?h37 ?h38 ?h39 ?h40 ?h41 ?z0 ?z1 ?z2 ?z3 ?z4 ?z5 ?z6 ?z7 ?z8 ?z9 ?z10 ?z11 ?z12 ?z13 ?z14 ?zf6 ?ziu ?hsp ?htk ?zgJ ?zgH ?zgC ?zgs ?zfz ?zfI ?zfP ?zfF ?zig ?zhk ?zdH
    (case h1 | h2 | h3 | h4 | h5 | h6 | h7 | h8 | h9 | h10 | h11 | h12 | h13 | h14 | h15 | h16 | h17 | h18 | h19 | h20 | h21 | h22 | h23 | h24 | h25 | h26 | h27 | h28 | h29 | h30 | h31 | h32 | h33 | h34 | h35 | h36 | h37 | h38 | h39 | h40 | h41 =>
      refine' M.FnAt.mk ?a ?l ?c ?k
      (case a => k_is)
      (case l => k_is)
      (case c => k_is)
      (case k => k_is))
    (case z0 | z1 | z2 | z3 | z4 | z5 | z6 | z7 | z8 | z9 | z10 | z11 | z12 | z13 | z14 | zf6 | ziu | hsp | htk | zgJ | zgH | zgC | zfz | zfI | zfP | zig | zhk | zdH => k_is)
    (case zgs | zfF => rfl)
end
