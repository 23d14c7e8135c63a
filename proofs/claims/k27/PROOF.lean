import PyProof.Rows.All
import Wide.All
import OpenK.AllK
import Wide.FinOn
import Lean
import PyProof.EqAt
import PyProof.EqKinds
import PyProof.TupleCall
import PyProof.Rows.Range3
import PyProof.ZipIter
import PyProof.Draws
import PyProof.EnumMake
import PyProof.Rows.FactsTup
import PyProof.LayNew
import PyProof.Rows.SeqMore2
import PyProof.Rows.RuleIs
import KE.KRevIter
import PyProof.P3In
import KE.KSortTup
import PyProof.Rows.SortWalk
import PyProof.Rows.SetFrom
import PySem.Challenge.RW_tellsum_k27_settling_refused
set_option Elab.async false
set_option linter.all false
set_option bootstrap.genMatcherCode false
set_option compiler.extract_closed false
set_option maxRecDepth 100000
theorem zu0(h:True:=by first|exact .inl rfl|exact .inr rfl|assumption):True:=trivial
theorem zu1(h:True:=by decide):True:=trivial
theorem zu2(h:True:=by rfl):True:=trivial
theorem zu3(h:True:=by intro _;rfl):True:=trivial
theorem zu4(h:True:=by with_unfolding_all rfl):True:=trivial
theorem zu5(h:True:=by first|exact Or.inl rfl|exact Or.inr (Or.inl rfl)|exact Or.inr (Or.inr rfl)):True:=trivial
theorem zu6(h:True:=by exact fun _ _=>rfl):True:=trivial
theorem zu7(h:True:=by decide+kernel):True:=trivial
theorem zu8(h:True:=by exact fun _=>rfl):True:=trivial
theorem zu9(h:True:=by first|exact Or.inl rfl|exact Or.inr rfl):True:=trivial
theorem zu10(h:True:=by kernel_rfl):True:=trivial
theorem zu11(h:True:=by first|exact .inl rfl|exact .inr rfl):True:=trivial
theorem zu12(h:True:=by exact⟨⟨rfl,rfl,rfl,by decide+kernel,rfl,by decide+kernel,by decide+kernel⟩,rfl,by decide,fun _ _ _ _ _ _=>by repeat (first|exact us_0 rfl|refine us_s fun _=>?_)⟩):True:=trivial
noncomputable section
namespace L2
open PyProof.Rows PySem PySem.Spec
variable {xs vs:List V} {us:List Value} {x qual:Str} {u cd:Value} {H:Hp} {a b it:Addr} {o:HO} {h base:Heap} {its:Array Value} {w:World} {g':Array GenState} {t' i j k n:Nat} {d':Drawn} {ch fp:List Addr} {e c tg:Expr} {pins' pins pl:List (Addr×Obj)} {N ps:List Str} {A:Around} {E:Value->Shared->Prop} {v:V} {Q:Unit->Shared->Prop} {s' s:Shared} {X:Cx} {t:TSet} {pos pos':Pos} {σ:St} {K:W.Frag} {f:Value->Value->Sem Value} {es:List Expr} {te:TE} {g:Int->Int->Int} {op:CmpOp} {p:Addr×Obj} {body:List Stmt} {r:V->Hp->VK->Prop} {C:Int->Int->Prop} {fd:FuncData} {kindOf:Str->Option NameKind} {sc scope:Scope} {CX:CXT} {mg:Str->Option Value} {outer:List Env} {params:Arguments}
noncomputable abbrev Key:=Sum Int Str
noncomputable def keyIs:Key->Value->Bool
 | .inl k,v=>Value.isInt k v
 | .inr x,v=>Value.isStrOf x v
noncomputable def keyH (w:World):Key->Int
 | .inl k=>hashInt k
 | .inr x=>hashStr w x
theorem zbr:∀{k:Key} {v:Value},keyIs k v=true->(∃i t,k=Sum.inl i/\v=Value.int i t)\/(∃x t,k=Sum.inr x/\v=Value.str x t)
 | .inl i,v,h=>by
  obtain⟨t,e⟩:=Value.isInt_shape (k:=i) (v:=v) h
  exact .inl ⟨i,t,rfl,e⟩
 | .inr x,v,h=>by
  obtain⟨t,e⟩:=Value.isStrOf_shape (x:=x) (v:=v) h
  exact .inr ⟨x,t,rfl,e⟩
theorem key_ll (a b:Int):decide ((Sum.inl a:Key)=Sum.inl b)=(a==b):=by
 by_cases e:a=b
 ·subst e;simp
 ·have h:¬(Sum.inl a:Key)=Sum.inl b:=fun q=>e (Sum.inl.inj q)
  rw[decide_eq_false h]
  exact(beq_eq_false_iff_ne.mpr e).symm
theorem key_rr (a b:Str):decide ((Sum.inr a:Key)=Sum.inr b)=decide (a=b):=by
 by_cases e:a=b
 ·subst e;simp
 ·have h:¬(Sum.inr a:Key)=Sum.inr b:=fun q=>e (Sum.inr.inj q)
  rw[decide_eq_false h,decide_eq_false e]
theorem key_lr (a:Int)(b:Str):decide ((Sum.inl a:Key)=Sum.inr b)=false:=decide_eq_false (fun q=>nomatch q)
theorem key_rl (a:Str)(b:Int):decide ((Sum.inr a:Key)=Sum.inl b)=false:=decide_eq_false (fun q=>nomatch q)
noncomputable def znH (prog:Program)(w:World):PySem.KeyKind prog w Key where
 is:=keyIs
 hash:=keyH w
 inj:=fun v a b ha hb=>by
  rcases zbr ha with⟨i,t,rfl,rfl⟩|⟨x,t,rfl,rfl⟩
  ·rcases zbr hb with⟨j,u,rfl,e⟩|⟨y,u,rfl,e⟩
   ·injection e with e1 _;rw[e1]
   ·exact nomatch e
  ·rcases zbr hb with⟨j,u,rfl,e⟩|⟨y,u,rfl,e⟩
   ·exact nomatch e
   ·injection e with e1 _;rw[e1]
 byValue:=fun k v h=>by
  rcases zbr h with⟨i,t,rfl,rfl⟩|⟨x,t,rfl,rfl⟩<;>rfl
 pyHash:=fun hv h=>by
  rcases zbr hv with⟨i,t,rfl,rfl⟩|⟨x,t,rfl,rfl⟩
  ·exact wpAny_pyHash_int h
  ·exact wpAny_pyHash_str h
 eqBool:=fun hu hv h=>by
  rcases zbr hu with⟨i,t,rfl,rfl⟩|⟨x,t,rfl,rfl⟩
  ·rcases zbr hv with⟨j,u,rfl,rfl⟩|⟨y,u,rfl,rfl⟩
   ·rw[key_ll]at h;exact wpAny_eqBool_int h
   ·rw[key_lr]at h;exact SeqAt.EqAt.int_str i t y u _ _ _ _ h
  ·rcases zbr hv with⟨j,u,rfl,rfl⟩|⟨y,u,rfl,rfl⟩
   ·rw[key_rl]at h;exact SeqAt.EqAt.str_int x t j u _ _ _ _ h
   ·rw[key_rr]at h;exact wpAny_eqBool_str h
 «strs»:=fun k x t v h=>by
  rcases zbr h with⟨i,u,rfl,e⟩|⟨y,u,rfl,e⟩
  ·exact nomatch e
  ·injection e with e1 _
   subst e1
   cases v<;>rfl
inductive V where
 |non|bl (b:Bool)|int (i:Int)|str (x:Str)|byt (b:Array UInt8)|flt (b:UInt64)|ref (a:Addr)|ty (n:String)
 deriving DecidableEq
noncomputable def RelV:V->Value->Prop
 | .non,u=>u=Value.none
 | .bl b,u=>u=Value.bool b
 | .int i,u=>∃t,u=Value.int i t
 | .str x,u=>∃t,u=Value.str x t
 | .byt b,u=>∃t,u=Value.bytes b t
 | .flt b,u=>∃t,u=Value.float b t
 | .ref a,u=>u=Value.ref a
 | .ty n,u=>u=Value.type n
noncomputable abbrev Vals:List V->List Value->Prop:=Paired RelV
theorem Vals.length (r:Vals xs us):xs.length=us.length:=Paired.length r
theorem Vals.get:∀{xs:List V} {us:List Value} {i:Nat} {x:V},Vals xs us->xs[i]? =some x->∃u,us[i]? =some u/\RelV x u
 |_,_,_,_,.nil,e=>by simp at e
 |_,_,0,_,.cons r _,e=>by simp at e;subst e;exact⟨_,rfl,r⟩
 |_,_,i+1,x,.cons _ t,e=>by
  obtain⟨u,h1,h2⟩:=Vals.get (i:=i) (x:=x) t (by simpa using e)
  exact⟨u,by simpa using h1,h2⟩
theorem Vals.set {x:V}(r:RelV x u):∀{xs:List V} {us:List Value} (i:Nat),Vals xs us->Vals (xs.set i x) (us.set i u)
 |_,_,_,.nil=> .nil
 |_,_,0,.cons _ t=> .cons r t
 |_,_,i+1,.cons q t=> .cons q (Vals.set r i t)
theorem Vals.append:∀{xs ys:List V} {us ws:List Value},Vals xs us->Vals ys ws->Vals (xs++ys) (us++ws)
 |_,_,_,_,.nil,s=>s
 |_,_,_,_,.cons r t,s=> .cons r (Vals.append t s)
theorem Vals.take:∀{xs:List V} {us:List Value} (n:Nat),Vals xs us->Vals (xs.take n) (us.take n)
 |_,_,0,_=> .nil
 |_,_,_+1,.nil=> .nil
 |_,_,n+1,.cons r t=> .cons r (Vals.take n t)
theorem Vals.drop:∀{xs:List V} {us:List Value} (n:Nat),Vals xs us->Vals (xs.drop n) (us.drop n)
 |_,_,0,r=>r
 |_,_,_+1,.nil=> .nil
 |_,_,n+1,.cons _ t=>Vals.drop n t
theorem Vals.none_of:∀{xs:List V} {us:List Value} {i:Nat},Vals xs us->xs[i]? =none->us[i]? =none:=fun{xs us i} r e=>by
 have h1:=r.length
 have h2:xs.length<=i:=List.getElem?_eq_none_iff.mp e
 exact List.getElem?_eq_none_iff.mpr (by lia)
noncomputable def RelO:Option V->Option Value->Prop
 |some v,some u=>RelV v u
 |none,none=>True
 |_,_=>False
noncomputable def KV {κ:Type}:List (κ×V)->List (κ×Value)->Prop:=Paired fun(p:κ×V) (q:κ×Value)=>p.1=q.1/\RelV p.2 q.2
noncomputable def kV:Key->V
 | .inl i=> .int i
 | .inr x=> .str x
inductive HO where
 /-- a list -/
 |lst (xs:List V)
 /-- a tuple (never changes) -/
 |tup (xs:List V)
 /-- a dict whose keys are ints and texts; one whose keys are tuples of ints and texts (the empty one is both) -/
 |dK (kvs:List (Key×V))|dT (kvs:List (List Key×V))
 /-- a set of ints: its members, its size -/
 |set (S:Int->Bool) (n:Nat)
 /-- an instance of the class at C, its dict at dx, its attributes -/
 |ins (C dx:Addr) (fs:List (Str×V))
 /-- the dict of the instance at x -/
 |own (x:Addr)
 /-- the dict of an exception -/
 |xd (fs:List (Str×V))
 /-- a bound method, f of x -/
 |met (f x:Addr)
 /-- a range object lo, lo + 1, .. below hi -/
 |rng (lo hi:Int)
 /-- a thing that is known to the object (the script; a dict while a loop walks it): read, never written while it is so -/
 |frz (o:Obj) (u:HO)
 /-- a code object's table -/
 |tbl (ps:Array Value)
 /-- any other thing, by what is true of its one object (a def of one's own: SetO a S n := HO.ext fun h => ..) -/
 |ext (φ:Heap->Prop)
noncomputable abbrev Hp:=Addr->Option HO
noncomputable def upd (H:Hp)(a:Addr)(o:HO):Hp:=fun b=>if b=a then some o else H b
theorem zaA:upd H a o a=some o:=by unfold upd;rw[if_pos rfl]
theorem zar (h:b≠a):upd H a o b=H b:=by unfold upd;rw[if_neg h]
theorem zqH {o u:HO}:upd (upd H a o) a u=upd H a u:=by
 funext b;unfold upd;split<;>rfl
theorem zax (h:H a=some o)(h':H b=none):a≠b:=by
 intro e;subst e;rw[h]at h';cases h'
noncomputable def IsTupD (h:Heap)(a:Addr)(its:Array Value):Prop:=∃o,h.get? a=some o/\o.cls= .type "tuple"/\∃n,o.data= .seq its n/\o.dict=none
theorem IsTupD.is (p:IsTupD h a its):IsTup h a its:=let⟨o,e,c,n,d,_⟩:=p;⟨o,e,c,n,d⟩
theorem IsTupD.lt (p:IsTupD h a its):a<h.objs.size:=let⟨_,e,_⟩:=p;Heap.lt_size e
theorem IsTupD.new (h:Heap)(its:Array Value):IsTupD (h.push {cls:= .type "tuple",data:= .seq its}) h.objs.size its:=⟨_,Heap.get?_push_size _ rfl,rfl,0,rfl,rfl⟩
section
variable (P:Program) (w:World)
noncomputable def ObjOk (H:Hp)(h:Heap)(a:Addr):HO->Prop
 | .lst xs=>xs.length<=sizeLine/\∃(its:List Value) (n:Nat),Vals xs its/\h.get? a=some {cls:= .type "list",data:= .seq its.toArray n}
 | .tup xs=>xs.length<=sizeLine/\∃its:List Value,Vals xs its/\IsTupD h a its.toArray
 | .dK kvs=>kvs.length<=sizeLine/\(a==sysModules)=false/\∃vs,KV kvs vs/\h.DictOf (znH P w) a vs
 | .dT kvs=>kvs.length<=sizeLine/\(a==sysModules)=false/\∃xs:List (List Key×Addr×Value),
   Paired (fun(p:List Key×V) (q:List Key×Addr×Value)=>p.1=q.1/\H q.2.1=some (.tup (p.1.map kV))/\RelV p.2 q.2.2) kvs xs/\
   ∃o es ep,h.get? a=some o/\o.ExactDict/\o.data= .dict es ep/\es.toList=xs.map (entryOfKey (tupleKind (znH P w)))/\(xs.map (·.1)).Nodup
 | .set S n=>h.SetOf (intKind P w) a S n
 | .ins C dx fs=>H dx=some (.own a)/\fs.length<=1000/\dx≠a/\h.get? a=some (W.instObj C dx)/\
   ∃mA,h.Ns1 dx mA/\(∀f,RelO (fs.lookup f) (mA f))/\PySem.Within mA (fs.map (·.1))
 | .own _=>∃o,h.get? a=some o
 | .xd fs=>∃mA,h.Ns1 a mA/\∀f,RelO (fs.lookup f) (mA f)
 | .rng lo hi=>∃t u v,h.get? a=some {cls:= .type "range",data:= .fields #[.int lo t,.int hi u,.int 1 v]}
 | .frz o u=>h.get? a=some o/\ObjOk H h a u
 | .tbl ps=>∃q tk qs,ps= #[.str q tk]/\h.get? a=some (W.tabObj qs)/\TriplesOk qs.toList/\∀pos cv,codeAmong pos qs.toList=some cv->∃c' oc vs t,cv= .ref c'/\(∃u,H c'=some (.frz oc u))/\oc.data= .fields vs/\vs[1]? =some (.str q t)
 | .met f x=>h.get? a=some (W.methodObj (.ref f) (.ref x))
 | .ext φ=>φ h/\(∃o,h.get? a=some o)/\∀h1 h2:Heap,φ h1->(∀o,h1.get? a=some o->h2.get? a=some o)->φ h2
noncomputable def HOk (H:Hp)(h:Heap):Prop:=∀a o,H a=some o->ObjOk P w H h a o
end
section
variable {P:Program} {w:World} {H H':Hp} {h h':Heap} {a:Addr} {o:HO}
theorem ObjOk.lt (x:ObjOk P w H h a o):a<h.objs.size:=by
 cases o with
 |lst xs=>obtain⟨_,_,_,_,e⟩:=x;exact Heap.lt_size e
 |tup xs=>obtain⟨_,_,_,p⟩:=x;exact p.lt
 |dK kvs=>obtain⟨_,_,_,_,o,_,_,e,_⟩:=x;exact Heap.lt_size e
 |dT kvs=>obtain⟨_,_,_,_,o,_,_,e,_⟩:=x;exact Heap.lt_size e
 |set S n=>obtain⟨o,_,_,_,e,_⟩:=x;exact Heap.lt_size e
 |ins C dx fs=>obtain⟨_,_,_,e,_⟩:=x;exact Heap.lt_size e
 |own y=>obtain⟨_,e⟩:=x;exact Heap.lt_size e
 |xd fs=>obtain⟨_,⟨_,_,_,e,_⟩,_⟩:=x;exact Heap.lt_size e
 |rng lo hi=>obtain⟨_,_,_,e⟩:=x;exact Heap.lt_size e
 |frz ob u=>obtain⟨e,_⟩:=x;exact Heap.lt_size e
 |tbl ps=>obtain⟨_,_,_,_,e,_⟩:=x;exact Heap.lt_size e
 |met f y=>exact Heap.lt_size (show h.get? a=some _ from x)
 |ext φ=>obtain⟨_,⟨_,e⟩,_⟩:=x;exact Heap.lt_size e
theorem Paired.mapP {α β:Type}{F G:α->β->Prop}:∀{l₁:List α} {l₂:List β},Paired F l₁ l₂->(∀a b,F a b->G a b)->Paired G l₁ l₂
 |_,_,.nil,_=> .nil
 |_,_,.cons r t,f=> .cons (f _ _ r) (Paired.mapP t f)
theorem ObjOk.stay (x:ObjOk P w H h a o)(k:∀b u,(b=a\/H b=some (.own a))->h.get? b=some u->h'.get? b=some u)
  (ho:∀b,H b=some (.own a)->H' b=some (.own a)) (ht:∀b xs,H b=some (.tup xs)->H' b=some (.tup xs)) (hf:∀b o u,H b=some (.frz o u)->H' b=some (.frz o u)):ObjOk P w H' h' a o:=by
 induction o with
 |lst xs=>obtain⟨z,its,n,r,e⟩:=x;exact⟨z,its,n,r,k _ _ (.inl rfl) e⟩
 |tup xs=>obtain⟨z,its,r,ob,e,c⟩:=x;exact⟨z,its,r,ob,k _ _ (.inl rfl) e,c⟩
 |dK kvs=>obtain⟨z,y,vs,r,ob,es,ep,e,c⟩:=x;exact⟨z,y,vs,r,ob,es,ep,k _ _ (.inl rfl) e,c⟩
 |dT kvs=>
  obtain⟨z,y,xs,r,ob,es,ep,e,c⟩:=x
  exact⟨z,y,xs,Paired.mapP r fun p q z=>⟨z.1,ht _ _ z.2.1,z.2.2⟩,ob,es,ep,k _ _ (.inl rfl) e,c⟩
 |set S n=>obtain⟨ob,es,ep,t,e,c⟩:=x;exact⟨ob,es,ep,t,k _ _ (.inl rfl) e,c⟩
 |ins C dx fs=>
  obtain⟨d,z,ne,e,mA,⟨od,es,ep,e2,c⟩,r⟩:=x
  exact⟨ho _ d,z,ne,k _ _ (.inl rfl) e,mA,⟨od,es,ep,k _ _ (.inr d) e2,c⟩,r⟩
 |own y=>obtain⟨ob,e⟩:=x;exact⟨ob,k _ _ (.inl rfl) e⟩
 |xd fs=>obtain⟨mA,⟨od,es,ep,e,c⟩,r⟩:=x;exact⟨mA,⟨od,es,ep,k _ _ (.inl rfl) e,c⟩,r⟩
 |rng lo hi=>obtain⟨t,u,v,e⟩:=x;exact⟨t,u,v,k _ _ (.inl rfl) e⟩
 |frz ob u ih=>obtain⟨e,q⟩:=x;exact⟨k _ _ (.inl rfl) e,ih q⟩
 |tbl ps=>
  obtain⟨q,tk,qs,z,e,tr,al⟩:=x
  refine⟨q,tk,qs,z,k _ _ (.inl rfl) e,tr,fun pos cv f=>?_⟩
  obtain⟨c',oc,vs,t,e1,⟨u,e2⟩,e4,e5⟩:=al pos cv f
  exact⟨c',oc,vs,t,e1,⟨u,hf _ _ _ e2⟩,e4,e5⟩
 |met f y=>
  have e:h.get? a=some (W.methodObj (.ref f) (.ref y)):=x
  show h'.get? a=some (W.methodObj (.ref f) (.ref y))
  exact k a _ (.inl rfl) e
 |ext φ=>obtain⟨p,⟨o,e⟩,st⟩:=x;exact⟨st _ _ p fun o q=>k _ _ (.inl rfl) q,⟨o,k _ _ (.inl rfl) e⟩,st⟩
theorem HOk.lt (x:HOk P w H h)(e:H a=some o):a<h.objs.size:=(x a o e).lt
theorem HOk.fresh (x:HOk P w H h)(e:h.objs.size<=a):H a=none:=by
 cases q:H a with
 |none=>rfl
 |some u=>exact absurd (Nat.lt_of_lt_of_le (x.lt q) e) (Nat.lt_irrefl _)
theorem HOk.kept (x:HOk P w H h)(k:∀b u,h.get? b=some u->h'.get? b=some u):HOk P w H h':=fun a o e=>
 (x a o e).stay (fun b u _ q=>k b u q) (fun _ q=>q) (fun _ _ q=>q) fun _ _ _ q=>q
theorem HOk.laid (x:HOk P w H h)(k:∀b u,h.get? b=some u->h'.get? b=some u)(hp:h.objs.size<=a)(new:ObjOk P w (upd H a o) h' a o):HOk P w (upd H a o) h':=fun b u e=>by
 have hn:=x.fresh hp
 by_cases hb:b=a
 ·subst hb;rw[zaA]at e;cases e;exact new
 ·rw[zar hb]at e
  exact(x b u e).stay (fun c v _ q=>k c v q) (fun c q=>by rw[zar (zax q hn)];exact q) (fun c xs q=>by rw[zar (zax q hn)];exact q) fun c _ _ q=>by rw[zar (zax q hn)];exact q
end
noncomputable def Rd (H:Hp)(a:Addr)(u:HO):Prop:=H a=some u\/∃o,H a=some (.frz o u)
theorem Rd.ok {P:Program}{u:HO}(r:Rd H a u)(x:HOk P w H h):ObjOk P w H h a u:=by
 rcases r with r|⟨o,r⟩
 ·exact x a u r
 ·obtain⟨_,q⟩:=x a _ r
  exact q
noncomputable def Mut:Option HO->Prop
 |some (.lst _)=>True
 |some (.dK _)=>True
 |some (.dT _)=>True
 |some (.set _ _)=>True
 |some (.ins _ _ _)=>True
 |some (.ext _)=>True
 |_=>False
section
variable {P:Program} {w:World} {H:Hp} {h h':Heap} {x e:Addr} {o':HO}
theorem HOk.write (ok:HOk P w H h)(mu:Mut (H x))(he:e=x\/H e=some (.own x))(k:∀b u,b≠e->h.get? b=some u->h'.get? b=some u)(heo:∃u,h'.get? e=some u)
  (new:ObjOk P w (upd H x o') h' x o'):HOk P w (upd H x o') h':=fun b u q=>by
 have nown:∀c y,H c=some (.own y)->c≠x:=fun c y r z=>by subst z;rw[r]at mu;exact mu
 have ntup:∀c xs,H c=some (.tup xs)->c≠x:=fun c xs r z=>by subst z;rw[r]at mu;exact mu
 by_cases hb:b=x
 ·subst hb;rw[zaA]at q;cases q;exact new
 ·rw[zar hb]at q
  by_cases hbe:b=e
  ·have q':H b=some (.own x):=by
    rcases he with z|z
    ·exact absurd (hbe.trans z) hb
    ·rw[hbe];exact z
   rw[q]at q';cases q'
   obtain⟨v,hv⟩:=heo
   exact⟨v,by rw[hbe];exact hv⟩
  ·refine(ok b u q).stay (fun c v hc r=>k c v ?_ r) (fun c r=>by rw[zar (nown c b r)];exact r) (fun c xs r=>by rw[zar (ntup c xs r)];exact r) fun c _ _ r=>by rw[zar (fun z=>by subst z;rw[r]at mu;exact mu)];exact r
   rcases hc with rfl|hc
   ·exact hbe
   ·rintro rfl
    rcases he with z|z
    ·exact nown c b hc z
    ·rw[hc]at z;cases z;exact hb rfl
end
structure Un (fs ex:List Addr) (H H':Hp) (h h':Heap):Prop where
 keep:∀b o,h.get? b=some o->H b=none->b∉fs->b∉ex->h'.get? b=some o
 slot:∀b o,h.get? b=some o->H b=none->b∈fs->b∉ex->∃sl,h'.get? b=some {o with slots:=sl}
 free:∀b o,h.get? b=some o->H b=none->b∉ex->H' b=none
 there:∀b o,h.get? b=some o->b∉ex->∃o',h'.get? b=some o'
 tups:∀b xs,H b=some (.tup xs)->H' b=some (.tup xs)
 frzs:∀b o u,H b=some (.frz o u)->H' b=some (.frz o u)
 tbls:∀b ps,H b=some (.tbl ps)->H' b=some (.tbl ps)
section
variable {fs fs' ex ex':List Addr} {H H1 H2:Hp} {h h1 h2 h':Heap} {a x e:Addr} {o:HO}
theorem Un.any (u:Un fs ex H H1 h h1){ob:Obj}(q:h.get? b=some ob)(n:H b=none)(hx:b∉ex):∃sl,h1.get? b=some {ob with slots:=sl}:=by
 by_cases hb:b∈fs
 ·exact u.slot b ob q n hb hx
 ·exact⟨ob.slots,u.keep b ob q n hb hx⟩
theorem Un.kept (k:∀b u,h.get? b=some u->h'.get? b=some u):Un fs ex H H h h':=
 ⟨fun b ob q _ _ _=>k b ob q,fun b ob q _ _ _=>⟨ob.slots,k b ob q⟩,fun _ _ _ n _=>n,fun b ob q _=>⟨ob,k b ob q⟩,fun _ _ q=>q,fun _ _ _ q=>q,fun _ ps q=>q⟩
theorem Un.refl:Un fs ex H H h h:=Un.kept fun _ _ q=>q
theorem Un.laid (k:∀b u,h.get? b=some u->h'.get? b=some u)(hp:h.objs.size<=a)(hn:H a=none):Un fs ex H (upd H a o) h h' where
 keep:=fun b u q _ _ _=>k b u q
 slot:=fun b u q _ _ _=>⟨u.slots,k b u q⟩
 free:=fun b u q n _=>by rw[zar (Nat.ne_of_lt (Nat.lt_of_lt_of_le (Heap.lt_size q) hp))];exact n
 there:=fun b u q _=>⟨u,k b u q⟩
 tups:=fun b xs q=>by rw[zar (zax q hn)];exact q
 frzs:=fun b u xs q=>by rw[zar (zax q hn)];exact q
 tbls:=fun b ps q=>by rw[zar (zax q hn)];exact q
theorem Un.write (mu:Mut (H x))(he:e=x\/H e=some (.own x))(k:∀b u,b≠e->h.get? b=some u->h'.get? b=some u)(heo:∃u,h'.get? e=some u):Un fs ex H (upd H x o) h h':=by
 have hx:∀b,H b=none->b≠x:=fun b n z=>by subst z;rw[n]at mu;exact mu
 have hb:∀b,H b=none->b≠e:=fun b n z=>by
  subst z
  rcases he with r|r
  ·exact hx b n r
  ·rw[n]at r;cases r
 have hm:∀b u,H b=some u->¬Mut (some u)->b≠x:=fun b u q nm z=>by subst z;rw[q]at mu;exact nm mu
 refine⟨fun b u q n _ _=>k b u (hb b n) q,fun b u q n _ _=>⟨u.slots,k b u (hb b n) q⟩,fun b u q n _=>by rw[zar (hx b n)];exact n,fun b u q _=>?_,
  fun b xs q=>by rw[zar (hm b _ q fun z=>z)];exact q,fun b u xs q=>by rw[zar (hm b _ q fun z=>z)];exact q,fun b ps q=>by rw[zar (hm b _ q fun z=>z)];exact q⟩
 by_cases hbe:b=e
 ·subst hbe;exact heo
 ·exact⟨u,k b u hbe q⟩
end
noncomputable def trk (h:Heap)(H:Hp):List Addr:=(List.range h.objs.size).filter fun a=>(H a).isSome
noncomputable def hidT (h:Heap)(H:Hp):Heap:=W.hideAll h (trk h H)
theorem zp0 (h:Heap)(H:Hp):(hidT h H).objs.size=h.objs.size:=W.hideAll_size _ _
theorem zlq {o:Obj}(e:h.get? b=some o)(n:H b=none):(hidT h H).get? b=some o:=
 W.hideAll_get _ e fun hm=>by
  have q:(H b).isSome=true:=(List.mem_filter.mp hm).2
  rw[n]at q;simp at q
theorem of_hidT {o:Obj}(e:(hidT h H).get? b=some o):h.get? b=some o/\H b=none:=by
 have e':h.get? b=some o:=W.of_hideAll (trk h H) e
 refine⟨e',?_⟩
 cases q:H b with
 |none=>rfl
 |some x=>
  have hm:b∈trk h H:=List.mem_filter.mpr ⟨List.mem_range.mpr (Heap.lt_size e'),by simp[q]⟩
  have z:(hidT h H).get? b=none:=W.hideAll_none (trk h H) hm
  rw[z]at e;cases e
noncomputable def allNews (g h:Heap)(L:Addr):List (Addr×Obj):=(List.range h.objs.size).filterMap fun a=>if a=L\/(g.get? a).isSome=true then none else(h.get? a).map fun o=>(a,o)
noncomputable def rest (g h:Heap)(L d:Addr):List (Addr×Obj):=(allNews g h L).filter fun p=>decide (p.1≠d)
noncomputable def tabP (K:W.Frag)(mg:Str->Option Value)(P:Addr)(q:Str):Prop:=∃f o fd c oc vs,mg "cheapest_places"=some (.ref f)/\K.lookup f=some o/\o.data= .func fd/\fd.code= .ref c/\K.lookup c=some oc/\oc.data= .fields vs/\vs[11]? =some (.ref P)/\K.lookup P=none/\q=fd.qualname++".<locals>."++"<lambda>"
noncomputable def TabIn (K:W.Frag)(mg:Str->Option Value)(H:Hp):Prop:=∀P q,tabP K mg P q->∃tk,H P=some (.tbl #[.str q tk])
structure Mod (K:W.Frag) (mg:Str->Option Value) (base:Heap):Prop where
 kin:K.In base
 glob:base.Ns mainGlobals mg
 blt:∃mb,base.Ns builtinsNs mb/\∀x:Str,x≠"__name__"->mb x=bootBuiltins x
 nolimit:base.NoLimit
 bmain:∃bm ob,mg "__builtins__"=some (.ref bm)/\bm≠builtinsNs/\base.get? bm=some ob/\ob.cls= .type "module"/\ob.dict=some builtinsNs/\ob.data= .plain
structure Cx where
 prog:Program
 w:World
 K:W.Frag
 mg:Str->Option Value
 base:Heap
 A:Around
 N:List Str
 s₀:Shared
 H₀:Hp
 env:Env
 outer:List Env
 stack:List Env
 ex:List Addr
 fn:Str->Bool
 calm:Bool
 pn:List (Addr×Obj)
 xe:Value->Shared->Prop
noncomputable def frs (l:List Env):List Addr:=l.filterMap (·.frame)
noncomputable abbrev Cx.fs (X:Cx):List Addr:=frs X.outer
noncomputable def Vis (sc:Scope)(x:Str):Prop:=sc.names.lookup x=some .local\/sc.names.lookup x=some .cell\/sc.names.lookup x=some .free
noncomputable def Loc (sc:Scope)(x:Str):Prop:=sc.names.lookup x=some .local\/sc.names.lookup x=some .cell
noncomputable def Look (env:Env)(h:Heap)(m:Str->Option Value)(x:Str)(u:Value):Prop:=
 (env.kindOf x=some .local/\m x=some u)\/((env.kindOf x=some .cell\/env.kindOf x=some .free)/\∃c,env.cells.lookup x=some c/\h.IsCell c (some u))
structure Cx.Ok (X:Cx):Prop where
 mod:Mod X.K X.mg X.base
 kind:X.env.scope.kind= .function
 glob:X.env.globals=mainGlobals
 blt:X.env.builtins=builtinsNs
 above:X.s₀.heap.objs.size<=X.env.locals
 inj:∀x y c,X.env.cells.lookup x=some c->X.env.cells.lookup y=some c->x=y
 has:∀x,(X.env.kindOf x=some .cell\/X.env.kindOf x=some .free)->∃c,X.env.cells.lookup x=some c
 cab:∀x c,X.fn x=true->X.env.cells.lookup x=some c->X.s₀.heap.objs.size<=c
 hd:X.calm=true->X.A.handled=none
 frames:X.A.frames=some X.stack
 stk:X.stack=X.outer\/(X.stack=X.env::X.outer/\X.env.frame=some X.env.locals)
 exf:∀b∈X.ex,b≠X.env.locals/\∀x c,X.env.cells.lookup x=some c->c≠b
 bs:∀b o,X.base.get? b=some o->X.s₀.heap.get? b=some o/\X.H₀ b=none
 bsz:X.base.objs.size<=X.s₀.heap.objs.size
 noex:∀b o,X.base.get? b=some o->b∉X.ex
 exfs:∀b∈X.ex,b∉X.fs
 funs:X.s₀.heap.FunFrames X.base X.outer
 frf:(∀b∈X.fs,X.H₀ b=none)/\TabIn X.K X.mg X.H₀
structure Inv (X:Cx) (pins:List (Addr×Obj)) (σ:List (Option V)) (H:Hp) (s:Shared):Prop where
 ok:X.Ok
 os:s.os=X.s₀.os
 bare:AllBare s.gens
 base:Un X.fs X.ex X.H₀ H X.s₀.heap s.heap
 loc:∃m,s.heap.Ns X.env.locals m/\∀(i:Nat) (x:Str) (v:V),X.N[i]? =some x->σ[i]? =some (some v)->Vis X.env.scope x->∃u,RelV v u/\Look X.env s.heap m x u
 cell:∀x c,X.env.cells.lookup x=some c->∃v,s.heap.IsCell c v
 free:H X.env.locals=none
 freeC:∀x c,X.env.cells.lookup x=some c->H c=none
 pin:∀p∈X.pn++pins,s.heap.get? p.1=some p.2/\H p.1=none/\p.1≠X.env.locals/\p.1∉X.fs/\∀v,p.2.data≠ .cell v
 hok:HOk X.prog X.w H s.heap
 len:σ.length=X.N.length
section
variable {X:Cx} {pins:List (Addr×Obj)} {σ:List (Option V)} {H H':Hp} {s:Shared} {h':Heap}
theorem Cx.Ok.nofr (ok:X.Ok){o:Obj}(e:X.base.get? b=some o):b∉X.fs:=fun hb=>by
 have:=(ok.funs.mem hb).1
 rw[e]at this;cases this
theorem Inv.bs (I:Inv X pins σ H s):∀b o,X.base.get? b=some o->s.heap.get? b=some o/\H b=none:=fun b o e=>
 ⟨I.base.keep b o (I.ok.bs b o e).1 (I.ok.bs b o e).2 (I.ok.nofr e) (I.ok.noex b o e),I.base.free b o (I.ok.bs b o e).1 (I.ok.bs b o e).2 (I.ok.noex b o e)⟩
theorem Inv.bk (I:Inv X pins σ H s):∀b o,X.base.get? b=some o->s.heap.get? b=some o:=fun b o e=>(I.bs b o e).1
theorem Inv.mod (I:Inv X pins σ H s):Mod X.K X.mg X.base:=I.ok.mod
theorem Inv.kIn (I:Inv X pins σ H s):X.K.In s.heap:=I.ok.mod.kin.keeps I.bk
theorem Inv.nolimit (I:Inv X pins σ H s):s.heap.NoLimit:=I.ok.mod.nolimit.keeps I.bk
theorem Inv.fr (I:Inv X pins σ H s):∃m,Fr X.base X.env.locals s.heap m:=
 let⟨m,hn,_⟩:=I.loc
 ⟨m,hn,I.bk,Nat.le_trans I.ok.bsz I.ok.above⟩
theorem Inv.lt (I:Inv X pins σ H s):X.env.locals<s.heap.objs.size:=let⟨_,hn,_⟩:=I.loc;hn.lt
theorem Inv.sz (I:Inv X pins σ H s):X.s₀.heap.objs.size<=s.heap.objs.size:=Nat.le_trans I.ok.above (Nat.le_of_lt I.lt)
theorem Inv.nofs (I:Inv X pins σ H s)(h:s.heap.objs.size<=a):a∉X.fs:=fun hb=>by
 obtain⟨_,o,ho,_⟩:=I.ok.funs.mem hb
 exact absurd (Nat.lt_of_lt_of_le (Heap.lt_size ho) (Nat.le_trans I.sz h)) (Nat.lt_irrefl _)
theorem Inv.cne (I:Inv X pins σ H s):∀x c,X.env.cells.lookup x=some c->c≠X.env.locals:=fun x c e z=>by
 obtain⟨v,o,ho,hd⟩:=I.cell x c e
 obtain⟨m,⟨o',es,ep,ho',hd',_⟩,_⟩:=I.loc
 rw[z,ho']at ho;cases ho;rw[hd']at hd;cases hd
theorem Inv.funs (I:Inv X pins σ H s):s.heap.FunFrames X.base X.outer:=by
 have all:∀(l:List Env),(∀b∈frs l,b∈X.fs)->X.s₀.heap.FunFrames X.base l->s.heap.FunFrames X.base l:=by
  intro l
  induction l with
  |nil=>intro _ _;trivial
  |cons env r ih=>
   intro hs hl
   obtain⟨hk,⟨L,o,hf,hn,ho,hd⟩,hr⟩:=hl
   have hL:L∈X.fs:=hs L (by unfold frs;rw[List.filterMap_cons,hf];exact List.mem_cons_self)
   obtain⟨sl,e⟩:=I.base.slot L o ho (I.ok.frf.1 L hL) hL fun z=>I.ok.exfs L z hL
   exact⟨hk,⟨L,_,hf,hn,e,hd⟩,ih (fun b hb=>hs b (by unfold frs;rw[List.filterMap_cons,hf];exact List.mem_cons_of_mem _ hb)) hr⟩
 exact all X.outer (fun _ hb=>hb) I.ok.funs
theorem Inv.tab (I:Inv X pins σ H s):TabIn X.K X.mg H:=fun P q h=>
 let⟨tk,e⟩:=I.ok.frf.2 P q h
 ⟨tk,I.base.tbls P _ e⟩
theorem Inv.stack (I:Inv X pins σ H s):s.heap.FunFrames X.base X.stack:=by
 rcases I.ok.stk with e|⟨e,hf⟩
 ·rw[e];exact I.funs
 ·rw[e]
  obtain⟨m,hn,_⟩:=I.loc
  refine .cons (by rw[I.ok.kind];decide) hf hn ?_ I.funs
  exact Heap.get?_none_of_le (Nat.le_trans I.ok.bsz I.ok.above)
theorem Inv.stkSub (I:Inv X pins σ H s):∀b∈frs X.stack,b∈X.env.locals::X.fs:=fun b hb=>by
 rcases I.ok.stk with e|⟨e,hf⟩
 ·rw[e]at hb;exact List.mem_cons_of_mem _ hb
 ·rw[e]at hb
  unfold frs at hb
  rw[List.filterMap_cons,hf]at hb
  exact hb
theorem Inv.stkFree (I:Inv X pins σ H s):∀b∈frs X.stack,H b=none:=fun b hb=>by
 rcases List.mem_cons.mp (I.stkSub b hb)with e|hb
 ·rw[e];exact I.free
 ·obtain⟨_,o,ho,_⟩:=I.ok.funs.mem hb
  exact I.base.free b o ho (I.ok.frf.1 b hb) fun z=>I.ok.exfs b z hb
theorem Inv.step (I:Inv X pins σ H s)
  (hch:∀b∈ch,(b∈X.ex\/X.s₀.heap.objs.size<=b)/\b≠X.env.locals/\(∀x c,X.env.cells.lookup x=some c->c≠b)/\∀p∈X.pn++pins,p.1≠b)
  (keep:∀b o,b≠X.env.locals->b∉X.fs->b∉ch->s.heap.get? b=some o->H b=none->h'.get? b=some o)
  (slot:∀b o,b≠X.env.locals->b∈X.fs->b∉ch->s.heap.get? b=some o->H b=none->∃sl,h'.get? b=some {o with slots:=sl}) (free:∀b o,b∉ch->s.heap.get? b=some o->H b=none->H' b=none)
  (there:∀b o,b∉ch->s.heap.get? b=some o->∃o',h'.get? b=some o')
  (tups:∀b xs,H b=some (.tup xs)->H' b=some (.tup xs)) (frzs:∀b o u,H b=some (.frz o u)->H' b=some (.frz o u)) (tbls:∀b ps,H b=some (.tbl ps)->H' b=some (.tbl ps))
  (ns:∀m,s.heap.Ns X.env.locals m->h'.Ns X.env.locals m) (hok:HOk X.prog X.w H' h') (hg:AllBare g'):
  Inv X pins σ H' {s with heap:=h',gens:=g',drawn:=d',toks:=t'}:=by
 have neL:∀b o,X.s₀.heap.get? b=some o->b≠X.env.locals:=fun b o e=>Nat.ne_of_lt (Nat.lt_of_lt_of_le (Heap.lt_size e) I.ok.above)
 have neC:∀b o,X.s₀.heap.get? b=some o->b∉X.ex->b∉ch:=fun b o e hx hb=>by
  rcases(hch b hb).1 with z|z
  ·exact hx z
  ·exact absurd (Nat.lt_of_lt_of_le (Heap.lt_size e) z) (Nat.lt_irrefl _)
 have cellK:∀x c,X.env.cells.lookup x=some c->∀v,s.heap.IsCell c v->h'.IsCell c v:=fun x c e v ⟨o,ho,hd⟩=>by
  have nch:c∉ch:=fun z=>(hch c z).2.2.1 x c e rfl
  by_cases hc:c∈X.fs
  ·obtain⟨sl,q⟩:=slot c o (I.cne x c e) hc nch ho (I.freeC x c e)
   exact⟨_,q,hd⟩
  ·exact⟨o,keep c o (I.cne x c e) hc nch ho (I.freeC x c e),hd⟩
 refine⟨I.ok,I.os,hg,⟨fun b o e n hb hx=>?_,fun b o e n hb hx=>?_,fun b o e n hx=>?_,fun b o e hx=>?_,fun b xs e=>tups b xs (I.base.tups b xs e),fun b o xs e=>frzs b o xs (I.base.frzs b o xs e),fun b ps e=>?_⟩,?_,fun x c e=>?_,?_,fun x c e=>?_,fun p hp=>?_,hok,I.len⟩
 ·exact keep b o (neL b o e) hb (neC b o e hx) (I.base.keep b o e n hb hx) (I.base.free b o e n hx)
 ·obtain⟨sl,e1⟩:=I.base.slot b o e n hb hx
  obtain⟨sl',e2⟩:=slot b _ (neL b o e) hb (neC b o e hx) e1 (I.base.free b o e n hx)
  exact⟨sl',e2⟩
 ·obtain⟨o',e1⟩:=I.base.there b o e hx
  exact free b o' (neC b o e hx) e1 (I.base.free b o e n hx)
 ·obtain⟨o',e1⟩:=I.base.there b o e hx
  exact there b o' (neC b o e hx) e1
 ·exact tbls b ps (I.base.tbls b ps e)
 ·obtain⟨m,hn,hl⟩:=I.loc
  refine⟨m,ns m hn,fun i x v e1 e2 e3=>?_⟩
  obtain⟨u,r,l⟩:=hl i x v e1 e2 e3
  refine⟨u,r,?_⟩
  rcases l with l|⟨k,c,e,z⟩
  ·exact .inl l
  ·exact .inr ⟨k,c,e,cellK x c e _ z⟩
 ·obtain⟨v,z⟩:=I.cell x c e
  exact⟨v,cellK x c e v z⟩
 ·obtain⟨m,⟨o,_,_,ho,_⟩,_⟩:=I.loc
  exact free _ o (fun z=>(hch _ z).2.1 rfl) ho I.free
 ·obtain⟨v,o,ho,hd⟩:=I.cell x c e
  exact free c o (fun z=>(hch c z).2.2.1 x c e rfl) ho (I.freeC x c e)
 ·obtain⟨e,n,ne,nf,d⟩:=I.pin p hp
  have nch:p.1∉ch:=fun z=>(hch p.1 z).2.2.2 p hp rfl
  exact⟨keep p.1 p.2 ne nf nch e n,free p.1 p.2 nch e n,ne,nf,d⟩
theorem Inv.un (I:Inv X pins σ H s)(u:Un X.fs [] H H' s.heap h')(hok:HOk X.prog X.w H' h'):Inv X pins σ H' {s with heap:=h',toks:=t'}:=by
  obtain⟨m,⟨o,es,ep,ho,r⟩,_⟩:=id I.loc
  obtain⟨sl,hL⟩:=u.any ho I.free (by simp)
  exact I.step (g':=s.gens) (d':=s.drawn) (ch:=[]) (fun _ z=>nomatch z) (fun b o _ hb _ e n=>u.keep b o e n hb (by simp)) (fun b o _ hb _ e n=>u.slot b o e n hb (by simp)) (fun b o _ e n=>u.free b o e n (by simp)) (fun b o _ e=>u.there b o e (by simp)) u.tups u.frzs u.tbls (fun m' hm=>by
    obtain⟨o',es',ep',ho',r'⟩:=hm
    rw[ho]at ho';cases ho'
    exact⟨_,es',ep',hL,r'⟩) hok I.bare
theorem Inv.call {ch:List Addr}(I:Inv X pins σ H s)(u:Un (frs X.stack) ch H H' s.heap h')(hok:HOk X.prog X.w H' h')(hg:AllBare g')
  (hch:∀b∈ch,(b∈X.ex\/X.s₀.heap.objs.size<=b)/\b≠X.env.locals/\(∀x c,X.env.cells.lookup x=some c->c≠b)/\∀p∈X.pn++pins,p.1≠b):
  Inv X pins σ H' {s with heap:=h',gens:=g',drawn:=d',toks:=t'}:=by
 obtain⟨m,⟨o,es,ep,ho,r⟩,_⟩:=id I.loc
 obtain⟨sl,hL⟩:=u.any ho I.free fun z=>(hch _ z).2.1 rfl
 exact I.step (ch:=ch) hch (fun b o hL hb hc e n=>u.keep b o e n (fun z=>(List.mem_cons.mp (I.stkSub b z)).elim hL hb) hc) (fun b o _ _ hc e n=>u.any e n hc) (fun b o hc e n=>u.free b o e n hc) (fun b o hc e=>u.there b o e hc) u.tups u.frzs u.tbls (fun m' hm=>by
  obtain⟨o',es',ep',ho',r'⟩:=hm
  rw[ho]at ho';cases ho'
  exact⟨_,es',ep',hL,r'⟩) hok hg
theorem Inv.turned (I:Inv X pins σ H s)(k:∀b o,b≠it->s.heap.get? b=some o->h'.get? b=some o)(hn:H it=none)(hL:it≠X.env.locals)
  (h1:it∈X.ex\/X.s₀.heap.objs.size<=it) (h2:∀x c,X.env.cells.lookup x=some c->c≠it) (h3:∀p∈X.pn++pins,p.1≠it):Inv X pins σ H {s with heap:=h',toks:=t'}:=by
 have nit:∀b u,H b=some u->b≠it:=fun b u e z=>by rw[z,hn]at e;cases e
 refine I.step (g':=s.gens) (d':=s.drawn) (ch:=[it]) (fun b hb=>?_) (fun b o _ _ hc e _=>k b o (fun z=>hc (by simp[z])) e) (fun b o _ _ hc e _=>⟨o.slots,k b o (fun z=>hc (by simp[z])) e⟩) (fun _ _ _ _ n=>n)
  (fun b o hc e=>⟨o,k b o (fun z=>hc (by simp[z])) e⟩) (fun _ _ e=>e) (fun _ _ _ e=>e) (fun b ps e=>e) (fun m hm=>?_) (fun b u e=>?_) I.bare
 ·have e:b=it:=by simpa using hb
  subst e
  exact⟨h1,hL,h2,h3⟩
 ·obtain⟨o,es,ep,ho,r⟩:=hm
  exact⟨o,es,ep,k _ o (Ne.symm hL) ho,r⟩
 ·refine(I.hok b u e).stay (fun c v hc q=>k c v ?_ q) (fun _ q=>q) (fun _ _ q=>q) fun _ _ _ q=>q
  rcases hc with z|z
  ·rw[z];exact nit b u e
  ·exact nit c _ z
theorem Inv.tok (I:Inv X pins σ H s)(t:Nat):Inv X pins σ H {s with toks:=t}:=I.un (h':=s.heap) (t':=t) Un.refl I.hok
theorem Inv.kept (I:Inv X pins σ H s)(k:∀b u,s.heap.get? b=some u->h'.get? b=some u):Inv X pins σ H {s with heap:=h',toks:=t'}:=I.un (Un.kept k) (I.hok.kept k)
theorem Inv.laid (I:Inv X pins σ H s)(k:∀b u,s.heap.get? b=some u->h'.get? b=some u)(hp:s.heap.objs.size<=a)(new:ObjOk X.prog X.w (upd H a o) h' a o):
  Inv X pins σ (upd H a o) {s with heap:=h',toks:=t'}:=I.un (Un.laid k hp (I.hok.fresh hp)) (I.hok.laid k hp new)
theorem Inv.write {x e:Addr}(I:Inv X pins σ H s)(mu:Mut (H x))(he:e=x\/H e=some (.own x))(k:∀b u,b≠e->s.heap.get? b=some u->h'.get? b=some u)(heo:∃u,h'.get? e=some u)
  (new:ObjOk X.prog X.w (upd H x o) h' x o):Inv X pins σ (upd H x o) {s with heap:=h',toks:=t'}:=I.un (Un.write mu he k heo) (I.hok.write mu he k heo new)
theorem Inv.pins_of (I:Inv X pins σ H s)(h:∀p∈pins',s.heap.get? p.1=some p.2/\H p.1=none/\p.1≠X.env.locals/\p.1∉X.fs/\∀v,p.2.data≠ .cell v):Inv X pins' σ H s:=
 ⟨I.ok,I.os,I.bare,I.base,I.loc,I.cell,I.free,I.freeC,fun p hp=>(List.mem_append.mp hp).elim (fun z=>I.pin p (List.mem_append_left _ z)) (h p),I.hok,I.len⟩
theorem zlZ (hN:N.Nodup)(a:N[i]? =some x)(b:N[j]? =some x):i=j:=by
 obtain⟨h1,e1⟩:=List.getElem?_eq_some_iff.mp a
 obtain⟨h2,e2⟩:=List.getElem?_eq_some_iff.mp b
 exact(List.getElem_inj hN).mp (e1.trans e2.symm)
theorem zrf {M:Model}(I:Inv X pins σ H s)(hN:X.N.Nodup)(hi:X.N[i]? =some x)(hx:Loc X.env.scope x)(r:RelV v u)
    (h:∀s',Inv X pins (σ.set i (some v)) H s'->(∃a,Heap.SameBut a s.heap s'.heap/\(a=X.env.locals\/X.env.cells.lookup x=some a))->Q () s') (hf:autoParam (X.fn x=true\/X.env.scope.names.lookup x=some .local) zu0._auto_1):wpAny M A (storeName X.env x u) Q E s:=by
  obtain⟨m,hn,hl⟩:=id I.loc
  have hcls:(X.env.scope.kind== .class||(X.env.scope.kind== .module&&X.env.locals !=X.env.globals))=false:=by rw[I.ok.kind];rfl
  have hiσ:i<σ.length:=by rw[I.len];exact(List.getElem?_eq_some_iff.mp hi).1
  have cne:=I.cne
  have tracked:∀{a:Addr} {h':Heap},(∃o,s.heap.get? a=some o/\H a=none)->Heap.SameBut a s.heap h'->HOk X.prog X.w H h':=fun{a h'} ha hs b ob e=>by
    obtain⟨_,_,hfree⟩:=ha
    refine(I.hok b ob e).stay (fun c w' hc q=>(hs.2 c ?_).trans q) (fun _ q=>q) (fun _ _ q=>q) fun _ _ _ q=>q
    rintro rfl
    rcases hc with rfl|hc
    . rw[hfree]at e;cases e
    . rw[hfree]at hc;cases hc
  rcases hx with hk|hk
  . refine wpAny_storeName_local hk hn (fun h' hn' hs=>?_) hcls
    obtain⟨oL,_,_,hoL,_⟩:=id hn
    refine h _ ⟨I.ok,I.os,I.bare,⟨fun b o e n hb hx=>?_,fun b o e n hb hx=>?_,I.base.free,fun b o e hx=>?_,I.base.tups,I.base.frzs,I.base.tbls⟩,⟨_,hn',fun j y v' e1 e2 e3=>?_⟩,fun y c e=>?_,I.free,I.freeC,fun p hp=>?_,tracked ⟨oL,hoL,I.free⟩ hs,by simpa using I.len⟩ ⟨_,hs,.inl rfl⟩
    . exact(hs.2 b (Nat.ne_of_lt (Nat.lt_of_lt_of_le (Heap.lt_size e) I.ok.above))).trans (I.base.keep b o e n hb hx)
    . obtain⟨sl,e1⟩:=I.base.slot b o e n hb hx
      exact⟨sl,(hs.2 b (Nat.ne_of_lt (Nat.lt_of_lt_of_le (Heap.lt_size e) I.ok.above))).trans e1⟩
    . obtain⟨o',e1⟩:=I.base.there b o e hx
      exact⟨o',(hs.2 b (Nat.ne_of_lt (Nat.lt_of_lt_of_le (Heap.lt_size e) I.ok.above))).trans e1⟩
    . by_cases hj:j=i
      . subst hj
        rw[hi]at e1;cases e1
        rw[List.getElem?_set_self hiσ]at e2
        cases e2
        exact⟨u,r,.inl ⟨hk,by simp⟩⟩
      . rw[List.getElem?_set_ne (Ne.symm hj)]at e2
        obtain⟨u',r',q⟩:=hl j y v' e1 e2 e3
        refine⟨u',r',?_⟩
        rcases q with⟨k,e⟩|⟨k,c,e,z⟩
        . refine .inl ⟨k,?_⟩
          have:y≠x:=fun e=>hj (zlZ hN e1 (e ▸ hi))
          simp[this,e]
        . exact .inr ⟨k,c,e,z.sameBut hs (cne y c e)⟩
    . obtain⟨w',z⟩:=I.cell y c e
      exact⟨w',z.sameBut hs (cne y c e)⟩
    . obtain⟨e,n,ne,nf,d⟩:=I.pin p hp
      exact⟨(hs.2 p.1 ne).trans e,n,ne,nf,d⟩
  . have hfn:X.fn x=true:=by
      rcases hf with z|z
      . exact z
      . rw[z]at hk;cases hk
    obtain⟨c,hc⟩:=I.ok.has x (.inl hk)
    obtain⟨w',z⟩:=I.cell x c hc
    refine wpAny_storeName_cell I.ok.kind hk hc z (fun h' hc' hs=>?_)
    obtain⟨oc,hoc,hocd⟩:=id z
    refine h {s with heap:=h'} ⟨I.ok,I.os,I.bare,⟨fun b o e n hb hx=>?_,fun b o e n hb hx=>?_,I.base.free,fun b o e hx=>?_,I.base.tups,I.base.frzs,I.base.tbls⟩,⟨m,hn.sameBut hs (Ne.symm (cne x c hc)),fun j y v' e1 e2 e3=>?_⟩,fun y c' e=>?_,I.free,I.freeC,fun p hp=>?_,tracked ⟨oc,hoc,I.freeC x c hc⟩ hs,by simpa using I.len⟩ ⟨c,hs,.inr hc⟩
    . exact(hs.2 b (Nat.ne_of_lt (Nat.lt_of_lt_of_le (Heap.lt_size e) (I.ok.cab x c hfn hc)))).trans (I.base.keep b o e n hb hx)
    . obtain⟨sl,e1⟩:=I.base.slot b o e n hb hx
      exact⟨sl,(hs.2 b (Nat.ne_of_lt (Nat.lt_of_lt_of_le (Heap.lt_size e) (I.ok.cab x c hfn hc)))).trans e1⟩
    . obtain⟨o',e1⟩:=I.base.there b o e hx
      exact⟨o',(hs.2 b (Nat.ne_of_lt (Nat.lt_of_lt_of_le (Heap.lt_size e) (I.ok.cab x c hfn hc)))).trans e1⟩
    . by_cases hj:j=i
      . subst hj
        rw[hi]at e1;cases e1
        rw[List.getElem?_set_self hiσ]at e2
        cases e2
        exact⟨u,r,.inr ⟨.inl hk,c,hc,hc'⟩⟩
      . rw[List.getElem?_set_ne (Ne.symm hj)]at e2
        obtain⟨u',r',q⟩:=hl j y v' e1 e2 e3
        refine⟨u',r',?_⟩
        rcases q with q|⟨k,c',e,z'⟩
        . exact .inl q
        . refine .inr ⟨k,c',e,z'.sameBut hs ?_⟩
          rintro rfl
          exact hj (zlZ hN e1 (I.ok.inj _ _ _ e hc ▸ hi))
    . by_cases hcc:c'=c
      . subst hcc;exact⟨_,hc'⟩
      . obtain⟨w2,z2⟩:=I.cell y c' e
        exact⟨w2,z2.sameBut hs hcc⟩
    . obtain⟨e,n,ne,nf,d⟩:=I.pin p hp
      refine⟨(hs.2 p.1 ?_).trans e,n,ne,nf,d⟩
      intro q
      rw[q,hoc]at e
      have q':oc=p.2:=Option.some.inj e
      exact d w' (by rw[<-q'];exact hocd)
theorem zh0 {M:Model}(I:Inv X pins σ H s)(hN:X.N.Nodup)(hi:X.N[i]? =some x)(hx:Loc X.env.scope x)(r:RelV v u)
  (h:∀s',Inv X pins (σ.set i (some v)) H s'->Q () s') (hf:autoParam (X.fn x=true\/X.env.scope.names.lookup x=some .local) zu0._auto_1):wpAny M A (storeName X.env x u) Q E s:=
 zrf I hN hi hx r (fun s' I' _=>h s' I') hf
theorem Inv.call' (I:Inv X pins σ H s)(ho:s'.os=s.os)(u:Un (frs X.stack) ch H H' s.heap s'.heap)(hok:HOk X.prog X.w H' s'.heap)(hg:AllBare s'.gens)
  (hch:∀b∈ch,(b∈X.ex\/X.s₀.heap.objs.size<=b)/\b≠X.env.locals/\(∀x c,X.env.cells.lookup x=some c->c≠b)/\∀p∈X.pn++pins,p.1≠b):Inv X pins σ H' s':=by
 obtain⟨h',g',d',t',o'⟩:=s'
 have e:o'=s.os:=ho
 subst e
 exact I.call (g':=g') (t':=t') (d':=d') u hok hg hch
end
noncomputable abbrev XK:=Value->Option Addr->Hp->Prop
noncomputable abbrev St:=List (Option V)
noncomputable abbrev VK:=V->Hp->Prop
noncomputable abbrev TE:=St->Hp->VK->Prop
noncomputable abbrev TT:=St->Hp->(Bool->Hp->Prop)->Prop
noncomputable abbrev TA:=St->Hp->(List V->Hp->Prop)->Prop
structure Ends where
 nx:St->Hp->Prop
 rt:VK
 bk:St->Hp->Prop:=fun _ _=>False
 ct:St->Hp->Prop:=fun _ _=>False
noncomputable abbrev TS:=Ends->St->Hp->Prop
noncomputable def EP (X:Cx)(pins:List (Addr×Obj))(σ:St)(Q:VK)(u:Value)(s':Shared):Prop:=∃v H',Inv X pins σ H' s'/\RelV v u/\Q v H'
noncomputable def TP (X:Cx)(pins:List (Addr×Obj))(σ:St)(Q:Bool->Hp->Prop)(b:Bool)(s':Shared):Prop:=∃H',Inv X pins σ H' s'/\Q b H'
noncomputable def AP (X:Cx)(pins:List (Addr×Obj))(σ:St)(Q:List V->Hp->Prop)(us:List Value)(s':Shared):Prop:=∃vs H',Inv X pins σ H' s'/\Vals vs us/\Q vs H'
noncomputable def SP (X:Cx)(pins:List (Addr×Obj))(D:Ends)(f:Flow)(s':Shared):Prop:=
 match f with
 | .next=>∃σ' H',Inv X pins σ' H' s'/\D.nx σ' H'
 | .brk=>∃σ' H',Inv X pins σ' H' s'/\D.bk σ' H'
 | .cont=>∃σ' H',Inv X pins σ' H' s'/\D.ct σ' H'
 | .ret u=>∃v σ' H',Inv X pins σ' H' s'/\RelV v u/\D.rt v H'
noncomputable def PE (X:Cx)(e:Expr)(t:TE):Prop:=
 ∀(pins:List (Addr×Obj)) (s:Shared) (σ:St) (H:Hp) (Q:VK),Inv X pins σ H s->t σ H Q->wpAny (model X.prog X.w) X.A (eval e X.env) (EP X pins σ Q) X.xe s
noncomputable def PT (X:Cx)(e:Expr)(t:TT):Prop:=
 ∀(pins:List (Addr×Obj)) (s:Shared) (σ:St) (H:Hp) (Q:Bool->Hp->Prop),Inv X pins σ H s->t σ H Q->wpAny (model X.prog X.w) X.A (isTrue e X.env (eval e X.env)) (TP X pins σ Q) X.xe s
noncomputable def PW (X:Cx)(e:Expr)(t:TT):Prop:=
 ∀(whole:Sem Value) (pins:List (Addr×Obj)) (s:Shared) (σ:St) (H:Hp) (Q:Bool->Hp->Prop),Inv X pins σ H s->t σ H Q->wpAny (model X.prog X.w) X.A (isTrue e X.env whole) (TP X pins σ Q) X.xe s
theorem PW.pt {t:TT}(h:PW X e t):PT X e t:=h _
noncomputable def PA (X:Cx)(es:List Expr)(t:TA):Prop:=
 ∀(pos:Pos) (pins:List (Addr×Obj)) (s:Shared) (σ:St) (H:Hp) (Q:List V->Hp->Prop),Inv X pins σ H s->t σ H Q->wpAny (model X.prog X.w) X.A (spliced (backTo pos (starEach es X.env))) (AP X pins σ Q) X.xe s
noncomputable def PS (X:Cx)(st:Stmt)(t:TS):Prop:=
 ∀(pins:List (Addr×Obj)) (s:Shared) (σ:St) (H:Hp) (D:Ends),Inv X pins σ H s->t D σ H->wpAny (model X.prog X.w) X.A (exec st X.env) (SP X pins D) X.xe s
noncomputable def PSs (X:Cx)(st:List Stmt)(t:TS):Prop:=
 ∀(pins:List (Addr×Obj)) (s:Shared) (σ:St) (H:Hp) (D:Ends),Inv X pins σ H s->t D σ H->wpAny (model X.prog X.w) X.A (execs st X.env) (SP X pins D) X.xe s
theorem thn {α:Type}{t:Sem α}{Q Q':α->Shared->Prop}{M:Model}(h:wpAny M A t Q E s)(hQ:∀a s,Q a s->Q' a s):wpAny M A t Q' E s:=wpAny_mono h hQ fun _ _ x=>x
section
variable {X:Cx}
noncomputable def tVar (i:Nat):TE:=fun σ H Q=>∃v,σ[i]? =some (some v)/\Q v H
noncomputable def tC (v:V):TE:=fun _ H Q=>Q v H
theorem zfw (hN:X.N[i]? =some x)(hv:Vis X.env.scope x)(hd:autoParam ((x==("__debug__":Str))=false) zu1._auto_1)(hcd:autoParam ((x==("__classdict__":Str))=false) zu1._auto_1):PE X (.Name x pos) (tVar i):=by
 intro pins s σ H Q I h
 obtain⟨v,e,h⟩:=h
 obtain⟨m,hn,hl⟩:=I.loc
 obtain⟨u,r,l⟩:=hl i x v hN e hv
 have fin:EP X pins σ Q u s:=⟨v,H,I,r,h⟩
 rcases l with⟨hk,hm⟩|⟨hk,c,hc,hcell⟩
 ·exact wpAny_Name (wpAny_loadName_local I.ok.kind hk hn hm fin) hd
 ·rcases hk with hk|hk
  ·exact wpAny_Name (wpAny_loadName_cell I.ok.kind hk hc hcell fin) hd
  ·exact wpAny_Name (wpAny_loadName_free I.ok.kind hk hc hcell fin hcd) hd
theorem pe_int {i j pos}:PE X (.Constant (.int i) j pos) (tC (.int i)):=fun _ _ _ H _ I h=>wpAny_Constant_int ⟨.int i,H,I.tok _,⟨_,rfl⟩,h⟩
theorem pe_bl {b j pos}:PE X (.Constant (.bool b) j pos) (tC (.bl b)):=fun _ _ _ H _ I h=>Constant_bool ⟨.bl b,H,I,rfl,h⟩
theorem pe_non {j pos}:PE X (.Constant .none j pos) (tC .non):=fun _ _ _ H _ I h=>Constant_none ⟨.non,H,I,rfl,h⟩
theorem pe_str {x j pos}:PE X (.Constant (.str x) j pos) (tC (.str x)):=fun _ _ _ H _ I h=>Calls.Constant_str ⟨.str x,H,I.tok _,⟨_,rfl⟩,h⟩
noncomputable def Gl (X:Cx)(x:Str):Prop:=X.env.kindOf x=some .globalImplicit
theorem zj1 {Q:Value->Shared->Prop}(I:Inv X pins σ H s)(hg:Gl X x)(hm:X.mg x=some u)(h:Q u s)
  (hd:autoParam ((x==("__debug__":Str))=false) zu1._auto_1):wpAny (model X.prog X.w) X.A (eval (.Name x pos) X.env) Q E s:=
 Calls.Name_function_global I.ok.kind hg (Calls.loadGlobal_global (by rw[I.ok.glob];exact I.mod.glob.keeps I.bk) hm h) hd
theorem zhI {Q:Value->Shared->Prop}(I:Inv X pins σ H s)(hg:Gl X x)(hm:X.mg x=none)(hv:bootBuiltins x=some u)(h:Q u s)
  (hn:autoParam (x≠"__name__") zu1._auto_1) (hd:autoParam ((x==("__debug__":Str))=false) zu1._auto_1):wpAny (model X.prog X.w) X.A (eval (.Name x pos) X.env) Q E s:=by
 obtain⟨mb,h1,h2⟩:=I.mod.blt
 exact Calls.Name_function_global I.ok.kind hg (Calls.loadGlobal_builtin (by rw[I.ok.glob];exact I.mod.glob.keeps I.bk) hm (by rw[I.ok.blt];exact h1.keeps I.bk) ((h2 x hn).trans hv) h) hd
theorem pe_glob (hg:Gl X x)(hm:X.mg x=some u)(r:RelV v u)(hd:autoParam ((x==("__debug__":Str))=false) zu1._auto_1):PE X (.Name x pos) (tC v):=
 fun _ _ _ H _ I h=>zj1 I hg hm ⟨v,H,I,r,h⟩ hd
theorem pe_bltn (hg:Gl X x)(hm:X.mg x=none)(hv:bootBuiltins x=some u)(r:RelV v u)(hn:autoParam (x≠"__name__") zu1._auto_1)(hd:autoParam ((x==("__debug__":Str))=false) zu1._auto_1):PE X (.Name x pos) (tC v):=
 fun _ _ _ H _ I h=>zhI I hg hm hv ⟨v,H,I,r,h⟩ hn hd
variable {a b:Expr} {ta tb:TE} {pos:Pos}
variable {tA tB':TT} {rest:List Expr}
noncomputable def tAnd (t u:TT):TT:=fun σ H Q=>t σ H fun c H1=>if c=true then u σ H1 Q else Q false H1
noncomputable def tOr (t u:TT):TT:=fun σ H Q=>t σ H fun c H1=>if c=true then Q true H1 else u σ H1 Q
noncomputable def tNot (t:TT):TT:=fun σ H Q=>t σ H fun c H1=>Q (!c) H1
theorem pw_and1 (ha:PT X a tA):PW X (.BoolOp .And [a] pos) tA:=by
 intro wh pins s σ H Q I h
 refine isTrue_and (thn (ha pins s σ H Q I h) fun c s1 e=>?_)
 cases c with
 |true=>exact isTrue_and_nil e
 |false=>exact e
theorem pw_or1 (ha:PT X a tA):PW X (.BoolOp .Or [a] pos) tA:=by
 intro wh pins s σ H Q I h
 refine isTrue_or (thn (ha pins s σ H Q I h) fun c s1 e=>?_)
 cases c with
 |false=>exact isTrue_or_nil e
 |true=>exact e
theorem pw_and (ha:PT X a tA)(hb:PW X (.BoolOp .And (b::rest) pos) tB'):PW X (.BoolOp .And (a::b::rest) pos) (tAnd tA tB'):=by
 intro wh pins s σ H Q I h
 refine isTrue_and (thn (ha pins s σ H _ I h) fun c s1 ⟨H1,I1,q1⟩=>?_)
 cases c with
 |true=>exact hb wh pins s1 σ H1 Q I1 q1
 |false=>exact⟨H1,I1,q1⟩
theorem pw_or (ha:PT X a tA)(hb:PW X (.BoolOp .Or (b::rest) pos) tB'):PW X (.BoolOp .Or (a::b::rest) pos) (tOr tA tB'):=by
 intro wh pins s σ H Q I h
 refine isTrue_or (thn (ha pins s σ H _ I h) fun c s1 ⟨H1,I1,q1⟩=>?_)
 cases c with
 |true=>exact⟨H1,I1,q1⟩
 |false=>exact hb wh pins s1 σ H1 Q I1 q1
theorem pt_not (ha:PT X a tA):PT X (.UnaryOp .Not a pos) (tNot tA):=by
 intro pins s σ H Q I h
 exact isTrue_not (ha pins s σ H (fun c H1=>Q (!c) H1) I h)
noncomputable def tAndV (ta tb:TE):TE:=fun σ H Q=>ta σ H fun x H1=>∃c,x= .bl c/\if c=true then tb σ H1 Q else Q (.bl false) H1
noncomputable def tOrV (ta tb:TE):TE:=fun σ H Q=>ta σ H fun x H1=>∃c,x= .bl c/\if c=true then Q (.bl true) H1 else tb σ H1 Q
theorem pe_one {op}{t:TE}(h:PE X a t):PE X (.BoolOp op [a] pos) t:=fun pins s σ H Q I hw=>BoolOp_one (h pins s σ H Q I hw)
theorem pe_and (ha:PE X a ta)(hb:PE X (.BoolOp .And (b::rest) pos) tb):PE X (.BoolOp .And (a::b::rest) pos) (tAndV ta tb):=by
 intro pins s σ H Q I h
 refine BoolOp_and (thn (ha pins s σ H _ I h) fun v s1 ⟨x,H1,I1,r1,q1⟩=>?_)
 obtain⟨c,rfl,q1⟩:=q1
 cases r1
 refine wpAny_truthy_bool ?_
 cases c with
 |true=>exact hb pins s1 σ H1 Q I1 q1
 |false=>exact⟨.bl false,H1,I1,rfl,q1⟩
theorem pe_or (ha:PE X a ta)(hb:PE X (.BoolOp .Or (b::rest) pos) tb):PE X (.BoolOp .Or (a::b::rest) pos) (tOrV ta tb):=by
 intro pins s σ H Q I h
 refine BoolOp_or (thn (ha pins s σ H _ I h) fun v s1 ⟨x,H1,I1,r1,q1⟩=>?_)
 obtain⟨c,rfl,q1⟩:=q1
 cases r1
 refine wpAny_truthy_bool ?_
 cases c with
 |false=>exact hb pins s1 σ H1 Q I1 q1
 |true=>exact⟨.bl true,H1,I1,rfl,q1⟩
end
noncomputable def SqL (K:W.Frag)(H:Hp)(a:Addr)(xs:List V):Prop:=
 Rd H a (.lst xs)\/
  ∃(o:Obj) (its:Array Value) (n:Nat),K.lookup a=some o/\o.cls= .type "list"/\o.dict=none/\o.data= .seq its n/\its.size<=sizeLine/\Vals xs its.toList
noncomputable def SqT (K:W.Frag)(H:Hp)(a:Addr)(xs:List V):Prop:=
 Rd H a (.tup xs)\/
  ∃(o:Obj) (its:Array Value) (n:Nat),K.lookup a=some o/\o.cls= .type "tuple"/\o.data= .seq its n/\its.size<=sizeLine/\Vals xs its.toList
noncomputable def absV:Value->Option V
 | .none=>some .non
 | .bool b=>some (.bl b)
 | .int i _=>some (.int i)
 | .str x _=>some (.str x)
 | .bytes b _=>some (.byt b)
 | .float b _=>some (.flt b)
 | .ref a=>some (.ref a)
 | .type n=>some (.ty n)
 |_=>none
theorem RelV.abs {x:V}(r:RelV x u):absV u=some x:=by
 cases x with
 |non=>cases r;rfl
 |bl _=>cases r;rfl
 |int _=>obtain⟨t,rfl⟩:=r;rfl
 |str _=>obtain⟨t,rfl⟩:=r;rfl
 |byt _=>obtain⟨t,rfl⟩:=r;rfl
 |flt _=>obtain⟨t,rfl⟩:=r;rfl
 |ref _=>cases r;rfl
 |ty _=>cases r;rfl
theorem RelV.inj {x y:V}(r:RelV x u)(q:RelV y u):x=y:=Option.some.inj (r.abs.symm.trans q.abs)
theorem Vals.inj:∀{xs ys:List V} {us:List Value},Vals xs us->Vals ys us->xs=ys
 |_,_,_,.nil,.nil=>rfl
 |_,_,_,.cons r t,.cons r' t'=>by rw[r.inj r',Vals.inj t t']
section
variable {X:Cx} {pins:List (Addr×Obj)} {σ:St} {H:Hp} {s:Shared} {a:Addr} {xs ys:List V}
theorem SqL.of (h:H a=some (.lst xs)):SqL K H a xs:= .inl (.inl h)
theorem SqT.of (h:H a=some (.tup xs)):SqT K H a xs:= .inl (.inl h)
theorem Inv.list (I:Inv X pins σ H s)(h:SqL X.K H a xs):∃its:List Value,Vals xs its/\PlainL s.heap a its.toArray/\xs.length<=sizeLine:=by
 rcases h with h|⟨o,its,n,hk,hc,hd,hs,hz,r⟩
 ·obtain⟨z,its,n,r,e⟩:=h.ok I.hok
  exact⟨its,r,⟨_,n,e,rfl,rfl,rfl⟩,z⟩
 ·refine⟨its.toList,r,⟨o,n,I.kIn a o hk,hc,hd,by simpa using hs⟩,?_⟩
  have e:=r.length
  simp only[Array.length_toList]at e
  lia
theorem Inv.tuple (I:Inv X pins σ H s)(h:SqT X.K H a xs):∃its:List Value,Vals xs its/\IsTup s.heap a its.toArray/\xs.length<=sizeLine:=by
 rcases h with h|⟨o,its,n,hk,hc,hs,hz,r⟩
 ·obtain⟨z,its,r,p⟩:=h.ok I.hok
  exact⟨its,r,p.is,z⟩
 ·refine⟨its.toList,r,⟨o,I.kIn a o hk,hc,n,by simpa using hs⟩,?_⟩
  have e:=r.length
  simp only[Array.length_toList]at e
  lia
theorem Inv.list_inj (I:Inv X pins σ H s)(h:SqL X.K H a xs)(h':SqL X.K H a ys):xs=ys:=by
 obtain⟨its,r,⟨o,n,e,_,_,d⟩,_⟩:=I.list h
 obtain⟨its',r',⟨o',n',e',_,_,d'⟩,_⟩:=I.list h'
 rw[e]at e';cases e'
 rw[d]at d'
 injection d' with d1 _
 have:its=its':=by simpa using congrArg Array.toList d1
 subst this
 exact r.inj r'
theorem Inv.tuple_inj (I:Inv X pins σ H s)(h:SqT X.K H a xs)(h':SqT X.K H a ys):xs=ys:=by
 obtain⟨its,r,⟨o,e,_,n,d⟩,_⟩:=I.tuple h
 obtain⟨its',r',⟨o',e',_,n',d'⟩,_⟩:=I.tuple h'
 rw[e]at e';cases e'
 rw[d]at d'
 injection d' with d1 _
 have:its=its':=by simpa using congrArg Array.toList d1
 subst this
 exact r.inj r'
end
noncomputable abbrev Cx.wish (X:Cx)(E:Value->Shared->Prop):Cx:={X with xe:=E}
noncomputable abbrev Cx.nox (X:Cx):Cx:=X.wish fun _ _=>False
theorem Cx.Ok.wish (ok:X.Ok)(E:Value->Shared->Prop):(X.wish E).Ok:=
 ⟨ok.mod,ok.kind,ok.glob,ok.blt,ok.above,ok.inj,ok.has,ok.cab,ok.hd,ok.frames,ok.stk,ok.exf,ok.bs,ok.bsz,ok.noex,ok.exfs,ok.funs,ok.frf⟩
theorem Cx.Ok.unwish (ok:(X.wish E).Ok):X.Ok:=
 ⟨ok.mod,ok.kind,ok.glob,ok.blt,ok.above,ok.inj,ok.has,ok.cab,ok.hd,ok.frames,ok.stk,ok.exf,ok.bs,ok.bsz,ok.noex,ok.exfs,ok.funs,ok.frf⟩
section
variable {X:Cx} {pins:List (Addr×Obj)} {σ:St} {H:Hp} {s:Shared} {E:Value->Shared->Prop}
theorem Inv.wish (I:Inv X pins σ H s)(E:Value->Shared->Prop):Inv (X.wish E) pins σ H s:=⟨I.ok.wish E,I.os,I.bare,I.base,I.loc,I.cell,I.free,I.freeC,I.pin,I.hok,I.len⟩
theorem Inv.unwish (I:Inv (X.wish E) pins σ H s):Inv X pins σ H s:=⟨I.ok.unwish,I.os,I.bare,I.base,I.loc,I.cell,I.free,I.freeC,I.pin,I.hok,I.len⟩
theorem SP.unwish {D:Ends}{f:Flow}(h:SP (X.wish E) pins D f s'):SP X pins D f s':=by
 cases f with
 |next=>obtain⟨σ',H',I,q⟩:=h;exact⟨σ',H',I.unwish,q⟩
 |brk=>obtain⟨σ',H',I,q⟩:=h;exact⟨σ',H',I.unwish,q⟩
 |cont=>obtain⟨σ',H',I,q⟩:=h;exact⟨σ',H',I.unwish,q⟩
 |ret u=>obtain⟨v,σ',H',I,r,q⟩:=h;exact⟨v,σ',H',I.unwish,r,q⟩
theorem PSs.nox {st:List Stmt}{t:TS}(h:PSs X.nox st t):PSs X st t:=fun pins s σ H D I hw=>
 wpAny_mono (h pins s σ H D (I.wish _) hw) (fun _ _ q=>q.unwish) fun _ _ z=>False.elim z
end
section
variable {X:Cx} {st:Stmt} {rest:List Stmt} {t u:TS} {e:Expr} {te:TE} {pos:Pos}
noncomputable def tNext:TS:=fun D σ H=>D.nx σ H
noncomputable def tSeq (t u:TS):TS:=fun D σ H=>t {D with nx:=u D} σ H
theorem znF:PSs X [] tNext:=fun _ _ σ H _ I h=>wpAny_execs_nil ⟨σ,H,I,h⟩
theorem zhX (h1:PS X st t)(h2:PSs X rest u):PSs X (st::rest) (tSeq t u):=by
 intro pins s σ H D I h
 refine wpAny_execs_cons (thn (h1 pins s σ H {D with nx:=u D} I h) fun f s1 q=>?_)
 cases f with
 |next=>
  obtain⟨σ',H',I',q⟩:=q
  exact h2 pins s1 σ' H' D I' q
 |ret v=>exact q
 |brk=>exact q
 |cont=>exact q
theorem pss_one (h1:PS X st t):PSs X [st] t:=by
 intro pins s σ H D I h
 refine wpAny_execs_cons (thn (h1 pins s σ H D I h) fun f s1 q=>?_)
 cases f with
 |next=>exact wpAny_execs_nil q
 |ret v=>exact q
 |brk=>exact q
 |cont=>exact q
theorem Inv.quiet (I:Inv X pins σ H s):interactive X.env=false:=by simp[interactive,I.ok.kind]
noncomputable def tDrop (te:TE):TS:=fun D σ H=>te σ H fun _ H1=>D.nx σ H1
theorem znY (he:PE X e te)(hs:autoParam (swapsWith e none pos.line X.env=pure false) zu2._auto_1):PS X (.Expr e pos) (tDrop te):=by
 intro pins s σ H D I h
 exact wpAny_Expr_any (thn (he pins s σ H _ I h) fun v s1 ⟨x,H1,I1,r1,q1⟩=>⟨σ,H1,I1,q1⟩) I.quiet hs
noncomputable def tRet (te:TE):TS:=fun D σ H=>te σ H D.rt
theorem zmm (he:PE X e te):PS X (.Return (some e) pos) (tRet te):=by
 intro pins s σ H D I h
 exact wpAny_Return_some (thn (he pins s σ H _ I h) fun v s1 ⟨x,H1,I1,r1,q1⟩=>⟨x,σ,H1,I1,r1,q1⟩)
noncomputable def tIfS (c:TT)(t u:TS):TS:=fun D σ H=>c σ H fun b H1=>if b=true then t D σ H1 else u D σ H1
theorem ps_if {a b:List Stmt}{tc:TT}(hc:PT X c tc)(ha:PSs X a t)(hb:PSs X b u):PS X (.If c a b pos) (tIfS tc t u):=by
 intro pins s σ H D I h
 refine wpAny_If (thn (hc pins s σ H _ I h) fun d s1 ⟨H1,I1,q1⟩=>?_)
 cases d with
 |true=>exact ha pins s1 σ H1 D I1 q1
 |false=>exact hb pins s1 σ H1 D I1 q1
noncomputable def tNever:TS:=fun _ _ _=>False
theorem ps_never:PS X st tNever:=fun _ _ _ _ _ _ h=>h.elim
end
noncomputable abbrev TG:=V->St->Hp->(St->Hp->Prop)->Prop
noncomputable abbrev TGs:=List V->St->Hp->(St->Hp->Prop)->Prop
noncomputable def PG (X:Cx)(target:Expr)(t:TG):Prop:=
 ∀(pins:List (Addr×Obj)) (s:Shared) (σ:St) (H:Hp) (v:V) (u:Value) (Q:St->Hp->Prop),Inv X pins σ H s->RelV v u->t v σ H Q->
  wpAny (model X.prog X.w) X.A (assign target X.env u) (fun _ s'=>∃σ' H',Inv X pins σ' H' s'/\Q σ' H') X.xe s
noncomputable def PGs (X:Cx)(ts:List Expr)(t:TGs):Prop:=
 ∀(pins:List (Addr×Obj)) (s:Shared) (σ:St) (H:Hp) (vs:List V) (us:List Value) (Q:St->Hp->Prop),Inv X pins σ H s->Vals vs us->t vs σ H Q->
  wpAny (model X.prog X.w) X.A (assignInOrder ((assignEach ts X.env).map (·.2)) us) (fun _ s'=>∃σ' H',Inv X pins σ' H' s'/\Q σ' H') X.xe s
noncomputable abbrev TSet:=V->V->V->Hp->(Hp->Prop)->Prop
noncomputable def PSet (X:Cx)(t:TSet):Prop:=
 ∀(pins:List (Addr×Obj)) (s:Shared) (σ:St) (H:Hp) (o i v:V) (ov iv u:Value) (Q:Hp->Prop),Inv X pins σ H s->RelV o ov->RelV i iv->RelV v u->t o i v H Q->
  wpAny (model X.prog X.w) X.A (setItem ov iv u) (fun _ s'=>∃H',Inv X pins σ H' s'/\Q H') X.xe s
noncomputable abbrev TIp:=V->V->Hp->VK->Prop
noncomputable def PIp (X:Cx)(op:Operator)(t:TIp):Prop:=
 ∀(pins:List (Addr×Obj)) (s:Shared) (σ:St) (H:Hp) (x y:V) (v u:Value) (Q:VK),Inv X pins σ H s->RelV x v->RelV y u->t x y H Q->
  wpAny (model X.prog X.w) X.A (inplaceOp op v u) (EP X pins σ Q) X.xe s
section
variable {X:Cx} {pos:Pos}
noncomputable def gName (i:Nat):TG:=fun v σ H Q=>Q (σ.set i (some v)) H
theorem zq0 (hN:X.N.Nodup)(hi:X.N[i]? =some x)(hx:Loc X.env.scope x)(hf:autoParam (X.fn x=true\/X.env.scope.names.lookup x=some .local) zu0._auto_1):PG X (.Name x pos) (gName i):=by
  intro pins s σ H v u Q I r h
  exact wpAny_assign_Name (zh0 I hN hi hx r (fun s' I'=>⟨_,H,I',h⟩) hf)
noncomputable def gNil:TGs:=fun vs σ H Q=>vs=[]/\Q σ H
noncomputable def gCons (t:TG)(u:TGs):TGs:=fun vs σ H Q=>∃v r,vs=v::r/\t v σ H fun σ' H'=>u r σ' H' Q
theorem pgs_nil:PGs X [] gNil:=by
 intro pins s σ H vs us Q I r h
 obtain⟨e,h⟩:=h
 subst e
 cases r
 exact assignInOrder_nil ⟨σ,H,I,h⟩
theorem pgs_cons {t:TG}{u:TGs}(h1:PG X e t)(h2:PGs X es u)
  (hs:autoParam ((assignEach (e::es) X.env).map (·.2)=assign e X.env::(assignEach es X.env).map (·.2)) zu2._auto_1):PGs X (e::es) (gCons t u):=by
 intro pins s σ H vs us Q I r h
 obtain⟨v,vr,e1,h⟩:=h
 subst e1
 cases r with
 |cons r rr=>
  rw[hs]
  refine assignInOrder_cons (thn (h1 pins s σ H _ _ _ I r h) fun _ s1 ⟨σ1,H1,I1,q1⟩=>?_)
  exact h2 pins s1 σ1 H1 _ _ Q I1 rr q1
noncomputable def gTup (K:W.Frag)(n:Nat)(t:TGs):TG:=fun v σ H Q=>∃a xs,v= .ref a/\SqT K H a xs/\xs.length=n/\t xs σ H Q
theorem pg_tup {t:TGs}(hc:X.calm=true)(h:PGs X es t)
  (hn:autoParam ((assignEach es X.env).length=n) zu2._auto_1) (hst:autoParam ((assignEach es X.env).findIdx? (·.1)=none) zu2._auto_1):PG X (.Tuple es k pos) (gTup X.K n t):=by
 intro pins s σ H v u Q I r hw
 obtain⟨a,xs,e1,hq,hl,hw⟩:=hw
 subst e1
 cases r
 obtain⟨its,rv,ht,hz⟩:=I.tuple hq
 refine assign_Tuple_tuple (I.ok.hd hc) ht (by simp[hn,<-hl,rv.length]) hst fun h' hx=>?_
 have I1:Inv X pins σ H {s with heap:=h'}:=I.kept (t':=s.toks) fun b o e=>hx b o (Nat.ne_of_lt (Heap.lt_size e)) e
 exact h pins _ σ H xs _ Q I1 (by simpa using rv) hw
noncomputable def gSub (to ti:TE)(t:TSet):TG:=fun v σ H Q=>to σ H fun o H1=>ti σ H1 fun i H2=>t o i v H2 fun H3=>Q σ H3
theorem pg_sub {o i:Expr}{to ti:TE}(ho:PE X o to)(hi:PE X i ti)(hs:PSet X t)
    (ha :autoParam (∀ v, assign (.Subscript o i pos) X.env v = (do
      let ov<-holding [v] (eval o X.env)
      let iv<-holding [v,ov] (eval i X.env)
      standAt pos
      holding [v,ov,iv] (setItem ov iv v)
      release [v,ov,iv] [])) zu3._auto_1):PG X (.Subscript o i pos) (gSub to ti t):=by
  intro pins s σ H v u Q I r h
  rw[ha]
  refine wpAny_bind (wpAny_holding (thn (ho pins s σ H _ I h) fun ov s1 ⟨x,H1,I1,r1,q1⟩=>?_))
  refine wpAny_bind (wpAny_holding (thn (hi pins s1 σ H1 _ I1 q1) fun iv s2 ⟨y,H2,I2,r2,q2⟩=>?_))
  refine wpAny_bind (wpAny_standAt (wpAny_bind (wpAny_holding (thn (hs pins s2 σ H2 x y v ov iv u _ I2 r1 r2 r q2) fun _ s3 ⟨H3,I3,q3⟩=>?_))))
  exact wpAny_release ⟨σ,H3,I3,q3⟩
noncomputable def tAsg (te:TE)(g:TG):TS:=fun D σ H=>te σ H fun x H1=>g x σ H1 D.nx
theorem ps_asg {g:TG}(he:PE X e te)(hg:PG X tg g)(hs:autoParam (swapsWithSole [tg] e pos.line X.env=pure false) zu2._auto_1)(hw:autoParam (swappedStores [tg] e X.env=pure none) zu2._auto_1)
  (h1:autoParam ((assignEach [tg] X.env).map (·.2)=[assign tg X.env]) zu2._auto_1):PS X (.Assign [tg] e pos) (tAsg te g):=by
 intro pins s σ H D I h
 refine wpAny_Assign_stores (thn (he pins s σ H _ I h) fun v s1 ⟨x,H1,I1,r1,q1⟩=>?_) hs hw
 rw[h1]
 exact thn (hg pins s1 σ H1 x v _ I1 r1 q1) fun _ s2 q=>q
theorem zmM (hN:X.N.Nodup)(hi:X.N[i]? =some x)(hx:Loc X.env.scope x)(he:PE X e te)(hs:autoParam (swapsWith e (some (.Name x pos')) pos.line X.env=pure false) zu2._auto_1)(hf:autoParam (X.fn x=true\/X.env.scope.names.lookup x=some .local) zu0._auto_1):
  PS X (.Assign [.Name x pos'] e pos) (tAsg te (gName i)):=by
 intro pins s σ H D I h
 refine wpAny_Assign_Name (thn (he pins s σ H _ I h) fun v s1 ⟨y,H1,I1,r1,q1⟩=>?_) hs
 exact zh0 I1 hN hi hx r1 (fun s2 I2=>⟨_,H1,I2,q1⟩) hf
noncomputable def tAug (i:Nat)(te:TE)(ti:TIp):TS:=fun D σ H=>∃x,σ[i]? =some (some x)/\te σ H fun y H1=>ti x y H1 fun z H2=>D.nx (σ.set i (some z)) H2
theorem ps_aug {op:Operator}{ti:TIp}(hN:X.N.Nodup)(hi:X.N[i]? =some x)(hx:Loc X.env.scope x)(he:PE X e te)(ho:PIp X op ti)(hf:autoParam (X.fn x=true\/X.env.scope.names.lookup x=some .local) zu0._auto_1):
  PS X (.AugAssign (.Name x pos') op e pos) (tAug i te ti):=by
 intro pins s σ H D I h
 obtain⟨v,e1,h⟩:=h
 obtain⟨m,hn,hl⟩:=I.loc
 have vis:Vis X.env.scope x:=by rcases hx with k|k;exact .inl k;exact .inr (.inl k)
 obtain⟨u,r,l⟩:=hl i x v hi e1 vis
 refine wpAny_AugAssign_Name ?_
 have go:wpAny (model X.prog X.w) X.A (eval e X.env) (fun w s₂=>wpAny (model X.prog X.w) X.A (inplaceOp op u w) (fun r s₃=>wpAny (model X.prog X.w) X.A (storeName X.env x r) (fun _=>SP X pins D .next) X.xe s₃) X.xe s₂) X.xe s:=by
  refine thn (he pins s σ H _ I h) fun w s1 ⟨y,H1,I1,r1,q1⟩=>?_
  refine thn (ho pins s1 σ H1 v y u w _ I1 r r1 q1) fun z s2 ⟨zv,H2,I2,r2,q2⟩=>?_
  exact zh0 I2 hN hi hx r2 (fun s3 I3=>⟨_,H2,I3,q2⟩) hf
 rcases l with⟨hk,hm⟩|⟨hk,c,hc,hcell⟩
 ·exact wpAny_loadName_local I.ok.kind hk hn hm go
 ·rcases hk with hk|hk
  ·exact wpAny_loadName_cell I.ok.kind hk hc hcell go
  ·rcases hx with k|k
   ·have:X.env.scope.names.lookup x=some .free:=hk
    rw[k]at this;cases this
   ·have:X.env.scope.names.lookup x=some .free:=hk
    rw[k]at this;cases this
noncomputable def ipI (f:Int->Int->Int):TIp:=fun x y H Q=>∃i j,x= .int i/\y= .int j/\Q (.int (f i j)) H
theorem ip_sub:PIp X .Sub (ipI fun i j=>i-j):=by
 intro pins s σ H x y v u Q I r1 r2 h
 obtain⟨i,j,e1,e2,q⟩:=h
 subst e1;subst e2
 obtain⟨t,rfl⟩:=r1
 obtain⟨t',rfl⟩:=r2
 exact isub_int ⟨.int _,H,I.tok _,⟨_,rfl⟩,q⟩
end
structure It where
 go:Nat->Hp->Prop
 yld:Nat->Hp->V->Hp->Prop
 stop:Nat->Hp->Prop
noncomputable def FpOk (X:Cx)(pins:List (Addr×Obj))(H:Hp)(b:Addr):Prop:=
 H b=none/\b≠X.env.locals/\b∉X.fs/\(b∈X.ex\/X.s₀.heap.objs.size<=b)/\(∀x c,X.env.cells.lookup x=some c->c≠b)/\∀p∈X.pn++pins,p.1≠b
theorem Inv.fpOk {H H':Hp}(I:Inv X pins σ H s)(hb:s.heap.objs.size<=b)(hn:H' b=none):FpOk X pins H' b:=by
 refine⟨hn,Nat.ne_of_gt (Nat.lt_of_lt_of_le I.lt hb),I.nofs hb,.inr (Nat.le_trans I.sz hb),fun x c e z=>?_,fun p hp z=>?_⟩
 ·obtain⟨v,q⟩:=I.cell x c e
  exact absurd (Nat.lt_of_lt_of_le q.lt (by rw[z];exact hb)) (Nat.lt_irrefl _)
 ·exact absurd (Nat.lt_of_lt_of_le (Heap.lt_size (I.pin p hp).1) (by rw[z];exact hb)) (Nat.lt_irrefl _)
structure Turn (P:Program) (w:World) (K:W.Frag) (tg:Expr) (J:It) (fp:List Addr) (it:Addr) (tn:Nat->Heap->Prop):Prop where
 mem:it∈fp
 obj:∀i h,tn i h->∀b∈fp,∃o,h.get? b=some o/\∀v,o.data≠ .cell v
 keep:∀i h h',tn i h->(∀b∈fp,∀o,h.get? b=some o->h'.get? b=some o)->tn i h'
 item:∀(X:Cx),X.prog=P->X.w=w->X.K=K->X.calm=true->∀(i:Nat) (pins:List (Addr×Obj)) (s:Shared) (σ:St) (H:Hp) (E:Value->Shared->Prop),Inv X pins σ H s->(∀b∈fp,FpOk X pins H b)->tn i s.heap->J.go i H->
  wpAny (model P w) X.A (pyNext (.ref it)) (fun r s1=>∃u,r=some u/\
   wpAny (model P w) X.A (letOwnedTupleGo tg (.ref it) u) (fun _ s2=>∃x H',Inv X pins σ H' s2/\RelV x u/\J.yld i H x H'/\tn (i+1) s2.heap/\∀b∈fp,H' b=none) E s1) E s
 done:∀(X:Cx),X.prog=P->X.w=w->X.K=K->X.calm=true->∀(i:Nat) (pins:List (Addr×Obj)) (s:Shared) (σ:St) (H:Hp) (E:Value->Shared->Prop),Inv X pins σ H s->(∀b∈fp,FpOk X pins H b)->tn i s.heap->J.stop i H->
  wpAny (model P w) X.A (pyNext (.ref it)) (fun r s1=>r=none/\Inv X pins σ H s1) E s
 self:∀(A:Around) (i:Nat) (s:Shared) (Q:Value->Shared->Prop) (E:Value->Shared->Prop),tn i s.heap->Q (.ref it) s->wpAny (model P w) A (pyIter (.ref it)) Q E s
noncomputable abbrev TI:=St->Hp->(It->Hp->Prop)->Prop
noncomputable def PIE (X:Cx)(pins:List (Addr×Obj))(σ:St)(tg:Expr)(R:It->Hp->Prop)(itv:Value)(s2:Shared):Prop:=
 ∃(it:Addr) (fp:List Addr) (tn:Nat->Heap->Prop) (J:It) (H':Hp),itv= .ref it/\Inv X pins σ H' s2/\Turn X.prog X.w X.K tg J fp it tn/\tn 0 s2.heap/\(∀b∈fp,FpOk X pins H' b)/\R J H'
noncomputable def PI (X:Cx)(tg iter:Expr)(wi:TI):Prop:=
 ∀(pins:List (Addr×Obj)) (s:Shared) (σ:St) (H:Hp) (R:It->Hp->Prop),Inv X pins σ H s->wi σ H R->
  wpAny (model X.prog X.w) X.A (eval iter X.env) (fun v s1=>wpAny (model X.prog X.w) X.A (pyIter v) (PIE X pins σ tg R) X.xe s1) X.xe s
theorem go_of {M:Model}{o:Obj}{n:String}{vs:Array Value}(ho:s.heap.get? it=some o)(hc:o.cls= .type n)(hd:o.data= .fields vs)
    (hn:["enumerate","zip","dict_itemiterator","dict_reverseitemiterator","odict_iterator","itertools.zip_longest","itertools.pairwise"].contains n=false) (hQ:Q () s):wpAny M A (letOwnedTupleGo tg (.ref it) u) Q E s:=by
  unfold letOwnedTupleGo
  cases tg<;>first
    |exact wpAny_pure hQ
    | (cases u <;> first
        |exact wpAny_pure hQ
        | (refine wpAny_bind (wpAny_load ho ?_)
           rw[hc,hd]
           show wpAny M A (if(["enumerate","zip","dict_itemiterator","dict_reverseitemiterator","odict_iterator","itertools.zip_longest","itertools.pairwise"].contains n&&vs[0]? ==some (rawInt _))=true then _ else _) Q E s
           rw[if_neg (by intro h;rw[hn,Bool.false_and]at h;cases h)]
           exact wpAny_pure hQ))
noncomputable def Itl (K:W.Frag)(a:Addr):It:=
 ⟨fun i H=>∃xs x,SqL K H a xs/\xs[i]? =some x,fun i H x H'=>H'=H/\∀xs,SqL K H a xs->xs[i]? =some x,fun i H=>∃xs,SqL K H a xs/\xs.length<=i⟩
noncomputable def Itt (K:W.Frag)(a:Addr):It:=
 ⟨fun i H=>∃xs x,SqT K H a xs/\xs[i]? =some x,fun i H x H'=>H'=H/\∀xs,SqT K H a xs->xs[i]? =some x,fun i H=>∃xs,SqT K H a xs/\xs.length<=i⟩
noncomputable def Itr (lo:Int)(n:Nat):It:=⟨fun i _=>i<n,fun i H x H'=>H'=H/\x= .int (lo+i),fun i _=>n<=i⟩
theorem zqE {P:Program}(a it:Addr):Turn P w K tg (Itl K a) [it] it (fun i h=>h.IsListIter it a i) where
 mem:=by simp
 obj:=fun i h st b hb=>by
  have e:b=it:=by simpa using hb
  subst e
  obtain⟨o,e,c,d⟩:=st
  exact⟨o,e,fun v z=>by rw[d]at z;cases z⟩
 keep:=fun i h h' st k=>st.at fun o e=>k it (by simp) o e
 item:=by
  intro X hP hw hK hc i pins s σ H E I hf st hg
  subst hP hw hK
  obtain⟨xs,x,hq,hx⟩:=hg
  obtain⟨its,rv,p,hz⟩:=I.list hq
  obtain⟨u,hu,ru⟩:=rv.get hx
  obtain⟨f0,f1,f2,f3,f4,f5⟩:=hf it (by simp)
  refine wpAny_pyNext_list_item st p.isList (x:=u) (by simpa using hu) fun h' st' sb=>?_
  have I1:Inv X pins σ H {s with heap:=h'}:=I.turned (t':=s.toks) (fun b o hb e=>(sb.2 b hb).trans e) f0 f1 f3 f4 f5
  obtain⟨o,e,c,d⟩:=id st'
  exact⟨u,rfl,go_of (s:={s with heap:=h'}) e c d (by decide) ⟨x,H,I1,ru,⟨rfl,fun ys hy=>by rw[I.list_inj hy hq];exact hx⟩,st',fun b hb=>(hf b hb).1⟩⟩
 done:=by
  intro X hP hw hK hc i pins s σ H E I hf st hg
  subst hP hw hK
  obtain⟨xs,hq,hx⟩:=hg
  obtain⟨its,rv,p,hz⟩:=I.list hq
  obtain⟨f0,f1,f2,f3,f4,f5⟩:=hf it (by simp)
  have hl:=rv.length
  exact wpAny_pyNext_list_end (I.ok.hd hc) st p.isList (by simp;lia) fun h' eb=>⟨rfl,I.turned (t':=s.toks) (fun b o hb e=>eb b o hb e) f0 f1 f3 f4 f5⟩
 self:=fun _ _ _ _ _ st h=>wpAny_pyIter_listiter st h
theorem zoW {P:Program}(a it:Addr):Turn P w K tg (Itt K a) [it] it (fun i h=>h.IsTupleIter it a i) where
 mem:=by simp
 obj:=fun i h st b hb=>by
  have e:b=it:=by simpa using hb
  subst e
  obtain⟨o,e,c,d⟩:=st
  exact⟨o,e,fun v z=>by rw[d]at z;cases z⟩
 keep:=fun i h h' st k=>st.at fun o e=>k it (by simp) o e
 item:=by
  intro X hP hw hK hc i pins s σ H E I hf st hg
  subst hP hw hK
  obtain⟨xs,x,hq,hx⟩:=hg
  obtain⟨its,rv,p,hz⟩:=I.tuple hq
  obtain⟨u,hu,ru⟩:=rv.get hx
  obtain⟨f0,f1,f2,f3,f4,f5⟩:=hf it (by simp)
  refine wpAny_pyNext_tuple_item st (show s.heap.IsTuple a its.toArray from p) (x:=u) (by simpa using hu) fun h' st' sb=>?_
  have I1:Inv X pins σ H {s with heap:=h'}:=I.turned (t':=s.toks) (fun b o hb e=>(sb.2 b hb).trans e) f0 f1 f3 f4 f5
  obtain⟨o,e,c,d⟩:=id st'
  exact⟨u,rfl,go_of (s:={s with heap:=h'}) e c d (by decide) ⟨x,H,I1,ru,⟨rfl,fun ys hy=>by rw[I.tuple_inj hy hq];exact hx⟩,st',fun b hb=>(hf b hb).1⟩⟩
 done:=by
  intro X hP hw hK hc i pins s σ H E I hf st hg
  subst hP hw hK
  obtain⟨xs,hq,hx⟩:=hg
  obtain⟨its,rv,p,hz⟩:=I.tuple hq
  obtain⟨f0,f1,f2,f3,f4,f5⟩:=hf it (by simp)
  have hl:=rv.length
  exact wpAny_pyNext_tuple_end (I.ok.hd hc) st (show s.heap.IsTuple a its.toArray from p) (by simp;lia) fun h' eb=>⟨rfl,I.turned (t':=s.toks) (fun b o hb e=>eb b o hb e) f0 f1 f3 f4 f5⟩
 self:=fun _ _ _ _ _ st h=>wpAny_pyIter_tupleiter st h
theorem zpf {P:Program}{w:World}(it:Addr)(lo:Int)(n:Nat):Turn P w K tg (Itr lo n) [it] it (fun i h=>IsRangeIter h it (lo+(i:Nat)*1) ((n:Int)-(i:Nat)) 1) where
 mem:=by simp
 obj:=fun i h st b hb=>by
  have e:b=it:=by simpa using hb
  subst e
  exact⟨_,st,fun v z=>by
   have z':Data.fields _=Data.cell v:=z
   cases z'⟩
 keep:=fun i h h' st k=>k it (by simp) _ st
 item:=by
  intro X hP hw hK hc i pins s σ H E I hf st hg
  subst hP hw hK
  obtain⟨f0,f1,f2,f3,f4,f5⟩:=hf it (by simp)
  have W:=Walks.range (prog:=X.prog) (w:=X.w) (I.ok.hd hc) it lo 1 n
  refine W.item i s _ _ hg st fun v h' tk hv st' kk=>?_
  obtain⟨t,rfl⟩:=hv
  have I1:Inv X pins σ H {s with heap:=h',toks:=tk}:=I.turned (fun b o hb e=>kk b o (by simpa using hb) e) f0 f1 f3 f4 f5
  refine⟨_,rfl,go_of (s:={s with heap:=h',toks:=tk}) (n:="range_iterator") st' rfl rfl (by decide) ⟨.int (lo+i),H,I1,⟨t,?_⟩,⟨rfl,rfl⟩,st',fun b hb=>(hf b hb).1⟩⟩
  rw[Int.mul_one]
 done:=by
  intro X hP hw hK hc i pins s σ H E I hf st hg
  subst hP hw hK
  obtain⟨f0,f1,f2,f3,f4,f5⟩:=hf it (by simp)
  exact wpAny_pyNext_range_end (I.ok.hd hc) st (by have:n<=i:=hg;lia) fun h' eb=>⟨rfl,I.turned (t':=s.toks) (fun b o hb e=>eb b o hb e) f0 f1 f3 f4 f5⟩
 self:=fun _ _ _ _ _ st h=>wpAny_pyIter_rangeiter st h
section
variable {X:Cx} {tg:Expr}
theorem range_it {R:It->Hp->Prop}{lo hi:Int}{t u v:Tok}{tk:Nat}(I:Inv X pins σ H s)(h1: -(2^62)<=lo)(h2:lo<2^62)(h3: -(2^62)<=hi)(h4:hi<2^62)
  (q:R (Itr lo (hi-lo).toNat) H):wpAny (model X.prog X.w) X.A (pyIter (.ref s.heap.objs.size)) (PIE X pins σ tg R) E {s with heap:=s.heap.push {cls:= .type "range",data:= .fields #[.int lo t,.int hi u,.int 1 v]},toks:=tk}:=by
 refine wpAny_pyIter_range (IsRange.new ..) (small_one h1 h2 h3 h4) ?_
 have I1:Inv X pins σ H {s with heap:=s.heap.push {cls:= .type "range",data:= .fields #[.int lo t,.int hi u,.int 1 v]},toks:=tk}:=I.kept fun b o e=>Heap.get?_push_of_some _ e
 refine⟨(s.heap.push {cls:= .type "range",data:= .fields #[.int lo t,.int hi u,.int 1 v]}).objs.size,[(s.heap.push {cls:= .type "range",data:= .fields #[.int lo t,.int hi u,.int 1 v]}).objs.size],_,_,H,rfl,
  I1.kept (t':=tk) fun b o e=>Heap.get?_push_of_some _ e,zpf _ lo (hi-lo).toNat,?_,fun b hb=>?_,q⟩
 ·have e1:lo+((0:Nat):Int)*1=lo:=by simp
  have e2:(((hi-lo).toNat:Nat):Int)-((0:Nat):Int)=Builtin.Range.rangeSize lo hi 1:=by rw[rangeSize_one];split<;>lia
  show IsRangeIter _ _ (lo+((0:Nat):Int)*1) ((((hi-lo).toNat:Nat):Int)-((0:Nat):Int)) 1
  rw[e1,e2]
  exact Heap.get?_push_size _ rfl
 ·have e:b=(s.heap.push {cls:= .type "range",data:= .fields #[.int lo t,.int hi u,.int 1 v]}).objs.size:=by simpa using hb
  subst e
  exact I1.fpOk (Nat.le_refl _) (I1.hok.fresh (Nat.le_refl _))
noncomputable def iRng1 (ta:TA):TI:=fun σ H R=>ta σ H fun vs H1=>∃j:Int,vs=[.int j]/\ -(2^62)<=j/\j<2^62/\R (Itr 0 j.toNat) H1
theorem zq1 {a:Expr}{ta:TA}{p pos:Pos}(hg:Gl X "range")(hm:X.mg "range"=none)(ha:PA X [a] ta)(hs:autoParam (starEach [a] X.env=[(false,eval a X.env)]) zu2._auto_1):PI X tg (.Call (.Name "range" p) [a] [] pos) (iRng1 ta):=by
 intro pins s σ H R I h
 refine Call_ (zhI I hg hm boot_range (PyProof.Rows.callWith_type1 (thn (ha pos pins s σ H _ I h) fun us s1 ⟨vs,H1,I1,r1,q1⟩=>?_) hs rfl))
 obtain⟨j,e,q1,q2,q⟩:=q1
 subst e
 cases r1 with
 |cons r rr=>
  cases rr
  obtain⟨t,rfl⟩:=r
  exact call_range_1 (range_it I1 (by lia) (by lia) q1 q2 (by simpa using q))
noncomputable def tFor (wi:TI)(g:TG)(tb:TS):TS:=fun D σ H=>wi σ H fun J H1=>∃W:Nat->Nat->St->Hp->Prop,(∃m,W 0 m σ H1)/\∀i m σ H,W i m σ H->
 (J.stop i H/\D.nx σ H)\/(J.go i H/\∃N:St->Hp->Prop,(∀σ' H',N σ' H'->∃m',m'<m/\W (i+1) m' σ' H')/\∀x H',J.yld i H x H'->g x σ H' fun σ2 H2=>tb {D with nx:=N,ct:=N,bk:=D.nx} σ2 H2)
noncomputable def zmA (fp:List Addr)(h:Heap):List (Addr×Obj):=fp.filterMap fun b=>(h.get? b).map fun o=>(b,o)
theorem zgP {o:Obj}(hb:b∈fp)(e:h.get? b=some o):(b,o)∈zmA fp h:=List.mem_filterMap.mpr ⟨b,hb,by rw[e];rfl⟩
theorem zqY (hp:p∈zmA fp h):p.1∈fp/\h.get? p.1=some p.2:=by
 obtain⟨b,hb,e⟩:=List.mem_filterMap.mp hp
 cases q:h.get? b with
 |none=>rw[q]at e;cases e
 |some o=>
  rw[q]at e
  have e':(b,o)=p:=Option.some.inj e
  subst e'
  exact⟨hb,q⟩
theorem Inv.pinned (I:Inv X pins σ H s)(hf:∀b∈fp,FpOk X pins H b)(ho:∀b∈fp,∃o,s.heap.get? b=some o/\∀v,o.data≠ .cell v):Inv X (pins++zmA fp s.heap) σ H s:=
 I.pins_of fun p hp=>(List.mem_append.mp hp).elim (fun z=>I.pin p (List.mem_append_right _ z)) fun z=>by
  obtain⟨hb,e⟩:=zqY z
  obtain⟨f0,f1,f2,_⟩:=hf p.1 hb
  obtain⟨o,e',d⟩:=ho p.1 hb
  rw[e]at e';cases e'
  exact⟨e,f0,f1,f2,d⟩
theorem Inv.unpinned (I:Inv X (pins++pl) σ H s):Inv X pins σ H s:=I.pins_of fun p hp=>I.pin p (List.mem_append_right _ (List.mem_append_left _ hp))
theorem ps_for {iter:Expr}{wi:TI}{g:TG}{tb:TS}(hp:PassesOwn (model X.prog X.w) X.A X.env X.xe)(hc:X.calm=true)(hi:PI X tg iter wi)(hg:PG X tg g)(hb:PSs X body tb)
    (hs:autoParam (∀x,foldedSetIterable iter X.env x=pure x) zu3._auto_1):PS X (.For tg iter body [] pos) (tFor wi g tb):=by
  intro pins s σ H D I h
  refine wpAny_For (thn (hi pins s σ H _ I h) fun v s1 h1=>thn h1 fun itv s2 h2=>?_) hs
  obtain⟨it,fp,tn,J,H2,e,I2,T,st2,f2,W,⟨m0,w0⟩,turn⟩:=h2
  subst e
  have stat:∀{H':Hp},(∀b∈fp,H' b=none)->∀b∈fp,FpOk X pins H' b:=fun hn b hb=>⟨hn b hb,(f2 b hb).2⟩
  refine codeAny_forLoop_any (fun n s'=>∃i σ' H',Inv X pins σ' H' s'/\tn i s'.heap/\(∀b∈fp,H' b=none)/\W i n σ' H') ?_ m0 ⟨0,σ,H2,I2,st2,fun b hb=>(f2 b hb).1,w0⟩
  rintro n s3 ⟨i,σ3,H3,I3,st3,fr3,w3⟩
  rcases turn i n σ3 H3 w3 with⟨stop,qn⟩|⟨go,N,hN,step⟩
  . refine wpAny_passesOwn hp (thn (T.done X rfl rfl rfl hc i pins s3 σ3 H3 X.xe I3 (stat fr3) st3 stop) fun r s4 ⟨hr,I4⟩=>?_)
    subst hr
    exact wpAny_execs_nil ⟨σ3,H3,I4,qn⟩
  . refine wpAny_passesOwn hp (thn (T.item X rfl rfl rfl hc i pins s3 σ3 H3 X.xe I3 (stat fr3) st3 go) fun r s4 ⟨u,hr,h4⟩=>?_)
    subst hr
    refine wpAny_passesOwn hp (thn h4 fun _ s5 ⟨x,H5,I5,r5,y5,st5,fr5⟩=>?_)
    have I5':=I5.pinned (stat fr5) (T.obj _ _ st5)
    refine wpAny_passesOwn hp (thn (hg _ s5 σ3 H5 x u _ I5' r5 (step x H5 y5)) fun _ s6 ⟨σ6,H6,I6,q6⟩=>?_)
    refine wpAny_passesOwn hp (thn (hb _ s6 σ6 H6 _ I6 q6) fun f s7 q7=>?_)
    have again:∀{σ7:St} {H7:Hp},Inv X (pins++zmA fp s5.heap) σ7 H7 s7->N σ7 H7->∃m,m<n/\∃i σ' H',Inv X pins σ' H' s7/\tn i s7.heap/\(∀b∈fp,H' b=none)/\W i m σ' H':=fun{σ7 H7} I7 n7=>by
      obtain⟨m',hm,w7⟩:=hN σ7 H7 n7
      refine⟨m',hm,i+1,σ7,H7,I7.unpinned,T.keep _ _ _ st5 fun b hb o e=>(I7.pin (b,o) (List.mem_append_right _ (List.mem_append_right _ (zgP hb e)))).1,fun b hb=>?_,w7⟩
      obtain⟨o,e,d⟩:=T.obj _ _ st5 b hb
      exact(I7.pin (b,o) (List.mem_append_right _ (List.mem_append_right _ (zgP hb e)))).2.1
    cases f with
    |next=>obtain⟨σ7,H7,I7,n7⟩:=q7;exact again I7 n7
    |cont=>obtain⟨σ7,H7,I7,n7⟩:=q7;exact again I7 n7
    |brk=>obtain⟨σ7,H7,I7,q7⟩:=q7;exact⟨σ7,H7,I7.unpinned,q7⟩
    |ret v=>obtain⟨x7,σ7,H7,I7,r7,q7⟩:=q7;exact⟨x7,σ7,H7,I7.unpinned,r7,q7⟩
end
noncomputable abbrev R2:=V->V->Hp->VK->Prop
noncomputable def OpR (X:Cx)(f:Value->Value->Sem Value)(r:R2):Prop:=
 ∀(pins:List (Addr×Obj)) (s:Shared) (σ:St) (H:Hp) (x y:V) (v u:Value) (Q:VK),Inv X pins σ H s->RelV x v->RelV y u->r x y H Q->
  wpAny (model X.prog X.w) X.A (f v u) (EP X pins σ Q) X.xe s
noncomputable def UnR (X:Cx)(f:Value->Sem Value)(r:V->Hp->VK->Prop):Prop:=
 ∀(pins:List (Addr×Obj)) (s:Shared) (σ:St) (H:Hp) (x:V) (v:Value) (Q:VK),Inv X pins σ H s->RelV x v->r x H Q->
  wpAny (model X.prog X.w) X.A (f v) (EP X pins σ Q) X.xe s
noncomputable def zhw (X:Cx)(f:Value)(r:List V->Hp->VK->Prop):Prop:=
 ∀(pins:List (Addr×Obj)) (s:Shared) (σ:St) (H:Hp) (xs:List V) (us:List Value) (Q:VK),Inv X pins σ H s->Vals xs us->r xs H Q->
  wpAny (model X.prog X.w) X.A (call f us) (EP X pins σ Q) X.xe s
noncomputable def TruR (X:Cx)(r:V->Hp->(Bool->Hp->Prop)->Prop):Prop:=
 ∀(pins:List (Addr×Obj)) (s:Shared) (σ:St) (H:Hp) (x:V) (v:Value) (Q:Bool->Hp->Prop),Inv X pins σ H s->RelV x v->r x H Q->
  wpAny (model X.prog X.w) X.A (truthy v) (TP X pins σ Q) X.xe s
noncomputable def tOp (r:R2)(ta tb:TE):TE:=fun σ H Q=>ta σ H fun x H1=>tb σ H1 fun y H2=>r x y H2 Q
noncomputable def tUn (r:V->Hp->VK->Prop)(ta:TE):TE:=fun σ H Q=>ta σ H fun x H1=>r x H1 Q
noncomputable def rI (C:Int->Int->Prop)(g:Int->Int->V):R2:=fun x y H Q=>∃i j,x= .int i/\y= .int j/\C i j/\Q (g i j) H
noncomputable def rI0 (g:Int->Int->V):R2:=fun x y H Q=>∃i j,x= .int i/\y= .int j/\Q (g i j) H
noncomputable def rU (g:Int->V):V->Hp->VK->Prop:=fun x H Q=>∃i,x= .int i/\Q (g i) H
section
variable {X:Cx} {a b c:Expr} {ta tb tc:TE} {pos:Pos}
theorem binT (ha:PE X a ta)(hb:PE X b tb){R:V->V->Hp->Prop}(I:Inv X pins σ H s)
  (h:ta σ H fun x H1=>tb σ H1 fun y H2=>R x y H2) {Q:Value->Shared->Prop} {f:Value->Value->Sem Value}
  (hf:∀v u s2 x y H2,Inv X pins σ H2 s2->RelV x v->RelV y u->R x y H2->wpAny (model X.prog X.w) X.A (f v u) Q X.xe s2):
  wpAny (model X.prog X.w) X.A (eval a X.env) (fun v s₁=>wpAny (model X.prog X.w) X.A (eval b X.env) (fun u s₂=>wpAny (model X.prog X.w) X.A (f v u) Q X.xe s₂) X.xe s₁) X.xe s:=by
 refine thn (ha pins s σ H _ I h) fun v s1 ⟨x,H1,I1,r1,q1⟩=>?_
 refine thn (hb pins s1 σ H1 _ I1 q1) fun u s2 ⟨y,H2,I2,r2,q2⟩=>?_
 exact hf v u s2 x y H2 I2 r1 r2 q2
theorem pe_op {op:Operator}{r:R2}(ho:OpR X (binaryOp op) r)(ha:PE X a ta)(hb:PE X b tb):PE X (.BinOp a op b pos) (tOp r ta tb):=by
 intro pins s σ H Q I h
 exact wpAny_BinOp (binT ha hb I h fun v u s2 x y H2 I2 rx ry q=>ho pins s2 σ H2 x y v u Q I2 rx ry q)
theorem pe_un {op:UnaryOp}(ho:UnR X (unaryOp op) r)(ha:PE X a ta):PE X (.UnaryOp op a pos) (tUn r ta):=by
 intro pins s σ H Q I h
 exact UnaryOp_ (thn (ha pins s σ H _ I h) fun v s1 ⟨x,H1,I1,r1,q1⟩=>ho pins s1 σ H1 x v Q I1 r1 q1)
theorem opI
  (rule:∀(i j:Int) (t u:Tok) (s:Shared) (Q:Value->Shared->Prop) (E:Value->Shared->Prop),C i j->Q (.int (g i j) s.toks) {s with toks:=s.toks+1}->wpAny (model X.prog X.w) X.A (f (.int i t) (.int j u)) Q E s):
  OpR X f (rI C fun i j=> .int (g i j)):=by
 intro pins s σ H x y v u Q I rx ry h
 obtain⟨i,j,rfl,rfl,hc,q⟩:=h
 obtain⟨t,rfl⟩:=rx
 obtain⟨t',rfl⟩:=ry
 exact rule i j t t' s _ _ hc ⟨.int (g i j),H,I.tok _,⟨_,rfl⟩,q⟩
theorem opI0
  (rule:∀(i j:Int) (t u:Tok) (s:Shared) (Q:Value->Shared->Prop) (E:Value->Shared->Prop),Q (.int (g i j) s.toks) {s with toks:=s.toks+1}->wpAny (model X.prog X.w) X.A (f (.int i t) (.int j u)) Q E s):
  OpR X f (rI0 fun i j=> .int (g i j)):=by
 intro pins s σ H x y v u Q I rx ry h
 obtain⟨i,j,rfl,rfl,q⟩:=h
 obtain⟨t,rfl⟩:=rx
 obtain⟨t',rfl⟩:=ry
 exact rule i j t t' s _ _ ⟨.int (g i j),H,I.tok _,⟨_,rfl⟩,q⟩
theorem opB0 {g:Int->Int->Bool}
  (rule:∀(i j:Int) (t u:Tok) (s:Shared) (Q:Value->Shared->Prop) (E:Value->Shared->Prop),Q (.bool (g i j)) s->wpAny (model X.prog X.w) X.A (f (.int i t) (.int j u)) Q E s):
  OpR X f (rI0 fun i j=> .bl (g i j)):=by
 intro pins s σ H x y v u Q I rx ry h
 obtain⟨i,j,rfl,rfl,q⟩:=h
 obtain⟨t,rfl⟩:=rx
 obtain⟨t',rfl⟩:=ry
 exact rule i j t t' s _ _ ⟨.bl (g i j),H,I,rfl,q⟩
noncomputable def CPow (i j:Int):Prop:=0<=j/\j<=1000000/\i.natAbs<2^64
theorem op_add:OpR X (binaryOp .Add) (rI0 fun i j=> .int (i+j)):=opI0 fun _ _ _ _ _ _ _ q=>add_int q
theorem op_sub:OpR X (binaryOp .Sub) (rI0 fun i j=> .int (i-j)):=opI0 fun _ _ _ _ _ _ _ q=>sub_int q
theorem op_mod:OpR X (binaryOp .Mod) (rI (fun _ j=>0<j) fun i j=> .int (i%j)):=opI fun i j _ _ _ _ _ hc q=>by
 have h1:(0:Int)<j:=hc
 exact mod_int' (by lia) (by rw[Int.fmod_eq_emod_of_nonneg i (by lia)];exact q)
theorem op_pow:OpR X (binaryOp .Pow) (rI CPow fun i j=> .int (i^j.toNat)):=opI fun _ _ _ _ _ _ _ hc q=>pow_int_small hc.1 hc.2.1 hc.2.2 q
theorem unI {f:Value->Sem Value}{g:Int->Int}
  (rule:∀(i:Int) (t:Tok) (s:Shared) (Q:Value->Shared->Prop) (E:Value->Shared->Prop),Q (.int (g i) s.toks) {s with toks:=s.toks+1}->wpAny (model X.prog X.w) X.A (f (.int i t)) Q E s):
  UnR X f (rU fun i=> .int (g i)):=by
 intro pins s σ H x v Q I rx h
 obtain⟨i,rfl,q⟩:=h
 obtain⟨t,rfl⟩:=rx
 exact rule i t s _ _ ⟨.int (g i),H,I.tok _,⟨_,rfl⟩,q⟩
theorem un_neg:UnR X (unaryOp .USub) (rU fun i=> .int (-i)):=unI fun _ _ _ _ _ q=>neg_int q
end
section
variable {X:Cx} {a b c:Expr} {ta tb tc:TE} {pos:Pos}
theorem zpP {Q:VK}{k k':Bool}(I:Inv X pins σ H s)(q:Q (.bl k) H)(e:k=k'):EP X pins σ Q (.bool k') s:=by
 subst e
 exact⟨.bl k,H,I,rfl,q⟩
theorem op_lt:OpR X (compareOp .Lt) (rI0 fun i j=> .bl (decide (i<j))):=opB0 fun _ _ _ _ _ _ _ q=>lt_int q
theorem znJ:OpR X (compareOp .LtE) (rI0 fun i j=> .bl (decide (i<=j))):=opB0 fun _ _ _ _ _ _ _ q=>le_int q
theorem op_gt:OpR X (compareOp .Gt) (rI0 fun i j=> .bl (decide (j<i))):=opB0 fun _ _ _ _ _ _ _ q=>gt_int q
theorem op_isN:OpR X (compareOp .Is) (fun x y H Q=>y= .non/\Q (.bl (decide (x= .non))) H):=by
 intro pins s σ H x y v u Q I rx ry h
 obtain⟨rfl,q⟩:=h
 cases ry
 refine is_none_gen (zpP I q ?_)
 cases x<;>first
  |(cases rx;rfl)
  |(obtain⟨t,rfl⟩:=rx;rfl)
theorem op_notN:OpR X (compareOp .IsNot) (fun x y H Q=>y= .non/\Q (.bl (!decide (x= .non))) H):=by
 intro pins s σ H x y v u Q I rx ry h
 obtain⟨rfl,q⟩:=h
 cases ry
 refine isnot_none_gen (zpP I q ?_)
 cases x<;>first
  |(cases rx;rfl)
  |(obtain⟨t,rfl⟩:=rx;rfl)
theorem OpR.or {r r':R2}(h:OpR X f r)(h':OpR X f r'):OpR X f (fun x y H Q=>r x y H Q\/r' x y H Q):=by
 intro pins s σ H x y v u Q I rx ry q
 rcases q with q|q
 ·exact h pins s σ H x y v u Q I rx ry q
 ·exact h' pins s σ H x y v u Q I rx ry q
theorem zi8 (b:Expr)(h:autoParam (op≠ .In) zu1._auto_1)(h2:autoParam (op≠ .NotIn) zu1._auto_1):behindInMarks op b=false:=by
 have e1:(op==CmpOp.In)=false:=by cases op<;>first|rfl|exact absurd rfl h
 have e2:(op==CmpOp.NotIn)=false:=by cases op<;>first|rfl|exact absurd rfl h2
 cases b<;>simp[behindInMarks,e1,e2]
theorem pe_cmpR {r:R2}(ho:OpR X (compareOp op) r)(ha:PE X a ta)(hb:PE X b tb)(hm:behindInMarks op b=false):PE X (.Compare a [op] [b] pos) (tOp r ta tb):=by
 intro pins s σ H Q I h
 exact wpAny_Compare1 (binT ha hb I h fun v u s2 x y H2 I2 rx ry q=>ho pins s2 σ H2 x y v u Q I2 rx ry q) hm
noncomputable def tTest (t:TE):TT:=fun σ H Q=>t σ H fun x H'=>∃k,x= .bl k/\Q k H'
theorem pt_cmpR {r:R2}(ho:OpR X (compareOp op) r)(ha:PE X a ta)(hb:PE X b tb)(hm:behindInMarks op b=false):PT X (.Compare a [op] [b] pos) (tTest (tOp r ta tb)):=by
 intro pins s σ H Q I h
 refine wpAny_isTrue_Compare1 (thn (ha pins s σ H _ I h) fun v s1 ⟨x,H1,I1,r1,q1⟩=>thn (hb pins s1 σ H1 _ I1 q1) fun u s2 ⟨y,H2,I2,r2,q2⟩=>
  thn (ho pins s2 σ H2 x y v u _ I2 r1 r2 q2) fun c s3 ⟨z,H3,I3,r3,k,e,q3⟩=>?_) hm
 subst e
 cases r3
 exact wpAny_truthy_bool ⟨H3,I3,q3⟩
noncomputable def tChain (r r':R2)(ta tb tc:TE):TE:=fun σ H Q=>ta σ H fun x H1=>tb σ H1 fun y H2=>r x y H2 fun z H3=>∃k,z= .bl k/\
 (if k=true then tc σ H3 fun w' H4=>r' y w' H4 Q else Q (.bl false) H3)
theorem pe_chain {op op':CmpOp}{r r':R2}(ho:OpR X (compareOp op) r)(ho':OpR X (compareOp op') r')(ha:PE X a ta)(hb:PE X b tb)(hc:PE X c tc)
  (hm:autoParam (lastMarks [op,op'] [b,c]=false) zu4._auto_1):PE X (.Compare a [op,op'] [b,c] pos) (tChain r r' ta tb tc):=by
 intro pins s σ H Q I h
 refine Compare_chain (thn (ha pins s σ H _ I h) fun v s1 ⟨x,H1,I1,r1,q1⟩=>chain_link (thn (hb pins s1 σ H1 _ I1 q1) fun u s2 ⟨y,H2,I2,r2,q2⟩=>
  thn (ho pins s2 σ H2 x y v u _ I2 r1 r2 q2) fun d s3 ⟨z,H3,I3,r3,k,e,q3⟩=>?_)) hm
 subst e
 cases r3
 refine wpAny_truthy_bool ?_
 cases k with
 |false=>exact ite_ff ⟨.bl false,H3,I3,rfl,q3⟩
 |true=>exact ite_tt (chain_last (thn (hc pins s3 σ H3 _ I3 q3) fun w' s4 ⟨z',H4,I4,r4,q4⟩=>ho' pins s4 σ H4 y z' u w' Q I4 r2 r4 q4))
noncomputable def TruV (K:W.Frag)(x:V)(H:Hp)(k:Bool):Prop:=
 match x with
 | .non=>k=false
 | .bl b=>k=b
 | .int i=>k=(i !=0)
 | .str y=>y.length<=sizeLine/\k=((y.length:Int) !=0)
 | .byt y=>y.size<=sizeLine/\k=((y.size:Int) !=0)
 | .ref p=>(∃xs,SqL K H p xs/\k=!xs.isEmpty)\/(∃xs,SqT K H p xs/\k=!xs.isEmpty)\/∃kvs,H p=some (.dK kvs)/\k=!kvs.isEmpty
 |_=>False
theorem zoO {κ:Type}{kvs:List (κ×V)}{vs:List (κ×Value)}(r:KV kvs vs):(!vs.isEmpty)=!kvs.isEmpty:=by
 cases r<;>rfl
theorem zk4 {its:List Value}(r:Vals xs its):(!its.toArray.isEmpty)=!xs.isEmpty:=by
 cases r<;>simp
theorem zlg:(sizeLine:Nat)<2^63:=by rw[sizeLine_eq];decide
theorem tru_ok:TruR X (fun x H Q=>∃k,TruV X.K x H k/\Q k H):=by
 intro pins s σ H x v Q I rx h
 obtain⟨k,e,q⟩:=h
 have hl:=zlg
 have hs:sizeLine=16777216:=sizeLine_eq
 cases x with
 |non=>
  cases rx
  have e':k=false:=e
  subst e'
  exact truthy_none ⟨H,I,q⟩
 |bl b=>
  cases rx
  have e':k=b:=e
  subst e'
  exact wpAny_truthy_bool ⟨H,I,q⟩
 |int i=>
  obtain⟨t,rfl⟩:=rx
  have e':k=(i !=0):=e
  subst e'
  exact PySem.P.truthy_int ⟨H,I,q⟩
 |str y=>
  obtain⟨t,rfl⟩:=rx
  obtain⟨hy,e'⟩:y.length<=sizeLine/\k=((y.length:Int) !=0):=e
  subst e'
  exact PySem.P.truthy_str (by lia) ⟨H,I.tok _,q⟩
 |byt y=>
  obtain⟨t,rfl⟩:=rx
  obtain⟨hy,e'⟩:y.size<=sizeLine/\k=((y.size:Int) !=0):=e
  subst e'
  exact W.truthy_bytes (by lia) ⟨H,I.tok _,q⟩
 |ref p=>
  cases rx
  have e':(∃xs,SqL X.K H p xs/\k=!xs.isEmpty)\/(∃xs,SqT X.K H p xs/\k=!xs.isEmpty)\/∃kvs,H p=some (.dK kvs)/\k=!kvs.isEmpty:=e
  rcases e' with⟨xs,hx,e'⟩|⟨xs,hx,e'⟩|⟨kvs,hx,e'⟩
  ·subst e'
   obtain⟨its,r,pl,hz⟩:=I.list hx
   have hlen:=r.length
   exact wpAny_truthy_list pl.isList (by simp only[List.size_toArray];lia) ⟨H,I.tok _,by rw[zk4 r];exact q⟩
  ·subst e'
   obtain⟨its,r,pl,hz⟩:=I.tuple hx
   have hlen:=r.length
   exact truthy_tuple pl (by simp only[List.size_toArray];lia) ⟨H,I.tok _,by rw[zk4 r];exact q⟩
  ·subst e'
   obtain⟨hz,hS,vs,r,m⟩:kvs.length<=sizeLine/\(p==sysModules)=false/\∃vs,KV kvs vs/\s.heap.DictOf (znH X.prog X.w) p vs:=I.hok p _ hx
   have hlen:kvs.length=vs.length:=Paired.length r
   exact wpAny_truthy_dict hS m (by lia) ⟨H,I.tok _,by rw[zoO r];exact q⟩
 |_=>exact(show False from e).elim
theorem pt_truth (ha:PE X a ta)(he:∀whole,isTrue a X.env whole=(do let v<-whole;standAt a.pos;holding [v] (truthy v))):
  PT X a (fun σ H Q=>ta σ H fun x H'=>∃k,TruV X.K x H' k/\Q k H'):=by
 intro pins s σ H Q I h
 exact isTrue_plain (thn (ha pins s σ H _ I h) fun v s1 ⟨x,H1,I1,r1,q1⟩=>tru_ok pins s1 σ H1 x v Q I1 r1 q1) (he _)
theorem zpg:OpR X (binaryOp .Add) (fun x y H Q=>∃i j,x= .str i/\y= .str j/\i.length+j.length<=sizeLine/\Q (.str (i++j)) H):=by
 intro pins s σ H x y v u Q I rx ry h
 obtain⟨i,j,rfl,rfl,hz,q⟩:=h
 obtain⟨t,rfl⟩:=rx
 obtain⟨t',rfl⟩:=ry
 exact add_str (fun t' tk=>⟨.str (i++j),H,I.tok _,⟨_,rfl⟩,q⟩) hz
theorem zkI {x:V}(r:Vals [x] us):∃u,us=[u]/\RelV x u:=by
 cases r with
 |cons r1 r2=>cases r2;exact⟨_,rfl,r1⟩
theorem vals2 {x y:V}(r:Vals [x,y] us):∃u w',us=[u,w']/\RelV x u/\RelV y w':=by
 cases r with
 |cons r1 r2=>
  cases r2 with
  |cons r3 r4=>cases r4;exact⟨_,_,rfl,r1,r3⟩
theorem zrr (hc:X.calm=true):zhw X (.builtin "max") (fun xs H Q=>∃i j,xs=[.int i,.int j]/\Q (.int (if j>i then j else i)) H):=by
 intro pins s σ H xs us Q I r h
 obtain⟨i,j,rfl,q⟩:=h
 obtain⟨u,w',rfl,⟨t,rfl⟩,⟨t',rfl⟩⟩:=vals2 r
 refine max_two_ints (I.ok.hd hc) fun h' tk k=>⟨_,H,I.kept k,?_,q⟩
 by_cases hj:j>i
 ·rw[if_pos hj,if_pos hj];exact⟨_,rfl⟩
 ·rw[if_neg hj,if_neg hj];exact⟨_,rfl⟩
theorem zqr (hc:X.calm=true):zhw X (.builtin "min") (fun xs H Q=>∃i j,xs=[.int i,.int j]/\Q (.int (if j<i then j else i)) H):=by
 intro pins s σ H xs us Q I r h
 obtain⟨i,j,rfl,q⟩:=h
 obtain⟨u,w',rfl,⟨t,rfl⟩,⟨t',rfl⟩⟩:=vals2 r
 refine min_two_ints (I.ok.hd hc) fun h' tk k=>⟨_,H,I.kept k,?_,q⟩
 by_cases hj:j<i
 ·rw[if_pos hj,if_pos hj];exact⟨_,rfl⟩
 ·rw[if_neg hj,if_neg hj];exact⟨_,rfl⟩
theorem zpy:zhw X (.type "int") (fun xs H Q=>(∃i,xs=[.int i]/\Q (.int i) H)\/∃k,xs=[.bl k]/\Q (.int (if k then 1 else 0)) H):=by
 intro pins s σ H xs us Q I r h
 rcases h with⟨i,rfl,q⟩|⟨k,rfl,q⟩
 ·obtain⟨u,rfl,t,rfl⟩:=zkI r
  exact call_int_int ⟨.int i,H,I,⟨_,rfl⟩,q⟩
 ·obtain⟨u,rfl,r1⟩:=zkI r
  cases r1
  exact call_int_bool ⟨.int (if k then 1 else 0),H,I.tok _,⟨_,rfl⟩,q⟩
end
structure Room (k:Nat) (A:Around):Prop where
 hd:A.handled=none
 dp:A.depth+3*k+5<recursionLimit
 un:A.units+16*k+200<cLine
 gd:A.guards=some []
theorem Room.mono (r:Room k A)(h:j<=k):Room j A:=⟨r.hd,by have:=r.dp;lia,by have:=r.un;lia,r.gd⟩
theorem Room.deeper (r:Room (k+1) A)(env:Env):Room k (A.deeper env):=
 ⟨r.hd,by have:=r.dp;show A.depth+1+3*k+5<_;lia,by have:=r.un;show A.units+3+16*k+200<_;lia,r.gd⟩
theorem Room.in1 (r:Room (k+1) A):Room k A.in1:=
 ⟨r.hd,by have:=r.dp;show A.depth+3*k+5<_;lia,by have:=r.un;show A.units+1+16*k+200<_;lia,r.gd⟩
theorem Room.depth (r:Room k A):A.depth<recursionLimit:=by have:=r.dp;lia
theorem Room.units (r:Room k A):A.units+64<cLine:=by have:=r.un;lia
noncomputable def tNil:TA:=fun _ H Q=>Q [] H
noncomputable def tCons (ta:TE)(tr:TA):TA:=fun σ H Q=>ta σ H fun x H1=>tr σ H1 fun xs H2=>Q (x::xs) H2
section
variable {X:Cx} {e:Expr} {es:List Expr} {te:TE} {t:TA} {pos:Pos}
theorem zfj:PA X [] tNil:=fun _ _ _ _ H Q I h=>Calls.spliced_nil ⟨[],H,I,.nil,h⟩
theorem zbY (ha:PE X e te)(hr:PA X es t)(hs:autoParam (starEach (e::es) X.env=(false,eval e X.env)::starEach es X.env) zu2._auto_1):PA X (e::es) (tCons te t):=by
 intro pos pins s σ H Q I h
 rw[hs]
 show wpAny _ _ (spliced ((false,eval e X.env)::backTo pos (starEach es X.env))) _ _ s
 refine Calls.spliced_cons (thn (ha pins s σ H _ I h) fun u s1 ⟨x,H1,I1,r1,q1⟩=>?_)
 exact thn (hr pos pins s1 σ H1 _ I1 q1) fun us s2 ⟨xs,H2,I2,r2,q2⟩=>⟨x::xs,H2,I2,.cons r1 r2,q2⟩
noncomputable def tTup (t:TA):TE:=fun σ H Q=>t σ H fun xs H1=>xs.length<=sizeLine/\∀p,H1 p=none->Q (.ref p) (upd H1 p (.tup xs))
noncomputable def tLst (t:TA):TE:=fun σ H Q=>t σ H fun xs H1=>xs.length<=sizeLine/\∀p,H1 p=none->Q (.ref p) (upd H1 p (.lst xs))
theorem pe_tup {x1}(h:PA X es t):PE X (.Tuple es x1 pos) (tTup t):=by
 intro pins s σ H Q I hq
 refine wpAny_Tuple_spliced (thn (h pos pins s σ H _ I hq) fun us s1 ⟨xs,H1,I1,r,z,q⟩=>⟨by rw[<-r.length];exact z,?_⟩)
 have hf:H1 s1.heap.objs.size=none:=I1.hok.fresh (Nat.le_refl _)
 refine⟨.ref s1.heap.objs.size,upd H1 s1.heap.objs.size (.tup xs),I1.laid (t':=s1.toks) (fun b u e=>Heap.get?_push_of_some _ e) (Nat.le_refl _) ?_,rfl,q _ hf⟩
 exact⟨z,us,r,⟨_,Heap.get?_push_size _ rfl,rfl,_,rfl,rfl⟩⟩
theorem pe_lst (h:PA X es t):PE X (.List es pos) (tLst t):=by
 intro pins s σ H Q I hq
 refine wpAny_List_spliced (thn (h pos pins s σ H _ I hq) fun us s1 ⟨xs,H1,I1,r,z,q⟩=>⟨by rw[<-r.length];exact z,?_⟩)
 have hf:H1 s1.heap.objs.size=none:=I1.hok.fresh (Nat.le_refl _)
 refine⟨.ref s1.heap.objs.size,upd H1 s1.heap.objs.size (.lst xs),I1.laid (t':=s1.toks) (fun b u e=>Heap.get?_push_of_some _ e) (Nat.le_refl _) ?_,rfl,q _ hf⟩
 exact⟨z,us,0,r,Heap.get?_push_size _ rfl⟩
end
noncomputable abbrev Sp:=List V->Hp->VK->XK->Prop
noncomputable abbrev CXT:=List Env->Hp->Shared->XK->Value->Shared->Prop
structure Env0 (P:Program) (w:World) (K:W.Frag) (mg:Str->Option Value) (base:Heap) (A:Around) (outer:List Env) (s:Shared) (H:Hp):Prop where
 frames:A.frames=some outer
 mod:Mod K mg base
 bs:∀b o,base.get? b=some o->s.heap.get? b=some o/\H b=none
 bsz:base.objs.size<=s.heap.objs.size
 funs:s.heap.FunFrames base outer
 frf:(∀b∈frs outer,H b=none)/\TabIn K mg H
 hok:HOk P w H s.heap
 bare:AllBare s.gens
noncomputable def CE (outer:List Env)(P:Program)(w:World)(H:Hp)(s:Shared)(Q:VK)(u:Value)(s':Shared):Prop:=
 ∃v H',s'.os=s.os/\AllBare s'.gens/\Un (frs outer) [] H H' s.heap s'.heap/\HOk P w H' s'.heap/\RelV v u/\Q v H'
noncomputable def CR (CX:CXT)(outer:List Env)(P:Program)(w:World)(H:Hp)(s:Shared)(Q:VK)(E:XK)(r:Result)(s':Shared):Prop:=
 match r with
 | .ok (.ret u)=>CE outer P w H s Q u s'
 | .ok _=>False
 | .error e=>CX outer H s E e s'
structure FnOk (P:Program) (w:World) (K:W.Frag) (mg:Str->Option Value) (base:Heap) (CX:CXT) (k:Nat) (f:Addr) (fd:FuncData) (ps:List Str) (sp:Sp):Prop where
 len:∀vs H Q E,sp vs H Q E->vs.length=ps.length
 run:∀(A:Around) (outer:List Env) (s:Shared) (H:Hp) (args:Args) (us:List Value) (vs:List V) (Q:VK) (E:XK),Room k A->Env0 P w K mg base A outer s H->BindsTo s fd args (ps.zip us)->Vals vs us->sp vs H Q E->
  codeAny (model P w) A (.call (.ref f) args) (CR CX outer P w H s Q E) s
section
variable {X:Cx} {pins:List (Addr×Obj)} {σ:St} {H:Hp} {s s':Shared}
theorem Inv.env0 (I:Inv X pins σ H s):Env0 X.prog X.w X.K X.mg X.base X.A X.stack s H:=
 ⟨I.ok.frames,I.ok.mod,I.bs,Nat.le_trans I.ok.bsz I.sz,I.stack,⟨I.stkFree,I.tab⟩,I.hok,I.bare⟩
theorem Inv.after {Q:VK}(I:Inv X pins σ H s)(h:CE X.stack X.prog X.w H s Q u s'):EP X pins σ Q u s':=by
 obtain⟨v,H',os,bare,un,hok,r,q⟩:=h
 obtain⟨hh,g,d,t,os'⟩:=s'
 obtain rfl:os'=s.os:=os
 exact⟨v,H',I.call (h':=hh) (g':=g) (d':=d) (t':=t) (ch:=[]) un hok bare (fun b z=>absurd z (by simp)),r,q⟩
end
noncomputable def tCall (sp:Sp)(dvs:List V)(E:XK)(t:TA):TE:=fun σ H Q=>t σ H fun vs H1=>sp (vs++dvs) H1 Q E
noncomputable def Binds (K:W.Frag)(fd:FuncData)(ps:List Str)(ds:List Value):Prop:=
 ∀(s:Shared) (us:List Value),K.In s.heap->(us++ds).length=ps.length->BindsTo s fd ⟨us,[]⟩ (ps.zip (us++ds))
theorem Binds.all (h:∀us:List Value,us.length=ps.length->bindArgs fd ⟨us,[]⟩=pure (ps.zip us)):Binds K fd ps []:=fun s us _ hl=>by
 rw[List.append_nil]at hl ⊢
 exact .of_eq (h us hl)
noncomputable def zoE (CX:CXT)(X:Cx)(E:XK):Prop:=∀(pins:List (Addr×Obj)) (σ:St) (H:Hp) (s:Shared) (e:Value) (s':Shared),Inv X pins σ H s->CX X.stack H s E e s'->X.xe e s'
section
variable {X:Cx} {CX:CXT} {k:Nat} {f C:Addr} {fd:FuncData} {ps:List Str} {sp:Sp} {dvs:List V} {ds:List Value} {E:XK} {x m:Str} {p pos apos:Pos} {e o:Expr} {es:List Expr} {ta:TE} {t:TA}
theorem run_fn {Q:VK}(F:FnOk X.prog X.w X.K X.mg X.base CX k f fd ps sp)(hr:Room k X.A)(hb:Binds X.K fd ps ds)(hd:Vals dvs ds)(hx:zoE CX X E)
  (I:Inv X pins σ H s) (r:Vals vs us) (h:sp (vs++dvs) H Q E):wpAny (model X.prog X.w) X.A (call (.ref f) us) (EP X pins σ Q) X.xe s:=by
 have r2:Vals (vs++dvs) (us++ds):=r.append hd
 have hl:(us++ds).length=ps.length:=by rw[<-r2.length];exact F.len _ _ _ _ h
 refine wpAny_call (codeAny_mono (F.run X.A X.stack s H ⟨us,[]⟩ (us++ds) (vs++dvs) Q E hr I.env0 (hb s us I.kIn hl) r2 h) fun r s' hq=>?_)
 cases r with
 |error e=>exact hx pins σ H s e s' I hq
 |ok fl=>
  cases fl with
  |ret u=>exact I.after hq
  |next=>exact False.elim hq
  |brk=>exact False.elim hq
  |cont=>exact False.elim hq
theorem zkd (F:FnOk X.prog X.w X.K X.mg X.base CX k f fd ps sp)(hr:Room k X.A)(hg:Gl X x)(hm:X.mg x=some (.ref f))(hk:W.keepIn X.K (.ref f)=true)(hb:Binds X.K fd ps ds)(hd:Vals dvs ds)(hx:zoE CX X E)
  (ha:PA X (e::es) t) (hdb:autoParam ((x==("__debug__":Str))=false) zu1._auto_1) (he:autoParam (starEach (e::es) X.env=(false,eval e X.env)::starEach es X.env) zu2._auto_1) (hpl:autoParam ((backTo pos (starEach es X.env)).any (·.1)=false) zu2._auto_1):
  PE X (.Call (.Name x p) (e::es) [] pos) (tCall sp dvs E t):=by
 intro pins s σ H Q I h
 refine wpAny_Call_Name_kw (zj1 I hg hm ?_ hdb)
 refine W.callWith_K (h₀:=X.base) I.ok.mod.kin hk (thn (ha pos pins s σ H _ I h) fun us s1 ⟨vs,H1,I1,r,q⟩=>⟨I1.kIn,?_⟩) he hpl
 exact run_fn F hr hb hd hx I1 r q
end
structure FnScope (N P:List Str) (sc:Scope):Prop where
 kind:sc.kind= .function
 co:sc.isCoroutine=false
 gen:sc.isGenerator=false
 nd:N.Nodup
 pre:N.take P.length=P
 par:∀x∈P,sc.names.lookup x=some .local\/sc.names.lookup x=some .cell
 nofree:∀y∈sc.names,y.2≠ .free
theorem zmZ:∀{binds:List (Str×Value)} {m:Str->Option Value},(∀v,(x,v)∉binds)->bindL kindOf binds m x=m x
 |[],_,_=>rfl
 |(n,v)::r,m,h=>by
  unfold bindL
  rw[zmZ fun w hw=>h w (List.mem_cons_of_mem _ hw)]
  split
  ·have:x≠n:=by rintro rfl;exact h v List.mem_cons_self
   simp[this]
  ·rfl
theorem zml:∀{binds:List (Str×Value)} {m:Str->Option Value},(∀v,(x,v)∉binds)->bindC kindOf binds m x=m x
 |[],_,_=>rfl
 |(n,v)::r,m,h=>by
  unfold bindC
  rw[zml fun w hw=>h w (List.mem_cons_of_mem _ hw)]
  split
  ·rfl
  ·have:x≠n:=by rintro rfl;exact h v List.mem_cons_self
   simp[this]
theorem zmv {v:Value}:∀{P:List Str} {vs:List Value} {i:Nat} {m:Str->Option Value},P.Nodup->P[i]? =some x->vs[i]? =some v->kindOf x=some .local->
  bindL kindOf (P.zip vs) m x=some v
 |[],_,_,_,_,h,_,_=>by simp at h
 |_::_,[],_,_,_,_,h,_=>by simp at h
 |p::P,w::vs,0,m,nd,h1,h2,hk=>by
  simp at h1 h2;subst h1;subst h2
  show bindL kindOf ((p,w)::P.zip vs) m p=_
  unfold bindL
  rw[zmZ fun v hv=>(List.nodup_cons.mp nd).1 (List.of_mem_zip hv).1,if_pos hk]
  simp
 |p::P,w::vs,i+1,m,nd,h1,h2,hk=>by
  show bindL kindOf ((p,w)::P.zip vs) m x=_
  unfold bindL
  exact zmv (i:=i) (List.nodup_cons.mp nd).2 (by simpa using h1) (by simpa using h2) hk
theorem zmK {v:Value}:∀{P:List Str} {vs:List Value} {i:Nat} {m:Str->Option Value},P.Nodup->P[i]? =some x->vs[i]? =some v->kindOf x≠some .local->
  bindC kindOf (P.zip vs) m x=some v
 |[],_,_,_,_,h,_,_=>by simp at h
 |_::_,[],_,_,_,_,h,_=>by simp at h
 |p::P,w::vs,0,m,nd,h1,h2,hk=>by
  simp at h1 h2;subst h1;subst h2
  show bindC kindOf ((p,w)::P.zip vs) m p=_
  unfold bindC
  rw[zml fun v hv=>(List.nodup_cons.mp nd).1 (List.of_mem_zip hv).1,if_neg hk]
  simp
 |p::P,w::vs,i+1,m,nd,h1,h2,hk=>by
  show bindC kindOf ((p,w)::P.zip vs) m x=_
  unfold bindC
  exact zmK (i:=i) (List.nodup_cons.mp nd).2 (by simpa using h1) (by simpa using h2) hk
noncomputable def start (N:List Str)(vs:List V):St:=vs.map some++List.replicate (N.length-vs.length) none
noncomputable def cxOf (CX:CXT)(P:Program)(w:World)(K:W.Frag)(mg:Str->Option Value)(base:Heap)(N:List Str)(qual:Str)(scope:Scope)(f:Addr)(cd:Value)(A:Around)(outer:List Env)(s:Shared)(H:Hp)(E:XK):Cx where
 prog:=P
 w:=w
 K:=K
 mg:=mg
 base:=base
 A:=A.deeper (envOfC qual scope s.heap.objs.size f cd)
 N:=N
 s₀:=s
 H₀:=H
 env:=envOfC qual scope s.heap.objs.size f cd
 outer:=outer
 stack:=envOfC qual scope s.heap.objs.size f cd::outer
 ex:=[]
 calm:=true
 fn:=fun _=>true
 pn:=[]
 xe:=fun e s'=>wpAny (model P w) (A.deeper (envOfC qual scope s.heap.objs.size f cd)) (leaving (envOfC qual scope s.heap.objs.size f cd) e) (fun _ s''=>CX outer H s E e s'') (fun e' s''=>CX outer H s E e' s'') s'
theorem zon (h:sc.names.lookup x=some .cell):∃c,(cellsFrom n sc.names []).lookup x=some c:=by
 have q:=W.cellsFrom_some sc.names n [] (.inl h)
 exact Option.isSome_iff_exists.mp q
theorem zpt {P:Program}{f:Addr}{s s1:Shared}{E:XK}
  (S:FnScope N ps scope) (hd:A.handled=none) (e0:Env0 P w K mg base A outer s H) (hl:vs.length=ps.length) (r:Vals vs us)
  (x:InCallC s s.heap.objs.size (bindL (envOfC qual scope s.heap.objs.size f cd).kindOf (ps.zip us) fun _=>none) (cellsFrom (s.heap.objs.size+1) scope.names []) (bindC (envOfC qual scope s.heap.objs.size f cd).kindOf (ps.zip us) fun _=>none) s1):
  Inv (cxOf CX P w K mg base N qual scope f cd A outer s H E) [] (start N vs) H s1:=by
 have hpl:ps.length<=N.length:=by have:=congrArg List.length S.pre;rw[List.length_take]at this;lia
 obtain⟨h1,tk,rfl,hk⟩:=x.done
 have noA:∀b:Addr,b∉(cxOf CX P w K mg base N qual scope f cd A outer s H E).ex:=fun b z=>absurd (show b∈([]:List Addr)from z) (by simp)
 refine⟨⟨e0.mod,S.kind,rfl,rfl,Nat.le_refl _,fun y z c h1 h2=>?_,fun y hy=>?_,fun y c _ h=>?_,fun _=>hd,Around.frames_deeper e0.frames,.inr ⟨rfl,rfl⟩,fun b z=>absurd z (noA b),e0.bs,e0.bsz,fun b _ _=>noA b,fun b z=>absurd z (noA b),e0.funs,e0.frf⟩,
  rfl,e0.bare,Un.kept hk,⟨_,x.toInCall.ns,fun i y v h1 h2 h3=>?_⟩,fun y c h=>⟨_,x.cell y c h⟩,e0.hok.fresh (Nat.le_refl _),fun y c h=>?_,fun p hp=>absurd (show p∈([]:List (Addr×Obj))from hp) (by simp),e0.hok.kept hk,?_⟩
 ·exact name_of_addr x.apart (PySem.mem_of_lookup h1) (PySem.mem_of_lookup h2)
 ·have hy:scope.names.lookup y=some .cell\/scope.names.lookup y=some .free:=hy
  rcases hy with hy|hy
  ·exact zon hy
  ·exact absurd rfl (S.nofree _ (PySem.mem_of_lookup hy))
 ·exact Nat.le_of_lt (x.above y c (PySem.mem_of_lookup h))
 ·have hi:i<vs.length:=by
   unfold start at h2
   by_cases hi:i<vs.length
   ·exact hi
   ·rw[List.getElem?_append_right (by simpa using hi)]at h2
    rw[List.getElem?_replicate]at h2
    split at h2<;>cases h2
  have ha:vs[i]? =some v:=by
   unfold start at h2
   rw[List.getElem?_append_left (by simpa using hi),List.getElem?_map]at h2
   cases e:vs[i]? with
   |none=>rw[e]at h2;cases h2
   |some a=>rw[e]at h2;cases h2;rfl
  obtain⟨u,hu,rv⟩:=r.get ha
  have hp:ps[i]? =some y:=by
   rw[<-S.pre,List.getElem?_take_of_lt (by lia)];exact h1
  have ndP:ps.Nodup:=by rw[<-S.pre];exact S.nd.sublist (List.take_sublist _ _)
  refine⟨u,rv,?_⟩
  rcases S.par y (List.mem_of_getElem? hp)with k|k
  ·exact .inl ⟨k,zmv ndP hp hu k⟩
  ·obtain⟨c,e⟩:=zon (n:=s.heap.objs.size+1) k
   refine .inr ⟨.inl k,c,e,?_⟩
   have q:=x.cell y c e
   rw[zmK ndP hp hu (by show scope.names.lookup y≠_;rw[k];decide)]at q
   exact q
 ·exact e0.hok.fresh (Nat.le_of_lt (x.above y c (PySem.mem_of_lookup h)))
 ·unfold start
  show _=N.length
  rw[List.length_append,List.length_map,List.length_replicate]
  lia
theorem fn_of {P:Program}{f:Addr}{name qual:Str}{dV kV doc pm cdv ct oc:Value}{an od:Option Addr}
  {osl:Array (Option Value)} {N ps:List Str} {sp:Sp} (lk:K.lookup f=some ⟨oc,od,.func (W.fnOf name qual params body scope dV kV doc pm an cdv ct),osl⟩) (hcd:W.codeIn K cdv qual=true) (S:FnScope N ps scope)
  (len:∀vs H Q E,sp vs H Q E->vs.length=ps.length)
  (hbody : ∀ (A : Around) (outer : List Env) (s : Shared) (H : Hp) (vs : List V) (Q : VK) (E : XK), Room k (A.deeper (envOfC qual scope s.heap.objs.size f cdv)) -> sp vs H Q E ->
   ∃t,PSs (cxOf CX P w K mg base N qual scope f cdv A outer s H E) body t/\t {nx:=fun _ H'=>Q .non H',rt:=Q} (start N vs) H):
  FnOk P w K mg base CX (k+1) f (W.fnOf name qual params body scope dV kV doc pm an cdv ct) ps sp:=by
 refine⟨len,fun A outer s H args us vs Q E hr e0 hb r hsp=>?_⟩
 have hl:=len _ _ _ _ hsp
 have KX:K.In s.heap:=e0.mod.kin.keeps fun b o e=>(e0.bs b o e).1
 have lim:s.heap.NoLimit:=e0.mod.nolimit.keeps fun b o e=>(e0.bs b o e).1
 have hkind:∀y∈ps.zip us,scope.names.lookup y.1=some .local\/(scope.names.lookup y.1=some .cell/\((cellsFrom (s.heap.objs.size+1) scope.names []).lookup y.1).isSome=true):=fun⟨n,v⟩ hy=>by
  rcases S.par n (List.of_mem_zip hy).1 with q|q
  ·exact .inl q
  ·exact .inr ⟨q,W.cellsFrom_some _ _ _ (.inl q)⟩
 refine codeAny_call_function hr.depth (KX _ _ lk) rfl S.co S.gen rfl (W.codeRec_of KX hcd) (hb _ _ _ _ ?_)
 refine wpAny_newFunctionEnv_cells S.kind hkind fun env he s1 x=>?_
 subst he
 refine⟨lim.keeps x.toInCall.keep,codeAny_func ?_⟩
 obtain⟨t,ht,hq⟩:=hbody A outer s H vs Q E (hr.deeper _) hsp
 have I:Inv (cxOf CX P w K mg base N qual scope f cdv A outer s H E) [] (start N vs) H s1:=zpt S hr.hd e0 hl r x
 refine wpAny_mono (ht [] s1 (start N vs) H _ I hq) (fun fl s' hs=>?_) fun e s' hs=>hs
 have fin:∀{σ':St} {H':Hp} {v:V} {u:Value},Inv (cxOf CX P w K mg base N qual scope f cdv A outer s H E) [] σ' H' s'->RelV v u->Q v H'->CE outer P w H s Q u s':=
  fun{σ' H' v u} J rv q=>⟨v,H',J.os,J.bare,J.base,J.hok,rv,q⟩
 cases fl with
 |ret u=>
  obtain⟨v,σ',H',J,rv,q⟩:=hs
  exact fin J rv q
 |next=>
  obtain⟨σ',H',J,q⟩:=hs
  exact fin (v:=V.non) (u:=Value.none) J rfl q
 |brk=>
  obtain⟨_,_,_,q⟩:=hs
  exact False.elim q
 |cont=>
  obtain⟨_,_,_,q⟩:=hs
  exact False.elim q
section
variable {X:Cx} {x:Str} {p pos:Pos} {e:Expr} {es:List Expr} {t:TA} {id T:String} {r:List V->Hp->VK->Prop}
noncomputable def tCB (r:List V->Hp->VK->Prop)(t:TA):TE:=fun σ H Q=>t σ H fun vs H1=>r vs H1 Q
theorem zjB (hc:zhw X (.builtin id) r)(hg:Gl X x)(hm:X.mg x=none)(hv:bootBuiltins x=some (.builtin id))(ha:PA X (e::es) t)(hn:autoParam (x≠"__name__") zu1._auto_1)(hdb:autoParam ((x==("__debug__":Str))=false) zu1._auto_1)
  (he:autoParam (starEach (e::es) X.env=(false,eval e X.env)::starEach es X.env) zu2._auto_1) (hpl:autoParam ((backTo pos (starEach es X.env)).any (·.1)=false) zu2._auto_1):PE X (.Call (.Name x p) (e::es) [] pos) (tCB r t):=by
 intro pins s σ H Q I h
 refine wpAny_Call_Name_kw (zhI I hg hm hv ?_ hn hdb)
 exact PyProof.Rows.callWith_builtin1 (thn (ha pos pins s σ H _ I h) fun us s1 ⟨vs,H1,I1,r1,q1⟩=>hc pins s1 σ H1 vs us Q I1 r1 q1) he hpl
theorem zpH (hc:zhw X (.type T) r)(hg:Gl X x)(hm:X.mg x=none)(hv:bootBuiltins x=some (.type T))(ha:PA X (e::es) t)(hn:autoParam (x≠"__name__") zu1._auto_1)(hdb:autoParam ((x==("__debug__":Str))=false) zu1._auto_1)
  (he:autoParam (starEach (e::es) X.env=(false,eval e X.env)::starEach es X.env) zu2._auto_1) (hpl:autoParam ((backTo pos (starEach es X.env)).any (·.1)=false) zu2._auto_1):PE X (.Call (.Name x p) (e::es) [] pos) (tCB r t):=by
 intro pins s σ H Q I h
 refine wpAny_Call_Name_kw (zhI I hg hm hv ?_ hn hdb)
 exact PyProof.Rows.callWith_type1 (thn (ha pos pins s σ H _ I h) fun us s1 ⟨vs,H1,I1,r1,q1⟩=>hc pins s1 σ H1 vs us Q I1 r1 q1) he hpl
end
end L2
namespace HT
open PyProof.Rows PySem
noncomputable def zkU:List Int->List Int->Bool
 |[],[]=>false
 |[],_::_=>true
 |_::_,[]=>false
 |x::xs,y::ys=>if x=y then zkU xs ys else decide (x<y)
theorem zgH (x y:Int)(xs ys:List Int):zkU (x::xs) (y::ys)=if x=y then zkU xs ys else decide (x<y):=rfl
section
variable {prog:Program} {w:World} {A:Around} {E:Value->Shared->Prop} {s:Shared}
theorem cat_tup {t b:Addr}{vs ws:List Value}{Q:Value->Shared->Prop}(ht:IsTup s.heap t vs.toArray)(hb:IsTup s.heap b ws.toArray)(hv:vs≠[])
  (h1:ws=[]->Q (.ref t) s) (h2:ws≠[]->Q (.ref s.heap.objs.size) {s with heap:=s.heap.push {cls:= .type "tuple",data:= .seq (vs++ws).toArray}})
  (hsz:vs.length+ws.length<=sizeLine):wpAny (model prog w) A (binaryOp .Add (.ref t) (.ref b)) Q E s:=by
 obtain⟨⟨cls,dd,data,sl⟩,ho,hc,n,hd⟩:=id ht
 obtain⟨⟨cls2,dd2,data2,sl2⟩,ho2,hc2,n2,hd2⟩:=id hb
 simp only at hc hd hc2 hd2
 subst hc hd hc2 hd2
 have e:vs.toArray++ws.toArray=(vs++ws).toArray:=by simp
 by_cases hw:ws=[]
 ·exact concat_meets ⟨_,ho,rfl⟩ ⟨_,ho2,rfl⟩ noFill_tuple_add seq_tuple_add PySem.F.slot_tuple_add PySem.F.entry_tuple_add (PySem.F.args_tuple_add_2 _ _)
   (tuple_addW1 t b vs.toArray ws.toArray n n2 dd dd2 sl sl2 (by simpa using hv) (by simp[hw])) ⟨ho,ho2,h1 hw⟩
 ·refine concat_meets ⟨_,ho,rfl⟩ ⟨_,ho2,rfl⟩ noFill_tuple_add seq_tuple_add PySem.F.slot_tuple_add PySem.F.entry_tuple_add (PySem.F.args_tuple_add_2 _ _)
   (tuple_addW2 t b vs.toArray ws.toArray n n2 dd dd2 sl sl2 (by simpa using hv) (by simpa using hw) (by rw[List.size_toArray,List.size_toArray];exact hsz)) ⟨ho,ho2,?_⟩
  rw[e]
  exact h2 hw
noncomputable def sIx (n d:Nat):Option Int->Nat
 |none=>d
 |some v=>if v<0 then(v+(n:Int)).toNat else min v.toNat n
theorem zlK (n d:Nat):sIx n d none=d:=rfl
theorem zlB (n d k:Nat):sIx n d (some (k:Int))=min k n:=by
 show(if(k:Int)<0 then((k:Int)+(n:Int)).toNat else min (k:Int).toNat n)=min k n
 rw[if_neg (by lia),Int.toNat_natCast]
theorem sIx_le (n d:Nat)(hd:d<=n)(o:Option Int):sIx n d o<=n:=by
 cases o with
 |none=>exact hd
 |some v=>
  show(if v<0 then(v+(n:Int)).toNat else min v.toNat n)<=n
  by_cases hv:v<0
  ·rw[if_pos hv];lia
  ·rw[if_neg hv];exact Nat.min_le_right _ _
theorem zqb (v:Int)(n d:Nat):(if v<0 then max (v+(n:Int)) 0 else min v (n:Int))=((sIx n d (some v):Nat):Int):=by
 show(if v<0 then max (v+(n:Int)) 0 else min v (n:Int))=(((if v<0 then(v+(n:Int)).toNat else min v.toNat n):Nat):Int)
 by_cases hv:v<0
 ·simp only[if_pos hv];lia
 ·simp only[if_neg hv];lia
theorem zpc (lo hi:Option Int)(n:Nat):Builtin.Slice.sliceAdjust lo hi 1 (n:Int)=(((sIx n 0 lo:Nat):Int),((sIx n n hi:Nat):Int)):=by
 have h1:¬((1:Int)<0):=by lia
 unfold Builtin.Slice.sliceAdjust
 simp only[h1,if_false]
 refine Prod.ext ?_ ?_
 ·cases lo with
  |none=>rfl
  |some v=>exact zqb v n 0
 ·cases hi with
  |none=>rfl
  |some v=>exact zqb v n n
theorem zo2 (i j:Nat):Builtin.Slice.slicePlaces (i:Int) (j:Int) 1=j-i:=by
 unfold Builtin.Slice.slicePlaces
 have h1:(1:Int)>0:=by lia
 simp only[h1,if_true,Int.ediv_one]
 split<;>lia
theorem zgJ {v:Value}{o:Option Int}{Q:Option Int->Shared->Prop}(p:IsPart v o)(h:Q o s):wpAny (model prog w) A (Builtin.Slice.slicePartIndex v) Q E s:=by
 cases p with
 |none=>exact slicePart_none h
 |int i t=>exact slicePart_int h
theorem zfD {sl:Addr}{vl vu:Value}{lo hi:Option Int}{n:Nat}{Q:Int×Int×Nat->Shared->Prop}(hs:s.heap.IsSliceOf sl vl vu .none)(pl:IsPart vl lo)(pu:IsPart vu hi)
  (h:Q (((sIx n 0 lo:Nat):Int),1,sIx n n hi-sIx n 0 lo) s):wpAny (model prog w) A (Builtin.Slice.sliceApplied (.ref sl) (pure (n:Int))) Q E s:=by
 obtain⟨os,hos,hcs,hds⟩:=id hs
 unfold Builtin.Slice.sliceApplied Builtin.Slice.sliceFields
 refine wpAny_bind (wpAny_bind (wpAny_field hos hds (x:=vl) rfl (wpAny_bind (wpAny_field hos hds (x:=vu) rfl (wpAny_bind (wpAny_field hos hds (x:= .none) rfl (wpAny_pure ?_)))))))
 refine wpAny_bind (slicePart_none ?_)
 show wpAny _ _ (if((1:Int)==0)=true then _ else _) _ _ s
 rw[if_neg (by decide)]
 refine wpAny_bind (zgJ pl (wpAny_bind (zgJ pu (wpAny_bind (wpAny_pure ?_)))))
 show wpAny _ _ (match Builtin.Slice.sliceAdjust lo hi 1 (n:Int)with|(lo,hi)=>pure (lo,(1:Int),Builtin.Slice.slicePlaces lo hi 1)) _ _ s
 rw[zpc lo hi n]
 show wpAny _ _ (pure (((sIx n 0 lo:Nat):Int),(1:Int),Builtin.Slice.slicePlaces ((sIx n 0 lo:Nat):Int) ((sIx n n hi:Nat):Int) 1)) _ _ s
 rw[zo2]
 exact wpAny_pure h
theorem pick_gen (xs:Array Value)(i k:Nat):((List.range k).filterMap fun(m:Nat)=>xs[((i:Int)+(m:Int)*1).toNat]?).toArray=((xs.toList.drop i).take k).toArray:=by
 have e:(fun(m:Nat)=>xs[((i:Int)+(m:Int)*1).toNat]?)=fun m=>xs[i+m]?:=by
  funext m
  have:((i:Int)+(m:Int)*1).toNat=i+m:=by lia
  rw[this]
 rw[e]
 have:=pick_run xs i k
 rw[List.filterMap_map]at this
 have e2:((fun x=>xs[x]?) ∘ fun x=>i+x)=fun m=>xs[i+m]?:=rfl
 rw[e2]at this
 rw[this]
theorem zim {t sl:Addr}{items:Array Value}{vl vu:Value}{lo hi:Option Int}{Q:Value->Shared->Prop}(ht:IsTup s.heap t items)(hs:s.heap.IsSliceOf sl vl vu .none)(pl:IsPart vl lo)(pu:IsPart vu hi)
  (hw:¬(sIx items.size 0 lo=0/\sIx items.size items.size hi=items.size))
  (h:Q (.ref s.heap.objs.size) {s with heap:=s.heap.push {cls:= .type "tuple",data:= .seq ((items.toList.drop (sIx items.size 0 lo)).take (sIx items.size items.size hi-sIx items.size 0 lo)).toArray}})
  (hsz:items.size<=sizeLine):wpAny (model prog w) A (getItem (.ref t) (.ref sl)) Q E s:=by
 have htake:sizeOk (.seq ((items.toList.drop (sIx items.size 0 lo)).take (sIx items.size items.size hi-sIx items.size 0 lo)).toArray):=by
  show((items.toList.drop (sIx items.size 0 lo)).take (sIx items.size items.size hi-sIx items.size 0 lo)).toArray.size<=sizeLine
  rw[List.size_toArray,List.length_take,List.length_drop,Array.length_toList]
  lia
 have hj:sIx items.size items.size hi<=items.size:=sIx_le _ _ (Nat.le_refl _) hi
 obtain⟨os,hos,hcs,hds⟩:=id hs
 have hTs:s.TypeIs (.ref sl) "slice":=⟨os,hos,hcs⟩
 unfold getItem
 try with_reducible refine wpAny_holding ?_
 first|refine wpAny_bind (wpAny_pure ?_)|skip
 refine wpAny_bind (wpAny_sequenceKey ht.typeIs (by decide) ?_)
 refine wpAny_bind (wpAny_callSpecial?_slot (name:=Str.ofString "__getitem__") ht.typeIs PyProof.Rows.slot_tuple_getitem
  (wpAny_call_entry PyProof.Rows.slot_tuple_getitem ht.typeIs entry_tuple_getitem ?_ (args_tuple_getitem _ _)))
 show wpAny _ _ (Builtin.Tuple.tupleItemsOf (.ref t)>>=_) _ _ s
 refine wpAny_bind (tupleItemsOf_ ht ?_)
 refine wpAny_bind (wpAny_typeOf hTs ?_)
 rw[if_pos (by decide)]
 refine wpAny_bind (zfD hs pl pu ?_)
 have hno:¬((((sIx items.size 0 lo:Nat):Int)==0&&(1:Int)==1&&(sIx items.size items.size hi-sIx items.size 0 lo)==items.size)=true):=by
  intro q
  rw[Bool.and_eq_true,Bool.and_eq_true]at q
  have q1:((sIx items.size 0 lo:Nat):Int)=0:=eq_of_beq q.1.1
  have q2:sIx items.size items.size hi-sIx items.size 0 lo=items.size:=eq_of_beq q.2
  exact hw ⟨by lia,by lia⟩
 show wpAny _ _ (if(((sIx items.size 0 lo:Nat):Int)==0&&(1:Int)==1&&(sIx items.size items.size hi-sIx items.size 0 lo)==items.size)=true then _ else _) _ _ s
 rw[if_neg hno,pick_gen]
 first
  |exact wpAny_bind (m:=Builtin.Tuple.tupleExact _) (wpAny_newObj_type (wpAny_pure ⟨_,rfl,wpAny_pure h⟩) htake)
  |exact wpAny_bind (m:=Builtin.Tuple.tupleExact _) (wpAny_newObj_type (wpAny_bind (wpAny_pure (wpAny_pure ⟨_,rfl,wpAny_pure h⟩))) htake)
  |exact wpAny_bind (wpAny_bind (m:=Builtin.Tuple.tupleExact _) (wpAny_newObj_type (wpAny_pure (wpAny_pure ⟨_,rfl,wpAny_pure h⟩)) htake))
  |exact wpAny_bind (wpAny_bind (m:=Builtin.Tuple.tupleExact _) (wpAny_newObj_type (wpAny_pure ⟨_,rfl,wpAny_pure h⟩) htake))
end
end HT
namespace L2
open PyProof.Rows PySem PySem.Spec
variable {ns:List Int} {r r':V->Option Int->Option Int->Hp->VK->Prop} {xs:List V} {us its its':List Value} {n j t':Nat} {i:Int} {pins:List (Addr×Obj)} {σ:St} {H:Hp} {s:Shared} {p:Addr} {f:Array Value->Array Value} {A:Around} {y x:V} {u v:Value}
noncomputable abbrev TO:=St->Hp->(Option Int->Hp->Prop)->Prop
noncomputable def PO (X:Cx)(e:Option Expr)(t:TO):Prop:=
 ∀(pins:List (Addr×Obj)) (s:Shared) (σ:St) (H:Hp) (Q:Option Int->Hp->Prop),Inv X pins σ H s->t σ H Q->
  wpAny (model X.prog X.w) X.A (evalPart e X.env) (fun u s'=>∃o H',Inv X pins σ H' s'/\IsPart u o/\Q o H') X.xe s
noncomputable def tNoPart:TO:=fun _ H Q=>Q none H
noncomputable def tPart (t:TE):TO:=fun σ H Q=>t σ H fun x H1=>∃i,x= .int i/\Q (some i) H1
theorem zeA:∀{us:List Value},Vals (ns.map V.int) us->IntsAre us ns:=by
 induction ns with
 |nil=>intro us r;rw[List.map_nil]at r;cases r;exact .nil
 |cons n ns ih=>
  intro us r
  rw[List.map_cons]at r
  cases r with
  |cons r1 r2=>
   obtain⟨t,e⟩:=r1
   subst e
   exact .cons n t (ih r2)
section
variable {X:Cx} {e:Expr} {te:TE} {lo hi:Option Expr} {tl th:TO} {pos p2:Pos}
theorem po_none:PO X none tNoPart:=by
 intro pins s σ H Q I h
 rw[evalPart_none]
 exact wpAny_pure ⟨none,H,I,.none,h⟩
theorem po_some (h:PE X e te):PO X (some e) (tPart te):=by
 intro pins s σ H Q I hw
 rw[evalPart_some]
 refine thn (h pins s σ H _ I hw) fun u s1 ⟨x,H1,I1,r1,q1⟩=>?_
 obtain⟨i,rfl,q⟩:=q1
 obtain⟨t,rfl⟩:=r1
 exact⟨some i,H1,I1,.int i t,q⟩
noncomputable def SlR (X:Cx)(r:V->Option Int->Option Int->Hp->VK->Prop):Prop:=
 ∀(pins:List (Addr×Obj)) (s:Shared) (σ:St) (H:Hp) (x:V) (v vl vu:Value) (lo hi:Option Int) (sl:Addr) (Q:VK),Inv X pins σ H s->RelV x v->s.heap.IsSliceOf sl vl vu .none->IsPart vl lo->IsPart vu hi->r x lo hi H Q->
  ∃T id,typeLookup (.type T) "__getitem__"=pure (some (.builtin id))/\s.TypeIs v T/\wpAny (model X.prog X.w) X.A (getItem v (.ref sl)) (EP X pins σ Q) X.xe s
theorem SlR.or (h:SlR X r)(h':SlR X r'):SlR X (fun x lo hi H Q=>r x lo hi H Q\/r' x lo hi H Q):=by
 intro pins s σ H x v vl vu lo hi sl Q I rx hs pl pu q
 rcases q with q|q
 ·exact h pins s σ H x v vl vu lo hi sl Q I rx hs pl pu q
 ·exact h' pins s σ H x v vl vu lo hi sl Q I rx hs pl pu q
noncomputable def tSl (r:V->Option Int->Option Int->Hp->VK->Prop)(te:TE)(tl th:TO):TE:=fun σ H Q=>te σ H fun x H1=>tl σ H1 fun l H2=>th σ H2 fun u H3=>r x l u H3 Q
theorem pe_slice (hr:SlR X r)(he:PE X e te)(hl:PO X lo tl)(hu:PO X hi th):PE X (.Subscript e (.Slice lo hi none p2) pos) (tSl r te tl th):=by
 intro pins s σ H Q I h
 refine Subscript_ (thn (he pins s σ H _ I h) fun v s1 ⟨x,H1,I1,r1,q1⟩=>?_)
 refine wpAny_Slice (thn (hl pins s1 σ H1 _ I1 q1) fun vl s2 ⟨l,H2,I2,pl,q2⟩=>thn (hu pins s2 σ H2 _ I2 q2) fun vu s3 ⟨u,H3,I3,pu,q3⟩=>?_)
 rw[evalPart_none]
 refine wpAny_pure ?_
 have I4:Inv X pins σ H3 {s3 with heap:=s3.heap.push {cls:= .type "slice",data:= .fields #[vl,vu,.none]}}:=I3.kept (t':=s3.toks) fun b ob q=>Heap.get?_push_of_some _ q
 obtain⟨T,id,hT,ht,hg⟩:=hr pins {s3 with heap:=s3.heap.push {cls:= .type "slice",data:= .fields #[vl,vu,.none]}} σ H3 x v vl vu l u s3.heap.objs.size Q I4 r1 (Heap.IsSliceOf.new ..) pl pu q3
 show wpAny (model X.prog X.w) X.A (subscriptTail e (.Slice lo hi none p2) v (.ref s3.heap.objs.size)) (EP X pins σ Q) X.xe {s3 with heap:=s3.heap.push {cls:= .type "slice",data:= .fields #[vl,vu,.none]}}
 exact tail_any (ops:=[.ref s3.heap.objs.size,v]) ht hT hg (by with_unfolding_all rfl)
noncomputable def cutV (xs:List V)(lo hi:Option Int):List V:=(xs.drop (HT.sIx xs.length 0 lo)).take (HT.sIx xs.length xs.length hi-HT.sIx xs.length 0 lo)
theorem zj6 (xs:List V)(lo hi:Option Int):(cutV xs lo hi).length<=xs.length:=by
 unfold cutV
 rw[List.length_take,List.length_drop]
 lia
noncomputable def rSlT (K:W.Frag):V->Option Int->Option Int->Hp->VK->Prop:=fun x lo hi H Q=>∃a xs,x= .ref a/\SqT K H a xs/\
 ¬(HT.sIx xs.length 0 lo=0/\HT.sIx xs.length xs.length hi=xs.length)/\∀p,H p=none->Q (.ref p) (upd H p (.tup (cutV xs lo hi)))
theorem sl_tup:SlR X (rSlT X.K):=by
 intro pins s σ H x v vl vu lo hi sl Q I rx hs pl pu h
 obtain⟨a,xs,rfl,hx,hw,q⟩:=h
 cases rx
 obtain⟨its,r,ht,hz⟩:=I.tuple hx
 have hlen:its.toArray.size=xs.length:=by rw[List.size_toArray];exact r.length.symm
 refine⟨"tuple",_,PyProof.Rows.slot_tuple_getitem.lookup,ht.typeIs,?_⟩
 refine HT.zim ht hs pl pu (by rw[hlen];exact hw) ?_ (by rw[hlen];exact hz)
 rw[hlen]
 refine⟨.ref s.heap.objs.size,_,I.laid (t':=s.toks) (o:= .tup (cutV xs lo hi)) (fun b ob q=>Heap.get?_push_of_some _ q) (Nat.le_refl _) ?_,rfl,q _ (I.hok.fresh (Nat.le_refl _))⟩
 exact⟨Nat.le_trans (zj6 xs lo hi) hz,_,(r.drop (HT.sIx xs.length 0 lo)).take (HT.sIx xs.length xs.length hi-HT.sIx xs.length 0 lo),IsTupD.new _ _⟩
noncomputable def rCatT (K:W.Frag):R2:=fun x y H Q=>∃a b xs ys,x= .ref a/\y= .ref b/\SqT K H a xs/\SqT K H b ys/\xs≠[]/\xs.length+ys.length<=sizeLine/\
 (ys=[]->Q (.ref a) H)/\(ys≠[]->∀p,H p=none->Q (.ref p) (upd H p (.tup (xs++ys))))
theorem Vals.nil_iff (r:Vals xs us):us=[]↔xs=[]:=by
 cases r with
 |nil=>simp
 |cons _ _=>simp
theorem op_catT:OpR X (binaryOp .Add) (rCatT X.K):=by
 intro pins s σ H x y v u Q I rx ry h
 obtain⟨a,b,xs,ys,rfl,rfl,ha,hb,hx,hz,q1,q2⟩:=h
 cases rx
 cases ry
 obtain⟨its,r1,p1,_⟩:=I.tuple ha
 obtain⟨its2,r2,p2,_⟩:=I.tuple hb
 refine HT.cat_tup p1 p2 (fun z=>hx (r1.nil_iff.mp z)) (fun z=>⟨.ref a,H,I,rfl,q1 (r2.nil_iff.mp z)⟩) (fun z=>?_) (by rw[<-r1.length,<-r2.length];exact hz)
 refine⟨.ref s.heap.objs.size,_,I.laid (t':=s.toks) (o:= .tup (xs++ys)) (fun b ob q=>Heap.get?_push_of_some _ q) (Nat.le_refl _) ?_,rfl,q2 (fun w=>z (r2.nil_iff.mpr w)) _ (I.hok.fresh (Nat.le_refl _))⟩
 exact⟨by rw[List.length_append];exact hz,_,r1.append r2,IsTupD.new _ _⟩
end
noncomputable def ixN (n:Nat)(i:Int):Option Nat:=if 0<=i then(if i<n then some i.toNat else none)else if-(n:Int)<=i then some (i+n).toNat else none
noncomputable def atI {α:Type}(xs:List α)(i:Int):Option α:=(ixN xs.length i).bind fun j=>xs[j]?
theorem zpw {n:Nat}(h:ixN n i=some j):seqIndex? i n=some j/\j<n/\ -(n:Int)<=i/\i<n:=by
 unfold ixN at h
 by_cases h0:0<=i
 ·rw[if_pos h0]at h
  by_cases h1:i<n
  ·rw[if_pos h1]at h
   have e:i.toNat=j:=Option.some.inj h
   exact⟨by rw[seqIndex_of h0 h1,e],by lia,by lia,h1⟩
  ·rw[if_neg h1]at h;cases h
 ·rw[if_neg h0]at h
  by_cases h1: -(n:Int)<=i
  ·rw[if_pos h1]at h
   have e:(i+n).toNat=j:=Option.some.inj h
   exact⟨by rw[seqIndex_neg (by lia) h1,e],by lia,h1,by lia⟩
  ·rw[if_neg h1]at h;cases h
theorem znD {α:Type}{xs:List α}{v:α}(h:atI xs i=some v):∃j,seqIndex? i xs.length=some j/\xs[j]? =some v/\j<xs.length/\ -(xs.length:Int)<=i/\i<xs.length:=by
 unfold atI at h
 cases e:ixN xs.length i with
 |none=>rw[e]at h;cases h
 |some j=>
  rw[e]at h
  obtain⟨h1,h2,h3,h4⟩:=zpw e
  exact⟨j,h1,h,h2,h3,h4⟩
noncomputable def zlM (b:Expr):Prop:=∀o i,subscripted b false o i=operate [o,i] (getItem o i)
noncomputable def IxR (X:Cx)(r:R2):Prop:=
 ∀(value slice:Expr) (pins:List (Addr×Obj)) (s:Shared) (σ:St) (H:Hp) (x y:V) (v u:Value) (Q:VK),Inv X pins σ H s->RelV x v->RelV y u->r x y H Q->
  subscripted slice false v u=operate [v,u] (getItem v u)->wpAny (model X.prog X.w) X.A (subscriptTail value slice v u) (EP X pins σ Q) X.xe s
noncomputable def MtR (X:Cx)(id:String)(r:V->List V->Hp->VK->Prop):Prop:=
 ∀(pins:List (Addr×Obj)) (s:Shared) (σ:St) (H:Hp) (x:V) (xs:List V) (v:Value) (us:List Value) (Q:VK),Inv X pins σ H s->RelV x v->Vals xs us->r x xs H Q->
  wpAny (model X.prog X.w) X.A (call (.builtin id) (v::us)) (EP X pins σ Q) X.xe s
section
variable {X:Cx} {a b:Expr} {ta tb:TE} {pos:Pos}
theorem IxR.or {r r':R2}(h:IxR X r)(h':IxR X r'):IxR X (fun x y H Q=>r x y H Q\/r' x y H Q):=by
 intro value slice pins s σ H x y v u Q I rx ry q hs
 rcases q with q|q
 ·exact h value slice pins s σ H x y v u Q I rx ry q hs
 ·exact h' value slice pins s σ H x y v u Q I rx ry q hs
theorem pe_ix {r:R2}(hr:IxR X r)(ha:PE X a ta)(hb:PE X b tb)(hs:zlM b):PE X (.Subscript a b pos) (tOp r ta tb):=by
 intro pins s σ H Q I h
 exact Subscript_ (binT ha hb I h fun v u s2 x y H2 I2 rx ry q=>hr a b pins s2 σ H2 x y v u Q I2 rx ry q (hs _ _))
noncomputable def rIxL (K:W.Frag):R2:=fun x y H Q=>∃p xs i v,x= .ref p/\y= .int i/\SqL K H p xs/\atI xs i=some v/\Q v H
noncomputable def rIxT (K:W.Frag):R2:=fun x y H Q=>∃p xs i v,x= .ref p/\y= .int i/\SqT K H p xs/\atI xs i=some v/\Q v H
noncomputable def rIxS:R2:=fun x y H Q=>∃z i c,x= .str z/\y= .int i/\z.length<=sizeLine/\atI z.cps.toList i=some c/\Q (.str ⟨#[c]⟩) H
theorem ix_list:IxR X (rIxL X.K):=by
 intro value slice pins s σ H x y v u Q I rx ry h hs
 obtain⟨p,xs,i,z,rfl,rfl,hq,he,q⟩:=h
 cases rx
 obtain⟨t,rfl⟩:=ry
 obtain⟨its,r,pl,hz⟩:=I.list hq
 obtain⟨j,h1,h2,h3,h4,h5⟩:=znD he
 obtain⟨w,ew,rw'⟩:=r.get h2
 have hl:=r.length
 have hn:=zlg
 have fin:EP X pins σ Q w s:=⟨z,H,I,rw',q⟩
 by_cases h0:0<=i
 ·have hj:i.toNat=j:=by
   rw[seqIndex_of h0 h5]at h1
   exact Option.some.inj h1
  exact item_listR pl.isList h0 (by lia) (by rw[hj];simpa using ew) fin hs
 ·have hj:(i+(its.toArray.size:Int)).toNat=j:=by
   rw[seqIndex_neg (by lia) h4]at h1
   rw[List.size_toArray,<-hl]
   exact Option.some.inj h1
  exact subscriptTail_builtinR (x:=w) pl.isList.typeIs slot_list_getitem.lookup
   (wpAny_getItem_list_neg (Q:=fun r s'=>r=w/\EP X pins σ Q r s') pl.isList (by lia) (by rw[List.size_toArray]<;>lia) (by lia) (by rw[hj];simpa using ew) ⟨rfl,fin⟩) hs
theorem ix_tup:IxR X (rIxT X.K):=by
 intro value slice pins s σ H x y v u Q I rx ry h hs
 obtain⟨p,xs,i,z,rfl,rfl,hq,he,q⟩:=h
 cases rx
 obtain⟨t,rfl⟩:=ry
 obtain⟨its,r,pl,hz⟩:=I.tuple hq
 obtain⟨j,h1,h2,h3,h4,h5⟩:=znD he
 obtain⟨w,ew,rw'⟩:=r.get h2
 have hl:=r.length
 have hn:=zlg
 have fin:EP X pins σ Q w s:=⟨z,H,I,rw',q⟩
 exact subscriptTail_builtinR (x:=w) pl.typeIs slot_tuple_getitem.lookup
  (getItem_tuple (j:=j) (Q:=fun r s'=>r=w/\EP X pins σ Q r s') pl (by lia) (by lia) (by rw[List.size_toArray,<-hl];exact h1) (by simpa using ew) ⟨rfl,fin⟩) hs
theorem ix_str:IxR X rIxS:=by
 intro value slice pins s σ H x y v u Q I rx ry h hs
 obtain⟨z,i,c,rfl,rfl,hz,he,q⟩:=h
 obtain⟨t,rfl⟩:=rx
 obtain⟨t',rfl⟩:=ry
 obtain⟨j,h1,h2,h3,h4,h5⟩:=znD he
 have hl:z.cps.toList.length=z.length:=by simp[Str.length]
 rw[hl]at h1 h4 h5
 have hn:=zlg
 exact tail_any (typeIs_str s z t) slot_str_getitem.lookup (getItem_str (c:=c) (by
  have e1:decide (i< -(2^63:Int))=false:=decide_eq_false (by lia)
  have e2:decide (i>=2^63)=false:=decide_eq_false (by lia)
  rw[e1,e2,Bool.or_false]) (by rw[h1];simpa using h2) ⟨.str ⟨#[c]⟩,H,I.tok _,⟨_,rfl⟩,q⟩) hs
noncomputable def rIx (K:W.Frag):R2:=fun x y H Q=>rIxL K x y H Q\/rIxT K x y H Q\/rIxS x y H Q
theorem zrn:IxR X (rIx X.K):=ix_list.or (ix_tup.or ix_str)
theorem zoT (its:List Value)(n j:Nat)(u:Value):Obj.mapSeq (·.setIfInBounds j u) {cls:= .type "list",data:= .seq its.toArray n}={cls:= .type "list",data:= .seq (its.set j u).toArray n}:=by
 simp[Obj.mapSeq]
theorem Inv.lst (I:Inv X pins σ H s)(h:H p=some (.lst xs)):
  ∃(its:List Value) (n:Nat),Vals xs its/\s.heap.get? p=some {cls:= .type "list",data:= .seq its.toArray n}/\xs.length<=sizeLine:=by
 obtain⟨z,its,n,r,e⟩:=I.hok p _ h
 exact⟨its,n,r,e,z⟩
theorem Inv.lstUpd {xs ys:List V}{n n':Nat}{f:Obj->Obj}(I:Inv X pins σ H s)(h:H p=some (.lst xs))
  (ho:s.heap.get? p=some {cls:= .type "list",data:= .seq its.toArray n}) (hf:f {cls:= .type "list",data:= .seq its.toArray n}={cls:= .type "list",data:= .seq its'.toArray n'}) (r:Vals ys its') (hz:ys.length<=sizeLine) (t:Nat):
  Inv X pins σ (upd H p (.lst ys)) {s with heap:=s.heap.update p f,toks:=t}:=by
 have e:(s.heap.update p f).get? p=some {cls:= .type "list",data:= .seq its'.toArray n'}:=by
  rw[Heap.get?_update_self f ho (by rw[hf]<;>rfl),hf]
 refine I.write (x:=p) (e:=p) (by rw[h];trivial) (.inl rfl) (fun b u hb q=>(Heap.get?_update_other _ _ (Ne.symm hb)).trans q) ⟨_,e⟩ ?_
 exact⟨hz,its',n',r,e⟩
noncomputable def rSetL:V->V->V->Hp->(Hp->Prop)->Prop:=fun o i v H Q=>∃p xs k j,o= .ref p/\i= .int k/\H p=some (.lst xs)/\ixN xs.length k=some j/\Q (upd H p (.lst (xs.set j v)))
theorem set_list:PSet X rSetL:=by
 intro pins s σ H o i v ov iv u Q I ro ri rv h
 obtain⟨p,xs,k,j,rfl,rfl,hp,hj,q⟩:=h
 cases ro
 obtain⟨t,rfl⟩:=ri
 obtain⟨its,n,r,ho,hz⟩:=I.lst hp
 obtain⟨h1,h2,h3,h4⟩:=zpw hj
 have hl:=r.length
 have hn:=zlg
 have I':Inv X pins σ (upd H p (.lst (xs.set j v))) {s with heap:=s.heap.update p (Obj.mapSeq (·.setIfInBounds j u))}:=
  I.lstUpd hp ho (zoT its n j u) (r.set rv j) (by rw[List.length_set];exact hz) s.toks
 by_cases h0:0<=k
 ·have hk:k.toNat=j:=by
   rw[seqIndex_of h0 h4]at h1
   exact Option.some.inj h1
  exact W.ki_setAt ho h0 (by lia) (by rw[List.size_toArray,<-hl];exact h4) (by rw[hk];exact⟨_,I',q⟩)
 ·have hk:(k+(its.toArray.size:Int)).toNat=j:=by
   rw[seqIndex_neg (by lia) h3]at h1
   rw[List.size_toArray,<-hl]
   exact Option.some.inj h1
  exact W.ki_setBack ho (by lia) (by rw[List.size_toArray,<-hl];exact h3) (by lia) (by rw[hk];exact⟨_,I',q⟩)
theorem znc (lo hi:Option Int)(n:Nat):(sliceBounds lo hi none n).1=((HT.sIx n 0 lo:Nat):Int)/\(sliceBounds lo hi none n).2.1=((HT.sIx n n hi:Nat):Int)/\(sliceBounds lo hi none n).2.2=1:=by
 refine⟨?_,?_,rfl⟩
 ·cases lo with
  |none=>simp[sliceBounds,HT.sIx]
  |some i=>
   simp only[sliceBounds,HT.sIx,Option.getD_none,show(1:Int)>0 by decide,if_true]
   by_cases h:i<0
   ·simp only[h,if_true]<;>lia
   ·simp only[h,if_false]<;>lia
 ·cases hi with
  |none=>simp[sliceBounds,HT.sIx]
  |some i=>
   simp only[sliceBounds,HT.sIx,Option.getD_none,show(1:Int)>0 by decide,if_true]
   by_cases h:i<0
   ·simp only[h,if_true]<;>lia
   ·simp only[h,if_false]<;>lia
theorem zlI (its:List Value)(lo hi:Option Int):slicePick its.toArray lo hi none=((its.drop (HT.sIx its.length 0 lo)).take (HT.sIx its.length its.length hi-HT.sIx its.length 0 lo)).toArray:=by
 obtain⟨h1,h2,h3⟩:=znc lo hi its.toArray.size
 unfold slicePick
 rw[h1,h2,h3]
 simp only[sliceRange_one,pick_run,List.size_toArray]<;>rfl
noncomputable def rSlL (K:W.Frag):V->Option Int->Option Int->Hp->VK->Prop:=fun x lo hi H Q=>∃a xs,x= .ref a/\SqL K H a xs/\∀p,H p=none->Q (.ref p) (upd H p (.lst (cutV xs lo hi)))
theorem sl_list:SlR X (rSlL X.K):=by
 intro pins s σ H x v vl vu lo hi sl Q I rx hs pl pu h
 obtain⟨a,xs,rfl,hx,q⟩:=h
 cases rx
 obtain⟨its,r,ht,hz⟩:=I.list hx
 have hlen:=r.length
 refine⟨"list",_,slot_list_getitem.lookup,ht.isList.typeIs,?_⟩
 refine wpAny_getItem_list_slice ht.isList hs pl pu .none (by simp) ?_ (by rw[List.size_toArray]<;>lia)
 rw[zlI,<-hlen]
 refine⟨.ref s.heap.objs.size,_,I.laid (t':=s.toks) (o:= .lst (cutV xs lo hi)) (fun b ob q=>Heap.get?_push_of_some _ q) (Nat.le_refl _) ?_,rfl,q _ (I.hok.fresh (Nat.le_refl _))⟩
 exact⟨Nat.le_trans (zj6 xs lo hi) hz,_,0,(r.drop (HT.sIx xs.length 0 lo)).take (HT.sIx xs.length xs.length hi-HT.sIx xs.length 0 lo),Heap.get?_push_size _ rfl⟩
noncomputable def zkX:V->Bool
 | .non=>true
 | .bl _=>true
 | .int _=>true
 | .str _=>true
 |_=>false
noncomputable def eqV:V->V->Bool
 | .non,.non=>true
 | .bl a,.bl b=>a==b
 | .bl a,.int b=>(if a then 1 else 0)==b
 | .int a,.bl b=>a==(if b then 1 else 0)
 | .int a,.int b=>a==b
 | .str a,.str b=>a==b
 |_,_=>false
theorem eqAt_V (ry:RelV y u)(rx:RelV x v)(fy:zkX y=true)(fx:zkX x=true):SeqAt.EqAt A s u v (eqV y x):=by
 cases y with
 |non=>
  cases ry
  cases x with
  |non=>cases rx;exact SeqAt.EqAt.same _
  |bl b=>cases rx;exact SeqAt.EqAt.none_bool b
  |int b=>obtain⟨t,rfl⟩:=rx;exact SeqAt.EqAt.none_int b t
  |str b=>obtain⟨t,rfl⟩:=rx;exact SeqAt.EqAt.none_str b t
  |_=>exact absurd (show false=true from fx) Bool.false_ne_true
 |bl a=>
  cases ry
  cases x with
  |non=>cases rx;exact SeqAt.EqAt.bool_none a
  |bl b=>cases rx;exact SeqAt.EqAt.bool_bool a b
  |int b=>obtain⟨t,rfl⟩:=rx;exact SeqAt.EqAt.bool_int a b t
  |str b=>obtain⟨t,rfl⟩:=rx;exact SeqAt.EqAt.bool_str a b t
  |_=>exact absurd (show false=true from fx) Bool.false_ne_true
 |int a=>
  obtain⟨t',rfl⟩:=ry
  cases x with
  |non=>cases rx;exact SeqAt.EqAt.int_none a t'
  |bl b=>cases rx;exact SeqAt.EqAt.int_bool a t' b
  |int b=>obtain⟨t,rfl⟩:=rx;exact SeqAt.EqAt.int_int a t' b t
  |str b=>obtain⟨t,rfl⟩:=rx;exact SeqAt.EqAt.int_str a t' b t
  |_=>exact absurd (show false=true from fx) Bool.false_ne_true
 |str a=>
  obtain⟨t',rfl⟩:=ry
  cases x with
  |non=>cases rx;exact SeqAt.EqAt.str_none a t'
  |bl b=>cases rx;exact SeqAt.EqAt.str_bool a t' b
  |int b=>obtain⟨t,rfl⟩:=rx;exact SeqAt.EqAt.str_int a t' b t
  |str b=>obtain⟨t,rfl⟩:=rx;exact SeqAt.EqAt.str_str a t' b t
  |_=>exact absurd (show false=true from fx) Bool.false_ne_true
 |_=>exact absurd (show false=true from fy) Bool.false_ne_true
noncomputable def eqU (x:V)(u:Value):Bool:=match u with
 | .none=>eqV .non x
 | .bool b=>eqV (.bl b) x
 | .int i _=>eqV (.int i) x
 | .str z _=>eqV (.str z) x
 |_=>false
theorem eqU_of (r:RelV y u)(f:zkX y=true):eqU x u=eqV y x:=by
 cases y with
 |non=>cases r;rfl
 |bl b=>cases r;rfl
 |int i=>obtain⟨t,rfl⟩:=r;rfl
 |str z=>obtain⟨t,rfl⟩:=r;rfl
 |_=>exact absurd (show false=true from f) Bool.false_ne_true
theorem zjW:∀{xs:List V} {us:List Value},Vals xs us->xs.all zkX=true->us.any (eqU x)=xs.any fun y=>eqV y x
 |_,_,.nil,_=>rfl
 |y::xs,u::us,.cons r t,f=>by
  rw[List.all_cons,Bool.and_eq_true]at f
  rw[List.any_cons,List.any_cons,eqU_of r f.1,zjW t f.2]
theorem zhQ (rx:RelV x v)(fx:zkX x=true):∀{xs:List V} {us:List Value},Vals xs us->xs.all zkX=true->∀u∈us,SeqAt.EqAt A s u v (eqU x u)
 |_,_,.nil,_=>fun u hu=>by cases hu
 |y::xs,u::us,.cons r t,f=>fun u' hu=>by
  rw[List.all_cons,Bool.and_eq_true]at f
  rcases List.mem_cons.mp hu with rfl|hu
  ·rw[eqU_of r f.1];exact eqAt_V r rx f.1 fx
  ·exact zhQ rx fx t f.2 u' hu
noncomputable def inV (x:V)(xs:List V):Bool:=xs.any fun y=>eqV y x
noncomputable def rIn (K:W.Frag)(neg:Bool):R2:=fun x y H Q=>∃p xs,y= .ref p/\(SqL K H p xs\/SqT K H p xs)/\zkX x=true/\xs.all zkX=true/\Q (.bl (if neg then !inV x xs else inV x xs)) H
theorem zqe:OpR X (compareOp .In) (rIn X.K false):=by
 intro pins s σ H x y v u Q I rx ry h
 obtain⟨p,xs,rfl,hq,fx,fs,q⟩:=h
 cases ry
 rcases hq with hq|hq
 ·obtain⟨its,r,pl,hz⟩:=I.list hq
  refine SeqAt.in_listAt (eqU x) pl.isList (fun w hw=>zhQ rx fx r fs w (by simpa using hw)) ⟨.bl _,H,I,rfl,?_⟩
  rw[show its.toArray.any (eqU x)=its.any (eqU x) by simp,zjW r fs]
  exact q
 ·obtain⟨its,r,pl,hz⟩:=I.tuple hq
  refine SeqAt.in_tupleAt (eqU x) pl (fun w hw=>zhQ rx fx r fs w (by simpa using hw)) ⟨.bl _,H,I,rfl,?_⟩
  rw[show its.toArray.any (eqU x)=its.any (eqU x) by simp,zjW r fs]
  exact q
theorem zmW:OpR X (compareOp .NotIn) (rIn X.K true):=by
 intro pins s σ H x y v u Q I rx ry h
 obtain⟨p,xs,rfl,hq,fx,fs,q⟩:=h
 cases ry
 rcases hq with hq|hq
 ·obtain⟨its,r,pl,hz⟩:=I.list hq
  refine SeqAt.notIn_listAt (eqU x) pl.isList (fun w hw=>zhQ rx fx r fs w (by simpa using hw)) ⟨.bl _,H,I,rfl,?_⟩
  rw[show its.toArray.any (eqU x)=its.any (eqU x) by simp,zjW r fs]
  exact q
 ·obtain⟨its,r,pl,hz⟩:=I.tuple hq
  refine SeqAt.notIn_tupleAt (eqU x) pl (fun w hw=>zhQ rx fx r fs w (by simpa using hw)) ⟨.bl _,H,I,rfl,?_⟩
  rw[show its.toArray.any (eqU x)=its.any (eqU x) by simp,zjW r fs]
  exact q
theorem zja:zhw X (.builtin "len") (fun xs H Q=>∃p ys,xs=[.ref p]/\(SqL X.K H p ys\/SqT X.K H p ys)/\Q (.int ys.length) H):=by
 intro pins s σ H xs us Q I r h
 obtain⟨p,ys,rfl,hq,q⟩:=h
 obtain⟨u,rfl,rx⟩:=zkI r
 cases rx
 have hn:=zlg
 rcases hq with hq|hq
 ·obtain⟨its,r',pl,hz⟩:=I.list hq
  have hlen:=r'.length
  exact Calls.call_len_list pl.isList (by simp only[List.size_toArray]<;>lia) ⟨.int ys.length,H,I.tok _,⟨s.toks+1,by rw[List.size_toArray,hlen]⟩,q⟩
 ·obtain⟨its,r',pl,hz⟩:=I.tuple hq
  have hlen:=r'.length
  exact len_tuple pl (by simp only[List.size_toArray]<;>lia) ⟨.int ys.length,H,I.tok _,⟨s.toks+1,by rw[List.size_toArray,hlen]⟩,q⟩
theorem zl7:zhw X (.type "tuple") (fun xs H Q=>∃p ys,xs=[.ref p]/\((SqL X.K H p ys/\∀l,H l=none->Q (.ref l) (upd H l (.tup ys)))\/(SqT X.K H p ys/\Q (.ref p) H))):=by
 intro pins s σ H xs us Q I r h
 obtain⟨p,ys,rfl,h⟩:=h
 obtain⟨u,rfl,rx⟩:=zkI r
 cases rx
 rcases h with⟨hq,q⟩|⟨hq,q⟩
 ·obtain⟨its,r',pl,hz⟩:=I.list hq
  have hlen:=r'.length
  refine call_tuple_list pl.isList (fun h' kp=>?_) (by simp only[List.size_toArray]<;>lia)
  have I1:Inv X pins σ H {s with heap:=h'}:=I.kept (t':=s.toks) kp
  have I2:Inv X pins σ (upd H h'.objs.size (.tup ys)) {s with heap:=h'.push {cls:= .type "tuple",data:= .seq its.toArray}}:=
   I1.laid (t':=s.toks) (fun b o e=>Heap.get?_push_of_some _ e) (Nat.le_refl _) (show ObjOk X.prog X.w _ _ _ (.tup ys)from⟨hz,its,r',IsTupD.new _ _⟩)
  exact⟨.ref h'.objs.size,_,I2,rfl,q _ (I1.hok.fresh (Nat.le_refl _))⟩
 ·obtain⟨its,r',pl,hz⟩:=I.tuple hq
  exact call_tuple_same pl ⟨.ref p,H,I,rfl,q⟩
noncomputable def tyV (K:W.Frag)(T:String)(x:V)(H:Hp):Prop:=match x with
 | .str _=>T="str"
 | .int _=>T="int"
 | .ref p=>(T="list"/\∃xs,SqL K H p xs)\/(T="tuple"/\∃o,K.lookup p=some o/\o.cls= .type "tuple"/\o.dict=none)\/
   (T="dict"/\((∃kvs,H p=some (.dK kvs))\/∃kvs,H p=some (.dT kvs)))\/(T="set"/\∃S n,H p=some (.set S n))
 |_=>False
theorem tyV_is {T:String}(I:Inv X pins σ H s)(r:RelV x v)(ty:tyV X.K T x H):
  s.TypeIs v T/\∀a,v= .ref a->∃ob,s.heap.get? a=some ob/\ob.dict=none:=by
 cases x with
 |str z=>
  obtain⟨t,rfl⟩:=r
  cases(show T="str" from ty)
  exact⟨typeIs_str s z t,fun _ e=>nomatch e⟩
 |int i=>
  obtain⟨t,rfl⟩:=r
  cases(show T="int" from ty)
  exact⟨typeIs_int s i t,fun _ e=>nomatch e⟩
 |ref p=>
  cases r
  rcases ty with⟨rfl,xs,hq⟩|⟨rfl,o,hk,hc,hd⟩|⟨rfl,hk⟩|⟨rfl,S,n,hk⟩
  ·obtain⟨its,_,pl,_⟩:=I.list hq
   refine⟨pl.isList.typeIs,fun a e=>?_⟩
   cases e
   obtain⟨o,n,e,c,hd,_⟩:=pl
   exact⟨o,e,hd⟩
  ·refine⟨⟨o,I.kIn p o hk,hc⟩,fun a e=>?_⟩
   cases e
   exact⟨o,I.kIn _ o hk,hd⟩
  ·have z:∃o,s.heap.get? p=some o/\o.ExactDict:=by
    rcases hk with⟨kvs,hk⟩|⟨kvs,hk⟩
    ·obtain⟨_,_,_,_,o,_,_,e,ex,_⟩:=I.hok p _ hk
     exact⟨o,e,ex⟩
    ·obtain⟨_,_,_,_,o,_,_,e,ex,_⟩:=I.hok p _ hk
     exact⟨o,e,ex⟩
   obtain⟨o,e,ex⟩:=z
   refine⟨⟨o,e,ex.1⟩,fun a e2=>?_⟩
   cases e2
   exact⟨o,e,ex.2.1⟩
  ·obtain⟨o,_,_,_,e,ex,_⟩:=I.hok p _ hk
   refine⟨⟨o,e,ex.1⟩,fun a e2=>?_⟩
   cases e2
   exact⟨o,e,ex.2.1⟩
 |_=>exact False.elim ty
noncomputable def tBM (K:W.Frag)(T:String)(r:V->List V->Hp->VK->Prop)(to:TE)(t:TA):TE:=fun σ H Q=>to σ H fun x H1=>tyV K T x H1/\t σ H1 fun xs H2=>r x xs H2 Q
variable {o e:Expr} {es:List Expr} {to:TE} {t:TA} {name:Str} {apos cpos:Pos} {T id:String} {r:V->List V->Hp->VK->Prop}
theorem pe_bm (pa:PlainAttrs T)(slot:Slot T name id)(hty:typeOf (.builtin id)=pure (.type "method_descriptor"))(hm:MtR X id r)(ho:PE X o to)(ha:PA X (e::es) t)
  (hbase:autoParam (attributeBase o name X.env (eval o X.env)=eval o X.env) zu2._auto_1)
  (hfew :autoParam (((backTo cpos (starEach (e :: es) X.env)).all (fun x => !x.1) && (backToKw cpos (keywordEach [] X.env)).all (fun x => x.1.isSome)
   &&decide ((e::es).length+([]:List Keyword).length+(if([]:List Keyword).isEmpty then 0 else 1)<30))=true) zu2._auto_1)
  (hline:autoParam ((apos.endLine==cpos.line)=true) zu2._auto_1) (hs:autoParam (starEach (e::es) X.env=(false,eval e X.env)::starEach es X.env) zu2._auto_1) (hplain:autoParam ((backTo cpos (starEach es X.env)).any (·.1)=false) zu2._auto_1):
  PE X (.Call (.Attribute o name apos) (e::es) [] cpos) (tBM X.K T r to t):=by
 intro pins s σ H Q I h
 refine wpAny_Call_method_late hbase hfew hline rfl (thn (ho pins s σ H _ I h) fun v s1 ⟨x,H1,I1,r1,ty,q1⟩=>?_)
 obtain⟨h1,h2⟩:=tyV_is I1 r1 ty
 refine⟨T,id,pa,slot,hty,h1,h2,?_⟩
 have hA:=ha cpos pins s1 σ H1 _ I1 q1
 rw[hs]at hA ⊢
 refine Calls.callWith_builtin (by show(false||(backTo cpos (starEach es X.env)).any (·.1))=false;rw[hplain]<;>rfl) (Calls.evalArgs_plain ?_)
 exact thn hA fun us s2 ⟨vs,H2,I2,r2,q2⟩=>hm pins s2 σ H2 x vs v us Q I2 r1 r2 q2
end
noncomputable def MtM (X:Cx)(id:String)(r:V->List V->Hp->VK->Prop):Prop:=
 ∀(pins:List (Addr×Obj)) (s:Shared) (σ:St) (H:Hp) (x:V) (xs:List V) (v:Value) (us:List Value) (Q:VK),Inv X pins σ H s->RelV x v->Vals xs us->r x xs H Q->
  wpAny (model X.prog X.w) X.A (call (.builtin id) (v::us)) (EP X pins σ Q) X.xe s
theorem Vals.one:∀{x:V} {us:List Value},Vals [x] us->∃u,us=[u]/\RelV x u
 |_,_,.cons r .nil=>⟨_,rfl,r⟩
theorem Vals.rep (h:Vals xs us):∀k:Nat,Vals (List.replicate k xs).flatten (List.replicate k us).flatten
 |0=> .nil
 |k+1=>by
  rw[List.replicate_succ,List.replicate_succ,List.flatten_cons,List.flatten_cons]
  exact Vals.append h (Vals.rep h k)
theorem zmq (its:List Value):∀(k:Nat) (acc:List Value),
  List.foldl (fun x1 x2=>x1++x2) acc.toArray (List.replicate k its.toArray)=(acc++(List.replicate k its).flatten).toArray
 |0,acc=>by simp
 |k+1,acc=>by
  have e:acc.toArray++its.toArray=(acc++its).toArray:=by simp
  have e2:(acc++its)++(List.replicate k its).flatten=acc++(List.replicate (k+1) its).flatten:=by
   rw[List.replicate_succ,List.flatten_cons,List.append_assoc]
  rw[<-e2,<-zmq its k (acc++its),<-e,List.replicate_succ,List.foldl_cons]
section
variable {X:Cx} {pins:List (Addr×Obj)} {σ:St} {H:Hp} {s:Shared} {l b:Addr} {xs ys zs:List V}
theorem Inv.lset (I:Inv X pins σ H s)(hH:H l=some (.lst xs))
  (e:s.heap.get? l=some {cls:= .type "list",data:= .seq its.toArray n}) (hf:f its.toArray=its'.toArray) (hv:Vals ys its') (hz:ys.length<=sizeLine):
  Inv X pins σ (upd H l (.lst ys)) {s with heap:=s.heap.update l (Obj.mapSeq f),toks:=t'}:=by
 have q:=PySem.IsL.update e f
 rw[hf]at q
 refine I.write (x:=l) (e:=l) (by rw[hH];exact trivial) (.inl rfl) (fun b' u hb hu=>(Heap.get?_update_other s.heap (Obj.mapSeq f) (Ne.symm hb)).trans hu) ⟨_,q⟩ ?_
 exact⟨hz,its',_,hv,q⟩
theorem Inv.lnew (I:Inv X pins σ H s)(hv:Vals ys its)(hz:ys.length<=sizeLine):
  Inv X pins σ (upd H s.heap.objs.size (.lst ys)) {s with heap:=s.heap.push {cls:= .type "list",data:= .seq its.toArray},toks:=t'}:=
 I.laid (fun _ _ q=>Heap.get?_push_of_some _ q) (Nat.le_refl _) ⟨hz,its,0,hv,Heap.get?_push_size _ rfl⟩
theorem Inv.fresh (I:Inv X pins σ H s):H s.heap.objs.size=none:=I.hok.fresh (Nat.le_refl _)
theorem Inv.lstM (I:Inv X pins σ H s)(hH:H l=some (.lst xs)):xs.length<=sizeLine/\∃(its:List Value) (n:Nat),Vals xs its/\xs.length=its.length/\s.heap.get? l=some {cls:= .type "list",data:= .seq its.toArray n}:=by
 obtain⟨z,its,n,r,e⟩:=I.hok l _ hH
 exact⟨z,its,n,r,r.length,e⟩
theorem notLongL (h:n<=sizeLine):Builtin.List.listTooLong n=false:=by
 unfold Builtin.List.listTooLong
 exact decide_eq_false (by lia)
end
section
variable {X:Cx}
noncomputable def rAppend:V->List V->Hp->VK->Prop:=fun x vs H Q=>∃l xs y,x= .ref l/\vs=[y]/\H l=some (.lst xs)/\xs.length<sizeLine/\Q .non (upd H l (.lst (xs++[y])))
theorem zmw:MtM X "list.append" rAppend:=by
 intro pins s σ H x vs v us Q I rx rv h
 obtain⟨l,xs,y,rfl,rfl,hH,hz,q⟩:=h
 cases rx
 obtain⟨u,rfl,ru⟩:=rv.one
 obtain⟨z,its,n,r,hl,e⟩:=I.lstM hH
 refine call_meets F.slot_list_append ⟨_,e,rfl⟩ F.entry_list_append (F.args_list_append_2 _ _) (PySem.list_append l its.toArray n u (by rw[List.size_toArray];lia)) ⟨e,?_⟩
 refine⟨.non,_,I.lset (its':=its++[u]) hH e (by simp) (r.append (.cons ru .nil)) ?_,rfl,q⟩
 rw[List.length_append,List.length_singleton]
 lia
noncomputable def rCat:R2:=fun x y H Q=>∃l b xs zs,x= .ref l/\y= .ref b/\H l=some (.lst xs)/\H b=some (.lst zs)/\xs.length+zs.length<=sizeLine/\∀p,H p=none->Q (.ref p) (upd H p (.lst (xs++zs)))
theorem op_cat:OpR X (binaryOp .Add) rCat:=by
 intro pins s σ H x y v u Q I rx ry h
 obtain⟨l,b,xs,zs,rfl,rfl,hH,hB,hz,q⟩:=h
 cases rx
 cases ry
 obtain⟨z,its,n,r,hl,e⟩:=I.lstM hH
 obtain⟨z2,its2,n2,r2,hl2,e2⟩:=I.lstM hB
 refine PySem.P.add_list e e2 ?_ (by rw[List.size_toArray,List.size_toArray];lia)
 have ea:its.toArray++its2.toArray=(its++its2).toArray:=by simp
 rw[ea]
 exact⟨.ref _,_,I.lnew (t':=s.toks) (r.append r2) (by rw[List.length_append];lia),rfl,q _ I.fresh⟩
noncomputable def rRep:R2:=fun x y H Q=>∃l k xs,x= .ref l/\y= .int k/\H l=some (.lst xs)/\ -(2^63)<=k/\k<2^63/\xs.length*k.toNat<=sizeLine/\
 ∀p,H p=none->Q (.ref p) (upd H p (.lst (List.replicate k.toNat xs).flatten))
theorem len_rep {α:Type}(xs:List α)(k:Nat):(List.replicate k xs).flatten.length=k*xs.length:=by
 induction k with
 |zero=>simp
 |succ k ih=>rw[List.replicate_succ,List.flatten_cons,List.length_append,ih,Nat.succ_mul,Nat.add_comm]
theorem op_rep:OpR X (binaryOp .Mult) rRep:=by
 intro pins s σ H x y v u Q I rx ry h
 obtain⟨l,k,xs,rfl,rfl,hH,h1,h2,hz,q⟩:=h
 cases rx
 obtain⟨t,rfl⟩:=ry
 obtain⟨z,its,n,r,hl,e⟩:=I.lstM hH
 have hlen:its.toArray.size*k.toNat<=sizeLine:=by rw[List.size_toArray,<-hl];exact hz
 have hcap:¬its.toArray.size*k.toNat>(2^63-1)/8:=by
  have:(sizeLine:Nat)<=(2^63-1)/8:=by decide
  lia
 have hfit:¬(!Builtin.List.listFitsIndex k)=true:=by
  rw[fitsIndex_both h1 h2]
  exact Bool.false_ne_true
 have hlong:¬Builtin.List.listTooLong (its.toArray.size*k.toNat)=true:=by
  rw[notLongL hlen]
  exact Bool.false_ne_true
 have hnew:List.foldl (fun x1 x2=>x1++x2) #[] (List.replicate (if its.toArray.isEmpty=true then 0 else k.toNat) its.toArray)=(List.replicate k.toNat its).flatten.toArray:=by
  have f0:∀m:Nat,List.foldl (fun x1 x2=>x1++x2) #[] (List.replicate m its.toArray)=(List.replicate m its).flatten.toArray:=fun m=>by
   have:=zmq its m []
   rw[List.nil_append]at this
   exact this
  rw[f0]
  cases its with
  |nil=>simp
  |cons a r'=>rw[if_neg (by simp)]
 refine wpAny_binaryOp_repeat_ref (T:="list") (U:="int") (by decide) ⟨_,e,rfl⟩ (fun s'=>typeIs_int s' k t) noFill_list_mul F.fills_int_mul F.slot_int_rmul repeat_list F.slot_int_index.lookup
  (call_meets F.slot_int_rmul (typeIs_int s k t) F.entry_int_rmul (F.args_int_rmul_2 _ _) (int___rmul___int_list k t l its.toArray n)
   ⟨e,rfl,⟨_,e,rfl⟩,call_meets F.slot_list_mul ⟨_,e,rfl⟩ F.entry_list_mul (F.args_list_mul_2 _ _) (AutoListH.list___mul___list_int_3 l its.toArray n k t hfit hcap hlong) ⟨e,?_⟩⟩)
 rw[hnew]
 exact⟨.ref _,_,I.lnew (t':=s.toks) (r.rep k.toNat) (by rw[len_rep,Nat.mul_comm];exact hz),rfl,q _ I.fresh⟩
end
end L2
namespace Att
open PyProof.Rows PySem PySem.Calls PySem.W
theorem zj7 {P:Params}{h:Heap}:∀(ns:List Int) (vs:List Value),WellAll P h vs (ns.map WData.int)->IntsAre vs ns:=by
 intro ns
 induction ns with
 |nil=>
  intro vs w
  rw[List.map_nil]at w
  cases w
  exact .nil
 |cons n ns ih=>
  intro vs w
  rw[List.map_cons]at w
  cases w with
  |cons a b=>
   cases a
   exact .cons _ _ (ih _ b)
theorem zp5 {l:OpenLaw}{n:Nat}(hn:l.most=some n){P:Params}{h:Heap}{args:List WData}{vals:List Value}
  (hpre:l.row.toRowW.claim.pre args=true) (hwl:WellAll P h vals args):
  ∃a vs ns,vals=[Value.ref a]/\args=[WData.list (ns.map WData.int)]/\h.get? a=some {cls:= .type "list",data:= .seq vs.toArray}/\IntsAre vs ns/\ns.length<=n:=by
 have hsh:WShape.hasAll [] args [.list .int]=true:=(pre_splitW hpre).1
 have hc:l.pre.holds [] {args:=args}=true:=(pre_splitW hpre).2
 obtain⟨d,r,rfl,h1,h2⟩:=hasAllW_cons hsh
 obtain rfl:=hasAllW_nil h2
 obtain⟨xs,rfl,h3⟩:=hasW_list h1
 obtain⟨ns,rfl⟩:=items_int h3
 have hlen:ns.length<=n:=by
  unfold OpenLaw.pre at hc
  have h4:(WTm.not (.lt (.lit (.int (n:Int))) (.len (.arg 0)))).holds [] {args:=[.list (ns.map .int)]}=true:=by
   have h4:=(holds_andW hc).1
   rw[hn]at h4
   exact h4
  have h5:=condW_of h4 (w_not (w_lt w_lit (w_len_list (w_arg rfl))))
  rw[List.length_map]at h5
  refine Nat.le_of_not_lt fun q=>?_
  have q':(n:Int)<((ns.length:Nat):Int):=by lia
  first
   |(rw[decide_eq_true q']at h5;exact absurd h5 (by decide))
   |(simp at h5;lia)
 cases hwl with
 |cons w1 w2=>
  cases w2
  cases w1 with
  |list ho hall=>exact⟨_,_,ns,rfl,rfl,ho,zj7 ns _ hall,hlen⟩
theorem zqv (l:OpenLaw)(args:List WData):l.row.toRowW.claim.post args (.bool true) args=true:=
 postW_of (r:=l.row.toRowW) (X:=(true==true))
  (show WShape.has [] (.bool true) .bool=true by first|rfl|decide|simp[WShape.has,WShape.arms,WShape.armsAll])
  (show(WTm.eq .res (.lit (.bool true))).value [] {args:=args,res:=some (.bool true),after:=args}=some (.bool (true==true))from w_eq_bool (w_res rfl) w_lit) rfl
theorem attach_call {l:OpenLaw}{n:Nat}{q:Program}{loose:List Str}{XP:(Str->Option Value)->Heap->Prop}{YP:World->Heap->Prop}{d:DefRec}
  (hn:l.most=some n) (hdf:d.params.defaults=[])
  (call : ∀ (w : World) (s₀ s₁ : Shared) (mg mb : Str -> Option Value) (fa : Addr) (o : Obj) (pm cd doc : Value) (a : Addr) (vs : List Value) (ns : List Int),
   Ground q loose [] XP w s₀ mg mb s₁.heap->YP w s₁.heap->
   s₁.heap.get? fa=some o->o.data= .func (docDef d.name d.params d.body d.scope pm cd doc)->s₁.heap.CodeRec cd d.name->mg d.name=some (.ref fa)->
   s₁.heap.get? a=some {cls:= .type "list",data:= .seq vs.toArray}->IntsAre vs ns->ns.length<=n->s₁.gens= #[]->
   codeAny (model l.prog w) callerA (.call (.ref fa) ⟨[.ref a],[]⟩) (fun r s'=>r= .ok (.ret (.bool true))/\OldK s₁.heap s'.heap/\s'.os=s₁.os/\AllBare s'.gens) s₁):
  WalkO q loose XP YP l.row.toRowW d [] (fun f vs=>PySem.call f vs):=by
 intro w s₀ s₁ mg mb G Y fa o pm cd doc dV kV ho hd hcd hD hmg hg args vals as hpre hlay hrd hwl hlo
 obtain rfl:dV= .none:=Dflts.none hD hdf
 obtain rfl:kV= .none:=Dflts.noKw hD
 obtain⟨a,vs,ns,rfl,rfl,hobj,hints,hlen⟩:=zp5 hn hpre hwl
 refine enter_call (codeAny_mono (call w s₀ s₁ mg mb fa o pm cd doc a vs ns G Y ho (fd_plain hd) hcd hmg hobj hints hlen hg) fun r s' hq=>?_)
 obtain⟨rfl,h2,h3,h4⟩:=hq
 exact⟨.inl ⟨.bool true,.bool true,[],rfl,fun _=>rfl,.bool true,zqv l _,fun _=>⟨List.Pairwise.nil,fun _ hm=>(nomatch hm)⟩⟩,h2,h3,h4⟩
end Att
namespace L2
open PyProof.Rows PySem PySem.Spec
theorem zhJ:∀{vs:List Value} {ns:List Int},IntsAre vs ns->Vals (ns.map V.int) vs
 |_,_,.nil=> .nil
 |_,_,.cons n t h=> .cons ⟨t,rfl⟩ (zhJ h)
noncomputable def zfL (s:Stmt):Arguments:=match s with
 | .FunctionDef _ a _ _ _ _ _ _ _ _=>a
 |_=>{posonlyargs:=[],args:=[],vararg:=none,kwonlyargs:=[],kw_defaults:=[],kwarg:=none,defaults:=[]}
noncomputable def zbW (s:Stmt):List Stmt:=match s with
 | .FunctionDef _ _ b _ _ _ _ _ _ _=>b
 |_=>[]
noncomputable def zaC (s:Stmt):Scope:=match s with
 | .FunctionDef _ _ _ _ _ _ sc _ _ _=>sc
 |_=>{kind:= .function,names:=[],isGenerator:=false,isCoroutine:=false}
noncomputable abbrev CX0:CXT:=fun _ _ _ _ _ _=>False
noncomputable abbrev E0:XK:=fun _ _ _=>False
theorem zp9 {X:Cx}:zoE CX0 X E0:=fun _ _ _ _ _ _ _ h=>h.elim
structure Fun (K:W.Frag) (x qual:Str) (st:Stmt) (f:Addr) (fd:FuncData):Prop where
 ex:∃(oc:Value) (od:Option Addr) (kV doc pm:Value) (an:Option Addr) (cdv ct:Value) (osl:Array (Option Value)),
  fd=W.fnOf x qual (zfL st) (zbW st) (zaC st) .none kV doc pm an cdv ct/\K.lookup f=some ⟨oc,od,.func fd,osl⟩/\W.codeIn K cdv qual=true
 kp:W.keepIn K (.ref f)=true
section
variable {P:Program} {w:World} {K:W.Frag} {mg:Str->Option Value} {base:Heap}
theorem Fun.ok {x qual:Str}{st:Stmt}{f:Addr}{fd:FuncData}{N ps:List Str}{k:Nat}{sp:Sp}(F:Fun K x qual st f fd)(S:FnScope N ps (zaC st))(len:∀vs H Q E,sp vs H Q E->vs.length=ps.length)
  (hbody : ∀ (cdv : Value) (A : Around) (outer : List Env) (s : Shared) (H : Hp) (vs : List V) (Q : VK) (E : XK), Room k (A.deeper (envOfC qual (zaC st) s.heap.objs.size f cdv)) -> sp vs H Q E ->
   ∃t,PSs (cxOf CX0 P w K mg base N qual (zaC st) f cdv A outer s H E).nox (zbW st) t/\t {nx:=fun _ H'=>Q .non H',rt:=Q} (start N vs) H):FnOk P w K mg base CX0 (k+1) f fd ps sp:=by
 obtain⟨oc,od,kV,doc,pm,an,cdv,ct,osl,rfl,lk,hcd⟩:=F.ex
 refine fn_of lk hcd S len fun A outer s H vs Q E hr hsp=>?_
 obtain⟨t,h,q⟩:=hbody cdv A outer s H vs Q E hr hsp
 exact⟨t,h.nox,q⟩
theorem Fun.binds {x qual:Str}{st:Stmt}{f:Addr}{fd:FuncData}{ps:List Str}(F:Fun K x qual st f fd)
  (h:∀(kV doc pm:Value) (an:Option Addr) (cdv ct:Value) (us:List Value),us.length=ps.length->bindArgs (W.fnOf x qual (zfL st) (zbW st) (zaC st) .none kV doc pm an cdv ct) ⟨us,[]⟩=pure (ps.zip us)):Binds K fd ps []:=by
 obtain⟨oc,od,kV,doc,pm,an,cdv,ct,osl,rfl,lk,hcd⟩:=F.ex
 exact .all (h kV doc pm an cdv ct)
theorem fun_mk {x qual:Str}{st:Stmt}{f:Addr}{oc:Value}{od an:Option Addr}{osl:Array (Option Value)}{kV doc pm cdv ct:Value}(l:K.lookup f=some ⟨oc,od,.func (W.fnOf x qual (zfL st) (zbW st) (zaC st) .none kV doc pm an cdv ct),osl⟩)
  (c:W.codeIn K cdv qual=true) (k:W.keepIn K (.ref f)=true):Fun K x qual st f (W.fnOf x qual (zfL st) (zbW st) (zaC st) .none kV doc pm an cdv ct):=⟨⟨oc,od,kV,doc,pm,an,cdv,ct,osl,rfl,l,c⟩,k⟩
end
noncomputable def Same (H H':Hp):Prop:=∀b o,H b=some o->H' b=some o
theorem Same.seq {K:W.Frag}{H H':Hp}{a:Addr}{xs:List V}(e:Same H H')(h:SqL K H a xs):SqL K H' a xs:=by
 rcases h with(h|⟨o,h⟩)|h
 ·exact .inl (.inl (e _ _ h))
 ·exact .inl (.inr ⟨o,e _ _ h⟩)
 ·exact .inr h
end L2
namespace M
open L2 PySem
variable {G G' H:Hp} {a p l:Addr} {o:Obj} {xs ys:List V} {ks:List (List Int)} {A A':List Addr} {K:W.Frag} {x v:V} {d:D} {ds es:List D} {i:Nat} {c:Ch} {t:T} {ov:Option (Option V)} {s:Sl} {ρ ρ':R} {e:Expr} {b:Bool} {f:D->D->Option D} {ma:ME} {op:Operator} {r:V->Hp->VK->Prop} {g:D->Option D}
inductive D where
 |non|bl (b:Bool)|int (i:Int)|str (x:Str)|lst (ds:List D)|tup (ds:List D)|scr (ns:List Int)|exc (c:Str)|dic (ks:List Int) (ds:List D)|dit (ks:List (List Int)) (ds:List D)
noncomputable def zlN (a C:Addr)(h:Heap):Prop:=∃o,h.get? a=some o/\o.cls= .ref C
noncomputable def kI (n:Int):Key:=Sum.inl n
noncomputable def kn (a:Addr)(o:Obj):HO:= .ext (fun h=>h.get? a=some o)
noncomputable def hI:Key->Int
 | .inl k=>hashInt k
 | .inr _=>0
noncomputable def DtN (o:Obj)(xs:List (List Key×Addr×Value)):Prop:=o.ExactDict/\(∃es ep,o.data= .dict es ep/\es.toList=xs.map fun x=>⟨reduceHash (Builtin.Tuple.tupleHashOf (x.1.map hI)),.ref x.2.1,x.2.2⟩)/\(xs.map (·.1)).Nodup
structure DtI (G:Hp) (a:Addr) (o:Obj) (xs:List (List Key×Addr×Value)) (ks:List (List Int)) (ys:List (List Key×V)):Prop where
 sys:(a==sysModules)=false
 dn:DtN o xs
 len:ys.length<=sizeLine
 key:ys.map (·.1)=ks.map (·.map kI)
 kt:Paired (fun(p:List Key×V) (q:List Key×Addr×Value)=>p.1=q.1/\G q.2.1=some (.tup (p.1.map kV))/\RelV p.2 q.2.2) ys xs
mutual
noncomputable def RepD (K:W.Frag)(G:Hp)(v:V):D->Prop
 | .non=>v= .non
 | .bl b=>v= .bl b
 | .int i=>v= .int i
 | .str x=>v= .str x
 | .lst ds=>∃a xs,v= .ref a/\G a=some (.lst xs)/\RepL K G xs ds
 | .tup ds=>∃a xs,v= .ref a/\G a=some (.tup xs)/\RepL K G xs ds
 | .scr ns=>∃a,v= .ref a/\SqL K G a (ns.map V.int)
 | .exc c=>∃a C,v= .ref a/\W.nsIn K mainGlobals c=some (some (.ref C))/\G a=some (.ext (zlN a C))
 | .dic ks ds=>∃a ys,v= .ref a/\Rd G a (.dK ys)/\ys.map (·.1)=ks.map kI/\RepL K G (ys.map (·.2)) ds
 | .dit ks ds=>∃a ys o xs,v= .ref a/\G a=some (kn a o)/\DtI G a o xs ks ys/\RepL K G (ys.map (·.2)) ds
noncomputable def RepL (K:W.Frag)(G:Hp)(xs:List V):List D->Prop
 |[]=>xs=[]
 |d::ds=>∃x ys,xs=x::ys/\RepD K G x d/\RepL K G ys ds
end
noncomputable def Fz (G H:Hp):Prop:=∀a o,G a=some o->H a=some o
theorem DtI.mono {xs:List (List Key×Addr×Value)}{ys:List (List Key×V)}(d:DtI G a o xs ks ys)(h:Fz G G'):DtI G' a o xs ks ys:={d with kt:=Paired.mapP d.kt fun _ _ z=>⟨z.1,h _ _ z.2.1,z.2.2⟩}
theorem Fz.refl (G:Hp):Fz G G:=fun _ _ h=>h
theorem Fz.trans {A B C:Hp}(h:Fz A B)(k:Fz B C):Fz A C:=fun a o e=>k a o (h a o e)
theorem Fz.free (h:Fz G H)(e:H p=none):G p=none:=by
 cases q:G p with
 |none=>rfl
 |some o=>rw[h p o q]at e;cases e
theorem Fz.new (e:G p=none)(o:HO):Fz G (upd G p o):=fun a u q=>by
 rw[zar (zax q e)];exact q
theorem Fz.upd2 (h:Fz G H)(p:Addr)(o:HO):Fz (upd G p o) (upd H p o):=fun a u q=>by
 by_cases e:a=p
 ·subst e;rw[zaA]at q ⊢;exact q
 ·rw[zar e]at q ⊢;exact h a u q
theorem Fz.right (h:Fz G H)(e:G p=none)(o:HO):Fz G (upd H p o):=fun a u q=>by
 rw[zar (zax q e)];exact h a u q
theorem Fz.sql {G H:Hp}(h:Fz G H)(q:SqL K G a xs):SqL K H a xs:=Same.seq (H:=G) (H':=H) h q
mutual
theorem RepD.mono (h:Fz G G'):∀{v:V} {d:D},RepD K G v d->RepD K G' v d
 |_,.non,e=>e
 |_,.bl _,e=>e
 |_,.int _,e=>e
 |_,.str _,e=>e
 |_,.lst _,⟨a,xs,e,q,r⟩=>⟨a,xs,e,h a _ q,RepL.mono h r⟩
 |_,.tup _,⟨a,xs,e,q,r⟩=>⟨a,xs,e,h a _ q,RepL.mono h r⟩
 |_,.scr _,⟨a,e,q⟩=>⟨a,e,h.sql q⟩
 |_,.exc _,⟨a,C,e,n,q⟩=>⟨a,C,e,n,h a _ q⟩
 |_,.dic _ _,⟨a,ys,e,q,f,r⟩=>⟨a,ys,e,q.imp (h a _) fun⟨o,z⟩=>⟨o,h a _ z⟩,f,RepL.mono h r⟩
 |_,.dit _ _,⟨a,ys,o,xs,e,q,f,r⟩=>⟨a,ys,o,xs,e,h a _ q,f.mono h,RepL.mono h r⟩
theorem RepL.mono (h:Fz G G'):∀{xs:List V} {ds:List D},RepL K G xs ds->RepL K G' xs ds
 |_,[],e=>e
 |_,_::_,⟨x,ys,e,q,r⟩=>⟨x,ys,e,RepD.mono h q,RepL.mono h r⟩
end
section
variable {K:W.Frag} {G:Hp}
theorem RepL.nil:RepL K G [] []:=rfl
theorem RepL.cons {x:V}{d:D}(h:RepD K G x d)(t:RepL K G xs ds):RepL K G (x::xs) (d::ds):=⟨x,xs,rfl,h,t⟩
theorem RepL.length:∀{xs:List V} {ds:List D},RepL K G xs ds->xs.length=ds.length
 |_,[],e=>by cases e;rfl
 |_,_::_,⟨x,ys,e,_,r⟩=>by subst e;rw[List.length_cons,List.length_cons,RepL.length r]
theorem RepL.get:∀{xs:List V} {ds:List D} {i:Nat} {d:D},RepL K G xs ds->ds[i]? =some d->∃x,xs[i]? =some x/\RepD K G x d
 |_,[],_,_,_,h=>by simp at h
 |_,_::_,0,_,⟨x,ys,e,q,r⟩,h=>by subst e;simp at h;subst h;exact⟨x,rfl,q⟩
 |_,_::_,i+1,_,⟨x,ys,e,q,r⟩,h=>by
  subst e
  obtain⟨y,h1,h2⟩:=RepL.get (i:=i) r (by simpa using h)
  exact⟨y,by simpa using h1,h2⟩
theorem RepL.append:∀{xs ys:List V} {ds es:List D},RepL K G xs ds->RepL K G ys es->RepL K G (xs++ys) (ds++es)
 |_,_,[],_,e,r=>by cases e;exact r
 |_,_,_::_,_,⟨x,zs,e,q,r⟩,s=>by subst e;exact⟨x,zs++_,rfl,q,RepL.append r s⟩
theorem RepL.snoc (h:RepL K G xs ds)(q:RepD K G x d):RepL K G (xs++[x]) (ds++[d]):=h.append (.cons q .nil)
theorem RepL.take:∀{xs:List V} {ds:List D} (n:Nat),RepL K G xs ds->RepL K G (xs.take n) (ds.take n)
 |_,_,0,_=>by simp;exact .nil
 |_,[],n+1,e=>by cases e;exact .nil
 |_,_::_,n+1,⟨x,zs,e,q,r⟩=>by subst e;exact⟨x,zs.take n,rfl,q,RepL.take n r⟩
theorem RepL.drop:∀{xs:List V} {ds:List D} (n:Nat),RepL K G xs ds->RepL K G (xs.drop n) (ds.drop n)
 |_,_,0,r=>by simpa using r
 |_,[],n+1,e=>by cases e;exact .nil
 |_,_::_,n+1,⟨x,zs,e,q,r⟩=>by subst e;exact RepL.drop n r
theorem RepL.set:∀{xs:List V} {ds:List D} (i:Nat) {x:V} {d:D},RepL K G xs ds->RepD K G x d->RepL K G (xs.set i x) (ds.set i d)
 |_,[],_,_,_,e,_=>by cases e;exact .nil
 |_,_::_,0,_,_,⟨x,zs,e,q,r⟩,h=>by subst e;exact⟨_,zs,rfl,h,r⟩
 |_,_::_,i+1,_,_,⟨x,zs,e,q,r⟩,h=>by subst e;exact⟨x,_,rfl,q,RepL.set i r h⟩
theorem RepL.rep (h:RepL K G xs ds):∀k:Nat,RepL K G (List.replicate k xs).flatten (List.replicate k ds).flatten
 |0=> .nil
 |k+1=>by rw[List.replicate_succ,List.replicate_succ,List.flatten_cons,List.flatten_cons];exact h.append (RepL.rep h k)
theorem RepL.ints:∀(ns:List Int),RepL K G (ns.map V.int) (ns.map D.int)
 |[]=> .nil
 |n::ns=>⟨.int n,ns.map V.int,rfl,rfl,RepL.ints ns⟩
theorem RepL.ints_eq:∀{ns:List Int} {xs:List V},RepL K G xs (ns.map D.int)->xs=ns.map V.int
 |[],_,e=>e
 |n::ns,_,⟨x,ys,e,q,r⟩=>by subst e;cases(show x=V.int n from q);rw[RepL.ints_eq r];rfl
theorem RepL.at {i:Int}(h:RepL K G xs ds)(e:atI ds i=some d):∃x,atI xs i=some x/\RepD K G x d:=by
 unfold atI at e ⊢
 rw[h.length]
 cases q:ixN ds.length i with
 |none=>rw[q]at e;cases e
 |some j=>rw[q]at e;exact h.get e
end
inductive Ch where
 |d (x:D)|l (xs:List D)|t (xss:List (List D))
inductive T where
 |lst (cs:List Ch)|tup (cs:List Ch)|ins (c:Str) (fs:List (Str×Ch))|dic (ks:List Int) (ds:List D)|dit (ks:List (List Int)) (ds:List D)
inductive Sl where
 |emp|val (d:D)|own (ds:List D)|par (ds:List D)|two (ds es:List D)|tre (t:T)|ptr (t:T)
noncomputable abbrev R:=List Sl
noncomputable def Sl.items:Sl->Option (List D)
 | .own ds=>some ds
 | .par ds=>some ds
 |_=>none
structure Bs where
 G:Hp
 H:Hp
 O:List (Nat×Addr)
noncomputable def RepTb (K:W.Frag)(G H:Hp):List V->List (List D)->List Addr->Prop
 |[],[],A=>A=[]
 |x::xs,ds::dss,A=>∃r ys A2,x= .ref r/\H r=some (.lst ys)/\RepL K G ys ds/\RepTb K G H xs dss A2/\A=r::A2
 |_,_,_=>False
noncomputable def RepC (K:W.Frag)(G H:Hp)(x:V):Ch->List Addr->Prop
 | .d y,A=>RepD K G x y/\A=[]
 | .l ds,A=>∃l xs,x= .ref l/\H l=some (.lst xs)/\RepL K G xs ds/\A=[l]
 | .t xss,A=>∃p xs A',x= .ref p/\H p=some (.lst xs)/\RepTb K G H xs xss A'/\A=p::A'
noncomputable def RepCs (K:W.Frag)(G H:Hp):List V->List Ch->List Addr->Prop
 |[],[],A=>A=[]
 |x::xs,c::cs,A=>∃A1 A2,RepC K G H x c A1/\RepCs K G H xs cs A2/\A=A1++A2
 |_,_,_=>False
noncomputable def RepT (K:W.Frag)(G H:Hp)(v:V):T->List Addr->Prop
 | .lst cs,A=>∃p xs A',v= .ref p/\H p=some (.lst xs)/\RepCs K G H xs cs A'/\A=p::A'
 | .tup cs,A=>∃p xs A',v= .ref p/\H p=some (.tup xs)/\RepCs K G H xs cs A'/\A=p::A'
 | .ins c fs,A=>∃p C dx vs A',v= .ref p/\W.nsIn K mainGlobals c=some (some (.ref C))/\H p=some (.ins C dx vs)/\H dx=some (.own p)/\vs.map (·.1)=fs.map (·.1)/\RepCs K G H (vs.map (·.2)) (fs.map (·.2)) A'/\A=p::dx::A'
 | .dic ks ds,A=>∃p ys,v= .ref p/\H p=some (.dK ys)/\ys.map (·.1)=ks.map kI/\RepL K G (ys.map (·.2)) ds/\A=[p]
 | .dit ks ds,A=>∃p ys o xs,v= .ref p/\H p=some (kn p o)/\DtI G p o xs ks ys/\RepL K G (ys.map (·.2)) ds/\A=[p]
section
variable {K:W.Frag} {G G' H H':Hp}
theorem RepTb.move:∀{xs:List V} {dss:List (List D)} {A:List Addr},RepTb K G H xs dss A->Fz G G'->(∀a∈A,H' a=H a)->RepTb K G' H' xs dss A
 |[],[],_,h,_,_=>h
 |x::xs,ds::dss,A,⟨r,ys,A2,e1,e2,e3,e4,e5⟩,hg,hh=>⟨r,ys,A2,e1,by rw[hh r (by rw[e5];simp)];exact e2,e3.mono hg,e4.move hg fun a m=>hh a (by rw[e5];simp[m]),e5⟩
 |[],_::_,_,h,_,_=>h.elim
 |_::_,[],_,h,_,_=>h.elim
theorem RepTb.det:∀{xs:List V} {dss:List (List D)} {A A':List Addr},RepTb K G H xs dss A->RepTb K G' H' xs dss A'->A=A'
 |[],[],_,_,h,h'=>by rw[show _=[]from h,show _=[]from h']
 |x::xs,ds::dss,_,_,⟨r,ys,A2,e1,_,_,e4,e5⟩,⟨r',ys',A2',e1',_,_,e4',e5'⟩=>by
  rw[e1]at e1';cases e1'
  rw[e5,e5',e4.det e4']
 |[],_::_,_,_,h,_=>h.elim
 |_::_,[],_,_,h,_=>h.elim
theorem RepTb.here:∀{xs:List V} {dss:List (List D)} {A:List Addr},RepTb K G H xs dss A->∀{a:Addr},a∈A->∃xs,H a=some (.lst xs)
 |[],[],_,h,a,m=>by rw[show _=[]from h]at m;cases m
 |x::xs,ds::dss,_,⟨r,ys,A2,e1,e2,_,e4,e5⟩,a,m=>by
  rw[e5]at m
  rcases List.mem_cons.mp m with rfl|m
  ·exact⟨ys,e2⟩
  ·exact e4.here m
 |[],_::_,_,h,_,_=>h.elim
 |_::_,[],_,h,_,_=>h.elim
theorem RepC.move (h:RepC K G H x c A)(hg:Fz G G')(hh:∀a∈A,H' a=H a):RepC K G' H' x c A:=by
 cases c with
 |d y=>exact⟨h.1.mono hg,h.2⟩
 |l ds=>obtain⟨l,xs,e,q,r,rfl⟩:=h;exact⟨l,xs,e,by rw[hh l (by simp)];exact q,r.mono hg,rfl⟩
 |t xss=>obtain⟨p,xs,A',e,q,r,rfl⟩:=h;exact⟨p,xs,A',e,by rw[hh p (by simp)];exact q,r.move hg fun a m=>hh a (by simp[m]),rfl⟩
theorem RepCs.move:∀{xs:List V} {cs:List Ch} {A:List Addr},RepCs K G H xs cs A->Fz G G'->(∀a∈A,H' a=H a)->RepCs K G' H' xs cs A
 |[],[],_,h,_,_=>h
 |x::xs,c::cs,A,⟨A1,A2,h1,h2,e⟩,hg,hh=>⟨A1,A2,h1.move hg fun a m=>hh a (by rw[e];exact List.mem_append_left _ m),h2.move hg fun a m=>hh a (by rw[e];exact List.mem_append_right _ m),e⟩
 |[],_::_,_,h,_,_=>h.elim
 |_::_,[],_,h,_,_=>h.elim
theorem RepT.move (h:RepT K G H v t A)(hg:Fz G G')(hh:∀a∈A,H' a=H a):RepT K G' H' v t A:=by
 cases t with
 |lst cs=>obtain⟨p,xs,A',e,q,r,rfl⟩:=h;exact⟨p,xs,A',e,by rw[hh p (by simp)];exact q,r.move hg fun a m=>hh a (by simp[m]),rfl⟩
 |tup cs=>obtain⟨p,xs,A',e,q,r,rfl⟩:=h;exact⟨p,xs,A',e,by rw[hh p (by simp)];exact q,r.move hg fun a m=>hh a (by simp[m]),rfl⟩
 |ins c fs=>obtain⟨p,C,dx,vs,A',e,n,q,q2,f,r,rfl⟩:=h;exact⟨p,C,dx,vs,A',e,n,by rw[hh p (by simp)];exact q,by rw[hh dx (by simp)];exact q2,f,r.move hg fun a m=>hh a (by simp[m]),rfl⟩
 |dic ks ds=>obtain⟨p,ys,e,q,f,r,rfl⟩:=h;exact⟨p,ys,e,by rw[hh p (by simp)];exact q,f,r.mono hg,rfl⟩
 |dit ks ds=>obtain⟨p,ys,o,xs,e,q,f,r,rfl⟩:=h;exact⟨p,ys,o,xs,e,by rw[hh p (by simp)];exact q,f.mono hg,r.mono hg,rfl⟩
theorem RepC.det (h:RepC K G H x c A)(h':RepC K G' H' x c A')(hh:∀a∈A,H' a=H a):A=A':=by
 cases c with
 |d y=>rw[h.2,h'.2]
 |l ds=>obtain⟨l,xs,e,_,_,rfl⟩:=h;obtain⟨l',xs',e',_,_,rfl⟩:=h';rw[e]at e';cases e';rfl
 |t xss=>
  obtain⟨p,xs,B,e,q,r,rfl⟩:=h;obtain⟨p',xs',B',e',q',r',rfl⟩:=h'
  rw[e]at e';cases e'
  rw[hh p (by simp),q]at q';cases q'
  rw[r.det r']
theorem RepCs.det:∀{xs:List V} {cs:List Ch} {A A':List Addr},RepCs K G H xs cs A->RepCs K G' H' xs cs A'->(∀a∈A,H' a=H a)->A=A'
 |[],[],_,_,h,h',_=>by rw[show _=[]from h,show _=[]from h']
 |x::xs,c::cs,_,_,⟨A1,A2,h1,h2,e⟩,⟨B1,B2,k1,k2,e'⟩,hh=>by rw[e,e',h1.det k1 fun a m=>hh a (by rw[e];exact List.mem_append_left _ m),h2.det k2 fun a m=>hh a (by rw[e];exact List.mem_append_right _ m)]
 |[],_::_,_,_,h,_,_=>h.elim
 |_::_,[],_,_,h,_,_=>h.elim
theorem RepT.det (h:RepT K G H v t A)(h':RepT K G' H' v t A')(hh:∀a∈A,H' a=H a):A=A':=by
 cases t with
 |lst cs=>
  obtain⟨p,xs,B,e,q,r,rfl⟩:=h;obtain⟨p',xs',B',e',q',r',rfl⟩:=h'
  rw[e]at e';cases e'
  rw[hh p (by simp),q]at q';cases q'
  rw[r.det r' fun a m=>hh a (by simp[m])]
 |tup cs=>
  obtain⟨p,xs,B,e,q,r,rfl⟩:=h;obtain⟨p',xs',B',e',q',r',rfl⟩:=h'
  rw[e]at e';cases e'
  rw[hh p (by simp),q]at q';cases q'
  rw[r.det r' fun a m=>hh a (by simp[m])]
 |ins c fs=>
  obtain⟨p,C,dx,vs,B,e,n,q,q2,f,r,rfl⟩:=h;obtain⟨p',C',dx',vs',B',e',n',q',q2',f',r',rfl⟩:=h'
  rw[e]at e';cases e'
  rw[hh p (by simp),q]at q';cases q'
  rw[r.det r' fun a m=>hh a (by simp[m])]
 |dic ks ds=>obtain⟨p,ys,e,q,f,r,rfl⟩:=h;obtain⟨p',ys',e',q',f',r',rfl⟩:=h';rw[e]at e';cases e';rfl
 |dit ks ds=>obtain⟨p,ys,o,xs,e,q,f,r,rfl⟩:=h;obtain⟨p',ys',o',xs',e',q',f',r',rfl⟩:=h';rw[e]at e';cases e';rfl
theorem RepC.here (h:RepC K G H x c A)(m:a∈A):∃xs,H a=some (.lst xs):=by
 cases c with
 |d y=>rw[h.2]at m;cases m
 |l ds=>obtain⟨l,xs,_,q,_,rfl⟩:=h;simp at m;subst m;exact⟨xs,q⟩
 |t xss=>
  obtain⟨p,xs,A',_,q,r,rfl⟩:=h
  rcases List.mem_cons.mp m with rfl|m
  ·exact⟨xs,q⟩
  ·exact r.here m
theorem RepCs.here:∀{xs:List V} {cs:List Ch} {A:List Addr},RepCs K G H xs cs A->∀{a:Addr},a∈A->∃xs,H a=some (.lst xs)
 |[],[],_,h,a,m=>by rw[show _=[]from h]at m;cases m
 |x::xs,c::cs,_,⟨A1,A2,h1,h2,e⟩,a,m=>by
  rw[e]at m
  rcases List.mem_append.mp m with m|m
  ·exact h1.here m
  ·exact h2.here m
 |[],_::_,_,h,_,_=>h.elim
 |_::_,[],_,h,_,_=>h.elim
theorem RepT.here (h:RepT K G H v t A)(m:a∈A):H a≠none:=by
 cases t with
 |lst cs=>
  obtain⟨p,xs,B,e,q,r,rfl⟩:=h
  rcases List.mem_cons.mp m with rfl|m
  ·rw[q];simp
  ·obtain⟨ys,z⟩:=r.here m;rw[z];simp
 |tup cs=>
  obtain⟨p,xs,B,e,q,r,rfl⟩:=h
  rcases List.mem_cons.mp m with rfl|m
  ·rw[q];simp
  ·obtain⟨ys,z⟩:=r.here m;rw[z];simp
 |ins c fs=>
  obtain⟨p,C,dx,vs,B,e,n,q,q2,f,r,rfl⟩:=h
  rcases List.mem_cons.mp m with rfl|m
  ·rw[q];simp
  rcases List.mem_cons.mp m with rfl|m
  ·rw[q2];simp
  ·obtain⟨ys,z⟩:=r.here m;rw[z];simp
 |dic ks ds=>obtain⟨p,ys,e,q,f,r,rfl⟩:=h;simp at m;subst m;rw[q];simp
 |dit ks ds=>obtain⟨p,ys,o,xs,e,q,f,r,rfl⟩:=h;simp at m;subst m;rw[q];simp
end
noncomputable def SlotOk (K:W.Frag)(B:Bs)(G H:Hp)(i:Nat)(ov:Option (Option V)):Sl->Prop
 | .emp=>True
 | .two _ _=>True
 | .val d=>∃v,ov=some (some v)/\RepD K G v d
 | .own ds=>∃l xs,ov=some (some (.ref l))/\G l=none/\H l=some (.lst xs)/\RepL K G xs ds/\B.H l=none
 | .par ds=>∃l xs,ov=some (some (.ref l))/\G l=none/\H l=some (.lst xs)/\RepL K G xs ds/\(i,l)∈B.O
 | .tre t=>∃v A,ov=some (some v)/\RepT K G H v t A/\A.Nodup/\∀a∈A,G a=none/\B.H a=none
 | .ptr t=>∃v A,ov=some (some v)/\RepT K G H v t A/\(A.Nodup/\∃p,v= .ref p/\(i+4096,p)∈B.O)/\∀a∈A,G a=none/\(i,a)∈B.O
noncomputable def Wr (ρ:R)(i:Nat):Prop:=∃s ds,ρ[i]? =some s/\s.items=some ds
noncomputable def OwS (K:W.Frag)(G H:Hp)(ov:Option (Option V))(a:Addr):Sl->Prop
 | .own _=>ov=some (some (.ref a))
 | .par _=>ov=some (some (.ref a))
 | .tre t=>∃v A,ov=some (some v)/\RepT K G H v t A/\a∈A
 | .ptr t=>∃v A,ov=some (some v)/\RepT K G H v t A/\a∈A
 |_=>False
noncomputable def Nw (K:W.Frag)(G H:Hp)(σ:St)(ρ:R)(a:Addr):Prop:=∀(i:Nat) (s:Sl),ρ[i]? =some s->¬OwS K G H σ[i]? a s
structure SI (K:W.Frag) (B:Bs) (G H:Hp) (σ:St) (ρ:R):Prop where
 fz:Fz G H
 g0:Fz B.G G
 new:∀b o,G b=some o->B.G b≠none\/B.H b=none
 keep:∀b o,B.H b=some o->(∀i,(i,b)∉B.O)->H b=some o
 there:∀b,H b=none->B.H b=none
 len:σ.length=ρ.length
 ob:∀i b,(i,b)∈B.O->B.H b≠none
 slot:∀i s,ρ[i]? =some s->SlotOk K B G H i σ[i]? s
 dis:∀(i j:Nat) (s t:Sl) (a:Addr),i≠j->ρ[i]? =some s->ρ[j]? =some t->OwS K G H σ[i]? a s->¬OwS K G H σ[j]? a t
section
variable {K:W.Frag} {B:Bs} {G G' H H':Hp} {σ:St} {ρ:R}
theorem SlotOk.own (h:SlotOk K B G H i ov s)(w:OwS K G H ov a s):G a=none/\H a≠none/\(B.H a=none\/(i,a)∈B.O):=by
 cases s with
 |emp=>exact w.elim
 |two _ _=>exact w.elim
 |val d=>exact w.elim
 |own ds=>obtain⟨l,xs,e,g,k,r,n⟩:=h;rw[show ov=_ from w]at e;cases e;exact⟨g,by rw[k];simp,.inl n⟩
 |par ds=>obtain⟨l,xs,e,g,k,r,n⟩:=h;rw[show ov=_ from w]at e;cases e;exact⟨g,by rw[k];simp,.inr n⟩
 |tre t=>
  obtain⟨v,A,e,r,nd,f⟩:=h
  obtain⟨v',A',e',r',m⟩:=w
  rw[e]at e';cases e'
  rw[<-r.det r' fun _ _=>rfl]at m
  exact⟨(f a m).1,r.here m,.inl (f a m).2⟩
 |ptr t=>
  obtain⟨v,A,e,r,nd,f⟩:=h
  obtain⟨v',A',e',r',m⟩:=w
  rw[e]at e';cases e'
  rw[<-r.det r' fun _ _=>rfl]at m
  exact⟨(f a m).1,r.here m,.inr (f a m).2⟩
theorem SlotOk.mono (h:SlotOk K B G H i ov s)(hg:Fz G G')(hw:∀a,OwS K G H ov a s->G a=none->H a≠none->G' a=none/\H' a=H a):SlotOk K B G' H' i ov s:=by
 have ow:=fun a (w:OwS K G H ov a s)=>h.own w
 cases s with
 |emp=>trivial
 |two _ _=>trivial
 |val d=>obtain⟨v,e,r⟩:=h;exact⟨v,e,r.mono hg⟩
 |own ds=>
  obtain⟨l,xs,e,g,k,r,n⟩:=h
  obtain⟨h1,h2⟩:=hw l e g (by rw[k];simp)
  exact⟨l,xs,e,h1,h2.trans k,r.mono hg,n⟩
 |par ds=>
  obtain⟨l,xs,e,g,k,r,n⟩:=h
  obtain⟨h1,h2⟩:=hw l e g (by rw[k];simp)
  exact⟨l,xs,e,h1,h2.trans k,r.mono hg,n⟩
 |tre t=>
  obtain⟨v,A,e,r,nd,f⟩:=h
  have w:=fun a m=>hw a ⟨v,A,e,r,m⟩ (f a m).1 (r.here m)
  exact⟨v,A,e,r.move hg fun a m=>(w a m).2,nd,fun a m=>⟨(w a m).1,(f a m).2⟩⟩
 |ptr t=>
  obtain⟨v,A,e,r,nd,f⟩:=h
  have w:=fun a m=>hw a ⟨v,A,e,r,m⟩ (f a m).1 (r.here m)
  exact⟨v,A,e,r.move hg fun a m=>(w a m).2,nd,fun a m=>⟨(w a m).1,(f a m).2⟩⟩
theorem SlotOk.back (h:SlotOk K B G H i ov s)(hw:∀a,OwS K G H ov a s->G a=none->H a≠none->G' a=none/\H' a=H a)(w:OwS K G' H' ov a s):OwS K G H ov a s:=by
 cases s with
 |emp=>exact w
 |two _ _=>exact w
 |val d=>exact w
 |own ds=>exact w
 |par ds=>exact w
 |tre t=>
  obtain⟨v,A,e,r,nd,f⟩:=h
  obtain⟨v',A',e',r',m⟩:=w
  rw[e]at e';cases e'
  have q:=r.det r' fun a m=>(hw a ⟨v,A,e,r,m⟩ (f a m).1 (r.here m)).2
  subst q
  exact⟨v,A,e,r,m⟩
 |ptr t=>
  obtain⟨v,A,e,r,nd,f⟩:=h
  obtain⟨v',A',e',r',m⟩:=w
  rw[e]at e';cases e'
  have q:=r.det r' fun a m=>(hw a ⟨v,A,e,r,m⟩ (f a m).1 (r.here m)).2
  subst q
  exact⟨v,A,e,r,m⟩
theorem SI.move (I:SI K B G H σ ρ)(fz:Fz G' H')(fg:Fz G G')(new:∀b o,G' b=some o->B.G b≠none\/B.H b=none)(keep:∀b o,B.H b=some o->(∀i,(i,b)∉B.O)->H' b=some o)(there:∀b,H' b=none->B.H b=none)
  (ow:∀(i:Nat) (s:Sl) (a:Addr),ρ[i]? =some s->OwS K G H σ[i]? a s->G a=none->H a≠none->G' a=none/\H' a=H a):SI K B G' H' σ ρ where
 fz:=fz
 g0:=I.g0.trans fg
 new:=new
 keep:=keep
 there:=there
 len:=I.len
 ob:=I.ob
 slot:=fun i s e=>(I.slot i s e).mono fg fun a w g h=>ow i s a e w g h
 dis:=fun i j s t a n e1 e2 w1 w2=>I.dis i j s t a n e1 e2 ((I.slot i s e1).back (fun a w g h=>ow i s a e1 w g h) w1) ((I.slot j t e2).back (fun a w g h=>ow j t a e2 w g h) w2)
theorem SI.chg (I:SI K B G H σ ρ){ov:Option V}{s':Sl}(fz:Fz G' H')(fg:Fz G G')(new:∀b o,G' b=some o->B.G b≠none\/B.H b=none)(keep:∀b o,B.H b=some o->(∀i,(i,b)∉B.O)->H' b=some o)(there:∀b,H' b=none->B.H b=none)
  (ow:∀(j:Nat) (s:Sl) (a:Addr),j≠i->ρ[j]? =some s->OwS K G H σ[j]? a s->G a=none->H a≠none->G' a=none/\H' a=H a/\¬OwS K G' H' (some ov) a s') (sl:SlotOk K B G' H' i (some ov) s'):SI K B G' H' (σ.set i ov) (ρ.set i s'):=by
 have atI:∀{s},(ρ.set i s')[i]? =some s->s=s'/\(σ.set i ov)[i]? =some ov:=fun{s} e=>by
  rw[List.getElem?_set,if_pos rfl]at e ⊢
  split at e
  ·rename_i h;cases e;rw[if_pos (by rw[I.len];exact h)];exact⟨rfl,rfl⟩
  ·cases e
 have atJ:∀{j s},j≠i->(ρ.set i s')[j]? =some s->ρ[j]? =some s/\(σ.set i ov)[j]? =σ[j]?:=fun{j s} n e=>by
  rw[List.getElem?_set_ne (Ne.symm n)]at e ⊢
  exact⟨e,rfl⟩
 refine⟨fz,I.g0.trans fg,new,keep,there,by rw[List.length_set,List.length_set];exact I.len,I.ob,fun j s e=>?_,fun j k s t a n e1 e2 w1 w2=>?_⟩
 ·by_cases z:j=i
  ·subst z;obtain⟨rfl,q⟩:=atI e;rw[q];exact sl
  ·obtain⟨e1,q⟩:=atJ z e
   rw[q]
   exact(I.slot j s e1).mono fg fun a w g h=>⟨(ow j s a z e1 w g h).1,(ow j s a z e1 w g h).2.1⟩
 ·have one:∀j s,j≠i->(ρ.set i s')[j]? =some s->OwS K G' H' (σ.set i ov)[j]? a s->ρ[j]? =some s/\OwS K G H σ[j]? a s:=fun j s z e w=>by
   obtain⟨e1,q⟩:=atJ z e
   rw[q]at w
   exact⟨e1,(I.slot j s e1).back (fun a w g h=>⟨(ow j s a z e1 w g h).1,(ow j s a z e1 w g h).2.1⟩) w⟩
  by_cases z1:j=i
  ·subst z1
   obtain⟨rfl,q1⟩:=atI e1
   obtain⟨f2,w2⟩:=one k t (Ne.symm n) e2 w2
   obtain⟨o1,o2,_⟩:=(I.slot k t f2).own w2
   rw[q1]at w1
   exact(ow k t a (Ne.symm n) f2 w2 o1 o2).2.2 w1
  ·have p1:=one j s z1 e1 w1
   by_cases z2:k=i
   ·subst z2
    obtain⟨rfl,q2⟩:=atI e2
    obtain⟨o1,o2,_⟩:=(I.slot j s p1.1).own p1.2
    rw[q2]at w2
    exact(ow j s a z1 p1.1 p1.2 o1 o2).2.2 w2
   ·have p2:=one k t z2 e2 w2
    exact I.dis j k s t a n p1.1 p2.1 p1.2 p2.2
theorem SI.nw (I:SI K B G H σ ρ)(hp:H p=none):Nw K G H σ ρ p:=fun i s e w=>((I.slot i s e).own w).2.1 hp
theorem SI.nw_move (I:SI K B G H σ ρ)(n:Nw K G H σ ρ p)(ow:∀(i:Nat) (s:Sl) (a:Addr),ρ[i]? =some s->OwS K G H σ[i]? a s->G a=none->H a≠none->G' a=none/\H' a=H a):Nw K G' H' σ ρ p:=
 fun i s e w=>n i s e ((I.slot i s e).back (fun a w g h=>ow i s a e w g h) w)
theorem SI.allocF (I:SI K B G H σ ρ)(hp:H p=none)(o:HO):SI K B (upd G p o) (upd H p o) σ ρ:=
 I.move (I.fz.upd2 p o) (Fz.new (I.fz.free hp) o) (fun b u e=>by
  by_cases q:b=p
  ·subst q;exact .inr (I.there b hp)
  ·rw[zar q]at e;exact I.new b u e) (fun b u e n=>by
  have q:=I.keep b u e n
  rw[zar (zax q hp)];exact q) (fun b e=>by
  by_cases q:b=p
  ·subst q;rw[zaA]at e;cases e
  ·rw[zar q]at e;exact I.there b e) (fun i s a _ _ g h=>by
  have q:a≠p:=fun z=>h (by rw[z];exact hp)
  rw[zar q,zar q];exact⟨g,rfl⟩)
theorem SI.allocO (I:SI K B G H σ ρ)(hp:H p=none)(o:HO):SI K B G (upd H p o) σ ρ:=
 I.move (I.fz.right (I.fz.free hp) o) (Fz.refl G) I.new (fun b u e n=>by
  have q:=I.keep b u e n
  rw[zar (zax q hp)];exact q) (fun b e=>by
  by_cases q:b=p
  ·subst q;rw[zaA]at e;cases e
  ·rw[zar q]at e;exact I.there b e) (fun i s a _ _ g h=>by
  have q:a≠p:=fun z=>h (by rw[z];exact hp)
  rw[zar q];exact⟨g,rfl⟩)
theorem SI.frz (I:SI K B G H σ ρ){o:HO}(hl:H l=some o)(hB:B.H l=none)(hn:Nw K G H σ ρ l)(hg:G l=none):SI K B (upd G l o) H σ ρ:=
 I.move (fun a u q=>by
  by_cases e:a=l
  ·subst e;rw[zaA]at q;cases q;exact hl
  ·rw[zar e]at q;exact I.fz a u q) (Fz.new hg o) (fun b u e=>by
  by_cases q:b=l
  ·subst q;exact .inr hB
  ·rw[zar q]at e;exact I.new b u e) I.keep I.there (fun i s a e w g _=>by
  refine⟨?_,rfl⟩
  rw[zar (fun z=>?_)]
  ·exact g
  ·subst z;exact hn i s e w)
theorem SI.set (I:SI K B G H σ ρ)(h:RepD K G v d):SI K B G H (σ.set i (some v)) (ρ.set i (.val d)):=
 I.chg I.fz (Fz.refl G) I.new I.keep I.there (fun _ _ _ _ _ _ g _=>⟨g,rfl,id⟩) ⟨v,rfl,h⟩
theorem SI.setO (I:SI K B G H σ ρ)(hg:G l=none)(hl:H l=some (.lst xs))(h:RepL K G xs ds)(hB:B.H l=none)(hn:Nw K G H σ ρ l):
  SI K B G H (σ.set i (some (.ref l))) (ρ.set i (.own ds)):=
 I.chg I.fz (Fz.refl G) I.new I.keep I.there (fun j s a _ e w g _=>⟨g,rfl,fun z=>by cases(show some (some (V.ref l))=some (some (.ref a))from z);exact hn j s e w⟩) ⟨l,xs,rfl,hg,hl,h,hB⟩
theorem SI.wr (I:SI K B G H σ ρ)(e:ρ[i]? =some s)(q:s.items=some ds):∃l xs,σ[i]? =some (some (.ref l))/\G l=none/\H l=some (.lst xs)/\RepL K G xs ds:=by
 have h:=I.slot i s e
 cases s with
 |emp=>cases q
 |two _ _=>cases q
 |val d=>cases q
 |tre _=>cases q
 |ptr _=>cases q
 |own es=>cases q;obtain⟨l,xs,h1,h2,h3,h4,_⟩:=h;exact⟨l,xs,h1,h2,h3,h4⟩
 |par es=>cases q;obtain⟨l,xs,h1,h2,h3,h4,_⟩:=h;exact⟨l,xs,h1,h2,h3,h4⟩
noncomputable def Sl.put (s:Sl)(ds:List D):Sl:=match s with
 | .own _=> .own ds
 | .par _=> .par ds
 |s=>s
theorem zgw (q:s.items=some ds):OwS K G H ov a s↔ov=some (some (.ref a)):=by
 cases s with
 |own _=>exact Iff.rfl
 |par _=>exact Iff.rfl
 |_=>cases q
theorem zm0 (q:s.items=some ds)(es:List D):(s.put es).items=some es:=by
 cases s with
 |own _=>rfl
 |par _=>rfl
 |_=>cases q
theorem zpI {α:Type}{l:List α}{x:α}(e:l[i]? =some x):l.set i x=l:=by
 obtain⟨h,rfl⟩:=List.getElem?_eq_some_iff.mp e
 exact List.set_getElem_self h
theorem SI.chgW (I:SI K B G H σ ρ){i:Nat}(e:ρ[i]? =some s)(q:s.items=some ds)(hl:σ[i]? =some (some (.ref l)))(fz:Fz G' H')(fg:Fz G G')(nw:∀b o,G' b=some o->G b≠none\/H b=none)
  (kp:∀b o,b≠l->H b=some o->H' b=some o) (gl:G' l=none) (hl':H' l=some (.lst ys)) (r:RepL K G' ys es):SI K B G' H' σ (ρ.set i (s.put es)):=by
 obtain⟨l',xs,e1,e2,e3,e4⟩:=I.wr e q
 rw[hl]at e1;cases e1
 have sl:=I.slot i s e
 have nb:∀b o,B.H b=some o->(∀i,(i,b)∉B.O)->b≠l:=fun b o h1 h2 z=>by
  subst z
  rcases(sl.own ((zgw q).mpr hl)).2.2 with z|z
  ·rw[h1]at z;cases z
  ·exact h2 i z
 have h:=I.chg (i:=i) (ov:=some (.ref l)) (s':=s.put es) (G':=G') (H':=H') fz fg (fun b o k=>?_) (fun b o k1 k2=>kp b o (nb b o k1 k2) (I.keep b o k1 k2)) (fun b k=>?_) (fun j t a z ej w g ha=>?_) ?_
 ·rwa[zpI hl]at h
 ·rcases nw b o k with h|h
  ·cases q2:G b with
   |none=>exact absurd q2 h
   |some u=>exact I.new b u q2
  ·exact .inr (I.there b h)
 ·refine I.there b ?_
  cases q2:H b with
  |none=>rfl
  |some u=>
   by_cases z:b=l
   ·subst z;rw[hl']at k;cases k
   ·rw[kp b u z q2]at k;cases k
 ·have na:a≠l:=fun w'=>by subst w';exact I.dis j i t s a z ej e w ((zgw q).mpr hl)
  obtain⟨u,hu⟩:=Option.ne_none_iff_exists'.mp ha
  refine⟨?_,(kp a u na hu).trans hu.symm,fun z=>na ?_⟩
  ·cases q2:G' a with
   |none=>rfl
   |some u=>
    rcases nw a u q2 with z|z
    ·exact absurd g z
    ·exact absurd z ha
  ·cases(zgw (zm0 q es)).mp z;rfl
 ·cases s with
  |own es'=>obtain⟨l',xs',k1,k2,k3,k4,k5⟩:=sl;rw[hl]at k1;cases k1;exact⟨_,ys,rfl,gl,hl',r,k5⟩
  |par es'=>obtain⟨l',xs',k1,k2,k3,k4,k5⟩:=sl;rw[hl]at k1;cases k1;exact⟨_,ys,rfl,gl,hl',r,k5⟩
  |_=>cases q
theorem SI.write (I:SI K B G H σ ρ)(e:ρ[i]? =some s)(q:s.items=some ds)(hl:σ[i]? =some (some (.ref l)))(h:RepL K G ys es):
  SI K B G (upd H l (.lst ys)) σ (ρ.set i (s.put es)):=by
 obtain⟨l',xs,e1,e2,e3,e4⟩:=I.wr e q
 rw[hl]at e1;cases e1
 exact I.chgW e q hl (I.fz.right e2 _) (Fz.refl G) (fun b o k=> .inl (by rw[k];simp)) (fun b o z k=>by rw[zar z];exact k) e2 zaA h
theorem SI.freeze (I:SI K B G H σ ρ){i:Nat}(e:ρ[i]? =some (.own ds)):∃l xs,σ[i]? =some (some (.ref l))/\Fz G (upd G l (.lst xs))/\RepD K (upd G l (.lst xs)) (.ref l) (.lst ds)/\
  SI K B (upd G l (.lst xs)) H σ (ρ.set i (.val (.lst ds))):=by
 obtain⟨l,xs,h1,h2,h3,h4,h5⟩:=I.slot i _ e
 have fz:=Fz.new h2 (.lst xs)
 have rep:RepD K (upd G l (.lst xs)) (.ref l) (.lst ds):=⟨l,xs,rfl,zaA,h4.mono fz⟩
 refine⟨l,xs,h1,fz,rep,?_⟩
 have h:=I.chg (i:=i) (ov:=some (.ref l)) (s':= .val (.lst ds)) (G':=upd G l (.lst xs)) (H':=H) (fun a u q=>?_) fz (fun b u q=>?_) I.keep I.there (fun j t a z ej w g _=>⟨?_,rfl,id⟩) ⟨.ref l,rfl,rep⟩
 ·rwa[zpI h1]at h
 ·by_cases z:a=l
  ·subst z;rw[zaA]at q;cases q;exact h3
  ·rw[zar z]at q;exact I.fz a u q
 ·by_cases z:b=l
  ·subst z;exact .inr h5
  ·rw[zar z]at q;exact I.new b u q
 ·rw[zar (fun q=>by subst q;exact I.dis j i t _ a z ej e w h1)];exact g
end
noncomputable abbrev ME:=R->Option (D×R)
noncomputable abbrev MO:=R->Option (List D×R)
noncomputable abbrev MT:=R->Option (Bool×R)
noncomputable abbrev MA:=R->Option (List D×R)
noncomputable def SE (X:Cx)(e:Expr)(m:ME):Prop:=
 ∃t,PE X e t/\∀B G H σ ρ d ρ' (Q:VK),SI X.K B G H σ ρ->m ρ=some (d,ρ')->(∀G' H' v,SI X.K B G' H' σ ρ'->Fz G G'->RepD X.K G' v d->Q v H')->t σ H Q
noncomputable def SO (X:Cx)(e:Expr)(m:MO):Prop:=
 ∃t,PE X e t/\∀B G H σ ρ ds ρ' (Q:VK),SI X.K B G H σ ρ->m ρ=some (ds,ρ')->
  (∀G' H' l xs,SI X.K B G' H' σ ρ'->Fz G G'->G' l=none->H' l=some (.lst xs)->RepL X.K G' xs ds->B.H l=none->Nw X.K G' H' σ ρ' l->Q (.ref l) H')->t σ H Q
noncomputable def STt (X:Cx)(e:Expr)(m:MT):Prop:=
 ∃t,PT X e t/\∀B G H σ ρ d ρ' (Q:Bool->Hp->Prop),SI X.K B G H σ ρ->m ρ=some (d,ρ')->(∀G' H',SI X.K B G' H' σ ρ'->Fz G G'->Q d H')->t σ H Q
noncomputable def SA (X:Cx)(es:List Expr)(m:MA):Prop:=
 ∃t,PA X es t/\∀B G H σ ρ ds ρ' (Q:List V->Hp->Prop),SI X.K B G H σ ρ->m ρ=some (ds,ρ')->(∀G' H' vs,SI X.K B G' H' σ ρ'->Fz G G'->RepL X.K G' vs ds->Q vs H')->t σ H Q
theorem zmS {B:Bs}{σ:St}(I:SI K B G H σ ρ)(hg:G l=none)(hl:H l=some (.lst xs))(h:RepL K G xs ds)(hB:B.H l=none)(hn:Nw K G H σ ρ l):
  SI K B (upd G l (.lst xs)) H σ ρ/\Fz G (upd G l (.lst xs))/\RepD K (upd G l (.lst xs)) (.ref l) (.lst ds):=
 ⟨I.frz hl hB hn hg,Fz.new hg _,⟨l,xs,rfl,zaA,h.mono (Fz.new hg _)⟩⟩
noncomputable def eFz (m:MO):ME:=fun ρ=>(m ρ).map fun p=>(.lst p.1,p.2)
theorem SO.se {X:Cx}{m:MO}(h:SO X e m):SE X e (eFz m):=by
 obtain⟨t,p,s⟩:=h
 refine⟨t,p,fun B G H σ ρ d ρ' Q I hm k=>?_⟩
 unfold eFz at hm
 cases q:m ρ with
 |none=>rw[q]at hm;cases hm
 |some r=>
  obtain⟨ds,ρ1⟩:=r
  rw[q]at hm
  cases hm
  refine s B G H σ ρ ds _ Q I q fun G' H' l xs I' fz hg hl hr hB hn=>?_
  obtain⟨I2,f2,r2⟩:=zmS I' hg hl hr hB hn
  exact k _ _ _ I2 (fz.trans f2) r2
noncomputable def eC (d:D):ME:=fun ρ=>some (d,ρ)
noncomputable def eVar (i:Nat):ME:=fun ρ=>match ρ[i]? with
 |some (.val d)=>some (d,ρ)
 |some (.own ds)=>some (.lst ds,ρ.set i (.val (.lst ds)))
 |_=>none
section
variable {X:Cx} {pos:Pos}
theorem zab (i:Nat){x:Str}(hN:autoParam (X.N[i]? =some x) zu2._auto_1)(hv:autoParam (Vis X.env.scope x) zu5._auto_1)(hd:autoParam ((x==("__debug__":Str))=false) zu1._auto_1)
  (hcd:autoParam ((x==("__classdict__":Str))=false) zu1._auto_1):SE X (.Name x pos) (eVar i):=by
 refine⟨_,zfw hN hv hd hcd,fun B G H σ ρ d ρ' Q I hm k=>?_⟩
 unfold eVar at hm
 cases e:ρ[i]? with
 |none=>rw[e]at hm;cases hm
 |some s=>
  rw[e]at hm
  cases s with
  |emp=>cases hm
  |two _ _=>cases hm
  |tre _=>cases hm
  |ptr _=>cases hm
  |par ds=>cases hm
  |val d'=>
   cases hm
   obtain⟨v,h1,h2⟩:=I.slot i _ e
   exact⟨v,h1,k G H v I (Fz.refl G) h2⟩
  |own ds=>
   cases hm
   obtain⟨l,xs,h1,f,r,I'⟩:=I.freeze e
   exact⟨.ref l,h1,k _ H _ I' f r⟩
theorem zag {i:Int}{j}:SE X (.Constant (.int i) j pos) (eC (.int i)):=⟨_,pe_int,fun B G H σ ρ d ρ' Q I hm k=>by cases hm;exact k G H _ I (Fz.refl G) rfl⟩
theorem zhu {j}:SE X (.Constant (.bool b) j pos) (eC (.bl b)):=⟨_,pe_bl,fun B G H σ ρ d ρ' Q I hm k=>by cases hm;exact k G H _ I (Fz.refl G) rfl⟩
theorem zkw {j}:SE X (.Constant .none j pos) (eC .non):=⟨_,pe_non,fun B G H σ ρ d ρ' Q I hm k=>by cases hm;exact k G H _ I (Fz.refl G) rfl⟩
theorem zp7 {x:Str}{j}:SE X (.Constant (.str x) j pos) (eC (.str x)):=⟨_,pe_str,fun B G H σ ρ d ρ' Q I hm k=>by cases hm;exact k G H _ I (Fz.refl G) rfl⟩
end
noncomputable def aNil:MA:=fun ρ=>some ([],ρ)
noncomputable def zad (m:ME)(r:MA):MA:=fun ρ=>(m ρ).bind fun p=>(r p.2).map fun q=>(p.1::q.1,q.2)
section
variable {X:Cx} {e:Expr} {es:List Expr} {m:ME} {r:MA}
theorem zae:SA X [] aNil:=⟨_,zfj,fun B G H σ ρ ds ρ' Q I hm k=>by cases hm;exact k G H [] I (Fz.refl G) .nil⟩
theorem zaa (h:SE X e m)(hr:SA X es r)(hs:autoParam (starEach (e::es) X.env=(false,eval e X.env)::starEach es X.env) zu2._auto_1):SA X (e::es) (zad m r):=by
 obtain⟨t,p,s⟩:=h
 obtain⟨u,q,z⟩:=hr
 refine⟨_,zbY p q hs,fun B G H σ ρ ds ρ' Q I hm k=>?_⟩
 unfold zad at hm
 cases e1:m ρ with
 |none=>rw[e1]at hm;cases hm
 |some a=>
  obtain⟨d,ρ1⟩:=a
  rw[e1]at hm
  cases e2:r ρ1 with
  |none=>simp[e2]at hm
  |some b=>
   obtain⟨es',ρ2⟩:=b
   simp only[Option.bind_some,e2,Option.map_some,Option.some.injEq,Prod.mk.injEq]at hm
   obtain⟨rfl,rfl⟩:=hm
   exact s B G H σ ρ d ρ1 _ I e1 fun G1 H1 v I1 f1 r1=>z B G1 H1 σ ρ1 es' ρ2 _ I1 e2 fun G2 H2 vs I2 f2 r2=>k G2 H2 (v::vs) I2 (f1.trans f2) (.cons (r1.mono f2) r2)
end
noncomputable def V2 (X:Cx)(r:R2)(f:D->D->Option D):Prop:=∀B G H σ ρ x y a b d (Q:VK),SI X.K B G H σ ρ->RepD X.K G x a->RepD X.K G y b->f a b=some d->(∀G' H' v,SI X.K B G' H' σ ρ->Fz G G'->RepD X.K G' v d->Q v H')->r x y H Q
noncomputable def V1 (X:Cx)(r:V->Hp->VK->Prop)(f:D->Option D):Prop:=∀B G H σ ρ x a d (Q:VK),SI X.K B G H σ ρ->RepD X.K G x a->f a=some d->(∀G' H' v,SI X.K B G' H' σ ρ->Fz G G'->RepD X.K G' v d->Q v H')->r x H Q
noncomputable def VC (X:Cx)(r:List V->Hp->VK->Prop)(f:List D->Option D):Prop:=∀B G H σ ρ xs ds d (Q:VK),SI X.K B G H σ ρ->RepL X.K G xs ds->f ds=some d->(∀G' H' v,SI X.K B G' H' σ ρ->Fz G G'->RepD X.K G' v d->Q v H')->r xs H Q
noncomputable def m2 (f:D->D->Option D)(ma mb:ME):ME:=fun ρ=>(ma ρ).bind fun p=>(mb p.2).bind fun q=>(f p.1 q.1).map fun d=>(d,q.2)
noncomputable def m1 (f:D->Option D)(ma:ME):ME:=fun ρ=>(ma ρ).bind fun p=>(f p.1).map fun d=>(d,p.2)
noncomputable def mC (f:List D->Option D)(ma:MA):ME:=fun ρ=>(ma ρ).bind fun p=>(f p.1).map fun d=>(d,p.2)
theorem m2_inv {ma mb:ME}(h:m2 f ma mb ρ=some (d,ρ')):∃a ρ1 b,ma ρ=some (a,ρ1)/\mb ρ1=some (b,ρ')/\f a b=some d:=by
 unfold m2 at h
 cases e1:ma ρ with
 |none=>rw[e1]at h;cases h
 |some p=>
  obtain⟨a,ρ1⟩:=p
  rw[e1]at h
  cases e2:mb ρ1 with
  |none=>simp[e2]at h
  |some q=>
   obtain⟨b,ρ2⟩:=q
   simp only[Option.bind_some,e2]at h
   cases e3:f a b with
   |none=>rw[e3]at h;cases h
   |some c=>rw[e3]at h;cases h;exact⟨a,ρ1,b,rfl,e2,e3⟩
theorem m1_inv {f:D->Option D}(h:m1 f ma ρ=some (d,ρ')):∃a,ma ρ=some (a,ρ')/\f a=some d:=by
 unfold m1 at h
 cases e1:ma ρ with
 |none=>rw[e1]at h;cases h
 |some p=>
  obtain⟨a,ρ1⟩:=p
  rw[e1]at h
  simp only[Option.bind_some]at h
  cases e3:f a with
  |none=>rw[e3]at h;cases h
  |some c=>rw[e3]at h;cases h;exact⟨a,rfl,e3⟩
theorem mC_inv {f:List D->Option D}{ma:MA}(h:mC f ma ρ=some (d,ρ')):∃a,ma ρ=some (a,ρ')/\f a=some d:=by
 unfold mC at h
 cases e1:ma ρ with
 |none=>rw[e1]at h;cases h
 |some p=>
  obtain⟨a,ρ1⟩:=p
  rw[e1]at h
  simp only[Option.bind_some]at h
  cases e3:f a with
  |none=>rw[e3]at h;cases h
  |some c=>rw[e3]at h;cases h;exact⟨a,rfl,e3⟩
section
variable {X:Cx} {a b:Expr} {ma mb:ME} {pos:Pos} {f:D->D->Option D}
theorem zoI {r:R2}{ta tb:TE}(hv:V2 X r f)
  (sa:∀B G H σ ρ d ρ' (Q:VK),SI X.K B G H σ ρ->ma ρ=some (d,ρ')->(∀G' H' v,SI X.K B G' H' σ ρ'->Fz G G'->RepD X.K G' v d->Q v H')->ta σ H Q)
  (sb:∀B G H σ ρ d ρ' (Q:VK),SI X.K B G H σ ρ->mb ρ=some (d,ρ')->(∀G' H' v,SI X.K B G' H' σ ρ'->Fz G G'->RepD X.K G' v d->Q v H')->tb σ H Q):
  ∀B G H σ ρ d ρ' (Q:VK),SI X.K B G H σ ρ->m2 f ma mb ρ=some (d,ρ')->(∀G' H' v,SI X.K B G' H' σ ρ'->Fz G G'->RepD X.K G' v d->Q v H')->tOp r ta tb σ H Q:=by
 intro B G H σ ρ d ρ' Q I hm k
 obtain⟨x,ρ1,y,e1,e2,e3⟩:=m2_inv hm
 exact sa B G H σ ρ x ρ1 _ I e1 fun G1 H1 v I1 f1 r1=>sb B G1 H1 σ ρ1 y ρ' _ I1 e2 fun G2 H2 u I2 f2 r2=>
  hv B G2 H2 σ ρ' v u x y d Q I2 (r1.mono f2) r2 e3 fun G3 H3 z I3 f3 r3=>k G3 H3 z I3 (f1.trans (f2.trans f3)) r3
theorem zph {r:R2}(ho:OpR X (binaryOp op) r)(hv:V2 X r f)(ha:SE X a ma)(hb:SE X b mb):SE X (.BinOp a op b pos) (m2 f ma mb):=by
 obtain⟨ta,pa,sa⟩:=ha
 obtain⟨tb,pb,sb⟩:=hb
 exact⟨_,pe_op ho pa pb,zoI hv sa sb⟩
theorem zm1 {op:CmpOp}{r:R2}(ho:OpR X (compareOp op) r)(hv:V2 X r f)(ha:SE X a ma)(hb:SE X b mb)(hm:behindInMarks op b=false):SE X (.Compare a [op] [b] pos) (m2 f ma mb):=by
 obtain⟨ta,pa,sa⟩:=ha
 obtain⟨tb,pb,sb⟩:=hb
 exact⟨_,pe_cmpR ho pa pb hm,zoI hv sa sb⟩
theorem se_un {op:UnaryOp}(ho:UnR X (unaryOp op) r)(hv:V1 X r g)(ha:SE X a ma):SE X (.UnaryOp op a pos) (m1 g ma):=by
 obtain⟨ta,pa,sa⟩:=ha
 refine⟨_,pe_un ho pa,fun B G H σ ρ d ρ' Q I hm k=>?_⟩
 obtain⟨x,e1,e2⟩:=m1_inv hm
 exact sa B G H σ ρ x ρ' _ I e1 fun G1 H1 v I1 f1 r1=>hv B G1 H1 σ ρ' v x d Q I1 r1 e2 fun G2 H2 z I2 f2 r2=>k G2 H2 z I2 (f1.trans f2) r2
theorem se_ix {r:R2}(hr:IxR X r)(hv:V2 X r f)(ha:SE X a ma)(hb:SE X b mb)(hs:zlM b):SE X (.Subscript a b pos) (m2 f ma mb):=by
 obtain⟨ta,pa,sa⟩:=ha
 obtain⟨tb,pb,sb⟩:=hb
 exact⟨_,pe_ix hr pa pb hs,zoI hv sa sb⟩
end
section
variable {X:Cx} {x:Str} {p pos:Pos} {e:Expr} {es:List Expr} {ma:MA} {id T:String} {r:List V->Hp->VK->Prop} {f:List D->Option D}
theorem soundC {t:TA}(hv:VC X r f)(sa:∀B G H σ ρ ds ρ' (Q:List V->Hp->Prop),SI X.K B G H σ ρ->ma ρ=some (ds,ρ')->(∀G' H' vs,SI X.K B G' H' σ ρ'->Fz G G'->RepL X.K G' vs ds->Q vs H')->t σ H Q):
  ∀B G H σ ρ d ρ' (Q:VK),SI X.K B G H σ ρ->mC f ma ρ=some (d,ρ')->(∀G' H' v,SI X.K B G' H' σ ρ'->Fz G G'->RepD X.K G' v d->Q v H')->tCB r t σ H Q:=by
 intro B G H σ ρ d ρ' Q I hm k
 obtain⟨ds,e1,e2⟩:=mC_inv hm
 exact sa B G H σ ρ ds ρ' _ I e1 fun G1 H1 vs I1 f1 r1=>hv B G1 H1 σ ρ' vs ds d Q I1 r1 e2 fun G2 H2 z I2 f2 r2=>k G2 H2 z I2 (f1.trans f2) r2
theorem ze5 (hc:zhw X (.builtin id) r)(hv:VC X r f)(hb:bootBuiltins x=some (.builtin id))(hm:X.mg x=none)(ha:SA X (e::es) ma)(hg:autoParam (Gl X x) zu2._auto_1)(hn:autoParam (x≠"__name__") zu1._auto_1)(hdb:autoParam ((x==("__debug__":Str))=false) zu1._auto_1)
  (he:autoParam (starEach (e::es) X.env=(false,eval e X.env)::starEach es X.env) zu2._auto_1) (hpl:autoParam ((backTo pos (starEach es X.env)).any (·.1)=false) zu2._auto_1):SE X (.Call (.Name x p) (e::es) [] pos) (mC f ma):=by
 obtain⟨t,pa,sa⟩:=ha
 exact⟨_,zjB hc hg hm hb pa hn hdb he hpl,soundC hv sa⟩
theorem zmC (hc:zhw X (.type T) r)(hv:VC X r f)(hb:bootBuiltins x=some (.type T))(hm:X.mg x=none)(ha:SA X (e::es) ma)(hg:autoParam (Gl X x) zu2._auto_1)(hn:autoParam (x≠"__name__") zu1._auto_1)(hdb:autoParam ((x==("__debug__":Str))=false) zu1._auto_1)
  (he:autoParam (starEach (e::es) X.env=(false,eval e X.env)::starEach es X.env) zu2._auto_1) (hpl:autoParam ((backTo pos (starEach es X.env)).any (·.1)=false) zu2._auto_1):SE X (.Call (.Name x p) (e::es) [] pos) (mC f ma):=by
 obtain⟨t,pa,sa⟩:=ha
 exact⟨_,zpH hc hg hm hb pa hn hdb he hpl,soundC hv sa⟩
end
end M
namespace M
open L2 PySem PySem.Spec
open PyProof.Rows hiding St
variable {v:V} {ds cs out:List D} {p c l:Addr} {xs vs ys:List V} {X:Cx} {C:Int->Int->Prop} {g:D->R->Option R} {a b e:Expr} {ma:MA} {pos pos':Pos} {k i j n t:Nat} {mb:ME} {K:W.Frag} {G H H' G':Hp} {us its:List Value} {u:Value} {d:D} {B:Bs} {σ σc:St} {ρ ρ':R} {s:Sl} {x qual:Str} {Q E:Value->Shared->Prop} {f:D->D->Option D} {op:CmpOp} {m:MT} {es ifs:List Expr} {h:List D->R->Option R} {body:List Stmt} {N ps:List Str} {fd:FuncData} {env:Env} {scope:Scope} {A:Around} {cl:List (Str×Addr)} {h':Heap} {prog:Program} {w:World} {use:Option (Value->Sem Unit)} {ov:Option (Option V)} {cap:List Nat} {wi:TI} {tg':Addr->Shared->Hp->List Addr->TG} {tt:Addr->Shared->Hp->List Addr->TT} {te:Addr->Shared->Hp->List Addr->TE} {ns:List Int}
section
variable {X:Cx} {K:W.Frag} {B:Bs} {G H:Hp} {σ:St} {ρ:R}
theorem SI.lst (I:SI K B G H σ ρ)(h:RepD K G v (.lst ds)):∃a xs,v= .ref a/\H a=some (.lst xs)/\RepL K G xs ds:=by
 obtain⟨a,xs,e,q,r⟩:=h
 exact⟨a,xs,e,I.fz a _ q,r⟩
theorem SI.tup (I:SI K B G H σ ρ)(h:RepD K G v (.tup ds)):∃a xs,v= .ref a/\H a=some (.tup xs)/\RepL K G xs ds:=by
 obtain⟨a,xs,e,q,r⟩:=h
 exact⟨a,xs,e,I.fz a _ q,r⟩
theorem SI.newT (I:SI K B G H σ ρ)(hp:H p=none)(h:RepL K G xs ds):SI K B (upd G p (.tup xs)) (upd H p (.tup xs)) σ ρ/\Fz G (upd G p (.tup xs))/\RepD K (upd G p (.tup xs)) (.ref p) (.tup ds):=
 ⟨I.allocF hp _,Fz.new (I.fz.free hp) _,⟨p,xs,rfl,zaA,h.mono (Fz.new (I.fz.free hp) _)⟩⟩
theorem SI.newL (I:SI K B G H σ ρ)(hp:H p=none)(h:RepL K G xs ds):SI K B (upd G p (.lst xs)) (upd H p (.lst xs)) σ ρ/\Fz G (upd G p (.lst xs))/\RepD K (upd G p (.lst xs)) (.ref p) (.lst ds):=
 ⟨I.allocF hp _,Fz.new (I.fz.free hp) _,⟨p,xs,rfl,zaA,h.mono (Fz.new (I.fz.free hp) _)⟩⟩
end
noncomputable def dI2 (c:Int->Int->Bool)(g:Int->Int->D):D->D->Option D
 | .int i,.int j=>if c i j then some (g i j)else none
 |_,_=>none
theorem zpV {c:Int->Int->Bool}{g:Int->Int->Int}(hc:∀i j,c i j=true->C i j):V2 X (rI C fun i j=> .int (g i j)) (dI2 c fun i j=> .int (g i j)):=by
 intro B G H σ ρ x y a b d Q I ra rb hf k
 cases a<;>cases b<;>simp only[dI2]at hf<;>try cases hf
 rename_i i j
 split at hf
 ·rename_i h
  cases hf
  exact⟨i,j,ra,rb,hc i j h,k G H _ I (Fz.refl G) rfl⟩
 ·cases hf
theorem v2_int0 {g:Int->Int->Int}:V2 X (rI0 fun i j=> .int (g i j)) (dI2 (fun _ _=>true) fun i j=> .int (g i j)):=by
 intro B G H σ ρ x y a b d Q I ra rb hf k
 cases a<;>cases b<;>simp only[dI2]at hf<;>try cases hf
 rename_i i j
 exact⟨i,j,ra,rb,k G H _ I (Fz.refl G) rfl⟩
theorem zfq {g:Int->Int->Bool}:V2 X (rI0 fun i j=> .bl (g i j)) (dI2 (fun _ _=>true) fun i j=> .bl (g i j)):=by
 intro B G H σ ρ x y a b d Q I ra rb hf k
 cases a<;>cases b<;>simp only[dI2]at hf<;>try cases hf
 rename_i i j
 exact⟨i,j,ra,rb,k G H _ I (Fz.refl G) rfl⟩
noncomputable def dSub:D->D->Option D:=dI2 (fun _ _=>true) fun i j=> .int (i-j)
noncomputable def divOk (j:Int):Bool:=decide (0<j)&&decide (j.natAbs.log2<9000)
theorem op_fdivW:OpR X (binaryOp .FloorDiv) (rI (fun _ j=>0<j/\j.natAbs.log2<9000) fun i j=> .int (i/j)):=opI fun i j _ _ _ _ _ hc q=>by
 have h1:(0:Int)<j:=hc.1
 exact PyProof.Rows.floordiv_int (by lia) (by rw[Int.fdiv_eq_ediv_of_nonneg i (by lia)];exact q) (.inl (PyProof.noPylong_of_log2 hc.2))
noncomputable def dDiv:D->D->Option D:=dI2 (fun _ j=>divOk j) fun i j=> .int (i/j)
noncomputable def dMod:D->D->Option D:=dI2 (fun _ j=>decide (0<j)) fun i j=> .int (i%j)
noncomputable def dPow:D->D->Option D:=dI2 (fun i j=>decide (0<=j)&&decide (j<=1000000)&&decide (i.natAbs<2^64)) fun i j=> .int (i^j.toNat)
noncomputable def dLt:D->D->Option D:=dI2 (fun _ _=>true) fun i j=> .bl (decide (i<j))
noncomputable def dLe:D->D->Option D:=dI2 (fun _ _=>true) fun i j=> .bl (decide (i<=j))
noncomputable def dGt:D->D->Option D:=dI2 (fun _ _=>true) fun i j=> .bl (decide (j<i))
section
variable {X:Cx} {a b:Expr} {ma mb:ME} {pos:Pos}
theorem zb9 (ha:SE X a ma)(hb:SE X b mb):SE X (.BinOp a .Sub b pos) (m2 dSub ma mb):=zph op_sub v2_int0 ha hb
theorem se_div (ha:SE X a ma)(hb:SE X b mb):SE X (.BinOp a .FloorDiv b pos) (m2 dDiv ma mb):=zph op_fdivW (zpV fun i j h=>by simpa[divOk]using h) ha hb
theorem zdS (ha:SE X a ma)(hb:SE X b mb):SE X (.BinOp a .Mod b pos) (m2 dMod ma mb):=zph op_mod (zpV fun i j h=>by simpa using h) ha hb
theorem zgg (ha:SE X a ma)(hb:SE X b mb):SE X (.BinOp a .Pow b pos) (m2 dPow ma mb):=zph op_pow (zpV fun i j h=>by simp only[Bool.and_eq_true,decide_eq_true_eq]at h;exact⟨h.1.1,h.1.2,h.2⟩) ha hb
theorem se_lt (ha:SE X a ma)(hb:SE X b mb):SE X (.Compare a [.Lt] [b] pos) (m2 dLt ma mb):=zm1 op_lt zfq ha hb (zi8 _)
theorem se_le (ha:SE X a ma)(hb:SE X b mb):SE X (.Compare a [.LtE] [b] pos) (m2 dLe ma mb):=zm1 znJ zfq ha hb (zi8 _)
end
noncomputable def dNeg:D->Option D
 | .int i=>some (.int (-i))
 |_=>none
theorem zhg {ma:ME}(ha:SE X a ma):SE X (.UnaryOp .USub a pos) (m1 dNeg ma):=
 se_un un_neg (fun B G H σ ρ x a d Q I ra hf k=>by
  cases a<;>simp only[dNeg]at hf<;>try cases hf
  exact⟨_,ra,k G H _ I (Fz.refl G) rfl⟩) ha
noncomputable def zo5 (i j:Int):Bool:=(decide (i.natAbs<2^64)||decide (j.natAbs<2^64))||(decide (i.natAbs<2^4000)&&decide (j.natAbs<2^4000))
noncomputable def dMul:D->D->Option D
 | .int i,.int j=>if zo5 i j then some (.int (i*j))else none
 | .lst ds,.int k=>if decide (-1000000<=k)&&decide (k<=1000000)&&decide (ds.length*k.toNat<=1000000)then some (.lst (List.replicate k.toNat ds).flatten)else none
 |_,_=>none
theorem zlj {k:Int}(h:k.natAbs<2^4000):Builtin.Int.intBits k<=4000:=by
 unfold Builtin.Int.intBits
 split
 ·exact Nat.zero_le _
 ·have:k.natAbs.log2<4000:=by
   rcases Nat.eq_zero_or_pos k.natAbs with h0|hp
   ·rw[h0];decide
   ·exact(Nat.log2_lt (Nat.ne_of_gt hp)).mpr h
  lia
theorem mulOk_ok {i j:Int}(h:zo5 i j=true):IntMulOk i j:=by
 unfold zo5 at h
 simp only[Bool.or_eq_true,Bool.and_eq_true,decide_eq_true_eq]at h
 rcases h with(h|h)|⟨h1,h2⟩
 ·exact .of_left (intBits_le_64 (by lia) (by lia))
 ·exact .of_right (intBits_le_64 (by lia) (by lia))
 ·have b1:=zlj h1
  have b2:=zlj h2
  unfold IntMulOk
  intro z
  simp only[Bool.and_eq_true]at z
  have z2:=z.2
  unfold Builtin.Int.intTooBig at z2
  revert z2
  generalize Builtin.Int.intBits i=p at*
  generalize Builtin.Int.intBits j=q at*
  intro z2
  have z3:=of_decide_eq_true z2
  have hb:=bitsLine_eq
  lia
theorem op_mulG:OpR X (binaryOp .Mult) (rI IntMulOk fun i j=> .int (i*j)):=opI fun _ _ _ _ _ _ _ hc q=>mul_int q hc
theorem zey {ma mb:ME}(ha:SE X a ma)(hb:SE X b mb):SE X (.BinOp a .Mult b pos) (m2 dMul ma mb):=by
 refine zph (op_mulG.or op_rep) (fun B G H σ ρ x y a b d Q I ra rb hf k=>?_) ha hb
 cases a<;>cases b<;>simp only[dMul]at hf<;>try cases hf
 ·rename_i i j
  split at hf
  ·rename_i h
   cases hf
   exact .inl ⟨i,j,ra,rb,mulOk_ok h,k G H _ I (Fz.refl G) rfl⟩
  ·cases hf
 ·rename_i ds j
  split at hf
  ·rename_i h
   cases hf
   simp only[Bool.and_eq_true,decide_eq_true_eq]at h
   obtain⟨a,xs,rfl,ha,r⟩:=I.lst ra
   have hl:=r.length
   refine .inr ⟨a,j,xs,rfl,rb,ha,by lia,by lia,by rw[hl,sizeLine_eq];lia,fun p hp=>?_⟩
   obtain⟨I2,f2,r2⟩:=I.newL hp (r.rep j.toNat)
   exact k _ _ _ I2 f2 r2
  ·cases hf
noncomputable def dAdd:D->D->Option D
 | .int i,.int j=>some (.int (i+j))
 | .tup a,.tup b=>if a.length+b.length<=16777216 then some (.tup (a++b))else none
 | .lst a,.lst b=>if a.length+b.length<=16777216 then some (.lst (a++b))else none
 | .str a,.str b=>if a.length+b.length<=16777216 then some (.str (a++b))else none
 |_,_=>none
theorem op_catT0:OpR X (binaryOp .Add) (fun x y H Q=>∃a b ys,x= .ref a/\y= .ref b/\SqT X.K H a []/\SqT X.K H b ys/\Q (.ref b) H):=by
 intro pins s σ H x y v u Q I rx ry h
 obtain⟨a,b,ys,rfl,rfl,ha,hb,q⟩:=h
 cases rx
 cases ry
 obtain⟨its,r1,p1,_⟩:=I.tuple ha
 obtain⟨its2,r2,p2,_⟩:=I.tuple hb
 obtain rfl:its=[]:=by cases r1;rfl
 obtain⟨⟨cls,dd,data,sl⟩,ho,hc,n,hd⟩:=id p1
 obtain⟨⟨cls2,dd2,data2,sl2⟩,ho2,hc2,n2,hd2⟩:=id p2
 simp only at hc hd hc2 hd2
 subst hc hd hc2 hd2
 exact concat_meets ⟨_,ho,rfl⟩ ⟨_,ho2,rfl⟩ noFill_tuple_add seq_tuple_add PySem.F.slot_tuple_add PySem.F.entry_tuple_add (PySem.F.args_tuple_add_2 _ _)
   (tuple_addW0 a b _ _ n n2 dd dd2 sl sl2 (by simp)) ⟨ho,ho2,⟨.ref b,H,I,rfl,q⟩⟩
theorem zaP {ma mb:ME}(ha:SE X a ma)(hb:SE X b mb):SE X (.BinOp a .Add b pos) (m2 dAdd ma mb):=by
 refine zph (op_add.or (op_catT.or (op_catT0.or (op_cat.or zpg)))) (fun B G H σ ρ x y a b d Q I ra rb hf k=>?_) ha hb
 cases a<;>cases b<;>simp only[dAdd]at hf<;>try cases hf
 ·exact .inl ⟨_,_,ra,rb,k G H _ I (Fz.refl G) rfl⟩
 ·rename_i i j
  split at hf
  ·rename_i h
   cases hf
   exact .inr (.inr (.inr (.inr ⟨i,j,ra,rb,by rw[sizeLine_eq];exact h,k G H _ I (Fz.refl G) rfl⟩)))
  ·cases hf
 ·rename_i as bs
  split at hf
  ·rename_i h
   cases hf
   obtain⟨a,xs,rfl,ha,r⟩:=I.lst ra
   obtain⟨b,ys,rfl,hb,r2⟩:=I.lst rb
   refine .inr (.inr (.inr (.inl ⟨a,b,xs,ys,rfl,rfl,ha,hb,by rw[r.length,r2.length,sizeLine_eq];exact h,fun p hp=>?_⟩)))
   obtain⟨I2,f2,r2⟩:=I.newL hp (r.append r2)
   exact k _ _ _ I2 f2 r2
  ·cases hf
 ·rename_i as bs
  split at hf
  ·rename_i h
   cases hf
   obtain⟨a,xs,rfl,ha,r⟩:=I.tup ra
   obtain⟨b,ys,rfl,hb,r2⟩:=I.tup rb
   by_cases z:xs=[]
   ·subst z
    have z':as=[]:=List.eq_nil_of_length_eq_zero r.length.symm
    subst z'
    exact .inr (.inr (.inl ⟨a,b,ys,rfl,rfl,SqT.of ha,SqT.of hb,k G H _ I (Fz.refl G) rb⟩))
   ·refine .inr (.inl ⟨a,b,xs,ys,rfl,rfl,SqT.of ha,SqT.of hb,z,by rw[r.length,r2.length,sizeLine_eq];exact h,fun w=>?_,fun w p hp=>?_⟩)
    ·subst w
     have w':bs=[]:=List.eq_nil_of_length_eq_zero r2.length.symm
     subst w'
     rw[List.append_nil]at k
     exact k G H _ I (Fz.refl G) ra
    ·obtain⟨I2,f2,r2⟩:=I.newT hp (r.append r2)
     exact k _ _ _ I2 f2 r2
  ·cases hf
mutual
noncomputable def noS:D->Bool
 | .scr _=>false
 | .exc _=>false
 | .dic _ _=>false
 | .dit _ _=>false
 | .lst ds=>noSL ds
 | .tup ds=>noSL ds
 |_=>true
noncomputable def noSL:List D->Bool
 |[]=>true
 |d::ds=>noS d&&noSL ds
end
mutual
noncomputable def eqB:D->D->Bool
 | .non,.non=>true
 | .bl a,.bl b=>a==b
 | .int a,.int b=>a==b
 | .str a,.str b=>a==b
 | .bl a,.int b=>(if a then 1 else 0)==b
 | .int a,.bl b=>a==(if b then 1 else 0)
 | .lst a,.lst b=>eqBL a b
 | .tup a,.tup b=>eqBL a b
 |_,_=>false
noncomputable def eqBL:List D->List D->Bool
 |[],[]=>true
 |a::as,b::bs=>eqB a b&&eqBL as bs
 |_,_=>false
end
theorem zhZ:∀{as bs:List D},as.length≠bs.length->eqBL as bs=false
 |[],[],h=>absurd rfl h
 |[],_::_,_=>rfl
 |_::_,[],_=>rfl
 |a::as,b::bs,h=>by
  have:=zhZ (as:=as) (bs:=bs) (fun e=>h (by simp[e]))
  simp[eqBL,this]
mutual
theorem zmc:∀d,noS d=true->eqB d d=true
 | .non,_=>rfl
 | .bl b,_=>by simp[eqB]
 | .int b,_=>by simp[eqB]
 | .str b,_=>by simp[eqB]
 | .lst ds,h=>by simp only[noS]at h;simp only[eqB];exact zkc ds h
 | .tup ds,h=>by simp only[noS]at h;simp only[eqB];exact zkc ds h
 | .scr _,h=>by simp[noS]at h
 | .exc _,h=>by simp[noS]at h
 |(.dic _ _),h=>by simp[noS]at h
 |(.dit _ _),h=>by simp[noS]at h
theorem zkc:∀ds,noSL ds=true->eqBL ds ds=true
 |[],_=>rfl
 |d::ds,h=>by
  simp only[noSL,Bool.and_eq_true]at h
  simp only[eqBL,Bool.and_eq_true]
  exact⟨zmc d h.1,zkc ds h.2⟩
end
mutual
noncomputable def depth:D->Nat
 | .lst ds=>zi6 ds+1
 | .tup ds=>zi6 ds+1
 |_=>0
noncomputable def zi6:List D->Nat
 |[]=>0
 |d::ds=>max (depth d) (zi6 ds)
end
theorem ziC:∀{l:List D} {i:Nat} {d:D},l[i]? =some d->depth d<=zi6 l
 |[],_,_,h=>by simp at h
 |c::l,0,d,h=>by simp at h;subst h;simp only[zi6];lia
 |c::l,i+1,d,h=>by
  have:=ziC (l:=l) (i:=i) (d:=d) (by simpa using h)
  simp only[zi6];lia
theorem zhY:∀{l:List D} {i:Nat} {d:D},l[i]? =some d->noSL l=true->noS d=true
 |[],_,_,h,_=>by simp at h
 |c::l,0,d,h,z=>by simp at h;subst h;simp only[noSL,Bool.and_eq_true]at z;exact z.1
 |c::l,i+1,d,h,z=>by simp only[noSL,Bool.and_eq_true]at z;exact zhY (l:=l) (i:=i) (by simpa using h) z.2
mutual
theorem RepD.inj:∀{a b:D} {x:V},noS a=true->noS b=true->RepD K G x a->RepD K G x b->a=b
 | .non,b,x,_,nb,ra,rb=>by
  cases(show x=V.non from ra)
  cases b<;>simp_all [RepD,noS]
 | .bl c,b,x,_,nb,ra,rb=>by
  cases(show x=V.bl c from ra)
  cases b<;>simp_all [RepD,noS]
 | .int c,b,x,_,nb,ra,rb=>by
  cases(show x=V.int c from ra)
  cases b<;>simp_all [RepD,noS]
 | .str c,b,x,_,nb,ra,rb=>by
  cases(show x=V.str c from ra)
  cases b<;>simp_all [RepD,noS]
 | .lst ds,b,x,na,nb,ra,rb=>by
  obtain⟨p,xs,rfl,q,r⟩:=ra
  cases b with
  |lst es=>
   obtain⟨p2,ys,e,q2,r2⟩:=rb
   cases e
   rw[q]at q2
   cases q2
   simp only[noS]at na nb
   rw[RepL.inj na nb r r2]
  |tup es=>
   obtain⟨p2,ys,e,q2,r2⟩:=rb
   cases e
   rw[q]at q2
   cases q2
  |scr _=>simp[noS]at nb
  |exc _=>simp[noS]at nb
  |dic _ _=>simp[noS]at nb
  |dit _ _=>simp[noS]at nb
  |non=>simp[RepD]at rb
  |bl _=>simp[RepD]at rb
  |int _=>simp[RepD]at rb
  |str _=>simp[RepD]at rb
 | .tup ds,b,x,na,nb,ra,rb=>by
  obtain⟨p,xs,rfl,q,r⟩:=ra
  cases b with
  |tup es=>
   obtain⟨p2,ys,e,q2,r2⟩:=rb
   cases e
   rw[q]at q2
   cases q2
   simp only[noS]at na nb
   rw[RepL.inj na nb r r2]
  |lst es=>
   obtain⟨p2,ys,e,q2,r2⟩:=rb
   cases e
   rw[q]at q2
   cases q2
  |scr _=>simp[noS]at nb
  |exc _=>simp[noS]at nb
  |dic _ _=>simp[noS]at nb
  |dit _ _=>simp[noS]at nb
  |non=>simp[RepD]at rb
  |bl _=>simp[RepD]at rb
  |int _=>simp[RepD]at rb
  |str _=>simp[RepD]at rb
 | .scr _,_,_,na,_,_,_=>by simp[noS]at na
 | .exc _,_,_,na,_,_,_=>by simp[noS]at na
 |(.dic _ _),_,_,na,_,_,_=>by simp[noS]at na
 |(.dit _ _),_,_,na,_,_,_=>by simp[noS]at na
theorem RepL.inj:∀{as bs:List D} {xs:List V},noSL as=true->noSL bs=true->RepL K G xs as->RepL K G xs bs->as=bs
 |[],[],_,_,_,_,_=>rfl
 |[],_::_,xs,_,_,e,h=>by
  obtain⟨_,_,e2,_⟩:=h
  cases(show xs=[]from e)
  cases e2
 |_::_,[],xs,_,_,h,e=>by
  obtain⟨_,_,e2,_⟩:=h
  cases(show xs=[]from e)
  cases e2
 |a::as,b::bs,xs,na,nb,h,h2=>by
  obtain⟨x,ys,e,q,r⟩:=h
  obtain⟨x2,ys2,e2,q2,r2⟩:=h2
  subst e
  cases e2
  simp only[noSL,Bool.and_eq_true]at na nb
  rw[RepD.inj na.1 nb.1 q q2,RepL.inj na.2 nb.2 r r2]
end
noncomputable def eqJ (ds es:List D)(j:Nat):Bool:=match ds[j]?,es[j]? with
 |some a,some b=>eqB a b
 |_,_=>false
theorem zeC:∀(as bs:List D),as.length=bs.length->(List.range as.length).all (eqJ as bs)=eqBL as bs
 |[],[],_=>by simp[eqBL]
 |a::as,b::bs,h=>by
  have ih:=zeC as bs (by simpa using h)
  rw[List.length_cons,List.range_succ_eq_map,List.all_cons,List.all_map]
  simp only[eqBL,<-ih]
  congr 1
 |[],_::_,h=>by simp at h
 |_::_,[],h=>by simp at h
section
variable {X:Cx} {pins:List (Addr×Obj)} {σ:St} {H G:Hp} {s:Shared}
theorem zlH (r:Vals xs us)(h:RepL X.K G xs ds)(e:us[j]? =some u):∃x d,ds[j]? =some d/\RelV x u/\RepD X.K G x d:=by
 have hl:=r.length
 have hl2:=h.length
 have hj:j<us.length:=(List.getElem?_eq_some_iff.mp e).1
 have ej:ds[j]? =some ds[j]:=List.getElem?_eq_getElem (by lia)
 obtain⟨x,q1,q2⟩:=h.get ej
 obtain⟨u',h1,h2⟩:=r.get q1
 have:u'=u:=by rw[h1]at e;exact Option.some.inj e
 subst this
 exact⟨x,_,ej,h2,q2⟩
theorem eqAt_D (I:Inv X pins σ H s)(fz:Fz G H):∀(n:Nat) (A:Around) (a b:D) (x y:V) (u v:Value),depth a<=n->noS a=true->noS b=true->A.units+n+1<cLine->RepD X.K G x a->RepD X.K G y b->RelV x u->RelV y v->
  SeqAt.EqAt A s u v (eqB a b)/\SeqAt.RcAt A s u v (eqB a b):=by
 intro n
 induction n with
 |zero=>
  intro A a b x y u v hd na nb hu ra rb rx ry
  have hu':A.units<cLine:=by lia
  cases a with
  |non=>
   cases(show x=V.non from ra);cases(show u=Value.none from rx)
   cases b with
   |non=>cases(show y=V.non from rb);cases(show v=Value.none from ry);exact⟨.same _,.none_none⟩
   |bl c=>cases(show y=V.bl c from rb);cases(show v=Value.bool c from ry);exact⟨.none_bool _,.none_bool _⟩
   |int c=>cases(show y=V.int c from rb);obtain⟨t,rfl⟩:=ry;exact⟨.none_int _ _,.none_int _ _⟩
   |str c=>cases(show y=V.str c from rb);obtain⟨t,rfl⟩:=ry;exact⟨.none_str _ _,.none_str _ _⟩
   |lst ds=>
    obtain⟨p,xs,rfl,q,r⟩:=rb
    cases(show v=Value.ref p from ry)
    obtain⟨its,rv,pl,hz⟩:=I.list (SqL.of (fz _ _ q))
    exact⟨.none_list pl.isList hu',.none_list pl.isList hu'⟩
   |tup ds=>
    obtain⟨p,xs,rfl,q,r⟩:=rb
    cases(show v=Value.ref p from ry)
    obtain⟨its,rv,pl,hz⟩:=I.tuple (SqT.of (fz _ _ q))
    exact⟨.none_tuple pl hu',.none_tuple pl hu'⟩
   |scr _=>simp[noS]at nb
   |exc _=>simp[noS]at nb
   |dic _ _=>simp[noS]at nb
   |dit _ _=>simp[noS]at nb
  |bl c0=>
   cases(show x=V.bl c0 from ra);cases(show u=Value.bool c0 from rx)
   cases b with
   |non=>cases(show y=V.non from rb);cases(show v=Value.none from ry);exact⟨.bool_none _,.bool_none _⟩
   |bl c=>cases(show y=V.bl c from rb);cases(show v=Value.bool c from ry);exact⟨.bool_bool _ _,.bool_bool _ _⟩
   |int c=>cases(show y=V.int c from rb);obtain⟨t,rfl⟩:=ry;exact⟨.bool_int _ _ _,.bool_int _ _ _⟩
   |str c=>cases(show y=V.str c from rb);obtain⟨t,rfl⟩:=ry;exact⟨.bool_str _ _ _,.bool_str _ _ _⟩
   |lst ds=>
    obtain⟨p,xs,rfl,q,r⟩:=rb
    cases(show v=Value.ref p from ry)
    obtain⟨its,rv,pl,hz⟩:=I.list (SqL.of (fz _ _ q))
    exact⟨.bool_list _ pl.isList hu',.bool_list _ pl.isList hu'⟩
   |tup ds=>
    obtain⟨p,xs,rfl,q,r⟩:=rb
    cases(show v=Value.ref p from ry)
    obtain⟨its,rv,pl,hz⟩:=I.tuple (SqT.of (fz _ _ q))
    exact⟨.bool_tuple _ pl hu',.bool_tuple _ pl hu'⟩
   |scr _=>simp[noS]at nb
   |exc _=>simp[noS]at nb
   |dic _ _=>simp[noS]at nb
   |dit _ _=>simp[noS]at nb
  |int c0=>
   cases(show x=V.int c0 from ra);obtain⟨t0,rfl⟩:=rx
   cases b with
   |non=>cases(show y=V.non from rb);cases(show v=Value.none from ry);exact⟨.int_none _ _,.int_none _ _⟩
   |bl c=>cases(show y=V.bl c from rb);cases(show v=Value.bool c from ry);exact⟨.int_bool _ _ _,.int_bool _ _ _⟩
   |int c=>cases(show y=V.int c from rb);obtain⟨t,rfl⟩:=ry;exact⟨.int_int _ _ _ _,.int_int _ _ _ _⟩
   |str c=>cases(show y=V.str c from rb);obtain⟨t,rfl⟩:=ry;exact⟨.int_str _ _ _ _,.int_str _ _ _ _⟩
   |lst ds=>
    obtain⟨p,xs,rfl,q,r⟩:=rb
    cases(show v=Value.ref p from ry)
    obtain⟨its,rv,pl,hz⟩:=I.list (SqL.of (fz _ _ q))
    exact⟨.int_list _ _ pl.isList hu',.int_list _ _ pl.isList hu'⟩
   |tup ds=>
    obtain⟨p,xs,rfl,q,r⟩:=rb
    cases(show v=Value.ref p from ry)
    obtain⟨its,rv,pl,hz⟩:=I.tuple (SqT.of (fz _ _ q))
    exact⟨.int_tuple _ _ pl hu',.int_tuple _ _ pl hu'⟩
   |scr _=>simp[noS]at nb
   |exc _=>simp[noS]at nb
   |dic _ _=>simp[noS]at nb
   |dit _ _=>simp[noS]at nb
  |str c0=>
   cases(show x=V.str c0 from ra);obtain⟨t0,rfl⟩:=rx
   cases b with
   |non=>cases(show y=V.non from rb);cases(show v=Value.none from ry);exact⟨.str_none _ _,.str_none _ _⟩
   |bl c=>cases(show y=V.bl c from rb);cases(show v=Value.bool c from ry);exact⟨.str_bool _ _ _,.str_bool _ _ _⟩
   |int c=>cases(show y=V.int c from rb);obtain⟨t,rfl⟩:=ry;exact⟨.str_int _ _ _ _,.str_int _ _ _ _⟩
   |str c=>cases(show y=V.str c from rb);obtain⟨t,rfl⟩:=ry;exact⟨.str_str _ _ _ _,.str_str _ _ _ _⟩
   |lst ds=>
    obtain⟨p,xs,rfl,q,r⟩:=rb
    cases(show v=Value.ref p from ry)
    obtain⟨its,rv,pl,hz⟩:=I.list (SqL.of (fz _ _ q))
    exact⟨.str_list _ _ pl.isList hu',.str_list _ _ pl.isList hu'⟩
   |tup ds=>
    obtain⟨p,xs,rfl,q,r⟩:=rb
    cases(show v=Value.ref p from ry)
    obtain⟨its,rv,pl,hz⟩:=I.tuple (SqT.of (fz _ _ q))
    exact⟨.str_tuple _ _ pl hu',.str_tuple _ _ pl hu'⟩
   |scr _=>simp[noS]at nb
   |exc _=>simp[noS]at nb
   |dic _ _=>simp[noS]at nb
   |dit _ _=>simp[noS]at nb
  |lst ds=>simp[depth]at hd
  |tup ds=>simp[depth]at hd
  |scr _=>simp[noS]at na
  |exc _=>simp[noS]at na
  |dic _ _=>simp[noS]at na
  |dit _ _=>simp[noS]at na
 |succ n ih=>
  intro A a b x y u v hd na nb hu ra rb rx ry
  have hu':A.units<cLine:=by lia
  have items:∀(ds es:List D) (xs ys:List V) (its its2:List Value),zi6 ds<=n->noSL ds=true->noSL es=true->RepL X.K G xs ds->RepL X.K G ys es->Vals xs its->Vals ys its2->
    ∀j (h1:j<its.toArray.size) (h2:j<its2.toArray.size),SeqAt.EqAt A.in1 s its.toArray[j] its2.toArray[j] (eqJ ds es j):=by
   intro ds es xs ys its its2 hd nd ne r r2 rv rv2 j h1 h2
   simp only[List.size_toArray]at h1 h2
   obtain⟨x1,d1,e1,k1,m1⟩:=zlH rv r (j:=j) (u:=its[j]) (List.getElem?_eq_getElem h1)
   obtain⟨x2,d2,e2,k2,m2⟩:=zlH rv2 r2 (j:=j) (u:=its2[j]) (List.getElem?_eq_getElem h2)
   have e:eqJ ds es j=eqB d1 d2:=by unfold eqJ;rw[e1,e2]
   rw[e]
   have:=ziC e1
   simpa using(ih A.in1 d1 d2 x1 x2 _ _ (by lia) (zhY e1 nd) (zhY e2 ne) (by show A.units+1+n+1<cLine;lia) m1 m2 k1 k2).1
  cases a with
  |scr _=>simp[noS]at na
  |exc _=>simp[noS]at na
  |dic _ _=>simp[noS]at na
  |dit _ _=>simp[noS]at na
  |non=>exact ih A .non b x y u v (Nat.zero_le _) na nb (by lia) ra rb rx ry
  |bl c=>exact ih A (.bl c) b x y u v (Nat.zero_le _) na nb (by lia) ra rb rx ry
  |int c=>exact ih A (.int c) b x y u v (Nat.zero_le _) na nb (by lia) ra rb rx ry
  |str c=>exact ih A (.str c) b x y u v (Nat.zero_le _) na nb (by lia) ra rb rx ry
  |lst ds=>
   have ra0:=ra
   obtain⟨p,xs,rfl,q,r⟩:=ra
   cases(show u=Value.ref p from rx)
   obtain⟨its,rv,pl,hz⟩:=I.list (SqL.of (fz _ _ q))
   cases b with
   |non=>cases(show y=V.non from rb);cases(show v=Value.none from ry);exact⟨.list_none pl.isList hu',.list_none pl.isList hu'⟩
   |bl c=>cases(show y=V.bl c from rb);cases(show v=Value.bool c from ry);exact⟨.list_bool _ pl.isList hu',.list_bool _ pl.isList hu'⟩
   |int c=>cases(show y=V.int c from rb);obtain⟨t,rfl⟩:=ry;exact⟨.list_int _ _ pl.isList hu',.list_int _ _ pl.isList hu'⟩
   |str c=>cases(show y=V.str c from rb);obtain⟨t,rfl⟩:=ry;exact⟨.list_str _ _ pl.isList hu',.list_str _ _ pl.isList hu'⟩
   |scr _=>simp[noS]at nb
   |exc _=>simp[noS]at nb
   |dic _ _=>simp[noS]at nb
   |dit _ _=>simp[noS]at nb
   |tup es=>
    obtain⟨p2,ys,rfl,q2,r2⟩:=rb
    cases(show v=Value.ref p2 from ry)
    obtain⟨its2,rv2,pl2,hz2⟩:=I.tuple (SqT.of (fz _ _ q2))
    exact⟨.list_tuple pl.isList pl2 hu',.list_tuple pl.isList pl2 hu'⟩
   |lst es=>
    have rb0:=rb
    obtain⟨p2,ys,rfl,q2,r2⟩:=rb
    cases(show v=Value.ref p2 from ry)
    obtain⟨its2,rv2,pl2,hz2⟩:=I.list (SqL.of (fz _ _ q2))
    simp only[depth]at hd
    have l1:=rv.length;have l2:=r.length;have l3:=rv2.length;have l4:=r2.length
    have rc:SeqAt.RcAt A s (.ref p) (.ref p2) (eqBL ds es):=by
     by_cases hl:ds.length=es.length
     ·have z:=SeqAt.RcAt.lists (A:=A) (s:=s) (e:=eqJ ds es) pl.isList pl2.isList (by simp only[List.size_toArray];lia) hu' (items ds es xs ys its its2 (by lia) (by simpa only[noS]using na) (by simpa only[noS]using nb) r r2 rv rv2)
      rw[List.size_toArray,<-l1,l2,zeC ds es hl]at z
      exact z
     ·rw[zhZ hl]
      refine .lists_lengths pl.isList pl2.isList ?_ hu'
      simp only[List.size_toArray,bne_iff_ne,ne_eq]
      lia
    refine⟨?_,by simp only[eqB];exact rc⟩
    by_cases hp:p=p2
    ·subst hp
     have e:=RepD.inj na nb ra0 rb0
     cases e
     rw[zmc _ na]
     exact .same _
    ·simp only[eqB]
     exact .of_refs hp rc
  |tup ds=>
   have ra0:=ra
   obtain⟨p,xs,rfl,q,r⟩:=ra
   cases(show u=Value.ref p from rx)
   obtain⟨its,rv,pl,hz⟩:=I.tuple (SqT.of (fz _ _ q))
   cases b with
   |non=>cases(show y=V.non from rb);cases(show v=Value.none from ry);exact⟨.tuple_none pl hu',.tuple_none pl hu'⟩
   |bl c=>cases(show y=V.bl c from rb);cases(show v=Value.bool c from ry);exact⟨.tuple_bool _ pl hu',.tuple_bool _ pl hu'⟩
   |int c=>cases(show y=V.int c from rb);obtain⟨t,rfl⟩:=ry;exact⟨.tuple_int _ _ pl hu',.tuple_int _ _ pl hu'⟩
   |str c=>cases(show y=V.str c from rb);obtain⟨t,rfl⟩:=ry;exact⟨.tuple_str _ _ pl hu',.tuple_str _ _ pl hu'⟩
   |scr _=>simp[noS]at nb
   |exc _=>simp[noS]at nb
   |dic _ _=>simp[noS]at nb
   |dit _ _=>simp[noS]at nb
   |lst es=>
    obtain⟨p2,ys,rfl,q2,r2⟩:=rb
    cases(show v=Value.ref p2 from ry)
    obtain⟨its2,rv2,pl2,hz2⟩:=I.list (SqL.of (fz _ _ q2))
    exact⟨.tuple_list pl pl2.isList hu',.tuple_list pl pl2.isList hu'⟩
   |tup es=>
    have rb0:=rb
    obtain⟨p2,ys,rfl,q2,r2⟩:=rb
    cases(show v=Value.ref p2 from ry)
    obtain⟨its2,rv2,pl2,hz2⟩:=I.tuple (SqT.of (fz _ _ q2))
    simp only[depth]at hd
    have l1:=rv.length;have l2:=r.length;have l3:=rv2.length;have l4:=r2.length
    have rc:SeqAt.RcAt A s (.ref p) (.ref p2) (eqBL ds es):=by
     have z:=SeqAt.RcAt.tuples (A:=A) (s:=s) (e:=eqJ ds es) pl pl2 hu' (items ds es xs ys its its2 (by lia) (by simpa only[noS]using na) (by simpa only[noS]using nb) r r2 rv rv2)
     simp only[List.size_toArray]at z
     by_cases hl:ds.length=es.length
     ·have e1:min its.length its2.length=ds.length:=by lia
      have e2:(its.length==its2.length)=true:=by simp;lia
      rw[e1,e2,Bool.and_true,zeC ds es hl]at z
      exact z
     ·have e2:(its.length==its2.length)=false:=by simp;lia
      rw[e2,Bool.and_false]at z
      rw[zhZ hl]
      exact z
    refine⟨?_,by simp only[eqB];exact rc⟩
    by_cases hp:p=p2
    ·subst hp
     have e:=RepD.inj na nb ra0 rb0
     cases e
     rw[zmc _ na]
     exact .same _
    ·simp only[eqB]
     exact .of_refs hp rc
end
noncomputable def dEq (a b:D):Option D:=if noS a&&noS b&&decide (depth a<=50)then some (.bl (eqB a b))else none
noncomputable def dNe (a b:D):Option D:=if noS a&&noS b&&decide (depth a<=50)then some (.bl (!eqB a b))else none
noncomputable def rEqD (K:W.Frag)(c:Bool->Bool):R2:=fun x y H Q=>∃G a b,Fz G H/\RepD K G x a/\RepD K G y b/\noS a=true/\noS b=true/\depth a<=50/\Q (.bl (c (eqB a b))) H
theorem op_eqD (hu:X.A.units+64<cLine):OpR X (compareOp .Eq) (rEqD X.K id):=by
 intro pins s σ H x y v u Q I rx ry h
 obtain⟨G,a,b,fz,ra,rb,na,nb,hd,q⟩:=h
 exact(eqAt_D I fz 50 X.A a b x y v u hd na nb (by lia) ra rb rx ry).2 _ _ _ _ ⟨.bl _,H,I,rfl,q⟩
theorem zo1 {ma mb:ME}(hu:X.A.units+64<cLine)(ha:SE X a ma)(hb:SE X b mb):SE X (.Compare a [.Eq] [b] pos) (m2 dEq ma mb):=by
 refine zm1 (op_eqD hu) (fun B G H σ ρ x y a b d Q I ra rb hf k=>?_) ha hb (zi8 _)
 unfold dEq at hf
 split at hf
 ·rename_i h
  simp only[Bool.and_eq_true,decide_eq_true_eq]at h
  cases hf
  exact⟨G,a,b,I.fz,ra,rb,h.1.1,h.1.2,h.2,k G H _ I (Fz.refl G) rfl⟩
 ·cases hf
section
variable {X:Cx} {pins:List (Addr×Obj)} {σ:St} {H G:Hp} {s:Shared}
theorem neAt_D (I:Inv X pins σ H s)(fz:Fz G H)(A:Around)(a b:D)(x y:V)(u v:Value)(hd:depth a<=50)(na:noS a=true)(nb:noS b=true)(hu:A.units+64<cLine)(ra:RepD X.K G x a)(rb:RepD X.K G y b)(rx:RelV x u)(ry:RelV y v):
  SeqAt.RcNeAt A s u v (!eqB a b):=by
 have hu':A.units<cLine:=by lia
 have items:∀(ds es:List D) (xs ys:List V) (its its2:List Value),zi6 ds<=49->noSL ds=true->noSL es=true->RepL X.K G xs ds->RepL X.K G ys es->Vals xs its->Vals ys its2->
   ∀j (h1:j<its.toArray.size) (h2:j<its2.toArray.size),SeqAt.EqAt A.in1 s its.toArray[j] its2.toArray[j] (eqJ ds es j):=by
  intro ds es xs ys its its2 hd nd ne r r2 rv rv2 j h1 h2
  simp only[List.size_toArray]at h1 h2
  obtain⟨x1,d1,e1,k1,m1⟩:=zlH rv r (j:=j) (u:=its[j]) (List.getElem?_eq_getElem h1)
  obtain⟨x2,d2,e2,k2,m2⟩:=zlH rv2 r2 (j:=j) (u:=its2[j]) (List.getElem?_eq_getElem h2)
  have e:eqJ ds es j=eqB d1 d2:=by unfold eqJ;rw[e1,e2]
  rw[e]
  have:=ziC e1
  simpa using(eqAt_D I fz 49 A.in1 d1 d2 x1 x2 _ _ (by lia) (zhY e1 nd) (zhY e2 ne) (by show A.units+1+49+1<cLine;lia) m1 m2 k1 k2).1
 cases a with
 |scr _=>simp[noS]at na
 |exc _=>simp[noS]at na
 |dic _ _=>simp[noS]at na
 |dit _ _=>simp[noS]at na
 |non=>
  cases(show x=V.non from ra);cases(show u=Value.none from rx)
  cases b with
  |non=>cases(show y=V.non from rb);cases(show v=Value.none from ry);exact .none_none
  |bl c=>cases(show y=V.bl c from rb);cases(show v=Value.bool c from ry);exact .none_bool _
  |int c=>cases(show y=V.int c from rb);obtain⟨t,rfl⟩:=ry;exact .none_int _ _
  |str c=>cases(show y=V.str c from rb);obtain⟨t,rfl⟩:=ry;exact .none_str _ _
  |lst ds=>
   obtain⟨p,xs,rfl,q,r⟩:=rb
   cases(show v=Value.ref p from ry)
   obtain⟨its,rv,pl,hz⟩:=I.list (SqL.of (fz _ _ q))
   exact .none_list pl.isList hu'
  |tup ds=>
   obtain⟨p,xs,rfl,q,r⟩:=rb
   cases(show v=Value.ref p from ry)
   obtain⟨its,rv,pl,hz⟩:=I.tuple (SqT.of (fz _ _ q))
   exact .none_tuple pl hu'
  |scr _=>simp[noS]at nb
  |exc _=>simp[noS]at nb
  |dic _ _=>simp[noS]at nb
  |dit _ _=>simp[noS]at nb
 |bl c0=>
  cases(show x=V.bl c0 from ra);cases(show u=Value.bool c0 from rx)
  cases b with
  |non=>cases(show y=V.non from rb);cases(show v=Value.none from ry);exact .bool_none _
  |bl c=>cases(show y=V.bl c from rb);cases(show v=Value.bool c from ry);exact .bool_bool _ _
  |int c=>cases(show y=V.int c from rb);obtain⟨t,rfl⟩:=ry;exact .bool_int _ _ _
  |str c=>cases(show y=V.str c from rb);obtain⟨t,rfl⟩:=ry;exact .bool_str _ _ _
  |lst ds=>
   obtain⟨p,xs,rfl,q,r⟩:=rb
   cases(show v=Value.ref p from ry)
   obtain⟨its,rv,pl,hz⟩:=I.list (SqL.of (fz _ _ q))
   exact .bool_list _ pl.isList hu'
  |tup ds=>
   obtain⟨p,xs,rfl,q,r⟩:=rb
   cases(show v=Value.ref p from ry)
   obtain⟨its,rv,pl,hz⟩:=I.tuple (SqT.of (fz _ _ q))
   exact .bool_tuple _ pl hu'
  |scr _=>simp[noS]at nb
  |exc _=>simp[noS]at nb
  |dic _ _=>simp[noS]at nb
  |dit _ _=>simp[noS]at nb
 |int c0=>
  cases(show x=V.int c0 from ra);obtain⟨t0,rfl⟩:=rx
  cases b with
  |non=>cases(show y=V.non from rb);cases(show v=Value.none from ry);exact .int_none _ _
  |bl c=>cases(show y=V.bl c from rb);cases(show v=Value.bool c from ry);exact .int_bool _ _ _
  |int c=>cases(show y=V.int c from rb);obtain⟨t,rfl⟩:=ry;exact .int_int _ _ _ _
  |str c=>cases(show y=V.str c from rb);obtain⟨t,rfl⟩:=ry;exact .int_str _ _ _ _
  |lst ds=>
   obtain⟨p,xs,rfl,q,r⟩:=rb
   cases(show v=Value.ref p from ry)
   obtain⟨its,rv,pl,hz⟩:=I.list (SqL.of (fz _ _ q))
   exact .int_list _ _ pl.isList hu'
  |tup ds=>
   obtain⟨p,xs,rfl,q,r⟩:=rb
   cases(show v=Value.ref p from ry)
   obtain⟨its,rv,pl,hz⟩:=I.tuple (SqT.of (fz _ _ q))
   exact .int_tuple _ _ pl hu'
  |scr _=>simp[noS]at nb
  |exc _=>simp[noS]at nb
  |dic _ _=>simp[noS]at nb
  |dit _ _=>simp[noS]at nb
 |str c0=>
  cases(show x=V.str c0 from ra);obtain⟨t0,rfl⟩:=rx
  cases b with
  |non=>cases(show y=V.non from rb);cases(show v=Value.none from ry);exact .str_none _ _
  |bl c=>cases(show y=V.bl c from rb);cases(show v=Value.bool c from ry);exact .str_bool _ _ _
  |int c=>cases(show y=V.int c from rb);obtain⟨t,rfl⟩:=ry;exact .str_int _ _ _ _
  |str c=>cases(show y=V.str c from rb);obtain⟨t,rfl⟩:=ry;exact .str_str _ _ _ _
  |lst ds=>
   obtain⟨p,xs,rfl,q,r⟩:=rb
   cases(show v=Value.ref p from ry)
   obtain⟨its,rv,pl,hz⟩:=I.list (SqL.of (fz _ _ q))
   exact .str_list _ _ pl.isList hu'
  |tup ds=>
   obtain⟨p,xs,rfl,q,r⟩:=rb
   cases(show v=Value.ref p from ry)
   obtain⟨its,rv,pl,hz⟩:=I.tuple (SqT.of (fz _ _ q))
   exact .str_tuple _ _ pl hu'
  |scr _=>simp[noS]at nb
  |exc _=>simp[noS]at nb
  |dic _ _=>simp[noS]at nb
  |dit _ _=>simp[noS]at nb
 |lst ds=>
  obtain⟨p,xs,rfl,q,r⟩:=ra
  cases(show u=Value.ref p from rx)
  obtain⟨its,rv,pl,hz⟩:=I.list (SqL.of (fz _ _ q))
  cases b with
  |non=>cases(show y=V.non from rb);cases(show v=Value.none from ry);exact .list_none pl.isList hu'
  |bl c=>cases(show y=V.bl c from rb);cases(show v=Value.bool c from ry);exact .list_bool _ pl.isList hu'
  |int c=>cases(show y=V.int c from rb);obtain⟨t,rfl⟩:=ry;exact .list_int _ _ pl.isList hu'
  |str c=>cases(show y=V.str c from rb);obtain⟨t,rfl⟩:=ry;exact .list_str _ _ pl.isList hu'
  |scr _=>simp[noS]at nb
  |exc _=>simp[noS]at nb
  |dic _ _=>simp[noS]at nb
  |dit _ _=>simp[noS]at nb
  |tup es=>
   obtain⟨p2,ys,rfl,q2,r2⟩:=rb
   cases(show v=Value.ref p2 from ry)
   obtain⟨its2,rv2,pl2,hz2⟩:=I.tuple (SqT.of (fz _ _ q2))
   exact .list_tuple pl.isList pl2 hu'
  |lst es=>
   obtain⟨p2,ys,rfl,q2,r2⟩:=rb
   cases(show v=Value.ref p2 from ry)
   obtain⟨its2,rv2,pl2,hz2⟩:=I.list (SqL.of (fz _ _ q2))
   simp only[depth]at hd
   have l1:=rv.length;have l2:=r.length;have l3:=rv2.length;have l4:=r2.length
   simp only[eqB]
   by_cases hl:ds.length=es.length
   ·have z:=SeqAt.RcNeAt.lists (A:=A) (s:=s) (e:=eqJ ds es) pl.isList pl2.isList (by simp only[List.size_toArray];lia) hu' (items ds es xs ys its its2 (by lia) (by simpa only[noS]using na) (by simpa only[noS]using nb) r r2 rv rv2)
    rw[List.size_toArray,<-l1,l2,zeC ds es hl]at z
    exact z
   ·rw[zhZ hl]
    refine .lists_lengths pl.isList pl2.isList ?_ hu'
    simp only[List.size_toArray,bne_iff_ne,ne_eq]
    lia
 |tup ds=>
  obtain⟨p,xs,rfl,q,r⟩:=ra
  cases(show u=Value.ref p from rx)
  obtain⟨its,rv,pl,hz⟩:=I.tuple (SqT.of (fz _ _ q))
  cases b with
  |non=>cases(show y=V.non from rb);cases(show v=Value.none from ry);exact .tuple_none pl hu'
  |bl c=>cases(show y=V.bl c from rb);cases(show v=Value.bool c from ry);exact .tuple_bool _ pl hu'
  |int c=>cases(show y=V.int c from rb);obtain⟨t,rfl⟩:=ry;exact .tuple_int _ _ pl hu'
  |str c=>cases(show y=V.str c from rb);obtain⟨t,rfl⟩:=ry;exact .tuple_str _ _ pl hu'
  |scr _=>simp[noS]at nb
  |exc _=>simp[noS]at nb
  |dic _ _=>simp[noS]at nb
  |dit _ _=>simp[noS]at nb
  |lst es=>
   obtain⟨p2,ys,rfl,q2,r2⟩:=rb
   cases(show v=Value.ref p2 from ry)
   obtain⟨its2,rv2,pl2,hz2⟩:=I.list (SqL.of (fz _ _ q2))
   exact .tuple_list pl pl2.isList hu'
  |tup es=>
   obtain⟨p2,ys,rfl,q2,r2⟩:=rb
   cases(show v=Value.ref p2 from ry)
   obtain⟨its2,rv2,pl2,hz2⟩:=I.tuple (SqT.of (fz _ _ q2))
   simp only[depth]at hd
   have l1:=rv.length;have l2:=r.length;have l3:=rv2.length;have l4:=r2.length
   have z:=SeqAt.RcNeAt.tuples (A:=A) (s:=s) (e:=eqJ ds es) pl pl2 hu' (items ds es xs ys its its2 (by lia) (by simpa only[noS]using na) (by simpa only[noS]using nb) r r2 rv rv2)
   simp only[List.size_toArray]at z
   simp only[eqB]
   by_cases hl:ds.length=es.length
   ·have e1:min its.length its2.length=ds.length:=by lia
    have e2:(its.length==its2.length)=true:=by simp;lia
    rw[e1,e2,Bool.and_true,zeC ds es hl]at z
    exact z
   ·have e2:(its.length==its2.length)=false:=by simp;lia
    rw[e2,Bool.and_false]at z
    rw[zhZ hl]
    exact z
end
theorem op_neD (hu:X.A.units+64<cLine):OpR X (compareOp .NotEq) (rEqD X.K not):=by
 intro pins s σ H x y v u Q I rx ry h
 obtain⟨G,a,b,fz,ra,rb,na,nb,hd,q⟩:=h
 exact neAt_D I fz X.A a b x y v u hd na nb hu ra rb rx ry _ _ _ _ ⟨.bl _,H,I,rfl,q⟩
theorem v2_ne:V2 X (rEqD X.K not) dNe:=by
 intro B G H σ ρ x y a b d Q I ra rb hf k
 unfold dNe at hf
 split at hf
 ·rename_i h
  simp only[Bool.and_eq_true,decide_eq_true_eq]at h
  cases hf
  exact⟨G,a,b,I.fz,ra,rb,h.1.1,h.1.2,h.2,k G H _ I (Fz.refl G) rfl⟩
 ·cases hf
theorem v2_eq:V2 X (rEqD X.K id) dEq:=by
 intro B G H σ ρ x y a b d Q I ra rb hf k
 unfold dEq at hf
 split at hf
 ·rename_i h
  simp only[Bool.and_eq_true,decide_eq_true_eq]at h
  cases hf
  exact⟨G,a,b,I.fz,ra,rb,h.1.1,h.1.2,h.2,k G H _ I (Fz.refl G) rfl⟩
 ·cases hf
theorem se_ne {ma mb:ME}(hu:X.A.units+64<cLine)(ha:SE X a ma)(hb:SE X b mb):SE X (.Compare a [.NotEq] [b] pos) (m2 dNe ma mb):=
 zm1 (op_neD hu) v2_ne ha hb (zi8 _)
noncomputable def dIx:D->D->Option D
 | .lst ds,.int i=>atI ds i
 | .tup ds,.int i=>atI ds i
 | .scr ns,.int i=>(atI ns i).map .int
 |_,_=>none
theorem atI_map {α β:Type}(f:α->β){xs:List α}{i:Int}{v:α}(h:atI xs i=some v):atI (xs.map f) i=some (f v):=by
 unfold atI at h ⊢
 rw[List.length_map]
 cases q:ixN xs.length i with
 |none=>rw[q]at h;cases h
 |some j=>
  rw[q]at h
  show(xs.map f)[j]? =_
  rw[List.getElem?_map,show xs[j]? =some v from h]
  rfl
noncomputable def ReadD (K:W.Frag)(G H:Hp)(v:V):D->Prop
 | .lst ds=>∃a xs,v= .ref a/\H a=some (.lst xs)/\RepL K G xs ds
 |d=>RepD K G v d
theorem ReadD.of (fz:Fz G H)(h:RepD K G v d):ReadD K G H v d:=by
 cases d with
 |lst ds=>obtain⟨a,xs,e,q,r⟩:=h;exact⟨a,xs,e,fz a _ q,r⟩
 |_=>exact h
noncomputable def Sl.read:Sl->Option D
 | .emp=>none
 | .two _ _=>none
 | .tre _=>none
 | .ptr _=>none
 | .val d=>some d
 | .own ds=>some (.lst ds)
 | .par ds=>some (.lst ds)
noncomputable def hasV (ρ:R)(j:Nat):Bool:=match ρ[j]? with
 |some (.val _)=>true
 |some (.own _)=>true
 |some (.par _)=>true
 |_=>false
theorem SI.has (I:SI K B G H σ ρ)(h:hasV ρ j=true):∃v,σ[j]? =some (some v):=by
 unfold hasV at h
 cases e:ρ[j]? with
 |none=>rw[e]at h;cases h
 |some s=>
  rw[e]at h
  have q:=I.slot j s e
  cases s with
  |emp=>cases h
  |two _ _=>cases h
  |tre _=>cases h
  |ptr _=>cases h
  |val d=>obtain⟨v,e,_⟩:=q;exact⟨v,e⟩
  |own d=>obtain⟨l,_,e,_⟩:=q;exact⟨_,e⟩
  |par d=>obtain⟨l,_,e,_⟩:=q;exact⟨_,e⟩
theorem SI.read (I:SI K B G H σ ρ)(hv:σ[j]? =some (some v))(e:ρ[j]? =some s)(q:s.read=some d):ReadD K G H v d:=by
 have h:=I.slot j s e
 cases s with
 |emp=>cases q
 |two _ _=>cases q
 |tre _=>cases q
 |ptr _=>cases q
 |val d'=>
  cases q
  obtain⟨w,e1,r⟩:=h
  rw[hv]at e1;cases e1
  exact .of I.fz r
 |own ds=>
  cases q
  obtain⟨l,xs,e1,_,h3,h4,_⟩:=h
  rw[hv]at e1;cases e1
  exact⟨l,xs,rfl,h3,h4⟩
 |par ds=>
  cases q
  obtain⟨l,xs,e1,_,h3,h4,_⟩:=h
  rw[hv]at e1;cases e1
  exact⟨l,xs,rfl,h3,h4⟩
theorem znk {x y:V}{a b d:D}{Q:VK}(I:SI K B G H σ ρ)(ra:ReadD K G H x a)(rb:RepD K G y b)(hf:dIx a b=some d)(k:∀v,RepD K G v d->Q v H):rIx K x y H Q:=by
 cases a<;>cases b<;>simp only[dIx]at hf<;>try cases hf
 ·rename_i ds i
  obtain⟨p,xs,rfl,hp,r⟩:=ra
  obtain⟨v,e,q⟩:=r.at hf
  exact .inl ⟨p,xs,i,v,rfl,rb,SqL.of hp,e,k _ q⟩
 ·rename_i ds i
  obtain⟨p,xs,rfl,hp,r⟩:=I.tup ra
  obtain⟨v,e,q⟩:=r.at hf
  exact .inr (.inl ⟨p,xs,i,v,rfl,rb,SqT.of hp,e,k _ q⟩)
 ·rename_i ns i
  obtain⟨p,rfl,hp⟩:=ra
  cases e:atI ns i with
  |none=>rw[e]at hf;cases hf
  |some n=>
   rw[e]at hf
   cases hf
   exact .inl ⟨p,_,i,.int n,rfl,rb,I.fz.sql hp,atI_map V.int e,k _ rfl⟩
theorem v2_ix:V2 X (rIx X.K) dIx:=fun B G H σ ρ x y a b d Q I ra rb hf k=>znk I (.of I.fz ra) rb hf fun v q=>k G H v I (Fz.refl G) q
theorem zbJ {ma mb:ME}(ha:SE X a ma)(hb:SE X b mb)(hs:autoParam (zlM b) zu6._auto_1):SE X (.Subscript a b pos) (m2 dIx ma mb):=se_ix zrn v2_ix ha hb hs
noncomputable def eIxV (j:Nat)(mi:ME):ME:=fun ρ=>if hasV ρ j then(mi ρ).bind fun p=>(p.2[j]?.bind Sl.read).bind fun d=>(dIx d p.1).map fun e=>(e,p.2)else none
theorem zak (j:Nat)(hb:SE X b mb)(hN:autoParam (X.N[j]? =some x) zu2._auto_1)(hv:autoParam (Vis X.env.scope x) zu5._auto_1)(hd:autoParam ((x==("__debug__":Str))=false) zu1._auto_1)
    (hcd:autoParam ((x==("__classdict__":Str))=false) zu1._auto_1) (hs:autoParam (zlM b) zu6._auto_1):SE X (.Subscript (.Name x pos') b pos) (eIxV j mb):=by
  obtain⟨tb,pb,sb⟩:=hb
  refine⟨_,pe_ix zrn (zfw hN hv hd hcd) pb hs,fun B G H σ ρ d ρ' Q I hm k=>?_⟩
  unfold eIxV at hm
  split at hm
  . rename_i hh
    obtain⟨v,ev⟩:=I.has hh
    cases e1:mb ρ with
    |none=>rw[e1]at hm;cases hm
    |some q=>
      obtain⟨i,ρ1⟩:=q
      rw[e1]at hm
      simp only[Option.bind_some]at hm
      cases e2:ρ1[j]? with
      |none=>rw[e2]at hm;cases hm
      |some s=>
        rw[e2]at hm
        simp only[Option.bind_some]at hm
        cases e3:s.read with
        |none=>rw[e3]at hm;cases hm
        |some a=>
          rw[e3]at hm
          simp only[Option.bind_some]at hm
          cases e4:dIx a i with
          |none=>rw[e4]at hm;cases hm
          |some c=>
            rw[e4]at hm
            cases hm
            exact⟨v,ev,sb B G H σ ρ i ρ' _ I e1 fun G1 H1 y I1 f1 r1=>znk I1 (I1.read ev e2 e3) r1 e4 fun w q=>k G1 H1 w I1 f1 q⟩
  . cases hm
noncomputable def dLen:List D->Option D
 |[.lst ds]=>some (.int ds.length)
 |[.tup ds]=>some (.int ds.length)
 |[.scr ns]=>some (.int ns.length)
 |_=>none
theorem zn6 {x:V}{a d:D}{Q:VK}(I:SI K B G H σ ρ)(ra:ReadD K G H x a)(hf:dLen [a]=some d)(k:∀v,RepD K G v d->Q v H):
  ∃p ys,[x]=[V.ref p]/\(SqL K H p ys\/SqT K H p ys)/\Q (.int ys.length) H:=by
 cases a<;>simp only[dLen]at hf<;>try cases hf
 ·obtain⟨p,xs,rfl,hp,r⟩:=ra
  exact⟨p,xs,rfl,.inl (SqL.of hp),by rw[r.length];exact k _ rfl⟩
 ·obtain⟨p,xs,rfl,hp,r⟩:=I.tup ra
  exact⟨p,xs,rfl,.inr (SqT.of hp),by rw[r.length];exact k _ rfl⟩
 ·obtain⟨p,rfl,hp⟩:=ra
  exact⟨p,_,rfl,.inl (I.fz.sql hp),by rw[List.length_map];exact k _ rfl⟩
theorem RepL.one (h:RepL K G xs [d]):∃x,xs=[x]/\RepD K G x d:=by
 obtain⟨x,ys,e,q,r⟩:=h
 cases(show ys=[]from r)
 exact⟨x,e,q⟩
theorem RepL.two {a b:D}(h:RepL K G xs [a,b]):∃x y,xs=[x,y]/\RepD K G x a/\RepD K G y b:=by
 obtain⟨x,ys,e,q,r⟩:=h
 obtain⟨y,e2,q2⟩:=r.one
 subst e2
 exact⟨x,y,e,q,q2⟩
theorem dLen_one (h:dLen ds=some d):∃a,ds=[a]:=by
 match ds,h with
 |[a],_=>exact⟨a,rfl⟩
 |[],h=>cases h
 |_::_::_,h=>simp[dLen]at h
theorem vc_len:VC X (fun xs H Q=>∃p ys,xs=[.ref p]/\(SqL X.K H p ys\/SqT X.K H p ys)/\Q (.int ys.length) H) dLen:=by
 intro B G H σ ρ xs ds d Q I r hf k
 obtain⟨a,rfl⟩:=dLen_one hf
 obtain⟨x,rfl,ra⟩:=r.one
 exact zn6 I (.of I.fz ra) hf fun v q=>k G H v I (Fz.refl G) q
theorem zms {p pos:Pos}(ml:X.mg "len"=none)(ha:SA X [e] ma)(hg:autoParam (Gl X "len") zu2._auto_1)(he:autoParam (starEach [e] X.env=(false,eval e X.env)::starEach [] X.env) zu2._auto_1):SE X (.Call (.Name "len" p) [e] [] pos) (mC dLen ma):=
 ze5 zja vc_len PySem.boot_len ml ha hg (by decide) (by decide) he rfl
noncomputable def zcq (j:Nat):ME:=fun ρ=>(ρ[j]?.bind Sl.read).bind fun d=>(dLen [d]).map fun e=>(e,ρ)
theorem za2 {p pos pos':Pos}(j:Nat)(ml:X.mg "len"=none)(hN:autoParam (X.N[j]? =some x) zu2._auto_1)(hv:autoParam (Vis X.env.scope x) zu5._auto_1)(hd:autoParam ((x==("__debug__":Str))=false) zu1._auto_1)
  (hcd:autoParam ((x==("__classdict__":Str))=false) zu1._auto_1) (hg:autoParam (Gl X "len") zu2._auto_1) (he:autoParam (starEach [.Name x pos'] X.env=(false,eval (.Name x pos') X.env)::starEach [] X.env) zu2._auto_1):SE X (.Call (.Name "len" p) [.Name x pos'] [] pos) (zcq j):=by
 refine⟨_,zjB zja hg ml PySem.boot_len (zbY (zfw hN hv hd hcd) zfj he) (by decide) (by decide) he rfl,fun B G H σ ρ d ρ' Q I hm k=>?_⟩
 unfold zcq at hm
 cases e2:ρ[j]? with
 |none=>rw[e2]at hm;cases hm
 |some s=>
  rw[e2]at hm
  simp only[Option.bind_some]at hm
  cases e3:s.read with
  |none=>rw[e3]at hm;cases hm
  |some a=>
   rw[e3]at hm
   simp only[Option.bind_some]at hm
   cases e4:dLen [a]with
   |none=>rw[e4]at hm;cases hm
   |some c=>
    rw[e4]at hm
    cases hm
    have hh:hasV ρ j=true:=by
     unfold hasV
     rw[e2]
     cases s<;>first|rfl|cases e3
    obtain⟨v,ev⟩:=I.has hh
    exact⟨v,ev,zn6 I (I.read ev e2 e3) e4 fun w q=>k G H w I (Fz.refl G) q⟩
noncomputable def zcf:List D->Option D
 |[.lst ds]=>some (.tup ds)
 |[.tup ds]=>some (.tup ds)
 |[.scr ns]=>some (.tup (ns.map .int))
 |_=>none
theorem vc_tuple:VC X (fun xs H Q=>∃p ys,xs=[.ref p]/\((SqL X.K H p ys/\∀l,H l=none->Q (.ref l) (upd H l (.tup ys)))\/(SqT X.K H p ys/\Q (.ref p) H))) zcf:=by
 intro B G H σ ρ xs ds d Q I r hf k
 match ds,hf with
 |[a],hf=>
  obtain⟨x,rfl,ra⟩:=r.one
  cases a<;>simp only[zcf]at hf<;>try cases hf
  ·obtain⟨p,ys,rfl,hp,q⟩:=I.lst ra
   refine⟨p,ys,rfl,.inl ⟨SqL.of hp,fun l hl=>?_⟩⟩
   obtain⟨I2,f2,r2⟩:=I.newT hl q
   exact k _ _ _ I2 f2 r2
  ·obtain⟨p,ys,e,hp,q⟩:=I.tup ra
   subst e
   exact⟨p,ys,rfl,.inr ⟨SqT.of hp,k G H _ I (Fz.refl G) ra⟩⟩
  ·obtain⟨p,rfl,hp⟩:=ra
   refine⟨p,_,rfl,.inl ⟨I.fz.sql hp,fun l hl=>?_⟩⟩
   obtain⟨I2,f2,r2⟩:=I.newT hl (RepL.ints _)
   exact k _ _ _ I2 f2 r2
 |[],hf=>cases hf
 |_::_::_,hf=>simp[zcf]at hf
theorem zb1 {p pos:Pos}(ml:X.mg "tuple"=none)(ha:SA X [e] ma)(hg:autoParam (Gl X "tuple") zu2._auto_1)(he:autoParam (starEach [e] X.env=(false,eval e X.env)::starEach [] X.env) zu2._auto_1)(hb:autoParam (bootBuiltins "tuple"=some (.type "tuple")) zu7._auto_1):
  SE X (.Call (.Name "tuple" p) [e] [] pos) (mC zcf ma):=
 zmC zl7 vc_tuple hb ml ha hg (by decide) (by decide) he rfl
noncomputable def zbj:List D->Option (List D)
 |[.lst ds]=>some ds
 |[.tup ds]=>some ds
 |[.scr ns]=>some (ns.map .int)
 |_=>none
noncomputable def oC (f:List D->Option (List D))(ma:MA):MO:=fun ρ=>(ma ρ).bind fun p=>(f p.1).map fun d=>(d,p.2)
theorem oC_inv {f:List D->Option (List D)}{d:List D}(h:oC f ma ρ=some (d,ρ')):∃a,ma ρ=some (a,ρ')/\f a=some d:=by
 unfold oC at h
 cases e1:ma ρ with
 |none=>rw[e1]at h;cases h
 |some p=>
  obtain⟨a,ρ1⟩:=p
  rw[e1]at h
  simp only[Option.bind_some]at h
  cases e3:f a with
  |none=>rw[e3]at h;cases h
  |some c=>rw[e3]at h;cases h;exact⟨a,rfl,e3⟩
theorem SI.newO (I:SI K B G H σ ρ)(hp:H p=none)(xs:List V):SI K B G (upd H p (.lst xs)) σ ρ/\G p=none/\(upd H p (.lst xs)) p=some (.lst xs)/\B.H p=none/\Nw K G (upd H p (.lst xs)) σ ρ p:=
 ⟨I.allocO hp _,I.fz.free hp,zaA,I.there p hp,I.nw_move (I.nw hp) fun i s a _ _ g h=>⟨g,zar fun z=>h (by rw[z];exact hp)⟩⟩
section
variable {X:Cx} {es:List Expr} {ma:MA} {pos:Pos}
noncomputable def eTup (ma:MA):ME:=fun ρ=>(ma ρ).bind fun p=>if p.1.length<=16777216 then some (.tup p.1,p.2)else none
theorem zbS {x1}(h:SA X es ma):SE X (.Tuple es x1 pos) (eTup ma):=by
 obtain⟨t,pa,sa⟩:=h
 refine⟨_,pe_tup pa,fun B G H σ ρ d ρ' Q I hm k=>?_⟩
 unfold eTup at hm
 cases e1:ma ρ with
 |none=>rw[e1]at hm;cases hm
 |some q=>
  obtain⟨ds,ρ1⟩:=q
  rw[e1]at hm
  simp only[Option.bind_some]at hm
  split at hm
  ·rename_i hl
   cases hm
   refine sa B G H σ ρ ds ρ' _ I e1 fun G1 H1 vs I1 f1 r1=>⟨by rw[r1.length,sizeLine_eq];exact hl,fun p hp=>?_⟩
   obtain⟨I2,f2,r2⟩:=I1.newT hp r1
   exact k _ _ _ I2 (f1.trans f2) r2
  ·cases hm
noncomputable def oLst (ma:MA):MO:=fun ρ=>(ma ρ).bind fun p=>if p.1.length<=16777216 then some (p.1,p.2)else none
theorem zbT (h:SA X es ma):SO X (.List es pos) (oLst ma):=by
 obtain⟨t,pa,sa⟩:=h
 refine⟨_,pe_lst pa,fun B G H σ ρ d ρ' Q I hm k=>?_⟩
 unfold oLst at hm
 cases e1:ma ρ with
 |none=>rw[e1]at hm;cases hm
 |some q=>
  obtain⟨ds,ρ1⟩:=q
  rw[e1]at hm
  simp only[Option.bind_some]at hm
  split at hm
  ·rename_i hl
   cases hm
   refine sa B G H σ ρ _ ρ' _ I e1 fun G1 H1 vs I1 f1 r1=>⟨by rw[r1.length,sizeLine_eq];exact hl,fun p hp=>?_⟩
   obtain⟨I2,g2,h2,b2,n2⟩:=I1.newO hp vs
   exact k G1 _ p vs I2 f1 g2 h2 r1 b2 n2
  ·cases hm
end
theorem zah {α β:Type}{o:Option α}{f:α->Option β}{b:β}(h:o.bind f=some b):∃a,o=some a/\f a=some b:=by
 cases o with
 |none=>cases h
 |some a=>exact⟨a,rfl,h⟩
theorem zau {α β:Type}{o:Option α}{f:α->β}{b:β}(h:o.map f=some b):∃a,o=some a/\f a=b:=by
 cases o with
 |none=>cases h
 |some a=>cases h;exact⟨a,rfl,rfl⟩
noncomputable def dTru:D->Option Bool
 | .bl b=>some b
 | .int i=>some (i !=0)
 | .non=>some false
 | .lst ds=>some (!ds.isEmpty)
 | .tup ds=>some (!ds.isEmpty)
 |_=>none
noncomputable def tTru (ma:ME):MT:=fun ρ=>(ma ρ).bind fun p=>(dTru p.1).map fun b=>(b,p.2)
section
variable {X:Cx} {a b c:Expr} {ma mb mc:ME} {pos:Pos}
theorem zqm (h:RepL K G xs ds):(!xs.isEmpty)=!ds.isEmpty:=by
 have:=h.length
 cases xs<;>cases ds<;>simp_all
theorem zbl (ha:SE X a ma)(he:autoParam (∀whole,isTrue a X.env whole=(do let v<-whole;standAt a.pos;holding [v] (truthy v))) zu8._auto_1):STt X a (tTru ma):=by
  obtain⟨ta,pa,sa⟩:=ha
  refine⟨_,pt_truth pa he,fun B G H σ ρ d ρ' Q I hm k=>?_⟩
  obtain⟨⟨x,ρ1⟩,e1,e2⟩:=zah hm
  obtain⟨t,e3,e4⟩:=zau e2
  obtain⟨rfl,rfl⟩:=Prod.mk.inj e4
  refine sa B G H σ ρ x ρ1 _ I e1 fun G1 H1 v I1 f1 r1=>⟨t,?_,k G1 H1 I1 f1⟩
  cases x<;>simp only[dTru]at e3<;>try cases e3
  . cases r1;exact rfl
  . cases r1;exact rfl
  . cases r1;exact rfl
  . obtain⟨p,xs,rfl,hp,r⟩:=I1.lst r1
    exact .inl ⟨xs,SqL.of hp,(zqm r).symm⟩
  . obtain⟨p,xs,rfl,hp,r⟩:=I1.tup r1
    exact .inr (.inl ⟨xs,SqT.of hp,(zqm r).symm⟩)
theorem zi3 {r:R2}(ho:OpR X (compareOp op) r)(hv:V2 X r f)(hB:∀x y d,f x y=some d->∃t,d= .bl t)(ha:SE X a ma)(hb:SE X b mb)(hm:behindInMarks op b=false):STt X (.Compare a [op] [b] pos) (tTru (m2 f ma mb)):=by
 obtain⟨ta,pa,sa⟩:=ha
 obtain⟨tb,pb,sb⟩:=hb
 refine⟨_,pt_cmpR ho pa pb hm,fun B G H σ ρ d ρ' Q I hm k=>?_⟩
 obtain⟨⟨x,ρ1⟩,e1,e2⟩:=zah hm
 obtain⟨t,e3,e4⟩:=zau e2
 obtain⟨rfl,rfl⟩:=Prod.mk.inj e4
 obtain⟨_,_,_,_,_,e5⟩:=m2_inv e1
 obtain⟨t',rfl⟩:=hB _ _ _ e5
 obtain rfl:t'=t:=Option.some.inj e3
 refine zoI hv sa sb B G H σ ρ (.bl t') ρ1 _ I e1 fun G1 H1 v I1 f1 r1=>?_
 cases(show v=V.bl t' from r1)
 exact⟨t',rfl,k G1 H1 I1 f1⟩
theorem bl_cmp {g:Int->Int->Bool}(x y d:D)(h:dI2 (fun _ _=>true) (fun i j=> .bl (g i j)) x y=some d):∃t,d= .bl t:=by
 cases x<;>cases y<;>simp only[dI2]at h<;>try cases h
 exact⟨_,rfl⟩
theorem bl_eq (x y d:D)(h:dEq x y=some d):∃t,d= .bl t:=by
 unfold dEq at h
 split at h
 ·cases h;exact⟨_,rfl⟩
 ·cases h
theorem bl_ne (x y d:D)(h:dNe x y=some d):∃t,d= .bl t:=by
 unfold dNe at h
 split at h
 ·cases h;exact⟨_,rfl⟩
 ·cases h
theorem st_lt (ha:SE X a ma)(hb:SE X b mb):STt X (.Compare a [.Lt] [b] pos) (tTru (m2 dLt ma mb)):=zi3 op_lt zfq bl_cmp ha hb (zi8 _)
theorem st_gt (ha:SE X a ma)(hb:SE X b mb):STt X (.Compare a [.Gt] [b] pos) (tTru (m2 dGt ma mb)):=zi3 op_gt zfq bl_cmp ha hb (zi8 _)
theorem zjm (hu:X.A.units+64<cLine)(ha:SE X a ma)(hb:SE X b mb):STt X (.Compare a [.Eq] [b] pos) (tTru (m2 dEq ma mb)):=zi3 (op_eqD hu) v2_eq bl_eq ha hb (zi8 _)
theorem zj3 (hu:X.A.units+64<cLine)(ha:SE X a ma)(hb:SE X b mb):STt X (.Compare a [.NotEq] [b] pos) (tTru (m2 dNe ma mb)):=zi3 (op_neD hu) v2_ne bl_ne ha hb (zi8 _)
end
noncomputable def STw (X:Cx)(e:Expr)(m:MT):Prop:=
 ∃t,PW X e t/\∀B G H σ ρ d ρ' (Q:Bool->Hp->Prop),SI X.K B G H σ ρ->m ρ=some (d,ρ')->(∀G' H',SI X.K B G' H' σ ρ'->Fz G G'->Q d H')->t σ H Q
theorem STw.st (h:STw X e m):STt X e m:=let⟨t,p,s⟩:=h;⟨t,p.pt,s⟩
noncomputable def tAndM (a b:MT):MT:=fun ρ=>(a ρ).bind fun p=>if p.1 then b p.2 else some (false,p.2)
noncomputable def tOrM (a b:MT):MT:=fun ρ=>(a ρ).bind fun p=>if p.1 then some (true,p.2)else b p.2
noncomputable def zgp (a:MT):MT:=fun ρ=>(a ρ).map fun p=>(!p.1,p.2)
section
variable {X:Cx} {a b c:Expr} {ma mb:MT} {pos:Pos} {rest:List Expr}
theorem sw_and1 (h:STt X a ma):STw X (.BoolOp .And [a] pos) ma:=let⟨t,p,s⟩:=h;⟨t,pw_and1 p,s⟩
theorem zlk (h:STt X a ma):STw X (.BoolOp .Or [a] pos) ma:=let⟨t,p,s⟩:=h;⟨t,pw_or1 p,s⟩
theorem sw_and (ha:STt X a ma)(hb:STw X (.BoolOp .And (b::rest) pos) mb):STw X (.BoolOp .And (a::b::rest) pos) (tAndM ma mb):=by
 obtain⟨ta,pa,sa⟩:=ha
 obtain⟨tb,pb,sb⟩:=hb
 refine⟨_,pw_and pa pb,fun B G H σ ρ d ρ' Q I hm k=>?_⟩
 obtain⟨⟨x,ρ1⟩,e1,e2⟩:=zah hm
 refine sa B G H σ ρ x ρ1 _ I e1 fun G1 H1 I1 f1=>?_
 cases x with
 |true=>exact sb B G1 H1 σ ρ1 d ρ' Q I1 e2 fun G2 H2 I2 f2=>k G2 H2 I2 (f1.trans f2)
 |false=>cases e2;exact k G1 H1 I1 f1
theorem zoU (ha:STt X a ma)(hb:STw X (.BoolOp .Or (b::rest) pos) mb):STw X (.BoolOp .Or (a::b::rest) pos) (tOrM ma mb):=by
 obtain⟨ta,pa,sa⟩:=ha
 obtain⟨tb,pb,sb⟩:=hb
 refine⟨_,pw_or pa pb,fun B G H σ ρ d ρ' Q I hm k=>?_⟩
 obtain⟨⟨x,ρ1⟩,e1,e2⟩:=zah hm
 refine sa B G H σ ρ x ρ1 _ I e1 fun G1 H1 I1 f1=>?_
 cases x with
 |false=>exact sb B G1 H1 σ ρ1 d ρ' Q I1 e2 fun G2 H2 I2 f2=>k G2 H2 I2 (f1.trans f2)
 |true=>cases e2;exact k G1 H1 I1 f1
theorem zdk (ha:STt X a ma):STt X (.UnaryOp .Not a pos) (zgp ma):=by
 obtain⟨ta,pa,sa⟩:=ha
 refine⟨_,pt_not pa,fun B G H σ ρ d ρ' Q I hm k=>?_⟩
 obtain⟨⟨x,ρ1⟩,e1,e2⟩:=zau hm
 cases e2
 exact sa B G H σ ρ x ρ1 _ I e1 fun G1 H1 I1 f1=>k G1 H1 I1 f1
end
noncomputable def eAnd (a b:ME):ME:=fun ρ=>(a ρ).bind fun p=>match p.1 with
 | .bl true=>b p.2
 | .bl false=>some (.bl false,p.2)
 |_=>none
noncomputable def eOr (a b:ME):ME:=fun ρ=>(a ρ).bind fun p=>match p.1 with
 | .bl true=>some (.bl true,p.2)
 | .bl false=>b p.2
 |_=>none
section
variable {X:Cx} {a b c:Expr} {ma mb:ME} {pos:Pos} {rest:List Expr} {op:BoolOp}
theorem zn9 (h:SE X a ma):SE X (.BoolOp op [a] pos) ma:=let⟨t,p,s⟩:=h;⟨t,pe_one p,s⟩
theorem znd (ha:SE X a ma)(hb:SE X (.BoolOp .And (b::rest) pos) mb):SE X (.BoolOp .And (a::b::rest) pos) (eAnd ma mb):=by
 obtain⟨ta,pa,sa⟩:=ha
 obtain⟨tb,pb,sb⟩:=hb
 refine⟨_,pe_and pa pb,fun B G H σ ρ d ρ' Q I hm k=>?_⟩
 obtain⟨⟨x,ρ1⟩,e1,e2⟩:=zah hm
 refine sa B G H σ ρ x ρ1 _ I e1 fun G1 H1 v I1 f1 r1=>?_
 cases x<;>try cases e2
 rename_i y
 refine⟨y,r1,?_⟩
 cases y with
 |true=>exact sb B G1 H1 σ ρ1 d ρ' Q I1 e2 fun G2 H2 v I2 f2 r2=>k G2 H2 v I2 (f1.trans f2) r2
 |false=>cases e2;exact k G1 H1 _ I1 f1 rfl
noncomputable def eIf (c:MT)(a b:ME):ME:=fun ρ=>(c ρ).bind fun p=>if p.1 then a p.2 else b p.2
end
noncomputable def ziX (f g:D->D->Option D)(a b c:ME):ME:=fun ρ=>(a ρ).bind fun p=>(b p.2).bind fun q=>(f p.1 q.1).bind fun t=>match t with
 | .bl true=>(c q.2).bind fun r=>(g q.1 r.1).map fun d=>(d,r.2)
 | .bl false=>some (.bl false,q.2)
 |_=>none
section
variable {X:Cx} {a b c:Expr} {ma mb mc:ME} {pos:Pos}
theorem znL {r r':R2}{f g:D->D->Option D}{ta tb tc:TE}(hv:V2 X r f)(hw:V2 X r' g)
  (sa:∀B G H σ ρ d ρ' (Q:VK),SI X.K B G H σ ρ->ma ρ=some (d,ρ')->(∀G' H' v,SI X.K B G' H' σ ρ'->Fz G G'->RepD X.K G' v d->Q v H')->ta σ H Q)
  (sb:∀B G H σ ρ d ρ' (Q:VK),SI X.K B G H σ ρ->mb ρ=some (d,ρ')->(∀G' H' v,SI X.K B G' H' σ ρ'->Fz G G'->RepD X.K G' v d->Q v H')->tb σ H Q)
  (sc:∀B G H σ ρ d ρ' (Q:VK),SI X.K B G H σ ρ->mc ρ=some (d,ρ')->(∀G' H' v,SI X.K B G' H' σ ρ'->Fz G G'->RepD X.K G' v d->Q v H')->tc σ H Q):
  ∀B G H σ ρ d ρ' (Q:VK),SI X.K B G H σ ρ->ziX f g ma mb mc ρ=some (d,ρ')->(∀G' H' v,SI X.K B G' H' σ ρ'->Fz G G'->RepD X.K G' v d->Q v H')->tChain r r' ta tb tc σ H Q:=by
 intro B G H σ ρ d ρ' Q I hm k
 obtain⟨⟨x,ρ1⟩,e1,h1⟩:=zah hm
 obtain⟨⟨y,ρ2⟩,e2,h2⟩:=zah h1
 obtain⟨t,e3,h3⟩:=zah h2
 refine sa B G H σ ρ x ρ1 _ I e1 fun G1 H1 v I1 f1 r1=>sb B G1 H1 σ ρ1 y ρ2 _ I1 e2 fun G2 H2 u I2 f2 r2=>hv B G2 H2 σ ρ2 v u x y t _ I2 (r1.mono f2) r2 e3 fun G3 H3 z I3 f3 r3=>?_
 cases t<;>try cases h3
 rename_i t
 refine⟨t,r3,?_⟩
 cases t with
 |true=>
  obtain⟨⟨w,ρ3⟩,e4,h4⟩:=zah h3
  obtain⟨d',e5,e6⟩:=zau h4
  cases e6
  exact sc B G3 H3 σ ρ2 w ρ3 _ I3 e4 fun G4 H4 s I4 f4 r4=>hw B G4 H4 σ ρ3 u s y w d Q I4 (r2.mono (f3.trans f4)) r4 e5 fun G5 H5 z5 I5 f5 r5=>k G5 H5 z5 I5 (f1.trans (f2.trans (f3.trans (f4.trans f5)))) r5
 |false=>cases h3;exact k G3 H3 _ I3 (f1.trans (f2.trans f3)) rfl
theorem zjI {op op':CmpOp}{r r':R2}{f g:D->D->Option D}(ho:OpR X (compareOp op) r)(ho':OpR X (compareOp op') r')(hv:V2 X r f)(hw:V2 X r' g)(ha:SE X a ma)(hb:SE X b mb)(hc:SE X c mc)
  (hm:autoParam (lastMarks [op,op'] [b,c]=false) zu4._auto_1):SE X (.Compare a [op,op'] [b,c] pos) (ziX f g ma mb mc):=by
 obtain⟨ta,pa,sa⟩:=ha
 obtain⟨tb,pb,sb⟩:=hb
 obtain⟨tc,pc,sc⟩:=hc
 exact⟨_,pe_chain ho ho' pa pb pc hm,znL hv hw sa sb sc⟩
end
inductive Fl where
 |next|brk|cont|ret (r:Sl)
noncomputable abbrev MS:=R->Option (Fl×R)
noncomputable def ResOk (K:W.Frag)(B:Bs)(G H:Hp)(v:V):Sl->Prop
 | .val d=>RepD K G v d
 | .own ds=>∃l xs,v= .ref l/\G l=none/\H l=some (.lst xs)/\RepL K G xs ds/\B.H l=none
 | .tre t=>∃A,RepT K G H v t A/\A.Nodup/\∀a∈A,G a=none/\B.H a=none
 | .two ds es=>∃t l xs m ys,v= .ref t/\H t=some (.tup [.ref l,.ref m])/\l≠m/\G l=none/\H l=some (.lst xs)/\RepL K G xs ds/\B.H l=none/\G m=none/\H m=some (.lst ys)/\RepL K G ys es/\B.H m=none
 |_=>False
noncomputable def Post (K:W.Frag)(B:Bs)(G:Hp)(E:Ends)(fl:Fl)(ρ':R):Prop:=match fl with
 | .next=>∀G' H' σ',SI K B G' H' σ' ρ'->Fz G G'->E.nx σ' H'
 | .brk=>∀G' H' σ',SI K B G' H' σ' ρ'->Fz G G'->E.bk σ' H'
 | .cont=>∀G' H' σ',SI K B G' H' σ' ρ'->Fz G G'->E.ct σ' H'
 | .ret r=>∀G' H' σ' v,SI K B G' H' σ' ρ'->Fz G G'->ResOk K B G' H' v r->E.rt v H'
theorem Post.mono {G G1:Hp}{E:Ends}{fl:Fl}(h:Post K B G E fl ρ')(f:Fz G G1):Post K B G1 E fl ρ':=by
 cases fl with
 |next=>exact fun G' H' σ' I g=>h G' H' σ' I (f.trans g)
 |brk=>exact fun G' H' σ' I g=>h G' H' σ' I (f.trans g)
 |cont=>exact fun G' H' σ' I g=>h G' H' σ' I (f.trans g)
 |ret r=>exact fun G' H' σ' v I g=>h G' H' σ' v I (f.trans g)
noncomputable def SS (X:Cx)(st:Stmt)(m:MS):Prop:=∃t,PS X st t/\∀B G H σ ρ fl ρ' (E:Ends),SI X.K B G H σ ρ->m ρ=some (fl,ρ')->Post X.K B G E fl ρ'->t E σ H
noncomputable def SSs (X:Cx)(st:List Stmt)(m:MS):Prop:=∃t,PSs X st t/\∀B G H σ ρ fl ρ' (E:Ends),SI X.K B G H σ ρ->m ρ=some (fl,ρ')->Post X.K B G E fl ρ'->t E σ H
noncomputable def zbA:MS:=fun ρ=>some (.next,ρ)
noncomputable def sSeq (a b:MS):MS:=fun ρ=>(a ρ).bind fun p=>match p.1 with
 | .next=>b p.2
 |f=>some (f,p.2)
section
variable {X:Cx} {st:Stmt} {rest:List Stmt} {m n:MS} {e:Expr} {me:ME} {pos:Pos}
theorem zaJ:SSs X [] zbA:=⟨_,znF,fun B G H σ ρ fl ρ' E I hm k=>by cases hm;exact k G H σ I (Fz.refl G)⟩
theorem zaj (h:SS X st m):SSs X [st] m:=let⟨t,p,s⟩:=h;⟨t,pss_one p,s⟩
theorem zaf (h:SS X st m)(hr:SSs X rest n):SSs X (st::rest) (sSeq m n):=by
 obtain⟨t,p,s⟩:=h
 obtain⟨u,q,z⟩:=hr
 refine⟨_,zhX p q,fun B G H σ ρ fl ρ' E I hm k=>?_⟩
 obtain⟨⟨f,ρ1⟩,e1,e2⟩:=zah hm
 refine s B G H σ ρ f ρ1 _ I e1 ?_
 cases f with
 |next=>exact fun G1 H1 σ1 I1 f1=>z B G1 H1 σ1 ρ1 fl ρ' E I1 e2 (k.mono f1)
 |brk=>cases e2;exact k
 |cont=>cases e2;exact k
 |ret r=>cases e2;exact k
noncomputable def zpY (m:ME):MS:=fun ρ=>(m ρ).map fun p=>(.next,p.2)
theorem znr (h:SE X e me)(hs:autoParam (swapsWith e none pos.line X.env=pure false) zu2._auto_1):SS X (.Expr e pos) (zpY me):=by
 obtain⟨t,p,s⟩:=h
 refine⟨_,znY p hs,fun B G H σ ρ fl ρ' E I hm k=>?_⟩
 obtain⟨⟨d,ρ1⟩,e1,e2⟩:=zau hm
 cases e2
 exact s B G H σ ρ d ρ1 _ I e1 fun G1 H1 v I1 f1 _=>k G1 H1 σ I1 f1
noncomputable def sRet (m:ME):MS:=fun ρ=>(m ρ).map fun p=>(.ret (.val p.1),p.2)
theorem zaD (h:SE X e me):SS X (.Return (some e) pos) (sRet me):=by
 obtain⟨t,p,s⟩:=h
 refine⟨_,zmm p,fun B G H σ ρ fl ρ' E I hm k=>?_⟩
 obtain⟨⟨d,ρ1⟩,e1,e2⟩:=zau hm
 cases e2
 exact s B G H σ ρ d ρ1 _ I e1 fun G1 H1 v I1 f1 r1=>k G1 H1 σ v I1 f1 r1
noncomputable def zje (m:MO):MS:=fun ρ=>(m ρ).map fun p=>(.ret (.own p.1),p.2)
theorem zeh {mo:MO}(h:SO X e mo):SS X (.Return (some e) pos) (zje mo):=by
 obtain⟨t,p,s⟩:=h
 refine⟨_,zmm p,fun B G H σ ρ fl ρ' E I hm k=>?_⟩
 obtain⟨⟨d,ρ1⟩,e1,e2⟩:=zau hm
 cases e2
 exact s B G H σ ρ d ρ1 _ I e1 fun G1 H1 l xs I1 f1 g1 h1 r1 b1 _=>k G1 H1 σ _ I1 f1 ⟨l,xs,rfl,g1,h1,r1,b1⟩
theorem SI.emp (I:SI K B G H σ ρ)(i:Nat):SI K B G H σ (ρ.set i .emp):=by
 by_cases hi:i<ρ.length
 ·have hs:σ[i]? =some (σ[i]'(by rw[I.len];exact hi)):=List.getElem?_eq_getElem _
  have h:=I.chg (i:=i) (ov:=σ[i]'(by rw[I.len];exact hi)) (s':= .emp) I.fz (Fz.refl G) I.new I.keep I.there (fun _ _ _ _ _ _ g _=>⟨g,rfl,id⟩) trivial
  rwa[zpI hs]at h
 ·rw[List.set_eq_of_length_le (by lia)];exact I
noncomputable def zlG (i:Nat):MS:=fun ρ=>match ρ[i]? with
 |some (.val d)=>some (.ret (.val d),ρ)
 |some (.own ds)=>some (.ret (.own ds),ρ.set i .emp)
 |_=>none
theorem zii (i:Nat)(hN:autoParam (X.N[i]? =some x) zu2._auto_1)(hv:autoParam (Vis X.env.scope x) zu5._auto_1)(hd:autoParam ((x==("__debug__":Str))=false) zu1._auto_1)
  (hcd:autoParam ((x==("__classdict__":Str))=false) zu1._auto_1):SS X (.Return (some (.Name x pos')) pos) (zlG i):=by
 refine⟨_,zmm (zfw hN hv hd hcd),fun B G H σ ρ fl ρ' E I hm k=>?_⟩
 unfold zlG at hm
 cases e:ρ[i]? with
 |none=>rw[e]at hm;cases hm
 |some s=>
  rw[e]at hm
  have h:=I.slot i s e
  cases s with
  |emp=>cases hm
  |two _ _=>cases hm
  |tre _=>cases hm
  |ptr _=>cases hm
  |par ds=>cases hm
  |val d=>cases hm;obtain⟨v,h1,h2⟩:=h;exact⟨v,h1,k G H σ v I (Fz.refl G) h2⟩
  |own ds=>
   cases hm
   obtain⟨l,xs,h1,h2,h3,h4,h5⟩:=h
   exact⟨.ref l,h1,k G H σ _ (I.emp i) (Fz.refl G) ⟨l,xs,rfl,h2,h3,h4,h5⟩⟩
noncomputable def sIf (c:MT)(a b:MS):MS:=fun ρ=>(c ρ).bind fun p=>if p.1 then a p.2 else b p.2
theorem zbx {c:Expr}{a b:List Stmt}{mc:MT}{ma mb:MS}(hc:STt X c mc)(ha:SSs X a ma)(hb:SSs X b mb):SS X (.If c a b pos) (sIf mc ma mb):=by
 obtain⟨tc,pc,sc⟩:=hc
 obtain⟨ta,pa,sa⟩:=ha
 obtain⟨tb,pb,sb⟩:=hb
 refine⟨_,ps_if pc pa pb,fun B G H σ ρ fl ρ' E I hm k=>?_⟩
 obtain⟨⟨x,ρ1⟩,e1,e2⟩:=zah hm
 refine sc B G H σ ρ x ρ1 _ I e1 fun G1 H1 I1 f1=>?_
 cases x with
 |true=>exact sa B G1 H1 σ ρ1 fl ρ' E I1 e2 (k.mono f1)
 |false=>exact sb B G1 H1 σ ρ1 fl ρ' E I1 e2 (k.mono f1)
end
noncomputable def SG (X:Cx)(tg:Expr)(g:D->R->Option R):Prop:=∃t,PG X tg t/\∀B G H σ ρ v d ρ' (Q:St->Hp->Prop),SI X.K B G H σ ρ->RepD X.K G v d->g d ρ=some ρ'->(∀G' H' σ',SI X.K B G' H' σ' ρ'->Fz G G'->Q σ' H')->t v σ H Q
noncomputable def SGs (X:Cx)(tgs:List Expr)(g:List D->R->Option R):Prop:=∃t,PGs X tgs t/\∀B G H σ ρ vs ds ρ' (Q:St->Hp->Prop),SI X.K B G H σ ρ->RepL X.K G vs ds->g ds ρ=some ρ'->(∀G' H' σ',SI X.K B G' H' σ' ρ'->Fz G G'->Q σ' H')->t vs σ H Q
noncomputable def gN (i:Nat):D->R->Option R:=fun d ρ=>some (ρ.set i (.val d))
noncomputable def zdH:List D->R->Option R:=fun ds ρ=>match ds with
 |[]=>some ρ
 |_=>none
noncomputable def zaE (g:D->R->Option R)(h:List D->R->Option R):List D->R->Option R:=fun ds ρ=>match ds with
 |d::ds=>(g d ρ).bind fun ρ1=>h ds ρ1
 |[]=>none
noncomputable def gT (n:Nat)(g:List D->R->Option R):D->R->Option R:=fun d ρ=>match d with
 | .tup ds=>if ds.length=n then g ds ρ else none
 |_=>none
section
variable {X:Cx} {pos:Pos}
theorem zal (i:Nat)(hN:X.N.Nodup)(hi:autoParam (X.N[i]? =some x) zu2._auto_1)(hx:autoParam (Loc X.env.scope x) zu9._auto_1)(hf:autoParam (X.fn x=true\/X.env.scope.names.lookup x=some .local) zu9._auto_1):SG X (.Name x pos) (gN i):=
 ⟨_,zq0 hN hi hx hf,fun B G H σ ρ v d ρ' Q I r hm k=>by cases hm;exact k G H _ (I.set r) (Fz.refl G)⟩
theorem zbn:SGs X [] zdH:=⟨_,pgs_nil,fun B G H σ ρ vs ds ρ' Q I r hm k=>by
 cases ds with
 |nil=>cases hm;exact⟨r,k G H σ I (Fz.refl G)⟩
 |cons=>cases hm⟩
theorem zao {e:Expr}(h1:SG X e g)(h2:SGs X es h)(hs:autoParam ((assignEach (e::es) X.env).map (·.2)=assign e X.env::(assignEach es X.env).map (·.2)) zu2._auto_1):SGs X (e::es) (zaE g h):=by
 obtain⟨t,p,s⟩:=h1
 obtain⟨u,q,z⟩:=h2
 refine⟨_,pgs_cons p q hs,fun B G H σ ρ vs ds ρ' Q I r hm k=>?_⟩
 cases ds with
 |nil=>cases hm
 |cons d ds=>
  obtain⟨x,ys,rfl,rx,ry⟩:=r
  obtain⟨ρ1,e1,e2⟩:=zah hm
  exact⟨x,ys,rfl,s B G H σ ρ x d ρ1 _ I rx e1 fun G1 H1 σ1 I1 f1=>z B G1 H1 σ1 ρ1 ys ds ρ' Q I1 (ry.mono f1) e2 fun G2 H2 σ2 I2 f2=>k G2 H2 σ2 I2 (f1.trans f2)⟩
theorem zca {g:List D->R->Option R}(hc:X.calm=true)(h:SGs X es g)(hn:autoParam ((assignEach es X.env).length=n) zu2._auto_1)(hst:autoParam ((assignEach es X.env).findIdx? (·.1)=none) zu2._auto_1):SG X (.Tuple es k pos) (gT n g):=by
 obtain⟨t,p,s⟩:=h
 refine⟨_,pg_tup hc p hn hst,fun B G H σ ρ v d ρ' Q I r hm k=>?_⟩
 cases d<;>try cases hm
 rename_i ds
 simp only[gT]at hm
 split at hm
 ·rename_i hl
  obtain⟨a,xs,e,ha,rx⟩:=I.tup r
  exact⟨a,xs,e,SqT.of ha,by rw[rx.length];exact hl,s B G H σ ρ xs ds ρ' Q I rx hm k⟩
 ·cases hm
variable {e tg:Expr} {me:ME} {mo:MO}
noncomputable def sAsg (m:ME)(g:D->R->Option R):MS:=fun ρ=>(m ρ).bind fun p=>(g p.1 p.2).map fun ρ'=>(.next,ρ')
theorem zqd (he:SE X e me)(hg:SG X tg g)(hs:autoParam (swapsWithSole [tg] e pos.line X.env=pure false) zu2._auto_1)(hw:autoParam (swappedStores [tg] e X.env=pure none) zu2._auto_1)
  (h1:autoParam ((assignEach [tg] X.env).map (·.2)=[assign tg X.env]) zu2._auto_1):SS X (.Assign [tg] e pos) (sAsg me g):=by
 obtain⟨t,p,s⟩:=he
 obtain⟨u,q,z⟩:=hg
 refine⟨_,ps_asg p q hs hw h1,fun B G H σ ρ fl ρ' E I hm k=>?_⟩
 obtain⟨⟨d,ρ1⟩,e1,h2⟩:=zah hm
 obtain⟨ρ2,e2,e3⟩:=zau h2
 obtain⟨rfl,rfl⟩:=Prod.mk.inj e3
 exact s B G H σ ρ d ρ1 _ I e1 fun G1 H1 v I1 f1 r1=>z B G1 H1 σ ρ1 v d ρ2 _ I1 r1 e2 fun G2 H2 σ2 I2 f2=>k G2 H2 σ2 I2 (f1.trans f2)
noncomputable def sSet (i:Nat)(m:ME):MS:=fun ρ=>(m ρ).map fun p=>(.next,p.2.set i (.val p.1))
theorem zay (i:Nat)(he:SE X e me)(hN:X.N.Nodup)(hi:autoParam (X.N[i]? =some x) zu2._auto_1)(hx:autoParam (Loc X.env.scope x) zu9._auto_1)(hs:autoParam (swapsWith e (some (.Name x pos')) pos.line X.env=pure false) zu2._auto_1)
    (hf:autoParam (X.fn x=true\/X.env.scope.names.lookup x=some .local) zu9._auto_1):SS X (.Assign [.Name x pos'] e pos) (sSet i me):=by
  obtain⟨t,p,s⟩:=he
  refine⟨_,zmM hN hi hx p hs hf,fun B G H σ ρ fl ρ' E I hm k=>?_⟩
  obtain⟨⟨d,ρ1⟩,e1,e3⟩:=zau hm
  cases e3
  exact s B G H σ ρ d ρ1 _ I e1 fun G1 H1 v I1 f1 r1=>k G1 H1 _ (I1.set r1) f1
noncomputable def zgR (i:Nat)(m:MO):MS:=fun ρ=>(m ρ).map fun p=>(.next,p.2.set i (.own p.1))
theorem zcV (i:Nat)(he:SO X e mo)(hN:X.N.Nodup)(hi:autoParam (X.N[i]? =some x) zu2._auto_1)(hx:autoParam (Loc X.env.scope x) zu9._auto_1)(hs:autoParam (swapsWith e (some (.Name x pos')) pos.line X.env=pure false) zu2._auto_1)
    (hf:autoParam (X.fn x=true\/X.env.scope.names.lookup x=some .local) zu9._auto_1):SS X (.Assign [.Name x pos'] e pos) (zgR i mo):=by
  obtain⟨t,p,s⟩:=he
  refine⟨_,zmM hN hi hx p hs hf,fun B G H σ ρ fl ρ' E I hm k=>?_⟩
  obtain⟨⟨d,ρ1⟩,e1,e3⟩:=zau hm
  cases e3
  exact s B G H σ ρ d ρ1 _ I e1 fun G1 H1 l xs I1 f1 g1 h1 r1 b1 n1=>k G1 H1 _ (I1.setO g1 h1 r1 b1 n1) f1
noncomputable def sApp (i:Nat)(m:ME):MS:=fun ρ=>if(ρ[i]?.bind Sl.items).isSome then(m ρ).bind fun p=>p.2[i]?.bind fun s=>s.items.bind fun ds=>if ds.length<16777216 then some (.next,p.2.set i (s.put (ds++[p.1])))else none else none
theorem ziW (i:Nat){pos' apos cpos:Pos}(he:SE X e me)(hN:autoParam (X.N[i]? =some x) zu2._auto_1)(hv:autoParam (Vis X.env.scope x) zu5._auto_1)(hd:autoParam ((x==("__debug__":Str))=false) zu1._auto_1)
  (hcd:autoParam ((x==("__classdict__":Str))=false) zu1._auto_1)
  (hbase:autoParam (attributeBase (.Name x pos') "append" X.env (eval (.Name x pos') X.env)=eval (.Name x pos') X.env) zu2._auto_1)
  (hfew :autoParam (((backTo cpos (starEach [e] X.env)).all (fun x => !x.1) && (backToKw cpos (keywordEach [] X.env)).all (fun x => x.1.isSome)
   &&decide ([e].length+([]:List Keyword).length+(if([]:List Keyword).isEmpty then 0 else 1)<30))=true) zu2._auto_1)
  (hline:autoParam ((apos.endLine==cpos.line)=true) zu2._auto_1) (hs:autoParam (starEach [e] X.env=(false,eval e X.env)::starEach [] X.env) zu2._auto_1):SS X (.Expr (.Call (.Attribute (.Name x pos') "append" apos) [e] [] cpos) pos) (sApp i me):=by
 obtain⟨t,p,s⟩:=he
 refine⟨_,znY (pe_bm PySem.F.plainAttrs_list PySem.F.slot_list_append PySem.F.type_list_append zmw (zfw hN hv hd hcd) (zbY p zfj hs) hbase hfew hline hs rfl) (by rfl),fun B G H σ ρ fl ρ' E I hm k=>?_⟩
 unfold sApp at hm
 split at hm
 ·rename_i hso
  obtain⟨ds0,hso⟩:=Option.isSome_iff_exists.mp hso
  obtain⟨s0,e0,q0⟩:=zah hso
  obtain⟨l,xs0,h1,h2,h3,h4⟩:=I.wr e0 q0
  obtain⟨⟨d,ρ1⟩,e1,hm⟩:=zah hm
  obtain⟨s1,e2,hm⟩:=zah hm
  obtain⟨ds,e3,hm⟩:=zah hm
  split at hm
  ·rename_i hl
   cases hm
   refine⟨.ref l,h1,.inl ⟨rfl,_,SqL.of h3⟩,s B G H σ ρ d ρ1 _ I e1 fun G1 H1 v I1 f1 r1=>?_⟩
   obtain⟨l',xs,k1,k2,k3,k4⟩:=I1.wr e2 e3
   rw[h1]at k1;cases k1
   refine⟨l,xs,v,rfl,rfl,k3,by rw[k4.length,sizeLine_eq];exact hl,?_⟩
   exact k G1 _ σ (I1.write e2 e3 h1 (k4.snoc r1)) f1
  ·cases hm
 ·cases hm
noncomputable def sPut (j:Nat)(mi me:ME):MS:=fun ρ=>(me ρ).bind fun p=>if hasV p.2 j then(mi p.2).bind fun q=>match q.1 with
 | .int k=>q.2[j]?.bind fun s=>s.items.bind fun ds=>(ixN ds.length k).bind fun n=>some (.next,q.2.set j (s.put (ds.set n p.1)))
 |_=>none else none
theorem zlb (j:Nat){i:Expr}{mi:ME}{pos' tpos:Pos}(he:SE X e me)(hi:SE X i mi)(hN:autoParam (X.N[j]? =some x) zu2._auto_1)(hv:autoParam (Vis X.env.scope x) zu5._auto_1)(hd:autoParam ((x==("__debug__":Str))=false) zu1._auto_1)
  (hcd:autoParam ((x==("__classdict__":Str))=false) zu1._auto_1)
  (ha :autoParam (∀ v, assign (.Subscript (.Name x pos') i tpos) X.env v = (do
   let ov<-holding [v] (eval (.Name x pos') X.env)
   let iv<-holding [v,ov] (eval i X.env)
   standAt tpos
   holding [v,ov,iv] (setItem ov iv v)
   release [v,ov,iv] [])) zu8._auto_1)
  (hs:autoParam (swapsWithSole [.Subscript (.Name x pos') i tpos] e pos.line X.env=pure false) zu2._auto_1) (hw:autoParam (swappedStores [.Subscript (.Name x pos') i tpos] e X.env=pure none) zu2._auto_1)
  (h1:autoParam ((assignEach [.Subscript (.Name x pos') i tpos] X.env).map (·.2)=[assign (.Subscript (.Name x pos') i tpos) X.env]) zu2._auto_1):SS X (.Assign [.Subscript (.Name x pos') i tpos] e pos) (sPut j mi me):=by
 obtain⟨t,p,s⟩:=he
 obtain⟨u,q,z⟩:=hi
 refine⟨_,ps_asg p (pg_sub (zfw hN hv hd hcd) q set_list ha) hs hw h1,fun B G H σ ρ fl ρ' E I hm k=>?_⟩
 obtain⟨⟨d,ρ1⟩,e1,hm⟩:=zah hm
 refine s B G H σ ρ d ρ1 _ I e1 fun G1 H1 v I1 f1 r1=>?_
 split at hm
 ·rename_i hh
  obtain⟨w,ew⟩:=I1.has hh
  obtain⟨⟨kd,ρ2⟩,e2,hm⟩:=zah hm
  cases kd<;>try cases hm
  rename_i kk
  obtain⟨s2,e3,hm⟩:=zah hm
  obtain⟨ds,e4,hm⟩:=zah hm
  obtain⟨n,e5,hm⟩:=zah hm
  cases hm
  refine⟨w,ew,z B G1 H1 σ ρ1 (.int kk) ρ2 _ I1 e2 fun G2 H2 y I2 f2 r2=>?_⟩
  obtain⟨l,xs,k1,k2,k3,k4⟩:=I2.wr e3 e4
  rw[ew]at k1;cases k1
  refine⟨l,xs,kk,n,rfl,r2,k3,by rw[k4.length];exact e5,?_⟩
  exact k G2 _ σ (I2.write e3 e4 ew (k4.set n (r1.mono f2))) (f1.trans f2)
 ·cases hm
end
structure Itm (K:W.Frag) (J:It) (G:Hp) (items:List D):Prop where
 go:∀H i,Fz G H->i<items.length->J.go i H
 yld:∀H i x H',Fz G H->J.yld i H x H'->∀d,items[i]? =some d->(H'=H/\RepD K G x d)\/∃p xs ds,H p=none/\H'=upd H p (.tup xs)/\x= .ref p/\d= .tup ds/\RepL K G xs ds
 stop:∀H i,Fz G H->items.length<=i->J.stop i H
noncomputable def SIt (X:Cx)(tg it:Expr)(m:MA):Prop:=∃wi,PI X tg it wi/\∀B G H σ ρ ds ρ' (Q:It->Hp->Prop),SI X.K B G H σ ρ->m ρ=some (ds,ρ')->(∀J G' H',SI X.K B G' H' σ ρ'->Fz G G'->Itm X.K J G' ds->Q J H')->wi σ H Q
noncomputable def forM (f:D->R->Option (Fl×R)):List D->R->Option (Fl×R)
 |[],ρ=>some (.next,ρ)
 |d::ds,ρ=>(f d ρ).bind fun p=>match p.1 with
  | .next=>forM f ds p.2
  | .cont=>forM f ds p.2
  | .brk=>some (.next,p.2)
  | .ret r=>some (.ret r,p.2)
noncomputable def sFor (mi:MA)(g:D->R->Option R)(mb:MS):MS:=fun ρ=>(mi ρ).bind fun p=>forM (fun d ρ=>(g d ρ).bind fun ρ'=>mb ρ') p.1 p.2
theorem SI.yld {x:V}(I:SI K B G H σ ρ)
  (h:(H'=H/\RepD K G x d)\/∃p xs ds,H p=none/\H'=upd H p (.tup xs)/\x= .ref p/\d= .tup ds/\RepL K G xs ds):∃G',SI K B G' H' σ ρ/\Fz G G'/\RepD K G' x d:=by
 rcases h with⟨rfl,r⟩|⟨p,xs,ds,hp,rfl,rfl,rfl,r⟩
 ·exact⟨G,I,Fz.refl G,r⟩
 ·obtain⟨I2,f2,r2⟩:=I.newT hp r
  exact⟨_,I2,f2,r2⟩
theorem zg3 {tg it:Expr}{mi:MA}{mb:MS}(hp:PassesOwn (model X.prog X.w) X.A X.env X.xe)(hc:X.calm=true)(hi:SIt X tg it mi)(hg:SG X tg g)(hb:SSs X body mb)
    (hs:autoParam (∀x,foldedSetIterable it X.env x=pure x) zu8._auto_1):SS X (.For tg it body [] pos) (sFor mi g mb):=by
  obtain⟨wi,pi,si⟩:=hi
  obtain⟨tg',pg,sg⟩:=hg
  obtain⟨tb,pb,sb⟩:=hb
  refine⟨_,ps_for hp hc pi pg pb hs,fun B G H σ ρ fl ρ' E I hm k=>?_⟩
  obtain⟨⟨ds,ρ1⟩,e1,hm⟩:=zah hm
  refine si B G H σ ρ ds ρ1 _ I e1 fun J G1 H1 I1 f1 IT=>?_
  refine⟨fun i m σ H=>m=ds.length-i/\i<=ds.length/\∃G2 ρ2,SI X.K B G2 H σ ρ2/\Fz G1 G2/\forM (fun d ρ=>(g d ρ).bind fun ρ'=>mb ρ') (ds.drop i) ρ2=some (fl,ρ'),⟨ds.length,by simp,Nat.zero_le _,G1,ρ1,I1,Fz.refl _,by simpa using hm⟩,?_⟩
  rintro i m σ2 H2 ⟨rfl,hi,G2,ρ2,I2,f2,e2⟩
  by_cases hlt:i<ds.length
  . rw[List.drop_eq_getElem_cons hlt]at e2
    simp only[forM]at e2
    obtain⟨⟨f,ρ3⟩,e3,e4⟩:=zah e2
    obtain⟨ρ2',e5,e6⟩:=zah e3
    have fz2:Fz G1 H2:=f2.trans I2.fz
    refine .inr ⟨IT.go H2 i fz2 hlt,fun σ' H'=>(∃G3,SI X.K B G3 H' σ' ρ3/\Fz G1 G3)/\(f= .next\/f= .cont),?_,fun x H' y=>?_⟩
    . rintro σ' H' ⟨⟨G3,I3,f3⟩,hf⟩
      refine⟨ds.length-(i+1),by lia,rfl,hlt,G3,ρ3,I3,f3,?_⟩
      rcases hf with rfl|rfl<;>exact e4
    . have yy:=IT.yld H2 i x H' fz2 y ds[i] (List.getElem?_eq_getElem hlt)
      have yy2:(H'=H2/\RepD X.K G2 x ds[i])\/∃p xs es,H2 p=none/\H'=upd H2 p (.tup xs)/\x= .ref p/\ds[i]= .tup es/\RepL X.K G2 xs es:=by
        rcases yy with⟨a,b⟩|⟨p,xs,es,a,b,c,d,e⟩
        . exact .inl ⟨a,b.mono f2⟩
        . exact .inr ⟨p,xs,es,a,b,c,d,e.mono f2⟩
      obtain⟨G3,I3,f3,r3⟩:=I2.yld yy2
      refine sg B G3 H' σ2 ρ2 x ds[i] ρ2' _ I3 r3 e5 fun G4 H4 σ4 I4 f4=>sb B G4 H4 σ4 ρ2' f ρ3 _ I4 e6 ?_
      have ff:Fz G1 G4:=f2.trans (f3.trans f4)
      cases f with
      |next=>exact fun G5 H5 σ5 I5 f5=>⟨⟨G5,I5,ff.trans f5⟩,.inl rfl⟩
      |cont=>exact fun G5 H5 σ5 I5 f5=>⟨⟨G5,I5,ff.trans f5⟩,.inr rfl⟩
      |brk=>cases e4;exact fun G5 H5 σ5 I5 f5=>k G5 H5 σ5 I5 (f1.trans (ff.trans f5))
      |ret r=>cases e4;exact fun G5 H5 σ5 v I5 f5=>k G5 H5 σ5 v I5 (f1.trans (ff.trans f5))
  . have e:i=ds.length:=by lia
    subst e
    rw[List.drop_length]at e2
    cases e2
    exact .inl ⟨IT.stop H2 _ (f2.trans I2.fz) (Nat.le_refl _),k G2 H2 σ2 I2 (f1.trans f2)⟩
section
variable {X:Cx} {tg it:Expr} {me:ME}
noncomputable def iSeq (m:ME):MA:=fun ρ=>(m ρ).bind fun p=>(zbj [p.1]).map fun ds=>(ds,p.2)
theorem pi_or {l:Expr}{tl:TE}(hl:PE X l tl):PI X tg l (fun σ H R=>tl σ H fun x H1=>∃a,x= .ref a/\(((∃xs,SqL X.K H1 a xs)/\R (Itl X.K a) H1)\/((∃xs,SqT X.K H1 a xs)/\R (Itt X.K a) H1))):=by
 intro pins s σ H R I h
 refine thn (hl pins s σ H _ I h) fun v s1 ⟨x,H1,I1,r1,q1⟩=>?_
 obtain⟨a,e,q⟩:=q1
 subst e
 cases r1
 rcases q with⟨⟨xs,hq⟩,q⟩|⟨⟨xs,hq⟩,q⟩
 ·obtain⟨its,rv,p,hz⟩:=I1.list hq
  refine wpAny_pyIter_list p.isList ?_
  refine⟨s1.heap.objs.size,[s1.heap.objs.size],_,_,H1,rfl,I1.kept (t':=s1.toks) fun b o e=>Heap.get?_push_of_some _ e,zqE a _,⟨_,Heap.get?_push_size _ rfl,rfl,rfl⟩,fun b hb=>?_,q⟩
  have e:b=s1.heap.objs.size:=by simpa using hb
  subst e
  exact I1.fpOk (Nat.le_refl _) (I1.hok.fresh (Nat.le_refl _))
 ·obtain⟨its,rv,p,hz⟩:=I1.tuple hq
  refine wpAny_pyIter_tuple (show s1.heap.IsTuple a its.toArray from p) ?_
  refine⟨s1.heap.objs.size,[s1.heap.objs.size],_,_,H1,rfl,I1.kept (t':=s1.toks) fun b o e=>Heap.get?_push_of_some _ e,zoW a _,⟨_,Heap.get?_push_size _ rfl,rfl,rfl⟩,fun b hb=>?_,q⟩
  have e:b=s1.heap.objs.size:=by simpa using hb
  subst e
  exact I1.fpOk (Nat.le_refl _) (I1.hok.fresh (Nat.le_refl _))
theorem zoh {a:Addr}(hg:SqL K G a xs)(r:RepL K G xs ds):Itm K (Itl K a) G ds where
 go:=fun H i f hi=>by
  have hl:=r.length
  exact⟨xs,xs[i],f.sql hg,List.getElem?_eq_getElem (by lia)⟩
 yld:=fun H i x H' f y d e=>by
  obtain⟨rfl,y⟩:=y
  have hx:=y xs (f.sql hg)
  obtain⟨x',h1,h2⟩:=r.get e
  rw[hx]at h1;cases h1
  exact .inl ⟨rfl,h2⟩
 stop:=fun H i f hi=>⟨xs,f.sql hg,by rw[r.length];exact hi⟩
theorem itm_tup {a:Addr}(hg:G a=some (.tup xs))(r:RepL K G xs ds):Itm K (Itt K a) G ds where
 go:=fun H i f hi=>by
  have hl:=r.length
  exact⟨xs,xs[i],SqT.of (f _ _ hg),List.getElem?_eq_getElem (by lia)⟩
 yld:=fun H i x H' f y d e=>by
  obtain⟨rfl,y⟩:=y
  have hx:=y xs (SqT.of (f _ _ hg))
  obtain⟨x',h1,h2⟩:=r.get e
  rw[hx]at h1;cases h1
  exact .inl ⟨rfl,h2⟩
 stop:=fun H i f hi=>⟨xs,SqT.of (f _ _ hg),by rw[r.length];exact hi⟩
theorem zbc (h:SE X it me):SIt X tg it (iSeq me):=by
 obtain⟨t,p,s⟩:=h
 refine⟨_,pi_or p,fun B G H σ ρ ds ρ' Q I hm k=>?_⟩
 obtain⟨⟨d,ρ1⟩,e1,hm⟩:=zah hm
 obtain⟨es,e2,e3⟩:=zau hm
 cases e3
 refine s B G H σ ρ d ρ1 _ I e1 fun G1 H1 v I1 f1 r1=>?_
 cases d<;>simp only[zbj]at e2<;>try cases e2
 ·obtain⟨a,xs,rfl,ha,r⟩:=r1
  exact⟨a,rfl,.inl ⟨⟨xs,SqL.of (I1.fz _ _ ha)⟩,k _ G1 H1 I1 f1 (zoh (SqL.of ha) r)⟩⟩
 ·obtain⟨a,xs,rfl,ha,r⟩:=r1
  exact⟨a,rfl,.inr ⟨⟨xs,SqT.of (I1.fz _ _ ha)⟩,k _ G1 H1 I1 f1 (itm_tup ha r)⟩⟩
 ·obtain⟨a,rfl,ha⟩:=r1
  exact⟨a,rfl,.inl ⟨⟨_,I1.fz.sql ha⟩,k _ G1 H1 I1 f1 (zoh ha (RepL.ints _))⟩⟩
end
noncomputable def zhh (lo:Int)(n:Nat):List D:=(List.range n).map fun(i:Nat)=>D.int (lo+(i:Int))
theorem zpN (lo:Int)(n:Nat):Itm K (Itr lo n) G (zhh lo n) where
 go:=fun H i f hi=>by show i<n;simpa[zhh]using hi
 yld:=fun H i x H' f y d e=>by
  obtain⟨rfl,rfl⟩:=y
  unfold zhh at e
  rw[List.getElem?_map]at e
  cases q:(List.range n)[i]? with
  |none=>rw[q]at e;cases e
  |some j=>
   rw[q]at e
   have hj:j=i:=by
    have:=List.getElem?_eq_some_iff.mp q
    obtain⟨h1,h2⟩:=this
    simpa using h2.symm
   subst hj
   cases e
   exact .inl ⟨rfl,rfl⟩
 stop:=fun H i f hi=>by show n<=i;simpa[zhh]using hi
noncomputable def zdK (j:Int):Bool:=decide (-1000000000000<=j)&&decide (j<=1000000000000)
theorem zkD {j:Int}(h:zdK j=true): -(2^62)<=j/\j<2^62:=by
 unfold zdK at h
 simp only[Bool.and_eq_true,decide_eq_true_eq]at h
 lia
noncomputable def iR1 (ma:MA):MA:=fun ρ=>(ma ρ).bind fun p=>match p.1 with
 |[.int j]=>if zdK j then some (zhh 0 j.toNat,p.2)else none
 |_=>none
section
variable {X:Cx} {tg a b:Expr} {ma:MA} {p pos:Pos}
theorem zaZ (hm:X.mg "range"=none)(ha:SA X [a] ma)(hg:autoParam (Gl X "range") zu2._auto_1)(hs:autoParam (starEach [a] X.env=[(false,eval a X.env)]) zu2._auto_1):SIt X tg (.Call (.Name "range" p) [a] [] pos) (iR1 ma):=by
 obtain⟨t,pa,sa⟩:=ha
 refine⟨_,zq1 hg hm pa hs,fun B G H σ ρ ds ρ' Q I hm k=>?_⟩
 obtain⟨⟨es,ρ1⟩,e1,h2⟩:=zah hm
 dsimp only at h2
 refine sa B G H σ ρ es ρ1 _ I e1 fun G1 H1 vs I1 f1 r1=>?_
 split at h2
 ·rename_i j
  split at h2
  ·rename_i hj
   cases h2
   obtain⟨x,rfl,rx⟩:=r1.one
   cases(show x=V.int j from rx)
   exact⟨j,rfl,(zkD hj).1,(zkD hj).2,k _ G1 H1 I1 f1 (zpN 0 _)⟩
  ·cases h2
 ·cases h2
end
noncomputable def ResF (K:W.Frag)(G' H' H:Hp)(v:V):Sl->Prop
 | .val d=>RepD K G' v d
 | .own ds=>∃l xs,v= .ref l/\G' l=none/\H' l=some (.lst xs)/\RepL K G' xs ds/\H l=none
 | .tre t=>∃A,RepT K G' H' v t A/\A.Nodup/\∀a∈A,G' a=none/\H a=none
 | .two ds es=>∃t l xs m ys,v= .ref t/\H' t=some (.tup [.ref l,.ref m])/\l≠m/\G' l=none/\H' l=some (.lst xs)/\RepL K G' xs ds/\H l=none/\G' m=none/\H' m=some (.lst ys)/\RepL K G' ys es/\H m=none
 |_=>False
noncomputable def spP (K:W.Frag)(n:Nat)(F:List D->Option Sl):Sp:=fun vs H Q _=>∃G ds r,F ds=some r/\ds.length=n/\Fz G H/\RepL K G vs ds/\
 ∀G' H' v,Fz G G'->Fz G' H'->(∀b o,G' b=some o->G b≠none\/H b=none)->Fz H H'->ResF K G' H' H v r->Q v H'
noncomputable def spM (K:W.Frag)(n:Nat)(F:List D->List D->Option (Sl×List D)):Sp:=fun vs H Q _=>∃G l xs cs ws ds r out,vs= .ref l::ws/\F cs ds=some (r,out)/\ds.length+1=n/\Fz G H/\G l=none/\H l=some (.lst xs)/\RepL K G xs cs/\RepL K G ws ds/\
 ∀G' H' v ys,Fz G G'->Fz G' H'->(∀b o,G' b=some o->G b≠none\/H b=none)->(∀b o,b≠l->H b=some o->H' b=some o)->G' l=none->H' l=some (.lst ys)->RepL K G' ys out->ResF K G' H' H v r->Q v H'
noncomputable def fP (N:Nat)(m:MS):List D->Option Sl:=fun ds=>(m (ds.map .val++List.replicate (N-ds.length) .emp)).bind fun p=>match p.1 with
 | .ret r=>some r
 | .next=>some (.val .non)
 |_=>none
noncomputable def fM (N:Nat)(m:MS):List D->List D->Option (Sl×List D):=fun cs ds=>(m (.par cs::(ds.map .val++List.replicate (N-(ds.length+1)) .emp))).bind fun p=>match p.1,(p.2[0]?:Option Sl)with
 |Fl.ret r,some (Sl.par out)=>some (r,out)
 |Fl.next,some (Sl.par out)=>some (.val .non,out)
 |_,_=>none
theorem zmX (h:vs.length<=N.length):(L2.start N vs).length=N.length:=by
 unfold L2.start
 rw[List.length_append,List.length_map,List.length_replicate]
 lia
theorem SI.start (fz:Fz G H)(r:RepL K G vs ds)(h:ds.length<=N.length):
  SI K ⟨G,H,[]⟩ G H (L2.start N vs) (ds.map .val++List.replicate (N.length-ds.length) .emp) where
 fz:=fz
 g0:=Fz.refl G
 new:=fun b o e=> .inl (by show G b≠none;rw[e];simp)
 keep:=fun b o e _=>e
 there:=fun b e=>e
 ob:=fun i b m=>by cases m
 len:=by rw[zmX (by rw[r.length];exact h),List.length_append,List.length_map,List.length_replicate];lia
 slot:=fun i s e=>by
  by_cases hi:i<ds.length
  ·rw[List.getElem?_append_left (by simpa using hi),List.getElem?_map,List.getElem?_eq_getElem hi]at e
   cases e
   obtain⟨x,h1,h2⟩:=r.get (List.getElem?_eq_getElem hi)
   refine⟨x,?_,h2⟩
   unfold L2.start
   rw[List.getElem?_append_left (by rw[List.length_map,r.length];exact hi),List.getElem?_map,h1]
   rfl
  ·rw[List.getElem?_append_right (by simpa using hi),List.getElem?_replicate]at e
   split at e
   ·cases e;trivial
   ·cases e
 dis:=fun i j s _ a _ e _ w=>by
  exfalso
  by_cases hi:i<ds.length
  ·rw[List.getElem?_append_left (by simpa using hi),List.getElem?_map,List.getElem?_eq_getElem hi]at e
   cases e;exact w
  ·rw[List.getElem?_append_right (by simpa using hi),List.getElem?_replicate]at e
   split at e
   ·cases e;exact w
   ·cases e
theorem SI.startM (fz:Fz G H)(hg:G l=none)(hl:H l=some (.lst xs))(rc:RepL K G xs cs)(r:RepL K G vs ds)(h:ds.length+1<=N.length):
  SI K ⟨G,H,[(0,l)]⟩ G H (L2.start N (.ref l::vs)) (.par cs::(ds.map .val++List.replicate (N.length-(ds.length+1)) .emp)) where
 fz:=fz
 g0:=Fz.refl G
 new:=fun b o e=> .inl (by show G b≠none;rw[e];simp)
 keep:=fun b o e _=>e
 there:=fun b e=>e
 ob:=fun i b m=>by
  have:b=l:=((by simpa using m):i=0/\b=l).2
  subst this
  show H b≠none
  rw[hl];simp
 len:=by
  have:=r.length
  rw[zmX (by rw[List.length_cons,r.length];exact h),List.length_cons,List.length_append,List.length_map,List.length_replicate];lia
 slot:=fun i s e=>by
  cases i with
  |zero=>simp at e;subst e;exact⟨l,xs,rfl,hg,hl,rc,by simp⟩
  |succ i=>
   rw[List.getElem?_cons_succ]at e
   by_cases hi:i<ds.length
   ·rw[List.getElem?_append_left (by simpa using hi),List.getElem?_map,List.getElem?_eq_getElem hi]at e
    cases e
    obtain⟨x,h1,h2⟩:=r.get (List.getElem?_eq_getElem hi)
    refine⟨x,?_,h2⟩
    unfold L2.start
    rw[List.map_cons,List.cons_append,List.getElem?_cons_succ,List.getElem?_append_left (by rw[List.length_map,r.length];exact hi),List.getElem?_map,h1]
    rfl
   ·rw[List.getElem?_append_right (by simpa using hi),List.getElem?_replicate]at e
    split at e
    ·cases e;trivial
    ·cases e
 dis:=fun i j s t a hij hi hj w1 w2=>by
  have z:∀(i:Nat) (s:Sl),(Sl.par cs::(ds.map .val++List.replicate (N.length-(ds.length+1)) .emp))[i]? =some s->OwS K G H (L2.start N (.ref l::vs))[i]? a s->i=0:=fun i s e q=>by
   cases i with
   |zero=>rfl
   |succ i=>
    exfalso
    rw[List.getElem?_cons_succ]at e
    by_cases hi:i<ds.length
    ·rw[List.getElem?_append_left (by simpa using hi),List.getElem?_map,List.getElem?_eq_getElem hi]at e
     cases e;exact q
    ·rw[List.getElem?_append_right (by simpa using hi),List.getElem?_replicate]at e
     split at e
     ·cases e;exact q
     ·cases e
  exact hij ((z i s hi w1).trans (z j t hj w2).symm)
section
variable {P:Program} {w:World} {K:W.Frag} {mg:Str->Option Value} {base:Heap}
theorem fnP_ok {st:Stmt}{f:Addr}{m:MS}(F:Fun K x qual st f fd)(S:FnScope N ps (zaC st))(hn:ps.length=n)(hN:n<=N.length)
  (body:∀(cdv:Value) (A:Around) (outer:List Env) (s:Shared) (H:Hp) (E:XK),Room k (A.deeper (envOfC qual (zaC st) s.heap.objs.size f cdv))->SSs (cxOf CX0 P w K mg base N qual (zaC st) f cdv A outer s H E).nox (zbW st) m):
  FnOk P w K mg base CX0 (k+1) f fd ps (spP K n (fP N.length m)):=by
 refine F.ok S (fun vs H Q E h=>?_) (fun cdv A outer s H vs Q E hr h=>?_)
 ·obtain⟨G,ds,r,_,h2,_,h4,_⟩:=h
  rw[h4.length,h2,hn]
 ·obtain⟨G,ds,r,e1,h2,fz,h4,kk⟩:=h
  obtain⟨t,pt,so⟩:=body cdv A outer s H E hr
  refine⟨t,pt,?_⟩
  obtain⟨⟨fl,ρ'⟩,e2,e3⟩:=zah e1
  refine so ⟨G,H,[]⟩ G H (L2.start N vs) _ fl ρ' _ (SI.start fz h4 (by lia)) e2 ?_
  have fin:∀G' H' σ' v,SI K ⟨G,H,[]⟩ G' H' σ' ρ'->Fz G G'->ResF K G' H' H v r->Q v H':=fun G' H' σ' v I f rr=>kk G' H' v f I.fz I.new (fun b o e=>I.keep b o e (by simp)) rr
  cases fl with
  |next=>cases e3;exact fun G' H' σ' I f=>fin G' H' σ' .non I f rfl
  |brk=>cases e3
  |cont=>cases e3
  |ret r'=>
   cases e3
   refine fun G' H' σ' v I f rr=>fin G' H' σ' v I f ?_
   cases r with
   |val d=>exact rr
   |own ds=>exact rr
   |emp=>exact rr
   |two _ _=>exact rr
   |tre _=>exact rr
   |ptr _=>exact rr
   |par ds=>exact rr
theorem fnM_ok {st:Stmt}{f:Addr}{m:MS}(F:Fun K x qual st f fd)(S:FnScope N ps (zaC st))(hn:ps.length=n)(hN:n<=N.length)
  (body:∀(cdv:Value) (A:Around) (outer:List Env) (s:Shared) (H:Hp) (E:XK),Room k (A.deeper (envOfC qual (zaC st) s.heap.objs.size f cdv))->SSs (cxOf CX0 P w K mg base N qual (zaC st) f cdv A outer s H E).nox (zbW st) m):
  FnOk P w K mg base CX0 (k+1) f fd ps (spM K n (fM N.length m)):=by
 refine F.ok S (fun vs H Q E h=>?_) (fun cdv A outer s H vs Q E hr h=>?_)
 ·obtain⟨G,l,xs,cs,ws,ds,r,out,rfl,_,h2,_,_,_,_,h4,_⟩:=h
  rw[List.length_cons,h4.length,h2,hn]
 ·obtain⟨G,l,xs,cs,ws,ds,r,out,rfl,e1,h2,fz,hg,hl,rc,h4,kk⟩:=h
  obtain⟨t,pt,so⟩:=body cdv A outer s H E hr
  refine⟨t,pt,?_⟩
  obtain⟨⟨fl,ρ'⟩,e2,e3⟩:=zah e1
  refine so ⟨G,H,[(0,l)]⟩ G H _ _ fl ρ' _ (SI.startM fz hg hl rc h4 (by lia)) e2 ?_
  have fin:∀G' H' σ' v,ρ'[0]? =some (.par out)->SI K ⟨G,H,[(0,l)]⟩ G' H' σ' ρ'->Fz G G'->ResF K G' H' H v r->Q v H':=fun G' H' σ' v e0 I f rr=>by
   obtain⟨l',ys,k1,k2,k3,k4,k5⟩:=I.slot 0 _ e0
   have:l'=l:=by simpa using k5
   subst this
   exact kk G' H' v ys f I.fz I.new (fun b o hb e=>I.keep b o e (fun i hm=>by simp at hm;exact hb hm.2)) k2 k3 k4 rr
  cases e0:ρ'[0]? with
  |none=>rw[e0]at e3;cases fl<;>cases e3
  |some s0=>
   rw[e0]at e3
   cases s0 with
   |emp=>cases fl<;>cases e3
   |two _ _=>cases fl<;>cases e3
   |tre _=>cases fl<;>cases e3
   |ptr _=>cases fl<;>cases e3
   |val d=>cases fl<;>cases e3
   |own d=>cases fl<;>cases e3
   |par o2=>
    cases fl with
    |next=>cases e3;exact fun G' H' σ' I f=>fin G' H' σ' .non e0 I f rfl
    |brk=>cases e3
    |cont=>cases e3
    |ret r'=>
     cases e3
     refine fun G' H' σ' v I f rr=>fin G' H' σ' v e0 I f ?_
     cases r with
     |val d=>exact rr
     |own ds=>exact rr
     |emp=>exact rr
     |two _ _=>exact rr
     |tre _=>exact rr
     |ptr _=>exact rr
     |par ds=>exact rr
end
structure FD (P:Program) (w:World) (K:W.Frag) (mg:Str->Option Value) (base:Heap) (k:Nat) (x:Str) (sp:Sp):Prop where
 ex:∃f fd ps,FnOk P w K mg base CX0 k f fd ps sp/\mg x=some (.ref f)/\W.keepIn K (.ref f)=true/\Binds K fd ps []
theorem zqW (nw:∀b o,G' b=some o->G b≠none\/H b=none)(kp:Fz H H'):∀(i:Nat) (s:Sl) (a:Addr),ρ[i]? =some s->OwS K G H σ[i]? a s->G a=none->H a≠none->G' a=none/\H' a=H a:=fun i s a _ _ g h=>by
 obtain⟨u,hu⟩:=Option.ne_none_iff_exists'.mp h
 refine⟨?_,(kp a u hu).trans hu.symm⟩
 cases q:G' a with
 |none=>rfl
 |some u=>
  rcases nw a u q with z|z
  ·exact absurd g z
  ·exact absurd z h
theorem SI.grow (I:SI K B G H σ ρ)(f:Fz G G')(fz:Fz G' H')(nw:∀b o,G' b=some o->G b≠none\/H b=none)(kp:Fz H H'):SI K B G' H' σ ρ:=
 I.move fz f (fun b o e=>by
  rcases nw b o e with h|h
  ·cases q:G b with
   |none=>exact absurd q h
   |some u=>exact I.new b u q
  ·exact .inr (I.there b h)) (fun b o e n=>kp b o (I.keep b o e n)) (fun b e=>I.there b (kp.free e)) (zqW nw kp)
theorem SI.own_ne (I:SI K B G H σ ρ)(hp:H p=none)(nw:∀b o,G' b=some o->G b≠none\/H b=none)(kp:Fz H H'):Nw K G' H' σ ρ p:=I.nw_move (I.nw hp) (zqW nw kp)
noncomputable def zaN (F:List D->Option Sl)(ma:MA):ME:=fun ρ=>(ma ρ).bind fun p=>(F p.1).bind fun r=>match r with
 | .val d=>some (d,p.2)
 | .own ds=>some (.lst ds,p.2)
 |_=>none
noncomputable def zmD (F:List D->Option Sl)(ma:MA):MO:=fun ρ=>(ma ρ).bind fun p=>(F p.1).bind fun r=>match r with
 | .own ds=>some (ds,p.2)
 |_=>none
section
variable {X:Cx} {x:Str} {p pos:Pos} {e:Expr} {es:List Expr} {ma:MA} {k k' n:Nat} {F:List D->Option Sl}
theorem zan (fd:FD X.prog X.w X.K X.mg X.base k x (spP X.K n F))(hr:Room k' X.A)(ha:SA X (e::es) ma)(hn:autoParam ((e::es).length=n) zu2._auto_1)(hk:autoParam (k<=k') zu1._auto_1)(hg:autoParam (Gl X x) zu2._auto_1)(hdb:autoParam ((x==("__debug__":Str))=false) zu1._auto_1)
  (he:autoParam (starEach (e::es) X.env=(false,eval e X.env)::starEach es X.env) zu2._auto_1) (hpl:autoParam ((backTo pos (starEach es X.env)).any (·.1)=false) zu2._auto_1) (hlen:∀ρ as ρ',ma ρ=some (as,ρ')->as.length=n):SE X (.Call (.Name x p) (e::es) [] pos) (zaN F ma):=by
 obtain⟨f,fdd,ps,G0,h1,h2,h3⟩:=fd.ex
 obtain⟨t,pa,sa⟩:=ha
 refine⟨_,zkd G0 (hr.mono hk) hg h1 h2 h3 .nil zp9 pa hdb he hpl,fun B G H σ ρ d ρ' Q I hm kk=>?_⟩
 obtain⟨⟨as,ρ1⟩,e1,hm⟩:=zah hm
 obtain⟨r,e2,hm⟩:=zah hm
 refine sa B G H σ ρ as ρ1 _ I e1 fun G1 H1 vs I1 f1 r1=>?_
 show spP X.K n F (vs++[]) H1 Q E0
 rw[List.append_nil]
 refine⟨G1,as,r,e2,hlen ρ as ρ1 e1,I1.fz,r1,fun G2 H2 v f2 fz2 nw kp rr=>?_⟩
 have I2:=I1.grow f2 fz2 nw kp
 cases r with
 |val d'=>cases hm;exact kk G2 H2 v I2 (f1.trans f2) rr
 |own ds=>
  cases hm
  obtain⟨l,xs,rfl,g3,h3,r3,b3⟩:=rr
  obtain⟨I3,f3,r4⟩:=zmS I2 g3 h3 r3 (I1.there l b3) (I1.own_ne b3 nw kp)
  exact kk _ H2 _ I3 (f1.trans (f2.trans f3)) r4
 |emp=>cases hm
 |two _ _=>cases hm
 |tre _=>cases hm
 |ptr _=>cases hm
 |par _=>cases hm
theorem ziy (fd:FD X.prog X.w X.K X.mg X.base k x (spP X.K n F))(hr:Room k' X.A)(ha:SA X (e::es) ma)(hn:autoParam ((e::es).length=n) zu2._auto_1)(hk:autoParam (k<=k') zu1._auto_1)(hg:autoParam (Gl X x) zu2._auto_1)(hdb:autoParam ((x==("__debug__":Str))=false) zu1._auto_1)
  (he:autoParam (starEach (e::es) X.env=(false,eval e X.env)::starEach es X.env) zu2._auto_1) (hpl:autoParam ((backTo pos (starEach es X.env)).any (·.1)=false) zu2._auto_1) (hlen:∀ρ as ρ',ma ρ=some (as,ρ')->as.length=n):SO X (.Call (.Name x p) (e::es) [] pos) (zmD F ma):=by
 obtain⟨f,fdd,ps,G0,h1,h2,h3⟩:=fd.ex
 obtain⟨t,pa,sa⟩:=ha
 refine⟨_,zkd G0 (hr.mono hk) hg h1 h2 h3 .nil zp9 pa hdb he hpl,fun B G H σ ρ d ρ' Q I hm kk=>?_⟩
 obtain⟨⟨as,ρ1⟩,e1,hm⟩:=zah hm
 obtain⟨r,e2,hm⟩:=zah hm
 refine sa B G H σ ρ as ρ1 _ I e1 fun G1 H1 vs I1 f1 r1=>?_
 show spP X.K n F (vs++[]) H1 Q E0
 rw[List.append_nil]
 refine⟨G1,as,r,e2,hlen ρ as ρ1 e1,I1.fz,r1,fun G2 H2 v f2 fz2 nw kp rr=>?_⟩
 have I2:=I1.grow f2 fz2 nw kp
 cases r with
 |val d'=>cases hm
 |own ds=>
  cases hm
  obtain⟨l,xs,rfl,g3,h3,r3,b3⟩:=rr
  exact kk G2 H2 l xs I2 (f1.trans f2) g3 h3 r3 (I1.there l b3) (I1.own_ne b3 nw kp)
 |emp=>cases hm
 |two _ _=>cases hm
 |tre _=>cases hm
 |ptr _=>cases hm
 |par _=>cases hm
end
noncomputable def aLen (ma:MA)(n:Nat):Prop:=∀ρ as ρ',ma ρ=some (as,ρ')->as.length=n
theorem zai:aLen aNil 0:=fun ρ as ρ' h=>by cases h;rfl
theorem zac {m:ME}{r:MA}(h:aLen r n):aLen (zad m r) (n+1):=fun ρ as ρ' e=>by
 obtain⟨⟨d,ρ1⟩,_,h2⟩:=zah e
 obtain⟨⟨ds,ρ2⟩,e3,e4⟩:=zau h2
 cases e4
 rw[List.length_cons,h ρ1 ds ρ2 e3]
noncomputable def zbk (F:List D->List D->Option (Sl×List D))(j:Nat)(ma:MA):ME:=fun ρ=>if(ρ[j]?.bind Sl.items).isSome then(ma ρ).bind fun p=>p.2[j]?.bind fun s=>s.items.bind fun cs=>(F cs p.1).bind fun r=>match r.1 with
 | .val d=>some (d,p.2.set j (s.put r.2))
 | .own ds=>some (.lst ds,p.2.set j (s.put r.2))
 |_=>none else none
theorem SI.growW (I:SI K B G H σ ρ)(e:ρ[j]? =some s)(q:s.items=some cs)(hl:σ[j]? =some (some (.ref l)))
  (f:Fz G G') (fz:Fz G' H') (nw:∀b o,G' b=some o->G b≠none\/H b=none) (kp:∀b o,b≠l->H b=some o->H' b=some o) (gl:G' l=none) (hl':H' l=some (.lst ys)) (r:RepL K G' ys out):SI K B G' H' σ (ρ.set j (s.put out)):=
 I.chgW e q hl fz f nw kp gl hl' r
theorem SI.own_neW (I:SI K B G H σ ρ)(e:ρ[j]? =some s)(q:s.items=some cs)(hl:σ[j]? =some (some (.ref l)))(hp:H p=none)
  (nw:∀b o,G' b=some o->G b≠none\/H b=none) (kp:∀b o,b≠l->H b=some o->H' b=some o):Nw K G' H' σ (ρ.set j (s.put out)) p:=fun i t et w=>by
 obtain⟨l',xs,e1,e2,e3,e4⟩:=I.wr e q
 rw[hl]at e1;cases e1
 have hpl:p≠l:=fun z=>by rw[z,e3]at hp;cases hp
 by_cases z:i=j
 ·subst z
  rw[List.getElem?_set,if_pos rfl]at et
  split at et
  ·cases et
   have:=(zgw (zm0 q out)).mp w
   rw[hl]at this
   exact hpl (V.ref.inj (Option.some.inj (Option.some.inj this))).symm
  ·cases et
 ·rw[List.getElem?_set_ne (Ne.symm z)]at et
  have sl:=I.slot i t et
  refine(sl.own (sl.back (fun a w g h=>?_) w)).2.1 hp
  have na:a≠l:=fun w'=>by subst w';exact I.dis i j t s a z et e w ((zgw q).mpr hl)
  obtain⟨u,hu⟩:=Option.ne_none_iff_exists'.mp h
  refine⟨?_,(kp a u na hu).trans hu.symm⟩
  cases q2:G' a with
  |none=>rfl
  |some u=>
   rcases nw a u q2 with z|z
   ·exact absurd g z
   ·exact absurd z h
section
variable {X:Cx} {x y:Str} {p py pos:Pos} {es:List Expr} {ma:MA} {k k' n:Nat} {F:List D->List D->Option (Sl×List D)}
theorem soundM {t:TA}{Q:VK}(sa:∀B G H σ ρ ds ρ' (Q:List V->Hp->Prop),SI X.K B G H σ ρ->ma ρ=some (ds,ρ')->(∀G' H' vs,SI X.K B G' H' σ ρ'->Fz G G'->RepL X.K G' vs ds->Q vs H')->t σ H Q)
  (hlen:∀ρ as ρ',ma ρ=some (as,ρ')->as.length+1=n) (I:SI X.K B G H σ ρ) {ds0:List D} (h0:ρ[j]?.bind Sl.items=some ds0) {as:List D} {ρ1:R} (e1:ma ρ=some (as,ρ1)) {s:Sl} (e2:ρ1[j]? =some s) {cs:List D} (e3:s.items=some cs)
  {r:Sl} {out:List D} (e4:F cs as=some (r,out))
  (kk:∀G' H' v,SI X.K B G' H' σ (ρ1.set j (s.put out))->Fz G G'->True->(∃H1,ResF X.K G' H' H1 v r/\(∀b,H1 b=none->B.H b=none)/\∀b,H1 b=none->Nw X.K G' H' σ (ρ1.set j (s.put out)) b)->Q v H'):
  tCall (spM X.K n F) [] E0 (tCons (tVar j) t) σ H Q:=by
 obtain⟨s0,k0,q0⟩:=zah h0
 obtain⟨l,xs0,h1,h2,h3,h4⟩:=I.wr k0 q0
 refine⟨.ref l,h1,sa B G H σ ρ as ρ1 _ I e1 fun G1 H1 vs I1 f1 r1=>?_⟩
 show spM X.K n F ((.ref l::vs)++[]) H1 Q E0
 rw[List.append_nil]
 obtain⟨l',xs,m1,m2,m3,m4⟩:=I1.wr e2 e3
 rw[h1]at m1;cases m1
 refine⟨G1,l,xs,cs,vs,as,r,out,rfl,e4,hlen ρ as ρ1 e1,I1.fz,m2,m3,m4,r1,fun G2 H2 v ys f2 fz2 nw kp gl hl r2 rr=>?_⟩
 exact kk G2 H2 v (I1.growW e2 e3 h1 f2 fz2 nw kp gl hl r2) (f1.trans f2) trivial ⟨H1,rr,fun b hb=>I1.there b hb,fun b hb=>I1.own_neW e2 e3 h1 hb nw kp⟩
theorem zaM (j:Nat)(fd:FD X.prog X.w X.K X.mg X.base k x (spM X.K n F))(hr:Room k' X.A)(ha:SA X es ma)(hlen:∀ρ as ρ',ma ρ=some (as,ρ')->as.length+1=n)(hN:autoParam (X.N[j]? =some y) zu2._auto_1)(hv:autoParam (Vis X.env.scope y) zu5._auto_1)(hd:autoParam ((y==("__debug__":Str))=false) zu1._auto_1)
  (hcd:autoParam ((y==("__classdict__":Str))=false) zu1._auto_1) (hk:autoParam (k<=k') zu1._auto_1) (hg:autoParam (Gl X x) zu2._auto_1) (hdb:autoParam ((x==("__debug__":Str))=false) zu1._auto_1)
  (he:autoParam (starEach (.Name y py::es) X.env=(false,eval (.Name y py) X.env)::starEach es X.env) zu2._auto_1) (hpl:autoParam ((backTo pos (starEach es X.env)).any (·.1)=false) zu2._auto_1):SE X (.Call (.Name x p) (.Name y py::es) [] pos) (zbk F j ma):=by
 obtain⟨f,fdd,ps,G0,h1,h2,h3⟩:=fd.ex
 obtain⟨t,pa,sa⟩:=ha
 refine⟨_,zkd G0 (hr.mono hk) hg h1 h2 h3 .nil zp9 (zbY (zfw hN hv hd hcd) pa he) hdb he hpl,fun B G H σ ρ d ρ' Q I hm kk=>?_⟩
 unfold zbk at hm
 split at hm
 ·rename_i hso
  obtain⟨ds0,hso⟩:=Option.isSome_iff_exists.mp hso
  obtain⟨⟨as,ρ1⟩,e1,hm⟩:=zah hm
  obtain⟨s,e2,hm⟩:=zah hm
  obtain⟨cs,e3,hm⟩:=zah hm
  obtain⟨⟨r,out⟩,e4,hm⟩:=zah hm
  refine soundM sa hlen I hso e1 e2 e3 e4 fun G' H' v I' f' _ ⟨H1,rr,bb,nn⟩=>?_
  cases r with
  |val d'=>cases hm;exact kk G' H' v I' f' rr
  |own ds=>
   cases hm
   obtain⟨l,xs,rfl,g3,h3,r3,b3⟩:=rr
   obtain⟨I3,f3,r4⟩:=zmS I' g3 h3 r3 (bb l b3) (nn l b3)
   exact kk _ H' _ I3 (f'.trans f3) r4
  |emp=>cases hm
  |two _ _=>cases hm
  |tre _=>cases hm
  |ptr _=>cases hm
  |par _=>cases hm
 ·cases hm
end
noncomputable def zfO (env:Env)(cs:List (Str×Addr))(x:Str×NameKind):List (Str×Addr):=if x.2== .free then(x.1,(env.cells.lookup x.1).getD 0)::cs else cs
noncomputable def clOf (scope:Scope)(env:Env):List (Str×Addr):=scope.names.foldl (zfO env) []
theorem zi5:∀(names:List (Str×NameKind)) (cs:List (Str×Addr)),(∀y∈names,y.2= .free->∃c,env.cells.lookup y.1=some c)->
  (forIn names cs (fun x r=>if x.2==NameKind.free then do let a<-cellOf env x.1;pure (ForInStep.yield ((x.1,a)::r))else pure (ForInStep.yield r)):Sem (List (Str×Addr)))=pure (names.foldl (zfO env) cs)
 |[],cs,_=>rfl
 |(n,k)::r,cs,h=>by
  have ih:=fun cs'=>zi5 r cs' (fun y hy=>h y (List.mem_cons_of_mem _ hy))
  rw[List.forIn_cons,List.foldl_cons]
  by_cases hk:(k==NameKind.free)=true
  ·obtain⟨c,hc⟩:=h (n,k) List.mem_cons_self (by simpa using hk)
   have e:zfO env cs (n,k)=(n,c)::cs:=by unfold zfO;simp[hk,hc]
   rw[e,<-ih]
   simp only[hk,if_true]
   unfold cellOf
   simp only at hc
   rw[hc]
   rfl
  ·have e:zfO env cs (n,k)=cs:=by unfold zfO;simp[hk]
   rw[e,<-ih]
   simp only[hk]
   rfl
theorem zlc {env:Env}(h:∀y∈scope.names,y.2= .free->∃c,env.cells.lookup y.1=some c):closureFor scope env=pure (clOf scope env):=by
 unfold closureFor clOf
 have e:=zi5 (env:=env) scope.names [] h
 simp only[bind_pure]
 exact e
theorem zev:∀{names:List (Str×NameKind)} {cs:List (Str×Addr)},(∀y∈names,y.2= .free->∃c,env.cells.lookup y.1=some c)->(cs.lookup x=some c->env.cells.lookup x=some c)->
  (names.foldl (zfO env) cs).lookup x=some c->env.cells.lookup x=some c
 |[],cs,_,h0,h=>h0 h
 |(n,k)::r,cs,hn,h0,h=>by
  rw[List.foldl_cons]at h
  refine zev (names:=r) (fun y hy=>hn y (List.mem_cons_of_mem _ hy)) ?_ h
  intro q
  unfold zfO at q
  split at q
  ·rename_i hk
   obtain⟨c',hc⟩:=hn (n,k) List.mem_cons_self (by simpa using hk)
   rw[List.lookup_cons]at q
   simp only at hc
   by_cases z:(x==n)=true
   ·rw[z]at q
    have zz:x=n:=by simpa using z
    subst zz
    simp only[hc,Option.getD_some]at q
    rw[hc];exact q
   ·have z':(x==n)=false:=by simpa using z
    rw[z']at q;exact h0 q
  ·exact h0 q
theorem zcM:∀{names:List (Str×NameKind)} {cs:List (Str×Addr)},((x,NameKind.free)∈names\/(cs.lookup x).isSome=true)->((names.foldl (zfO env) cs).lookup x).isSome=true
 |[],cs,h=>by
  rcases h with h|h
  ·simp at h
  ·exact h
 |(n,k)::r,cs,h=>by
  rw[List.foldl_cons]
  refine zcM (names:=r) ?_
  rcases h with h|h
  ·rcases List.mem_cons.mp h with h|h
   ·cases h
    refine .inr ?_
    unfold zfO
    simp
   ·exact .inl h
  ·refine .inr ?_
   unfold zfO
   split
   ·rw[List.lookup_cons]
    by_cases z:(x==n)=true
    ·rw[z];rfl
    ·have z':(x==n)=false:=by simpa using z
     rw[z'];exact h
   ·exact h
theorem zjN:∀{names:List (Str×NameKind)} {n:Nat} {acc:List (Str×Addr)},(cellsFrom n names acc).lookup x=some c->(n<=c/\(x,NameKind.cell)∈names)\/acc.lookup x=some c
 |[],n,acc,h=> .inr h
 |(m,k)::r,n,acc,h=>by
  unfold cellsFrom at h
  split at h
  ·rename_i hk
   have hk':k= .cell:=by simpa using hk
   subst hk'
   rcases zjN h with⟨h1,h2⟩|h1
   ·exact .inl ⟨Nat.le_of_succ_le h1,List.mem_cons_of_mem _ h2⟩
   ·rw[List.lookup_cons]at h1
    cases q:x==m with
    |true=>
     rw[q]at h1
     cases h1
     rw[beq_iff_eq.mp q]
     exact .inl ⟨Nat.le_refl _,List.mem_cons_self⟩
    |false=>rw[q]at h1;exact .inr h1
  ·rcases zjN h with⟨h1,h2⟩|h1
   ·exact .inl ⟨h1,List.mem_cons_of_mem _ h2⟩
   ·exact .inr h1
theorem zoJ:∀{names:List (Str×NameKind)} {n:Nat} {acc:List (Str×Addr)},(x,NameKind.cell)∉names->(cellsFrom n names acc).lookup x=acc.lookup x
 |[],n,acc,_=>rfl
 |(m,k)::r,n,acc,h=>by
  unfold cellsFrom
  split
  ·rename_i hk
   have hk':k= .cell:=by simpa using hk
   subst hk'
   rw[zoJ fun z=>h (List.mem_cons_of_mem _ z),List.lookup_cons]
   cases q:x==m with
   |true=>exact absurd (by rw[beq_iff_eq.mp q];exact List.mem_cons_self) h
   |false=>rfl
  ·exact zoJ fun z=>h (List.mem_cons_of_mem _ z)
theorem zoF:∀{names:List (Str×NameKind)} {n:Nat} {acc:List (Str×Addr)},(x,NameKind.cell)∈names->∃c,(cellsFrom n names acc).lookup x=some c/\n<=c
 |(m,k)::r,n,acc,h=>by
  unfold cellsFrom
  by_cases hr:(x,NameKind.cell)∈r
  ·split
   ·obtain⟨c,h1,h2⟩:=zoF (n:=n+1) (acc:=(m,n)::acc) hr
    exact⟨c,h1,Nat.le_of_succ_le h2⟩
   ·exact zoF hr
  ·rcases List.mem_cons.mp h with e|e
   ·cases e
    rw[if_pos (beq_self_eq_true _),zoJ hr,List.lookup_cons,beq_self_eq_true]
    exact⟨n,rfl,Nat.le_refl _⟩
   ·exact absurd e hr
theorem zqh:∀{names:List (Str×NameKind)} {n:Nat} {acc:List (Str×Addr)},(∀x c,acc.lookup x=some c->c<n)->(∀x y c,acc.lookup x=some c->acc.lookup y=some c->x=y)->
  ∀x y c,(cellsFrom n names acc).lookup x=some c->(cellsFrom n names acc).lookup y=some c->x=y
 |[],n,acc,_,hi=>hi
 |(m,k)::r,n,acc,hl,hi=>by
  unfold cellsFrom
  split
  ·refine zqh (fun x c h=>?_) (fun x y c h1 h2=>?_)
   ·rw[List.lookup_cons]at h
    cases q:x==m with
    |true=>rw[q]at h;cases h;exact Nat.lt_succ_self _
    |false=>rw[q]at h;exact Nat.lt_succ_of_lt (hl x c h)
   ·rw[List.lookup_cons]at h1 h2
    cases q:x==m with
    |true=>
     rw[q]at h1
     cases h1
     cases q2:y==m with
     |true=>rw[beq_iff_eq.mp q,beq_iff_eq.mp q2]
     |false=>rw[q2]at h2;exact absurd (hl y n h2) (Nat.lt_irrefl _)
    |false=>
     rw[q]at h1
     cases q2:y==m with
     |true=>rw[q2]at h2;cases h2;exact absurd (hl x n h1) (Nat.lt_irrefl _)
     |false=>rw[q2]at h2;exact hi x y c h1 h2
  ·exact zqh hl hi
theorem zn2:∀{names:List (Str×NameKind)} {h:Heap} {acc:List (Str×Addr)},(∀x c,acc.lookup x=some c->∃v,h.IsCell c v)->∀x c,(cellsFrom h.objs.size names acc).lookup x=some c->∃v,(pushCells h names).IsCell c v
 |[],h,acc,ha=>ha
 |(m,k)::r,h,acc,ha=>by
  unfold cellsFrom pushCells
  split
  ·intro x c e
   rw[<-Heap.size_push h {cls:= .type "cell",data:= .cell none}]at e
   refine zn2 (fun y d q=>?_) x c e
   rw[List.lookup_cons]at q
   cases z:y==m with
   |true=>rw[z]at q;cases q;exact⟨none,_,Heap.get?_push_size _ rfl,rfl⟩
   |false=>
    rw[z]at q
    obtain⟨v,hv⟩:=ha y d q
    exact⟨v,hv.keeps fun b o e=>Heap.get?_push_of_some _ e⟩
  ·exact zn2 ha
theorem znS {M:Model}{s:Shared}{globals:Addr}{Q:Env->Shared->Prop}
  (hQ : ∀ h' : Heap, h'.Ns s.heap.objs.size (fun _ => none) -> (∀ a o, s.heap.get? a = some o -> h'.get? a = some o) ->
   ((∀x c,cl.lookup x=some c->∃v,s.heap.IsCell c v)->∀x c,(cellsFrom (s.heap.objs.size+1) scope.names cl).lookup x=some c->∃v,h'.IsCell c v)->
   Q (newEnv scope s.heap.objs.size globals (cellsFrom (s.heap.objs.size+1) scope.names cl) qual none .none (some env) builtinsNs) {s with heap:=h'}):
  wpAny M A (newFunctionEnv scope globals cl [] qual none .none (some env)) Q E s:=by
 simp only[newFunctionEnv,Option.isSome_some,if_true]
 refine wpAny_bind (wpAny_alloc ?_)
 refine wpAny_bind (wpAny_layCells _ (fun name kind cells=>by cases hkc:kind==NameKind.cell<;>simp[hkc]) _ _ _ _ ?_)
 rw[show({s with heap:=s.heap.push {cls:= .type "dict",data:= .dict #[]}}:Shared).heap.objs.size=s.heap.objs.size+1 from Heap.size_push ..]
 refine wpAny_bind ?_
 rw[List.forIn_nil]
 refine wpAny_pure (wpAny_pure (hQ _ ((Heap.Ns.new s.heap (.type "dict")).keeps (pushCells_keeps _ _)) (fun a o e=>pushCells_keeps _ _ a o (Heap.get?_push_of_some _ e)) fun hc x c e=>?_))
 rw[<-Heap.size_push s.heap {cls:= .type "dict",data:= .dict #[]}]at e
 refine zn2 (fun y d q=>?_) x c e
 obtain⟨v,hv⟩:=hc y d q
 exact⟨v,hv.keeps fun b o e=>Heap.get?_push_of_some _ e⟩
noncomputable def clC (scope:Scope)(env:Env)(C:Addr):List (Str×Addr):=cellsFrom (C+1) scope.names (clOf scope env)
noncomputable def ownC (scope:Scope)(x:Str):Bool:=match scope.names.lookup x with
 |some .cell=>true
 |_=>false
noncomputable def cxC (X:Cx)(N:List Str)(scope:Scope)(C:Addr)(s:Shared)(H:Hp)(fp:List Addr):Cx:=
 {X with N:=N,s₀:=s,H₀:=H,env:=compEnvC scope (clC scope X.env C) C X.env,outer:=X.stack,ex:=fp,fn:=ownC scope,pn:=[],xe:=fun _ _=>False}
structure BlkOk (X:Cx) (scope:Scope):Prop where
 kind:scope.kind= .function
 uniq:∀y∈scope.names,scope.names.lookup y.1=some y.2
 free:∀y∈scope.names,y.2= .free->X.env.kindOf y.1=some .cell\/X.env.kindOf y.1=some .free
theorem zcv {α:Type}{v:α}:∀{l:List (Str×α)},l.lookup x=some v->(x,v)∈l
 |[],h=>by simp at h
 |(n,w)::r,h=>by
  rw[List.lookup_cons]at h
  by_cases z:(x==n)=true
  ·rw[z]at h
   have zz:x=n:=by simpa using z
   subst zz
   cases h
   exact List.mem_cons_self
  ·have z':(x==n)=false:=by simpa using z
   rw[z']at h
   exact List.mem_cons_of_mem _ (zcv h)
theorem zeb {env:Env}{x:Str}:∀{names:List (Str×NameKind)},(names.map fun(n,k)=>if(k==NameKind.free&&env.scope.kind== .function&&env.kindOf n==some .cell)then(n,NameKind.cell)else(n,k)).lookup x=
  (names.lookup x).map fun k=>if(k==NameKind.free&&env.scope.kind== .function&&env.kindOf x==some .cell)then NameKind.cell else k
 |[]=>rfl
 |(n,k)::r=>by
  have ih:=zeb (env:=env) (x:=x) (names:=r)
  show List.lookup x ((if(k==NameKind.free&&env.scope.kind== .function&&env.kindOf n==some .cell)=true then(n,NameKind.cell)else(n,k))::_)=_
  cases hx:x==n with
  |true=>
   have zz:x=n:=by simpa using hx
   by_cases hc:(k==NameKind.free&&env.scope.kind== .function&&env.kindOf n==some .cell)=true
   ·rw[if_pos hc]
    simp only[List.lookup_cons,hx,Option.map_some]
    rw[zz,if_pos hc]
   ·rw[if_neg hc]
    simp only[List.lookup_cons,hx,Option.map_some]
    rw[zz,if_neg hc]
  |false=>
   by_cases hc:(k==NameKind.free&&env.scope.kind== .function&&env.kindOf n==some .cell)=true
   ·rw[if_pos hc];simp only[List.lookup_cons,hx];exact ih
   ·rw[if_neg hc];simp only[List.lookup_cons,hx];exact ih
section
variable {X:Cx} {pins:List (Addr×Obj)} {σ:St} {H:Hp} {s:Shared} {scope:Scope} {N:List Str} {fp:List Addr} {C:Addr}
theorem zh2 (I:Inv X pins σ H s)(b:BlkOk X scope):∀y∈scope.names,y.2= .free->∃c,X.env.cells.lookup y.1=some c:=fun y hy hf=>I.ok.has y.1 (b.free y hy hf)
theorem blk_vis (h:(relabel scope X.env).names.lookup x=some .cell\/(relabel scope X.env).names.lookup x=some .free):(x,NameKind.free)∈scope.names\/(x,NameKind.cell)∈scope.names:=by
 have e:(relabel scope X.env).names.lookup x=(scope.names.lookup x).map fun k=>if(k==NameKind.free&&X.env.scope.kind== .function&&X.env.kindOf x==some .cell)then NameKind.cell else k:=zeb
 rw[e]at h
 cases q:scope.names.lookup x with
 |none=>rw[q]at h;simp at h
 |some k=>
  have hm:=zcv q
  by_cases hk:k= .free
  ·subst hk;exact .inl hm
  ·rw[q]at h
   have hkf:(k==NameKind.free)=false:=by simpa using hk
   simp only[Option.map_some,hkf,Bool.false_and,Bool.false_eq_true,if_false,Option.some.injEq]at h
   rcases h with h|h
   ·subst h;exact .inr hm
   ·exact absurd h hk
theorem zcF (I:Inv X pins σ H s)(b:BlkOk X scope)(h:(clOf scope X.env).lookup x=some c):X.env.cells.lookup x=some c:=zev (zh2 I b) (by simp) h
theorem zih (I:Inv X pins σ H s)(b:BlkOk X scope)(h:(clC scope X.env C).lookup x=some c):C<c\/X.env.cells.lookup x=some c:=by
 rcases zjN h with⟨h1,_⟩|h1
 ·exact .inl h1
 ·exact .inr (zcF I b h1)
theorem zow (b:BlkOk X scope)(h:(x,NameKind.free)∈scope.names):(clC scope X.env C).lookup x=(clOf scope X.env).lookup x:=zoJ fun z=>by
 have h1:=b.uniq _ h
 have h2:=b.uniq _ z
 simp only at h1 h2
 rw[h1]at h2
 cases h2
theorem blk_ok (I:Inv X pins σ H s)(b:BlkOk X scope)(hC:s.heap.objs.size<=C)(hf:∀b∈fp,FpOk X pins H b)(hfC:∀b∈fp,b<C):(cxC X N scope C s H fp).Ok where
 mod:=I.ok.mod
 kind:=b.kind
 glob:=I.ok.glob
 blt:=I.ok.blt
 above:=hC
 inj:=zqh (fun x c h=>by
  obtain⟨v,hv⟩:=I.cell x c (zcF I b h)
  exact Nat.lt_succ_of_lt (Nat.lt_of_lt_of_le hv.lt hC)) fun x y c h1 h2=>I.ok.inj x y c (zcF I b h1) (zcF I b h2)
 has:=fun x hx=>by
  rcases blk_vis (x:=x) hx with hm|hm
  ·show ∃c,(clC scope X.env C).lookup x=some c
   rw[zow b hm]
   exact Option.isSome_iff_exists.mp (zcM (.inl hm))
  ·obtain⟨c,h,_⟩:=zoF (n:=C+1) (acc:=clOf scope X.env) hm
   exact⟨c,h⟩
 cab:=fun x c h e=>by
  have h':ownC scope x=true:=h
  unfold ownC at h'
  split at h'
  ·rename_i q
   obtain⟨c',h1,h2⟩:=zoF (n:=C+1) (acc:=clOf scope X.env) (zcv q)
   have e':some c'=some c:=h1.symm.trans e
   cases e'
   exact Nat.le_trans hC (Nat.le_of_succ_le h2)
  ·cases h'
 hd:=I.ok.hd
 frames:=I.ok.frames
 stk:= .inl rfl
 exf:=fun a ha=>⟨Nat.ne_of_lt (hfC a ha),fun x c e z=>by
  rcases zih I b e with q|q
  ·exact Nat.lt_asymm q (z ▸ hfC a ha)
  ·exact(hf a ha).2.2.2.2.1 x c q z⟩
 bs:=I.bs
 bsz:=Nat.le_trans I.ok.bsz I.sz
 noex:=fun a o e ha=>by
  rcases(hf a ha).2.2.2.1 with z|z
  ·exact I.ok.noex a o e z
  ·exact absurd (Nat.lt_of_lt_of_le (Heap.lt_size e) (Nat.le_trans I.ok.bsz z)) (Nat.lt_irrefl _)
 exfs:=fun a ha hs=>by
  rcases List.mem_cons.mp (I.stkSub a hs)with z|z
  ·exact(hf a ha).2.1 z
  ·exact(hf a ha).2.2.1 z
 funs:=I.stack
 frf:=⟨I.stkFree,I.tab⟩
theorem zqS {tk:Nat}(I:Inv X pins σ H s)(b:BlkOk X scope)(hf:∀b∈fp,FpOk X pins H b)(hfs:∀b∈fp,b<s.heap.objs.size)
  (hns:h'.Ns s.heap.objs.size (fun _=>none)) (hk:∀a o,s.heap.get? a=some o->h'.get? a=some o) (hcl:∀x c,(clC scope X.env s.heap.objs.size).lookup x=some c->∃v,h'.IsCell c v) (hl:σc.length=N.length)
  (hσ:∀(i:Nat) (x:Str) (v:V),N[i]? =some x->σc[i]? =some (some v)->(x,NameKind.free)∈scope.names/\∃j:Nat,X.N[j]? =some x/\σ[j]? =some (some v)) (hloc:∀(i:Nat) (x:Str) (v:V),N[i]? =some x->σc[i]? =some (some v)->¬(relabel scope X.env).names.lookup x=some .local):
  Inv (cxC X N scope s.heap.objs.size s H fp) [] σc H {s with heap:=h',toks:=tk}:=by
 have ok:=blk_ok (N:=N) I b (Nat.le_refl _) hf hfs
 refine⟨ok,rfl,I.bare,Un.kept hk,⟨_,hns,fun i x v h1 h2 h3=>?_⟩,fun x c e=>?_,I.hok.fresh (Nat.le_refl _),fun x c e=>?_,fun p hp=>absurd (show p∈([]:List (Addr×Obj))from hp) (by simp),I.hok.kept hk,hl⟩
 ·obtain⟨hm,j,hj,hv⟩:=hσ i x v h1 h2
  have hkind:=b.free _ hm rfl
  obtain⟨m,hn,hloc'⟩:=I.loc
  have hvis:Vis X.env.scope x:=by
   rcases hkind with z|z
   ·exact .inr (.inl z)
   ·exact .inr (.inr z)
  obtain⟨u,ru,lk⟩:=hloc' j x v hj hv hvis
  refine⟨u,ru,?_⟩
  rcases lk with⟨z,_⟩|⟨_,c,ec,hc⟩
  ·exfalso
   rcases hkind with w|w<;>simp only at w<;>rw[z]at w<;>cases w
  ·refine .inr ⟨?_,c,?_,?_⟩
   ·rcases h3 with z|z|z
    ·exact absurd z (hloc i x v h1 h2)
    ·exact .inl z
    ·exact .inr z
   ·have hs:((clOf scope X.env).lookup x).isSome=true:=zcM (.inl hm)
    obtain⟨c',ec'⟩:=Option.isSome_iff_exists.mp hs
    have:=zev (zh2 I b) (by simp) ec'
    rw[ec]at this
    cases this
    exact(zow b hm).trans ec'
   ·obtain⟨o,ho,hd⟩:=hc
    exact⟨o,hk _ _ ho,hd⟩
 ·exact hcl x c e
 ·rcases zih I b e with q|q
  ·exact I.hok.fresh (Nat.le_of_lt q)
  ·exact I.freeC x c q
theorem zq3 {h':Heap}{s1:Shared}(I:Inv X pins σ H s)(hf:∀b∈fp,FpOk X pins H b)(J:Inv (cxC X N scope s.heap.objs.size s H fp) [] σc H' s1)(hs:Heap.SameBut s.heap.objs.size s1.heap h'):Inv X pins σ H' {s1 with heap:=h'}:=by
 have kp:∀a o,a≠s.heap.objs.size->s1.heap.get? a=some o->h'.get? a=some o:=fun a o ha e=>hs.extBut a o ha e
 have free:H' s.heap.objs.size=none:=J.free
 have ntr:∀a u,H' a=some u->a≠s.heap.objs.size:=fun a u e z=>by rw[z,free]at e;cases e
 have lt:∀a o,s.heap.get? a=some o->a≠s.heap.objs.size:=fun a o e=>Nat.ne_of_lt (Heap.lt_size e)
 have u:Un (frs X.stack) fp H H' s.heap s1.heap:=J.base
 have u':Un (frs X.stack) fp H H' s.heap h':=by
  refine⟨fun a o e n hb hx=>kp a o (lt a o e) (u.keep a o e n hb hx),fun a o e n hb hx=>?_,u.free,fun a o e hx=>?_,u.tups,u.frzs,u.tbls⟩
  ·obtain⟨sl,q⟩:=u.slot a o e n hb hx
   exact⟨sl,kp a _ (lt a o e) q⟩
  ·obtain⟨o',q⟩:=u.there a o e hx
   exact⟨o',kp a _ (lt a o e) q⟩
 have hok:HOk X.prog X.w H' h':=fun a o e=>(J.hok a o e).stay (fun c v hc q=>by
  refine kp c v ?_ q
  rcases hc with rfl|hc
  ·exact ntr _ _ e
  ·exact ntr _ _ hc) (fun _ q=>q) (fun _ _ q=>q) fun _ _ _ q=>q
 obtain⟨hh,g,d,t,os'⟩:=s1
 have os:os'=s.os:=J.os
 subst os
 have z:=I.call (h':=h') (g':=g) (d':=d) (t':=t) (ch:=fp) u' hok J.bare (fun a ha=>⟨(hf a ha).2.2.2.1,(hf a ha).2.1,(hf a ha).2.2.2.2.1,(hf a ha).2.2.2.2.2⟩)
 exact z
end
noncomputable def PTs (X:Cx)(ifs:List Expr)(t:TT):Prop:=∀(pins:List (Addr×Obj)) (s:Shared) (σ:St) (H:Hp) (Q:Bool->Hp->Prop),Inv X pins σ H s->t σ H Q->
 wpAny (model X.prog X.w) X.A (forIn ifs true fun c r=>if r=true then do let ok<-isTrue c X.env (eval c X.env);pure (ForInStep.yield ok)else pure (ForInStep.yield r)) (TP X pins σ Q) X.xe s
theorem pts_nil:PTs X [] (fun _ H Q=>Q true H):=fun pins s σ H Q I h=>wpAny_tests_nil ⟨H,I,h⟩
theorem pts_one {c:Expr}{t:TT}(h:PT X c t):PTs X [c] t:=fun pins s σ H Q I hw=>wpAny_tests_one (h pins s σ H Q I hw)
theorem znK {R:Result->Shared->Prop}{s:Shared}{elt target iter:Expr}{it acc:Value}(I:Nat->Shared->Prop)
  (turn : ∀ n s, I n s -> wpAny (model prog w) A (pyNext it) (fun r s₁ => match r with
   |none=>R (.ok .next) s₁
   | some v => wpAny (model prog w) A (letOwnedTupleGo target it v) (fun _ s₁' => wpAny (model prog w) A (assign target env v) (fun _ s₂ =>
     wpAny (model prog w) A (forIn ifs true fun c r=>if r=true then do let ok<-isTrue c env (eval c env);pure (ForInStep.yield ok)else pure (ForInStep.yield r)) (fun ok s₃=>
      if ok=true then wpAny (model prog w) A (eval elt env) (fun x s₄=>
       wpAny (model prog w) A (call (.builtin "list.append") [acc,x]) (fun _ s₅=>∃m,m<n/\I m s₅) (fun _ _=>False) s₄) (fun _ _=>False) s₃
      else ∃m,m<n/\I m s₃) (fun _ _=>False) s₂) (fun _ _=>False) s₁') (fun _ _=>False) s₁) (fun _ _=>False) s)
  (n:Nat) (h:I n s):codeAny (model prog w) A (.compLoop (.ListComp elt [⟨target,iter,ifs,0⟩] scope pos) 0 it acc env) R s:=by
 refine codeAny_loop rfl I (fun n s hI=>?_) n h
 show wpAny _ A ((compTurn (.ListComp elt [⟨target,iter,ifs,0⟩] scope pos) 0 it acc env).onRaise (fun x=>do noteFrame x env;theTreesLotGoes x)) _ _ s
 refine wpAny_noted ?_
 rw[compTurn_list]
 have no:∀{E:Value->Shared->Prop},∀x s',(fun(_:Value) (_:Shared)=>False) x s'->E x s':=fun _ _ z=>z.elim
 refine wpAny_bind (wpAny_standAt (wpAny_bind (wpAny_mono (turn n s hI) (fun r s₁ h₁=>?_) no)))
 cases r with
 |none=>exact wpAny_pure h₁
 |some v=>
  refine wpAny_bind (wpAny_mono h₁ (fun _ s₁' h₁'=>?_) no)
  refine wpAny_bind (wpAny_mono h₁' (fun _ s₂ h₂=>wpAny_bind (wpAny_mono h₂ (fun ok s₃ h₃=>?_) no)) no)
  cases ok with
  |false=>exact wpAny_pure ⟨rfl,h₃⟩
  |true=>
   exact wpAny_bind (wpAny_bind (wpAny_mono h₃ (fun x s₄ h₄=>wpAny_bind (wpAny_mono h₄ (fun _ s₅ h₅=>wpAny_pure (wpAny_pure ⟨rfl,h₅⟩)) no)) no))
noncomputable def tLC (σ0:St->St)(wi:TI)(g:Addr->Shared->Hp->List Addr->TG)(tt:Addr->Shared->Hp->List Addr->TT)(te:Addr->Shared->Hp->List Addr->TE):TE:=fun σ H Q=>wi σ H fun J H1=>∀D,H1 D=none->∃W:Nat->Nat->St->Hp->Prop,(∃m,W 0 m (σ0 σ) (upd H1 D (.lst [])))/\∀i m σ H,W i m σ H->
 (J.stop i H /\ Q (.ref D) H) \/ (J.go i H /\ ∀ C s₀ H₀ fp x H', J.yld i H x H' -> g C s₀ H₀ fp x σ H' fun σ2 H2 => tt C s₀ H₀ fp σ2 H2 fun ok H3 => if ok = true then te C s₀ H₀ fp σ2 H3 fun v H4 => ∃ xs, H4 D = some (.lst xs) /\ xs.length < sizeLine /\ ∃ m', m' < m /\ W (i + 1) m' σ2 (upd H4 D (.lst (xs ++ [v])))
  else ∃m',m'<m/\W (i+1) m' σ2 H3)
section
variable {X:Cx} {elt iter tg:Expr} {ifs:List Expr} {scope:Scope} {pos:Pos} {N:List Str} {σ0:St->St} {wi:TI} {g:Addr->Shared->Hp->List Addr->TG} {tt:Addr->Shared->Hp->List Addr->TT} {te:Addr->Shared->Hp->List Addr->TE}
structure Cap (X:Cx) (scope:Scope) (N:List Str) (σ0:St->St):Prop where
 len:∀σ,(σ0 σ).length=N.length
 src:∀(σ:St) (i:Nat) (x:Str) (v:V),N[i]? =some x->(σ0 σ)[i]? =some (some v)->(x,NameKind.free)∈scope.names/\∃j:Nat,X.N[j]? =some x/\σ[j]? =some (some v)
 loc:∀(σ:St) (i:Nat) (x:Str) (v:V),N[i]? =some x->(σ0 σ)[i]? =some (some v)->¬(relabel scope X.env).names.lookup x=some .local
theorem zro {E:Value->Shared->Prop}(hc:X.calm=true)(b:BlkOk X scope)(cap:Cap X scope N σ0)(hi:PI X tg iter wi)(hg:∀C s H fp,PG (cxC X N scope C s H fp) tg (g C s H fp))(ht:∀C s H fp,PTs (cxC X N scope C s H fp) ifs (tt C s H fp))(he:∀C s H fp,PE (cxC X N scope C s H fp) elt (te C s H fp))
  {pins:List (Addr×Obj)} {s:Shared} {σ:St} {H:Hp} {Q:VK} (I:Inv X pins σ H s) (h:tLC σ0 wi g tt te σ H Q) {QQ:Value->Shared->Prop} {p0:Pos}
  (hs:∀x,foldedSetIterable iter X.env x=pure x)
  (fin : match use with
   |none=>∀u s',EP X pins σ Q u s'->QQ u s'
   |some f=>∀(D:Addr) (fp:List Addr) (C:Addr) (H1 H':Hp) (σc:St) (s1 s':Shared),Inv X pins σ H1 s1->(∀b∈fp,FpOk X pins H1 b)->C=s1.heap.objs.size->Inv (cxC X N scope C s1 H1 fp) [] σc H' s'->Q (.ref D) H'->
     wpAny (model X.prog X.w) X.A (f (.ref D)) (fun _ s''=>∃m,s''.heap.Ns C m/\∀h',Heap.SameBut C s''.heap h'->QQ .none {s'' with heap:=h'}) X.xe s'):
  wpAny (model X.prog X.w) X.A (comprehension (.ListComp elt [⟨tg,iter,ifs,0⟩] scope pos) scope X.env p0 (newList []) false (eval iter X.env) use) QQ X.xe s:=by
 refine wpAny_comprehension_free (cl:=clOf scope X.env) (g:=⟨tg,iter,ifs,0⟩) (gs:=[]) rfl hs (zlc (zh2 I b)) b.kind (fun x hx hl=>hl ▸ b.uniq x hx) ?_
 refine thn (hi pins s σ H _ I h) fun v s1 h1=>thn h1 fun itv s2 h2=>?_
 obtain⟨it,fp,tn,J,H2,e,I2,T,st2,f2,h3⟩:=h2
 subst e
 refine wpAny_newObj_type ?_ (by show(0:Nat)<=sizeLine;exact Nat.zero_le _)
 have hD:H2 s2.heap.objs.size=none:=I2.fresh
 obtain⟨W,⟨m0,w0⟩,turn⟩:=h3 _ hD
 have I3:Inv X pins σ (upd H2 s2.heap.objs.size (.lst [])) {s2 with heap:=s2.heap.push {cls:= .type "list",data:= .seq ([]:List Value).toArray}}:=I2.lnew (t':=s2.toks) .nil (Nat.zero_le _)
 have f3:∀b∈fp,FpOk X pins (upd H2 s2.heap.objs.size (.lst [])) b:=fun b hb=>by
  obtain⟨a1,a2⟩:=f2 b hb
  obtain⟨o,ho,_⟩:=T.obj _ _ st2 b hb
  exact⟨by rw[zar (Nat.ne_of_lt (Heap.lt_size ho))];exact a1,a2⟩
 have st3:tn 0 (s2.heap.push {cls:= .type "list",data:= .seq ([]:List Value).toArray}):=T.keep _ _ _ st2 fun b hb o e=>Heap.get?_push_of_some _ e
 generalize hs3:({s2 with heap:=s2.heap.push {cls:= .type "list",data:= .seq ([]:List Value).toArray}}:Shared)=s3 at I3
 have hs3':s3.heap=s2.heap.push {cls:= .type "list",data:= .seq ([]:List Value).toArray}:=by rw[<-hs3]
 rw[<-hs3']at st3
 have hfs:∀b∈fp,b<s3.heap.objs.size:=fun b hb=>by
  obtain⟨o,ho,_⟩:=T.obj _ _ st3 b hb
  exact Heap.lt_size ho
 show wpAny _ _ (newFunctionEnv scope X.env.globals (clOf scope X.env) [] X.env.qual none .none (some X.env)) _ _ s3
 refine znS fun h' hns hk hcl=>?_
 have hcl:=hcl fun x c e=>I3.cell x c (zcF I3 b e)
 generalize hDD:s2.heap.objs.size=DD at*
 have B0:Inv (cxC X N scope s3.heap.objs.size s3 (upd H2 DD (.lst [])) fp) [] (σ0 σ) (upd H2 DD (.lst [])) {s3 with heap:=h'}:=
  zqS (tk:=s3.toks) I3 b f3 hfs hns hk hcl (cap.len σ) (cap.src σ) (cap.loc σ)
 have stat:∀{H':Hp},(∀b∈fp,H' b=none)->∀b∈fp,FpOk (cxC X N scope s3.heap.objs.size s3 (upd H2 DD (.lst [])) fp) [] H' b:=fun hn b' hb=>by
  refine⟨hn b' hb,Nat.ne_of_lt (hfs b' hb),fun z=>?_,.inl hb,fun x c e=>?_,fun p hp=>absurd (show p∈([]:List (Addr×Obj))from hp) (by simp)⟩
  ·rcases List.mem_cons.mp (I3.stkSub b' z)with w|w
   ·exact(f3 b' hb).2.1 w
   ·exact(f3 b' hb).2.2.1 w
  ·intro z
   rcases zih I3 b e with q|q
   ·exact Nat.lt_asymm q (z ▸ hfs b' hb)
   ·exact(f3 b' hb).2.2.2.2.1 x c q z
 have tn0:tn 0 h':=T.keep _ _ _ st3 fun b' hb o e=>hk b' o e
 have post:∀(s':Shared) (σc:St) (H':Hp),Inv (cxC X N scope s3.heap.objs.size s3 (upd H2 DD (.lst [])) fp) [] σc H' s'->Q (.ref DD) H'->compPost (model X.prog X.w) X.A X.xe use QQ (.ref DD) s3.heap.objs.size (.ok .next) s':=fun s' σc H' J' q=>by
  cases use with
  |none=>
   obtain⟨m,hn,_⟩:=J'.loc
   exact⟨m,hn,fun h'' hs''=>fin _ _ ⟨.ref DD,H',zq3 I3 f3 J' hs'',rfl,q⟩⟩
  |some f=>exact fin DD fp _ _ H' σc s3 s' I3 f3 rfl J' q
 have loop:codeAny (model X.prog X.w) X.A (.compLoop (.ListComp elt [⟨tg,iter,ifs,0⟩] scope pos) 0 (.ref it) (.ref DD) (compEnvC scope (clC scope X.env s3.heap.objs.size) s3.heap.objs.size X.env)) (compPost (model X.prog X.w) X.A X.xe use QQ (.ref DD) s3.heap.objs.size) {s3 with heap:=h'}:=by
  refine znK (fun n s'=>∃i σ' H',Inv (cxC X N scope s3.heap.objs.size s3 (upd H2 DD (.lst [])) fp) [] σ' H' s'/\tn i s'.heap/\(∀b∈fp,H' b=none)/\W i n σ' H') ?_ m0 ⟨0,σ0 σ,_,B0,tn0,fun b' hb=>(f3 b' hb).1,w0⟩
  rintro n s5 ⟨i,σ5,H5,I5,st5,fr5,w5⟩
  rcases turn i n σ5 H5 w5 with⟨stop,qn⟩|⟨go,step⟩
  ·refine thn (T.done (cxC X N scope s3.heap.objs.size s3 (upd H2 DD (.lst [])) fp) rfl rfl rfl hc i [] s5 σ5 H5 (fun _ _=>False) I5 (stat fr5) st5 stop) fun r s6 ⟨hr,I6⟩=>?_
   subst hr
   exact post s6 σ5 H5 I6 qn
  ·refine thn (T.item (cxC X N scope s3.heap.objs.size s3 (upd H2 DD (.lst [])) fp) rfl rfl rfl hc i [] s5 σ5 H5 (fun _ _=>False) I5 (stat fr5) st5 go) fun r s6 ⟨u,hr,h6⟩=>?_
   subst hr
   refine thn h6 fun _ s7 ⟨x,H7,I7,r7,y7,st7,fr7⟩=>?_
   have I7':=I7.pinned (stat fr7) (T.obj _ _ st7)
   have again:∀{σ8:St} {H8:Hp} {s8:Shared} {m':Nat},Inv (cxC X N scope s3.heap.objs.size s3 (upd H2 DD (.lst [])) fp) ([]++zmA fp s7.heap) σ8 H8 s8->m'<n->W (i+1) m' σ8 H8->
     ∃m,m<n/\∃i σ' H',Inv (cxC X N scope s3.heap.objs.size s3 (upd H2 DD (.lst [])) fp) [] σ' H' s8/\tn i s8.heap/\(∀b∈fp,H' b=none)/\W i m σ' H':=fun{σ8 H8 s8 m'} I8 hm w8=>by
    refine⟨m',hm,i+1,σ8,H8,I8.unpinned,T.keep _ _ _ st7 fun b' hb o e=>(I8.pin (b',o) (List.mem_append_right _ (List.mem_append_right _ (zgP hb e)))).1,fun b' hb=>?_,w8⟩
    obtain⟨o,e,d⟩:=T.obj _ _ st7 b' hb
    exact(I8.pin (b',o) (List.mem_append_right _ (List.mem_append_right _ (zgP hb e)))).2.1
   refine thn (hg _ _ _ _ _ s7 σ5 H7 x u _ I7' r7 (step _ _ _ _ x H7 y7)) fun _ s8 ⟨σ8,H8,I8,q8⟩=>?_
   refine thn (ht _ _ _ _ _ s8 σ8 H8 _ I8 q8) fun ok s9 ⟨H9,I9,q9⟩=>?_
   cases ok with
   |false=>
    obtain⟨m',hm,w9⟩:=q9
    exact again I9 hm w9
   |true=>
    refine thn (he _ _ _ _ _ s9 σ8 H9 _ I9 q9) fun u10 s10 ⟨v10,H10,I10,r10,xs,hx,hz,m',hm,w10⟩=>?_
    refine thn (zmw _ s10 σ8 H10 (.ref DD) [v10] (.ref DD) [u10] (fun v H'=>v= .non/\H'=upd H10 DD (.lst (xs++[v10]))) I10 rfl (.cons r10 .nil) ⟨DD,xs,v10,rfl,rfl,hx,hz,rfl,rfl⟩) fun _ s11 ⟨_,H11,I11,_,_,e11⟩=>?_
    subst e11
    exact again I11 hm w10
 exact codeAny_compStart_list loop (T.self _ _ _ _ _ tn0 loop)
theorem pe_lc (hc:X.calm=true)(b:BlkOk X scope)(cap:Cap X scope N σ0)(hi:PI X tg iter wi)(hg:∀C s H fp,PG (cxC X N scope C s H fp) tg (g C s H fp))(ht:∀C s H fp,PTs (cxC X N scope C s H fp) ifs (tt C s H fp))(he:∀C s H fp,PE (cxC X N scope C s H fp) elt (te C s H fp))
    (hs:autoParam (∀x,foldedSetIterable iter X.env x=pure x) zu8._auto_1):PE X (.ListComp elt [⟨tg,iter,ifs,0⟩] scope pos) (tLC σ0 wi g tt te):=by
  intro pins s σ H Q I h
  rw[eval_ListComp]
  exact zro (use:=none) (E:=X.xe) hc b cap hi hg ht he I h hs (fun u s' q=>q)
end
noncomputable def zdb (ρ:R):Bool:=ρ.all fun s=>match s with
 | .own _=>false
 | .par _=>false
 | .tre _=>false
 | .ptr _=>false
 |_=>true
theorem zoK (h:zdb ρ=true){a:Addr}(e:ρ[i]? =some s):¬OwS K G H ov a s:=fun w=>by
 unfold zdb at h
 rw[List.all_eq_true]at h
 have:=h s (List.mem_of_getElem? e)
 cases s with
 |emp=>exact w
 |two _ _=>exact w
 |val d=>exact w
 |_=>exact absurd (show false=true from this) Bool.false_ne_true
theorem zjJ (h:zdb ρ=true)(e:ρ[i]? =some s):(∀t,s≠ .tre t)/\∀t,s≠ .ptr t:=by
 unfold zdb at h
 rw[List.all_eq_true]at h
 have:=h s (List.mem_of_getElem? e)
 constructor
 ·rintro t rfl;exact absurd (show false=true from this) Bool.false_ne_true
 ·rintro t rfl;exact absurd (show false=true from this) Bool.false_ne_true
theorem zjA (h:zdb ρ=true):¬Wr ρ i:=fun⟨s,ds,e,q⟩=>by
 unfold zdb at h
 rw[List.all_eq_true]at h
 have:=h s (List.mem_of_getElem? e)
 cases s with
 |emp=>cases q
 |two _ _=>cases q
 |tre _=>cases q
 |ptr _=>cases q
 |val d=>cases q
 |own d=>exact absurd (show false=true from this) Bool.false_ne_true
 |par d=>exact absurd (show false=true from this) Bool.false_ne_true
structure VS (K:W.Frag) (G:Hp) (σ:St) (ρ:R):Prop where
 len:σ.length=ρ.length
 no:zdb ρ=true
 val:∀(i:Nat) d,ρ[i]? =some (.val d)->∃v,σ[i]? =some (some v)/\RepD K G v d
theorem VS.si (h:VS K G σ ρ)(fz:Fz G H):SI K ⟨G,H,[]⟩ G H σ ρ where
 fz:=fz
 g0:=Fz.refl G
 new:=fun b o e=> .inl (by show G b≠none;rw[e];simp)
 keep:=fun b o e _=>e
 there:=fun b e=>e
 ob:=fun i b m=>by cases m
 len:=h.len
 slot:=fun i s e=>by
  cases s with
  |emp=>trivial
  |two _ _=>trivial
  |tre t=>exact absurd rfl ((zjJ h.no e).1 t)
  |ptr t=>exact absurd rfl ((zjJ h.no e).2 t)
  |val d=>exact h.val i d e
  |own ds=>exact absurd ⟨_,ds,e,rfl⟩ (zjA h.no (i:=i))
  |par ds=>exact absurd ⟨_,ds,e,rfl⟩ (zjA h.no (i:=i))
 dis:=fun i j s _ a _ e _ w=>absurd w (zoK h.no e)
theorem VS.of (I:SI K B G H σ ρ)(h:zdb ρ=true):VS K G σ ρ:=⟨I.len,h,fun i d e=>I.slot i _ e⟩
noncomputable def fz1 (i:Nat)(ρ:R):R:=match ρ[i]? with
 |some (.own ds)=>ρ.set i (.val (.lst ds))
 |_=>ρ
noncomputable def fzL:List Nat->R->R
 |[],ρ=>ρ
 |i::is,ρ=>fzL is (fz1 i ρ)
theorem SI.fz1 (I:SI K B G H σ ρ)(i:Nat):∃G',SI K B G' H σ (M.fz1 i ρ)/\Fz G G':=by
 unfold M.fz1
 cases e:ρ[i]? with
 |none=>exact⟨G,I,Fz.refl G⟩
 |some s=>
  cases s with
  |own ds=>obtain⟨l,xs,_,f,_,I'⟩:=I.freeze e;exact⟨_,I',f⟩
  |emp=>exact⟨G,I,Fz.refl G⟩
  |two _ _=>exact⟨G,I,Fz.refl G⟩
  |tre _=>exact⟨G,I,Fz.refl G⟩
  |ptr _=>exact⟨G,I,Fz.refl G⟩
  |val _=>exact⟨G,I,Fz.refl G⟩
  |par _=>exact⟨G,I,Fz.refl G⟩
theorem SI.fzL:∀(is:List Nat) {G:Hp} {ρ:R},SI K B G H σ ρ->∃G',SI K B G' H σ (M.fzL is ρ)/\Fz G G'
 |[],G,ρ,I=>⟨G,I,Fz.refl G⟩
 |i::is,G,ρ,I=>by
  obtain⟨G1,I1,f1⟩:=I.fz1 i
  obtain⟨G2,I2,f2⟩:=SI.fzL is I1
  exact⟨G2,I2,f1.trans f2⟩
noncomputable def capS (ρ:R)(i:Nat):Sl:=match ρ[i]? with
 |some (.val d)=> .val d
 |_=> .emp
theorem zpi (ρ:R)(i:Nat):capS ρ i= .emp\/∃d,capS ρ i= .val d:=by
 unfold capS
 split
 ·exact .inr ⟨_,rfl⟩
 ·exact .inl rfl
noncomputable def capR (cap:List Nat)(t:Nat)(ρ:R):R:=cap.map (capS ρ)++List.replicate t .emp
noncomputable def capσ (cap:List Nat)(t:Nat)(σ:St):St:=cap.map (fun i=>(σ[i]?).join)++List.replicate t none
theorem cap_vs (I:SI K B G H σ ρ)(cap:List Nat)(t:Nat):VS K G (capσ cap t σ) (capR cap t ρ) where
 len:=by unfold capσ capR;simp
 no:=by
  unfold zdb capR
  rw[List.all_eq_true]
  intro s hs
  rcases List.mem_append.mp hs with h|h
  ·obtain⟨i,_,rfl⟩:=List.mem_map.mp h
   rcases zpi ρ i with e|⟨d,e⟩
   ·rw[e]
   ·rw[e]
  ·rw[List.eq_of_mem_replicate h]
 val:=fun i d e=>by
  unfold capR at e
  by_cases hi:i<cap.length
  ·rw[List.getElem?_append_left (by simpa using hi),List.getElem?_map,List.getElem?_eq_getElem hi]at e
   have e':capS ρ cap[i]= .val d:=by simpa using e
   unfold capS at e'
   split at e'
   ·rename_i d' q
    cases e'
    obtain⟨v,h1,h2⟩:=I.slot _ _ q
    refine⟨v,?_,h2⟩
    unfold capσ
    rw[List.getElem?_append_left (by simpa using hi),List.getElem?_map,List.getElem?_eq_getElem hi]
    simp[h1]
   ·cases e'
  ·rw[List.getElem?_append_right (by simpa using hi),List.getElem?_replicate]at e
   split at e
   ·cases e
   ·cases e
noncomputable def zeO (f:D->R->Option (Option D×R)):List D->R->Option (List D×R)
 |[],ρ=>some ([],ρ)
 |d::ds,ρ=>(f d ρ).bind fun p=>(zeO f ds p.2).map fun q=>(p.1.toList++q.1,q.2)
noncomputable def znZ (g:D->R->Option R)(mt:MT)(me:ME):D->R->Option (Option D×R):=fun d ρ=>(g d ρ).bind fun ρ1=>(mt ρ1).bind fun p=>if p.1 then(me p.2).bind fun q=>if zdb q.2 then some (some q.1,q.2)else none else if zdb p.2 then some (none,p.2)else none
noncomputable def oLC (cap:List Nat)(t:Nat)(mi:MA)(g:D->R->Option R)(mt:MT)(me:ME):MO:=fun ρ=>(mi ρ).bind fun p=>if p.1.length<=16777216 then(zeO (znZ g mt me) p.1 (capR cap t (fzL cap p.2))).map fun q=>(q.1,fzL cap p.2)else none
noncomputable def STs (X:Cx)(ifs:List Expr)(m:MT):Prop:=
 ∃t,PTs X ifs t/\∀B G H σ ρ d ρ' (Q:Bool->Hp->Prop),SI X.K B G H σ ρ->m ρ=some (d,ρ')->(∀G' H',SI X.K B G' H' σ ρ'->Fz G G'->Q d H')->t σ H Q
noncomputable def zbf:MT:=fun ρ=>some (true,ρ)
theorem zaz:STs X [] zbf:=⟨_,pts_nil,fun B G H σ ρ d ρ' Q I hm k=>by cases hm;exact k G H I (Fz.refl G)⟩
theorem znt {c:Expr}(h:STt X c m):STs X [c] m:=let⟨t,p,s⟩:=h;⟨t,pts_one p,s⟩
noncomputable def blkB (env:Env)(scope:Scope):Bool:=(scope.names.all fun x=>scope.names.lookup x.1==some x.2&&(x.2 != .free||(env.kindOf x.1==some .cell||env.kindOf x.1==some .free)))
theorem zjb (hk:scope.kind= .function)(h:blkB X.env scope=true):BlkOk X scope:=by
 unfold blkB at h
 rw[List.all_eq_true]at h
 refine⟨hk,fun x hx=>?_,fun x hx hf=>?_⟩
 ·have:=h x hx
  simp only[Bool.and_eq_true,Bool.or_eq_true,bne_iff_ne,beq_iff_eq]at this
  exact this.1
 ·have:=h x hx
  simp only[Bool.and_eq_true,Bool.or_eq_true,bne_iff_ne,beq_iff_eq]at this
  exact(this.2).resolve_left (fun z=>z hf)
noncomputable def capB (names:List (Str×NameKind))(N XN:List Str)(cap:List Nat)(t:Nat):Bool:=N.length==cap.length+t&&(cap.zip N).all fun p=>XN[p.1]? ==some p.2&&names.lookup p.2==some .free
theorem zj4 (h:capB scope.names N X.N cap t=true):Cap X scope N (capσ cap t):=by
 unfold capB at h
 rw[Bool.and_eq_true,List.all_eq_true]at h
 obtain⟨hl,h⟩:=h
 have hl:N.length=cap.length+t:=by simpa using hl
 have key:∀(σ:St) (i:Nat) (x:Str) (v:V),N[i]? =some x->(capσ cap t σ)[i]? =some (some v)->∃j,cap[i]? =some j/\σ[j]? =some (some v)/\X.N[j]? =some x/\scope.names.lookup x=some .free:=fun σ i x v h1 h2=>by
  unfold capσ at h2
  by_cases hi:i<cap.length
  ·rw[List.getElem?_append_left (by simpa using hi),List.getElem?_map,List.getElem?_eq_getElem hi]at h2
   have h3:(σ[cap[i]]?).join=some v:=by simpa using h2
   have hz:(cap[i],x)∈cap.zip N:=by
    refine List.mem_of_getElem? (i:=i) ?_
    rw[List.getElem?_zip_eq_some]
    exact⟨List.getElem?_eq_getElem hi,h1⟩
   have:=h _ hz
   simp only[Bool.and_eq_true,beq_iff_eq]at this
   refine⟨cap[i],List.getElem?_eq_getElem hi,?_,this.1,this.2⟩
   cases q:σ[cap[i]]? with
   |none=>rw[q]at h3;cases h3
   |some o=>rw[q]at h3;rw[show o=some v from h3]
  ·rw[List.getElem?_append_right (by simpa using hi),List.getElem?_replicate]at h2
   split at h2<;>cases h2
 refine⟨fun σ=>by unfold capσ;simp[hl],fun σ i x v h1 h2=>?_,fun σ i x v h1 h2 z=>?_⟩
 ·obtain⟨j,_,a,b,c⟩:=key σ i x v h1 h2
  exact⟨zcv c,j,b,a⟩
 ·obtain⟨j,_,a,b,c⟩:=key σ i x v h1 h2
  have e:(relabel scope X.env).names.lookup x=(scope.names.lookup x).map fun k=>if(k==NameKind.free&&X.env.scope.kind== .function&&X.env.kindOf x==some .cell)then NameKind.cell else k:=zeb
  rw[e,c]at z
  simp only[Option.map_some,Option.some.injEq]at z
  split at z<;>cases z
structure LcV (K:W.Frag) (g:D->R->Option R) (mt:MT) (me:ME) (items all:List D) (G2 H1:Hp) (DD:Addr) (i:Nat) (σc:St) (Hc Gc:Hp) (ρc:R) (acc:List D) (xs:List V) (rest:List D) (ρe:R):Prop where
 fc:Fz G2 Gc
 fcH:Fz Gc Hc
 nw:∀b o,Gc b=some o->G2 b≠none\/H1 b=none
 kp:∀b o,H1 b=some o->Hc b=some o
 gD:Gc DD=none
 hDc:Hc DD=some (.lst xs)
 ra:RepL K Gc xs acc
 hx:xs.length<=i
 vs:VS K Gc σc ρc
 ec:zeO (znZ g mt me) (items.drop i) ρc=some (rest,ρe)
 eall:all=acc++rest
section
variable {X:Cx} {elt iter tg:Expr} {ifs:List Expr} {scope:Scope} {pos:Pos} {N:List Str} {cap:List Nat} {t:Nat} {mi:MA} {g:D->R->Option R} {mt:MT} {me:ME}
theorem zlJ
  (si:∀B G H σ ρ ds ρ' (Q:It->Hp->Prop),SI X.K B G H σ ρ->mi ρ=some (ds,ρ')->(∀J G' H',SI X.K B G' H' σ ρ'->Fz G G'->Itm X.K J G' ds->Q J H')->wi σ H Q)
  (sg:∀C s H₀ fp B G H σ ρ v d ρ' (Q:St->Hp->Prop),SI X.K B G H σ ρ->RepD X.K G v d->g d ρ=some ρ'->(∀G' H' σ',SI X.K B G' H' σ' ρ'->Fz G G'->Q σ' H')->tg' C s H₀ fp v σ H Q)
  (st:∀C s H₀ fp B G H σ ρ d ρ' (Q:Bool->Hp->Prop),SI X.K B G H σ ρ->mt ρ=some (d,ρ')->(∀G' H',SI X.K B G' H' σ ρ'->Fz G G'->Q d H')->tt C s H₀ fp σ H Q)
  (se:∀C s H₀ fp B G H σ ρ d ρ' (Q:VK),SI X.K B G H σ ρ->me ρ=some (d,ρ')->(∀G' H' v,SI X.K B G' H' σ ρ'->Fz G G'->RepD X.K G' v d->Q v H')->te C s H₀ fp σ H Q):
  ∀B G H σ ρ ds ρ' (Q:VK),SI X.K B G H σ ρ->oLC cap t mi g mt me ρ=some (ds,ρ')->
   (∀G' H' l xs,SI X.K B G' H' σ ρ'->Fz G G'->G' l=none->H' l=some (.lst xs)->RepL X.K G' xs ds->B.H l=none->Nw X.K G' H' σ ρ' l->Q (.ref l) H')->tLC (capσ cap t) wi tg' tt te σ H Q:=by
 intro B G H σ ρ ds ρ' Q I hm k
 obtain⟨⟨items,ρ1⟩,e1,hm⟩:=zah hm
 refine si B G H σ ρ items ρ1 _ I e1 fun J G1 H1 I1 f1 IT DD hD=>?_
 dsimp only at hm
 split at hm
 ·rename_i hlen
  obtain⟨⟨all,ρf⟩,e2,e3⟩:=zau hm
  obtain⟨rfl,rfl⟩:=Prod.mk.inj e3
  obtain⟨G2,I2,f2⟩:=SI.fzL cap I1
  have hDG:G2 DD=none:=I2.fz.free hD
  refine⟨fun i m σc Hc=>m=items.length-i/\i<=items.length/\∃Gc ρc acc xs rest ρe,LcV X.K g mt me items all G2 H1 DD i σc Hc Gc ρc acc xs rest ρe,
   ⟨items.length,by simp,Nat.zero_le _,G2,capR cap t (M.fzL cap ρ1),[],[],all,ρf,{fc:=Fz.refl _,fcH:=I2.fz.right hDG _,nw:=fun b o e=> .inl (by rw[e];simp),kp:=fun b o e=>by rw[zar (zax e hD)];exact e,gD:=hDG,hDc:=zaA,ra:= .nil,hx:=Nat.le_refl _,vs:=cap_vs I2 cap t,ec:=by simpa using e2,eall:=rfl}⟩,?_⟩
  rintro i m σc Hc ⟨rfl,hi,Gc,ρc,acc,xs,rest,ρe,J0⟩
  obtain⟨fc,fcH,nw,kp,gD,hDc,ra,hx,vs,ec,eall⟩:=J0
  by_cases hlt:i<items.length
  ·refine .inr ⟨IT.go Hc i (f2.trans (fc.trans fcH)) hlt,fun C s₀ H₀ fp x H' y=>?_⟩
   rw[List.drop_eq_getElem_cons hlt]at ec
   simp only[zeO]at ec
   obtain⟨⟨o,ρ3⟩,h3,ec⟩:=zah ec
   obtain⟨⟨rest2,ρ4⟩,h4,ec⟩:=zau ec
   obtain⟨rfl,rfl⟩:=Prod.mk.inj ec
   dsimp only at h4
   unfold znZ at h3
   obtain⟨ρ5,h5,h3⟩:=zah h3
   obtain⟨⟨ok,ρ6⟩,h6,h3⟩:=zah h3
   dsimp only at h3
   have Ic:SI X.K ⟨Gc,Hc,[]⟩ Gc Hc σc ρc:=vs.si fcH
   have fz2:Fz G1 Hc:=f2.trans (fc.trans fcH)
   have yy:=IT.yld Hc i x H' fz2 y items[i] (List.getElem?_eq_getElem hlt)
   have yy2:(H'=Hc/\RepD X.K Gc x items[i])\/∃p xs es,Hc p=none/\H'=upd Hc p (.tup xs)/\x= .ref p/\items[i]= .tup es/\RepL X.K Gc xs es:=by
    rcases yy with⟨a,b⟩|⟨p,xs,es,a,b,c,d,e⟩
    ·exact .inl ⟨a,b.mono (f2.trans fc)⟩
    ·exact .inr ⟨p,xs,es,a,b,c,d,e.mono (f2.trans fc)⟩
   obtain⟨G3,I3,f3,r3⟩:=Ic.yld yy2
   refine sg C s₀ H₀ fp _ G3 H' σc ρc x items[i] ρ5 _ I3 r3 h5 fun G4 H4 σ4 I4 f4=>st C s₀ H₀ fp _ G4 H4 σ4 ρ5 ok ρ6 _ I4 h6 fun G5 H5 I5 f5=>?_
   have facts:∀(G' H':Hp) (σ':St) (ρ':R),SI X.K ⟨Gc,Hc,[]⟩ G' H' σ' ρ'->(∀b o,G' b=some o->G2 b≠none\/H1 b=none)/\(∀b o,H1 b=some o->H' b=some o)/\G' DD=none/\H' DD=some (.lst xs):=fun G' H' σ' ρ' I'=>by
    refine⟨fun b o e=>?_,fun b o e=>I'.keep b o (kp b o e) (by simp),?_,I'.keep DD _ hDc (by simp)⟩
    ·rcases I'.new b o e with h|h
     ·have h:Gc b≠none:=h
      cases q:Gc b with
      |none=>exact absurd q h
      |some u=>exact nw b u q
     ·refine .inr ?_
      cases q:H1 b with
      |none=>rfl
      |some u=>have:=kp b u q;rw[show Hc b=none from h]at this;cases this
    ·cases q:G' DD with
     |none=>rfl
     |some u=>
      rcases I'.new DD u q with h|h
      ·exact absurd gD h
      ·rw[show Hc DD=none from h]at hDc;cases hDc
   cases ok with
   |false=>
    simp only[Bool.false_eq_true,if_false]at h3
    split at h3
    ·rename_i hno
     cases h3
     obtain⟨a1,a2,a3,a4⟩:=facts G5 H5 σ4 _ I5
     exact⟨items.length-(i+1),by lia,rfl,hlt,G5,_,acc,xs,rest2,ρ4,{fc:=fc.trans (f3.trans (f4.trans f5)),fcH:=I5.fz,nw:=a1,kp:=a2,gD:=a3,hDc:=a4,ra:=ra.mono (f3.trans (f4.trans f5)),hx:=by lia,vs:=VS.of I5 hno,ec:=h4,eall:=by simpa using eall}⟩
    ·cases h3
   |true=>
    simp only[if_true]at h3 ⊢
    obtain⟨⟨dv,ρ7⟩,h7,h3⟩:=zah h3
    dsimp only at h3
    split at h3
    ·rename_i hno
     cases h3
     refine se C s₀ H₀ fp _ G5 H5 σ4 ρ6 dv _ _ I5 h7 fun G6 H6 v I6 f6 r6=>?_
     obtain⟨a1,a2,a3,a4⟩:=facts G6 H6 σ4 _ I6
     have ff:Fz Gc G6:=f3.trans (f4.trans (f5.trans f6))
     exact⟨xs,a4,by rw[sizeLine_eq];lia,items.length-(i+1),by lia,rfl,hlt,G6,_,acc++[dv],xs++[v],rest2,ρ4,{fc:=fc.trans ff,fcH:=I6.fz.right a3 _,nw:=a1,kp:=fun b o e=>by rw[zar (zax e hD)];exact a2 b o e,gD:=a3,hDc:=zaA,ra:=(ra.mono ff).snoc r6,hx:=by rw[List.length_append,List.length_singleton];lia,vs:=VS.of I6 hno,ec:=h4,eall:=by rw[eall];simp}⟩
    ·cases h3
  ·have e:i=items.length:=by lia
   subst e
   rw[List.drop_length]at ec
   cases ec
   have hall:all=acc:=by rw[eall,List.append_nil]
   refine .inl ⟨IT.stop Hc _ (f2.trans (fc.trans fcH)) (Nat.le_refl _),?_⟩
   rw[<-hall]at ra
   exact k Gc Hc DD xs (I2.grow fc fcH nw kp) (f1.trans (f2.trans fc)) gD hDc ra (I2.there DD hD) (I2.own_ne hD nw kp)
 ·cases hm
theorem zbU (cap:List Nat)(t:Nat)(N:List Str)(hc:X.calm=true)(hi:SIt X tg iter mi)(hg:∀C s H fp,SG (cxC X N scope C s H fp) tg g)(ht:∀C s H fp,STs (cxC X N scope C s H fp) ifs mt)(he:∀C s H fp,SE (cxC X N scope C s H fp) elt me)
    (hk:autoParam (scope.kind= .function) zu2._auto_1) (hb:autoParam (blkB X.env scope=true) zu10._auto_1) (hcap:autoParam (capB scope.names N X.N cap t=true) zu10._auto_1)
    (hs:autoParam (∀x,foldedSetIterable iter X.env x=pure x) zu8._auto_1):SO X (.ListComp elt [⟨tg,iter,ifs,0⟩] scope pos) (oLC cap t mi g mt me):=by
  obtain⟨wi,pi,si⟩:=hi
  exact⟨_,pe_lc hc (zjb hk hb) (zj4 hcap) pi (fun C s H fp=>(hg C s H fp).choose_spec.1) (fun C s H fp=>(ht C s H fp).choose_spec.1) (fun C s H fp=>(he C s H fp).choose_spec.1) hs,
    zlJ si (fun C s H fp=>(hg C s H fp).choose_spec.2) (fun C s H fp=>(ht C s H fp).choose_spec.2) (fun C s H fp=>(he C s H fp).choose_spec.2)⟩
end
section
variable {X:Cx} {elt iter tg:Expr} {ifs:List Expr} {scope:Scope} {pos lpos pos':Pos} {N:List Str} {cap:List Nat} {t:Nat} {mi:MA} {g:D->R->Option R} {mt:MT} {me:ME}
theorem zjD {σ0:St->St}(hN:X.N.Nodup)(hxi:X.N[i]? =some x)(hx:Loc X.env.scope x)(hf:X.fn x=true\/X.env.scope.names.lookup x=some .local)
  (hsw:swapsWith (.ListComp elt [⟨tg,iter,ifs,0⟩] scope lpos) (some (.Name x pos')) pos.line X.env=pure true) (hc:X.calm=true) (b:BlkOk X scope) (cap:Cap X scope N σ0) (hi:PI X tg iter wi) (hg:∀C s H fp,PG (cxC X N scope C s H fp) tg (tg' C s H fp)) (ht:∀C s H fp,PTs (cxC X N scope C s H fp) ifs (tt C s H fp)) (he:∀C s H fp,PE (cxC X N scope C s H fp) elt (te C s H fp))
  (hs:∀x,foldedSetIterable iter X.env x=pure x):PS X (.Assign [.Name x pos'] (.ListComp elt [⟨tg,iter,ifs,0⟩] scope lpos) pos) (fun E σ H=>tLC σ0 wi tg' tt te σ H fun v H'=>E.nx (σ.set i (some v)) H'):=by
 intro pins s σ H E I h
 rw[exec_Assign_Name_used _ _ _ _ hsw]
 refine wpAny_bind (wpAny_standAt (wpAny_bind ?_))
 show wpAny _ _ (do let _<-comprehension (.ListComp elt [⟨tg,iter,ifs,0⟩] scope lpos) scope X.env _ (newList []) false (eval iter X.env) (some (assign (.Name x pos') X.env))) _ _ s
 refine wpAny_bind (thn (zro (use:=some (assign (.Name x pos') X.env)) (QQ:=fun _ s'=>SP X pins E .next s') (E:=X.xe) hc b cap hi hg ht he I h hs ?_) fun _ s' hq=>wpAny_pure (wpAny_pure hq))
 intro D fp C H1 H' σc s1 s' I1 f1 eC J q
 subst eC
 have I2:Inv X pins σ H' s':=by
  have z:=zq3 (h':=s'.heap) I1 f1 J (Heap.SameBut.refl _ _)
  exact z
 obtain⟨m,⟨o,es,ep,ho,hd,hrest⟩,_⟩:=J.loc
 have fpk:FpOk X pins H' s1.heap.objs.size:=I1.fpOk (Nat.le_refl _) J.free
 have I3:Inv X (pins++[(s1.heap.objs.size,o)]) σ H' s':=I2.pins_of fun p hp=>by
  rcases List.mem_append.mp hp with hp|hp
  ·exact I2.pin p (List.mem_append_right _ hp)
  ·have e:p=(s1.heap.objs.size,o):=by simpa using hp
   subst e
   exact⟨ho,fpk.1,fpk.2.1,fpk.2.2.1,fun v z=>by rw[hd]at z;cases z⟩
 refine thn (zq0 hN hxi hx hf (pins++[(s1.heap.objs.size,o)]) s' σ H' (.ref D) (.ref D) (fun σ2 H2=>E.nx σ2 H2) I3 rfl q) fun _ s'' ⟨σ2,H2,I4,q4⟩=>?_
 have pC:=I4.pin (s1.heap.objs.size,o) (List.mem_append_right _ (List.mem_append_right _ (by simp)))
 refine⟨m,⟨o,es,ep,pC.1,hd,hrest⟩,fun h' hs'=>?_⟩
 have I5:Inv X pins σ2 H2 s'':=I4.unpinned
 have fp2:FpOk X pins H2 s1.heap.objs.size:=I1.fpOk (Nat.le_refl _) pC.2.1
 have I6:=I5.turned (t':=s''.toks) (h':=h') (it:=s1.heap.objs.size) (fun b' o' hb e=>hs'.extBut b' o' hb e) fp2.1 fp2.2.1 fp2.2.2.2.1 fp2.2.2.2.2.1 fp2.2.2.2.2.2
 exact⟨σ2,H2,I6,q4⟩
theorem ss_setLC (i:Nat)(cap:List Nat)(t:Nat)(N:List Str)(hc:X.calm=true)(hi:SIt X tg iter mi)(hg:∀C s H fp,SG (cxC X N scope C s H fp) tg g)(ht:∀C s H fp,STs (cxC X N scope C s H fp) ifs mt)(he:∀C s H fp,SE (cxC X N scope C s H fp) elt me)(hN:X.N.Nodup)
    (hxi:autoParam (X.N[i]? =some x) zu2._auto_1) (hx:autoParam (Loc X.env.scope x) zu9._auto_1) (hf:autoParam (X.fn x=true\/X.env.scope.names.lookup x=some .local) zu9._auto_1)
    (hsw:autoParam (swapsWith (.ListComp elt [⟨tg,iter,ifs,0⟩] scope lpos) (some (.Name x pos')) pos.line X.env=pure true) zu2._auto_1)
    (hk:autoParam (scope.kind= .function) zu2._auto_1) (hb:autoParam (blkB X.env scope=true) zu10._auto_1) (hcap:autoParam (capB scope.names N X.N cap t=true) zu10._auto_1)
    (hs:autoParam (∀x,foldedSetIterable iter X.env x=pure x) zu8._auto_1):SS X (.Assign [.Name x pos'] (.ListComp elt [⟨tg,iter,ifs,0⟩] scope lpos) pos) (zgR i (oLC cap t mi g mt me)):=by
  obtain⟨wi,pi,si⟩:=hi
  refine⟨_,zjD hN hxi hx hf hsw hc (zjb hk hb) (zj4 hcap) pi (fun C s H fp=>(hg C s H fp).choose_spec.1) (fun C s H fp=>(ht C s H fp).choose_spec.1) (fun C s H fp=>(he C s H fp).choose_spec.1) hs,fun B G H σ ρ fl ρ' E I hm k=>?_⟩
  obtain⟨⟨d,ρ1⟩,e1,e3⟩:=zau hm
  obtain⟨rfl,rfl⟩:=Prod.mk.inj e3
  exact zlJ si (fun C s H fp=>(hg C s H fp).choose_spec.2) (fun C s H fp=>(ht C s H fp).choose_spec.2) (fun C s H fp=>(he C s H fp).choose_spec.2) B G H σ ρ d ρ1 _ I e1 fun G1 H1 l xs I1 f1 g1 h1 r1 b1 n1=>k G1 H1 _ (I1.setO g1 h1 r1 b1 n1) f1
end
section
variable {X:Cx} {pins:List (Addr×Obj)} {σ:St} {H:Hp} {s:Shared}
theorem zjF {A:Around}(hh:A.handled=none)(I:Inv X pins σ H s)(hq:SqL X.K H p ys\/SqT X.K H p ys)
  (k : ∀ (its : List Value) (s₂ : Shared) (St : Nat -> Heap -> Prop), Vals ys its -> Walks X.prog X.w A s.heap.objs.size [s.heap.objs.size, p] [s.heap.objs.size] its.length (fun i v => its[i]? = some v) St -> St 0 s₂.heap -> (∀ b ∈ [s.heap.objs.size, p], b < s₂.heap.objs.size) ->
   (∀h' tk,(∀b o,b∉[s.heap.objs.size]->s₂.heap.get? b=some o->h'.get? b=some o)->Inv X pins σ H {s₂ with heap:=h',toks:=tk})->Q (.ref s.heap.objs.size) s₂):wpAny (model X.prog X.w) A (pyIter (.ref p)) Q E s:=by
 have fin:∀(o:Obj),∀h' tk,(∀b o',b∉[s.heap.objs.size]->(s.heap.push o).get? b=some o'->h'.get? b=some o')->Inv X pins σ H {({s with heap:=s.heap.push o}:Shared)with heap:=h',toks:=tk}:=fun o h' tk hk=>by
  have z:=I.kept (h':=h') (t':=tk) fun b o' e=>hk b o' (by simpa using Nat.ne_of_lt (Heap.lt_size e)) (Heap.get?_push_of_some _ e)
  exact z
 rcases hq with hq|hq
 ·obtain⟨its,r,pl,hz⟩:=I.list hq
  have hlt:p<s.heap.objs.size:=by obtain⟨_,_,e,_⟩:=pl;exact Heap.lt_size e
  refine wpAny_pyIter_list pl.isList (k its _ (fun i h=>h.IsListIter s.heap.objs.size p i/\h.IsList p its.toArray) r ?_ ⟨⟨_,Heap.get?_push_size _ rfl,rfl,rfl⟩,pl.isList.push _⟩ (fun b hb=>?_) (fin _))
  ·have w:=Walks.list (prog:=X.prog) (w:=X.w) (A:=A) hh s.heap.objs.size p (Nat.ne_of_lt hlt) its.toArray
   simpa using w
  ·show b<(s.heap.push _).objs.size
   rw[Heap.size_push]
   simp at hb
   rcases hb with z|z
   ·rw[z];exact Nat.lt_succ_self _
   ·rw[z];exact Nat.lt_succ_of_lt hlt
 ·obtain⟨its,r,pl,hz⟩:=I.tuple hq
  have hlt:p<s.heap.objs.size:=pl.lt
  refine wpAny_pyIter_tuple (show s.heap.IsTuple p its.toArray from pl) (k its _ (fun i h=>h.IsTupleIter s.heap.objs.size p i/\h.IsTuple p its.toArray) r ?_ ⟨⟨_,Heap.get?_push_size _ rfl,rfl,rfl⟩,(show s.heap.IsTuple p its.toArray from pl).push _⟩ (fun b hb=>?_) (fin _))
  ·have w:=Walks.tuple (prog:=X.prog) (w:=X.w) (A:=A) hh s.heap.objs.size p (Nat.ne_of_lt hlt) its.toArray
   simpa using w
  ·show b<(s.heap.push _).objs.size
   rw[Heap.size_push]
   simp at hb
   rcases hb with z|z
   ·rw[z];exact Nat.lt_succ_self _
   ·rw[z];exact Nat.lt_succ_of_lt hlt
end
theorem zk2 (ns:List Int):∀j,preSum (fun i=>ns.getD i 0) j=(ns.take j).sum
 |0=>by simp[preSum]
 |j+1=>by
  rw[preSum,zk2 ns j]
  by_cases h:j<ns.length
  ·rw[List.take_succ_eq_append_getElem h,List.sum_append]
   simp[h]
  ·rw[List.take_of_length_le (by lia),List.take_of_length_le (by lia)]
   simp[List.getElem?_eq_none (by lia:ns.length<=j)]
theorem zhF (r:Vals (ns.map V.int) its){v:Value}(e:its[i]? =some v):∃t,v= .int (ns.getD i 0) t:=by
 have hl:=r.length
 have hi:i<its.length:=(List.getElem?_eq_some_iff.mp e).1
 rw[List.length_map]at hl
 have e2:(ns.map V.int)[i]? =some (.int ns[i]):=by rw[List.getElem?_map,List.getElem?_eq_getElem (by lia)];rfl
 obtain⟨u,h1,t,h2⟩:=r.get e2
 rw[e]at h1;cases h1
 exact⟨t,by rw[h2];simp[show i<ns.length by lia]⟩
noncomputable def rSum (K:W.Frag):List V->Hp->VK->Prop:=fun xs H Q=>∃(p:Addr) (ns:List Int),xs=[.ref p]/\(SqL K H p (ns.map V.int)\/SqT K H p (ns.map V.int))/\Q (.int ns.sum) H
theorem zrk (hc:X.calm=true):zhw X (.builtin "sum") (rSum X.K):=by
 intro pins s σ H xs us Q I r h
 obtain⟨p,ns,rfl,hq,q⟩:=h
 obtain⟨u,rfl,ru⟩:=zkI r
 cases ru
 refine call_sum_walkG (zjF (A:=X.A.in1) (I.ok.hd hc) I hq fun its s₂ St rv W st hfp fin=>?_)
 refine⟨_,_,_,_,_,_,fun i=>ns.getD i 0,rfl,W,st,hfp,fun i v e=>zhF rv e,fun h' tk t' hk=>⟨.int ns.sum,H,fin h' tk hk,⟨t',?_⟩,q⟩⟩
 have hl:=rv.length
 rw[List.length_map]at hl
 rw[zk2,<-hl,List.take_of_length_le (Nat.le_refl _)]
noncomputable def zbz:List D->Option (List Int)
 |[]=>some []
 | .int i::ds=>(zbz ds).map (i:: ·)
 |_=>none
theorem zcI:∀{ds:List D} {ns:List Int},zbz ds=some ns->ds=ns.map .int
 |[],ns,h=>by cases h;rfl
 |d::ds,ns,h=>by
  cases d<;>simp only[zbz]at h<;>try cases h
  obtain⟨ms,e1,e2⟩:=zau h
  subst e2
  rw[zcI e1];rfl
@[simp] theorem intsOf_map:∀(ns:List Int),zbz (ns.map .int)=some ns
 |[]=>rfl
 |n::ns=>by simp[zbz,intsOf_map ns]
noncomputable def dSum:List D->Option D
 |[d]=>(zbj [d]).bind fun ds=>(zbz ds).map fun ns=> .int ns.sum
 |_=>none
theorem zjz (I:SI K B G H σ ρ){x:V}(r:RepD K G x d)(e:zbj [d]=some ds):∃p ys,x= .ref p/\(SqL K H p ys\/SqT K H p ys)/\RepL K G ys ds:=by
 cases d<;>simp only[zbj]at e<;>try cases e
 ·obtain⟨p,ys,ex,hp,q⟩:=I.lst r
  exact⟨p,ys,ex,.inl (SqL.of hp),q⟩
 ·obtain⟨p,ys,ex,hp,q⟩:=I.tup r
  exact⟨p,ys,ex,.inr (SqT.of hp),q⟩
 ·obtain⟨p,ex,hp⟩:=r
  exact⟨p,_,ex,.inl (I.fz.sql hp),RepL.ints _⟩
theorem vc_sum:VC X (rSum X.K) dSum:=by
 intro B G H σ ρ xs ds d Q I r hf k
 match ds,hf with
 |[a],hf=>
  obtain⟨es,e1,hf⟩:=zah hf
  obtain⟨ns,e2,e3⟩:=zau hf
  subst e3
  obtain⟨x,rfl,ra⟩:=r.one
  obtain⟨p,ys,rfl,hq,ry⟩:=zjz I ra e1
  rw[zcI e2]at ry
  rw[RepL.ints_eq ry]at hq
  exact⟨p,ns,rfl,hq,k G H _ I (Fz.refl G) rfl⟩
 |[],hf=>cases hf
 |_::_::_,hf=>cases hf
theorem zgT {p pos:Pos}(hc:X.calm=true)(ml:X.mg "sum"=none)(ha:SA X [e] ma)(hg:autoParam (Gl X "sum") zu2._auto_1)(he:autoParam (starEach [e] X.env=(false,eval e X.env)::starEach [] X.env) zu2._auto_1):SE X (.Call (.Name "sum" p) [e] [] pos) (mC dSum ma):=
 ze5 (zrk hc) vc_sum (by decide+kernel) ml ha hg (by decide) (by decide) he rfl
noncomputable def zc0:List D->Option (List Bool)
 |[]=>some []
 | .bl b::ds=>(zc0 ds).map (b:: ·)
 |_=>none
theorem zli:∀{ds:List D} {bs:List Bool},zc0 ds=some bs->ds=bs.map .bl
 |[],ns,h=>by cases h;rfl
 |d::ds,ns,h=>by
  cases d<;>simp only[zc0]at h<;>try cases h
  obtain⟨ms,e1,e2⟩:=zau h
  subst e2
  rw[zli e1];rfl
@[simp] theorem zbq:∀(bs:List Bool),zc0 (bs.map .bl)=some bs
 |[]=>rfl
 |n::ns=>by simp[zc0,zbq ns]
theorem RepL.bools_eq:∀{bs:List Bool} {xs:List V},RepL K G xs (bs.map D.bl)->xs=bs.map V.bl
 |[],_,e=>e
 |n::ns,_,⟨x,ys,e,q,r⟩=>by subst e;cases(show x=V.bl n from q);rw[RepL.bools_eq r];rfl
theorem zqz {bs:List Bool}(r:Vals (bs.map V.bl) its){v:Value}(e:its[i]? =some v):∃b,bs[i]? =some b/\v= .bool b:=by
 have hl:=r.length
 have hi:i<its.length:=(List.getElem?_eq_some_iff.mp e).1
 rw[List.length_map]at hl
 have e2:(bs.map V.bl)[i]? =some (.bl bs[i]):=by rw[List.getElem?_map,List.getElem?_eq_getElem (by lia)];rfl
 obtain⟨u,h1,h2⟩:=r.get e2
 rw[e]at h1;cases h1
 exact⟨bs[i],List.getElem?_eq_getElem (by lia),h2⟩
noncomputable def rAll (K:W.Frag)(f:List Bool->Bool):List V->Hp->VK->Prop:=fun xs H Q=>∃(p:Addr) (bs:List Bool),xs=[.ref p]/\(SqL K H p (bs.map V.bl)\/SqT K H p (bs.map V.bl))/\Q (.bl (f bs)) H
theorem zrj (hc:X.calm=true):zhw X (.builtin "all") (rAll X.K fun bs=>bs.all id):=by
 intro pins s σ H xs us Q I r h
 obtain⟨p,bs,rfl,hq,q⟩:=h
 obtain⟨u,rfl,ru⟩:=zkI r
 cases ru
 refine call_all_walk (zjF (A:=X.A.in1) (I.ok.hd hc) I hq fun its s₂ St rv W st hfp fin=>?_)
 have hl:=rv.length
 rw[List.length_map]at hl
 refine⟨_,_,_,_,_,_,fun i=>(bs[i]?).getD true,rfl,W,st,fun i v s' Q' E' hP hQ=>?_,fun h' tk hk=>⟨.bl (bs.all id),H,fin h' tk hk,?_,q⟩⟩
 ·obtain⟨b,e,rfl⟩:=zqz rv hP
  simp only[e,Option.getD_some]at hQ
  exact wpAny_truthy_bool hQ
 ·rw[<-hl,LSm.range_all];rfl
noncomputable def dAll (f:List Bool->Bool):List D->Option D
 |[d]=>(zbj [d]).bind fun ds=>(zc0 ds).map fun bs=> .bl (f bs)
 |_=>none
theorem vc_all (f:List Bool->Bool):VC X (rAll X.K f) (dAll f):=by
 intro B G H σ ρ xs ds d Q I r hf k
 match ds,hf with
 |[a],hf=>
  obtain⟨es,e1,hf⟩:=zah hf
  obtain⟨ns,e2,e3⟩:=zau hf
  subst e3
  obtain⟨x,rfl,ra⟩:=r.one
  obtain⟨p,ys,rfl,hq,ry⟩:=zjz I ra e1
  rw[zli e2]at ry
  rw[RepL.bools_eq ry]at hq
  exact⟨p,ns,rfl,hq,k G H _ I (Fz.refl G) rfl⟩
 |[],hf=>cases hf
 |_::_::_,hf=>cases hf
theorem zgy {p pos:Pos}(hc:X.calm=true)(ml:X.mg "all"=none)(ha:SA X [e] ma)(hg:autoParam (Gl X "all") zu2._auto_1)(he:autoParam (starEach [e] X.env=(false,eval e X.env)::starEach [] X.env) zu2._auto_1):SE X (.Call (.Name "all" p) [e] [] pos) (mC (dAll fun bs=>bs.all id) ma):=
 ze5 (zrj hc) (vc_all _) (by decide+kernel) ml ha hg (by decide) (by decide) he rfl
noncomputable def d2I (g:Int->Int->Int):List D->Option D
 |[.int i,.int j]=>some (.int (g i j))
 |_=>none
theorem vc_2I (g:Int->Int->Int):VC X (fun xs H Q=>∃i j,xs=[.int i,.int j]/\Q (.int (g i j)) H) (d2I g):=by
 intro B G H σ ρ xs ds d Q I r hf k
 unfold d2I at hf
 split at hf
 ·rename_i i j
  cases hf
  obtain⟨x,y,rfl,rx,ry⟩:=r.two
  cases(show x=V.int i from rx)
  cases(show y=V.int j from ry)
  exact⟨i,j,rfl,k G H _ I (Fz.refl G) rfl⟩
 ·cases hf
noncomputable def max2 (i j:Int):Int:=if j>i then j else i
noncomputable def min2 (i j:Int):Int:=if j<i then j else i
theorem zkA {p pos:Pos}(hc:X.calm=true)(ml:X.mg "max"=none)(ha:SA X [a,b] ma)(hg:autoParam (Gl X "max") zu2._auto_1)(he:autoParam (starEach [a,b] X.env=(false,eval a X.env)::starEach [b] X.env) zu2._auto_1)(hpl:autoParam ((backTo pos (starEach [b] X.env)).any (·.1)=false) zu2._auto_1):SE X (.Call (.Name "max" p) [a,b] [] pos) (mC (d2I max2) ma):=
 ze5 (zrr hc) (vc_2I max2) (by decide+kernel) ml ha hg (by decide) (by decide) he hpl
theorem znX {p pos:Pos}(hc:X.calm=true)(ml:X.mg "min"=none)(ha:SA X [a,b] ma)(hg:autoParam (Gl X "min") zu2._auto_1)(he:autoParam (starEach [a,b] X.env=(false,eval a X.env)::starEach [b] X.env) zu2._auto_1)(hpl:autoParam ((backTo pos (starEach [b] X.env)).any (·.1)=false) zu2._auto_1):SE X (.Call (.Name "min" p) [a,b] [] pos) (mC (d2I min2) ma):=
 ze5 (zqr hc) (vc_2I min2) (by decide+kernel) ml ha hg (by decide) (by decide) he hpl
noncomputable def dInt:List D->Option D
 |[.int i]=>some (.int i)
 |[.bl b]=>some (.int (if b then 1 else 0))
 |_=>none
theorem zlW {p pos:Pos}(ml:X.mg "int"=none)(ha:SA X [a] ma)(hg:autoParam (Gl X "int") zu2._auto_1)(he:autoParam (starEach [a] X.env=(false,eval a X.env)::starEach [] X.env) zu2._auto_1):SE X (.Call (.Name "int" p) [a] [] pos) (mC dInt ma):=
 zmC zpy (fun B G H σ ρ xs ds d Q I r hf k=>by
  unfold dInt at hf
  split at hf
  ·rename_i i
   cases hf
   obtain⟨x,rfl,rx⟩:=r.one
   cases(show x=V.int i from rx)
   exact .inl ⟨i,rfl,k G H _ I (Fz.refl G) rfl⟩
  ·rename_i b
   cases hf
   obtain⟨x,rfl,rx⟩:=r.one
   cases(show x=V.bl b from rx)
   exact .inr ⟨b,rfl,k G H _ I (Fz.refl G) rfl⟩
  ·cases hf) (by decide+kernel) ml ha hg (by decide) (by decide) he rfl
noncomputable def isI (T:String):D->Bool
 | .non=>false
 | .bl _=>T=="bool"||T=="int"
 | .int _=>T=="int"
 | .str _=>T=="str"
 | .lst _=>T=="list"
 | .tup _=>T=="tuple"
 | .scr _=>T=="list"
 | .exc _=>false
 | .dic _ _=>false
 | .dit _ _=>false
noncomputable def okT (T:String):Bool:=["int","bool","tuple","list","str"].contains T
noncomputable def eIsI (T:String)(ma:ME):ME:=fun ρ=>(ma ρ).bind fun p=>if okT T&&noS1 p.1 then some (.bl (isI T p.1),p.2)else none
where noS1:D->Bool
 | .scr _=>false
 | .exc _=>false
 | .dic _ _=>false
 | .dit _ _=>false
 |_=>true
noncomputable def cutD {α:Type}(xs:List α)(lo hi:Option Int):List α:=(xs.drop (HT.sIx xs.length 0 lo)).take (HT.sIx xs.length xs.length hi-HT.sIx xs.length 0 lo)
theorem RepL.cut (h:RepL K G xs ds)(lo hi:Option Int):RepL K G (cutV xs lo hi) (cutD ds lo hi):=by
 unfold cutV cutD
 rw[h.length]
 exact(h.drop _).take _
section
variable {prog:Program} {w:World} {A:Around} {E:Value->Shared->Prop} {s:Shared}
theorem zhB {t sl:Addr}{items:Array Value}{vl vu:Value}{lo hi:Option Int}(ht:IsTup s.heap t items)(hs:s.heap.IsSliceOf sl vl vu .none)(pl:IsPart vl lo)(pu:IsPart vu hi)
  (hw:HT.sIx items.size 0 lo=0/\HT.sIx items.size items.size hi=items.size) (h:Q (.ref t) s):wpAny (model prog w) A (getItem (.ref t) (.ref sl)) Q E s:=by
 obtain⟨os,hos,hcs,hds⟩:=id hs
 have hTs:s.TypeIs (.ref sl) "slice":=⟨os,hos,hcs⟩
 unfold getItem
 try with_reducible refine wpAny_holding ?_
 first|refine wpAny_bind (wpAny_pure ?_)|skip
 refine wpAny_bind (wpAny_sequenceKey ht.typeIs (by decide) ?_)
 refine wpAny_bind (wpAny_callSpecial?_slot (name:=Str.ofString "__getitem__") ht.typeIs PyProof.Rows.slot_tuple_getitem
  (wpAny_call_entry PyProof.Rows.slot_tuple_getitem ht.typeIs entry_tuple_getitem ?_ (args_tuple_getitem _ _)))
 show wpAny _ _ (Builtin.Tuple.tupleItemsOf (.ref t)>>=_) _ _ s
 refine wpAny_bind (tupleItemsOf_ ht ?_)
 refine wpAny_bind (wpAny_typeOf hTs ?_)
 rw[if_pos (by decide)]
 refine wpAny_bind (HT.zfD hs pl pu ?_)
 have hyes:(((HT.sIx items.size 0 lo:Nat):Int)==0&&(1:Int)==1&&(HT.sIx items.size items.size hi-HT.sIx items.size 0 lo)==items.size)=true:=by
  rw[hw.1,hw.2];simp
 show wpAny _ _ (if(((HT.sIx items.size 0 lo:Nat):Int)==0&&(1:Int)==1&&(HT.sIx items.size items.size hi-HT.sIx items.size 0 lo)==items.size)=true then _ else _) _ _ s
 rw[if_pos hyes]
 refine wpAny_bind (m:=Builtin.Tuple.tupleIsExact _) ?_
 unfold Builtin.Tuple.tupleIsExact
 refine wpAny_bind (wpAny_typeOf ht.typeIs (wpAny_pure ?_))
 rw[if_pos (by decide)]
 refine wpAny_bind (wpAny_rule ?_)
 exact wpAny_pure ⟨_,rfl,wpAny_pure h⟩
end
noncomputable def rSlTW (K:W.Frag):V->Option Int->Option Int->Hp->VK->Prop:=fun x lo hi H Q=>∃a xs,x= .ref a/\SqT K H a xs/\(HT.sIx xs.length 0 lo=0/\HT.sIx xs.length xs.length hi=xs.length)/\Q (.ref a) H
theorem sl_tupW:SlR X (rSlTW X.K):=by
 intro pins s σ H x v vl vu lo hi sl Q I rx hs pl pu h
 obtain⟨a,xs,rfl,hx,hw,q⟩:=h
 cases rx
 obtain⟨its,r,ht,hz⟩:=I.tuple hx
 have hlen:its.toArray.size=xs.length:=by rw[List.size_toArray];exact r.length.symm
 refine⟨"tuple",_,PyProof.Rows.slot_tuple_getitem.lookup,ht.typeIs,?_⟩
 exact zhB ht hs pl pu (by rw[hlen];exact hw) ⟨.ref a,H,I,rfl,q⟩
noncomputable abbrev MP:=R->Option (Option Int×R)
noncomputable def SPt (X:Cx)(e:Option Expr)(m:MP):Prop:=∃t,PO X e t/\∀B G H σ ρ o ρ' (Q:Option Int->Hp->Prop),SI X.K B G H σ ρ->m ρ=some (o,ρ')->(∀G' H',SI X.K B G' H' σ ρ'->Fz G G'->Q o H')->t σ H Q
noncomputable def pNo:MP:=fun ρ=>some (none,ρ)
noncomputable def zcP (m:ME):MP:=fun ρ=>(m ρ).bind fun p=>match p.1 with
 | .int i=>some (some i,p.2)
 |_=>none
theorem zgQ:SPt X none pNo:=⟨_,po_none,fun B G H σ ρ o ρ' Q I hm k=>by cases hm;exact k G H I (Fz.refl G)⟩
theorem za1 {m:ME}(h:SE X e m):SPt X (some e) (zcP m):=by
 obtain⟨t,p,s⟩:=h
 refine⟨_,po_some p,fun B G H σ ρ o ρ' Q I hm k=>?_⟩
 obtain⟨⟨d,ρ1⟩,e1,hm⟩:=zah hm
 refine s B G H σ ρ d ρ1 _ I e1 fun G1 H1 v I1 f1 r1=>?_
 cases d<;>try cases hm
 rename_i i
 exact⟨i,r1,k G1 H1 I1 f1⟩
noncomputable def dCut (d:D)(lo hi:Option Int):Option D:=match d with
 | .lst ds=>some (.lst (cutD ds lo hi))
 | .tup ds=>some (.tup (cutD ds lo hi))
 | .scr ns=>some (.lst ((cutD ns lo hi).map .int))
 |_=>none
noncomputable def eCut (ma:ME)(ml mh:MP):ME:=fun ρ=>(ma ρ).bind fun p=>(ml p.2).bind fun q=>(mh q.2).bind fun r=>(dCut p.1 q.1 r.1).map fun d=>(d,r.2)
theorem zpG (ns:List Int)(lo hi:Option Int):cutV (ns.map V.int) lo hi=(cutD ns lo hi).map V.int:=by
 unfold cutV cutD
 rw[List.length_map,<-List.map_drop,<-List.map_take]
theorem zdV {lo hi:Option Expr}{ma:ME}{ml mh:MP}{pos p2:Pos}(he:SE X e ma)(hl:SPt X lo ml)(hu:SPt X hi mh):SE X (.Subscript e (.Slice lo hi none p2) pos) (eCut ma ml mh):=by
 obtain⟨ta,pa,sa⟩:=he
 obtain⟨tl,pl,sl⟩:=hl
 obtain⟨th,ph,sh⟩:=hu
 refine⟨_,pe_slice (sl_list.or (sl_tup.or sl_tupW)) pa pl ph,fun B G H σ ρ d ρ' Q I hm k=>?_⟩
 obtain⟨⟨x,ρ1⟩,e1,hm⟩:=zah hm
 obtain⟨⟨l,ρ2⟩,e2,hm⟩:=zah hm
 obtain⟨⟨u,ρ3⟩,e3,hm⟩:=zah hm
 obtain⟨c,e4,e5⟩:=zau hm
 obtain⟨rfl,rfl⟩:=Prod.mk.inj e5
 refine sa B G H σ ρ x ρ1 _ I e1 fun G1 H1 v I1 f1 r1=>sl B G1 H1 σ ρ1 l ρ2 _ I1 e2 fun G2 H2 I2 f2=>sh B G2 H2 σ ρ2 u ρ3 _ I2 e3 fun G3 H3 I3 f3=>?_
 have r3:=r1.mono (f2.trans f3)
 dsimp only at e4
 cases x with
 |exc _=>cases e4
 |dic _ _=>cases e4
 |dit _ _=>cases e4
 |non=>cases e4
 |bl _=>cases e4
 |int _=>cases e4
 |str _=>cases e4
 |lst ds=>
  cases e4
  obtain⟨a,xs,rfl,ha,r⟩:=I3.lst r3
  refine .inl ⟨a,xs,rfl,SqL.of ha,fun p hp=>?_⟩
  obtain⟨I4,f4,r4⟩:=I3.newL hp (r.cut l u)
  exact k _ _ _ I4 (f1.trans (f2.trans (f3.trans f4))) r4
 |tup ds=>
  cases e4
  obtain⟨a,xs,rfl,ha,r⟩:=I3.tup r3
  by_cases hw:HT.sIx xs.length 0 l=0/\HT.sIx xs.length xs.length u=xs.length
  ·refine .inr (.inr ⟨a,xs,rfl,SqT.of ha,hw,?_⟩)
   have e:cutD ds l u=ds:=by
    unfold cutD
    rw[<-r.length,hw.1,hw.2,List.drop_zero,Nat.sub_zero,List.take_of_length_le (by rw[r.length];exact Nat.le_refl _)]
   rw[e]at k
   exact k G3 H3 _ I3 (f1.trans (f2.trans f3)) r3
  ·refine .inr (.inl ⟨a,xs,rfl,SqT.of ha,hw,fun p hp=>?_⟩)
   obtain⟨I4,f4,r4⟩:=I3.newT hp (r.cut l u)
   exact k _ _ _ I4 (f1.trans (f2.trans (f3.trans f4))) r4
 |scr ns=>
  cases e4
  obtain⟨a,rfl,ha⟩:=r3
  refine .inl ⟨a,_,rfl,I3.fz.sql ha,fun p hp=>?_⟩
  rw[zpG]
  obtain⟨I4,f4,r4⟩:=I3.newL hp (RepL.ints (cutD ns l u))
  exact k _ _ _ I4 (f1.trans (f2.trans (f3.trans f4))) r4
theorem zcQ (h:aLen ma n):∀ρ as ρ',ma ρ=some (as,ρ')->as.length+1=n+1:=fun ρ as ρ' e=>congrArg (· +1) (h ρ as ρ' e)
section
variable {X:Cx} {elt iter tg:Expr} {ifs:List Expr} {scope:Scope} {pos lpos pos':Pos} {N:List Str} {cap:List Nat} {t:Nat} {mi:MA} {g:D->R->Option R} {mt:MT} {me:ME}
theorem zeI (i:Nat)(cap:List Nat)(t:Nat)(N:List Str)(hc:X.calm=true)(hi:SIt X tg iter mi)(hg:∀C s H fp,SG (cxC X N scope C s H fp) tg g)(ht:∀C s H fp,STs (cxC X N scope C s H fp) ifs mt)(he:∀C s H fp,SE (cxC X N scope C s H fp) elt me)(hN:X.N.Nodup)
    (hxi:autoParam (X.N[i]? =some x) zu2._auto_1) (hx:autoParam (Loc X.env.scope x) zu9._auto_1) (hf:autoParam (X.fn x=true\/X.env.scope.names.lookup x=some .local) zu9._auto_1)
    (hsw:autoParam (swapsWith (.ListComp elt [⟨tg,iter,ifs,0⟩] scope lpos) (some (.Name x pos')) pos.line X.env=pure true) zu2._auto_1)
    (hk:autoParam (scope.kind= .function) zu2._auto_1) (hb:autoParam (blkB X.env scope=true) zu10._auto_1) (hcap:autoParam (capB scope.names N X.N cap t=true) zu10._auto_1)
    (hs:autoParam (∀x,foldedSetIterable iter X.env x=pure x) zu8._auto_1):SS X (.Assign [.Name x pos'] (.ListComp elt [⟨tg,iter,ifs,0⟩] scope lpos) pos) (sSet i (eFz (oLC cap t mi g mt me))):=by
  obtain⟨wi,pi,si⟩:=hi
  refine⟨_,zjD hN hxi hx hf hsw hc (zjb hk hb) (zj4 hcap) pi (fun C s H fp=>(hg C s H fp).choose_spec.1) (fun C s H fp=>(ht C s H fp).choose_spec.1) (fun C s H fp=>(he C s H fp).choose_spec.1) hs,fun B G H σ ρ fl ρ' E I hm k=>?_⟩
  obtain⟨⟨d,ρ1⟩,e1,e3⟩:=zau hm
  obtain⟨⟨ds,ρ2⟩,e4,e5⟩:=zau e1
  obtain⟨rfl,rfl⟩:=Prod.mk.inj e5
  obtain⟨rfl,rfl⟩:=Prod.mk.inj e3
  refine zlJ si (fun C s H fp=>(hg C s H fp).choose_spec.2) (fun C s H fp=>(ht C s H fp).choose_spec.2) (fun C s H fp=>(he C s H fp).choose_spec.2) B G H σ ρ ds ρ2 _ I e4 fun G1 H1 l xs I1 f1 g1 h1 r1 b1 n1=>?_
  obtain⟨I2,f2,r2⟩:=zmS I1 g1 h1 r1 b1 n1
  exact k _ H1 _ (I2.set r2) (f1.trans f2)
end
end M
namespace M
open L2 PySem
@[simp] theorem atI_nat' {α:Type} (xs:List α) (i:Nat):atI xs (i:Int)=xs[i]?:=by
 unfold atI ixN
 rw[if_pos (by lia)]
 by_cases h:i<xs.length
 ·rw[if_pos (by lia)];simp
 ·rw[if_neg (by lia)];simp[List.getElem?_eq_none (by lia:xs.length<=i)]
end M
namespace M
open L2 PyProof.Rows PySem PySem.Spec
noncomputable def zoN (i:Nat)(g:Int->Int->Int)(me:ME):MS:=fun ρ=>match ρ[i]? with
 |some (.val (.int a))=>(me ρ).bind fun p=>match p.1 with
  | .int b=>some (.next,p.2.set i (.val (.int (g a b))))
  |_=>none
 |_=>none
section
variable {X:Cx} {e:Expr} {me:ME} {pos:Pos}
theorem ss_augI (i:Nat){x:Str}{pos':Pos}{op:Operator}{g:Int->Int->Int}(ho:PIp X op (ipI g))(he:SE X e me)(hN:X.N.Nodup)(hi:autoParam (X.N[i]? =some x) zu2._auto_1)(hx:autoParam (Loc X.env.scope x) zu9._auto_1)
    (hf:autoParam (X.fn x=true\/X.env.scope.names.lookup x=some .local) zu9._auto_1):SS X (.AugAssign (.Name x pos') op e pos) (zoN i g me):=by
  obtain⟨t,p,s⟩:=he
  refine⟨_,ps_aug hN hi hx p ho hf,fun B G H σ ρ fl ρ' E I hm k=>?_⟩
  unfold zoN at hm
  split at hm
  . rename_i a e0
    obtain⟨⟨d,ρ1⟩,e1,h2⟩:=zah hm
    dsimp only at h2
    split at h2
    . rename_i b
      cases h2
      obtain⟨v,h1,hv⟩:=I.slot i _ e0
      cases(show v=V.int a from hv)
      refine⟨_,h1,s B G H σ ρ (.int b) ρ1 _ I e1 fun G1 H1 w I1 f1 r1=>?_⟩
      cases(show w=V.int b from r1)
      exact⟨a,b,rfl,rfl,k G1 H1 _ (I1.set (d:= .int (g a b)) rfl) f1⟩
    . cases h2
  . cases hm
theorem zmB (i:Nat){x:Str}{pos':Pos}(he:SE X e me)(hN:X.N.Nodup)(hi:autoParam (X.N[i]? =some x) zu2._auto_1)(hx:autoParam (Loc X.env.scope x) zu9._auto_1)
  (hf:autoParam (X.fn x=true\/X.env.scope.names.lookup x=some .local) zu9._auto_1):SS X (.AugAssign (.Name x pos') .Sub e pos) (zoN i (fun i j=>i-j) me):=ss_augI i ip_sub he hN hi hx hf
end
noncomputable def za0 {α:Type}(xs:List α)(lo hi st:Option Int):List α:=
 (sliceRange (sliceBounds lo hi st xs.length).1 (sliceBounds lo hi st xs.length).2.1 (sliceBounds lo hi st xs.length).2.2).filterMap (xs[·]?)
theorem ziS (its:List Value)(lo hi st:Option Int):slicePick its.toArray lo hi st=(za0 its lo hi st).toArray:=by
 unfold slicePick za0
 simp
theorem ziV {xs:List V}{its:List Value}(h:xs.length=its.length)(lo hi st:Option Int):(za0 its lo hi st).length<=xs.length:=by
 have:=slicePick_size_le its.toArray lo hi st
 rw[ziS]at this
 simpa[h]using this
theorem picks {its:List Value}{xs:List V}(r:Vals xs its):∀js:List Nat,Vals (js.filterMap (xs[·]?)) (js.filterMap (its[·]?))
 |[]=> .nil
 |j::js=>by
  have hl:=r.length
  by_cases h:j<xs.length
  ·have h2:j<its.length:=by lia
   obtain⟨u,e1,e2⟩:=r.get (List.getElem?_eq_getElem h)
   rw[List.filterMap_cons,List.filterMap_cons,List.getElem?_eq_getElem h,e1]
   exact .cons e2 (picks r js)
  ·rw[List.filterMap_cons,List.filterMap_cons,List.getElem?_eq_none (by lia),List.getElem?_eq_none (by lia)]
   exact picks r js
theorem RepL.pickJ {K:W.Frag}{G:Hp}{xs:List V}{ds:List D}(r:RepL K G xs ds):∀js:List Nat,RepL K G (js.filterMap (xs[·]?)) (js.filterMap (ds[·]?))
 |[]=>RepL.nil
 |j::js=>by
  have hl:=r.length
  by_cases h:j<xs.length
  ·have h2:j<ds.length:=by lia
   obtain⟨u,e1,e2⟩:=r.get (List.getElem?_eq_getElem h2)
   rw[List.filterMap_cons,List.filterMap_cons,List.getElem?_eq_getElem h2,e1]
   exact RepL.cons e2 (r.pickJ js)
  ·rw[List.filterMap_cons,List.filterMap_cons,List.getElem?_eq_none (by lia),List.getElem?_eq_none (by lia)]
   exact r.pickJ js
section
variable {X:Cx} {e st:Expr} {lo hi:Option Expr} {te:TE} {tl th ts:TO} {p2 pos:Pos}
theorem zk6 (he:PE X e te)(hl:PO X lo tl)(hu:PO X hi th)(hst:PO X (some st) ts):PE X (.Subscript e (.Slice lo hi (some st) p2) pos)
  (fun σ H Q=>te σ H fun x H1=>tl σ H1 fun l H2=>th σ H2 fun u H3=>ts σ H3 fun c H4=>∃a xs,x= .ref a/\SqL X.K H4 a xs/\c≠some 0/\∀p,H4 p=none->Q (.ref p) (upd H4 p (.lst (za0 xs l u c)))):=by
 intro pins s σ H Q I h
 refine Subscript_ (thn (he pins s σ H _ I h) fun v s1 ⟨x,H1,I1,r1,q1⟩=>?_)
 refine wpAny_Slice (thn (hl pins s1 σ H1 _ I1 q1) fun vl s2 ⟨l,H2,I2,pl,q2⟩=>thn (hu pins s2 σ H2 _ I2 q2) fun vu s3 ⟨u,H3,I3,pu,q3⟩=>thn (hst pins s3 σ H3 _ I3 q3) fun vs s4 ⟨c,H4,I4,pc,q4⟩=>?_)
 have I5:Inv X pins σ H4 {s4 with heap:=s4.heap.push {cls:= .type "slice",data:= .fields #[vl,vu,vs]}}:=I4.kept (t':=s4.toks) fun b ob q=>Heap.get?_push_of_some _ q
 obtain⟨a,xs,rfl,hx,h0,q⟩:=q4
 cases r1
 obtain⟨its,r,ht,hz⟩:=I5.list hx
 have hlen:=r.length
 have hg:wpAny (model X.prog X.w) X.A (getItem (.ref a) (.ref s4.heap.objs.size)) (EP X pins σ Q) X.xe {s4 with heap:=s4.heap.push {cls:= .type "slice",data:= .fields #[vl,vu,vs]}}:=by
  refine wpAny_getItem_list_slice ht.isList (Heap.IsSliceOf.new ..) pl pu pc h0 ?_ (by rw[List.size_toArray]<;>lia)
  rw[ziS]
  refine⟨.ref _,_,I5.laid (t':=s4.toks) (o:= .lst (za0 xs l u c)) (fun b ob q=>Heap.get?_push_of_some _ q) (Nat.le_refl _) ?_,rfl,q _ (I5.hok.fresh (Nat.le_refl _))⟩
  refine⟨?_,_,0,?_,Heap.get?_push_size _ rfl⟩
  ·have:=ziV hlen l u c
   have e2:(za0 xs l u c).length=(za0 its l u c).length:=by
    unfold za0;rw[hlen];exact(picks r _).length
   lia
  ·unfold za0;rw[hlen];exact picks r _
 show wpAny (model X.prog X.w) X.A (subscriptTail e (.Slice lo hi (some st) p2) (.ref a) (.ref s4.heap.objs.size)) (EP X pins σ Q) X.xe {s4 with heap:=s4.heap.push {cls:= .type "slice",data:= .fields #[vl,vu,vs]}}
 exact tail_any (ops:=[.ref a,.ref s4.heap.objs.size]) ht.isList.typeIs slot_list_getitem.lookup hg (by with_unfolding_all rfl)
end
noncomputable def zoV (d:D)(lo hi st:Option Int):Option D:=match d with
 | .lst ds=>if st=some 0 then none else some (.lst (za0 ds lo hi st))
 |_=>none
noncomputable def zqA (ma:ME)(ml mh ms:MP):ME:=fun ρ=>(ma ρ).bind fun p=>(ml p.2).bind fun q=>(mh q.2).bind fun r=>(ms r.2).bind fun t=>(zoV p.1 q.1 r.1 t.1).map fun d=>(d,t.2)
theorem RepL.pick {K:W.Frag}{G:Hp}{xs:List V}{ds:List D}(r:RepL K G xs ds)(lo hi st:Option Int):RepL K G (za0 xs lo hi st) (za0 ds lo hi st):=by
 unfold za0
 rw[r.length]
 exact r.pickJ _
theorem znU {X:Cx}{e st:Expr}{lo hi:Option Expr}{ma:ME}{ml mh ms:MP}{pos p2:Pos}(he:SE X e ma)(hl:SPt X lo ml)(hu:SPt X hi mh)(hs:SPt X (some st) ms):SE X (.Subscript e (.Slice lo hi (some st) p2) pos) (zqA ma ml mh ms):=by
 obtain⟨ta,pa,sa⟩:=he
 obtain⟨tl,pl,sl⟩:=hl
 obtain⟨th,ph,sh⟩:=hu
 obtain⟨tc,pc,sc⟩:=hs
 refine⟨_,zk6 pa pl ph pc,fun B G H σ ρ d ρ' Q I hm k=>?_⟩
 obtain⟨⟨x,ρ1⟩,e1,hm⟩:=zah hm
 obtain⟨⟨l,ρ2⟩,e2,hm⟩:=zah hm
 obtain⟨⟨u,ρ3⟩,e3,hm⟩:=zah hm
 obtain⟨⟨c,ρ4⟩,e4,hm⟩:=zah hm
 obtain⟨y,e5,e6⟩:=zau hm
 obtain⟨rfl,rfl⟩:=Prod.mk.inj e6
 refine sa B G H σ ρ x ρ1 _ I e1 fun G1 H1 v I1 f1 r1=>sl B G1 H1 σ ρ1 l ρ2 _ I1 e2 fun G2 H2 I2 f2=>sh B G2 H2 σ ρ2 u ρ3 _ I2 e3 fun G3 H3 I3 f3=>sc B G3 H3 σ ρ3 c ρ4 _ I3 e4 fun G4 H4 I4 f4=>?_
 have r3:=r1.mono (f2.trans (f3.trans f4))
 dsimp only at e5
 cases x<;>simp only[zoV]at e5<;>try cases e5
 rename_i ds
 split at e5
 ·cases e5
 ·rename_i h0
  cases e5
  obtain⟨a,xs,rfl,ha,r⟩:=I4.lst r3
  refine⟨a,xs,rfl,SqL.of ha,h0,fun p hp=>?_⟩
  obtain⟨I5,f5,r5⟩:=I4.newL hp (r.pick l u c)
  exact k _ _ _ I5 (f1.trans (f2.trans (f3.trans (f4.trans f5)))) r5
end M
namespace M
open L2 PySem PySem.Spec
open PyProof.Rows hiding St
variable {K:W.Frag} {tg a b e:Expr} {pins:List (Addr×Obj)} {s:Shared} {E:Value->Shared->Prop} {p pos:Pos} {G:Hp} {j:Int} {X:Cx} {ma:MA} {xs:List V} {ds:List D}
noncomputable def cntS (lo hi st:Int):Nat:=if lo<hi then((hi-lo-1)/st+1).toNat else 0
noncomputable def Itrs (lo st:Int)(n:Nat):It:=⟨fun i _=>i<n,fun i H x H'=>H'=H/\x= .int (lo+i*st),fun i _=>n<=i⟩
theorem znl {P:Program}{w:World}(it:Addr)(lo st:Int)(n:Nat):Turn P w K tg (Itrs lo st n) [it] it (fun i h=>IsRangeIter h it (lo+(i:Nat)*st) ((n:Int)-(i:Nat)) st) where
 mem:=by simp
 obj:=fun i h st b hb=>by
  have e:b=it:=by simpa using hb
  subst e
  exact⟨_,st,fun v z=>by
   have z':Data.fields _=Data.cell v:=z
   cases z'⟩
 keep:=fun i h h' st k=>k it (by simp) _ st
 item:=by
  intro X hP hw hK hc i pins s σ H E I hf st' hg
  subst hP hw hK
  obtain⟨f0,f1,f2,f3,f4,f5⟩:=hf it (by simp)
  have W:=Walks.range (prog:=X.prog) (w:=X.w) (I.ok.hd hc) it lo st n
  refine W.item i s _ _ hg st' fun v h' tk hv st' kk=>?_
  obtain⟨t,rfl⟩:=hv
  have I1:Inv X pins σ H {s with heap:=h',toks:=tk}:=I.turned (fun b o hb e=>kk b o (by simpa using hb) e) f0 f1 f3 f4 f5
  exact⟨_,rfl,go_of (s:={s with heap:=h',toks:=tk}) (n:="range_iterator") st' rfl rfl (by decide) ⟨.int (lo+i*st),H,I1,⟨t,rfl⟩,⟨rfl,rfl⟩,st',fun b hb=>(hf b hb).1⟩⟩
 done:=by
  intro X hP hw hK hc i pins s σ H E I hf st' hg
  subst hP hw hK
  obtain⟨f0,f1,f2,f3,f4,f5⟩:=hf it (by simp)
  exact wpAny_pyNext_range_end (I.ok.hd hc) st' (by have:n<=i:=hg;lia) fun h' eb=>⟨rfl,I.turned (t':=s.toks) (fun b o hb e=>eb b o hb e) f0 f1 f3 f4 f5⟩
 self:=fun _ _ _ _ _ st h=>wpAny_pyIter_rangeiter st h
theorem zok {lo hi st:Int}(h:0<st):((cntS lo hi st:Nat):Int)=Builtin.Range.rangeSize lo hi st:=by
 unfold cntS Builtin.Range.rangeSize
 rw[if_pos h]
 split
 ·have:0<=(hi-lo-1)/st:=Int.ediv_nonneg (by lia) (by lia)
  lia
 ·rfl
theorem small_st {a b c:Int}(ha: -(2^60)<=a)(ha':a<2^60)(hb: -(2^60)<=b)(hb':b<2^60)(hc:0<c)(hc':c<1073741824):Builtin.Range.small a b c=true:=by
 have h1:=zok (lo:=a) (hi:=b) hc
 have h2:Builtin.Range.rangeSize a b c<=2^62:=by
  unfold Builtin.Range.rangeSize
  rw[if_pos hc]
  split
  ·have:(b-a-1)/c<=b-a-1:=Int.ediv_le_self _ (by lia)
   lia
  ·lia
 have h3:0<=Builtin.Range.rangeSize a b c:=by rw[<-h1];lia
 unfold Builtin.Range.small
 simp only[Builtin.Range.rangeFitsLong,Bool.and_eq_true,Bool.or_eq_true,decide_eq_true_eq,beq_iff_eq,show c>0 from hc,if_true]
 generalize Builtin.Range.rangeSize a b c=z at*
 lia
section
variable {X:Cx} {tg:Expr}
theorem zqR {σ:St}{H:Hp}{R:It->Hp->Prop}{lo hi st:Int}{t u v:Tok}{tk:Nat}(I:Inv X pins σ H s)(h1: -(2^60)<=lo)(h2:lo<2^60)(h3: -(2^60)<=hi)(h4:hi<2^60)(h5:0<st)(h6:st<1073741824)
  (q:R (Itrs lo st (cntS lo hi st)) H):wpAny (model X.prog X.w) X.A (pyIter (.ref s.heap.objs.size)) (PIE X pins σ tg R) E {s with heap:=s.heap.push {cls:= .type "range",data:= .fields #[.int lo t,.int hi u,.int st v]},toks:=tk}:=by
 refine wpAny_pyIter_range (IsRange.new ..) (small_st h1 h2 h3 h4 h5 h6) ?_
 have I1:Inv X pins σ H {s with heap:=s.heap.push {cls:= .type "range",data:= .fields #[.int lo t,.int hi u,.int st v]},toks:=tk}:=I.kept fun b o e=>Heap.get?_push_of_some _ e
 refine⟨(s.heap.push {cls:= .type "range",data:= .fields #[.int lo t,.int hi u,.int st v]}).objs.size,[(s.heap.push {cls:= .type "range",data:= .fields #[.int lo t,.int hi u,.int st v]}).objs.size],_,_,H,rfl,
  I1.kept (t':=tk) fun b o e=>Heap.get?_push_of_some _ e,znl _ lo st (cntS lo hi st),?_,fun b hb=>?_,q⟩
 ·have e1:lo+((0:Nat):Int)*st=lo:=by simp
  show IsRangeIter _ _ (lo+((0:Nat):Int)*st) (((cntS lo hi st:Nat):Int)-((0:Nat):Int)) st
  rw[e1,zok h5,show(((0:Nat):Int))=0 from rfl,Int.sub_zero]
  exact Heap.get?_push_size _ rfl
 ·have e:b=(s.heap.push {cls:= .type "range",data:= .fields #[.int lo t,.int hi u,.int st v]}).objs.size:=by simpa using hb
  subst e
  exact I1.fpOk (Nat.le_refl _) (I1.hok.fresh (Nat.le_refl _))
theorem zrh {a b c:Expr}{ta:TA}(hg:Gl X "range")(hm:X.mg "range"=none)(ha:PA X [a,b,c] ta)(hs:autoParam (starEach [a,b,c] X.env=(false,eval a X.env)::starEach [b,c] X.env) zu2._auto_1)(hs2:autoParam ((backTo pos (starEach [b,c] X.env)).any (·.1)=false) zu2._auto_1):
  PI X tg (.Call (.Name "range" p) [a,b,c] [] pos) (fun σ H R=>ta σ H fun vs H1=>∃i j k:Int,vs=[.int i,.int j,.int k]/\(-(2^60)<=i/\i<2^60/\ -(2^60)<=j/\j<2^60/\0<k/\k<1073741824)/\R (Itrs i k (cntS i j k)) H1):=by
 intro pins s σ H R I h
 refine Call_ (zhI I hg hm boot_range (PyProof.Rows.callWith_type1 (thn (ha pos pins s σ H _ I h) fun us s1 ⟨vs,H1,I1,r1,q1⟩=>?_) hs hs2))
 obtain⟨i,j,k,e,⟨q1,q2,q3,q4,q5,q6⟩,q⟩:=q1
 subst e
 cases r1 with
 |cons r rr=>
  cases rr with
  |cons r' rr=>
   cases rr with
   |cons r'' rr=>
    cases rr
    obtain⟨t,rfl⟩:=r
    obtain⟨t',rfl⟩:=r'
    obtain⟨t'',rfl⟩:=r''
    exact call_range_3 (by lia) (zqR I1 q1 q2 q3 q4 q5 q6 q) (Or.inl (PyProof.noPylong_small (by lia)))
end
noncomputable def zn0 (lo st:Int)(n:Nat):List D:=(List.range n).map fun(i:Nat)=>D.int (lo+(i:Int)*st)
theorem zo3 (lo st:Int)(n:Nat):Itm K (Itrs lo st n) G (zn0 lo st n) where
 go:=fun H i f hi=>by show i<n;simpa[zn0]using hi
 yld:=fun H i x H' f y d e=>by
  obtain⟨rfl,rfl⟩:=y
  unfold zn0 at e
  rw[List.getElem?_map]at e
  cases q:(List.range n)[i]? with
  |none=>rw[q]at e;cases e
  |some j=>
   rw[q]at e
   have hj:j=i:=by
    have:=List.getElem?_eq_some_iff.mp q
    obtain⟨h1,h2⟩:=this
    simpa using h2.symm
   subst hj
   cases e
   exact .inl ⟨rfl,rfl⟩
 stop:=fun H i f hi=>by show n<=i;simpa[zn0]using hi
noncomputable def iR3 (ma:MA):MA:=fun ρ=>(ma ρ).bind fun p=>match p.1 with
 |[.int i,.int j,.int k]=>if zdK i&&zdK j&&decide (0<k)&&decide (k<1073741824)then some (zn0 i k (cntS i j k),p.2)else none
 |_=>none
theorem zm5 (h:zdK j=true): -(2^60)<=j/\j<2^60:=by
 unfold zdK at h
 simp only[Bool.and_eq_true,decide_eq_true_eq]at h
 lia
theorem zkv {tg a b c:Expr}(hm:X.mg "range"=none)(ha:SA X [a,b,c] ma)(hg:autoParam (Gl X "range") zu2._auto_1)(hs:autoParam (starEach [a,b,c] X.env=(false,eval a X.env)::starEach [b,c] X.env) zu2._auto_1)(hs2:autoParam ((backTo pos (starEach [b,c] X.env)).any (·.1)=false) zu2._auto_1):SIt X tg (.Call (.Name "range" p) [a,b,c] [] pos) (iR3 ma):=by
 obtain⟨t,pa,sa⟩:=ha
 refine⟨_,zrh hg hm pa hs hs2,fun B G H σ ρ ds ρ' Q I hm k=>?_⟩
 obtain⟨⟨es,ρ1⟩,e1,h2⟩:=zah hm
 dsimp only at h2
 refine sa B G H σ ρ es ρ1 _ I e1 fun G1 H1 vs I1 f1 r1=>?_
 split at h2
 ·rename_i i j l
  split at h2
  ·rename_i hj
   simp only[Bool.and_eq_true,decide_eq_true_eq]at hj
   cases h2
   obtain⟨x,xs,rfl,rx,r2⟩:=r1
   obtain⟨y,ys,rfl,ry,r3⟩:=r2
   obtain⟨z,zs,rfl,rz,r4⟩:=r3
   cases(show x=V.int i from rx)
   cases(show y=V.int j from ry)
   cases(show z=V.int l from rz)
   cases(show zs=[]from r4)
   have a1:=zm5 hj.1.1.1
   have a2:=zm5 hj.1.1.2
   exact⟨i,j,l,rfl,⟨a1.1,a1.2,a2.1,a2.2,hj.1.2,hj.2⟩,k _ G1 H1 I1 f1 (zo3 i l _)⟩
  ·cases h2
 ·cases h2
noncomputable def zks (lt:Int->Int->Bool)(ns:List Int):Int:=ns.getD (argBest (fun i j=>lt (ns.getD i 0) (ns.getD j 0)) (ns.length-1)) 0
noncomputable def rBest (K:W.Frag)(lt:Int->Int->Bool):List V->Hp->VK->Prop:=fun xs H Q=>∃(p:Addr) (ns:List Int),xs=[.ref p]/\ns≠[]/\(SqL K H p (ns.map V.int)\/SqT K H p (ns.map V.int))/\Q (.int (zks lt ns)) H
theorem zqf (hc:X.calm=true):zhw X (.builtin "max") (rBest X.K fun i j=>decide (i>j)):=by
 intro pins s σ H xs us Q I r h
 obtain⟨p,ns,rfl,ne,hq,q⟩:=h
 obtain⟨u,rfl,ru⟩:=zkI r
 cases ru
 refine call_max_walk (zjF (A:=X.A.in1) (I.ok.hd hc) I hq fun its s₂ St rv W st hfp fin=>?_)
 have hl:=rv.length
 rw[List.length_map]at hl
 have hp:0<its.length:=by rw[<-hl];exact List.length_pos_iff.mpr ne
 refine⟨_,_,_,_,_,_,_,rfl,W,st,hfp,hp,CmpOf.ints_gt (fun i=>ns.getD i 0) (fun i v e=>zhF rv e),fun v h' tk hP hk=>?_⟩
 obtain⟨t,rfl⟩:=zhF rv hP
 refine⟨.int (zks _ ns),H,fin h' tk hk,⟨t,?_⟩,q⟩
 unfold zks
 rw[hl]
theorem zqy (hc:X.calm=true):zhw X (.builtin "min") (rBest X.K fun i j=>decide (i<j)):=by
 intro pins s σ H xs us Q I r h
 obtain⟨p,ns,rfl,ne,hq,q⟩:=h
 obtain⟨u,rfl,ru⟩:=zkI r
 cases ru
 refine call_min_walk (zjF (A:=X.A.in1) (I.ok.hd hc) I hq fun its s₂ St rv W st hfp fin=>?_)
 have hl:=rv.length
 rw[List.length_map]at hl
 have hp:0<its.length:=by rw[<-hl];exact List.length_pos_iff.mpr ne
 refine⟨_,_,_,_,_,_,_,rfl,W,st,hfp,hp,CmpOf.ints_lt (fun i=>ns.getD i 0) (fun i v e=>zhF rv e),fun v h' tk hP hk=>?_⟩
 obtain⟨t,rfl⟩:=zhF rv hP
 refine⟨.int (zks _ ns),H,fin h' tk hk,⟨t,?_⟩,q⟩
 unfold zks
 rw[hl]
noncomputable def zqK (lt:Int->Int->Bool):List D->Option D
 |[d]=>(zbj [d]).bind fun ds=>(zbz ds).bind fun ns=>if ns.isEmpty then none else some (.int (zks lt ns))
 |_=>none
theorem zql (lt:Int->Int->Bool):VC X (rBest X.K lt) (zqK lt):=by
 intro B G H σ ρ xs ds d Q I r hf k
 match ds,hf with
 |[a],hf=>
  obtain⟨es,e1,hf⟩:=zah hf
  obtain⟨ns,e2,hf⟩:=zah hf
  split at hf
  ·cases hf
  ·rename_i ne
   cases hf
   obtain⟨x,rfl,ra⟩:=r.one
   obtain⟨p,ys,rfl,hq,ry⟩:=zjz I ra e1
   rw[zcI e2]at ry
   rw[RepL.ints_eq ry]at hq
   exact⟨p,ns,rfl,fun z=>ne (by rw[z];rfl),hq,k G H _ I (Fz.refl G) rfl⟩
 |[],hf=>cases hf
 |_::_::_,hf=>cases hf
noncomputable def zkM:List D->Option D:=zqK fun i j=>decide (i>j)
noncomputable def zgS:List D->Option D:=zqK fun i j=>decide (i<j)
theorem zrp (hc:X.calm=true)(ml:X.mg "max"=none)(ha:SA X [e] ma)(hg:autoParam (Gl X "max") zu2._auto_1)(he:autoParam (starEach [e] X.env=(false,eval e X.env)::starEach [] X.env) zu2._auto_1):SE X (.Call (.Name "max" p) [e] [] pos) (mC zkM ma):=
 ze5 (zqf hc) (zql _) (by decide+kernel) ml ha hg (by decide) (by decide) he rfl
theorem zme (hc:X.calm=true)(ml:X.mg "min"=none)(ha:SA X [e] ma)(hg:autoParam (Gl X "min") zu2._auto_1)(he:autoParam (starEach [e] X.env=(false,eval e X.env)::starEach [] X.env) zu2._auto_1):SE X (.Call (.Name "min" p) [e] [] pos) (mC zgS ma):=
 ze5 (zqy hc) (zql _) (by decide+kernel) ml ha hg (by decide) (by decide) he rfl
noncomputable def oRep (ma mb:ME):MO:=fun ρ=>(ma ρ).bind fun p=>(mb p.2).bind fun q=>match p.1,q.1 with
 | .lst xs,.int k=>if zdK k&&decide (xs.length*k.toNat<=16777216)then some ((List.replicate k.toNat xs).flatten,q.2)else none
 |_,_=>none
theorem RepL.times (h:RepL K G xs ds):∀n:Nat,RepL K G (List.replicate n xs).flatten (List.replicate n ds).flatten
 |0=>RepL.nil
 |n+1=>by
  rw[List.replicate_succ,List.flatten_cons,List.replicate_succ,List.flatten_cons]
  exact h.append (h.times n)
theorem so_rep {ma mb:ME}(ha:SE X a ma)(hb:SE X b mb):SO X (.BinOp a .Mult b pos) (oRep ma mb):=by
 obtain⟨ta,pa,sa⟩:=ha
 obtain⟨tb,pb,sb⟩:=hb
 refine⟨_,pe_op op_rep pa pb,fun B G H σ ρ d ρ' Q I hm k=>?_⟩
 obtain⟨⟨x,ρ1⟩,e1,hm⟩:=zah hm
 obtain⟨⟨y,ρ2⟩,e2,hm⟩:=zah hm
 refine sa B G H σ ρ x ρ1 _ I e1 fun G1 H1 v I1 f1 r1=>sb B G1 H1 σ ρ1 y ρ2 _ I1 e2 fun G2 H2 u I2 f2 r2=>?_
 dsimp only at hm
 split at hm
 ·rename_i xs n _
  split at hm
  ·rename_i hs
   cases hm
   simp only[Bool.and_eq_true,decide_eq_true_eq]at hs
   cases(show u=V.int n from r2)
   obtain⟨l,ys,rfl,hl,r⟩:=I2.lst (r1.mono f2)
   have a1:=zkD hs.1
   refine⟨l,n,ys,rfl,rfl,hl,by lia,by lia,by rw[r.length,sizeLine_eq];exact hs.2,fun p hp=>?_⟩
   obtain⟨I3,g3,h3,b3,n3⟩:=I2.newO hp (List.replicate n.toNat ys).flatten
   exact k G2 _ p _ I3 (f1.trans f2) g3 h3 (r.times _) b3 n3
  ·cases hm
 ·cases hm
noncomputable def flV:D->Option V
 | .non=>some .non
 | .bl b=>some (.bl b)
 | .int i=>some (.int i)
 | .str x=>some (.str x)
 |_=>none
noncomputable def zpk:List D->Option (List V)
 |[]=>some []
 |d::ds=>(flV d).bind fun v=>(zpk ds).map (v:: ·)
theorem flV_ok {x v:V}{d:D}(r:RepD K G x d)(e:flV d=some v):x=v/\zkX v=true:=by
 cases d<;>simp only[flV]at e<;>cases e<;>exact⟨r,rfl⟩
theorem zot:∀{ys xs:List V} {ds:List D},RepL K G ys ds->zpk ds=some xs->ys=xs/\xs.all zkX=true
 |ys,xs,[],r,e=>by cases e;cases(show ys=[]from r);exact⟨rfl,rfl⟩
 |ys,xs,d::ds,r,e=>by
  obtain⟨y,zs,rfl,ry,rz⟩:=r
  obtain⟨v,e1,e⟩:=zah e
  obtain⟨vs,e2,rfl⟩:=zau e
  obtain⟨rfl,f1⟩:=flV_ok ry e1
  obtain⟨rfl,f2⟩:=zot rz e2
  exact⟨rfl,by rw[List.all_cons,f1,f2];rfl⟩
noncomputable def dInB (neg:Bool)(a b:D):Option D:=(flV a).bind fun x=>(zbj [b]).bind fun ds=>(zpk ds).map fun xs=> .bl (if neg then !inV x xs else inV x xs)
noncomputable def dIn:D->D->Option D:=dInB false
noncomputable def zpU:D->D->Option D:=dInB true
theorem v2_in (neg:Bool):V2 X (rIn X.K neg) (dInB neg):=by
 intro B G H σ ρ x y a b d Q I ra rb hf k
 obtain⟨v,e1,hf⟩:=zah hf
 obtain⟨ds,e2,hf⟩:=zah hf
 obtain⟨xs,e3,rfl⟩:=zau hf
 obtain⟨rfl,f1⟩:=flV_ok ra e1
 obtain⟨p,ys,rfl,hq,ry⟩:=zjz I rb e2
 obtain⟨rfl,f2⟩:=zot ry e3
 exact⟨p,ys,rfl,hq,f1,f2,k G H _ I (Fz.refl G) rfl⟩
theorem se_in {ma mb:ME}(ha:SE X a ma)(hb:SE X b mb)(hm:autoParam (behindInMarks .In b=false) zu2._auto_1):SE X (.Compare a [.In] [b] pos) (m2 dIn ma mb):=zm1 zqe (v2_in false) ha hb hm
theorem bl_in (neg:Bool):∀x y d,dInB neg x y=some d->∃t,d= .bl t:=by
 intro x y d hf
 obtain⟨v,e1,hf⟩:=zah hf
 obtain⟨ds,e2,hf⟩:=zah hf
 obtain⟨xs,e3,rfl⟩:=zau hf
 exact⟨_,rfl⟩
theorem st_notIn {ma mb:ME}(ha:SE X a ma)(hb:SE X b mb)(hm:autoParam (behindInMarks .NotIn b=false) zu2._auto_1):STt X (.Compare a [.NotIn] [b] pos) (tTru (m2 zpU ma mb)):=zi3 zmW (v2_in true) (bl_in true) ha hb hm
end M
namespace M
open L2 PySem PySem.Spec
open PyProof.Rows hiding St
open Sem (wp)
variable {b N i k:Nat} {a it l:Addr} {t:Bool} {h h':Heap} {Q:Value->Shared->Prop} {xs ys:Array Value}
theorem nin2 {b x y z:Nat}(h:b∈[x,y])(h1:x≠z)(h2:y≠z):b≠z:=by
 simp at h
 rcases h with rfl|rfl<;>assumption
theorem nA {N a b:Nat}(h:a≠b):N+a≠N+b:=fun e=>h (Nat.add_left_cancel e)
theorem nB (h:0≠b):N≠N+b:=fun e=>h (Nat.add_left_cancel (show N+0=N+b from e))
theorem nC (h:b≠0):N+b≠N:=fun e=>h (Nat.add_left_cancel (show N+b=N+0 from e))
theorem nL {a N b:Nat}(h:a<N):a≠N+b:=Nat.ne_of_lt (Nat.lt_of_lt_of_le h (Nat.le_add_right _ _))
theorem ne_ {a b:Nat}(h:a≠b):a≠b:=h
local macro_rules | `(tactic| ac_rfl) => `(tactic| first | exact M.nA (by decide) | exact M.nB (by decide) | exact M.nC (by decide) | exact M.nL (by assumption) | exact Nat.ne_of_lt (by assumption) | lia)
noncomputable def SrcIt:Bool->Heap->Addr->Addr->Nat->Prop
 |true,h,it,a,i=>h.IsTupleIter it a i
 |false,h,it,a,i=>h.IsListIter it a i
noncomputable def SrcH:Bool->Heap->Addr->Array Value->Prop
 |true,h,a,its=>h.IsTuple a its
 |false,h,a,its=>h.IsList a its
theorem SrcIt.at (x:SrcIt t h it a i)(e:∀o,h.get? it=some o->h'.get? it=some o):SrcIt t h' it a i:=by
 cases t
 ·exact Heap.IsListIter.at x e
 ·exact Heap.IsTupleIter.at x e
theorem SrcH.at {is:Array Value}(x:SrcH t h a is)(e:∀o,h.get? a=some o->h'.get? a=some o):SrcH t h' a is:=by
 cases t
 ·exact Heap.IsList.at x e
 ·obtain⟨o,ho,r⟩:=x;exact⟨o,e _ ho,r⟩
theorem SrcIt.obj (x:SrcIt t h it a i):∃o,h.get? it=some o/\∀v,o.data≠ .cell v:=by
 cases t<;>(obtain⟨o,e,c,d⟩:=x;exact⟨o,e,fun v z=>by rw[d]at z;cases z⟩)
theorem SrcH.lt {is:Array Value}(x:SrcH t h a is):a<h.objs.size:=by
 cases t<;>(obtain⟨o,e,_⟩:=x;exact Heap.lt_size e)
section
variable {prog:Program} {w:World} {A:Around} {E:Value->Shared->Prop} {s:Shared}
theorem zoi {items}(hit:s.heap.IsTupleIter it l i)(hl:s.heap.IsTuple l items)
  (k : (∃ x, items[i]? = some x /\ ∀ h', h'.IsTupleIter it l (i + 1) -> Heap.SameBut it s.heap h' -> Q x { s with heap := h' }) \/
   (items[i]? =none/\A.handled=none/\∀h' e,Heap.ExtBut it s.heap h'->(∃o,h'.get? e=some o/\o.cls= .type "StopIteration")->E (.ref e) {s with heap:=h'})):
  wpAny (model prog w) A (Builtin.SmallTypes.nextOf (.ref it)) Q E s:=by
 obtain⟨o,ho,hc,hd⟩:=id hit
 obtain⟨ol,hol,-,nl,hdl⟩:=hl
 have ne:¬((Value.ref l==Value.none)=true):=Bool.false_ne_true
 unfold Builtin.SmallTypes.nextOf
 refine wpAny_bind (wpAny_callSpecial?_slot (name:=Str.ofString "__next__") hit.typeIs slot_tupleiter_next (wpAny_call_entry slot_tupleiter_next hit.typeIs entry_tupleiter_next ?_ (args_tupleiter_next _)))
 refine(?_:wpAny _ _ (field (.ref it) 0>>=_) _ _ s)
 refine wpAny_bind (wpAny_field ho hd (x:= .ref l) rfl (?_:wpAny _ _ (if(Value.ref l==Value.none)=true then _ else _) _ _ s))
 rw[if_neg ne]
 refine(?_:wpAny _ _ (field (.ref it) 1>>=_) _ _ s)
 refine wpAny_bind (wpAny_field ho hd (x:= .int i 0) rfl (?_:wpAny _ _ (seqItems? (.ref l)>>=_) _ _ s))
 refine wpAny_bind (wpAny_seqItems hol hdl ?_)
 rcases k with⟨x,hx,k⟩|⟨hx,hh,k⟩<;>simp only[Int.toNat_natCast,hx]
 ·have upd:∀h':Heap,h'.get? it=some (o.mapFields fun a=>a.setIfInBounds 1 (rawInt (((i:Nat):Int)+1)))->h'.IsTupleIter it l (i+1):=fun h' e=>⟨_,e,(Obj.cls_mapFields ..).trans hc,by rw[Obj.data_mapFields hd];simp[rawInt]⟩
  refine wpAny_bind (wpAny_setField ho hd (by simp) (wpAny_pure ⟨x,rfl,wpAny_pure (k _ ?_ (Heap.SameBut.update ..))⟩))
  refine⟨_,Heap.get?_update_self _ ho (Obj.isFreed_of_fields (Obj.data_mapFields hd _)),(Obj.cls_mapFields ..).trans hc,?_⟩
  rw[Obj.data_mapFields hd]
  simp[rawInt]
 ·refine wpAny_bind (wpAny_rule (wpAny_bind (wpAny_setField ho hd (by simp) (?_:wpAny _ _ (newExc (.type "StopIteration") []>>=_) _ _ _))))
  refine wpAny_bind ?_
  simp only[newExc,newTuple]
  refine wpAny_bind (wpAny_newObj_type (wpAny_bind (m:=firstArgMember _ _) (wpAny_of_eq (a:=Value.none) (by first|rfl|(simp only[firstArgMember];rfl)) (wpAny_newObj_type ?_ (by size_fits)))) (by size_fits))
  simp only[raiseNew]
  refine wpAny_bind (wpAny_handled ?_)
  first|rw[show A.in1.handled=none from hh]|rw[hh]
  exact wpAny_bind (wpAny_pure (wpAny_throw (k _ _ (((Heap.SameBut.update ..).extBut.push _).push _) ⟨_,Heap.get?_push_size _ rfl,rfl⟩)))
theorem zbt (hh:A.handled=none)(it l:Addr)(hne:l≠it)(items:Array Value):Draws prog w A it [it,l] items.size (fun i v=>items[i]? =some v) (fun i h=>SrcIt t h it l i/\SrcH t h l items):=by
 cases t
 ·exact Draws.list hh it l hne items
 ·refine⟨fun _ _ st=>?_,fun _ _ _ st hk=>⟨SrcIt.at st.1 fun o e=>hk it (by simp) o e,SrcH.at st.2 fun o e=>hk l (by simp) o e⟩,fun i s Q E hi st hQ=>?_,fun s Q E st hE=>zoi st.1 st.2 (.inr ⟨by simp,hh,hE⟩)⟩
  ·obtain⟨o,e,-⟩:=SrcIt.obj st.1
   exact⟨o,e⟩
  ·exact zoi st.1 st.2 (.inl ⟨items[i],by simp[hi],fun h' a b=>hQ _ h' s.toks (by simp[hi]) ⟨a,SrcH.at st.2 fun o e=>(b.2 l hne).trans e⟩ b⟩)
noncomputable def srcO (t:Bool)(a:Addr):Obj:={cls:= .type (if t then "tuple_iterator" else "list_iterator"),data:= .fields #[.ref a,.int 0 0]}
theorem zix (e:h.get? it=some (srcO t a)):SrcIt t h it a 0:=by
 cases t<;>exact⟨_,e,rfl,rfl⟩
theorem zeB (t:Bool)(a:Addr):(srcO t a).isFreed=false:=by cases t<;>rfl
theorem zct {items}(hl:SrcH t s.heap a items)(hQ:Q (.ref s.heap.objs.size) {s with heap:=s.heap.push (srcO t a)}):
  wpAny (model prog w) A (pyIter (.ref a)) Q E s:=by
 cases t
 ·exact wpAny_pyIter_list hl hQ
 ·exact wpAny_pyIter_tuple hl hQ
noncomputable abbrev zed (h:Heap)(T:Addr)(a b c:Value):Prop:=h.get? T=some {cls:= .type "tuple",data:= .seq #[a,b,c]}
theorem zkq {T:Addr}{a b c x:Value}{Q:Unit->Shared->Prop}(hT:zed s.heap T a b c)
  (h:∀h',h'.get? T=some {cls:= .type "tuple",data:= .seq ((#[a,b,c]:Array Value).setIfInBounds k x)}->Heap.SameBut T s.heap h'->Q () {s with heap:=h'}):
  wpAny (model prog w) A (updateSeq T (·.setIfInBounds k x)) Q E s:=
 wpAny_updateSeq hT rfl (h _ (by rw[Heap.get?_update_self _ hT rfl];simp[Obj.mapSeq]) (Heap.SameBut.update ..))
section
variable {N a1 a2 a3:Nat} {n1 n2 n3:Nat} {P1 P2 P3:Nat->Value->Prop} {S1 S2 S3:Nat->Heap->Prop}
theorem zqQ {a b c:Value}(D1:Draws prog w A N [N,a1] n1 P1 S1)(D2:Draws prog w A (N+1) [N+1,a2] n2 P2 S2)(D3:Draws prog w A (N+2) [N+2,a3] n3 P3 S3)(l1:a1<N)(l2:a2<N)(l3:a3<N)
  (hz:IsZip s.heap (N+5) (N+3) (N+4) .none) (hTI:zed s.heap (N+3) (.ref N) (.ref (N+1)) (.ref (N+2))) (hTO:zed s.heap (N+4) a b c) (h1:S1 i s.heap) (h2:S2 i s.heap) (h3:S3 i s.heap) (i1:i<n1) (i2:i<n2) (i3:i<n3)
  (k : ∀ x y z h' tk, P1 i x -> P2 i y -> P3 i z -> IsZip h' (N + 5) (N + 3) (N + 4) (rawInt s.heap.objs.size) -> zed h' (N + 4) x y z -> S1 (i + 1) h' -> S2 (i + 1) h' -> S3 (i + 1) h' -> zed h' s.heap.objs.size x y z ->
   (∀c o,c≠N->c≠N+1->c≠N+2->c≠N+4->c≠N+5->s.heap.get? c=some o->h'.get? c=some o)->Q (.ref s.heap.objs.size) {s with heap:=h',toks:=tk}):
  wpAny (model prog w) A (Builtin.«zip.__next__» ⟨[.ref (N+5)],[]⟩) (fun fin s'=>∃v,fin= .done (.ret v)/\Q v s') E s:=by
 refine(?_:wpAny _ _ (field (.ref (N+5)) 2>>=_) _ _ _)
 refine wpAny_bind (wpAny_field hz rfl (x:= .bool false) rfl (?_:wpAny _ _ (field (.ref (N+5)) 3>>=_) _ _ _))
 refine wpAny_bind (wpAny_field hz rfl (x:= .ref (N+3)) rfl (wpAny_bind (wpAny_seqItems hTI rfl (?_:wpAny _ _ (Builtin.SmallTypes.ownedTupleIsFree (.ref (N+5))>>=_) _ _ _))))
 refine wpAny_bind ?_
 unfold Builtin.SmallTypes.ownedTupleIsFree
 refine wpAny_bind (wpAny_field hz rfl (x:= .none) rfl (wpAny_pure ?_))
 simp only[if_true]
 refine wpAny_bind (wpAny_rule (wpAny_bind (wpAny_field hz rfl (x:= .ref (N+4)) rfl (wpAny_bind (wpAny_setField_rec hz (by simp) fun g1 z1 s1=>wpAny_bind ?_)))))
 replace z1:IsZip g1 (N+5) (N+3) (N+4) .ellipsis:=z1
 simp only[List.zipIdx_cons,List.zipIdx_nil,List.forIn_cons,List.forIn_nil]
 refine wpAny_bind (wpAny_bind (wpAny_onRaise (?_:wpAny _ _ (Builtin.SmallTypes.nextOf (.ref N)>>=_) _ _ _)))
 have e1:S1 i g1:=D1.frame _ _ _ h1 fun b hb o e=>(s1.2 b (nin2 hb (by ac_rfl) (by ac_rfl))).trans e
 refine wpAny_bind (D1.item i _ _ _ i1 e1 fun x g2 t2 p1 f2 s2=>wpAny_pure ?_)
 have q2:zed g2 (N+4) a b c:=(s2.2 _ (ne_ (by ac_rfl))).trans ((s1.2 _ (ne_ (by ac_rfl))).trans hTO)
 refine wpAny_bind (wpAny_seqItems q2 rfl (wpAny_bind (zkq q2 fun g3 q3 s3=>wpAny_bind (wpAny_letGo (wpAny_pure ?_)))))
 replace q3:zed g3 (N+4) x b c:=q3
 have k3:∀d o,d≠N->d≠N+4->d≠N+5->s.heap.get? d=some o->g3.get? d=some o:=fun d o c1 c2 c3 e=>(s3.2 d c2).trans ((s2.2 d c1).trans ((s1.2 d c3).trans e))
 refine wpAny_bind (wpAny_bind (wpAny_onRaise (?_:wpAny _ _ (Builtin.SmallTypes.nextOf (.ref (N+1))>>=_) _ _ _)))
 have e3:S2 i g3:=D2.frame _ _ _ h2 fun b hb o e=>k3 b o (nin2 hb (by ac_rfl) (by ac_rfl)) (nin2 hb (by ac_rfl) (by ac_rfl)) (nin2 hb (by ac_rfl) (by ac_rfl)) e
 refine wpAny_bind (D2.item i _ _ _ i2 e3 fun y g4 t4 p2 f4 s4=>wpAny_pure ?_)
 have q4:zed g4 (N+4) x b c:=(s4.2 _ (ne_ (by ac_rfl))).trans q3
 refine wpAny_bind (wpAny_seqItems q4 rfl (wpAny_bind (zkq q4 fun g5 q5 s5=>wpAny_bind (wpAny_letGo (wpAny_pure ?_)))))
 replace q5:zed g5 (N+4) x y c:=q5
 refine wpAny_bind (wpAny_bind (wpAny_onRaise (?_:wpAny _ _ (Builtin.SmallTypes.nextOf (.ref (N+2))>>=_) _ _ _)))
 have e5:S3 i g5:=D3.frame _ _ _ h3 fun b hb o e=>(s5.2 b (nin2 hb (by ac_rfl) (by ac_rfl))).trans ((s4.2 b (nin2 hb (by ac_rfl) (by ac_rfl))).trans (k3 b o (nin2 hb (by ac_rfl) (by ac_rfl)) (nin2 hb (by ac_rfl) (by ac_rfl)) (nin2 hb (by ac_rfl) (by ac_rfl)) e))
 refine wpAny_bind (D3.item i _ _ _ i3 e5 fun z g6 t6 p3 f6 s6=>wpAny_pure ?_)
 have q6:zed g6 (N+4) x y c:=(s6.2 _ (ne_ (by ac_rfl))).trans q5
 refine wpAny_bind (wpAny_seqItems q6 rfl (wpAny_bind (zkq q6 fun g7 q7 s7=>wpAny_bind (wpAny_letGo (wpAny_pure (wpAny_pure ?_))))))
 replace q7:zed g7 (N+4) x y z:=q7
 have sz:g7.objs.size=s.heap.objs.size:=by rw[s7.1,s6.1,s5.1,s4.1,s3.1,s2.1,s1.1]
 have z7:IsZip g7 (N+5) (N+3) (N+4) .ellipsis:=(s7.2 _ (ne_ (by ac_rfl))).trans ((s6.2 _ (ne_ (by ac_rfl))).trans ((s5.2 _ (ne_ (by ac_rfl))).trans ((s4.2 _ (ne_ (by ac_rfl))).trans ((s3.2 _ (ne_ (by ac_rfl))).trans ((s2.2 _ (ne_ (by ac_rfl))).trans z1)))))
 have zl:(N+5:Nat)<g7.objs.size:=Heap.lt_size z7
 have k7:∀d o,d≠N->d≠N+1->d≠N+2->d≠N+4->d≠N+5->s.heap.get? d=some o->g7.get? d=some o:=fun d o c1 c2 c3 c4 c5 e=>(s7.2 d c4).trans ((s6.2 d c3).trans ((s5.2 d c4).trans ((s4.2 d c2).trans (k3 d o c1 c4 c5 e))))
 have f7:S1 (i+1) g7:=D1.frame _ _ _ f2 fun b hb o e=>(s7.2 b (nin2 hb (by ac_rfl) (by ac_rfl))).trans ((s6.2 b (nin2 hb (by ac_rfl) (by ac_rfl))).trans ((s5.2 b (nin2 hb (by ac_rfl) (by ac_rfl))).trans ((s4.2 b (nin2 hb (by ac_rfl) (by ac_rfl))).trans ((s3.2 b (nin2 hb (by ac_rfl) (by ac_rfl))).trans e))))
 have f7':S2 (i+1) g7:=D2.frame _ _ _ f4 fun b hb o e=>(s7.2 b (nin2 hb (by ac_rfl) (by ac_rfl))).trans ((s6.2 b (nin2 hb (by ac_rfl) (by ac_rfl))).trans ((s5.2 b (nin2 hb (by ac_rfl) (by ac_rfl))).trans e))
 have f7'':S3 (i+1) g7:=D3.frame _ _ _ f6 fun b hb o e=>(s7.2 b (nin2 hb (by ac_rfl) (by ac_rfl))).trans e
 refine wpAny_bind (wpAny_seqItems q7 rfl (wpAny_bind (wpAny_newTuple (?_:wpAny _ _ (Builtin.SmallTypes.ownedTupleHandOut (.ref (N+5)) (.ref g7.objs.size)>>=_) _ _ _))))
 refine wpAny_bind ?_
 unfold Builtin.SmallTypes.ownedTupleHandOut
 refine wpAny_bind (wpAny_setField_rec (show IsZip (g7.push {cls:= .type "tuple",data:= .seq #[x,y,z]}) (N+5) (N+3) (N+4) .ellipsis from Heap.get?_push_of_some _ z7) (by simp) fun g9 z9 s9=>?_)
 replace z9:IsZip g9 (N+5) (N+3) (N+4) (rawInt g7.objs.size):=z9
 refine wpAny_setField_rec z9 (by simp) fun g8 z8 s8=>wpAny_pure ⟨_,rfl,?_⟩
 replace z8:IsZip g8 (N+5) (N+3) (N+4) (rawInt g7.objs.size):=z8
 have up:∀c o,c≠N+5->g7.get? c=some o->g8.get? c=some o:=fun c o c1 e=>(s8.2 c c1).trans ((s9.2 c c1).trans (Heap.get?_push_of_some _ e))
 have T8:zed g8 g7.objs.size x y z:=(s8.2 _ (ne_ (by ac_rfl))).trans ((s9.2 _ (ne_ (by ac_rfl))).trans (Heap.get?_push_size _ rfl))
 rw[sz]at z8 T8
 refine(?_:Q (.ref g7.objs.size) _)
 rw[sz]
 exact k x y z g8 _ p1 p2 p3 z8 (up _ _ (ne_ (by ac_rfl)) q7) (D1.frame _ _ _ f7 fun b hb o e=>up b o (nin2 hb (by ac_rfl) (by ac_rfl)) e) (D2.frame _ _ _ f7' fun b hb o e=>up b o (nin2 hb (by ac_rfl) (by ac_rfl)) e) (D3.frame _ _ _ f7'' fun b hb o e=>up b o (nin2 hb (by ac_rfl) (by ac_rfl)) e) T8 fun c o c1 c2 c3 c4 c5 e=>up c o c5 (k7 c o c1 c2 c3 c4 c5 e)
theorem zip3_end {a b c:Value}{Q:Fin->Shared->Prop}(D1:Draws prog w A N [N,a1] n1 P1 S1)(D2:Draws prog w A (N+1) [N+1,a2] n2 P2 S2)(D3:Draws prog w A (N+2) [N+2,a3] n3 P3 S3)(l1:a1<N)(l2:a2<N)(l3:a3<N)
  (hz:IsZip s.heap (N+5) (N+3) (N+4) .none) (hTI:zed s.heap (N+3) (.ref N) (.ref (N+1)) (.ref (N+2))) (hTO:zed s.heap (N+4) a b c) (h1:S1 i s.heap) (h2:S2 i s.heap) (h3:S3 i s.heap) (hi:i=n1\/(i<n1/\(i=n2\/(i<n2/\i=n3))))
  (k:∀h' e tk,(∀c o,c≠N->c≠N+1->c≠N+2->c≠N+4->c≠N+5->s.heap.get? c=some o->h'.get? c=some o)->(∃o,h'.get? e=some o/\o.cls= .type "StopIteration")->E (.ref e) {s with heap:=h',toks:=tk}):
  wpAny (model prog w) A (Builtin.«zip.__next__» ⟨[.ref (N+5)],[]⟩) Q E s:=by
 refine(?_:wpAny _ _ (field (.ref (N+5)) 2>>=_) _ _ _)
 refine wpAny_bind (wpAny_field hz rfl (x:= .bool false) rfl (?_:wpAny _ _ (field (.ref (N+5)) 3>>=_) _ _ _))
 refine wpAny_bind (wpAny_field hz rfl (x:= .ref (N+3)) rfl (wpAny_bind (wpAny_seqItems hTI rfl (?_:wpAny _ _ (Builtin.SmallTypes.ownedTupleIsFree (.ref (N+5))>>=_) _ _ _))))
 refine wpAny_bind ?_
 unfold Builtin.SmallTypes.ownedTupleIsFree
 refine wpAny_bind (wpAny_field hz rfl (x:= .none) rfl (wpAny_pure ?_))
 simp only[if_true]
 refine wpAny_bind (wpAny_rule (wpAny_bind (wpAny_field hz rfl (x:= .ref (N+4)) rfl (wpAny_bind (wpAny_setField_rec hz (by simp) fun g1 z1 s1=>wpAny_bind ?_)))))
 replace z1:IsZip g1 (N+5) (N+3) (N+4) .ellipsis:=z1
 simp only[List.zipIdx_cons,List.zipIdx_nil,List.forIn_cons,List.forIn_nil]
 refine wpAny_bind (wpAny_bind (wpAny_onRaise (?_:wpAny _ _ (Builtin.SmallTypes.nextOf (.ref N)>>=_) _ _ _)))
 have e1:S1 i g1:=D1.frame _ _ _ h1 fun b hb o e=>(s1.2 b (nin2 hb (by ac_rfl) (by ac_rfl))).trans e
 rcases hi with rfl|⟨i1,hi⟩
 ·refine wpAny_bind (D1.done _ _ _ e1 fun g2 e x2 he=>?_)
  obtain⟨oe,hoe,hce⟩:=he
  have z2:IsZip g2 (N+5) (N+3) (N+4) .ellipsis:=x2 _ _ (ne_ (by ac_rfl)) z1
  have hez:e≠N+5:=fun x=>by subst x;rw[z2]at hoe;cases hoe;simp at hce
  exact wpAny_setField_rec z2 (by simp) fun g3 _ s3=>k g3 e _ (fun c o c1 c2 c3 c4 c5 x=>(s3.2 c c5).trans (x2 c o c1 ((s1.2 c c5).trans x))) ⟨oe,(s3.2 _ hez).trans hoe,hce⟩
 refine wpAny_bind (D1.item i _ _ _ i1 e1 fun x g2 t2 p1 f2 s2=>wpAny_pure ?_)
 have q2:zed g2 (N+4) a b c:=(s2.2 _ (ne_ (by ac_rfl))).trans ((s1.2 _ (ne_ (by ac_rfl))).trans hTO)
 refine wpAny_bind (wpAny_seqItems q2 rfl (wpAny_bind (zkq q2 fun g3 q3 s3=>wpAny_bind (wpAny_letGo (wpAny_pure ?_)))))
 replace q3:zed g3 (N+4) x b c:=q3
 have k3:∀d o,d≠N->d≠N+4->d≠N+5->s.heap.get? d=some o->g3.get? d=some o:=fun d o c1 c2 c3 e=>(s3.2 d c2).trans ((s2.2 d c1).trans ((s1.2 d c3).trans e))
 have z3:IsZip g3 (N+5) (N+3) (N+4) .ellipsis:=(s3.2 _ (ne_ (by ac_rfl))).trans ((s2.2 _ (ne_ (by ac_rfl))).trans z1)
 refine wpAny_bind (wpAny_bind (wpAny_onRaise (?_:wpAny _ _ (Builtin.SmallTypes.nextOf (.ref (N+1))>>=_) _ _ _)))
 have e3:S2 i g3:=D2.frame _ _ _ h2 fun b hb o e=>k3 b o (nin2 hb (by ac_rfl) (by ac_rfl)) (nin2 hb (by ac_rfl) (by ac_rfl)) (nin2 hb (by ac_rfl) (by ac_rfl)) e
 rcases hi with rfl|⟨i2,rfl⟩
 ·refine wpAny_bind (D2.done _ _ _ e3 fun g4 e x4 he=>?_)
  obtain⟨oe,hoe,hce⟩:=he
  have z4:IsZip g4 (N+5) (N+3) (N+4) .ellipsis:=x4 _ _ (ne_ (by ac_rfl)) z3
  have hez:e≠N+5:=fun x=>by subst x;rw[z4]at hoe;cases hoe;simp at hce
  exact wpAny_setField_rec z4 (by simp) fun g5 _ s5=>k g5 e _ (fun c o c1 c2 c3 c4 c5 x=>(s5.2 c c5).trans (x4 c o c2 (k3 c o c1 c4 c5 x))) ⟨oe,(s5.2 _ hez).trans hoe,hce⟩
 refine wpAny_bind (D2.item i _ _ _ i2 e3 fun y g4 t4 p2 f4 s4=>wpAny_pure ?_)
 have q4:zed g4 (N+4) x b c:=(s4.2 _ (ne_ (by ac_rfl))).trans q3
 refine wpAny_bind (wpAny_seqItems q4 rfl (wpAny_bind (zkq q4 fun g5 q5 s5=>wpAny_bind (wpAny_letGo (wpAny_pure ?_)))))
 have z5:IsZip g5 (N+5) (N+3) (N+4) .ellipsis:=(s5.2 _ (ne_ (by ac_rfl))).trans ((s4.2 _ (ne_ (by ac_rfl))).trans z3)
 refine wpAny_bind (wpAny_bind (wpAny_onRaise (?_:wpAny _ _ (Builtin.SmallTypes.nextOf (.ref (N+2))>>=_) _ _ _)))
 have e5:S3 i g5:=D3.frame _ _ _ h3 fun b hb o e=>(s5.2 b (nin2 hb (by ac_rfl) (by ac_rfl))).trans ((s4.2 b (nin2 hb (by ac_rfl) (by ac_rfl))).trans (k3 b o (nin2 hb (by ac_rfl) (by ac_rfl)) (nin2 hb (by ac_rfl) (by ac_rfl)) (nin2 hb (by ac_rfl) (by ac_rfl)) e))
 refine wpAny_bind (D3.done _ _ _ e5 fun g6 e x6 he=>?_)
 obtain⟨oe,hoe,hce⟩:=he
 have z6:IsZip g6 (N+5) (N+3) (N+4) .ellipsis:=x6 _ _ (ne_ (by ac_rfl)) z5
 have hez:e≠N+5:=fun x=>by subst x;rw[z6]at hoe;cases hoe;simp at hce
 exact wpAny_setField_rec z6 (by simp) fun g7 _ s7=>k g7 e _ (fun c o c1 c2 c3 c4 c5 x=>(s7.2 c c5).trans (x6 c o c3 ((s5.2 c c4).trans ((s4.2 c c2).trans (k3 c o c1 c4 c5 x))))) ⟨oe,(s7.2 _ hez).trans hoe,hce⟩
end
end
noncomputable abbrev tup_ (vs:Array Value):Obj:={cls:= .type "tuple",data:= .seq vs}
noncomputable abbrev zip_ (ti to:Addr):Obj:={cls:= .type "zip",data:= .fields #[.none,.bool false,.bool false,.ref ti,.ref to]}
noncomputable abbrev z2a (h:Heap)(t1 t2:Bool)(l1 l2:Addr):Heap:=(h.push (srcO t1 l1)).push (srcO t2 l2)
noncomputable abbrev z2b (h:Heap)(t1 t2:Bool)(l1 l2:Addr):Heap:=(z2a h t1 t2 l1 l2).push (tup_ #[.ref h.objs.size,.ref (h.push (srcO t1 l1)).objs.size])
noncomputable abbrev z2c (h:Heap)(t1 t2:Bool)(l1 l2:Addr):Heap:=(z2b h t1 t2 l1 l2).push (tup_ #[.none,.none])
noncomputable abbrev z2d (h:Heap)(t1 t2:Bool)(l1 l2:Addr):Heap:=(z2c h t1 t2 l1 l2).push (zip_ (z2a h t1 t2 l1 l2).objs.size (z2b h t1 t2 l1 l2).objs.size)
theorem zpl (t1 t2:Bool)(l1 l2:Addr)(xs ys:Array Value):Meets (Builtin.«zip.__new__» ⟨[.type "zip",.ref l1,.ref l2],[]⟩) (fun _ R s=>SrcH t1 s.heap l1 xs/\SrcH t2 s.heap l2 ys/\
   R (.ok (.ret (.ref (z2c s.heap t1 t2 l1 l2).objs.size))) {s with heap:=z2d s.heap t1 t2 l1 l2}):=
 .of_wp fun prog w A R s h=>by
  obtain⟨hp,g,d,tk,os⟩:=s
  obtain⟨b1,b2,h⟩:=h
  have hsub:=sub_zip
  have L1:SrcH t1 (Shared.heap ⟨hp,g,d,tk,os⟩) l1 xs:=b1
  have L2:SrcH t2 (Shared.heap ⟨hp.push (srcO t1 l1),g,d,tk,os⟩) l2 ys:=SrcH.at b2 fun o e=>Heap.get?_push_of_some _ e
  wp_walk using zct L1,zct L2
  exact⟨_,rfl,h⟩
noncomputable abbrev z3a (h:Heap)(t1 t2 t3:Bool)(l1 l2 l3:Addr):Heap:=((h.push (srcO t1 l1)).push (srcO t2 l2)).push (srcO t3 l3)
noncomputable abbrev z3b (h:Heap)(t1 t2 t3:Bool)(l1 l2 l3:Addr):Heap:=(z3a h t1 t2 t3 l1 l2 l3).push (tup_ #[.ref h.objs.size,.ref (h.push (srcO t1 l1)).objs.size,.ref ((h.push (srcO t1 l1)).push (srcO t2 l2)).objs.size])
noncomputable abbrev z3c (h:Heap)(t1 t2 t3:Bool)(l1 l2 l3:Addr):Heap:=(z3b h t1 t2 t3 l1 l2 l3).push (tup_ #[.none,.none,.none])
noncomputable abbrev z3d (h:Heap)(t1 t2 t3:Bool)(l1 l2 l3:Addr):Heap:=(z3c h t1 t2 t3 l1 l2 l3).push (zip_ (z3a h t1 t2 t3 l1 l2 l3).objs.size (z3b h t1 t2 t3 l1 l2 l3).objs.size)
set_option maxHeartbeats 4000000 in
theorem zoS (t1 t2 t3:Bool)(l1 l2 l3:Addr)(xs ys zs:Array Value):Meets (Builtin.«zip.__new__» ⟨[.type "zip",.ref l1,.ref l2,.ref l3],[]⟩) (fun _ R s=>SrcH t1 s.heap l1 xs/\SrcH t2 s.heap l2 ys/\SrcH t3 s.heap l3 zs/\
   R (.ok (.ret (.ref (z3c s.heap t1 t2 t3 l1 l2 l3).objs.size))) {s with heap:=z3d s.heap t1 t2 t3 l1 l2 l3}):=
 .of_wp fun prog w A R s h=>by
  obtain⟨hp,g,d,tk,os⟩:=s
  obtain⟨b1,b2,b3,h⟩:=h
  have hsub:=sub_zip
  have L1:SrcH t1 (Shared.heap ⟨hp,g,d,tk,os⟩) l1 xs:=b1
  have L2:SrcH t2 (Shared.heap ⟨hp.push (srcO t1 l1),g,d,tk,os⟩) l2 ys:=SrcH.at b2 fun o e=>Heap.get?_push_of_some _ e
  have L3:SrcH t3 (Shared.heap ⟨(hp.push (srcO t1 l1)).push (srcO t2 l2),g,d,tk,os⟩) l3 zs:=SrcH.at b3 fun o e=>Heap.get?_push_of_some _ (Heap.get?_push_of_some _ e)
  wp_walk using zct L1,zct L2,zct L3
  exact⟨_,rfl,h⟩
theorem zlY (a b c:Value):checkTypeCall "zip" ⟨[a,b,c],[]⟩=pure ():=by kernel_rfl
theorem zm7 (a b c:Value):checkBuiltinCall "zip.__new__" ⟨[.type "zip",a,b,c],[]⟩=pure ():=by kernel_rfl
theorem zo8 (a b c d:Value):argsOk "object.__init__" ⟨[a,b,c,d],[]⟩:=by
 unfold argsOk;rw[signature?_of (id:="object.__init__") (n:=['_','_','t','i','n','i','_','_']) (o:=['t','c','e','j','b','o']) (by kernel_rfl) F.owner_object];kernel_rfl
section
variable {prog:Program} {w:World} {A:Around} {E:Value->Shared->Prop} {s:Shared}
theorem zp2 {t1 t2:Bool}{l1 l2:Addr}(h1:SrcH t1 s.heap l1 xs)(h2:SrcH t2 s.heap l2 ys)
  (k : ∀ h', IsZip h' (s.heap.objs.size + 4) (s.heap.objs.size + 2) (s.heap.objs.size + 3) .none -> IsPair h' (s.heap.objs.size + 2) (.ref s.heap.objs.size) (.ref (s.heap.objs.size + 1)) ->
   IsPair h' (s.heap.objs.size+3) .none .none->SrcIt t1 h' s.heap.objs.size l1 0->SrcIt t2 h' (s.heap.objs.size+1) l2 0->
   (∀c o,s.heap.get? c=some o->h'.get? c=some o)->Q (.ref (s.heap.objs.size+4)) {s with heap:=h'}):wpAny (model prog w) A (call (.type "zip") [.ref l1,.ref l2]) Q E s:=by
 refine callType_new F.called_zip (by decide) (F.typeCall_zip_2 _ _) (F.newCall_zip_2 _ _) (fun obj=>F.args_object_init_3 obj _ _) F.entry_zip_new (zpl t1 t2 l1 l2 xs ys) ⟨h1,h2,(?_:_/\_)⟩
 have y1:(s.heap.push (srcO t1 l1)).objs.size=s.heap.objs.size+1:=Heap.size_push ..
 have y2:(z2a s.heap t1 t2 l1 l2).objs.size=s.heap.objs.size+2:=by rw[Heap.size_push,y1]
 have y3:(z2b s.heap t1 t2 l1 l2).objs.size=s.heap.objs.size+3:=by rw[Heap.size_push,y2]
 have y4:(z2c s.heap t1 t2 l1 l2).objs.size=s.heap.objs.size+4:=by rw[Heap.size_push,y3]
 have g5:(z2d s.heap t1 t2 l1 l2).get? (z2c s.heap t1 t2 l1 l2).objs.size=some _:=Heap.get?_push_size _ rfl
 have g4:(z2d s.heap t1 t2 l1 l2).get? (z2b s.heap t1 t2 l1 l2).objs.size=some _:=Heap.get?_push_of_some _ (Heap.get?_push_size _ rfl)
 have g3:(z2d s.heap t1 t2 l1 l2).get? (z2a s.heap t1 t2 l1 l2).objs.size=some _:=Heap.get?_push_of_some _ (Heap.get?_push_of_some _ (Heap.get?_push_size _ rfl))
 have g2:(z2d s.heap t1 t2 l1 l2).get? (s.heap.push (srcO t1 l1)).objs.size=some (srcO t2 l2):=Heap.get?_push_of_some _ (Heap.get?_push_of_some _ (Heap.get?_push_of_some _ (Heap.get?_push_size _ (zeB ..))))
 have g1:(z2d s.heap t1 t2 l1 l2).get? s.heap.objs.size=some (srcO t1 l1):=Heap.get?_push_of_some _ (Heap.get?_push_of_some _ (Heap.get?_push_of_some _ (Heap.get?_push_of_some _ (Heap.get?_push_size _ (zeB ..)))))
 rw[y2,y3,y4]at g5
 rw[y1,y2]at g3
 rw[y3]at g4
 rw[y1]at g2
 rw[y4]
 exact⟨⟨_,g5,rfl⟩,k _ g5 g3 g4 (zix g1) (zix g2) fun c o x=>Heap.get?_push_of_some _ (Heap.get?_push_of_some _ (Heap.get?_push_of_some _ (Heap.get?_push_of_some _ (Heap.get?_push_of_some _ x))))⟩
theorem zqk {t1 t2 t3:Bool}{l1 l2 l3:Addr}{xs ys zs:Array Value}(h1:SrcH t1 s.heap l1 xs)(h2:SrcH t2 s.heap l2 ys)(h3:SrcH t3 s.heap l3 zs)
  (k : ∀ h', IsZip h' (s.heap.objs.size + 5) (s.heap.objs.size + 3) (s.heap.objs.size + 4) .none -> zed h' (s.heap.objs.size + 3) (.ref s.heap.objs.size) (.ref (s.heap.objs.size + 1)) (.ref (s.heap.objs.size + 2)) ->
   zed h' (s.heap.objs.size+4) .none .none .none->SrcIt t1 h' s.heap.objs.size l1 0->SrcIt t2 h' (s.heap.objs.size+1) l2 0->SrcIt t3 h' (s.heap.objs.size+2) l3 0->
   (∀c o,s.heap.get? c=some o->h'.get? c=some o)->Q (.ref (s.heap.objs.size+5)) {s with heap:=h'}):wpAny (model prog w) A (call (.type "zip") [.ref l1,.ref l2,.ref l3]) Q E s:=by
 refine callType_new F.called_zip (by decide) (zlY _ _ _) (zm7 _ _ _) (fun obj=>zo8 obj _ _ _) F.entry_zip_new (zoS t1 t2 t3 l1 l2 l3 xs ys zs) ⟨h1,h2,h3,(?_:_/\_)⟩
 have y1:(s.heap.push (srcO t1 l1)).objs.size=s.heap.objs.size+1:=Heap.size_push ..
 have y2:((s.heap.push (srcO t1 l1)).push (srcO t2 l2)).objs.size=s.heap.objs.size+2:=by rw[Heap.size_push,y1]
 have y3:(z3a s.heap t1 t2 t3 l1 l2 l3).objs.size=s.heap.objs.size+3:=by rw[Heap.size_push,y2]
 have y4:(z3b s.heap t1 t2 t3 l1 l2 l3).objs.size=s.heap.objs.size+4:=by rw[Heap.size_push,y3]
 have y5:(z3c s.heap t1 t2 t3 l1 l2 l3).objs.size=s.heap.objs.size+5:=by rw[Heap.size_push,y4]
 have g6:(z3d s.heap t1 t2 t3 l1 l2 l3).get? (z3c s.heap t1 t2 t3 l1 l2 l3).objs.size=some _:=Heap.get?_push_size _ rfl
 have g5:(z3d s.heap t1 t2 t3 l1 l2 l3).get? (z3b s.heap t1 t2 t3 l1 l2 l3).objs.size=some _:=Heap.get?_push_of_some _ (Heap.get?_push_size _ rfl)
 have g4:(z3d s.heap t1 t2 t3 l1 l2 l3).get? (z3a s.heap t1 t2 t3 l1 l2 l3).objs.size=some _:=Heap.get?_push_of_some _ (Heap.get?_push_of_some _ (Heap.get?_push_size _ rfl))
 have g3:(z3d s.heap t1 t2 t3 l1 l2 l3).get? ((s.heap.push (srcO t1 l1)).push (srcO t2 l2)).objs.size=some (srcO t3 l3):=Heap.get?_push_of_some _ (Heap.get?_push_of_some _ (Heap.get?_push_of_some _ (Heap.get?_push_size _ (zeB ..))))
 have g2:(z3d s.heap t1 t2 t3 l1 l2 l3).get? (s.heap.push (srcO t1 l1)).objs.size=some (srcO t2 l2):=Heap.get?_push_of_some _ (Heap.get?_push_of_some _ (Heap.get?_push_of_some _ (Heap.get?_push_of_some _ (Heap.get?_push_size _ (zeB ..)))))
 have g1:(z3d s.heap t1 t2 t3 l1 l2 l3).get? s.heap.objs.size=some (srcO t1 l1):=Heap.get?_push_of_some _ (Heap.get?_push_of_some _ (Heap.get?_push_of_some _ (Heap.get?_push_of_some _ (Heap.get?_push_of_some _ (Heap.get?_push_size _ (zeB ..))))))
 rw[y3,y4,y5]at g6
 rw[y1,y2,y3]at g4
 rw[y4]at g5
 rw[y2]at g3
 rw[y1]at g2
 rw[y5]
 exact⟨⟨_,g6,rfl⟩,k _ g6 g4 g5 (zix g1) (zix g2) (zix g3) fun c o x=>Heap.get?_push_of_some _ (Heap.get?_push_of_some _ (Heap.get?_push_of_some _ (Heap.get?_push_of_some _ (Heap.get?_push_of_some _ (Heap.get?_push_of_some _ x)))))⟩
noncomputable abbrev en_ (it:Addr):Obj:={cls:= .type "enumerate",data:= .fields #[.none,.bool false,.ref it,rawInt 0,.none,.none]}
theorem zoQ (t:Bool)(l:Addr)(o:Obj)(xs:Array Value):Meets (Builtin.«enumerate.__new__» ⟨[.type "enumerate",.ref l],[]⟩) (fun _ R s=>s.heap.get? l=some o/\SrcH t s.heap l xs/\
   R (.ok (.ret (.ref (s.heap.push (srcO t l)).objs.size))) {s with heap:=(s.heap.push (srcO t l)).push (en_ s.heap.objs.size)}):=
 .of_wp fun prog w A R s h=>by
  obtain⟨hp,g,d,tk,os⟩:=s
  obtain⟨hl,b,h⟩:=h
  have hsub:=sub_enumerate
  have hL:SrcH t (Shared.heap ⟨hp,g,d,tk,os⟩) l xs:=b
  wp_walk using AutoSeq1.wpAny_loadPart' hl
  refine wpAny_stack_any fun st=>wpAny_pure ?_
  split
  ·rename_i c _ _ _ _ _
   cases(c==Value.type "enumerate")<;>(wp_walk using AutoSeq1.wpAny_loadPart' hl,zct hL;exact⟨_,rfl,h⟩)
  ·wp_walk using AutoSeq1.wpAny_loadPart' hl,zct hL
   exact⟨_,rfl,h⟩
theorem zqx (h1:SrcH t s.heap l xs)
  (k:∀h',IsEnum h' (s.heap.objs.size+1) s.heap.objs.size 0 .none->SrcIt t h' s.heap.objs.size l 0->(∀b o,s.heap.get? b=some o->h'.get? b=some o)->Q (.ref (s.heap.objs.size+1)) {s with heap:=h'}):
  wpAny (model prog w) A (call (.type "enumerate") [.ref l]) Q E s:=by
 have⟨o,ho⟩:∃o,s.heap.get? l=some o:=by cases t<;>(obtain⟨o,e,-⟩:=h1;exact⟨o,e⟩)
 refine callType_new F.called_enumerate (by decide) (F.typeCall_enumerate_1 _) (F.newCall_enumerate_1 _) (fun obj=>F.args_object_init_2 obj _) F.entry_enumerate_new (zoQ t l o xs) ⟨ho,h1,(?_:_/\_)⟩
 have y1:(s.heap.push (srcO t l)).objs.size=s.heap.objs.size+1:=Heap.size_push ..
 have g2:((s.heap.push (srcO t l)).push (en_ s.heap.objs.size)).get? (s.heap.push (srcO t l)).objs.size=some _:=Heap.get?_push_size _ rfl
 have g1:((s.heap.push (srcO t l)).push (en_ s.heap.objs.size)).get? s.heap.objs.size=some (srcO t l):=Heap.get?_push_of_some _ (Heap.get?_push_size _ (zeB ..))
 rw[y1]at g2
 rw[y1]
 exact⟨⟨_,g2,rfl⟩,k _ g2 (zix g1) fun b o x=>Heap.get?_push_of_some _ (Heap.get?_push_of_some _ x)⟩
end
end M
namespace M
local macro_rules | `(tactic| ac_rfl) => `(tactic| first | exact M.nA (by decide) | exact M.nB (by decide) | exact M.nC (by decide) | exact M.nL (by assumption) | exact Nat.ne_of_lt (by assumption) | lia)
open L2 PySem PySem.Spec
open PyProof.Rows hiding St
open Sem (wp)
variable {t' ek:Nat} {h':Heap} {fp:List Addr} {vs xs:List V} {its:List Value} {t:Bool} {X:Cx} {pins:List (Addr×Obj)} {σ:St} {H:Hp} {s:Shared} {a:Expr} {K:W.Frag} {elts:List Expr} {ep p pos:Pos} {ta:TA} {es:List D} {ma:MA}
section
variable {X:Cx} {pins:List (Addr×Obj)} {σ:St} {H:Hp} {s:Shared}
theorem zmb (I:Inv X pins σ H s)(k:∀b o,b∉fp->s.heap.get? b=some o->h'.get? b=some o)(hf:∀b∈fp,FpOk X pins H b):Inv X pins σ H {s with heap:=h',toks:=t'}:=by
 have nit:∀b u,H b=some u->b∉fp:=fun b u e z=>by rw[(hf b z).1]at e;cases e
 refine I.step (g':=s.gens) (d':=s.drawn) (ch:=fp) (fun b hb=>?_) (fun b o _ _ hc e _=>k b o hc e) (fun b o _ _ hc e _=>⟨o.slots,k b o hc e⟩) (fun _ _ _ _ n=>n)
  (fun b o hc e=>⟨o,k b o hc e⟩) (fun _ _ e=>e) (fun _ _ _ e=>e) (fun b ps e=>e) (fun m hm=>?_) (fun b u e=>?_) I.bare
 ·obtain⟨f0,f1,f2,f3,f4,f5⟩:=hf b hb
  exact⟨f3,f1,f4,f5⟩
 ·obtain⟨o,es,ep,ho,r⟩:=hm
  exact⟨o,es,ep,k _ o (fun z=>(hf _ z).2.1 rfl) ho,r⟩
 ·refine(I.hok b u e).stay (fun c v hc q=>k c v ?_ q) (fun _ q=>q) (fun _ _ q=>q) fun _ _ _ q=>q
  rcases hc with z|z
  ·rw[z];exact nit b u e
  ·exact nit c _ z
theorem zni {t':Nat}{h':Heap}{fp:List Addr}(I:Inv X pins σ H s)(k:∀b o,b∉fp->s.heap.get? b=some o->h'.get? b=some o)(hf:∀b∈fp,FpOk X pins H b)(hl:∀b∈fp,b<s.heap.objs.size)
  (hT:h'.get? s.heap.objs.size=some (tup_ its.toArray)) (hz:vs.length<=sizeLine) (r:Vals vs its):Inv X pins σ (upd H s.heap.objs.size (.tup vs)) {s with heap:=h',toks:=t'}:=by
 have I1:=I.laid (t':=s.toks) (a:=s.heap.objs.size) (o:= .tup vs) (h':=s.heap.push (tup_ its.toArray)) (fun b u q=>Heap.get?_push_of_some _ q) (Nat.le_refl _) ⟨hz,its,r,L2.IsTupD.new _ _⟩
 refine zmb (s:={s with heap:=s.heap.push (tup_ its.toArray),toks:=s.toks}) (t':=t') (fp:=fp) I1 (fun b o hb e=>?_) fun b hb=>?_
 ·have e':(s.heap.push (tup_ its.toArray)).get? b=some o:=e
  rcases Heap.get?_push_cases e' with⟨rfl,rfl⟩|q
  ·exact hT
  ·exact k b o hb q
 ·obtain⟨f0,fr⟩:=hf b hb
  refine⟨?_,fr⟩
  rw[zar (Nat.ne_of_lt (hl b hb))]
  exact f0
end
noncomputable def SrcSq (t:Bool)(K:W.Frag)(H:Hp)(a:Addr)(xs:List V):Prop:=match t with
 |true=>SqT K H a xs
 |false=>SqL K H a xs
theorem SrcSq.heap {a:Addr}(I:Inv X pins σ H s)(h:SrcSq t X.K H a xs):∃its:List Value,Vals xs its/\SrcH t s.heap a its.toArray/\xs.length<=sizeLine:=by
 cases t
 ·obtain⟨its,r,p,z⟩:=I.list h
  exact⟨its,r,p.isList,z⟩
 ·obtain⟨its,r,p,z⟩:=I.tuple h
  exact⟨its,r,p,z⟩
theorem SrcSq.inj {a:Addr}{xs ys:List V}(I:Inv X pins σ H s)(h:SrcSq t X.K H a xs)(h':SrcSq t X.K H a ys):xs=ys:=by
 cases t
 ·exact I.list_inj h h'
 ·exact I.tuple_inj h h'
noncomputable def Itz2 (K:W.Frag)(t1:Bool)(a1:Addr)(t2:Bool)(a2:Addr)(n:Nat):It where
 go:=fun i H=>i<n/\∃xs ys,SrcSq t1 K H a1 xs/\SrcSq t2 K H a2 ys/\n=min xs.length ys.length
 yld:=fun i H x H'=>∃p x1 x2,H p=none/\H'=upd H p (.tup [x1,x2])/\x= .ref p/\∀xs ys,SrcSq t1 K H a1 xs->SrcSq t2 K H a2 ys->xs[i]? =some x1/\ys[i]? =some x2
 stop:=fun i H=>n<=i/\∃xs ys,SrcSq t1 K H a1 xs/\SrcSq t2 K H a2 ys/\n=min xs.length ys.length
theorem nin4 {c N:Nat}(h:c∉([N,N+1,N+2,N+3,N+4]:List Nat)):c≠N/\c≠N+1/\c≠N+3/\c≠N+4:=
 ⟨fun e=>h (e ▸ .head _),fun e=>h (e ▸ .tail _ (.head _)),fun e=>h (e ▸ .tail _ (.tail _ (.tail _ (.head _)))),fun e=>h (e ▸ .tail _ (.tail _ (.tail _ (.tail _ (.head _)))))⟩
theorem nin5 {c N:Nat}(h:c∉([N,N+1,N+2,N+3,N+4,N+5]:List Nat)):c≠N/\c≠N+1/\c≠N+2/\c≠N+4/\c≠N+5:=
 ⟨fun e=>h (e ▸ .head _),fun e=>h (e ▸ .tail _ (.head _)),fun e=>h (e ▸ .tail _ (.tail _ (.head _))),fun e=>h (e ▸ .tail _ (.tail _ (.tail _ (.tail _ (.head _))))),fun e=>h (e ▸ .tail _ (.tail _ (.tail _ (.tail _ (.tail _ (.head _))))))⟩
noncomputable def Itz3 (K:W.Frag)(t1:Bool)(a1:Addr)(t2:Bool)(a2:Addr)(t3:Bool)(a3:Addr)(n:Nat):It where
 go:=fun i H=>i<n/\∃xs ys zs,SrcSq t1 K H a1 xs/\SrcSq t2 K H a2 ys/\SrcSq t3 K H a3 zs/\n=min xs.length (min ys.length zs.length)
 yld:=fun i H x H'=>∃p x1 x2 x3,H p=none/\H'=upd H p (.tup [x1,x2,x3])/\x= .ref p/\∀xs ys zs,SrcSq t1 K H a1 xs->SrcSq t2 K H a2 ys->SrcSq t3 K H a3 zs->xs[i]? =some x1/\ys[i]? =some x2/\zs[i]? =some x3
 stop:=fun i H=>n<=i/\∃xs ys zs,SrcSq t1 K H a1 xs/\SrcSq t2 K H a2 ys/\SrcSq t3 K H a3 zs/\n=min xs.length (min ys.length zs.length)
theorem zpW {P:Program}{w:World}(t1:Bool)(a1:Nat)(t2:Bool)(a2:Nat)(t3:Bool)(a3:Nat)(n N:Nat)(l1:a1<N)(l2:a2<N)(l3:a3<N):
  Turn P w K (.Tuple elts ek ep) (Itz3 K t1 a1 t2 a2 t3 a3 n) ([N,N+1,N+2,N+3,N+4,N+5]:List Nat) (N+5:Nat)
   (fun i h=>i<=n/\IsZip h (N+5:Nat) (N+3:Nat) (N+4:Nat) .none/\zed h (N+3:Nat) (.ref N) (.ref (N+1:Nat)) (.ref (N+2:Nat))/\(∃a b c,zed h (N+4:Nat) a b c)/\SrcIt t1 h N a1 i/\SrcIt t2 h (N+1:Nat) a2 i/\SrcIt t3 h (N+2:Nat) a3 i) where
 mem:=by simp
 obj:=fun i h st b hb=>by
  obtain⟨-,h5,h3,⟨a,c,d,h4⟩,h0,h1,h2⟩:=st
  simp only[List.mem_cons,List.not_mem_nil,or_false]at hb
  rcases hb with rfl|rfl|rfl|rfl|rfl|rfl
  ·exact h0.obj
  ·exact h1.obj
  ·exact h2.obj
  ·exact⟨_,h3,fun v z=>by cases z⟩
  ·exact⟨_,h4,fun v z=>by cases z⟩
  ·exact⟨_,h5,fun v z=>by cases z⟩
 keep:=fun i h h' st k=>by
  obtain⟨hi,h5,h3,⟨a,c,d,h4⟩,h0,h1,h2⟩:=st
  exact⟨hi,k _ (by simp) _ h5,k _ (by simp) _ h3,⟨a,c,d,k _ (by simp) _ h4⟩,h0.at fun o e=>k _ (by simp) o e,h1.at fun o e=>k _ (by simp) o e,h2.at fun o e=>k _ (by simp) o e⟩
 item:=by
  intro X hP hw hK hc i pins s σ H E I hf st hg
  subst hP hw hK
  obtain⟨hi,h5,h3,⟨a,c,d,h4⟩,h0,h1,h2⟩:=st
  obtain⟨hn,xs,ys,zs,q1,q2,q3,en⟩:=hg
  obtain⟨us,ru,hu,zu⟩:=q1.heap I
  obtain⟨ws,rw',hw',zw⟩:=q2.heap I
  obtain⟨os,ro,ho',zo⟩:=q3.heap I
  have lu:=ru.length
  have lw:=rw'.length
  have lo:=ro.length
  have D1:=zbt (prog:=X.prog) (w:=X.w) (A:=X.A.in1) (t:=t1) (I.ok.hd hc) N a1 (ne_ (by ac_rfl)) us.toArray
  have D2:=zbt (prog:=X.prog) (w:=X.w) (A:=X.A.in1) (t:=t2) (I.ok.hd hc) (N+1) a2 (ne_ (by ac_rfl)) ws.toArray
  have D3:=zbt (prog:=X.prog) (w:=X.w) (A:=X.A.in1) (t:=t3) (I.ok.hd hc) (N+2) a3 (ne_ (by ac_rfl)) os.toArray
  have hT:s.TypeIs (.ref (N+5:Nat)) "zip":=⟨_,h5,rfl⟩
  unfold pyNext
  refine wpAny_bind (wpAny_attempt (wpAny_callSpecial?_slot (name:=Str.ofString "__next__") hT F.slot_zip_next (wpAny_call_entry F.slot_zip_next hT F.entry_zip_next
   (zqQ D1 D2 D3 l1 l2 l3 h5 h3 h4 ⟨h0,hu⟩ ⟨h1,hw'⟩ ⟨h2,ho'⟩ (by simp;lia) (by simp;lia) (by simp;lia) fun x y z h' tk p1 p2 p3 g5 g4 g0 g1 g2 gT kk=>wpAny_pure ?_) (F.args_zip_next_1 _))))
  obtain⟨x1,hx1⟩:∃x1,xs[i]? =some x1:=⟨xs[i]'(by lia),List.getElem?_eq_getElem _⟩
  obtain⟨x2,hx2⟩:∃x2,ys[i]? =some x2:=⟨ys[i]'(by lia),List.getElem?_eq_getElem _⟩
  obtain⟨x3,hx3⟩:∃x3,zs[i]? =some x3:=⟨zs[i]'(by lia),List.getElem?_eq_getElem _⟩
  obtain⟨u1,hu1,r1⟩:=ru.get hx1
  obtain⟨u2,hu2,r2⟩:=rw'.get hx2
  obtain⟨u3,hu3,r3⟩:=ro.get hx3
  have e1:u1=x:=by
   have:us[i]? =some x:=by simpa using p1
   rw[hu1]at this;cases this;rfl
  have e2:u2=y:=by
   have:ws[i]? =some y:=by simpa using p2
   rw[hu2]at this;cases this;rfl
  have e3:u3=z:=by
   have:os[i]? =some z:=by simpa using p3
   rw[hu3]at this;cases this;rfl
  subst e1 e2 e3
  refine⟨_,rfl,wpAny_letOwnedTupleGo_zip (s:={s with heap:=h',toks:=tk}) g5 fun h'' g5' sb=>?_⟩
  replace sb:Heap.SameBut (N+5:Nat) h' h'':=sb
  have lz:N+5<s.heap.objs.size:=Heap.lt_size h5
  have kk':∀b o,b∉([N,N+1,N+2,N+3,N+4,N+5]:List Nat)->s.heap.get? b=some o->h''.get? b=some o:=fun b o hb e=>by
   obtain⟨c1,c2,c3,c4,c5⟩:=nin5 hb
   exact(sb.2 b c5).trans (kk b o c1 c2 c3 c4 c5 e)
  have I1:=zni (t':=tk) (vs:=[x1,x2,x3]) (its:=[u1,u2,u3]) I kk' hf (fun b hb=>by
   have:b=N\/b=N+1\/b=N+2\/b=N+3\/b=N+4\/b=N+5:=by simpa using hb
   exact Nat.lt_of_le_of_lt (show(b:Nat)<=N+5 by rcases this with h|h|h|h|h|h<;>rw[h]<;>simp) lz) ((sb.2 _ (ne_ (by ac_rfl))).trans gT) (by simp;rw[sizeLine_eq];decide) (.cons r1 (.cons r2 (.cons r3 .nil)))
  refine⟨.ref s.heap.objs.size,_,I1,rfl,⟨_,x1,x2,x3,I.hok.fresh (Nat.le_refl _),rfl,rfl,fun xs' ys' zs' b1 b2 b3=>?_⟩,⟨hn,g5',(sb.2 _ (ne_ (by ac_rfl))).trans (kk _ _ (ne_ (by ac_rfl)) (ne_ (by ac_rfl)) (ne_ (by ac_rfl)) (ne_ (by ac_rfl)) (ne_ (by ac_rfl)) h3),⟨_,_,_,(sb.2 _ (ne_ (by ac_rfl))).trans g4⟩,SrcIt.at g0.1 fun o e=>(sb.2 _ (ne_ (by ac_rfl))).trans e,SrcIt.at g1.1 fun o e=>(sb.2 _ (ne_ (by ac_rfl))).trans e,SrcIt.at g2.1 fun o e=>(sb.2 _ (ne_ (by ac_rfl))).trans e⟩,fun b hb=>?_⟩
  ·rw[SrcSq.inj I b1 q1,SrcSq.inj I b2 q2,SrcSq.inj I b3 q3]
   exact⟨hx1,hx2,hx3⟩
  ·have:b=N\/b=N+1\/b=N+2\/b=N+3\/b=N+4\/b=N+5:=by simpa using hb
   rw[zar (Nat.ne_of_lt (Nat.lt_of_le_of_lt (show(b:Nat)<=N+5 by rcases this with h|h|h|h|h|h<;>rw[h]<;>simp) lz))]
   exact(hf b hb).1
 done:=by
  intro X hP hw hK hc i pins s σ H E I hf st hg
  subst hP hw hK
  obtain⟨hi,h5,h3,⟨a,c,d,h4⟩,h0,h1,h2⟩:=st
  obtain⟨hn,xs,ys,zs,q1,q2,q3,en⟩:=hg
  obtain⟨us,ru,hu,zu⟩:=q1.heap I
  obtain⟨ws,rw',hw',zw⟩:=q2.heap I
  obtain⟨os,ro,ho',zo⟩:=q3.heap I
  have lu:=ru.length
  have lw:=rw'.length
  have lo:=ro.length
  have D1:=zbt (prog:=X.prog) (w:=X.w) (A:=X.A.in1) (t:=t1) (I.ok.hd hc) N a1 (ne_ (by ac_rfl)) us.toArray
  have D2:=zbt (prog:=X.prog) (w:=X.w) (A:=X.A.in1) (t:=t2) (I.ok.hd hc) (N+1) a2 (ne_ (by ac_rfl)) ws.toArray
  have D3:=zbt (prog:=X.prog) (w:=X.w) (A:=X.A.in1) (t:=t3) (I.ok.hd hc) (N+2) a3 (ne_ (by ac_rfl)) os.toArray
  have hT:s.TypeIs (.ref (N+5:Nat)) "zip":=⟨_,h5,rfl⟩
  unfold pyNext
  refine wpAny_bind (wpAny_attempt (wpAny_callSpecial?_slot (name:=Str.ofString "__next__") hT F.slot_zip_next (wpAny_call_entry F.slot_zip_next hT F.entry_zip_next
   (zip3_end D1 D2 D3 l1 l2 l3 h5 h3 h4 ⟨h0,hu⟩ ⟨h1,hw'⟩ ⟨h2,ho'⟩ (by simp;lia) fun h' e tk kk he=>?_) (F.args_zip_next_1 _))))
  obtain⟨o,ho,hce⟩:=he
  refine wpAny_bind (wpAny_isInstance (T:="StopIteration") (b:=true) ⟨o,ho,hce⟩ isSubtype_stop (wpAny_pure ⟨rfl,zmb I (fun b o hb e=>?_) hf⟩))
  obtain⟨c1,c2,c3,c4,c5⟩:=nin5 hb
  exact kk b o c1 c2 c3 c4 c5 e
 self:=fun _ _ _ _ _ st h=>wpAny_pyIter_zip st.2.1 h
noncomputable def Ite (K:W.Frag)(t1:Bool)(a1:Addr)(n:Nat):It where
 go:=fun i H=>i<n/\∃xs,SrcSq t1 K H a1 xs/\n=xs.length
 yld:=fun i H x H'=>∃p x1,H p=none/\H'=upd H p (.tup [.int i,x1])/\x= .ref p/\∀xs,SrcSq t1 K H a1 xs->xs[i]? =some x1
 stop:=fun i H=>n<=i/\∃xs,SrcSq t1 K H a1 xs/\n=xs.length
theorem zqZ {P:Program}{w:World}(t1:Bool)(a1:Nat)(n N:Nat)(l1:a1<N):
  Turn P w K (.Tuple elts ek ep) (Ite K t1 a1 n) ([N+1,N]:List Nat) (N+1:Nat) (fun i h=>i<=n/\(∃old,IsEnum h (N+1:Nat) N i old)/\SrcIt t1 h N a1 i) where
 mem:=by simp
 obj:=fun i h st b hb=>by
  obtain⟨-,⟨old,h1⟩,h0⟩:=st
  simp only[List.mem_cons,List.not_mem_nil,or_false]at hb
  rcases hb with rfl|rfl
  ·exact⟨_,h1,fun v z=>by cases z⟩
  ·exact h0.obj
 keep:=fun i h h' st k=>by
  obtain⟨hi,⟨old,h1⟩,h0⟩:=st
  exact⟨hi,⟨old,k _ (by simp) _ h1⟩,h0.at fun o e=>k _ (by simp) o e⟩
 item:=by
  intro X hP hw hK hc i pins s σ H E I hf st hg
  subst hP hw hK
  obtain⟨hi,⟨old,h1⟩,h0⟩:=st
  obtain⟨hn,xs,q1,en⟩:=hg
  obtain⟨us,ru,hu,zu⟩:=q1.heap I
  have lu:=ru.length
  have D1:=zbt (prog:=X.prog) (w:=X.w) (A:=X.A.in1) (t:=t1) (I.ok.hd hc) N a1 (ne_ (by ac_rfl)) us.toArray
  refine wpAny_pyNext_enum_itemD D1 h1 ⟨h0,hu⟩ (by simp;lia) (ne_ (by ac_rfl)) (fun z=>nin2 (z:=N+1) z (by lia) (by lia) rfl) fun x h' tk p1 ho g0 gT gz kk=>?_
  obtain⟨x1,hx1⟩:∃x1,xs[i]? =some x1:=⟨xs[i]'(by lia),List.getElem?_eq_getElem _⟩
  obtain⟨u1,hu1,r1⟩:=ru.get hx1
  have e1:u1=x:=by
   have:us[i]? =some x:=by simpa using p1
   rw[hu1]at this;cases this;rfl
  subst e1
  refine⟨_,rfl,wpAny_letOwnedTupleGo_enum (s:={s with heap:=h',toks:=tk+1}) ho fun h'' he' sb=>?_⟩
  replace sb:Heap.SameBut (N+1:Nat) h' h'':=sb
  have lz:N+1<s.heap.objs.size:=Heap.lt_size h1
  have kk':∀b o,b∉([N+1,N]:List Nat)->s.heap.get? b=some o->h''.get? b=some o:=fun b o hb e=>
   (sb.2 b fun z=>hb (by simp[z])).trans (kk b o (fun z=>hb (by simp[z])) (fun z=>hb (by simp[z])) e)
  have I1:=zni (t':=tk+1) (vs:=[.int i,x1]) (its:=[.int i tk,u1]) I kk' hf (fun b hb=>by
   have:b=N+1\/b=N:=by simpa using hb
   exact Nat.lt_of_le_of_lt (show(b:Nat)<=N+1 by rcases this with h|h<;>rw[h]<;>simp) lz) ((sb.2 _ (ne_ (by ac_rfl))).trans gT) (by simp;rw[sizeLine_eq];decide) (.cons ⟨_,rfl⟩ (.cons r1 .nil))
  refine⟨.ref s.heap.objs.size,_,I1,rfl,⟨_,x1,I.hok.fresh (Nat.le_refl _),rfl,rfl,fun xs' b1=>?_⟩,⟨hn,⟨_,by simpa using he'⟩,SrcIt.at g0.1 fun o e=>(sb.2 _ (ne_ (by ac_rfl))).trans e⟩,fun b hb=>?_⟩
  ·rw[SrcSq.inj I b1 q1]
   exact hx1
  ·have:b=N+1\/b=N:=by simpa using hb
   rw[zar (Nat.ne_of_lt (Nat.lt_of_le_of_lt (show(b:Nat)<=N+1 by rcases this with h|h<;>rw[h]<;>simp) lz))]
   exact(hf b hb).1
 done:=by
  intro X hP hw hK hc i pins s σ H E I hf st hg
  subst hP hw hK
  obtain⟨hi,⟨old,h1⟩,h0⟩:=st
  obtain⟨hn,xs,q1,en⟩:=hg
  obtain⟨us,ru,hu,zu⟩:=q1.heap I
  have lu:=ru.length
  have D1:=zbt (prog:=X.prog) (w:=X.w) (A:=X.A.in1) (t:=t1) (I.ok.hd hc) N a1 (ne_ (by ac_rfl)) us.toArray
  have W:=WalksT.enumerateD D1 (N+1:Nat) (ne_ (by ac_rfl)) (fun z=>nin2 (z:=N+1) z (by lia) (by lia) rfl) (by simp)
  have ei:i=us.toArray.size:=by simp;lia
  subst ei
  exact W.done s _ _ ⟨⟨old,h1⟩,h0,hu⟩ fun h' tk kk=>⟨rfl,zmb I kk hf⟩
 self:=fun _ _ _ _ _ st h=>by
  obtain⟨hi,⟨old,h1⟩,h0⟩:=st
  exact wpAny_pyIter_enum h1 h
theorem zoe:bootBuiltins "zip"=some (.type "zip"):=by decide+kernel
theorem zkK:bootBuiltins "enumerate"=some (.type "enumerate"):=by decide+kernel
section
variable {X:Cx} {elts:List Expr} {ek:Nat} {ep:Pos}
theorem pi_zip3 {a b c:Expr}(hg:Gl X "zip")(hm:X.mg "zip"=none)(ha:PA X [a,b,c] ta)(hs:autoParam (starEach [a,b,c] X.env=(false,eval a X.env)::starEach [b,c] X.env) zu2._auto_1)(hs2:autoParam ((backTo pos (starEach [b,c] X.env)).any (·.1)=false) zu2._auto_1):
  PI X (.Tuple elts ek ep) (.Call (.Name "zip" p) [a,b,c] [] pos) (fun σ H R=>ta σ H fun vs H1=>∃t1 a1 xs t2 a2 ys t3 a3 zs,vs=[.ref a1,.ref a2,.ref a3]/\SrcSq t1 X.K H1 a1 xs/\SrcSq t2 X.K H1 a2 ys/\SrcSq t3 X.K H1 a3 zs/\R (Itz3 X.K t1 a1 t2 a2 t3 a3 (min xs.length (min ys.length zs.length))) H1):=by
 intro pins s σ H R I h
 refine Call_ (zhI I hg hm zoe (PyProof.Rows.callWith_type1 (thn (ha pos pins s σ H _ I h) fun us s1 ⟨vs,H1,I1,r1,q1⟩=>?_) hs hs2))
 obtain⟨t1,a1,xs,t2,a2,ys,t3,a3,zs,e,q1,q2,q3,q⟩:=q1
 subst e
 cases r1 with
 |cons r rr=>
  cases rr with
  |cons r' rr=>
   cases rr with
   |cons r'' rr=>
    cases rr
    cases r
    cases r'
    cases r''
    obtain⟨us,ru,hu,-⟩:=q1.heap I1
    obtain⟨ws,rw',hw',-⟩:=q2.heap I1
    obtain⟨os,ro,ho',-⟩:=q3.heap I1
    refine zqk hu hw' ho' fun h' g5 g3 g4 g0 g1 g2 kk=>wpAny_pyIter_zip g5 ⟨_,_,_,_,H1,rfl,I1.kept (t':=s1.toks) kk,zpW t1 a1 t2 a2 t3 a3 (min xs.length (min ys.length zs.length)) s1.heap.objs.size hu.lt hw'.lt ho'.lt,⟨Nat.zero_le _,g5,g3,⟨_,_,_,g4⟩,g0,g1,g2⟩,fun b hb=>?_,q⟩
    have:b=s1.heap.objs.size\/b=s1.heap.objs.size+1\/b=s1.heap.objs.size+2\/b=s1.heap.objs.size+3\/b=s1.heap.objs.size+4\/b=s1.heap.objs.size+5:=by simpa using hb
    have le:s1.heap.objs.size<=b:=by rcases this with h|h|h|h|h|h<;>rw[h]<;>simp
    exact I1.fpOk le (I1.hok.fresh le)
theorem zp4 (hg:Gl X "enumerate")(hm:X.mg "enumerate"=none)(ha:PA X [a] ta)(hs:autoParam (starEach [a] X.env=(false,eval a X.env)::starEach [] X.env) zu2._auto_1)(hs2:autoParam ((backTo pos (starEach [] X.env)).any (·.1)=false) zu2._auto_1):
  PI X (.Tuple elts ek ep) (.Call (.Name "enumerate" p) [a] [] pos) (fun σ H R=>ta σ H fun vs H1=>∃t1 a1 xs,vs=[.ref a1]/\SrcSq t1 X.K H1 a1 xs/\R (Ite X.K t1 a1 xs.length) H1):=by
 intro pins s σ H R I h
 refine Call_ (zhI I hg hm zkK (PyProof.Rows.callWith_type1 (thn (ha pos pins s σ H _ I h) fun us s1 ⟨vs,H1,I1,r1,q1⟩=>?_) hs hs2))
 obtain⟨t1,a1,xs,e,q1,q⟩:=q1
 subst e
 cases r1 with
 |cons r rr=>
  cases rr
  cases r
  obtain⟨us,ru,hu,-⟩:=q1.heap I1
  refine zqx hu fun h' g1 g0 kk=>wpAny_pyIter_enum g1 ⟨_,_,_,_,H1,rfl,I1.kept (t':=s1.toks) kk,zqZ t1 a1 xs.length s1.heap.objs.size hu.lt,⟨Nat.zero_le _,⟨_,g1⟩,g0⟩,fun b hb=>?_,q⟩
  have:b=s1.heap.objs.size+1\/b=s1.heap.objs.size:=by simpa using hb
  have le:s1.heap.objs.size<=b:=by rcases this with h|h<;>rw[h]<;>simp
  exact I1.fpOk le (I1.hok.fresh le)
end
theorem zk8 {G:Hp}{x:V}{d:D}(r:RepD K G x d)(e:zbj [d]=some es):∃t a xs,x= .ref a/\(∀H,Fz G H->SrcSq t K H a xs)/\RepL K G xs es:=by
 cases d<;>simp only[zbj]at e<;>try cases e
 ·obtain⟨a,xs,rfl,ha,r⟩:=r
  exact⟨false,a,xs,rfl,fun H f=>SqL.of (f _ _ ha),r⟩
 ·obtain⟨a,xs,rfl,ha,r⟩:=r
  exact⟨true,a,xs,rfl,fun H f=>SqT.of (f _ _ ha),r⟩
 ·obtain⟨a,rfl,ha⟩:=r
  exact⟨false,a,_,rfl,fun H f=>f.sql ha,RepL.ints _⟩
noncomputable def znP (xs ys:List D):List D:=List.zipWith (fun x y=>D.tup [x,y]) xs ys
noncomputable def znN (xs ys zs:List D):List D:=List.zipWith (fun x (p:D×D)=>D.tup [x,p.1,p.2]) xs (List.zip ys zs)
noncomputable def zn1 (xs:List D):List D:=List.zipWith (fun x (i:Nat)=>D.tup [.int i,x]) xs (List.range xs.length)
noncomputable def iZ2 (ma:MA):MA:=fun ρ=>(ma ρ).bind fun p=>match p.1 with
 |[a,b]=>(zbj [a]).bind fun xs=>(zbj [b]).bind fun ys=>some (znP xs ys,p.2)
 |_=>none
noncomputable def iZ3 (ma:MA):MA:=fun ρ=>(ma ρ).bind fun p=>match p.1 with
 |[a,b,c]=>(zbj [a]).bind fun xs=>(zbj [b]).bind fun ys=>(zbj [c]).bind fun zs=>some (znN xs ys zs,p.2)
 |_=>none
noncomputable def iEn (ma:MA):MA:=fun ρ=>(ma ρ).bind fun p=>(zbj p.1).map fun xs=>(zn1 xs,p.2)
theorem it_zip3 {a b c:Expr}(hm:X.mg "zip"=none)(ha:SA X [a,b,c] ma)(hg:autoParam (Gl X "zip") zu2._auto_1)(hs:autoParam (starEach [a,b,c] X.env=(false,eval a X.env)::starEach [b,c] X.env) zu2._auto_1)(hs2:autoParam ((backTo pos (starEach [b,c] X.env)).any (·.1)=false) zu2._auto_1):
  SIt X (.Tuple elts ek ep) (.Call (.Name "zip" p) [a,b,c] [] pos) (iZ3 ma):=by
 obtain⟨t,pa,sa⟩:=ha
 refine⟨_,pi_zip3 hg hm pa hs hs2,fun B G H σ ρ ds ρ' Q I hm k=>?_⟩
 obtain⟨⟨es,ρ1⟩,e1,h2⟩:=zah hm
 dsimp only at h2
 refine sa B G H σ ρ es ρ1 _ I e1 fun G1 H1 vs I1 f1 r1=>?_
 split at h2
 ·obtain⟨xs,ex,h2⟩:=zah h2
  obtain⟨ys,ey,h2⟩:=zah h2
  obtain⟨zs,ez,h2⟩:=zah h2
  cases h2
  obtain⟨x,us,rfl,rx,r2⟩:=r1
  obtain⟨y,ws,rfl,ry,r3⟩:=r2
  obtain⟨z,os,rfl,rz,r4⟩:=r3
  cases(show os=[]from r4)
  obtain⟨t1,a1,us,rfl,s1,c1⟩:=zk8 rx ex
  obtain⟨t2,a2,ws,rfl,s2,c2⟩:=zk8 ry ey
  obtain⟨t3,a3,os,rfl,s3,c3⟩:=zk8 rz ez
  have n1:=c1.length
  have n2:=c2.length
  have n3:=c3.length
  refine⟨t1,a1,us,t2,a2,ws,t3,a3,os,rfl,s1 _ I1.fz,s2 _ I1.fz,s3 _ I1.fz,k _ G1 H1 I1 f1 ⟨fun H i f hi=>?_,fun H i x H' f y d e=>?_,fun H i f hi=>?_⟩⟩
  ·exact⟨by simp[znN]at hi;lia,us,ws,os,s1 _ f,s2 _ f,s3 _ f,rfl⟩
  ·obtain⟨p,x1,x2,x3,hp,eh,ex',q⟩:=y
   obtain⟨q1,q2,q3⟩:=q us ws os (s1 _ f) (s2 _ f) (s3 _ f)
   simp only[znN,List.zip,List.getElem?_zipWith]at e
   have hi:i<us.length/\i<ws.length/\i<os.length:=⟨(List.getElem?_eq_some_iff.mp q1).1,(List.getElem?_eq_some_iff.mp q2).1,(List.getElem?_eq_some_iff.mp q3).1⟩
   have g1:xs[i]? =some (xs[i]'(by lia)):=List.getElem?_eq_getElem _
   have g2:ys[i]? =some (ys[i]'(by lia)):=List.getElem?_eq_getElem _
   have g3:zs[i]? =some (zs[i]'(by lia)):=List.getElem?_eq_getElem _
   rw[g1,g2,g3]at e
   cases e
   obtain⟨v1,b1,r1⟩:=c1.get g1
   obtain⟨v2,b2,r2⟩:=c2.get g2
   obtain⟨v3,b3,r3⟩:=c3.get g3
   rw[q1]at b1;cases b1
   rw[q2]at b2;cases b2
   rw[q3]at b3;cases b3
   exact .inr ⟨p,_,_,hp,eh,ex',rfl,⟨_,_,rfl,r1,_,_,rfl,r2,_,_,rfl,r3,rfl⟩⟩
  ·exact⟨by simp[znN]at hi;lia,us,ws,os,s1 _ f,s2 _ f,s3 _ f,rfl⟩
 ·cases h2
theorem ze7 (hm:X.mg "enumerate"=none)(ha:SA X [a] ma)(hg:autoParam (Gl X "enumerate") zu2._auto_1)(hs:autoParam (starEach [a] X.env=(false,eval a X.env)::starEach [] X.env) zu2._auto_1)(hs2:autoParam ((backTo pos (starEach [] X.env)).any (·.1)=false) zu2._auto_1):
  SIt X (.Tuple elts ek ep) (.Call (.Name "enumerate" p) [a] [] pos) (iEn ma):=by
 obtain⟨t,pa,sa⟩:=ha
 refine⟨_,zp4 hg hm pa hs hs2,fun B G H σ ρ ds ρ' Q I hm k=>?_⟩
 obtain⟨⟨es,ρ1⟩,e1,h2⟩:=zah hm
 obtain⟨xs,ex,h2⟩:=zau h2
 cases h2
 refine sa B G H σ ρ es ρ1 _ I e1 fun G1 H1 vs I1 f1 r1=>?_
 match es,ex,r1 with
 |[],ex,_=>cases ex
 |_::_::_,ex,_=>exact absurd ex (by simp[zbj])
 |[d],ex,r1=>
  obtain⟨x,rfl,rx⟩:=r1.one
  obtain⟨t1,a1,us,rfl,s1,c1⟩:=zk8 rx ex
  have n1:=c1.length
  refine⟨t1,a1,us,rfl,s1 _ I1.fz,k _ G1 H1 I1 f1 ⟨fun H i f hi=>?_,fun H i x H' f y d e=>?_,fun H i f hi=>?_⟩⟩
  ·exact⟨by simp[zn1]at hi;lia,us,s1 _ f,rfl⟩
  ·obtain⟨p,x1,hp,eh,ex',q⟩:=y
   have q1:=q us (s1 _ f)
   have hi:i<us.length:=(List.getElem?_eq_some_iff.mp q1).1
   have g1:xs[i]? =some (xs[i]'(by lia)):=List.getElem?_eq_getElem _
   simp only[zn1,List.getElem?_zipWith]at e
   rw[g1,show(List.range xs.length)[i]? =some i from by rw[List.getElem?_range (by lia)]]at e
   cases e
   obtain⟨v1,b1,r1⟩:=c1.get g1
   rw[q1]at b1;cases b1
   exact .inr ⟨p,_,_,hp,eh,ex',rfl,⟨_,_,rfl,rfl,_,_,rfl,r1,rfl⟩⟩
  ·exact⟨by simp[zn1]at hi;lia,us,s1 _ f,rfl⟩
end M
namespace M
open L2 PySem PySem.Spec
open PyProof.Rows hiding St
variable {X:Cx} {o e tg:Expr} {apos cpos pos' pos:Pos} {K:W.Frag} {G H:Hp} {x d y qual n:Str} {σ:St} {ρ:R} {b:Bool} {cs:List D} {l a C CS f:Addr} {ys:List V} {B:Bs} {tg':Addr->Shared->Hp->List Addr->TG} {tt:Addr->Shared->Hp->List Addr->TT} {te:Addr->Shared->Hp->List Addr->TE} {as:List Addr} {its vs:List Value} {i tk j:Nat} {v tp c cN cd ev cv oc:Value} {A:Around} {E:Value->Shared->Prop} {s:Shared} {Q:Unit->Shared->Prop} {prog:Program} {w:World} {h h':Heap} {F':List D->Option Sl} {elts ifs:List Expr} {scope:Scope} {N:List Str} {dN od:Option Addr} {es:List DictEntry} {outer:List Env} {fd:FuncData} {pins':List (Addr×Obj)}
theorem zhS {st:Stmt}:SS X st (fun _=>none):=⟨_,ps_never,fun B G H σ ρ fl ρ' E I hm k=>by cases hm⟩
noncomputable def rIndex (K:W.Frag):V->List V->Hp->VK->Prop:=fun x vs H Q=>∃(l:Addr) (ns:List Int) (k:Int),x= .ref l/\vs=[.int k]/\SqL K H l (ns.map V.int)/\k∈ns/\Q (.int (ns.idxOf k:Nat)) H
theorem zog:MtR X "list.index" (rIndex X.K):=by
 intro pins s σ H x vs v us Q I rx rv h
 obtain⟨l,ns,k,rfl,rfl,hq,hk,q⟩:=h
 cases rx
 obtain⟨u,rfl,t,rfl⟩:=rv.one
 obtain⟨its,r,p,hz⟩:=I.list hq
 have hi:=zeA r
 have hlen:=hi.length
 have hj:ns.idxOf k<ns.length:=List.idxOf_lt_length_iff.mpr hk
 have hb:ns.length<=sizeLine:=by simpa using hz
 rw[sizeLine_eq]at hb
 obtain⟨⟨cls,dd,data,sl⟩,ho,hc,n,hd⟩:=p.isList
 simp only at hc hd
 subst hc hd
 refine call_meets PySem.F.slot_list_index ⟨_,ho,rfl⟩ PySem.F.entry_list_index (PySem.F.args_list_index_2 _ _)
  (PySem.SeqAt.list_indexAt l its.toArray n dd sl (.int k t) (isInt k) (ns.idxOf k) (by simpa[hlen]using hj) (by lia) ?_ ?_) ⟨ho,fun y hy=>(eq_isInt k t hi y (by simpa using hy)).at _ _,⟨.int (ns.idxOf k:Nat),H,I.tok _,⟨_,rfl⟩,q⟩⟩
 ·show isInt k its[ns.idxOf k]=true
  rw[isInt_at k hi _ (by lia) hj]
  simpa using List.getElem_idxOf hj
 ·intro j hjs hlt
  show isInt k its[j]=false
  rw[isInt_at k hi j (by simpa using hjs) (by lia)]
  exact ne_of_lt_idxOf hlt _
noncomputable def zku:D->D->Option D
 | .lst ds,.int k=>(zbz ds).bind fun ns=>if k∈ns then some (.int (ns.idxOf k:Nat))else none
 |_,_=>none
theorem se_index {mo me:ME}(ho:SE X o mo)(he:SE X e me)
  (hbase:autoParam (attributeBase o "index" X.env (eval o X.env)=eval o X.env) zu2._auto_1)
  (hfew :autoParam (((backTo cpos (starEach [e] X.env)).all (fun x => !x.1) && (backToKw cpos (keywordEach [] X.env)).all (fun x => x.1.isSome)
   &&decide ([e].length+([]:List Keyword).length+(if([]:List Keyword).isEmpty then 0 else 1)<30))=true) zu2._auto_1)
  (hline:autoParam ((apos.endLine==cpos.line)=true) zu2._auto_1) (hs:autoParam (starEach [e] X.env=(false,eval e X.env)::starEach [] X.env) zu2._auto_1):SE X (.Call (.Attribute o "index" apos) [e] [] cpos) (m2 zku mo me):=by
 obtain⟨to,po,so⟩:=ho
 obtain⟨te,pe,se⟩:=he
 refine⟨_,pe_bm PySem.F.plainAttrs_list PySem.F.slot_list_index PySem.F.type_list_index zog po (zbY pe zfj hs) hbase hfew hline hs rfl,fun B G H σ ρ d ρ' Q I hm k=>?_⟩
 obtain⟨⟨d1,ρ1⟩,e1,hm⟩:=zah hm
 obtain⟨⟨d2,ρ2⟩,e2,hm⟩:=zah hm
 obtain⟨d3,e3,hm⟩:=zau hm
 cases hm
 refine so B G H σ ρ d1 ρ1 _ I e1 fun G1 H1 v I1 f1 r1=>?_
 cases d1 with
 |lst ds=>
  cases d2 with
  |int i=>
   obtain⟨ns,e4,e3⟩:=zah e3
   obtain⟨a,xs,rfl,ha,rr⟩:=r1
   refine⟨.inl ⟨rfl,xs,SqL.of (I1.fz _ _ ha)⟩,?_⟩
   refine se B G1 H1 σ ρ1 _ ρ2 _ I1 e2 fun G2 H2 u I2 f2 r2=>?_
   cases(show u=V.int i from r2)
   split at e3
   ·rename_i hk
    cases e3
    cases zcI e4
    have rl:=rr.mono f2
    have ex:xs=ns.map V.int:=RepL.ints_eq rl
    subst ex
    exact⟨a,ns,i,rfl,rfl,SqL.of (I2.fz _ _ (f2 _ _ ha)),hk,k G2 H2 _ I2 (f1.trans f2) rfl⟩
   ·cases e3
  |_=>cases e3
 |_=>cases e3
noncomputable def isN:D->Bool
 | .non=>true
 |_=>false
theorem isN_ok {x:V}{d:D}(r:RepD K G x d):decide (x= .non)=isN d:=by
 cases d with
 |non=>cases(show x=V.non from r);rfl
 |bl b=>cases(show x=V.bl b from r);rfl
 |int i=>cases(show x=V.int i from r);rfl
 |str s=>cases(show x=V.str s from r);rfl
 |lst ds=>obtain⟨a,xs,rfl,-⟩:=r;rfl
 |tup ds=>obtain⟨a,xs,rfl,-⟩:=r;rfl
 |scr ns=>obtain⟨a,rfl,-⟩:=r;rfl
 |exc c=>obtain⟨a,C,rfl,-⟩:=r;rfl
 |dic _ _=>obtain⟨a,ys,rfl,-⟩:=r;rfl
 |dit _ _=>obtain⟨a,ys,o,xs,rfl,-⟩:=r;rfl
noncomputable def dIsN:D->D->Option D
 |a,.non=>some (.bl (isN a))
 |_,_=>none
noncomputable def zlS:D->D->Option D
 |a,.non=>some (.bl (!isN a))
 |_,_=>none
theorem v2_isN:V2 X (fun x y H Q=>y= .non/\Q (.bl (decide (x= .non))) H) dIsN:=by
 intro B G H σ ρ x y a b d Q I ra rb hf k
 cases b<;>simp only[dIsN]at hf<;>cases hf
 exact⟨rb,k G H _ I (Fz.refl G) (by rw[isN_ok ra];rfl)⟩
theorem v2_notN:V2 X (fun x y H Q=>y= .non/\Q (.bl (!decide (x= .non))) H) zlS:=by
 intro B G H σ ρ x y a b d Q I ra rb hf k
 cases b<;>simp only[zlS]at hf<;>cases hf
 exact⟨rb,k G H _ I (Fz.refl G) (by rw[isN_ok ra];rfl)⟩
theorem bl_isN:∀x y d,dIsN x y=some d->∃t,d= .bl t:=by
 intro x y d hf
 cases y<;>simp only[dIsN]at hf<;>cases hf
 exact⟨_,rfl⟩
theorem bl_notN:∀x y d,zlS x y=some d->∃t,d= .bl t:=by
 intro x y d hf
 cases y<;>simp only[zlS]at hf<;>cases hf
 exact⟨_,rfl⟩
section
variable {X:Cx} {a b:Expr} {ma mb:ME} {pos:Pos}
theorem st_is (ha:SE X a ma)(hb:SE X b mb)(hm:autoParam (behindInMarks .Is b=false) zu2._auto_1):STt X (.Compare a [.Is] [b] pos) (tTru (m2 dIsN ma mb)):=zi3 op_isN v2_isN bl_isN ha hb hm
theorem zlx (ha:SE X a ma)(hb:SE X b mb)(hm:autoParam (behindInMarks .IsNot b=false) zu2._auto_1):STt X (.Compare a [.IsNot] [b] pos) (tTru (m2 zlS ma mb)):=zi3 op_notN v2_notN bl_notN ha hb hm
end
noncomputable def znR (b:Nat)(ρ:R):Bool:=match ρ[b]? with
 |some (.par _)=>zdb (ρ.set b .emp)
 |_=>false
noncomputable def zq2 (b:Nat)(ρ:R):List D:=match ρ[b]? with
 |some (.par cs)=>cs
 |_=>[]
noncomputable def zo4 (b:Nat)(g:D->R->Option R)(mt:MT)(me:ME):D->R->Option (Option D×R):=fun d ρ=>(g d ρ).bind fun ρ1=>(mt ρ1).bind fun p=>if p.1 then(me p.2).bind fun q=>if znR b q.2 then some (some q.1,q.2)else none else if znR b p.2 then some (none,p.2)else none
noncomputable def oLCM (cap:List Nat)(t b w:Nat)(mi:MA)(g:D->R->Option R)(mt:MT)(me:ME):MO:=fun ρ=>(mi ρ).bind fun p=>if p.1.length<=16777216 then
    ((fzL (cap.filter (· !=w)) p.2)[w]?).bind fun s=>s.items.bind fun cs=>(zeO (zo4 b g mt me) p.1 ((capR cap t (fzL (cap.filter (· !=w)) p.2)).set b (.par cs))).map fun q=>(q.1,(fzL (cap.filter (· !=w)) p.2).set w (s.put (zq2 b q.2)))
  else none
theorem VS.setEmp (h:VS K G σ ρ)(b:Nat):VS K G σ (ρ.set b .emp) where
 len:=by rw[List.length_set];exact h.len
 no:=by
  have h0:=h.no
  unfold zdb at*
  rw[List.all_eq_true]at*
  intro s hs
  rcases List.mem_or_eq_of_mem_set hs with z|z
  ·exact h0 s z
  ·rw[z]
 val:=fun i d e=>by
  rw[List.getElem?_set]at e
  split at e
  ·split at e
   ·cases e
   ·cases e
  ·exact h.val i d e
theorem VS.siP {b:Nat}(h:VS K G σ (ρ.set b .emp))(fz:Fz G H)(hb:ρ[b]? =some (.par cs))(hs:σ[b]? =some (some (.ref l)))(gl:G l=none)(hl:H l=some (.lst ys))(r:RepL K G ys cs):SI K ⟨G,H,[(b,l)]⟩ G H σ ρ where
 fz:=fz
 g0:=Fz.refl G
 new:=fun b o e=> .inl (by show G b≠none;rw[e];simp)
 keep:=fun b o e _=>e
 there:=fun b e=>e
 ob:=fun i c m=>by
  have:i=b/\c=l:=by simpa using m
  rw[this.2]
  show H l≠none
  rw[hl];simp
 len:=by rw[h.len,List.length_set]
 slot:=fun i s e=>by
  by_cases z:i=b
  ·subst z
   rw[hb]at e;cases e
   exact⟨l,ys,hs,gl,hl,r,by simp⟩
  ·have e':(ρ.set b .emp)[i]? =some s:=by rw[List.getElem?_set_ne (Ne.symm z)];exact e
   cases s with
   |emp=>trivial
   |two _ _=>trivial
   |tre t=>exact absurd rfl ((zjJ h.no e').1 t)
   |ptr t=>exact absurd rfl ((zjJ h.no e').2 t)
   |val d=>exact h.val i d e'
   |own ds=>exact absurd ⟨_,ds,e',rfl⟩ (zjA h.no (i:=i))
   |par ds=>exact absurd ⟨_,ds,e',rfl⟩ (zjA h.no (i:=i))
 dis:=fun i j s t a hij e1 e2 w1 w2=>by
  have key:∀(i:Nat) (s:Sl) ov,ρ[i]? =some s->OwS K G H ov a s->i=b:=fun i s ov e w=>by
   by_cases z:i=b
   ·exact z
   ·exact absurd w (zoK h.no (show(ρ.set b .emp)[i]? =some s by rw[List.getElem?_set_ne (Ne.symm z)];exact e))
  exact hij ((key i s _ e1 w1).trans (key j t _ e2 w2).symm)
theorem VS.ofP {b:Nat}(I:SI K B G H σ ρ)(hO:B.O=[(b,l)])(h:znR b ρ=true):∃cs ys,ρ[b]? =some (.par cs)/\σ[b]? =some (some (.ref l))/\G l=none/\H l=some (.lst ys)/\RepL K G ys cs/\VS K G σ (ρ.set b .emp):=by
 unfold znR at h
 split at h
 ·rename_i cs e
  obtain⟨l',ys,h1,h2,h3,h4,h5⟩:=I.slot b _ e
  have hl:l'=l:=by rw[hO]at h5;simpa using h5
  subst hl
  refine⟨cs,ys,e,h1,h2,h3,h4,⟨by rw[List.length_set];exact I.len,h,fun i d e'=>?_⟩⟩
  rw[List.getElem?_set]at e'
  split at e'
  ·split at e'
   ·cases e'
   ·cases e'
  ·exact I.slot i _ e'
 ·cases h
structure LcP (K:W.Frag) (bk:Nat) (g:D->R->Option R) (mt:MT) (me:ME) (items all:List D) (ρf:R) (G2 H1:Hp) (DD l:Addr) (i:Nat) (σc:St) (Hc Gc:Hp) (ρc:R) (acc:List D) (xs:List V) (rest cs:List D) (ys:List V):Prop where
 fc:Fz G2 Gc
 fcH:Fz Gc Hc
 nw:∀b o,Gc b=some o->G2 b≠none\/H1 b=none
 kp:∀b o,b≠l->H1 b=some o->Hc b=some o
 gD:Gc DD=none
 hDc:Hc DD=some (.lst xs)
 ra:RepL K Gc xs acc
 hx:xs.length<=i
 eb:ρc[bk]? =some (.par cs)
 sb:σc[bk]? =some (some (.ref l))
 glc:Gc l=none
 hlc:Hc l=some (.lst ys)
 rlc:RepL K Gc ys cs
 vs:VS K Gc σc (ρc.set bk .emp)
 ec:zeO (zo4 bk g mt me) (items.drop i) ρc=some (rest,ρf)
 eall:all=acc++rest
section
variable {X:Cx} {elt iter tg:Expr} {ifs:List Expr} {scope:Scope} {pos:Pos} {N:List Str} {cap:List Nat} {t bk wk:Nat} {mi:MA} {g:D->R->Option R} {mt:MT} {me:ME}
theorem zmp (hbw:cap[bk]? =some wk){wi:TI}
    (si:∀B G H σ ρ ds ρ' (Q:It->Hp->Prop),SI X.K B G H σ ρ->mi ρ=some (ds,ρ')->(∀J G' H',SI X.K B G' H' σ ρ'->Fz G G'->Itm X.K J G' ds->Q J H')->wi σ H Q)
    (sg:∀C s H₀ fp B G H σ ρ v d ρ' (Q:St->Hp->Prop),SI X.K B G H σ ρ->RepD X.K G v d->g d ρ=some ρ'->(∀G' H' σ',SI X.K B G' H' σ' ρ'->Fz G G'->Q σ' H')->tg' C s H₀ fp v σ H Q)
    (st:∀C s H₀ fp B G H σ ρ d ρ' (Q:Bool->Hp->Prop),SI X.K B G H σ ρ->mt ρ=some (d,ρ')->(∀G' H',SI X.K B G' H' σ ρ'->Fz G G'->Q d H')->tt C s H₀ fp σ H Q)
    (se:∀C s H₀ fp B G H σ ρ d ρ' (Q:VK),SI X.K B G H σ ρ->me ρ=some (d,ρ')->(∀G' H' v,SI X.K B G' H' σ ρ'->Fz G G'->RepD X.K G' v d->Q v H')->te C s H₀ fp σ H Q):
    ∀B G H σ ρ ds ρ' (Q:VK),SI X.K B G H σ ρ->oLCM cap t bk wk mi g mt me ρ=some (ds,ρ')->
      (∀G' H' l xs,SI X.K B G' H' σ ρ'->Fz G G'->G' l=none->H' l=some (.lst xs)->RepL X.K G' xs ds->B.H l=none->Nw X.K G' H' σ ρ' l->Q (.ref l) H')->tLC (capσ cap t) wi tg' tt te σ H Q:=by
  intro B G H σ ρ ds ρ' Q I hm k
  obtain⟨⟨items,ρ1⟩,e1,hm⟩:=zah hm
  refine si B G H σ ρ items ρ1 _ I e1 fun J G1 H1 I1 f1 IT DD hD=>?_
  dsimp only at hm
  split at hm
  . rename_i hlen
    obtain⟨sw,ew,hm⟩:=zah hm
    obtain⟨cs0,qw,hm⟩:=zah hm
    obtain⟨⟨all,ρf⟩,e2,e3⟩:=zau hm
    obtain⟨rfl,rfl⟩:=Prod.mk.inj e3
    obtain⟨G2,I2,f2⟩:=SI.fzL (cap.filter (· !=wk)) I1
    have hDG:G2 DD=none:=I2.fz.free hD
    obtain⟨l,ys0,hσ,gl0,hl0,rl0⟩:=I2.wr ew qw
    have hlD:DD≠l:=(zax hl0 hD).symm
    have hb:bk<cap.length:=(List.getElem?_eq_some_iff.mp hbw).1
    have hbe:cap[bk]=wk:=(List.getElem?_eq_some_iff.mp hbw).2
    have hσb:(capσ cap t σ)[bk]? =some (some (.ref l)):=by
      unfold capσ
      rw[List.getElem?_append_left (by simpa using hb),List.getElem?_map,List.getElem?_eq_getElem hb,hbe]
      simp[hσ]
    have hcl:bk<(capR cap t (M.fzL (cap.filter (· !=wk)) ρ1)).length:=by unfold capR;simp;lia
    refine⟨fun i m σc Hc=>m=items.length-i/\i<=items.length/\∃Gc ρc acc xs rest cs ys,LcP X.K bk g mt me items all ρf G2 H1 DD l i σc Hc Gc ρc acc xs rest cs ys,
      ⟨items.length,by simp,Nat.zero_le _,G2,(capR cap t (M.fzL (cap.filter (· !=wk)) ρ1)).set bk (.par cs0),[],[],all,cs0,ys0,{fc:=Fz.refl _,fcH:=I2.fz.right hDG _,nw:=fun b o e=> .inl (by rw[e];simp),kp:=fun b o _ e=>by rw[zar (zax e hD)];exact e,gD:=hDG,hDc:=zaA,ra:= .nil,hx:=Nat.le_refl _,eb:=by rw[List.getElem?_set];simp[hcl],sb:=hσb,glc:=gl0,hlc:=by rw[zar (zax hl0 hD)];exact hl0,rlc:=rl0,vs:=by rw[List.set_set];exact(cap_vs I2 cap t).setEmp bk,ec:=by simpa using e2,eall:=rfl}⟩,?_⟩
    rintro i m σc Hc ⟨rfl,hi,Gc,ρc,acc,xs,rest,cs,ys,J0⟩
    obtain⟨fc,fcH,nw,kp,gD,hDc,ra,hx,eb,sb,glc,hlc,rlc,vs,ec,eall⟩:=J0
    by_cases hlt:i<items.length
    . refine .inr ⟨IT.go Hc i (f2.trans (fc.trans fcH)) hlt,fun C s₀ H₀ fp x H' y=>?_⟩
      rw[List.drop_eq_getElem_cons hlt]at ec
      simp only[zeO]at ec
      obtain⟨⟨o,ρ3⟩,h3,ec⟩:=zah ec
      obtain⟨⟨rest2,ρ4⟩,h4,ec⟩:=zau ec
      obtain⟨rfl,rfl⟩:=Prod.mk.inj ec
      dsimp only at h4
      unfold zo4 at h3
      obtain⟨ρ5,h5,h3⟩:=zah h3
      obtain⟨⟨ok,ρ6⟩,h6,h3⟩:=zah h3
      dsimp only at h3
      have Ic:SI X.K ⟨Gc,Hc,[(bk,l)]⟩ Gc Hc σc ρc:=vs.siP fcH eb sb glc hlc rlc
      have fz2:Fz G1 Hc:=f2.trans (fc.trans fcH)
      have yy:=IT.yld Hc i x H' fz2 y items[i] (List.getElem?_eq_getElem hlt)
      have yy2:(H'=Hc/\RepD X.K Gc x items[i])\/∃p xs es,Hc p=none/\H'=upd Hc p (.tup xs)/\x= .ref p/\items[i]= .tup es/\RepL X.K Gc xs es:=by
        rcases yy with⟨a,b⟩|⟨p,xs,es,a,b,c,d,e⟩
        . exact .inl ⟨a,b.mono (f2.trans fc)⟩
        . exact .inr ⟨p,xs,es,a,b,c,d,e.mono (f2.trans fc)⟩
      obtain⟨G3,I3,f3,r3⟩:=Ic.yld yy2
      refine sg C s₀ H₀ fp _ G3 H' σc ρc x items[i] ρ5 _ I3 r3 h5 fun G4 H4 σ4 I4 f4=>st C s₀ H₀ fp _ G4 H4 σ4 ρ5 ok ρ6 _ I4 h6 fun G5 H5 I5 f5=>?_
      have facts:∀(G' H':Hp) (σ':St) (ρ':R),SI X.K ⟨Gc,Hc,[(bk,l)]⟩ G' H' σ' ρ'->(∀b o,G' b=some o->G2 b≠none\/H1 b=none)/\(∀b o,b≠l->H1 b=some o->H' b=some o)/\G' DD=none/\H' DD=some (.lst xs):=fun G' H' σ' ρ' I'=>by
        refine⟨fun b o e=>?_,fun b o ne e=>I'.keep b o (kp b o ne e) (by simp;exact ne),?_,I'.keep DD _ hDc (by simp;exact hlD)⟩
        . rcases I'.new b o e with h|h
          . have h:Gc b≠none:=h
            cases q:Gc b with
            |none=>exact absurd q h
            |some u=>exact nw b u q
          . refine .inr ?_
            cases q:H1 b with
            |none=>rfl
            |some u=>
              have hn:Hc b=none:=h
              have nb:b≠l:=fun z=>by rw[z,hlc]at hn;cases hn
              have:=kp b u nb q
              rw[hn]at this;cases this
        . cases q:G' DD with
          |none=>rfl
          |some u=>
            rcases I'.new DD u q with h|h
            . exact absurd gD h
            . rw[show Hc DD=none from h]at hDc;cases hDc
      cases ok with
      |false=>
        simp only[Bool.false_eq_true,if_false]at h3
        split at h3
        . rename_i hno
          cases h3
          obtain⟨a1,a2,a3,a4⟩:=facts G5 H5 σ4 _ I5
          obtain⟨cs',ys',w1,w2,w3,w4,w5,w6⟩:=VS.ofP I5 rfl hno
          exact⟨items.length-(i+1),by lia,rfl,hlt,G5,_,acc,xs,rest2,cs',ys',{fc:=fc.trans (f3.trans (f4.trans f5)),fcH:=I5.fz,nw:=a1,kp:=a2,gD:=a3,hDc:=a4,ra:=ra.mono (f3.trans (f4.trans f5)),hx:=by lia,eb:=w1,sb:=w2,glc:=w3,hlc:=w4,rlc:=w5,vs:=w6,ec:=h4,eall:=by simpa using eall}⟩
        . cases h3
      |true=>
        simp only[if_true]at h3 ⊢
        obtain⟨⟨dv,ρ7⟩,h7,h3⟩:=zah h3
        dsimp only at h3
        split at h3
        . rename_i hno
          cases h3
          refine se C s₀ H₀ fp _ G5 H5 σ4 ρ6 dv _ _ I5 h7 fun G6 H6 v I6 f6 r6=>?_
          obtain⟨a1,a2,a3,a4⟩:=facts G6 H6 σ4 _ I6
          obtain⟨cs',ys',w1,w2,w3,w4,w5,w6⟩:=VS.ofP I6 rfl hno
          have ff:Fz Gc G6:=f3.trans (f4.trans (f5.trans f6))
          exact⟨xs,a4,by rw[sizeLine_eq];lia,items.length-(i+1),by lia,rfl,hlt,G6,_,acc++[dv],xs++[v],rest2,cs',ys',{fc:=fc.trans ff,fcH:=I6.fz.right a3 _,nw:=a1,kp:=fun b o ne e=>by rw[zar (zax e hD)];exact a2 b o ne e,gD:=a3,hDc:=zaA,ra:=(ra.mono ff).snoc r6,hx:=by rw[List.length_append,List.length_singleton];lia,eb:=w1,sb:=w2,glc:=w3,hlc:=by rw[zar (Ne.symm hlD)];exact w4,rlc:=w5,vs:=w6,ec:=h4,eall:=by rw[eall];simp}⟩
        . cases h3
    . have e:i=items.length:=by lia
      subst e
      rw[List.drop_length]at ec
      obtain⟨rfl,rfl⟩:=Prod.mk.inj (Option.some.inj ec)
      have hall:all=acc:=by rw[eall,List.append_nil]
      refine .inl ⟨IT.stop Hc _ (f2.trans (fc.trans fcH)) (Nat.le_refl _),?_⟩
      rw[<-hall]at ra
      have hp:zq2 bk ρc=cs:=by unfold zq2;rw[eb]
      rw[hp]at k
      exact k Gc Hc DD xs (I2.growW ew qw hσ fc fcH nw kp glc hlc rlc) (f1.trans (f2.trans fc)) gD hDc ra (I2.there DD hD) (I2.own_neW ew qw hσ hD nw kp)
  . cases hm
theorem so_lcM (cap:List Nat)(t bk wk:Nat)(N:List Str)(hc:X.calm=true)(hi:SIt X tg iter mi)(hg:∀C s H fp,SG (cxC X N scope C s H fp) tg g)(ht:∀C s H fp,STs (cxC X N scope C s H fp) ifs mt)(he:∀C s H fp,SE (cxC X N scope C s H fp) elt me)(hbw:autoParam (cap[bk]? =some wk) zu2._auto_1)
    (hk:autoParam (scope.kind= .function) zu2._auto_1) (hb:autoParam (blkB X.env scope=true) zu10._auto_1) (hcap:autoParam (capB scope.names N X.N cap t=true) zu10._auto_1)
    (hs:autoParam (∀x,foldedSetIterable iter X.env x=pure x) zu8._auto_1):SO X (.ListComp elt [⟨tg,iter,ifs,0⟩] scope pos) (oLCM cap t bk wk mi g mt me):=by
  obtain⟨wi,pi,si⟩:=hi
  exact⟨_,pe_lc hc (zjb hk hb) (zj4 hcap) pi (fun C s H fp=>(hg C s H fp).choose_spec.1) (fun C s H fp=>(ht C s H fp).choose_spec.1) (fun C s H fp=>(he C s H fp).choose_spec.1) hs,
    zmp hbw si (fun C s H fp=>(hg C s H fp).choose_spec.2) (fun C s H fp=>(ht C s H fp).choose_spec.2) (fun C s H fp=>(he C s H fp).choose_spec.2)⟩
theorem zlf (i:Nat){lpos pos':Pos}(cap:List Nat)(t bk wk:Nat)(N:List Str)(hc:X.calm=true)(hi:SIt X tg iter mi)(hg:∀C s H fp,SG (cxC X N scope C s H fp) tg g)(ht:∀C s H fp,STs (cxC X N scope C s H fp) ifs mt)(he:∀C s H fp,SE (cxC X N scope C s H fp) elt me)(hN:X.N.Nodup)(hbw:autoParam (cap[bk]? =some wk) zu2._auto_1)
    (hxi:autoParam (X.N[i]? =some x) zu2._auto_1) (hx:autoParam (Loc X.env.scope x) zu9._auto_1) (hf:autoParam (X.fn x=true\/X.env.scope.names.lookup x=some .local) zu9._auto_1)
    (hsw:autoParam (swapsWith (.ListComp elt [⟨tg,iter,ifs,0⟩] scope lpos) (some (.Name x pos')) pos.line X.env=pure true) zu2._auto_1)
    (hk:autoParam (scope.kind= .function) zu2._auto_1) (hb:autoParam (blkB X.env scope=true) zu10._auto_1) (hcap:autoParam (capB scope.names N X.N cap t=true) zu10._auto_1)
    (hs:autoParam (∀x,foldedSetIterable iter X.env x=pure x) zu8._auto_1):SS X (.Assign [.Name x pos'] (.ListComp elt [⟨tg,iter,ifs,0⟩] scope lpos) pos) (sSet i (eFz (oLCM cap t bk wk mi g mt me))):=by
  obtain⟨wi,pi,si⟩:=hi
  refine⟨_,zjD hN hxi hx hf hsw hc (zjb hk hb) (zj4 hcap) pi (fun C s H fp=>(hg C s H fp).choose_spec.1) (fun C s H fp=>(ht C s H fp).choose_spec.1) (fun C s H fp=>(he C s H fp).choose_spec.1) hs,fun B G H σ ρ fl ρ' E I hm k=>?_⟩
  obtain⟨⟨d,ρ1⟩,e1,e3⟩:=zau hm
  obtain⟨⟨ds,ρ2⟩,e4,e5⟩:=zau e1
  obtain⟨rfl,rfl⟩:=Prod.mk.inj e5
  obtain⟨rfl,rfl⟩:=Prod.mk.inj e3
  refine zmp hbw si (fun C s H fp=>(hg C s H fp).choose_spec.2) (fun C s H fp=>(ht C s H fp).choose_spec.2) (fun C s H fp=>(he C s H fp).choose_spec.2) B G H σ ρ ds ρ2 _ I e4 fun G1 H1 l xs I1 f1 g1 h1 r1 b1 n1=>?_
  obtain⟨I2,f2,r2⟩:=zmS I1 g1 h1 r1 b1 n1
  exact k _ H1 _ (I2.set r2) (f1.trans f2)
end
noncomputable def dIsB:D->D->Option D
 | .bl a,.bl b=>some (.bl (a==b))
 |_,_=>none
noncomputable def znO:D->D->Option D
 | .bl a,.bl b=>some (.bl (a !=b))
 |_,_=>none
section
variable {X:Cx}
theorem op_notB:OpR X (compareOp .IsNot) (fun x y H Q=>∃a b,x= .bl a/\y= .bl b/\Q (.bl (a !=b)) H):=by
 intro pins s σ H x y v u Q I rx ry h
 obtain⟨a,b,rfl,rfl,q⟩:=h
 cases rx
 cases ry
 exact isnot_bool (zpP I q rfl)
theorem v2_notB:V2 X (fun x y H Q=>∃a b,x= .bl a/\y= .bl b/\Q (.bl (a !=b)) H) znO:=by
 intro B G H σ ρ x y a b d Q I ra rb hf k
 cases a<;>cases b<;>simp only[znO]at hf<;>cases hf
 exact⟨_,_,ra,rb,k G H _ I (Fz.refl G) rfl⟩
theorem bl_notB:∀x y d,znO x y=some d->∃t,d= .bl t:=by
 intro x y d hf
 cases x<;>cases y<;>simp only[znO]at hf<;>cases hf
 exact⟨_,rfl⟩
variable {a b:Expr} {ma mb:ME} {pos:Pos}
theorem st_notB (ha:SE X a ma)(hb:SE X b mb)(hm:autoParam (behindInMarks .IsNot b=false) zu2._auto_1):STt X (.Compare a [.IsNot] [b] pos) (tTru (m2 znO ma mb)):=zi3 op_notB v2_notB bl_notB ha hb hm
end
noncomputable def iR2L (ma:MA):MA:=fun ρ=>(ma ρ).bind fun p=>match p.1 with
 |[.int i,.int j]=>some (zhh i (j-i).toNat,p.2)
 |_=>none
noncomputable def zpC:List D->Option (List (List Int))
 |[]=>some []
 | .tup ds::r=>(zbz ds).bind fun ns=>(zpC r).map fun nss=>ns::nss
 |_::_=>none
theorem refs_get (r:Vals (as.map V.ref) its)(e:its[i]? =some v):∃a,as[i]? =some a/\v= .ref a:=by
 have hl:=r.length
 have hi:i<its.length:=(List.getElem?_eq_some_iff.mp e).1
 rw[List.length_map]at hl
 have e2:(as.map V.ref)[i]? =some (.ref as[i]):=by rw[List.getElem?_map,List.getElem?_eq_getElem (by lia)];rfl
 obtain⟨u,h1,h2⟩:=r.get e2
 rw[e]at h1
 cases h1
 exact⟨_,List.getElem?_eq_getElem (by lia),h2⟩
theorem zmJ:∀{ys:List V} {ds:List D} {nss:List (List Int)},RepL K G ys ds->zpC ds=some nss->∃as:List Addr,ys=as.map V.ref/\as.length=nss.length/\∀(i:Nat) a ns,as[i]? =some a->nss[i]? =some ns->G a=some (.tup (ns.map V.int))
 |_,[],nss,r,e=>by cases e;cases r;exact⟨[],rfl,rfl,fun i a ns h=>by simp at h⟩
 |_,d::ds,nss,⟨x,ys,e0,q,r⟩,e=>by
  subst e0
  cases d with
  |tup es=>
   obtain⟨ns,e1,e⟩:=zah e
   obtain⟨ms,e2,e3⟩:=zau e
   subst e3
   obtain⟨as,rfl,hl,h⟩:=zmJ r e2
   obtain⟨a,zs,rfl,ha,rz⟩:=q
   rw[zcI e1]at rz
   rw[RepL.ints_eq rz]at ha
   refine⟨a::as,rfl,by rw[List.length_cons,List.length_cons,hl],fun i b ns' h1 h2=>?_⟩
   cases i with
   |zero=>simp at h1 h2;subst h1 h2;exact ha
   |succ i=>exact h i b ns' (by simpa using h1) (by simpa using h2)
  |non=>cases e
  |bl _=>cases e
  |int _=>cases e
  |str _=>cases e
  |lst _=>cases e
  |scr _=>cases e
  |exc _=>cases e
  |dic _ _=>cases e
  |dit _ _=>cases e
theorem check_ga {M:Model}{nameV:Value}(kin:K.In s.heap)(J:∀M,W.Looks M s.heap (typeOf (.ref a)) (.ref C))(hb:W.exmOne K (.ref C) (.type "BaseException")=some true)(h:Q () s):
  wpAny M A (checkBuiltinCall "BaseException.__getattribute__" {pos:=[.ref a,nameV]}) Q E s:=by
 have e1:builtinKind "BaseException.__getattribute__"=some .slot:=by decide+kernel
 have e2:splitId "BaseException.__getattribute__"=some ("BaseException","__getattribute__"):=by decide+kernel
 have e3:=F.args_bexc_ga (.ref a) nameV
 unfold argsOk at e3
 unfold checkBuiltinCall
 rw[e1,e2]
 dsimp only
 refine wpAny_bind (wpAny_bind (J _ A _ _ s (fun _ _ q=>q) ((W.exm_cls kin hb).2 A _ _ s (fun _ _ q=>q) ?_)))
 refine wpAny_ite_false (by decide) ?_
 generalize Manifest.signature? "BaseException.__getattribute__"=o at e3 ⊢
 cases o with
 |none=>exact wpAny_pure h
 |some sig=>dsimp only at e3 ⊢;rw[e3];exact wpAny_pure h
theorem zoM {R:Result->Shared->Prop}(kin:K.In s.heap)(J:∀M,W.Looks M s.heap (typeOf (.ref a)) (.ref C))(ho:W.mroIn K C (.type "object")=some true)
  (h:R (.ok (.ret (.ref C))) s):codeAny (model prog w) A (.call (.builtin "getset_descriptor.__get__") {pos:=[.builtin "object.__class__",.ref a,tp]}) R s:=by
 refine codeAny_call_builtin W.KF.slot_gs.plain W.KF.entry_gs (W.KF.slot_gs.check _ _ _ _ _ _ _ _ W.KF.type_class (W.KF.args_gs _ _ _) ?_)
 unfold Builtin.«getset_descriptor.__get__» Builtin.Getset_descriptor.descrGet
 rw[W.dga_obj]
 refine wpAny_bind (wpAny_pure ?_)
 dsimp only
 unfold Builtin.Getset_descriptor.descrGetter
 dsimp only
 refine wpAny_bind ?_
 unfold Builtin.Getset_descriptor.descrCheckInstance
 dsimp only
 refine wpAny_bind ?_
 unfold Builtin.Getset_descriptor.descrNameAndClass
 dsimp only
 rw[W.KF.owner_class]
 refine W.nd_pure ?_
 dsimp only
 refine wpAny_bind (wpAny_bind (J _ _ _ _ _ (fun _ _ q=>q) (W.looks_mroIn kin ho _ _ _ _ (fun _ _ q=>q) ?_)))
 refine wpAny_ite_false rfl (wpAny_pure (wpAny_pure ?_))
 refine⟨Code.quiet_builtin _ (by decide+kernel),codeAny_builtin W.KF.entry_class ?_⟩
 unfold Builtin.«object.__class__»
 dsimp only
 refine wpAny_bind ?_
 unfold shownTypeOf
 refine wpAny_bind (J _ _ _ _ _ (fun _ _ q=>q) (wpAny_ite_false rfl (wpAny_pure (wpAny_pure h))))
theorem zqU {Q:Option Value->Shared->Prop}(kin:K.In s.heap)(J:∀M,W.Looks M s.heap (typeOf (.ref a)) (.ref C))
  (hb:W.exmOne K (.ref C) (.type "BaseException")=some true) (hga:W.findIn K (.ref C) "__getattribute__"=some (some (.builtin "BaseException.__getattribute__"))) (hgt:W.findIn K (.ref C) "__getattr__"=some none)
  (hf:W.findIn K (.ref C) "__class__"=some (some (.builtin "object.__class__"))) (hsp:W.specialIn K (.builtin "object.__class__") "__get__"=some (some (.builtin "getset_descriptor.__get__"))) (htk:W.takesIn K (.builtin "object.__class__")=some true) (ho:W.mroIn K C (.type "object")=some true)
  (h:Q (some (.ref C)) {s with toks:=s.toks+1}):wpAny (model prog w) A (getAttr? (.ref a) "__class__") Q E s:=by
 unfold getAttr?
 refine wpAny_bind (wpAny_mkText ?_)
 unfold getAttrBy?
 refine wpAny_bind (wpAny_attempt ?_)
 unfold getAttrBy
 refine wpAny_holding (wpAny_bind (J _ A _ _ _ (fun _ _ q=>q) (wpAny_bind (W.looks_findIn kin hga A _ _ _ (fun _ _ q=>q) ?_))))
 dsimp only
 have nb:(Value.builtin "BaseException.__getattribute__"==Value.builtin "object.__getattribute__")=false:=by decide+kernel
 refine wpAny_ite_false (by rw[nb,Bool.and_false];rfl) ?_
 unfold getAttrByItsOwn
 refine wpAny_bind ?_
 unfold hookBefore
 refine wpAny_ite_true (by rfl) (W.looks_findIn kin hgt A _ _ _ (fun _ _ q=>q) ?_)
 refine wpAny_bind (wpAny_attempt (wpAny_holding ?_))
 unfold callGetattribute
 refine wpAny_ite_false (by decide+kernel) ?_
 unfold boundAndCalled
 refine wpAny_bind ?_
 rw[F.attrBase_ValueError.ga.bind]
 refine wpAny_pure ?_
 dsimp only[List.cons_append,List.nil_append]
 refine wpAny_call (codeAny_call_builtin F.attrBase_ValueError.ga.plain F.entry_bexc_ga (check_ga kin J hb ?_))
 unfold Builtin.«object.__getattribute__» slotArgs
 refine wpAny_bind (wpAny_ite_false (by rfl) ?_)
 dsimp only
 refine wpAny_ite_false (by rfl) (wpAny_pure ?_)
 dsimp only
 unfold Builtin.ObjectAttr.attrName
 refine wpAny_bind (wpAny_pure (wpAny_bind (J _ _ _ _ _ (fun _ _ q=>q) (wpAny_bind ?_))))
 unfold Builtin.ObjectAttr.find
 refine wpAny_bind (W.looks_findIn kin hf _ _ _ _ (fun _ _ q=>q) (wpAny_bind ?_))
 unfold Builtin.ObjectAttr.getOf
 refine W.looks_specialIn kin hsp _ _ _ _ (fun _ _ q=>q) (wpAny_bind ?_)
 unfold Builtin.ObjectAttr.dataDescriptor?
 refine wpAny_bind (W.looks_takesIn kin htk _ _ _ _ (fun _ _ q=>q) (wpAny_ite_true rfl (wpAny_pure ?_)))
 refine wpAny_bind (wpAny_rule (wpAny_pure ?_))
 unfold Builtin.ObjectAttr.bindTo
 dsimp only
 refine wpAny_bind (wpAny_holding (wpAny_call (zoM kin J ho ?_)))
 refine wpAny_pure ?_
 refine W.handed_on rfl ?_
 exact wpAny_pure h
structure ExcC (K:W.Frag) (C:Addr):Prop where
 hb:W.exmOne K (.ref C) (.type "BaseException")=some true
 hga:W.findIn K (.ref C) "__getattribute__"=some (some (.builtin "BaseException.__getattribute__"))
 hgt:W.findIn K (.ref C) "__getattr__"=some none
 hf:W.findIn K (.ref C) "__class__"=some (some (.builtin "object.__class__"))
 hsp:W.specialIn K (.builtin "object.__class__") "__get__"=some (some (.builtin "getset_descriptor.__get__"))
 htk:W.takesIn K (.builtin "object.__class__")=some true
 ho:W.mroIn K C (.type "object")=some true
 hc:(W.clsIn K C).isSome=true
 ht:W.typeIn K (.ref C)=some (.type "type")
theorem zjH {M:Model}{o:Obj}(e:h.get? a=some o)(c:o.cls= .ref C):W.Looks M h (typeOf (.ref a)) (.ref C):=fun A Q E s k q=>by
 unfold typeOf
 exact wpAny_bind (wpAny_loadPart (k a o e) (wpAny_pure (by rw[c];exact q)))
theorem zld (h:(W.clsIn K C).isSome=true):∃o cd,List.lookup C K=some o/\o.data= .cls cd:=by
 unfold W.clsIn at h
 split at h
 ·rename_i c d cd sl e
  exact⟨_,cd,e,rfl⟩
 ·cases h
theorem kitx_exc (f:ExcC K C):W.KitX K (.ref a) (.ref C) (fun h=>∃o,h.get? a=some o/\o.cls= .ref C) where
 ty:=fun M h kin ⟨o,e,c⟩=>zjH e c
 it:=fun M h kin _ A Q E s k q=>by
  obtain⟨o,cd,e,d⟩:=zld f.hc
  unfold isType
  refine wpAny_bind (wpAny_loadPart (k C o (kin C o e)) (wpAny_pure ?_))
  rw[d];exact q
 ne:=fun h tp dd its n sl kin e=>by
  obtain⟨o,cd,e2,d⟩:=zld f.hc
  have e3:=kin C o e2
  rw[Bool.eq_false_iff]
  intro z
  have z:=eq_of_beq z
  cases z
  rw[e]at e3;cases e3;cases d
 ca:=fun{prog w A E Q s} kin ⟨o,e,c⟩ q=>zqU kin (fun M=>zjH e c) f.hb f.hga f.hgt f.hf f.hsp f.htk f.ho q
theorem zoR (f:ExcC K C){Q:Value->Shared->Prop}(kin:K.In s.heap)(h:∃o,s.heap.get? a=some o/\o.cls= .ref C)(e:W.kitOne K (.ref C) c=some b)
  (q:∀tk,Q (.bool b) {s with toks:=tk}):wpAny (model prog w) A (call (.builtin "isinstance") [.ref a,c]) Q E s:=W.kia_one (kitx_exc f) kin h e (fun z=>nomatch z) q
noncomputable def Flies (h:Heap)(a T:Addr)(C a0:Value):Prop:=∃oe vs oT ts,h.get? a=some oe/\(oe.cls=C/\vs[0]? =some a0)/\oe.data= .fields vs/\vs[1]? =some (.ref T)/\T≠a/\h.get? T=some oT/\oT.data= .fields ts/\ts[3]? =some .none
noncomputable def CX1 (P:Program)(w:World):CXT:=fun outer H s E e s'=>
 ∃(a T:Addr) (C a0:Value) (H':Hp),e= .ref a/\s'.os=s.os/\AllBare s'.gens/\Un (frs outer) [] H H' s.heap s'.heap/\HOk P w H' s'.heap/\Flies s'.heap a T C a0/\(s.heap.get? a=none/\s.heap.get? T=none)/\(H' a=none/\H' T=none)/\E C none H'
theorem zq4 {fs:List Addr}{H H' H2:Hp}{h h1 h2:Heap}(u:Un fs [] H H' h h1)(k:∀b o,h.get? b≠none->h1.get? b=some o->b∉fs->h2.get? b=some o)
  (sl:∀b o,b∈fs->h1.get? b=some o->∃sl,h2.get? b=some {o with slots:=sl}) (hh:∀b,h.get? b≠none->H' b=none->H2 b=none) (ht:∀b o,H' b=some o->H2 b=some o):Un fs [] H H2 h h2 where
 keep:=fun b o e n hf hx=>k b o (by rw[e];exact fun z=>by cases z) (u.keep b o e n hf hx) hf
 slot:=fun b o e n hf hx=>by
  obtain⟨s1,e1⟩:=u.slot b o e n hf hx
  obtain⟨s2,e2⟩:=sl b _ hf e1
  exact⟨s2,e2⟩
 free:=fun b o e n hx=>hh b (by rw[e];exact fun z=>by cases z) (u.free b o e n hx)
 there:=fun b o e hx=>by
  obtain⟨o1,e1⟩:=u.there b o e hx
  by_cases hf:b∈fs
  ·obtain⟨s2,e2⟩:=sl b _ hf e1;exact⟨_,e2⟩
  ·exact⟨o1,k b o1 (by rw[e];exact fun z=>by cases z) e1 hf⟩
 tups:=fun b xs e=>ht b _ (u.tups b xs e)
 frzs:=fun b o xs e=>ht b _ (u.frzs b o xs e)
 tbls:=fun b ps e=>ht b _ (u.tbls b ps e)
theorem hok_more {P:Program}{h h2:Heap}(x:HOk P w H h)(k:∀b o,H b≠none->h.get? b=some o->h2.get? b=some o):HOk P w H h2:=fun a o e=>
  (x a o e).stay (fun b u hb q => k b u (by rcases hb with rfl | hb; · rw [e]; exact fun z => by cases z
                                            . rw[hb];exact fun z=>by cases z) q) (fun _ q=>q) (fun _ _ q=>q) fun _ _ _ q=>q
theorem obj_has {P:Program}{o:HO}(x:ObjOk P w H h a o):∃ob,h.get? a=some ob:=by
 cases o with
 |lst xs=>obtain⟨_,_,_,_,e⟩:=x;exact⟨_,e⟩
 |tup xs=>obtain⟨_,_,_,ob,e,_⟩:=x;exact⟨_,e⟩
 |dK kvs=>obtain⟨_,_,_,_,o,_,_,e,_⟩:=x;exact⟨_,e⟩
 |dT kvs=>obtain⟨_,_,_,_,o,_,_,e,_⟩:=x;exact⟨_,e⟩
 |set S n=>obtain⟨o,_,_,_,e,_⟩:=x;exact⟨_,e⟩
 |ins C dx fs=>obtain⟨_,_,_,e,_⟩:=x;exact⟨_,e⟩
 |own y=>exact x
 |xd fs=>obtain⟨_,⟨_,_,_,e,_⟩,_⟩:=x;exact⟨_,e⟩
 |rng lo hi=>obtain⟨_,_,_,e⟩:=x;exact⟨_,e⟩
 |frz ob u=>exact⟨_,x.1⟩
 |tbl ps=>obtain⟨_,_,_,_,e,_⟩:=x;exact⟨_,e⟩
 |met f y=>exact⟨_,x⟩
 |ext φ=>exact x.2.1
theorem ze4 {P:Program}(x:HOk P w H h){b:Addr}(e:h.get? b=none):H b=none:=by
 cases q:H b with
 |none=>rfl
 |some o=>
  obtain⟨ob,e2⟩:=obj_has (x b o q)
  rw[e]at e2;cases e2
theorem nn {α:Type}{o:Option α}{x:α}(e:o=some x):o≠none:=by rw[e];exact fun z=>by cases z
structure TopF (X:Cx):Prop where
 hs:X.stack=X.env::X.outer
 hfr:X.env.frame=some X.env.locals
 hex:X.ex=[]
theorem TopF.frs (t:TopF X):L2.frs X.stack=X.env.locals::X.fs:=by
 rw[t.hs];unfold Cx.fs L2.frs;rw[List.filterMap_cons,t.hfr]
section
variable {X:Cx} {pins:List (Addr×Obj)} {σ:St} {H H':Hp} {s s1 s2:Shared} {a T T':Addr} {C a0:Value} {E:XK}
theorem cx1_mk (tp:TopF X)(J:Inv X pins σ H' s1)(k:∀b o,s1.heap.get? b=some o->b∉L2.frs X.stack->b≠a->b≠T->s2.heap.get? b=some o)
  (sl:∀b o,b∈L2.frs X.stack->s1.heap.get? b=some o->∃sl,s2.heap.get? b=some {o with slots:=sl})
  (na:X.s₀.heap.get? a=none) (nT:X.s₀.heap.get? T=none) (nT':X.s₀.heap.get? T'=none) (ha:H' a=none) (hT:H' T=none) (hT':H' T'=none)
  (fl:Flies s2.heap a T' C a0) (os:s2.os=s1.os) (g:AllBare s2.gens) (hE:E C none H'):CX1 X.prog X.w X.outer X.H₀ X.s₀ E (.ref a) s2:=by
 have bs:=J.base
 rw[tp.hex]at bs
 refine⟨a,T',C,a0,H',rfl,os.trans J.os,g,zq4 bs (fun b o hb e nf=>k b o e ?_ ?_ ?_) (fun b o hb e=>sl b o ?_ e) (fun _ _ q=>q) (fun _ _ q=>q),hok_more J.hok (fun b o hb e=>k b o e (fun z=>hb (J.stkFree b z)) (fun z=>hb (z ▸ ha)) fun z=>hb (z ▸ hT)),fl,⟨na,nT'⟩,⟨ha,hT'⟩,hE⟩
 ·rw[tp.frs]
  intro z
  rcases List.mem_cons.mp z with z|z
  ·obtain⟨ob,eb⟩:∃ob,X.s₀.heap.get? b=some ob:=Option.ne_none_iff_exists'.mp hb
   have h1:=Heap.lt_size eb
   have h2:=J.ok.above
   rw[z]at h1;exact absurd (Nat.lt_of_lt_of_le h1 h2) (Nat.lt_irrefl _)
  ·exact nf z
 ·intro z;exact hb (z ▸ na)
 ·intro z;exact hb (z ▸ nT)
 ·rw[tp.frs];exact List.mem_cons_of_mem _ hb
theorem zgN (J:Inv X pins σ H' s1)(hex:X.ex=[]){b:Addr}(e:s1.heap.get? b=none):X.s₀.heap.get? b=none:=by
 cases q:X.s₀.heap.get? b with
 |none=>rfl
 |some o=>
  obtain⟨o',e'⟩:=J.base.there b o q (by rw[hex];simp)
  rw[e]at e';cases e'
noncomputable abbrev znE (X:Cx)(E:XK):Value->Shared->Prop:=fun e s'=>wpAny (model X.prog X.w) X.A (leaving X.env e) (fun _ s''=>CX1 X.prog X.w X.outer X.H₀ X.s₀ E e s'') (fun e' s''=>CX1 X.prog X.w X.outer X.H₀ X.s₀ E e' s'') s'
theorem zjy (J:Inv X pins σ H s)(as:List Addr)(h:∀b∈L2.frs X.stack,b∈as):s.heap.FunFrames (W.hideAll s.heap as) X.stack:=W.funFrames_hide J.stack fun env he a' ef=>h a' (List.mem_filterMap.mpr ⟨env,he,ef⟩)
theorem passes1 (tp:TopF X)(hxe:X.xe=znE X E):zoE (CX1 X.prog X.w) X E:=by
 intro pins σ H s e s' I hc
 obtain⟨a,T,C,a0,H',rfl,os,bare,un,hok,⟨oe,vs,oT,ts,e1,e2,e4,e5,e6,e7,e8,e9⟩,⟨na,nT⟩,⟨ha,hT⟩,hE⟩:=hc
 have J:Inv X pins σ H' s':=I.call' os un hok bare fun b z=>absurd z (by simp)
 rw[hxe]
 have ff0:=zjy J (a::T::L2.frs X.stack) fun b hb=>List.mem_cons_of_mem _ (List.mem_cons_of_mem _ hb)
 rw[tp.hs]at ff0
 refine wpAny_leaving_nextW (base:=W.hideAll s'.heap (a::T::L2.frs X.stack)) (outer:=X.outer) (by rw[<-tp.hs];exact J.ok.frames) (by rw[tp.hs];exact ff0) tp.hfr
  ⟨oe,vs,T,oT,ts,e1,e2,e4,e5,W.hideAll_none _ (by simp),e6,e7,e8,e9⟩ (fun b o q=>W.of_hideAll _ q) (W.hideAll_none _ (by simp)) fun h' left=>?_
 obtain⟨stay,ff,⟨oe',vs',T',oT',ts',q1,q2,q4,q5,q6,q7,q8,q9,q10⟩,up⟩:=left
 have nofield:∀b∈L2.frs X.stack,∃o,s'.heap.get? b=some o/\∀vs:Array Value,o.data≠Data.fields vs:=fun b hb=>(J.stack.mem hb).2
 have fr':T'∉L2.frs X.stack:=fun z=>by
  obtain⟨_,o,ho,nd⟩:=ff.mem (by rw[<-tp.hs];exact z)
  rw[q8]at ho;cases ho;exact nd _ q9
 have hT2:X.s₀.heap.get? T'=none/\H' T'=none:=by
  cases z:s'.heap.get? T' with
  |none=>exact⟨zgN J tp.hex z,ze4 J.hok z⟩
  |some o=>
   by_cases m:T'∈a::T::L2.frs X.stack
   ·rcases List.mem_cons.mp m with m|m
    ·exact absurd m q7
    ·rcases List.mem_cons.mp m with m|m
     ·subst m;exact⟨zgN I tp.hex nT,hT⟩
     ·exact absurd m fr'
   ·rw[W.hideAll_get _ z m]at q6;cases q6
 refine cx1_mk (T:=T) (T':=T') (a0:=a0) tp J (fun b o e nf n1 n2=>stay b o (W.hideAll_get _ e ?_)) (fun b o hb e=>?_) (zgN I tp.hex na) (zgN I tp.hex nT) hT2.1 ha hT hT2.2 ⟨oe',vs',oT',ts',q1,q2,q4,q5,q7,q8,q9,q10⟩ rfl J.bare hE
 ·intro m
  rcases List.mem_cons.mp m with m|m
  ·exact n1 m
  ·rcases List.mem_cons.mp m with m|m
   ·exact n2 m
   ·exact nf m
 ·obtain⟨o',ho',nd⟩:=nofield b hb
  rw[e]at ho';cases ho'
  exact up b o e nd
theorem raises1 (tp:TopF X)(hxe:X.xe=znE X E)(J:Inv X pins σ H s){e:Addr}{C:Value}(m:s.heap.MadeExcOf h' e C vs)(hE:E C none H):X.xe (.ref e) {s with heap:=h',toks:=tk}:=by
 rw[hxe]
 have ff0:=zjy J (L2.frs X.stack) fun b hb=>hb
 refine wpAny_leaves_madeW (base:=W.hideAll s.heap (L2.frs X.stack)) (h:=s.heap) (outer:=X.outer) (args:=vs) (cls:=C) (by rw[<-tp.hs];exact J.ok.frames) tp.hfr (fun b o q=>W.of_hideAll _ q) (by rw[<-tp.hs];exact ff0) m fun h2 t fl _ _ up=>?_
 obtain⟨stay,ne,ff,⟨oe',vs',T',oT',ts',q1,q2,q4,q5,q6,q7,q8,q9,q10⟩⟩:=fl
 have nofield:∀b∈L2.frs X.stack,∃o,s.heap.get? b=some o/\∀vs:Array Value,o.data≠Data.fields vs:=fun b hb=>(J.stack.mem hb).2
 have fr':T'∉L2.frs X.stack:=fun z=>by
  obtain⟨o,ho,nd⟩:=nofield _ z
  obtain⟨sl,h3⟩:=up T' o (m.keeps _ _ ho) nd
  rw[q8]at h3;cases h3;exact nd _ q9
 have hT0:s.heap.get? T'=none:=by
  cases z:s.heap.get? T' with
  |none=>rfl
  |some o=>rw[W.hideAll_get _ z fr']at q6;cases q6
 have hT2:X.s₀.heap.get? T'=none/\H T'=none:=⟨zgN J tp.hex hT0,ze4 J.hok hT0⟩
 refine cx1_mk (T:=T') (T':=T') (a0:= .ref t) tp J (fun b o e nf n1 n2=>stay b o (W.hideAll_get _ e nf)) (fun b o hb e=>?_) (zgN J tp.hex m.new) hT2.1 hT2.1 (ze4 J.hok m.new) hT2.2 hT2.2 ⟨oe',vs',oT',ts',q1,q2,q4,q5,q7,q8,q9,q10⟩ rfl J.bare hE
 obtain⟨o',ho',nd⟩:=nofield b hb
 rw[e]at ho';cases ho'
 exact up b o (m.keeps _ _ e) nd
end
noncomputable abbrev MX:=R->Option Str
noncomputable abbrev zpo (K:W.Frag)(c:Str)(C:Addr):Prop:=W.nsIn K mainGlobals c=some (some (.ref C))
noncomputable def WishN (K:W.Frag)(B:Bs)(E:XK)(c:Str):Prop:=∀H' C,(∀b o,B.H b=some o->(∀i,(i,b)∉B.O)->H' b=some o)->zpo K c C->E (.ref C) none H'
noncomputable def zmi (X:Cx)(S:St->Prop)(E:XK):Prop:=∀pins σ H s e s',Inv X pins σ H s->S σ->CX1 X.prog X.w X.stack H s E e s'->X.xe e s'
section
variable (X:Cx) (S:St->Prop) (E:XK)
noncomputable def XE (e:Expr)(x:MX):Prop:=∃t,PE X e t/\∀B G H σ ρ c,SI X.K B G H σ ρ->S σ->x ρ=some c->WishN X.K B E c->∀Q,t σ H Q
noncomputable def XI (tg it:Expr)(x:MX):Prop:=∃t,PI X tg it t/\∀B G H σ ρ c,SI X.K B G H σ ρ->S σ->x ρ=some c->WishN X.K B E c->∀Q,t σ H Q
noncomputable def XS (st:Stmt)(x:MX):Prop:=∃t,PS X st t/\∀B G H σ ρ c,SI X.K B G H σ ρ->S σ->x ρ=some c->WishN X.K B E c->∀D,t D σ H
noncomputable def XSs (st:List Stmt)(x:MX):Prop:=∃t,PSs X st t/\∀B G H σ ρ c,SI X.K B G H σ ρ->S σ->x ρ=some c->WishN X.K B E c->∀D,t D σ H
end
noncomputable def spX (K:W.Frag)(n:Nat)(F:List D->Option Str):Sp:=fun vs H _ E=>∃G ds c,F ds=some c/\ds.length=n/\Fz G H/\RepL K G vs ds/\∀H' C,Fz H H'->zpo K c C->E (.ref C) none H'
structure FDX (P:Program) (w:World) (K:W.Frag) (mg:Str->Option Value) (base:Heap) (k:Nat) (x:Str) (sp:Sp):Prop where
 ex:∃f fd ps,FnOk P w K mg base (CX1 P w) k f fd ps sp/\mg x=some (.ref f)/\W.keepIn K (.ref f)=true/\Binds K fd ps []
noncomputable def zkF (F:List D->Option Str)(ma:MA):MX:=fun ρ=>(ma ρ).bind fun p=>F p.1
noncomputable def xIf (c:MT)(a:MX):MX:=fun ρ=>(c ρ).bind fun p=>if p.1 then a p.2 else none
noncomputable def xSeq (m:MS)(x:MX):MX:=fun ρ=>(m ρ).bind fun p=>match p.1 with
 | .next=>x p.2
 |_=>none
noncomputable def xOr (a b:MX):MX:=fun ρ=>match a ρ with
 |some c=>some c
 |none=>b ρ
noncomputable def fX (N:Nat)(x:MX):List D->Option Str:=fun ds=>x (ds.map .val++List.replicate (N-ds.length) .emp)
section
variable {X:Cx} {S:St->Prop} {E:XK} {x:Str} {p pos:Pos} {e:Expr} {es:List Expr} {ma:MA} {k k' n:Nat} {F:List D->Option Str} {mx:MX}
theorem zhm (fd:FDX X.prog X.w X.K X.mg X.base k x (spX X.K n F))(hx:zmi X S E)(hr:Room k' X.A)(ha:SA X (e::es) ma)(hk:autoParam (k<=k') zu1._auto_1)(hg:autoParam (Gl X x) zu2._auto_1)(hdb:autoParam ((x==("__debug__":Str))=false) zu1._auto_1)
  (he:autoParam (starEach (e::es) X.env=(false,eval e X.env)::starEach es X.env) zu2._auto_1) (hpl:autoParam ((backTo pos (starEach es X.env)).any (·.1)=false) zu2._auto_1) (hlen:∀ρ as ρ',ma ρ=some (as,ρ')->as.length=n):XE X S E (.Call (.Name x p) (e::es) [] pos) (zkF F ma):=by
 obtain⟨f,fdd,ps,G0,h1,h2,h3⟩:=fd.ex
 obtain⟨t,pa,sa⟩:=ha
 refine⟨fun σ H Q=>S σ/\t σ H fun vs H1=>spX X.K n F vs H1 Q E,?_,fun B G H σ ρ c I hS hm w Q=>⟨hS,?_⟩⟩
 ·rintro pins s σ H Q I ⟨hS,h⟩
  refine wpAny_Call_Name_kw (zj1 I hg h1 ?_ hdb)
  refine W.callWith_K (h₀:=X.base) I.ok.mod.kin h2 (thn (pa pos pins s σ H _ I h) fun us s1 ⟨vs,H1,I1,r,q⟩=>⟨I1.kIn,?_⟩) he hpl
  have hl:us.length=ps.length:=by rw[<-r.length];exact G0.len _ _ _ _ q
  have hb:=h3 s1 us I1.kIn (by rw[List.append_nil];exact hl)
  rw[List.append_nil]at hb
  refine wpAny_call (codeAny_mono (G0.run X.A X.stack s1 H1 ⟨us,[]⟩ us vs Q E (hr.mono hk) I1.env0 hb r q) fun r s' hq=>?_)
  cases r with
  |error e=>exact hx pins σ H1 s1 e s' I1 hS hq
  |ok fl=>
   cases fl with
   |ret u=>exact I1.after hq
   |next=>exact False.elim hq
   |brk=>exact False.elim hq
   |cont=>exact False.elim hq
 ·obtain⟨⟨as,ρ1⟩,e1,hm⟩:=zah hm
  refine sa B G H σ ρ as ρ1 _ I e1 fun G1 H1 vs I1 f1 r1=>⟨G1,as,c,hm,hlen ρ as ρ1 e1,I1.fz,r1,fun H' C fz hC=>w H' C (fun b o q hn=>fz b o (I1.keep b o q hn)) hC⟩
theorem pa_no:PA X es (fun _ _ _=>False):=fun _ _ _ _ _ _ _ h=>h.elim
theorem xe_arg (fd:FD X.prog X.w X.K X.mg X.base k x (spP X.K n F'))(hr:Room k' X.A)(ha:XE X S E e mx)(hk:autoParam (k<=k') zu1._auto_1)(hg:autoParam (Gl X x) zu2._auto_1)(hdb:autoParam ((x==("__debug__":Str))=false) zu1._auto_1)
  (he:autoParam (starEach (e::es) X.env=(false,eval e X.env)::starEach es X.env) zu2._auto_1) (hpl:autoParam ((backTo pos (starEach es X.env)).any (·.1)=false) zu2._auto_1):XE X S E (.Call (.Name x p) (e::es) [] pos) mx:=by
 obtain⟨f,fdd,ps,G0,h1,h2,h3⟩:=fd.ex
 obtain⟨t,pa,sa⟩:=ha
 exact⟨_,zkd G0 (hr.mono hk) hg h1 h2 h3 .nil zp9 (zbY pa pa_no he) hdb he hpl,fun B G H σ ρ c I hS hm w Q=>sa B G H σ ρ c I hS hm w _⟩
theorem zp6 (h:XE X S E e mx):XI X S E tg e mx:=by
 obtain⟨t,pt,st⟩:=h
 refine⟨fun σ H _=>∀Q,t σ H Q,fun pins s σ H R I h=>?_,fun B G H σ ρ c I hS hm w _ Q=>st B G H σ ρ c I hS hm w Q⟩
 exact wpAny_mono (pt pins s σ H (fun _ _=>False) I (h _)) (fun v s1 ⟨_,_,_,_,q⟩=>q.elim) fun _ _ q=>q
theorem xi_enum {ek:Nat}{ep:Pos}(hm:X.mg "enumerate"=none)(h:XE X S E e mx)(hg:autoParam (Gl X "enumerate") zu2._auto_1)(hs:autoParam (starEach [e] X.env=(false,eval e X.env)::starEach [] X.env) zu2._auto_1)(hs2:autoParam ((backTo pos (starEach [] X.env)).any (·.1)=false) zu2._auto_1):
  XI X S E (.Tuple elts ek ep) (.Call (.Name "enumerate" p) [e] [] pos) mx:=by
 obtain⟨t,pt,st⟩:=h
 exact⟨_,zp4 hg hm (zbY pt zfj hs) hs hs2,fun B G H σ ρ c I hS hm w Q=>st B G H σ ρ c I hS hm w _⟩
theorem xe_lc {tg it elt:Expr}(cap:List Nat)(t:Nat)(N:List Str)(hc:X.calm=true)(hi:XI X S E tg it mx)(hk:autoParam (scope.kind= .function) zu2._auto_1)(hb:autoParam (blkB X.env scope=true) zu2._auto_1)(hcap:autoParam (capB scope.names N X.N cap t=true) zu2._auto_1)
    (hs:autoParam (∀v,foldedSetIterable it X.env v=pure v) zu8._auto_1):XE X S E (.ListComp elt [⟨tg,it,ifs,0⟩] scope pos) mx:=by
  obtain⟨wi,pi,st⟩:=hi
  exact⟨_,pe_lc hc (zjb hk hb) (zj4 hcap) pi (g:=fun _ _ _ _ _ _ _ _=>False) (tt:=fun _ _ _ _ _ _ _=>False) (te:=fun _ _ _ _ _ _ _=>False) (fun _ _ _ _ _ _ _ _ _ _ _ _ _ h=>h.elim) (fun _ _ _ _ _ _ _ _ _ _ h=>h.elim) (fun _ _ _ _ _ _ _ _ _ _ h=>h.elim) hs,
    fun B G H σ ρ c I hS hm w Q=>st B G H σ ρ c I hS hm w _⟩
theorem xs_ret (h:XE X S E e mx):XS X S E (.Return (some e) pos) mx:=by
 obtain⟨t,pt,st⟩:=h
 exact⟨_,zmm pt,fun B G H σ ρ c I hS hm w D=>st B G H σ ρ c I hS hm w _⟩
theorem znB (h:XE X S E e mx)(hs:autoParam (swapsWith e none pos.line X.env=pure false) zu2._auto_1):XS X S E (.Expr e pos) mx:=by
 obtain⟨t,pt,st⟩:=h
 exact⟨_,znY pt hs,fun B G H σ ρ c I hS hm w D=>st B G H σ ρ c I hS hm w _⟩
theorem xs_set (i:Nat)(h:XE X S E e mx)(hN:X.N.Nodup)(hi:autoParam (X.N[i]? =some y) zu2._auto_1)(hx:autoParam (Loc X.env.scope y) zu9._auto_1)(hs:autoParam (swapsWith e (some (.Name y pos')) pos.line X.env=pure false) zu2._auto_1)(hf:autoParam (X.fn y=true\/X.env.scope.names.lookup y=some .local) zu11._auto_1):
  XS X S E (.Assign [.Name y pos'] e pos) mx:=by
 obtain⟨t,pt,st⟩:=h
 exact⟨_,zmM hN hi hx pt hs hf,fun B G H σ ρ c I hS hm w D=>st B G H σ ρ c I hS hm w _⟩
theorem xs_if {c:Expr}{a b:List Stmt}{mc:MT}(hc:STt X c mc)(ha:XSs X S E a mx):XS X S E (.If c a b pos) (xIf mc mx):=by
 obtain⟨tc,pc,sc⟩:=hc
 obtain⟨t,pt,st⟩:=ha
 refine⟨_,ps_if (u:=fun _ _ _=>False) pc pt (fun _ _ _ _ _ _ h=>h.elim),fun B G H σ ρ c I hS hm w D=>?_⟩
 obtain⟨⟨b,ρ1⟩,e1,hm⟩:=zah hm
 refine sc B G H σ ρ b ρ1 _ I e1 fun G1 H1 I1 f1=>?_
 cases b with
 |true=>rw[if_pos rfl];exact st B G1 H1 σ ρ1 c I1 hS (by simpa using hm) w D
 |false=>simp at hm
theorem zbs {st:Stmt}{rest:List Stmt}(h:XS X S E st mx):XSs X S E (st::rest) mx:=by
 obtain⟨t,pt,so⟩:=h
 exact⟨_,zhX (u:=fun _ _ _=>False) pt (fun _ _ _ _ _ _ h=>h.elim),fun B G H σ ρ c I hS hm w D=>so B G H σ ρ c I hS hm w _⟩
theorem zlX {st:Stmt}{rest:List Stmt}{m:MS}(h:SS X st m)(hr:XSs X (fun _=>True) E rest mx):XSs X (fun _=>True) E (st::rest) (xSeq m mx):=by
 obtain⟨t,pt,so⟩:=h
 obtain⟨u,pu,su⟩:=hr
 refine⟨_,zhX pt pu,fun B G H σ ρ c I hS hm w D=>?_⟩
 obtain⟨⟨fl,ρ1⟩,e1,hm⟩:=zah hm
 cases fl with
 |next=>exact so B G H σ ρ .next ρ1 _ I e1 fun G1 H1 σ1 I1 f1=>su B G1 H1 σ1 ρ1 c I1 trivial hm w D
 |brk=>cases hm
 |cont=>cases hm
 |ret _=>cases hm
theorem xss_or {st:List Stmt}{a b:MX}(ha:XSs X S E st a)(hb:XSs X S E st b):XSs X S E st (xOr a b):=by
 obtain⟨t,pt,so⟩:=ha
 obtain⟨u,pu,su⟩:=hb
 refine⟨fun D σ H=>t D σ H\/u D σ H,fun pins s σ H D I h=>h.elim (pt pins s σ H D I) (pu pins s σ H D I),fun B G H σ ρ c I hS hm w D=>?_⟩
 unfold xOr at hm
 cases e:a ρ with
 |some r=>rw[e]at hm;cases hm;exact .inl (so B G H σ ρ c I hS e w D)
 |none=>rw[e]at hm;exact .inr (su B G H σ ρ c I hS hm w D)
end
noncomputable abbrev bmV:List Value:=[.type "ValueError",.type "Exception",.type "BaseException",.type "object"]
theorem zo9 {N:Addr}{ep:Nat}{sl:Array (Option Value)}(l:K.lookup N=some ⟨cN,dN,.dict es.toArray ep,sl⟩)(o:(es.all fun e=>match e.key with
  | .str _ _=>true
  |_=>false)=true):W.nsOkIn K N=true:=by
 unfold W.nsOkIn
 have l':List.lookup N K=some ⟨cN,dN,.dict es.toArray ep,sl⟩:=l
 rw[l']
 dsimp only
 rw[List.all_toArray]
 exact o
noncomputable def OwnK (K:W.Frag)(C:Addr):Prop:=∀(h:Heap) (mg:Str->Option Value) (x:Str),K.In h->mg x=some (.ref C)->OwnCls x C bmV "ValueError.__new__" mg h
theorem zl4 {C CS N NS:Addr}{nm q nmS qS:Str}{bs bsS:List Value}{hdct hS:Bool}{sn snS:List Str}{sub subS:List Value}{ab abS:Bool}{col colS:Option Bool}{dd ddS:Option Addr}{k0 k1 k2 k3 k5 j0 j1 j2 j3 j5:Option Value}
  (l1:K.lookup C=some (excClassObj nm q C N bs (.ref CS::bmV) hdct sn sub ab col dd k0 k1 k2 k3 k5 "ValueError.__new__")) (l2:K.lookup CS=some (excClassObj nmS qS CS NS bsS bmV hS snS subS abS colS ddS j0 j1 j2 j3 j5 "ValueError.__new__"))
  (i1:W.nsIn K N "__init__"=some none) (i2:W.nsIn K NS "__init__"=some none) (o1:W.nsOkIn K N=true) (o2:W.nsOkIn K NS=true):OwnK K C:=fun h mg x kin hm=>
 ⟨hm,.ref CS::bmV,N,nm,q,bs,hdct,sn,sub,ab,col,dd,k0,k1,k2,k3,k5,h.nsMap N,kin _ _ l1,Heap.Ns.of_isNs (W.isNs_of_in kin o1),W.nsMap_none_of_in kin o1 i1,
  .own (kin _ _ l2) (Heap.Ns.of_isNs (W.isNs_of_in kin o2)) (W.nsMap_none_of_in kin o2 i2) .base⟩
section
variable {X:Cx} {E:XK} {S:St->Prop}
noncomputable abbrev RaiOk (K:W.Frag)(mg:Str->Option Value)(c:Str):Prop:=∃C,mg c=some (.ref C)/\zpo K c C/\OwnK K C
end
section
variable {P:Program} {w:World} {K:W.Frag} {mg:Str->Option Value} {base:Heap}
theorem zoL {E:XK}:TopF (cxOf (CX1 P w) P w K mg base N qual scope f cd A outer s H E):=⟨rfl,rfl,rfl⟩
theorem zhP {E:XK}:zmi (cxOf (CX1 P w) P w K mg base N qual scope f cd A outer s H E) (fun _=>True) E:=fun pins σ H1 s1 e s' I _ h=>passes1 zoL rfl pins σ H1 s1 e s' I h
theorem fnX_ok {st:Stmt}{N ps:List Str}{k n:Nat}{m:MX}(F:Fun K x qual st f fd)(S:FnScope N ps (zaC st))(hn:ps.length=n)(hN:n<=N.length)
  (body:∀(cdv:Value) (A:Around) (outer:List Env) (s:Shared) (H:Hp) (E:XK),Room k (A.deeper (envOfC qual (zaC st) s.heap.objs.size f cdv))->XSs (cxOf (CX1 P w) P w K mg base N qual (zaC st) f cdv A outer s H E) (fun _=>True) E (zbW st) m):
  FnOk P w K mg base (CX1 P w) (k+1) f fd ps (spX K n (fX N.length m)):=by
 obtain⟨oc,od,kV,doc,pm,an,cdv,ct,osl,rfl,lk,hcd⟩:=F.ex
 refine fn_of lk hcd S (fun vs H Q E h=>?_) fun A outer s H vs Q E hr h=>?_
 ·obtain⟨G,ds,c,_,h2,_,h4,_⟩:=h
  rw[h4.length,h2,hn]
 ·obtain⟨G,ds,c,e1,h2,fz,h4,kk⟩:=h
  obtain⟨t,pt,so⟩:=body cdv A outer s H E hr
  exact⟨t,pt,so ⟨G,H,[]⟩ G H (L2.start N vs) _ c (SI.start fz h4 (by lia)) trivial e1 (fun H' C kp hC=>kk H' C (fun b o q=>kp b o q (by simp)) hC) _⟩
end
section
variable {X:Cx} {pins:List (Addr×Obj)} {σ:St} {H:Hp} {s:Shared}
theorem zmQ {M:Model}(I:Inv X pins σ H s)(hN:X.N.Nodup)(hj:X.N[j]? =some n)(hk:X.env.scope.names.lookup n=some .local)
  (h:∀s',Inv X pins (σ.set j none) H s'->Q () s'):wpAny M A (do bindName X.env n .none;unbindBehindTheSuite X.env n pos) Q E s:=by
 obtain⟨m,hn,hl⟩:=id I.loc
 have hcls:(X.env.scope.kind== .class||(X.env.scope.kind== .module&&X.env.locals !=X.env.globals))=false:=by rw[I.ok.kind];rfl
 have hiσ:j<σ.length:=by rw[I.len];exact(List.getElem?_eq_some_iff.mp hj).1
 have cne:=I.cne
 have tracked:∀{a:Addr} {h':Heap},(∃o,s.heap.get? a=some o/\H a=none)->Heap.SameBut a s.heap h'->HOk X.prog X.w H h':=fun{a h'} ha hs b ob e=>by
  obtain⟨_,_,hfree⟩:=ha
  refine(I.hok b ob e).stay (fun c w' hc q=>(hs.2 c ?_).trans q) (fun _ q=>q) (fun _ _ q=>q) fun _ _ _ q=>q
  rintro rfl
  rcases hc with rfl|hc
  ·rw[hfree]at e;cases e
  ·rw[hfree]at hc;cases hc
 refine wpAny_nameGoes_keeps hk hn hcls fun h' v hn' hs=>?_
 obtain⟨oL,_,_,hoL,_⟩:=id hn
 refine h _ ⟨I.ok,I.os,I.bare,⟨fun b o e n hb hx=>?_,fun b o e n hb hx=>?_,I.base.free,fun b o e hx=>?_,I.base.tups,I.base.frzs,I.base.tbls⟩,⟨_,hn',fun i y v' e1 e2 e3=>?_⟩,fun y c e=>?_,I.free,I.freeC,fun p hp=>?_,tracked ⟨oL,hoL,I.free⟩ hs,by simpa using I.len⟩
 ·exact(hs.2 b (Nat.ne_of_lt (Nat.lt_of_lt_of_le (Heap.lt_size e) I.ok.above))).trans (I.base.keep b o e n hb hx)
 ·obtain⟨sl,e1⟩:=I.base.slot b o e n hb hx
  exact⟨sl,(hs.2 b (Nat.ne_of_lt (Nat.lt_of_lt_of_le (Heap.lt_size e) I.ok.above))).trans e1⟩
 ·obtain⟨o',e1⟩:=I.base.there b o e hx
  exact⟨o',(hs.2 b (Nat.ne_of_lt (Nat.lt_of_lt_of_le (Heap.lt_size e) I.ok.above))).trans e1⟩
 ·by_cases hij:i=j
  ·subst hij
   rw[List.getElem?_set_self hiσ]at e2
   cases e2
  ·rw[List.getElem?_set_ne (Ne.symm hij)]at e2
   obtain⟨u',r',q⟩:=hl i y v' e1 e2 e3
   refine⟨u',r',?_⟩
   rcases q with⟨k,e⟩|⟨k,c,e,z⟩
   ·refine .inl ⟨k,?_⟩
    have:y≠n:=fun e=>hij (zlZ hN e1 (e ▸ hj))
    simp[this,e]
   ·exact .inr ⟨k,c,e,z.sameBut hs (cne y c e)⟩
 ·obtain⟨w',z⟩:=I.cell y c e
  exact⟨w',z.sameBut hs (cne y c e)⟩
 ·obtain⟨e,n,ne,nf,d⟩:=I.pin p hp
  exact⟨(hs.2 p.1 ne).trans e,n,ne,nf,d⟩
noncomputable abbrev mkE (X:Cx)(a:Addr):Cx:={X with A:=X.A.mark (some (.ref a)),calm:=false,xe:=fun _ _=>False}
theorem zn5 (I:Inv X pins σ H s):Inv (mkE X a) pins σ H s:=
 ⟨⟨I.ok.mod,I.ok.kind,I.ok.glob,I.ok.blt,I.ok.above,I.ok.inj,I.ok.has,I.ok.cab,(fun z=>by cases z),I.ok.frames,I.ok.stk,I.ok.exf,I.ok.bs,I.ok.bsz,I.ok.noex,I.ok.exfs,I.ok.funs,I.ok.frf⟩,I.os,I.bare,I.base,I.loc,I.cell,I.free,I.freeC,I.pin,I.hok,I.len⟩
theorem zoa (hd:X.calm=true->X.A.handled=none)(I:Inv (mkE X a) pins σ H s):Inv X pins σ H s:=
 ⟨⟨I.ok.mod,I.ok.kind,I.ok.glob,I.ok.blt,I.ok.above,I.ok.inj,I.ok.has,I.ok.cab,hd,I.ok.frames,I.ok.stk,I.ok.exf,I.ok.bs,I.ok.bsz,I.ok.noex,I.ok.exfs,I.ok.funs,I.ok.frf⟩,I.os,I.bare,I.base,I.loc,I.cell,I.free,I.freeC,I.pin,I.hok,I.len⟩
structure Held (X:Cx) (a T:Addr) (C a0:Value) (h1 h:Heap):Prop where
 stay:(W.hideAll h1 (a::T::L2.frs X.stack)).StaysIn h
 ff:h.FunFrames (W.hideAll h1 (a::T::L2.frs X.stack)) (X.env::X.outer)
 tr:h.TracedW (W.hideAll h1 (a::T::L2.frs X.stack)) a C a0
 up:∀b o,b∈L2.frs X.stack->h1.get? b=some o->∃sl,h.get? b=some {o with slots:=sl}
theorem zjw {H':Hp}{s1:Shared}{a T C':Addr}{a0:Value}(I:Inv X pins σ H s)(os:s1.os=s.os)(bare:AllBare s1.gens)(un:Un (L2.frs X.stack) [] H H' s.heap s1.heap)(hok:HOk X.prog X.w H' s1.heap)(na:s.heap.get? a=none)(nT:s.heap.get? T=none)(ha:H' a=none)(hT:H' T=none)
  (J:Inv X pins σ H' s1) (x:Held X a T (.ref C') a0 s1.heap h):Inv X pins σ (upd H' a (.ext (zlN a C'))) {s1 with heap:=h,toks:=tk}:=by
 obtain⟨oe,vs,T',oT,ts,q1,⟨q2,_⟩,_⟩:=x.tr
 have kk:∀b o,s1.heap.get? b=some o->b∉L2.frs X.stack->b≠a->b≠T->h.get? b=some o:=fun b o e nf n1 n2=>x.stay b o (W.hideAll_get _ e fun m=>by
  rcases List.mem_cons.mp m with m|m
  ·exact n1 m
  ·rcases List.mem_cons.mp m with m|m
   ·exact n2 m
   ·exact nf m)
 refine I.call' (ch:=[]) os (zq4 un (fun b o hb e nf=>kk b o e nf (fun z=>hb (z ▸ na)) fun z=>hb (z ▸ nT)) x.up (fun b hb e=>?_) fun b o e=>?_) (fun b o e=>?_) bare fun b z=>absurd z (by simp)
 ·rw[zar (show b≠a from fun z=>hb (z ▸ na))];exact e
 ·rw[zar (zax e ha)];exact e
 ·by_cases z:b=a
  ·subst z
   rw[zaA]at e
   cases e
   exact⟨⟨oe,q1,q2⟩,⟨oe,q1⟩,fun h1 h2 ⟨o,e,c⟩ k=>⟨o,k o e,c⟩⟩
  ·rw[zar z]at e
   refine(hok b o e).stay (fun c u hc q=>kk c u q ?_ ?_ ?_) (fun c q=>by rw[zar (zax q ha)];exact q) (fun c xs q=>by rw[zar (zax q ha)];exact q) fun c _ _ q=>by rw[zar (zax q ha)];exact q
   ·intro m
    have:=J.stkFree c m
    rcases hc with rfl|hc
    ·rw[this]at e;cases e
    ·rw[this]at hc;cases hc
   ·rintro rfl
    rcases hc with rfl|hc
    ·exact z rfl
    ·rw[ha]at hc;cases hc
   ·rintro rfl
    rcases hc with rfl|hc
    ·rw[hT]at e;cases e
    ·rw[hT]at hc;cases hc
theorem caught {s1:Shared}{E2:XK}{D:Ends}{y n hc:Str}{hp p1 p2 p3 pos:Pos}(tp:TopF X)(I:Inv X pins σ H s)(hN:X.N.Nodup)(hi:X.N[i]? =some y)(hj:X.N[j]? =some n)(hij:i≠j)
  (ly:X.env.scope.names.lookup y=some .local) (ln:X.env.scope.names.lookup n=some .local) (hdn:(n==("__debug__":Str))=false) (hcn:(n==("__classdict__":Str))=false) (hg:Gl X hc) (hm:X.mg hc=some (.ref CS)) (hdh:(hc==("__debug__":Str))=false) (hsw:swapsWith (.Name n p2) (some (.Name y p1)) p3.line X.env=pure false)
  (hE:∀C H',E2 C none H'->∃C',C= .ref C'/\W.exmOne X.K (.ref C') (.ref CS)=some true/\∀a,H' a=none->D.nx ((σ.set i (some (.ref a))).set j none) (upd H' a (.ext (zlN a C'))))
  (c:CX1 X.prog X.w X.stack H s E2 ev s1) {F:Value->Shared->Prop}:
  wpAny (model X.prog X.w) X.A (noteFrame ev X.env) (fun _ s₂=>wpAny (model X.prog X.w) X.A (setFlight ev none) (fun _ s₃=>wpAny (model X.prog X.w) X.A (handleBy ev X.env [.ExceptHandler (some (.Name hc hp)) (some n) [.Assign [.Name y p1] (.Name n p2) p3] pos]) (SP X pins D) F s₃) F s₂) F s1:=by
 obtain⟨a,T,C,a0,H',rfl,os,bare,un,hok,⟨oe,vs,oT,ts,e1,e2,e4,e5,e6,e7,e8,e9⟩,⟨na,nT⟩,⟨ha,hT⟩,hE1⟩:=c
 obtain⟨C',rfl,hex,hD⟩:=hE C H' hE1
 have hD:=hD a ha
 have J:Inv X pins σ H' s1:=I.call' os un hok bare fun b z=>absurd z (by simp)
 have ff0:=zjy J (a::T::L2.frs X.stack) fun b hb=>List.mem_cons_of_mem _ (List.mem_cons_of_mem _ hb)
 have ff1:s1.heap.FunFrames (W.hideAll s1.heap (a::T::L2.frs X.stack)) (X.env::X.outer):=by
  have:=ff0
  generalize W.hideAll s1.heap (a::T::L2.frs X.stack)=B at this ⊢
  rw[tp.hs]at this
  exact this
 have nofield:∀b∈L2.frs X.stack,∃o,s1.heap.get? b=some o/\∀vs:Array Value,o.data≠Data.fields vs:=fun b hb=>(J.stack.mem hb).2
 refine wpAny_noteFrame_onW (base:=W.hideAll s1.heap (a::T::L2.frs X.stack)) (outer:=X.outer) (by rw[<-tp.hs];exact J.ok.frames) ff1 tp.hfr
  ⟨oe,vs,T,oT,ts,e1,e2,e4,e5,W.hideAll_none _ (by simp),e6,e7,e8,e9⟩ (fun b o q=>W.of_hideAll _ q) (W.hideAll_none _ (by simp)) fun h2 nt=>?_
 obtain⟨stay2,ff2,tr2,up2⟩:=nt
 refine wpAny_setFlight_noneW stay2 ff2 tr2 fun h3 stay3 ff3 tr3 up3=>?_
 have held3:Held X a T (.ref C') a0 s1.heap h3:=⟨stay3,ff3,tr3,fun b o hb e=>by
  obtain⟨o',ho',nd⟩:=nofield b hb
  rw[e]at ho';cases ho'
  obtain⟨sl,e2⟩:=up2 b o e nd
  exact⟨sl,up3 b _ e2 nd⟩⟩
 have J3:=zjw (tk:=s1.toks) I os bare un hok na nT ha hT J held3
 have hd:=I.ok.hd
 refine wpAny_handleBy_cons ?_ (fun z=>nomatch z)
 refine codeAny_handlers_test (zj1 (X:=mkE X a) (zn5 J3) hg hm ?_ hdh)
 obtain⟨oe3,_,_,_,_,q1,⟨q2,_⟩,_⟩:=id tr3
 refine W.exm_one (M:=model X.prog X.w) J3.kIn (zjH q1 q2) hex _ _ _ _ (fun _ _ q=>q) ?_
 rw[if_pos rfl]
 dsimp only
 refine codeAny_handlers_suite_as (wpAny_setFlight_noneW stay3 ff3 tr3 fun h4 stay4 ff4 tr4 up4=>?_)
 have held4:Held X a T (.ref C') a0 s1.heap h4:=⟨stay4,ff4,tr4,fun b o hb e=>by
  obtain⟨o',ho',nd⟩:=nofield b hb
  rw[e]at ho';cases ho'
  obtain⟨sl,e2⟩:=held3.up b o hb e
  exact⟨sl,up4 b _ e2 nd⟩⟩
 have J4:=zjw (tk:=s1.toks) I os bare un hok na nT ha hT J held4
 refine zh0 (X:=X) (v:= .ref a) J4 hN hj (.inl ln) rfl (fun s5 J5=>?_) (.inr ln)
 have hb:=(zhX (X:=mkE X a) (zmM (X:=mkE X a) hN hi (.inl ly) (zfw (X:=mkE X a) hj (.inl ln) hdn hcn) hsw (.inr ly)) znF) pins s5 _ _ {nx:=fun σ' H''=>σ'=(σ.set j (some (.ref a))).set i (some (.ref a))/\H''=upd H' a (.ext (zlN a C')),rt:=fun _ _=>False} (zn5 J5)
 have hjσ:j<σ.length:=by rw[I.len];exact(List.getElem?_eq_some_iff.mp hj).1
 refine wpAny_mono (hb ⟨.ref a,?_,rfl,rfl⟩) (fun f s6 q=>?_) fun _ _ q=>q.elim
 ·rw[List.getElem?_set_self hjσ]
 ·cases f with
  |next=>
   obtain⟨σ',H'',J6,rfl,rfl⟩:=q
   dsimp only
   refine zmQ (zoa hd J6) hN hj ln fun s7 J7=>⟨_,_,J7,?_⟩
   have:(((σ.set j (some (.ref a))).set i (some (.ref a))).set j none)=(σ.set i (some (.ref a))).set j none:=by
    rw[List.set_comm _ _ hij,List.set_set,List.set_comm _ _ hij]
   rw[this]
   exact hD
  |brk=>obtain⟨_,_,_,z⟩:=q;exact z.elim
  |cont=>obtain⟨_,_,_,z⟩:=q;exact z.elim
  |ret u=>obtain⟨_,_,_,_,_,z⟩:=q;exact z.elim
end
theorem SI.drop (I:SI K B G H σ ρ)(i:Nat):SI K B G H (σ.set i none) (ρ.set i .emp):=
 I.chg I.fz (Fz.refl G) I.new I.keep I.there (fun _ _ _ _ _ _ g _=>⟨g,rfl,id⟩) trivial
noncomputable abbrev tryB (X:Cx)(pins:List (Addr×Obj))(E:Value->Shared->Prop):Cx:={X with pn:=X.pn++pins,xe:=E}
section
variable {X:Cx} {pins:List (Addr×Obj)} {σ:St} {H:Hp} {s:Shared} {E:Value->Shared->Prop}
theorem zqV (I:Inv X pins σ H s):Inv (tryB X pins E) [] σ H s:=
 ⟨⟨I.ok.mod,I.ok.kind,I.ok.glob,I.ok.blt,I.ok.above,I.ok.inj,I.ok.has,I.ok.cab,I.ok.hd,I.ok.frames,I.ok.stk,I.ok.exf,I.ok.bs,I.ok.bsz,I.ok.noex,I.ok.exfs,I.ok.funs,I.ok.frf⟩,I.os,I.bare,I.base,I.loc,I.cell,I.free,I.freeC,fun p hp=>I.pin p (by simpa using hp),I.hok,I.len⟩
theorem zfI (I:Inv (tryB X pins E) pins' σ H s):Inv X pins σ H s:=
 ⟨⟨I.ok.mod,I.ok.kind,I.ok.glob,I.ok.blt,I.ok.above,I.ok.inj,I.ok.has,I.ok.cab,I.ok.hd,I.ok.frames,I.ok.stk,I.ok.exf,I.ok.bs,I.ok.bsz,I.ok.noex,I.ok.exfs,I.ok.funs,I.ok.frf⟩,I.os,I.bare,I.base,I.loc,I.cell,I.free,I.freeC,fun p hp=>I.pin p (List.mem_append_left _ hp),I.hok,I.len⟩
theorem sp_untry {D:Ends}{f:Flow}(h:SP (tryB X pins E) [] D f s):SP X pins D f s:=by
 cases f with
 |next=>obtain⟨σ',H',I,q⟩:=h;exact⟨σ',H',zfI I,q⟩
 |brk=>obtain⟨σ',H',I,q⟩:=h;exact⟨σ',H',zfI I,q⟩
 |cont=>obtain⟨σ',H',I,q⟩:=h;exact⟨σ',H',zfI I,q⟩
 |ret u=>obtain⟨v,σ',H',I,r,q⟩:=h;exact⟨v,σ',H',zfI I,r,q⟩
end
noncomputable def sTry (m:MS)(x:MX)(ok:List Str)(i j:Nat):MS:=fun ρ=>match x ρ with
 |some c=>if zdb ρ then if ok.contains c then some (.next,(ρ.set i (.val (.exc c))).set j .emp)else none else none
 |none=>m ρ
noncomputable abbrev CatOk (K:W.Frag)(mg:Str->Option Value)(hc:Str)(ok:List Str):Prop:=∃CS,mg hc=some (.ref CS)/\∀c,ok.contains c=true->∃C,zpo K c C/\W.exmOne K (.ref C) (.ref CS)=some true
noncomputable def rIsO (K:W.Frag)(cv:Value):List V->Hp->VK->Prop:=fun xs H Q=>∃a C u b,xs=[.ref a,u]/\(∀w,RelV u w->w=cv)/\H a=some (.ext (zlN a C))/\ExcC K C/\W.kitOne K (.ref C) cv=some b/\Q (.bl b) H
theorem call_isO (cv:Value):zhw X (.builtin "isinstance") (rIsO X.K cv):=by
 intro pins s σ H xs us Q I r h
 obtain⟨a,C,v,b,rfl,rv,ea,f,e,q⟩:=h
 obtain⟨u,w',rfl,r1,r2⟩:=vals2 r
 cases(show u=Value.ref a from r1)
 have:w'=cv:=rv w' r2
 subst this
 exact zoR f I.kIn (I.hok a _ ea).1 e fun tk=>⟨.bl b,H,I.tok _,rfl,q⟩
noncomputable def eIsO (tab:List (Str×Bool))(ma:ME):ME:=fun ρ=>(ma ρ).bind fun p=>match p.1 with
 | .exc c=>(tab.lookup c).map fun b=>(.bl b,p.2)
 |_=>none
noncomputable abbrev zqI (K:W.Frag)(cv:Value)(tab:List (Str×Bool)):Prop:=∀c b,tab.lookup c=some b->∃C,zpo K c C/\ExcC K C/\W.kitOne K (.ref C) cv=some b
section
variable {X:Cx} {a:Expr} {ma:ME} {p q pos:Pos} {tab:List (Str×Bool)} {x:Str}
theorem zko {v:V}{b:Expr}(hcv:∀w,RelV v w->w=cv)(ml:X.mg "isinstance"=none)(ht:zqI X.K cv tab)(ha:SE X a ma)(pb:PE X b (tC v))(hg:autoParam (Gl X "isinstance") zu2._auto_1)
  (he:autoParam (starEach [a,b] X.env=(false,eval a X.env)::starEach [b] X.env) zu2._auto_1) (he2:autoParam (starEach [b] X.env=(false,eval b X.env)::starEach [] X.env) zu2._auto_1) (hpl:autoParam ((backTo pos (starEach [b] X.env)).any (·.1)=false) zu2._auto_1):
  SE X (.Call (.Name "isinstance" p) [a,b] [] pos) (eIsO tab ma):=by
 obtain⟨ta,pa,sa⟩:=ha
 refine⟨_,zjB (call_isO cv) hg ml boot_isinstance (zbY pa (zbY pb zfj he2) he) (by decide) (by decide) he hpl,fun B G H σ ρ d ρ' Q I hm k=>?_⟩
 obtain⟨⟨y,ρ1⟩,e1,hm⟩:=zah hm
 refine sa B G H σ ρ y ρ1 _ I e1 fun G1 H1 u I1 f1 r1=>?_
 cases y with
 |exc c=>
  obtain⟨b,e2,e3⟩:=zau hm
  cases e3
  obtain⟨C,hC,f,hk⟩:=ht c b e2
  obtain⟨a',C',rfl,hC',ga⟩:=r1
  have hC':W.nsIn X.K mainGlobals c=some (some (.ref C')):=hC'
  have:C'=C:=by rw[hC]at hC';cases hC';rfl
  subst this
  exact⟨a',C',v,b,rfl,hcv,I1.fz _ _ ga,f,hk,k G1 H1 _ I1 f1 rfl⟩
 |non=>cases hm
 |bl _=>cases hm
 |int _=>cases hm
 |str _=>cases hm
 |lst _=>cases hm
 |tup _=>cases hm
 |scr _=>cases hm
 |dic _ _=>cases hm
 |dit _ _=>cases hm
theorem se_isO {C2:Addr}(ml:X.mg "isinstance"=none)(mC:X.mg x=some (.ref C2))(ht:zqI X.K (.ref C2) tab)(ha:SE X a ma)(hg:autoParam (Gl X "isinstance") zu2._auto_1)(hgx:autoParam (Gl X x) zu2._auto_1)(hd:autoParam ((x==("__debug__":Str))=false) zu1._auto_1)
  (he:autoParam (starEach [a,.Name x q] X.env=(false,eval a X.env)::starEach [.Name x q] X.env) zu2._auto_1) (he2:autoParam (starEach [.Name x q] X.env=(false,eval (.Name x q) X.env)::starEach [] X.env) zu2._auto_1) (hpl:autoParam ((backTo pos (starEach [.Name x q] X.env)).any (·.1)=false) zu2._auto_1):
  SE X (.Call (.Name "isinstance" p) [a,.Name x q] [] pos) (eIsO tab ma):=zko (v:= .ref C2) (fun w r=>r) ml ht ha (pe_glob hgx mC rfl hd) hg he he2 hpl
theorem se_isOT {T:String}(ml:X.mg "isinstance"=none)(mT:X.mg x=none)(hbT:bootBuiltins x=some (.type T))(ht:zqI X.K (.type T) tab)(ha:SE X a ma)(hg:autoParam (Gl X "isinstance") zu2._auto_1)(hgx:autoParam (Gl X x) zu2._auto_1)(hn:autoParam (x≠"__name__") zu1._auto_1)(hd:autoParam ((x==("__debug__":Str))=false) zu1._auto_1)
  (he:autoParam (starEach [a,.Name x q] X.env=(false,eval a X.env)::starEach [.Name x q] X.env) zu2._auto_1) (he2:autoParam (starEach [.Name x q] X.env=(false,eval (.Name x q) X.env)::starEach [] X.env) zu2._auto_1) (hpl:autoParam ((backTo pos (starEach [.Name x q] X.env)).any (·.1)=false) zu2._auto_1):
  SE X (.Call (.Name "isinstance" p) [a,.Name x q] [] pos) (eIsO tab ma):=zko (v:= .ty T) (fun w r=>r) ml ht ha (pe_bltn (v:= .ty T) hgx mT hbT rfl hn hd) hg he he2 hpl
end
noncomputable abbrev IsOk (K:W.Frag)(mg:Str->Option Value)(c:Str)(tab:List (Str×Bool)):Prop:=∃C2,mg c=some (.ref C2)/\zqI K (.ref C2) tab
theorem zeu {a:Expr}{ma:ME}{p q pos:Pos}{tab:List (Str×Bool)}(ml:X.mg "isinstance"=none)(h:IsOk X.K X.mg x tab)(ha:SE X a ma)(hg:autoParam (Gl X "isinstance") zu2._auto_1)(hgx:autoParam (Gl X x) zu2._auto_1)(hd:autoParam ((x==("__debug__":Str))=false) zu1._auto_1)
  (he:autoParam (starEach [a,.Name x q] X.env=(false,eval a X.env)::starEach [.Name x q] X.env) zu2._auto_1) (he2:autoParam (starEach [.Name x q] X.env=(false,eval (.Name x q) X.env)::starEach [] X.env) zu2._auto_1) (hpl:autoParam ((backTo pos (starEach [.Name x q] X.env)).any (·.1)=false) zu2._auto_1):
  SE X (.Call (.Name "isinstance" p) [a,.Name x q] [] pos) (eIsO tab ma):=let⟨_,h1,h2⟩:=h;se_isO ml h1 h2 ha hg hgx hd he he2 hpl
theorem cat_nil {P:Str->Prop}:∀c,([]:List Str).contains c=true->P c:=fun c h=>by simp at h
theorem zlU {P:Str->Prop}{d:Str}{ok:List Str}(h:P d)(t:∀c,ok.contains c=true->P c):∀c,(d::ok).contains c=true->P c:=fun c hc=>by
 rw[List.contains_cons,Bool.or_eq_true]at hc
 rcases hc with hc|hc
 ·rw[eq_of_beq hc];exact h
 ·exact t c hc
theorem zdE {P:Str->Bool->Prop}:∀c b,([]:List (Str×Bool)).lookup c=some b->P c b:=fun c b h=>by cases h
theorem zav {P:Str->Bool->Prop}{b0:Bool}{tab:List (Str×Bool)}(h:P d b0)(t:∀c b,tab.lookup c=some b->P c b):∀c b,((d,b0)::tab).lookup c=some b->P c b:=fun c b hc=>by
 rw[List.lookup_cons]at hc
 cases z:c==d with
 |true=>rw[z]at hc;cases hc;rw[eq_of_beq z];exact h
 |false=>rw[z]at hc;exact t c b hc
theorem zaU {cd:ClassData}{sl:Array (Option Value)}(l:K.lookup C=some ⟨oc,od,.cls cd,sl⟩):(W.clsIn K C).isSome=true:=by
 unfold W.clsIn
 have l':List.lookup C K=some ⟨oc,od,.cls cd,sl⟩:=l
 rw[l'];rfl
theorem zl8 (h:W.mroIn K C (.type "BaseException")=some true):W.exmOne K (.ref C) (.type "BaseException")=some true:=by
 unfold W.exmOne W.kitCls
 have e1:W.subIn K (.type "BaseException") (.type "BaseException")=some true:=by unfold W.subIn;dsimp only;decide+kernel
 have e2:W.kitMeta "BaseException"=true:=by decide+kernel
 rw[e1,if_pos (by rfl)]
 dsimp only
 rw[if_pos e2]
 exact h
theorem znV (hb:W.mroIn K CS (.type "BaseException")=some true)(hc:(W.clsIn K CS).isSome=true)(ht:W.typeIn K (.ref CS)=some (.type "type"))(hm:W.mroIn K C (.ref CS)=some true):W.exmOne K (.ref C) (.ref CS)=some true:=by
 unfold W.exmOne W.kitCls
 have e1:W.subIn K (.ref CS) (.type "BaseException")=some true:=hb
 rw[e1,if_pos (by rfl)]
 dsimp only
 rw[hc,ht,if_pos (by rfl)]
 exact hm
theorem zpL {C C2:Addr}(hc:(W.clsIn K C2).isSome=true)(ht:W.typeIn K (.ref C2)=some (.type "type"))(hm:W.mroIn K C (.ref C2)=some b):W.kitCls K (.ref C) (.ref C2)=some b:=by
 unfold W.kitCls
 dsimp only
 rw[hc,ht,if_pos (by rfl)]
 exact hm
theorem zgO {C C2:Addr}(hc:(W.clsIn K C2).isSome=true)(ht:W.typeIn K (.ref C2)=some (.type "type"))(hm:W.mroIn K C (.ref C2)=some true):W.kitOne K (.ref C) (.ref C2)=some true:=by
 unfold W.kitOne
 split
 ·rfl
 ·exact zpL hc ht hm
theorem zaF {C C2:Addr}(hs:W.mroIn K C (.ref C)=some true)(hc:(W.clsIn K C2).isSome=true)(ht:W.typeIn K (.ref C2)=some (.type "type"))(hm:W.mroIn K C (.ref C2)=some false):W.kitOne K (.ref C) (.ref C2)=some false:=by
 unfold W.kitOne
 split
 ·rename_i z
  have z:=eq_of_beq z
  cases z
  rw[hs]at hm;cases hm
 ·exact zpL hc ht hm
theorem zlr {T:String}(hk:W.kitMeta T=true)(hm:W.mroIn K C (.type T)=some b):W.kitOne K (.ref C) (.type T)=some b:=by
 unfold W.kitOne W.kitCls
 rw[if_neg (by simp)]
 dsimp only
 rw[if_pos hk]
 exact hm
noncomputable def blsOf:List D->Option (List Bool)
 |[]=>some []
 | .bl b::ds=>(blsOf ds).map (b:: ·)
 |_=>none
theorem zoD:∀{ds:List D} {bs:List Bool},blsOf ds=some bs->ds=bs.map .bl
 |[],bs,h=>by cases h;rfl
 | .bl b::ds,bs,h=>by
  obtain⟨cs,e1,e2⟩:=zau h
  cases e2
  rw[zoD e1];rfl
 | .non::_,_,h=>by cases h
 | .int _::_,_,h=>by cases h
 | .str _::_,_,h=>by cases h
 | .lst _::_,_,h=>by cases h
 | .tup _::_,_,h=>by cases h
 | .scr _::_,_,h=>by cases h
 | .exc _::_,_,h=>by cases h
 |(.dic _ _)::_,_,h=>by cases h
 |(.dit _ _)::_,_,h=>by cases h
theorem zpx:∀{bs:List Bool} {xs:List V},RepL K G xs (bs.map D.bl)->xs=bs.map V.bl
 |[],xs,h=>h
 |b::bs,xs,⟨x,ys,e,r,t⟩=>by rw[e,show x=V.bl b from r,zpx t];rfl
theorem zna (k:Bool):∀bs:List Bool,Spec.countIn (PyData.bool k) (bs.map PyData.bool)=(bs.count k:Nat)
 |[]=>rfl
 |b::bs=>by
  have ih:=zna k bs
  show(if _ then(1:Int)else 0)+Spec.countIn (PyData.bool k) (bs.map PyData.bool)=_
  rw[ih,List.count_cons]
  have h1:same (PyData.bool true) (PyData.bool true)=true:=by decide+kernel
  have h2:same (PyData.bool true) (PyData.bool false)=false:=by decide+kernel
  have h3:same (PyData.bool false) (PyData.bool true)=false:=by decide+kernel
  have h4:same (PyData.bool false) (PyData.bool false)=true:=by decide+kernel
  cases k<;>cases b<;>simp[h1,h2,h3,h4]<;>lia
theorem zmY:∀{bs:List Bool} {us:List Value},Vals (bs.map V.bl) us->ReadsAll h us (bs.map PyData.bool) (bs.map fun _=>[]).flatten
 |[],us,r=>by cases r;exact .nil
 |b::bs,us,r=>by
  cases r with
  |cons r1 r2=>
   cases(show _=Value.bool b from r1)
   exact .cons (.bool b) (zmY r2)
noncomputable def rCount (K:W.Frag):V->List V->Hp->VK->Prop:=fun x vs H Q=>∃(l:Addr) (bs:List Bool) (k:Bool),x= .ref l/\vs=[.bl k]/\SqL K H l (bs.map V.bl)/\Q (.int (bs.count k:Nat)) H
theorem mt_count:MtR X "list.count" (rCount X.K):=by
 intro pins s σ H x vs v us Q I rx rv h
 obtain⟨l,bs,k,rfl,rfl,hq,q⟩:=h
 cases rx
 obtain⟨u,rfl,ru⟩:=rv.one
 cases(show u=Value.bool k from ru)
 obtain⟨its,r,p,hz⟩:=I.list hq
 refine count_list_bools p.isList (zmY (h:=s.heap) r) (by simp[Spec.Shape.has]) ⟨.int (bs.count k:Nat),H,I.tok _,⟨_,by rw[zna]⟩,q⟩
noncomputable def zqn:D->D->Option D
 | .lst ds,.bl k=>(blsOf ds).map fun bs=> .int (bs.count k:Nat)
 |_,_=>none
theorem se_count {mo me:ME}(ho:SE X o mo)(he:SE X e me)
  (hbase:autoParam (attributeBase o "count" X.env (eval o X.env)=eval o X.env) zu2._auto_1)
  (hfew :autoParam (((backTo cpos (starEach [e] X.env)).all (fun x => !x.1) && (backToKw cpos (keywordEach [] X.env)).all (fun x => x.1.isSome)
   &&decide ([e].length+([]:List Keyword).length+(if([]:List Keyword).isEmpty then 0 else 1)<30))=true) zu2._auto_1)
  (hline:autoParam ((apos.endLine==cpos.line)=true) zu2._auto_1) (hs:autoParam (starEach [e] X.env=(false,eval e X.env)::starEach [] X.env) zu2._auto_1):SE X (.Call (.Attribute o "count" apos) [e] [] cpos) (m2 zqn mo me):=by
 obtain⟨to,po,so⟩:=ho
 obtain⟨te,pe,se⟩:=he
 refine⟨_,pe_bm PySem.F.plainAttrs_list PySem.F.slot_list_count PySem.F.type_list_count mt_count po (zbY pe zfj hs) hbase hfew hline hs rfl,fun B G H σ ρ d ρ' Q I hm k=>?_⟩
 obtain⟨⟨d1,ρ1⟩,e1,hm⟩:=zah hm
 obtain⟨⟨d2,ρ2⟩,e2,hm⟩:=zah hm
 obtain⟨d3,e3,hm⟩:=zau hm
 cases hm
 refine so B G H σ ρ d1 ρ1 _ I e1 fun G1 H1 v I1 f1 r1=>?_
 match d1,d2,e3 with
 | .lst ds,.bl b,e3=>
  obtain⟨bs,e4,e3⟩:=zau e3
  cases e3
  obtain⟨a,xs,rfl,ha,rr⟩:=r1
  refine⟨.inl ⟨rfl,xs,SqL.of (I1.fz _ _ ha)⟩,?_⟩
  refine se B G1 H1 σ ρ1 _ ρ2 _ I1 e2 fun G2 H2 u I2 f2 r2=>?_
  cases(show u=V.bl b from r2)
  cases zoD e4
  have ex:xs=bs.map V.bl:=zpx (rr.mono f2)
  subst ex
  exact⟨a,bs,b,rfl,rfl,SqL.of (I2.fz _ _ (f2 _ _ ha)),k G2 H2 _ I2 (f1.trans f2) rfl⟩
section
variable {X:Cx} {S:St->Prop} {E:XK} {mx:MX} {elt iter tg:Expr} {ifs:List Expr} {scope:Scope} {pos lpos pos':Pos}
theorem xs_setLC (i:Nat)(cap:List Nat)(t:Nat)(N:List Str)(hc:X.calm=true)(hi:XI X S E tg iter mx)(hN:X.N.Nodup)
    (hxi:autoParam (X.N[i]? =some x) zu2._auto_1) (hx:autoParam (Loc X.env.scope x) zu9._auto_1) (hf:autoParam (X.fn x=true\/X.env.scope.names.lookup x=some .local) zu9._auto_1)
    (hsw:autoParam (swapsWith (.ListComp elt [⟨tg,iter,ifs,0⟩] scope lpos) (some (.Name x pos')) pos.line X.env=pure true) zu2._auto_1)
    (hk:autoParam (scope.kind= .function) zu2._auto_1) (hb:autoParam (blkB X.env scope=true) zu10._auto_1) (hcap:autoParam (capB scope.names N X.N cap t=true) zu10._auto_1)
    (hs:autoParam (∀x,foldedSetIterable iter X.env x=pure x) zu8._auto_1):XS X S E (.Assign [.Name x pos'] (.ListComp elt [⟨tg,iter,ifs,0⟩] scope lpos) pos) mx:=by
  obtain⟨wi,pi,st⟩:=hi
  exact⟨_,zjD hN hxi hx hf hsw hc (zjb hk hb) (zj4 hcap) pi (tg':=fun _ _ _ _ _ _ _ _=>False) (tt:=fun _ _ _ _ _ _ _=>False) (te:=fun _ _ _ _ _ _ _=>False) (fun _ _ _ _ _ _ _ _ _ _ _ _ _ h=>h.elim) (fun _ _ _ _ _ _ _ _ _ _ h=>h.elim) (fun _ _ _ _ _ _ _ _ _ _ h=>h.elim) hs,
    fun B G H σ ρ c I hS hm w Q=>st B G H σ ρ c I hS hm w _⟩
end
section
variable {X:Cx} {E:XK} {S:St->Prop}
theorem zjK {c m:Str}{np cp cpos pos:Pos}{j:Nat}(tp:TopF X)(hxe:X.xe=znE X E)(hgl:X.env.globals=mainGlobals)(hc:X.calm=true)(hr:RaiOk X.K X.mg c)
  (hg:autoParam (Gl X c) zu2._auto_1) (hd:autoParam ((c==("__debug__":Str))=false) zu1._auto_1)
  (he:autoParam (starEach [Expr.Constant (.str m) j cp] X.env=(false,eval (.Constant (.str m) j cp) X.env)::starEach [] X.env) zu2._auto_1) (hpl:autoParam (((backTo cpos (starEach [] X.env)).any (·.1))=false) zu2._auto_1):
  XS X S E (.Raise (some (.Call (.Name c np) [.Constant (.str m) j cp] [] cpos)) none pos) (fun _=>some c):=by
 obtain⟨C,hm,hn,hC⟩:=hr
 refine⟨fun D σ H=>E (.ref C) none H,fun pins s σ H D I h=>?_,fun B G H σ ρ c' I hS hm' w D=>?_⟩
 ·obtain⟨mm,fr⟩:=I.fr
  have own:=hC X.base X.mg c I.ok.mod.kin hm
  have pa:=(zbY (X:=X) (pe_str (X:=X) (x:=m) (j:=j) (pos:=cp)) zfj he) cpos pins s σ H (fun vs H1=>vs.length=1/\H1=H) I ⟨rfl,rfl⟩
  have kd:X.env.kindOf c=some .globalImplicit:=hg
  have gl:=I.ok.mod.glob.keeps fr.keep
  rw[<-hgl]at gl
  obtain⟨v1,v2,v3,v4,v5,v6,v7,v8,v9,v10,v11,v12,v13,v14,v15,v16,v17,o1,o2,o3,o4⟩:=own.obj
  refine wpAny_Raise_call_subT (bm:=v1) (N:=v2) (nm:=v3) (q:=v4) (bs:=v5) (hdct:=v6) (sn:=v7) (sub:=v8) (ab:=v9) (col:=v10) (dd:=v11) (k0:=v12) (k1:=v13) (k2:=v14) (k3:=v15) (k5:=v16) F.excBase_ValueError (o4.hasType F.excBase_ValueError.hasBase) (I.ok.hd hc) ?pl o3 (Calls.Name_function_global I.ok.kind kd (Calls.loadGlobal_global gl own.bound ⟨rfl,?_⟩) hd)
  case pl=>rw[he];exact hpl
  rw[he]at pa ⊢
  refine Calls.evalArgs_plain (wpAny_mono pa (fun us s2 ⟨vs,H1,I1,r,q1,q2⟩=>?_) fun _ _ q=>q)
  subst q2
  refine⟨rfl,?_,I1.bk _ _ o1,o2.keeps I1.bk,o4.keeps I1.bk,fun h' e mk=>raises1 (tk:=s2.toks) tp hxe I1 mk h⟩
  rw[<-r.length,q1];decide
 ·cases hm'
  exact w H C (fun b o q hn=>I.keep b o q hn) hn
end
end M
namespace M
open L2 PySem
noncomputable def likeS:Sl->Sl->Bool
 | .own ds,.own es=>match zbz ds,zbz es with
  |some a,some b=>a==b
  |_,_=>false
 | .par ds,.par es=>match zbz ds,zbz es with
  |some a,some b=>a==b
  |_,_=>false
 | .own _,_=>false
 | .par _,_=>false
 | .tre _,_=>false
 | .ptr _,_=>false
 |_,_=>true
end M
namespace M
open L2 PySem PySem.Spec
open PyProof.Rows hiding St
noncomputable def Sl.putT (s:Sl)(t:T):Sl:=match s with
 | .tre _=> .tre t
 | .ptr _=> .ptr t
 |s=>s
noncomputable def Sl.tree:Sl->Option T
 | .tre t=>some t
 |_=>none
section
variable {J κ:Type} [DecidableEq J] [DecidableEq κ]
noncomputable def lkD:List J->List D->J->Option D
 |k::ks,d::ds,j=>if k=j then some d else lkD ks ds j
 |_,_,_=>none
noncomputable def ptD (ks:List J)(ds:List D)(j:J)(d:D):List J×List D:=if ks.contains j then(ks,List.zipWith (fun k x=>if k=j then d else x) ks ds)else(ks++[j],ds++[d])
variable {K:W.Frag} {G:Hp} {em:J->κ}
end
noncomputable def Sl.dic:Sl->Option (List Int×List D)
 | .tre (.dic ks ds)=>some (ks,ds)
 | .val (.dic ks ds)=>some (ks,ds)
 |_=>none
noncomputable def tDI (j:Nat)(neg:Bool)(mk:ME):MT:=fun ρ=>(mk ρ).bind fun p=>match p.1 with
 | .int k=>(p.2[j]?.bind Sl.dic).map fun q=>(((lkD q.1 q.2 k).isSome !=neg),p.2)
 |_=>none
noncomputable def fzD (j:Nat)(ρ:R):R:=match ρ[j]? with
 |some (.tre (.dic ks ds))=>ρ.set j (.val (.dic ks ds))
 |_=>ρ
noncomputable def Ch.sl:Ch->Sl
 | .d x=> .val x
 | .l ds=> .own ds
 | .t xss=> .tre (.lst (xss.map .l))
noncomputable def putCs:List Nat->List Ch->R->R
 |i::is,c::cs,ρ=>putCs is cs (ρ.set i c.sl)
 |_,_,ρ=>ρ
noncomputable def sUnT (j:Nat)(is:List Nat):MS:=fun ρ=>match ρ[j]? with
 |some (.tre (.lst cs))=>if cs.length=is.length then some (.next,putCs is cs (ρ.set j .emp))else none
 |_=>none
end M
namespace M
open L2 PySem PySem.Spec
open PyProof.Rows hiding St
open Classical in
noncomputable def fMT (N:Nat)(m:MS):List D->T->List D->Option (Sl×List D):=fun cs t ds=>(m (.par cs:: .tre t::(ds.map .val++List.replicate (N-(ds.length+2)) .emp))).bind fun p=>match p.1,(p.2[0]?:Option Sl)with
 |Fl.ret r,some (Sl.par out)=>some (r,out)
 |Fl.next,some (Sl.par out)=>some (.val .non,out)
 |_,_=>none
noncomputable abbrev MP':=R->Option (List Ch×R)
noncomputable def cOwn (i:Nat)(r:MP'):MP':=fun ρ=>match ρ[i]? with
 |some (.own ds)=>(r (ρ.set i .emp)).map fun q=>(.l ds::q.1,q.2)
 |_=>none
end M
namespace M
open L2 PySem PySem.Spec
open PyProof.Rows hiding St
noncomputable def Ch.D:Ch->M.D
 | .d x=>x
 | .l ds=> .lst ds
 | .t xss=> .lst (xss.map .lst)
section
variable {K:W.Frag} {B:Bs} {G G' H H':Hp} {σ:St} {ρ:R}
theorem zoo {Gz:Hp}(fg:Fz G Gz):∀{xs:List V} {dss:List (List D)} {A:List Addr},RepTb K G H xs dss A->(∀a∈A,Gz a=H a)->RepL K Gz xs (dss.map .lst)
 |[],[],_,_,_=>rfl
 |x::xs,ds::dss,_,⟨r,ys,A2,e1,e2,e3,e4,e5⟩,h=>⟨x,xs,rfl,⟨r,ys,e1,by rw[h r (by rw[e5];simp)];exact e2,e3.mono fg⟩,zoo fg e4 fun a m=>h a (by rw[e5];simp[m])⟩
 |[],_::_,_,h,_=>h.elim
 |_::_,[],_,h,_=>h.elim
theorem zjG {Gz:Hp}(fg:Fz G Gz):∀{xs:List V} {cs:List Ch} {A:List Addr},RepCs K G H xs cs A->(∀a∈A,Gz a=H a)->RepL K Gz xs (cs.map Ch.D)
 |[],[],_,_,_=>rfl
 |x::xs,.d y::cs,_,⟨A1,A2,r1,r2,e⟩,h=>⟨x,xs,rfl,r1.1.mono fg,zjG fg r2 fun a m=>h a (by rw[e];exact List.mem_append_right _ m)⟩
 |x::xs,.l ds::cs,_,⟨A1,A2,⟨l,ys,e1,e2,e3,e4⟩,r2,e⟩,h=>⟨x,xs,rfl,⟨l,ys,e1,by rw[h l (by rw[e,e4];simp)];exact e2,e3.mono fg⟩,zjG fg r2 fun a m=>h a (by rw[e];exact List.mem_append_right _ m)⟩
 |x::xs,.t xss::cs,_,⟨A1,A2,⟨p,ys,A3,e1,e2,e3,e4⟩,r2,e⟩,h=>⟨x,xs,rfl,⟨p,ys,e1,by rw[h p (by rw[e,e4];simp)];exact e2,zoo fg e3 fun a m=>h a (by rw[e,e4];simp[m])⟩,zjG fg r2 fun a m=>h a (by rw[e];exact List.mem_append_right _ m)⟩
 |[],_::_,_,h,_=>h.elim
 |_::_,[],_,h,_=>h.elim
theorem nw_emp (I:SI K B G H σ ρ){i:Nat}{s:Sl}{a:Addr}(e:ρ[i]? =some s)(w:OwS K G H σ[i]? a s):Nw K G H σ (ρ.set i .emp) a:=fun j t ej w'=>by
 by_cases z:j=i
 ·subst z
  rw[List.getElem?_set,if_pos rfl]at ej
  split at ej
  ·cases ej;exact w'
  ·cases ej
 ·rw[List.getElem?_set_ne (Ne.symm z)]at ej
  exact I.dis j i t s a z ej e w' w
open Classical in
noncomputable def frA (G H:Hp)(A:List Addr):Hp:=fun b=>if b∈A then H b else G b
theorem zpT {G H:Hp}{A:List Addr}{b:Addr}(h:b∈A):frA G H A b=H b:=by unfold frA;rw[if_pos h]
theorem zl2 {G H:Hp}{A:List Addr}{b:Addr}(h:b∉A):frA G H A b=G b:=by unfold frA;rw[if_neg h]
theorem frA_fz {G H:Hp}{A:List Addr}(hA:∀a∈A,G a=none):Fz G (frA G H A):=fun b o e=>by
 rw[zl2 fun m=>by rw[hA b m]at e;cases e];exact e
theorem SI.frzA (I:SI K B G H σ ρ){A:List Addr}(hA:∀a∈A,G a=none/\B.H a=none/\Nw K G H σ ρ a):SI K B (frA G H A) H σ ρ:=
 I.move (fun a u q=>by
  by_cases m:a∈A
  ·rw[zpT m]at q;exact q
  ·rw[zl2 m]at q;exact I.fz a u q) (frA_fz fun a m=>(hA a m).1) (fun b u q=>by
  by_cases m:b∈A
  ·exact .inr (hA b m).2.1
  ·rw[zl2 m]at q;exact I.new b u q) I.keep I.there (fun i s a e w g _=>⟨by rw[zl2 fun m=>(hA a m).2.2 i s e w];exact g,rfl⟩)
end
noncomputable def sTA (i j:Nat):MS:=fun ρ=>match ρ[i]?,ρ[j]? with
 |some (.tre (.lst cs)),some (.own ds)=>if cs.length<16777216 then some (.next,(ρ.set j .emp).set i (.tre (.lst (cs++[.l ds]))))else none
 |_,_=>none
noncomputable abbrev MQ:=R->Option D
noncomputable def fzT (j:Nat)(ρ:R):R:=match ρ[j]? with
 |some (.tre (.lst cs))=>ρ.set j (.val (.lst (cs.map Ch.D)))
 |_=>ρ
end M
namespace M
local macro_rules | `(tactic| ac_rfl) => `(tactic| first | exact M.nA (by decide) | exact M.nB (by decide) | exact M.nC (by decide) | exact M.nL (by assumption) | exact Nat.ne_of_lt (by assumption) | lia)
open L2 PySem PySem.Spec
open PyProof.Rows hiding St
open Sem (wp)
variable {a b u:Value} {Q E:Value->Shared->Prop} {i:Nat} {prog:Program} {w:World} {A:Around} {s:Shared} {tg:Expr} {K:W.Frag} {X:Cx} {p pos:Pos}
noncomputable abbrev zeF (h:Heap)(z TI TO:Addr)(f0:Value)(b:Bool):Prop:=h.get? z=some {cls:= .type "zip",data:= .fields #[f0,.bool b,.bool false,.ref TI,.ref TO]}
noncomputable def ZipAt (h:Heap)(z TI TO:Addr):Prop:=∃f0 b,zeF h z TI TO f0 b/\(f0= .none\/∃T:Nat,f0=rawInt T)
section
variable {prog:Program} {w:World} {A:Around} {E:Value->Shared->Prop} {s:Shared}
theorem zpF {a:Addr}{Q:Option Obj->Shared->Prop}(h:Q (s.heap.get? a) s):wpAny (model prog w) A (loadIfAlive a) Q E s:=fun Γ p hΓ=>by
 show Sem.wp _ _ (Sem.loadIfAlive a Sem.pure) _ _ p s
 rw[Sem.wp_loadIfAlive]
 exact(wpAny_pure (M:=model prog w) (A:=A) (E:=E) h) Γ p hΓ
theorem zqa {z TI TO:Addr}{f0:Value}{b:Bool}(hz:zeF s.heap z TI TO f0 b)(hf:f0= .none\/∃T:Nat,f0=rawInt T){Q:Bool->Shared->Prop}(h1:Q true s)
  (h2:∀h',zeF h' z TI TO f0 true->Heap.SameBut z s.heap h'->Q false {s with heap:=h'}):wpAny (model prog w) A (Builtin.SmallTypes.ownedTupleIsFree (.ref z)) Q E s:=by
 unfold Builtin.SmallTypes.ownedTupleIsFree
 refine wpAny_bind (wpAny_field hz rfl (x:=f0) rfl ?_)
 rcases hf with rfl|⟨T,rfl⟩
 ·exact wpAny_pure h1
 ·refine(?_:wpAny _ _ (loadIfAlive _>>=_) _ _ _)
  refine wpAny_bind (zpF ?_)
  cases e:s.heap.get? (T:Int).toNat with
  |none=>exact wpAny_pure h1
  |some o=>
   refine(?_:wpAny _ _ (field (.ref z) 1>>=_) _ _ _)
   refine wpAny_bind (wpAny_field hz rfl (x:= .bool b) rfl ?_)
   cases b
   ·refine(?_:wpAny _ _ (setField (.ref z) 1 (.bool true)>>=_) _ _ _)
    exact wpAny_bind (wpAny_setField_rec hz (by simp) fun g1 z1 s1=>wpAny_pure (h2 g1 z1 s1))
   ·exact wpAny_pure (h2 s.heap hz ⟨rfl,fun _ _=>rfl⟩)
variable {N a1 a2:Nat} {n1 n2:Nat} {P1 P2:Nat->Value->Prop} {S1 S2:Nat->Heap->Prop}
theorem zpb (D1:Draws prog w A N [N,a1] n1 P1 S1)(D2:Draws prog w A (N+1) [N+1,a2] n2 P2 S2)(l1:a1<N)(l2:a2<N)
  (hz':ZipAt s.heap (N+4) (N+2) (N+3)) (hTI:IsPair s.heap (N+2) (.ref N) (.ref (N+1))) (hTO:IsPair s.heap (N+3) a b) (h1:S1 i s.heap) (h2:S2 i s.heap) (i1:i<n1) (i2:i<n2)
  (k : ∀ x y h' tk, P1 i x -> P2 i y -> ZipAt h' (N + 4) (N + 2) (N + 3) -> (∃ a b, IsPair h' (N + 3) a b) -> S1 (i + 1) h' -> S2 (i + 1) h' -> IsPair h' s.heap.objs.size x y ->
   (∀c o,c≠N->c≠N+1->c≠N+3->c≠N+4->s.heap.get? c=some o->h'.get? c=some o)->Q (.ref s.heap.objs.size) {s with heap:=h',toks:=tk}):
  wpAny (model prog w) A (Builtin.«zip.__next__» ⟨[.ref (N+4)],[]⟩) (fun fin s'=>∃v,fin= .done (.ret v)/\Q v s') E s:=by
 obtain⟨f0,bb,hz,hf⟩:=hz'
 refine(?_:wpAny _ _ (field (.ref (N+4)) 2>>=_) _ _ _)
 refine wpAny_bind (wpAny_field hz rfl (x:= .bool false) rfl (?_:wpAny _ _ (field (.ref (N+4)) 3>>=_) _ _ _))
 refine wpAny_bind (wpAny_field hz rfl (x:= .ref (N+2)) rfl (wpAny_bind (wpAny_seqItems hTI rfl (?_:wpAny _ _ (Builtin.SmallTypes.ownedTupleIsFree (.ref (N+4))>>=_) _ _ _))))
 refine wpAny_bind (zqa hz hf ?_ fun g0 z0 s0=>?_)
 ·simp only[if_true]
  refine wpAny_bind (wpAny_rule (wpAny_bind (wpAny_field hz rfl (x:= .ref (N+3)) rfl (wpAny_bind (wpAny_setField_rec hz (by simp) fun g1 z1 s1=>wpAny_bind ?_)))))
  replace z1:zeF g1 (N+4) (N+2) (N+3) .ellipsis bb:=z1
  simp only[List.zipIdx_cons,List.zipIdx_nil,List.forIn_cons,List.forIn_nil]
  refine wpAny_bind (wpAny_bind (wpAny_onRaise (?_:wpAny _ _ (Builtin.SmallTypes.nextOf (.ref N)>>=_) _ _ _)))
  have e1:S1 i g1:=D1.frame _ _ _ h1 fun b hb o e=>(s1.2 b (nin2 hb (by ac_rfl) (by ac_rfl))).trans e
  refine wpAny_bind (D1.item i _ _ _ i1 e1 fun x g2 t2 p1 f2 s2=>wpAny_pure ?_)
  have q2:IsPair g2 (N+3) a b:=(s2.2 _ (ne_ (by ac_rfl))).trans ((s1.2 _ (ne_ (by ac_rfl))).trans hTO)
  refine wpAny_bind (wpAny_seqItems q2 rfl (wpAny_bind (wpAny_updateSeq_pair q2 fun g3 q3 s3=>wpAny_bind (wpAny_letGo (wpAny_pure ?_)))))
  replace q3:IsPair g3 (N+3) x b:=q3
  refine wpAny_bind (wpAny_bind (wpAny_onRaise (?_:wpAny _ _ (Builtin.SmallTypes.nextOf (.ref (N+1))>>=_) _ _ _)))
  have e3:S2 i g3:=D2.frame _ _ _ h2 fun b hb o e=>(s3.2 b (nin2 hb (by ac_rfl) (by ac_rfl))).trans ((s2.2 b (nin2 hb (by ac_rfl) (by ac_rfl))).trans ((s1.2 b (nin2 hb (by ac_rfl) (by ac_rfl))).trans e))
  refine wpAny_bind (D2.item i _ _ _ i2 e3 fun y g4 t4 p2 f4 s4=>wpAny_pure ?_)
  have q4:IsPair g4 (N+3) x b:=(s4.2 _ (ne_ (by ac_rfl))).trans q3
  refine wpAny_bind (wpAny_seqItems q4 rfl (wpAny_bind (wpAny_updateSeq_pair q4 fun g5 q5 s5=>wpAny_bind (wpAny_letGo (wpAny_pure (wpAny_pure ?_))))))
  replace q5:IsPair g5 (N+3) x y:=q5
  have sz:g5.objs.size=s.heap.objs.size:=by rw[s5.1,s4.1,s3.1,s2.1,s1.1]
  have z5:zeF g5 (N+4) (N+2) (N+3) .ellipsis bb:=(s5.2 _ (ne_ (by ac_rfl))).trans ((s4.2 _ (ne_ (by ac_rfl))).trans ((s3.2 _ (ne_ (by ac_rfl))).trans ((s2.2 _ (ne_ (by ac_rfl))).trans z1)))
  have zl:(N+4:Nat)<g5.objs.size:=Heap.lt_size z5
  have k5:∀c o,c≠N->c≠N+1->c≠N+3->c≠N+4->s.heap.get? c=some o->g5.get? c=some o:=fun c o c1 c2 c3 c4 e=>(s5.2 c c3).trans ((s4.2 c c2).trans ((s3.2 c c3).trans ((s2.2 c c1).trans ((s1.2 c c4).trans e))))
  have f5:S1 (i+1) g5:=D1.frame _ _ _ f2 fun b hb o e=>(s5.2 b (nin2 hb (by ac_rfl) (by ac_rfl))).trans ((s4.2 b (nin2 hb (by ac_rfl) (by ac_rfl))).trans ((s3.2 b (nin2 hb (by ac_rfl) (by ac_rfl))).trans e))
  have f5':S2 (i+1) g5:=D2.frame _ _ _ f4 fun b hb o e=>(s5.2 b (nin2 hb (by ac_rfl) (by ac_rfl))).trans e
  refine wpAny_bind (wpAny_seqItems q5 rfl (wpAny_bind (wpAny_newTuple (?_:wpAny _ _ (Builtin.SmallTypes.ownedTupleHandOut (.ref (N+4)) (.ref g5.objs.size)>>=_) _ _ _))))
  refine wpAny_bind ?_
  unfold Builtin.SmallTypes.ownedTupleHandOut
  refine wpAny_bind (wpAny_setField_rec (show zeF (g5.push {cls:= .type "tuple",data:= .seq #[x,y]}) (N+4) (N+2) (N+3) .ellipsis bb from Heap.get?_push_of_some _ z5) (by simp) fun g7 z7 s7=>?_)
  replace z7:zeF g7 (N+4) (N+2) (N+3) (rawInt g5.objs.size) bb:=z7
  refine wpAny_setField_rec z7 (by simp) fun g8 z8 s8=>wpAny_pure ⟨_,rfl,?_⟩
  replace z8:zeF g8 (N+4) (N+2) (N+3) (rawInt g5.objs.size) false:=z8
  have up:∀c o,c≠N+4->g5.get? c=some o->g8.get? c=some o:=fun c o c1 e=>(s8.2 c c1).trans ((s7.2 c c1).trans (Heap.get?_push_of_some _ e))
  have T8:IsPair g8 g5.objs.size x y:=(s8.2 _ (ne_ (by ac_rfl))).trans ((s7.2 _ (ne_ (by ac_rfl))).trans (Heap.get?_push_size _ rfl))
  rw[sz]at z8 T8
  refine(?_:Q (.ref g5.objs.size) _)
  rw[sz]
  exact k x y g8 _ p1 p2 ⟨_,_,z8,.inr ⟨_,rfl⟩⟩ ⟨_,_,up _ _ (ne_ (by ac_rfl)) q5⟩ (D1.frame _ _ _ f5 fun b hb o e=>up b o (nin2 hb (by ac_rfl) (by ac_rfl)) e) (D2.frame _ _ _ f5' fun b hb o e=>up b o (nin2 hb (by ac_rfl) (by ac_rfl)) e) T8 fun c o c1 c2 c3 c4 e=>up c o c4 (k5 c o c1 c2 c3 c4 e)
 ·simp only[Bool.false_eq_true,if_false]
  simp only[List.forIn_toArray,List.forIn_cons,List.forIn_nil]
  have e0:S1 i g0:=D1.frame _ _ _ h1 fun b hb o e=>(s0.2 b (nin2 hb (by ac_rfl) (by ac_rfl))).trans e
  refine wpAny_bind (wpAny_bind (wpAny_bind (wpAny_holding (?_:wpAny _ _ (Builtin.SmallTypes.nextOf (.ref N)>>=_) _ _ _))))
  refine wpAny_bind (D1.item i _ _ _ i1 e0 fun x g2 t2 p1 f2 s2=>wpAny_pure (wpAny_pure ?_))
  refine wpAny_bind (wpAny_bind (wpAny_holding (?_:wpAny _ _ (Builtin.SmallTypes.nextOf (.ref (N+1))>>=_) _ _ _)))
  have e3:S2 i g2:=D2.frame _ _ _ h2 fun b hb o e=>(s2.2 b (nin2 hb (by ac_rfl) (by ac_rfl))).trans ((s0.2 b (nin2 hb (by ac_rfl) (by ac_rfl))).trans e)
  refine wpAny_bind (D2.item i _ _ _ i2 e3 fun y g4 t4 p2 f4 s4=>wpAny_pure (wpAny_pure (wpAny_pure ?_)))
  have sz:g4.objs.size=s.heap.objs.size:=by rw[s4.1,s2.1,s0.1]
  have z4:zeF g4 (N+4) (N+2) (N+3) f0 true:=(s4.2 _ (ne_ (by ac_rfl))).trans ((s2.2 _ (ne_ (by ac_rfl))).trans z0)
  have f4':S1 (i+1) g4:=D1.frame _ _ _ f2 fun b hb o e=>(s4.2 b (nin2 hb (by ac_rfl) (by ac_rfl))).trans e
  refine(?_:wpAny _ _ (newTuple [x,y]>>=_) _ _ _)
  refine wpAny_bind (wpAny_newTuple (wpAny_pure ⟨_,rfl,?_⟩))
  have k5:∀c o,c≠N->c≠N+1->c≠N+3->c≠N+4->s.heap.get? c=some o->g4.get? c=some o:=fun c o c1 c2 c3 c4 e=>(s4.2 c c2).trans ((s2.2 c c1).trans ((s0.2 c c4).trans e))
  have q4:IsPair g4 (N+3) a b:=(s4.2 _ (ne_ (by ac_rfl))).trans ((s2.2 _ (ne_ (by ac_rfl))).trans ((s0.2 _ (ne_ (by ac_rfl))).trans hTO))
  have T8:IsPair (g4.push {cls:= .type "tuple",data:= .seq #[x,y]}) g4.objs.size x y:=Heap.get?_push_size _ rfl
  rw[sz]at T8
  refine(?_:Q (.ref g4.objs.size) _)
  rw[sz]
  exact k x y _ _ p1 p2 ⟨_,_,Heap.get?_push_of_some _ z4,hf⟩ ⟨_,_,Heap.get?_push_of_some _ q4⟩ (D1.frame _ _ _ f4' fun b hb o e=>Heap.get?_push_of_some _ e) (D2.frame _ _ _ f4 fun b hb o e=>Heap.get?_push_of_some _ e) T8 fun c o c1 c2 c3 c4 e=>Heap.get?_push_of_some _ (k5 c o c1 c2 c3 c4 e)
theorem zpq {Q:Fin->Shared->Prop}(D1:Draws prog w A N [N,a1] n1 P1 S1)(D2:Draws prog w A (N+1) [N+1,a2] n2 P2 S2)(l1:a1<N)(l2:a2<N)
  (hz':ZipAt s.heap (N+4) (N+2) (N+3)) (hTI:IsPair s.heap (N+2) (.ref N) (.ref (N+1))) (hTO:IsPair s.heap (N+3) a b) (h1:S1 i s.heap) (h2:S2 i s.heap) (hi:i=n1\/(i<n1/\i=n2))
  (k:∀h' e tk,(∀c o,c≠N->c≠N+1->c≠N+3->c≠N+4->s.heap.get? c=some o->h'.get? c=some o)->(∃o,h'.get? e=some o/\o.cls= .type "StopIteration")->E (.ref e) {s with heap:=h',toks:=tk}):
  wpAny (model prog w) A (Builtin.«zip.__next__» ⟨[.ref (N+4)],[]⟩) Q E s:=by
 obtain⟨f0,bb,hz,hf⟩:=hz'
 refine(?_:wpAny _ _ (field (.ref (N+4)) 2>>=_) _ _ _)
 refine wpAny_bind (wpAny_field hz rfl (x:= .bool false) rfl (?_:wpAny _ _ (field (.ref (N+4)) 3>>=_) _ _ _))
 refine wpAny_bind (wpAny_field hz rfl (x:= .ref (N+2)) rfl (wpAny_bind (wpAny_seqItems hTI rfl (?_:wpAny _ _ (Builtin.SmallTypes.ownedTupleIsFree (.ref (N+4))>>=_) _ _ _))))
 refine wpAny_bind (zqa hz hf ?_ fun g0 z0 s0=>?_)
 ·simp only[if_true]
  refine wpAny_bind (wpAny_rule (wpAny_bind (wpAny_field hz rfl (x:= .ref (N+3)) rfl (wpAny_bind (wpAny_setField_rec hz (by simp) fun g1 z1 s1=>wpAny_bind ?_)))))
  replace z1:zeF g1 (N+4) (N+2) (N+3) .ellipsis bb:=z1
  simp only[List.zipIdx_cons,List.zipIdx_nil,List.forIn_cons,List.forIn_nil]
  refine wpAny_bind (wpAny_bind (wpAny_onRaise (?_:wpAny _ _ (Builtin.SmallTypes.nextOf (.ref N)>>=_) _ _ _)))
  have e1:S1 i g1:=D1.frame _ _ _ h1 fun b hb o e=>(s1.2 b (nin2 hb (by ac_rfl) (by ac_rfl))).trans e
  rcases hi with rfl|⟨i1,rfl⟩
  ·refine wpAny_bind (D1.done _ _ _ e1 fun g2 e x2 he=>?_)
   obtain⟨oe,hoe,hce⟩:=he
   have z2:zeF g2 (N+4) (N+2) (N+3) .ellipsis bb:=x2 _ _ (ne_ (by ac_rfl)) z1
   have hez:e≠N+4:=fun x=>by subst x;rw[z2]at hoe;cases hoe;simp at hce
   exact wpAny_setField_rec z2 (by simp) fun g3 _ s3=>k g3 e _ (fun c o c1 c2 c3 c4 x=>(s3.2 c c4).trans (x2 c o c1 ((s1.2 c c4).trans x))) ⟨oe,(s3.2 _ hez).trans hoe,hce⟩
  ·refine wpAny_bind (D1.item i _ _ _ i1 e1 fun x g2 t2 p1 f2 s2=>wpAny_pure ?_)
   have q2:IsPair g2 (N+3) a b:=(s2.2 _ (ne_ (by ac_rfl))).trans ((s1.2 _ (ne_ (by ac_rfl))).trans hTO)
   refine wpAny_bind (wpAny_seqItems q2 rfl (wpAny_bind (wpAny_updateSeq_pair q2 fun g3 q3 s3=>wpAny_bind (wpAny_letGo (wpAny_pure ?_)))))
   replace q3:IsPair g3 (N+3) x b:=q3
   refine wpAny_bind (wpAny_bind (wpAny_onRaise (?_:wpAny _ _ (Builtin.SmallTypes.nextOf (.ref (N+1))>>=_) _ _ _)))
   have e3:S2 i g3:=D2.frame _ _ _ h2 fun b hb o e=>(s3.2 b (nin2 hb (by ac_rfl) (by ac_rfl))).trans ((s2.2 b (nin2 hb (by ac_rfl) (by ac_rfl))).trans ((s1.2 b (nin2 hb (by ac_rfl) (by ac_rfl))).trans e))
   refine wpAny_bind (D2.done _ _ _ e3 fun g4 e x4 he=>?_)
   obtain⟨oe,hoe,hce⟩:=he
   have z3:zeF g3 (N+4) (N+2) (N+3) .ellipsis bb:=(s3.2 _ (ne_ (by ac_rfl))).trans ((s2.2 _ (ne_ (by ac_rfl))).trans z1)
   have z4:zeF g4 (N+4) (N+2) (N+3) .ellipsis bb:=x4 _ _ (ne_ (by ac_rfl)) z3
   have hez:e≠N+4:=fun x=>by subst x;rw[z4]at hoe;cases hoe;simp at hce
   exact wpAny_setField_rec z4 (by simp) fun g5 _ s5=>k g5 e _ (fun c o c1 c2 c3 c4 x=>(s5.2 c c4).trans (x4 c o c2 ((s3.2 c c3).trans ((s2.2 c c1).trans ((s1.2 c c4).trans x))))) ⟨oe,(s5.2 _ hez).trans hoe,hce⟩
 ·simp only[Bool.false_eq_true,if_false,List.forIn_toArray,List.forIn_cons,List.forIn_nil]
  have e0:S1 i g0:=D1.frame _ _ _ h1 fun b hb o e=>(s0.2 b (nin2 hb (by ac_rfl) (by ac_rfl))).trans e
  refine wpAny_bind (wpAny_bind (wpAny_bind (wpAny_holding (?_:wpAny _ _ (Builtin.SmallTypes.nextOf (.ref N)>>=_) _ _ _))))
  rcases hi with rfl|⟨i1,rfl⟩
  ·refine wpAny_bind (D1.done _ _ _ e0 fun g2 e x2 he=>?_)
   exact k g2 e _ (fun c o c1 c2 c3 c4 x=>x2 c o c1 ((s0.2 c c4).trans x)) he
  ·refine wpAny_bind (D1.item i _ _ _ i1 e0 fun x g2 t2 p1 f2 s2=>wpAny_pure (wpAny_pure ?_))
   refine wpAny_bind (wpAny_bind (wpAny_holding (?_:wpAny _ _ (Builtin.SmallTypes.nextOf (.ref (N+1))>>=_) _ _ _)))
   have e3:S2 i g2:=D2.frame _ _ _ h2 fun b hb o e=>(s2.2 b (nin2 hb (by ac_rfl) (by ac_rfl))).trans ((s0.2 b (nin2 hb (by ac_rfl) (by ac_rfl))).trans e)
   refine wpAny_bind (D2.done _ _ _ e3 fun g4 e x4 he=>?_)
   exact k g4 e _ (fun c o c1 c2 c3 c4 x=>x4 c o c2 ((s2.2 c c1).trans ((s0.2 c c4).trans x))) he
end
theorem ZipAt.at {h h':Heap}{z TI TO:Addr}(x:ZipAt h z TI TO)(e:∀o,h.get? z=some o->h'.get? z=some o):ZipAt h' z TI TO:=by
 obtain⟨f0,b,q,r⟩:=x
 exact⟨f0,b,e _ q,r⟩
theorem zny {z TI TO:Addr}(hz:ZipAt s.heap z TI TO)(h:Q (.ref z) s):wpAny (model prog w) A (pyIter (.ref z)) Q E s:=by
 obtain⟨f0,b,q,r⟩:=hz
 have hT:s.TypeIs (.ref z) "zip":=⟨_,q,rfl⟩
 exact wpAny_pyIter_slot hT F.slot_zip_iter (wpAny_call_entry F.slot_zip_iter hT F.entry_zip_iter (wpAny_pure ⟨.ref z,rfl,"zip",.builtin "zip.__next__",hT,F.slot_zip_next.lookup,h⟩) (F.args_zip_iter_1 (.ref z)))
theorem letGoZ {z TI TO:Addr}{Q:Unit->Shared->Prop}(hz:ZipAt s.heap z TI TO)(h1:Q () s)
  (h2:∀h',ZipAt h' z TI TO->Heap.SameBut z s.heap h'->Q () {s with heap:=h'}):wpAny (model prog w) A (letOwnedTupleGo tg (.ref z) u) Q E s:=by
 obtain⟨f0,b,q,r⟩:=hz
 have core:∀a:Addr,wpAny (model prog w) A (do
   let o<-load z
   match o.cls,o.data with
    |Value.type n,Data.fields vs=>
     if(["enumerate","zip","dict_itemiterator","dict_reverseitemiterator","odict_iterator","itertools.zip_longest","itertools.pairwise"].contains n&&vs[0]? ==some (rawInt ↑a))=true then do
      rule "for.unpacks-the-owned-tuple"
      updateField z 0 Value.none
     else pure ()
    |x,x_1=>pure ()) Q E s:=fun a=>by
  refine wpAny_bind (wpAny_load q ?_)
  dsimp only
  split
  ·refine wpAny_bind (wpAny_rule ?_)
   refine(?_:wpAny _ _ (setField (.ref z) 0 .none) _ _ _)
   exact wpAny_setField_rec q (by simp) fun g1 z1 s1=>h2 g1 ⟨_,_,z1,.inl rfl⟩ s1
  ·exact wpAny_pure h1
 unfold letOwnedTupleGo
 cases tg<;>first|exact wpAny_pure h1|(cases u<;>first|exact wpAny_pure h1|exact core _)
theorem zpm {P:Program}{w:World}(t1:Bool)(a1:Nat)(t2:Bool)(a2:Nat)(n N:Nat)(l1:a1<N)(l2:a2<N):
  Turn P w K tg (Itz2 K t1 a1 t2 a2 n) ([N,N+1,N+2,N+3,N+4]:List Nat) (N+4:Nat)
   (fun i h=>i<=n/\ZipAt h (N+4:Nat) (N+2:Nat) (N+3:Nat)/\IsPair h (N+2:Nat) (.ref N) (.ref (N+1:Nat))/\(∃a b,IsPair h (N+3:Nat) a b)/\SrcIt t1 h N a1 i/\SrcIt t2 h (N+1:Nat) a2 i) where
 mem:=by simp
 obj:=fun i h st b hb=>by
  obtain⟨-,h4,h2,⟨a,c,h3⟩,h0,h1⟩:=st
  simp only[List.mem_cons,List.not_mem_nil,or_false]at hb
  rcases hb with rfl|rfl|rfl|rfl|rfl
  ·exact h0.obj
  ·exact h1.obj
  ·exact⟨_,h2,fun v z=>by cases z⟩
  ·exact⟨_,h3,fun v z=>by cases z⟩
  ·obtain⟨f0,bb,z4,-⟩:=h4
   exact⟨_,z4,fun v z=>by cases z⟩
 keep:=fun i h h' st k=>by
  obtain⟨hi,h4,h2,⟨a,c,h3⟩,h0,h1⟩:=st
  exact⟨hi,h4.at fun o e=>k _ (by simp) o e,k _ (by simp) _ h2,⟨a,c,k _ (by simp) _ h3⟩,h0.at fun o e=>k _ (by simp) o e,h1.at fun o e=>k _ (by simp) o e⟩
 item:=by
  intro X hP hw hK hc i pins s σ H E I hf st hg
  subst hP hw hK
  obtain⟨hi,h4,h2,⟨a,c,h3⟩,h0,h1⟩:=st
  obtain⟨hn,xs,ys,q1,q2,en⟩:=hg
  obtain⟨us,ru,hu,zu⟩:=q1.heap I
  obtain⟨ws,rw',hw',zw⟩:=q2.heap I
  have lu:=ru.length
  have lw:=rw'.length
  have D1:=zbt (prog:=X.prog) (w:=X.w) (A:=X.A.in1) (t:=t1) (I.ok.hd hc) N a1 (ne_ (by ac_rfl)) us.toArray
  have D2:=zbt (prog:=X.prog) (w:=X.w) (A:=X.A.in1) (t:=t2) (I.ok.hd hc) (N+1) a2 (ne_ (by ac_rfl)) ws.toArray
  have z4:=h4
  obtain⟨f0,bb,z4,-⟩:=z4
  have hT:s.TypeIs (.ref (N+4:Nat)) "zip":=⟨_,z4,rfl⟩
  unfold pyNext
  refine wpAny_bind (wpAny_attempt (wpAny_callSpecial?_slot (name:=Str.ofString "__next__") hT F.slot_zip_next (wpAny_call_entry F.slot_zip_next hT F.entry_zip_next
   (zpb D1 D2 l1 l2 h4 h2 h3 ⟨h0,hu⟩ ⟨h1,hw'⟩ (by simp;lia) (by simp;lia) fun x y h' tk p1 p2 g4 g3 g0 g1 gT kk=>wpAny_pure ?_) (F.args_zip_next_1 _))))
  obtain⟨x1,hx1⟩:∃x1,xs[i]? =some x1:=⟨xs[i]'(by lia),List.getElem?_eq_getElem _⟩
  obtain⟨x2,hx2⟩:∃x2,ys[i]? =some x2:=⟨ys[i]'(by lia),List.getElem?_eq_getElem _⟩
  obtain⟨u1,hu1,r1⟩:=ru.get hx1
  obtain⟨u2,hu2,r2⟩:=rw'.get hx2
  have e1:u1=x:=by
   have:us[i]? =some x:=by simpa using p1
   rw[hu1]at this;cases this;rfl
  have e2:u2=y:=by
   have:ws[i]? =some y:=by simpa using p2
   rw[hu2]at this;cases this;rfl
  subst e1 e2
  refine⟨_,rfl,?_⟩
  have fin:∀h'',ZipAt h'' (N+4:Nat) (N+2:Nat) (N+3:Nat)->Heap.SameBut (N+4:Nat) h' h''->∃x H',L2.Inv X pins σ H' {s with heap:=h'',toks:=tk}/\RelV x (.ref s.heap.objs.size)/\(Itz2 X.K t1 a1 t2 a2 n).yld i H x H'/\(i+1<=n/\ZipAt h'' (N+4:Nat) (N+2:Nat) (N+3:Nat)/\IsPair h'' (N+2:Nat) (.ref N) (.ref (N+1:Nat))/\(∃a b,IsPair h'' (N+3:Nat) a b)/\SrcIt t1 h'' N a1 (i+1)/\SrcIt t2 h'' (N+1:Nat) a2 (i+1))/\∀b∈([N,N+1,N+2,N+3,N+4]:List Nat),H' b=none:=fun h'' z'' sb=>by
   have lz:N+4<s.heap.objs.size:=Heap.lt_size z4
   have kk':∀b o,b∉([N,N+1,N+2,N+3,N+4]:List Nat)->s.heap.get? b=some o->h''.get? b=some o:=fun b o hb e=>by
    obtain⟨c1,c2,c3,c4⟩:=nin4 hb
    exact(sb.2 b c4).trans (kk b o c1 c2 c3 c4 e)
   have I1:=zni (t':=tk) (vs:=[x1,x2]) (its:=[u1,u2]) I kk' hf (fun b hb=>by
    have:b=N\/b=N+1\/b=N+2\/b=N+3\/b=N+4:=by simpa using hb
    exact Nat.lt_of_le_of_lt (show(b:Nat)<=N+4 by rcases this with h|h|h|h|h<;>rw[h]<;>simp) lz) ((sb.2 _ (ne_ (by ac_rfl))).trans gT) (by simp;rw[sizeLine_eq];decide) (.cons r1 (.cons r2 .nil))
   refine⟨.ref s.heap.objs.size,_,I1,rfl,⟨_,x1,x2,I.hok.fresh (Nat.le_refl _),rfl,rfl,fun xs' ys' b1 b2=>?_⟩,⟨hn,z'',(sb.2 _ (ne_ (by ac_rfl))).trans (kk _ _ (ne_ (by ac_rfl)) (ne_ (by ac_rfl)) (ne_ (by ac_rfl)) (ne_ (by ac_rfl)) h2),(let⟨a',b',e'⟩:=g3;⟨a',b',(sb.2 _ (ne_ (by ac_rfl))).trans e'⟩),SrcIt.at g0.1 fun o e=>(sb.2 _ (ne_ (by ac_rfl))).trans e,SrcIt.at g1.1 fun o e=>(sb.2 _ (ne_ (by ac_rfl))).trans e⟩,fun b hb=>?_⟩
   ·rw[SrcSq.inj I b1 q1,SrcSq.inj I b2 q2]
    exact⟨hx1,hx2⟩
   ·have:b=N\/b=N+1\/b=N+2\/b=N+3\/b=N+4:=by simpa using hb
    rw[zar (Nat.ne_of_lt (Nat.lt_of_le_of_lt (show(b:Nat)<=N+4 by rcases this with h|h|h|h|h<;>rw[h]<;>simp) lz))]
    exact(hf b hb).1
  exact letGoZ (s:={s with heap:=h',toks:=tk}) g4 (fin h' g4 ⟨rfl,fun _ _=>rfl⟩) fun h'' z'' sb=>fin h'' z'' sb
 done:=by
  intro X hP hw hK hc i pins s σ H E I hf st hg
  subst hP hw hK
  obtain⟨hi,h4,h2,⟨a,c,h3⟩,h0,h1⟩:=st
  obtain⟨hn,xs,ys,q1,q2,en⟩:=hg
  obtain⟨us,ru,hu,zu⟩:=q1.heap I
  obtain⟨ws,rw',hw',zw⟩:=q2.heap I
  have lu:=ru.length
  have lw:=rw'.length
  have D1:=zbt (prog:=X.prog) (w:=X.w) (A:=X.A.in1) (t:=t1) (I.ok.hd hc) N a1 (ne_ (by ac_rfl)) us.toArray
  have D2:=zbt (prog:=X.prog) (w:=X.w) (A:=X.A.in1) (t:=t2) (I.ok.hd hc) (N+1) a2 (ne_ (by ac_rfl)) ws.toArray
  have z4:=h4
  obtain⟨f0,bb,z4,-⟩:=z4
  have hT:s.TypeIs (.ref (N+4:Nat)) "zip":=⟨_,z4,rfl⟩
  unfold pyNext
  refine wpAny_bind (wpAny_attempt (wpAny_callSpecial?_slot (name:=Str.ofString "__next__") hT F.slot_zip_next (wpAny_call_entry F.slot_zip_next hT F.entry_zip_next
   (zpq D1 D2 l1 l2 h4 h2 h3 ⟨h0,hu⟩ ⟨h1,hw'⟩ (by simp;lia) fun h' e tk kk he=>?_) (F.args_zip_next_1 _))))
  obtain⟨o,ho,hce⟩:=he
  refine wpAny_bind (wpAny_isInstance (T:="StopIteration") (b:=true) ⟨o,ho,hce⟩ isSubtype_stop (wpAny_pure ⟨rfl,zmb I (fun b o hb e=>?_) hf⟩))
  obtain⟨c1,c2,c3,c4⟩:=nin4 hb
  exact kk b o c1 c2 c3 c4 e
 self:=fun _ _ _ _ _ st h=>zny st.2.1 h
theorem pi_zip2N {a b:Expr}{ta:TA}(hg:Gl X "zip")(hm:X.mg "zip"=none)(ha:PA X [a,b] ta)(hs:autoParam (starEach [a,b] X.env=(false,eval a X.env)::starEach [b] X.env) zu2._auto_1)(hs2:autoParam ((backTo pos (starEach [b] X.env)).any (·.1)=false) zu2._auto_1):
  PI X tg (.Call (.Name "zip" p) [a,b] [] pos) (fun σ H R=>ta σ H fun vs H1=>∃t1 a1 xs t2 a2 ys,vs=[.ref a1,.ref a2]/\SrcSq t1 X.K H1 a1 xs/\SrcSq t2 X.K H1 a2 ys/\R (Itz2 X.K t1 a1 t2 a2 (min xs.length ys.length)) H1):=by
 intro pins s σ H R I h
 refine Call_ (zhI I hg hm zoe (PyProof.Rows.callWith_type1 (thn (ha pos pins s σ H _ I h) fun us s1 ⟨vs,H1,I1,r1,q1⟩=>?_) hs hs2))
 obtain⟨t1,a1,xs,t2,a2,ys,e,q1,q2,q⟩:=q1
 subst e
 cases r1 with
 |cons r rr=>
  cases rr with
  |cons r' rr=>
   cases rr
   cases r
   cases r'
   obtain⟨us,ru,hu,-⟩:=q1.heap I1
   obtain⟨ws,rw',hw',-⟩:=q2.heap I1
   refine zp2 hu hw' fun h' g4 g2 g3 g0 g1 kk=>wpAny_pyIter_zip g4 ⟨_,_,_,_,H1,rfl,I1.kept (t':=s1.toks) kk,zpm t1 a1 t2 a2 (min xs.length ys.length) s1.heap.objs.size hu.lt hw'.lt,⟨Nat.zero_le _,⟨_,_,g4,.inl rfl⟩,g2,⟨_,_,g3⟩,g0,g1⟩,fun b hb=>?_,q⟩
   have:b=s1.heap.objs.size\/b=s1.heap.objs.size+1\/b=s1.heap.objs.size+2\/b=s1.heap.objs.size+3\/b=s1.heap.objs.size+4:=by simpa using hb
   have le:s1.heap.objs.size<=b:=by rcases this with h|h|h|h|h<;>rw[h]<;>simp
   exact I1.fpOk le (I1.hok.fresh le)
theorem it_zip2N {a b:Expr}{ma:MA}(hm:X.mg "zip"=none)(ha:SA X [a,b] ma)(hg:autoParam (Gl X "zip") zu2._auto_1)(hs:autoParam (starEach [a,b] X.env=(false,eval a X.env)::starEach [b] X.env) zu2._auto_1)(hs2:autoParam ((backTo pos (starEach [b] X.env)).any (·.1)=false) zu2._auto_1):
  SIt X tg (.Call (.Name "zip" p) [a,b] [] pos) (iZ2 ma):=by
 obtain⟨t,pa,sa⟩:=ha
 refine⟨_,pi_zip2N hg hm pa hs hs2,fun B G H σ ρ ds ρ' Q I hm k=>?_⟩
 obtain⟨⟨es,ρ1⟩,e1,h2⟩:=zah hm
 dsimp only at h2
 refine sa B G H σ ρ es ρ1 _ I e1 fun G1 H1 vs I1 f1 r1=>?_
 split at h2
 ·obtain⟨xs,ex,h2⟩:=zah h2
  obtain⟨ys,ey,h2⟩:=zah h2
  cases h2
  obtain⟨x,y,rfl,rx,ry⟩:=r1.two
  obtain⟨t1,a1,us,rfl,s1,c1⟩:=zk8 rx ex
  obtain⟨t2,a2,ws,rfl,s2,c2⟩:=zk8 ry ey
  have n1:=c1.length
  have n2:=c2.length
  refine⟨t1,a1,us,t2,a2,ws,rfl,s1 _ I1.fz,s2 _ I1.fz,k _ G1 H1 I1 f1 ⟨fun H i f hi=>?_,fun H i x H' f y d e=>?_,fun H i f hi=>?_⟩⟩
  ·exact⟨by simp[znP]at hi;lia,us,ws,s1 _ f,s2 _ f,rfl⟩
  ·obtain⟨p,x1,x2,hp,eh,ex',q⟩:=y
   obtain⟨q1,q2⟩:=q us ws (s1 _ f) (s2 _ f)
   simp only[znP,List.getElem?_zipWith]at e
   split at e
   ·rename_i d1 d2 g1 g2
    cases e
    obtain⟨v1,b1,r1⟩:=c1.get g1
    obtain⟨v2,b2,r2⟩:=c2.get g2
    rw[q1]at b1;cases b1
    rw[q2]at b2;cases b2
    exact .inr ⟨p,_,_,hp,eh,ex',rfl,⟨_,_,rfl,r1,_,_,rfl,r2,rfl⟩⟩
   ·cases e
  ·exact⟨by simp[znP]at hi;lia,us,ws,s1 _ f,s2 _ f,rfl⟩
 ·cases h2
end M
namespace M
open L2 PySem PySem.Spec
open PyProof.Rows hiding St
theorem ndk {l:List Str}(h:autoParam (decide l.Nodup=true) zu10._auto_1):l.Nodup:=of_decide_eq_true h
theorem us_0 {p:List Value->Prop}(h:p []):∀us:List Value,us.length=0->p us:=fun us e=>by
 cases us with
 |nil=>exact h
 |cons=>cases e
theorem us_s {p:List Value->Prop}{n:Nat}(h:∀(a:Value) (us:List Value),us.length=n->p (a::us)):∀us:List Value,us.length=n+1->p us:=fun us e=>by
 cases us with
 |nil=>cases e
 |cons a us=>exact h a us (Nat.succ.inj e)
section
variable {P:Program} {w:World} {K:W.Frag} {mg:Str->Option Value} {base hp:Heap} {x:Str} {st:Stmt} {f:Addr}
noncomputable def FnAt (K:W.Frag)(x:Str)(st:Stmt):Prop:=∃f fd,W.nsIn K mainGlobals x=some (some (.ref f))/\Fun K x x st f fd
theorem FnAt.mk {oc:Value}{od an:Option Addr}{osl:Array (Option Value)}{kV doc pm cdv ct:Value}(a:W.nsIn K mainGlobals x=some (some (.ref f)))(l:K.lookup f=some ⟨oc,od,.func (W.fnOf x x (zfL st) (zbW st) (zaC st) .none kV doc pm an cdv ct),osl⟩)
  (c:W.codeIn K cdv x=true) (k:W.keepIn K (.ref f)=true):FnAt K x st:=⟨f,_,a,fun_mk l c k⟩
noncomputable abbrev BindsAt (x:Str)(st:Stmt)(ps:List Str):Prop:=∀(kV doc pm:Value) (an:Option Addr) (cdv ct:Value) (us:List Value),us.length=ps.length->bindArgs (W.fnOf x x (zfL st) (zbW st) (zaC st) .none kV doc pm an cdv ct) ⟨us,[]⟩=pure (ps.zip us)
theorem FnAt.law (h:FnAt K x st)(X:K.In hp)(G:hp.Ns mainGlobals mg)(hf:mg x=some (.ref f)):∃kV doc pm an cdv ct,Fun K x x st f (W.fnOf x x (zfL st) (zbW st) (zaC st) .none kV doc pm an cdv ct):=by
 obtain⟨f',fd,a,T⟩:=h
 have e:=hf.symm.trans (W.mg_of X G a)
 cases e
 obtain⟨oc,od,kV,doc,pm,an,cdv,ct,osl,rfl,lk,hcd⟩:=id T.ex
 exact⟨kV,doc,pm,an,cdv,ct,T⟩
variable {N:List Str} {k n:Nat} {m:MS}
noncomputable abbrev Bd (P:Program)(w:World)(K:W.Frag)(mg:Str->Option Value)(base:Heap)(x:Str)(st:Stmt)(N:List Str)(k:Nat)(m:MS):Prop:=∀(f:Addr) (cdv:Value) (A:Around) (outer:List Env) (s:Shared) (H:Hp) (E:XK),Room k (A.deeper (PyProof.Rows.envOfC x (zaC st) s.heap.objs.size f cdv))->N.Nodup->SSs (cxOf CX0 P w K mg base N x (zaC st) f cdv A outer s H E).nox (zbW st) m
structure DefOk (x:Str) (st:Stmt) (N:List Str) (n:Nat):Prop where
 sc:FnScope N (N.take n) (zaC st)
 len:(N.take n).length=n
 le:n<=N.length
 bs:BindsAt x st (N.take n)
theorem lawP {fd:FuncData}(F:Fun K x x st f fd)(b:Bd P w K mg base x st N k m)(d:DefOk x st N n:=by exact⟨⟨rfl,rfl,rfl,by decide+kernel,rfl,by decide+kernel,by decide+kernel⟩,rfl,by decide,fun _ _ _ _ _ _=>by repeat (first | exact us_0 rfl | refine us_s fun _ => ?_)⟩):FnOk P w K mg base CX0 (k+1) f fd (N.take n) (spP K n (fP N.length m)):=fnP_ok F d.sc d.len d.le fun cdv A outer s H E hr=>b _ cdv A outer s H E hr d.sc.nd
theorem fdP (X:K.In hp)(G:hp.Ns mainGlobals mg)(h:FnAt K x st)(b:Bd P w K mg base x st N k m)(d:DefOk x st N n:=by exact⟨⟨rfl,rfl,rfl,by decide+kernel,rfl,by decide+kernel,by decide+kernel⟩,rfl,by decide,fun _ _ _ _ _ _=>by repeat (first | exact us_0 rfl | refine us_s fun _ => ?_)⟩):FD P w K mg base (k+1) x (spP K n (fP N.length m)):=
 let⟨f,fd,a,T⟩:=h
 ⟨⟨f,fd,_,fnP_ok T d.sc d.len d.le fun cdv A outer s H E hr=>b _ cdv A outer s H E hr d.sc.nd,W.mg_of X G a,T.kp,T.binds d.bs⟩⟩
theorem fdM (X:K.In hp)(G:hp.Ns mainGlobals mg)(h:FnAt K x st)(b:Bd P w K mg base x st N k m)(d:DefOk x st N n:=by exact⟨⟨rfl,rfl,rfl,by decide+kernel,rfl,by decide+kernel,by decide+kernel⟩,rfl,by decide,fun _ _ _ _ _ _=>by repeat (first | exact us_0 rfl | refine us_s fun _ => ?_)⟩):FD P w K mg base (k+1) x (spM K n (fM N.length m)):=
 let⟨f,fd,a,T⟩:=h
 ⟨⟨f,fd,_,fnM_ok T d.sc d.len d.le fun cdv A outer s H E hr=>b _ cdv A outer s H E hr d.sc.nd,W.mg_of X G a,T.kp,T.binds d.bs⟩⟩
theorem fdX {m:MX}(X:K.In hp)(G:hp.Ns mainGlobals mg)(h:FnAt K x st)(b:∀(f:Addr) (cdv:Value) (A:Around) (outer:List Env) (s:Shared) (H:Hp) (E:XK),Room k (A.deeper (PyProof.Rows.envOfC x (zaC st) s.heap.objs.size f cdv))->N.Nodup->XSs (cxOf (CX1 P w) P w K mg base N x (zaC st) f cdv A outer s H E) (fun _=>True) E (zbW st) m)(d:DefOk x st N n:=by exact⟨⟨rfl,rfl,rfl,by decide+kernel,rfl,by decide+kernel,by decide+kernel⟩,rfl,by decide,fun _ _ _ _ _ _=>by repeat (first | exact us_0 rfl | refine us_s fun _ => ?_)⟩):FDX P w K mg base (k+1) x (spX K n (fX N.length m)):=
 let⟨f,fd,a,T⟩:=h
 ⟨⟨f,fd,_,fnX_ok T d.sc d.len d.le fun cdv A outer s H E hr=>b _ cdv A outer s H E hr d.sc.nd,W.mg_of X G a,T.kp,T.binds d.bs⟩⟩
end
variable {P:Program} {w:World} {H G:Hp} {h:Heap} {a b:Addr} {o:Obj} {xs:List (List L2.Key×Addr×Value)} {ks:List (List Int)} {ys:List (List L2.Key×V)}
noncomputable def Sl.dit:Sl->Option (List (List Int)×List D)
 | .tre (.dit ks ds)=>some (ks,ds)
 | .val (.dit ks ds)=>some (ks,ds)
 |_=>none
noncomputable def keyT:D->Option (List Int)
 | .tup es=>zbz es
 |_=>none
noncomputable def sDPT (j:Nat)(mk me:ME):MS:=fun ρ=>(me ρ).bind fun p=>if(p.2[j]?.bind Sl.dit).isSome then(mk p.2).bind fun q=>(keyT q.1).bind fun k=>q.2[j]?.bind fun s=>match s.tree with
  |some (.dit ks ds)=>if ks.length<16777216 then some (.next,q.2.set j (s.putT (.dit (ptD ks ds k p.1).1 (ptD ks ds k p.1).2)))else none
  |_=>none else none
noncomputable def iDKT (j:Nat):MA:=fun ρ=>match ρ[j]? with
 |some (.val (.dit ks ds))=>some (ks.map fun k=> .tup (k.map .int),ρ)
 |_=>none
end M
namespace M
open L2 PySem PySem.Spec
open PyProof.Rows hiding St
noncomputable def fzDT (j:Nat)(ρ:R):R:=match ρ[j]? with
 |some (.tre (.dit ks ds))=>ρ.set j (.val (.dit ks ds))
 |_=>ρ
noncomputable def zpQ (F:List D->Option Sl)(ma:MA):ME:=fun ρ=>(ma ρ).bind fun p=>(F p.1).bind fun r=>match r with
 | .tre (.tup cs)=>some (.tup (cs.map Ch.D),p.2)
 |_=>none
noncomputable def fzU (j:Nat)(ρ:R):R:=match ρ[j]? with
 |some (.tre (.tup cs))=>ρ.set j (.val (.tup (cs.map Ch.D)))
 |_=>ρ
section
variable {X:Cx} {x y:Str} {pos p' q' tpos:Pos} {e:Expr} {es:List Expr} {ma:MA} {k k' n:Nat} {F:List D->Option Sl}
theorem se_callU {z:Str}{p:Pos}(fd:FD X.prog X.w X.K X.mg X.base k z (spP X.K n F))(hr:Room k' X.A)(ha:SA X (e::es) ma)(hlen:∀ρ as ρ',ma ρ=some (as,ρ')->as.length=n)(hk:autoParam (k<=k') zu1._auto_1)(hg:autoParam (Gl X z) zu2._auto_1)(hdb:autoParam ((z==("__debug__":Str))=false) zu1._auto_1)
  (he:autoParam (starEach (e::es) X.env=(false,eval e X.env)::starEach es X.env) zu2._auto_1) (hpl:autoParam ((backTo pos (starEach es X.env)).any (·.1)=false) zu2._auto_1):SE X (.Call (.Name z p) (e::es) [] pos) (zpQ F ma):=by
 obtain⟨f,fdd,ps,G0,h1,h2,h3⟩:=fd.ex
 obtain⟨t,pa,sa⟩:=ha
 refine⟨_,zkd G0 (hr.mono hk) hg h1 h2 h3 .nil zp9 pa hdb he hpl,fun B G H σ ρ d ρ' Q I hm kk=>?_⟩
 obtain⟨⟨as,ρ1⟩,e1,hm⟩:=zah hm
 obtain⟨r,e2,hm⟩:=zah hm
 refine sa B G H σ ρ as ρ1 _ I e1 fun G1 H1 vs I1 f1 r1=>?_
 show spP X.K n F (vs++[]) H1 Q E0
 rw[List.append_nil]
 refine⟨G1,as,r,e2,hlen ρ as ρ1 e1,I1.fz,r1,fun G2 H2 v f2 fz2 nw kp rr=>?_⟩
 have I2:=I1.grow f2 fz2 nw kp
 split at hm
 ·rename_i cs
  cases hm
  obtain⟨A,q1,q2,q3⟩:=rr
  have hA:∀a∈A,G2 a=none/\B.H a=none/\Nw X.K G2 H2 σ ρ1 a:=fun a m=>⟨(q3 a m).1,I1.there a (q3 a m).2,I1.own_ne (q3 a m).2 nw kp⟩
  obtain⟨p,xs,A',rfl,g1,g2,rfl⟩:=q1
  have fg:=frA_fz (H:=H2) fun a m=>(hA a m).1
  exact kk (frA G2 H2 (p::A')) H2 _ (I2.frzA hA) (f1.trans (f2.trans fg)) ⟨p,xs,rfl,by rw[zpT (by simp)];exact g1,zjG fg g2 fun a m=>zpT (by simp[m])⟩
 ·cases hm
end
noncomputable def turnT (g:D->R->Option R)(mt:MT)(mo:MO):D->R->Option (Option (List D)×R):=fun d ρ=>(g d ρ).bind fun ρ1=>(mt ρ1).bind fun p=>if p.1 then(mo p.2).bind fun q=>if zdb q.2 then some (some q.1,q.2)else none else if zdb p.2 then some (none,p.2)else none
noncomputable def rowsOf:List Ch->Option (List (List D))
 |[]=>some []
 | .l ds::cs=>(rowsOf cs).map (ds:: ·)
 |_=>none
noncomputable def zqN (ma:ME)(mo:MO):MS:=fun ρ=>(ma ρ).bind fun p=>(mo p.2).bind fun r=>some (.ret (.tre (.tup [.d p.1,.l r.1])),r.2)
section
variable {X:Cx} {x y:Str} {pos p' q' tpos:Pos} {e:Expr} {n:Nat}
theorem ss_retUl {a:Expr}{m1:ME}{mo:MO}{nn:Nat}{pos2:Pos}(ha:SE X a m1)(ho:SO X e mo)
  (hs:autoParam (starEach [a,e] X.env=(false,eval a X.env)::starEach [e] X.env) zu2._auto_1)
  (hs2:autoParam (starEach [e] X.env=(false,eval e X.env)::starEach [] X.env) zu2._auto_1):
  SS X (.Return (some (.Tuple [a,e] nn pos2)) pos) (zqN m1 mo):=by
 obtain⟨ta,pa,sa⟩:=ha
 obtain⟨te,pe,so⟩:=ho
 refine⟨_,zmm (pe_tup (zbY pa (zbY pe zfj hs2) hs)),fun B G H σ ρ fl ρ' E I hm k=>?_⟩
 obtain⟨⟨d1,ρ1⟩,e1,hm⟩:=zah hm
 obtain⟨⟨ds,ρ4⟩,e4,hm⟩:=zah hm
 cases hm
 refine sa B G H σ ρ d1 ρ1 _ I e1 fun G3 H3 v1 I3 f1 r1=>?_
 refine so B G3 H3 σ ρ1 ds ρ4 _ I3 e4 fun G4 H4 l xs I4 f4 g4 h4 r4 b4 _=>?_
 refine⟨by rw[sizeLine_eq];exact(by decide:(2:Nat)<=16777216),fun p hp=>?_⟩
 have lp:l≠p:=zax h4 hp
 refine k G4 _ σ _ (I4.allocO hp _) (f1.trans f4) ⟨[p,l],⟨p,_,[l],rfl,zaA,⟨[],[l],⟨r1.mono f4,rfl⟩,⟨[l],[],⟨l,xs,rfl,by rw[zar lp];exact h4,r4,rfl⟩,rfl,rfl⟩,rfl⟩,rfl⟩,by simpa using lp.symm,fun a m=>?_⟩
 rcases List.mem_cons.mp m with rfl|m
 ·exact⟨I4.fz.free hp,I4.there a hp⟩
 ·have:a=l:=by simpa using m
  subst this
  exact⟨g4,b4⟩
end
noncomputable def xIfE (c:MT)(a b:MX):MX:=fun ρ=>(c ρ).bind fun p=>if p.1 then a p.2 else b p.2
section
variable {X:Cx} {S:St->Prop} {E:XK} {e:Expr} {mx:MX} {pos:Pos}
theorem xs_ife {c:Expr}{a b:List Stmt}{mc:MT}{xa xb:MX}(hc:STt X c mc)(ha:XSs X S E a xa)(hb:XSs X S E b xb):XS X S E (.If c a b pos) (xIfE mc xa xb):=by
 obtain⟨tc,pc,sc⟩:=hc
 obtain⟨t,pt,st⟩:=ha
 obtain⟨u,pu,su⟩:=hb
 refine⟨_,ps_if pc pt pu,fun B G H σ ρ c I hS hm w D=>?_⟩
 obtain⟨⟨b,ρ1⟩,e1,hm⟩:=zah hm
 refine sc B G H σ ρ b ρ1 _ I e1 fun G1 H1 I1 f1=>?_
 cases b with
 |true=>rw[if_pos rfl];exact st B G1 H1 σ ρ1 c I1 hS (by simpa using hm) w D
 |false=>rw[if_neg Bool.false_ne_true];exact su B G1 H1 σ ρ1 c I1 hS (by simpa using hm) w D
end
noncomputable def zpD (b c:Nat)(ρ:R):Bool:=match ρ[b]?,ρ[c]? with
 |some (.par _),some (.par _)=>zdb ((ρ.set b .emp).set c .emp)
 |_,_=>false
noncomputable def turnQ (b c:Nat)(g:D->R->Option R)(mt:MT)(me:ME):D->R->Option (Option D×R):=fun d ρ=>(g d ρ).bind fun ρ1=>(mt ρ1).bind fun p=>if p.1 then(me p.2).bind fun q=>if zpD b c q.2 then some (some q.1,q.2)else none else if zpD b c p.2 then some (none,p.2)else none
end M
namespace M
open PySem PySem.W
open PyProof.Rows (bubble mirror bubble_size bubble_perm mirror_size mirror_perm getElem?_bubble getElem?_mirror_all)
variable {cmp:Nat->Nat->(Bool->Shared->Prop)->Shared->Prop} {s:Shared} {a b i j n m k:Nat} {p q:Array Nat}
noncomputable def kGd (n:Nat)(lt:Nat->Nat->Bool){α:Type}:KasT α->(α->Prop)->Prop
 | .ret a,Q=>Q a
 | .ask i j k,Q=>i<n/\j<n/\kGd n lt (k (lt i j)) Q
noncomputable def kRun (lt:Nat->Nat->Bool){α:Type}:KasT α->α
 | .ret a=>a
 | .ask i j k=>kRun lt (k (lt i j))
section
variable {n:Nat} {lt:Nat->Nat->Bool} {α β:Type}
theorem zgK {f:α->KasT β}{Q:β->Prop}:∀{t:KasT α},kGd n lt t (fun a=>kGd n lt (f a) Q)->kGd n lt (t.bind f) Q
 | .ret _,h=>h
 | .ask _ _ _,⟨h1,h2,h3⟩=>⟨h1,h2,zgK h3⟩
theorem zcE {Q Q':α->Prop}(q:∀a,Q a->Q' a):∀{t:KasT α},kGd n lt t Q->kGd n lt t Q'
 | .ret a,h=>q a h
 | .ask _ _ _,⟨h1,h2,h3⟩=>⟨h1,h2,zcE q h3⟩
theorem zqB {Q:α->Prop}:∀{t:KasT α},kGd n lt t Q->Q (kRun lt t)
 | .ret _,h=>h
 | .ask i j k,⟨_,_,h3⟩=>zqB (t:=k (lt i j)) h3
theorem zq5 {Q0:α->Prop}{Q:α->Shared->Prop}(hc:∀i j C,i<n->j<n->C (lt i j) s->cmp i j C s):
  ∀{t:KasT α},kGd n lt t Q0->Q (kRun lt t) s->t.kasWp cmp Q s
 | .ret _,_,h=>h
 | .ask i j k,⟨h1,h2,h3⟩,h=>hc i j _ h1 h2 (zq5 (t:=k (lt i j)) hc h3 h)
end
structure Ord (lt:Nat->Nat->Bool):Prop where
 tr:∀a b c,lt b a=false->lt c b=false->lt c a=false
 as:∀a b,lt a b=true->lt b a=false
theorem Ord.rf {lt:Nat->Nat->Bool}(o:Ord lt)(a:Nat):lt a a=false:=by
 cases h:lt a a with
 |false=>rfl
 |true=>rw[o.as a a h]at h;cases h
theorem Ord.lt_le {lt:Nat->Nat->Bool}(o:Ord lt){a b c:Nat}(h:lt a b=true)(k:lt c b=false):lt a c=true:=by
 cases z:lt a c with
 |true=>rfl
 |false=>rw[o.tr b c a k z]at h;cases h
noncomputable def kv (p:Array Nat)(k:Nat):Nat:=p.getD k 0
theorem zpO (h:p[i]? =q[j]?):kv p i=kv q j:=by
 unfold kv
 rw[Array.getD_eq_getD_getElem?,Array.getD_eq_getD_getElem?,h]
structure Pm (n:Nat) (p:Array Nat):Prop where
 pm:p.toList.Perm (List.range n)
theorem Pm.size (h:Pm n p):p.size=n:=by
 have:=h.pm.length_eq
 rwa[Array.length_toList,List.length_range]at this
theorem Pm.lt (h:Pm n p)(hn:0<n)(k:Nat):kv p k<n:=by
 unfold kv
 by_cases hk:k<p.size
 ·have:p.getD k 0=p[k]:=by simp[Array.getD,hk]
  rw[this]
  exact List.mem_range.mp (h.pm.mem_iff.mp (Array.mem_toList_iff.mpr (Array.getElem_mem hk)))
 ·have:p.getD k 0=0:=by simp[Array.getD,hk]
  rw[this];exact hn
theorem Pm.bub (h:Pm n p)(a d:Nat):Pm n (bubble p a d):=⟨(Array.perm_iff_toList_perm.mp (bubble_perm p a d)).trans h.pm⟩
theorem Pm.rev (h:Pm n p)(i j:Nat):Pm n (kas_rev p i j):=⟨(Array.perm_iff_toList_perm.mp (mirror_perm p i j _)).trans h.pm⟩
theorem zqJ {i j:Nat}(hj:j<=p.size)(k:Nat):kv (kas_rev p i j) k=if i<=k/\k<j then kv p (i+j-1-k)else kv p k:=by
 have h:=getElem?_mirror_all (i:=i) hj k
 split
 ·rename_i z;rw[if_pos z]at h;exact zpO h
 ·rename_i z;rw[if_neg z]at h;exact zpO h
theorem kv_bub {a d:Nat}(ha:a<p.size)(hd:d<=a)(k:Nat):kv (bubble p a d) k=if k=a-d then kv p a else if a-d<k/\k<=a then kv p (k-1)else kv p k:=by
 have h:=getElem?_bubble ha d hd k
 by_cases z:k=a-d
 ·rw[if_pos z]at h ⊢;exact zpO h
 ·rw[if_neg z]at h ⊢
  by_cases y:a-d<k/\k<=a
  ·rw[if_pos y]at h ⊢;exact zpO h
  ·rw[if_neg y]at h ⊢;exact zpO h
section
variable {n:Nat} {lt:Nat->Nat->Bool}
noncomputable def Up (lt:Nat->Nat->Bool)(p:Array Nat)(m:Nat):Prop:=∀i,0<i->i<m->lt (kv p i) (kv p (i-1))=false
noncomputable def Dn (lt:Nat->Nat->Bool)(p:Array Nat)(m:Nat):Prop:=∀i,0<i->i<m->lt (kv p (i-1)) (kv p i)=false
noncomputable def Eqv (lt:Nat->Nat->Bool)(a b:Nat):Prop:=lt a b=false/\lt b a=false
theorem Eqv.sy (h:Eqv lt a b):Eqv lt b a:=⟨h.2,h.1⟩
theorem Eqv.tr (o:Ord lt){a b c:Nat}(h:Eqv lt a b)(k:Eqv lt b c):Eqv lt a c:=⟨o.tr c b a k.1 h.1,o.tr a b c h.2 k.2⟩
theorem Up.le (o:Ord lt)(h:Up lt p m):∀{j i:Nat},i<=j->j<m->lt (kv p j) (kv p i)=false
 |0,i,h1,_=>by cases Nat.le_zero.mp h1;exact o.rf _
 |j+1,i,h1,h2=>by
  rcases Nat.lt_or_eq_of_le h1 with z|z
  ·exact o.tr _ _ _ (Up.le o h (by lia) (by lia)) (h (j+1) (by lia) h2)
  ·subst z;exact o.rf _
theorem Dn.eqv (o:Ord lt)(h:Dn lt p m)(e:∀k,Eqv lt (kv q k) (kv p k)):Dn lt q m:=fun i h1 h2=>
 o.tr _ _ _ (e i).2 (o.tr _ _ _ (h i h1 h2) (e (i-1)).1)
theorem znh (o:Ord lt)(hj:j<=p.size)(h:∀k,i<=k->k<j->Eqv lt (kv p k) (kv p (j-1)))(k:Nat):Eqv lt (kv (kas_rev p i j) k) (kv p k):=by
 rw[zqJ hj]
 split
 ·rename_i z
  exact(h _ (by lia) (by lia)).tr o (h k z.1 z.2).sy
 ·exact⟨o.rf _,o.rf _⟩
theorem Dn.turn (h:Dn lt p m)(hm:m<=p.size):Up lt (kas_rev p 0 m) m:=fun i h1 h2=>by
 rw[zqJ hm,zqJ hm,if_pos ⟨by lia,h2⟩,if_pos ⟨by lia,by lia⟩]
 have:=h (0+m-1-(i-1)) (by lia) (by lia)
 rwa[show 0+m-1-(i-1)-1=0+m-1-i by lia]at this
theorem zqT (hn:0<n)(hp:Pm n p):∀(f m:Nat),1<=m->Up lt p m->kGd n lt (kas_asc p f m) fun r=>m<=r/\r<=m+f/\Up lt p r/\(r<m+f->lt (kv p r) (kv p (r-1))=true)
 |0,m,_,h=>⟨Nat.le_refl _,Nat.le_refl _,h,fun z=>absurd z (Nat.lt_irrefl _)⟩
 |f+1,m,h1,h=>by
  refine⟨hp.lt hn m,hp.lt hn (m-1),?_⟩
  show kGd n lt (if lt (kv p m) (kv p (m-1))=true then _ else _) _
  split
  ·rename_i c
   exact⟨Nat.le_refl _,by lia,h,fun _=>c⟩
  ·rename_i c
   have c':lt (kv p m) (kv p (m-1))=false:=by simpa using c
   refine zcE (fun r hr=>⟨by lia,by lia,hr.2.2.1,fun z=>hr.2.2.2 (by lia)⟩) (zqT hn hp f (m+1) (by lia) fun i a b=>?_)
   rcases Nat.lt_or_eq_of_le (Nat.le_of_lt_succ b)with z|z
   ·exact h i a z
   ·subst z;exact c'
theorem zls (o:Ord lt)(hn:0<n):∀(f:Nat) (p:Array Nat) (m q:Nat),Pm n p->m+f<=n->q+1<=m->Dn lt p m->(∀k,m-(q+1)<=k->k<m->Eqv lt (kv p k) (kv p (m-1)))->
  kGd n lt (kas_desc f p m q) fun r=>Pm n r.1/\m<=r.2.1/\r.2.1<=m+f/\r.2.2+1<=r.2.1/\Dn lt r.1 r.2.1/\∀k,r.2.1-(r.2.2+1)<=k->k<r.2.1->Eqv lt (kv r.1 k) (kv r.1 (r.2.1-1))
 |0,p,m,q,hp,hm,hq,h,e=>⟨hp,Nat.le_refl _,Nat.le_refl _,hq,h,e⟩
 |f+1,p,m,q,hp,hm,hq,h,e=>by
  have more:∀{p':Array Nat},Dn lt p' m->lt (kv p' (m-1)) (kv p' m)=false->Dn lt p' (m+1):=fun h' c i a b=>by
   rcases Nat.lt_or_eq_of_le (Nat.le_of_lt_succ b)with z|z
   ·exact h' i a z
   ·subst z;exact c
  have one:∀{p':Array Nat} (k:Nat),m+1-(0+1)<=k->k<m+1->Eqv lt (kv p' k) (kv p' (m+1-1)):=fun k a b=>by
   obtain rfl:k=m:=by lia
   exact⟨o.rf _,o.rf _⟩
  refine⟨hp.lt hn m,hp.lt hn (m-1),?_⟩
  show kGd n lt (if lt (kv p m) (kv p (m-1))=true then(if q>0 then _ else _)else KasT.ask (kv p (m-1)) (kv p m) _) _
  split
  ·rename_i c
   have c2:=o.as _ _ c
   split
   ·have ev:=znh o (p:=p) (i:=m-(q+1)) (j:=m) (by rw[hp.size];lia) e
    have hl:lt (kv (kas_rev p (m-(q+1)) m) (m-1)) (kv (kas_rev p (m-(q+1)) m) m)=false:=o.tr _ _ _ (ev m).2 (o.tr _ _ _ c2 (ev (m-1)).1)
    exact zcE (fun r hr=>⟨hr.1,by lia,by lia,hr.2.2.2.1,hr.2.2.2.2⟩) (zls o hn f _ (m+1) 0 (hp.rev _ _) (by lia) (by lia) (more (h.eqv o ev) hl) one)
   ·exact zcE (fun r hr=>⟨hr.1,by lia,by lia,hr.2.2.2.1,hr.2.2.2.2⟩) (zls o hn f _ (m+1) 0 hp (by lia) (by lia) (more h c2) one)
  ·rename_i c
   have c':lt (kv p m) (kv p (m-1))=false:=by simpa using c
   refine⟨hp.lt hn (m-1),hp.lt hn m,?_⟩
   show kGd n lt (if lt (kv p (m-1)) (kv p m)=true then _ else _) _
   split
   ·exact⟨hp,Nat.le_refl _,Nat.le_add_right m (f+1),hq,h,e⟩
   ·rename_i d
    have d':lt (kv p (m-1)) (kv p m)=false:=by simpa using d
    refine zcE (fun r hr=>⟨hr.1,by lia,by lia,hr.2.2.2.1,hr.2.2.2.2⟩) (zls o hn f p (m+1) (q+1) hp (by lia) (by lia) (more h d') fun k a b=>?_)
    rcases Nat.lt_or_eq_of_le (Nat.le_of_lt_succ b)with z|z
    ·exact(e k (by lia) z).tr o ⟨d',c'⟩
    ·subst z;exact⟨o.rf _,o.rf _⟩
noncomputable def Run (lt:Nat->Nat->Bool)(n:Nat)(r:Nat×Array Nat):Prop:=Pm n r.2/\1<=r.1/\r.1<=n/\Up lt r.2 r.1
theorem zob (hn:0<n)(hp:Pm n p)(h1:1<=m)(h2:m<=n)(h:Dn lt p m):kGd n lt (kas_tail3 m n p) (Run lt n):=by
 refine zgK (zcE (fun r hr=>?_) (zqT hn (hp.rev 0 m) (n-m) m h1 (h.turn (by rw[hp.size];exact h2))))
 exact⟨hp.rev 0 m,by lia,by lia,hr.2.2.1⟩
theorem zkx (o:Ord lt)(hn:0<n){p:Array Nat}(hp:Pm n p)(h1:1<=m)(h2:m<n)(h:Dn lt p (m+1)):kGd n lt (kas_descPart m n p) (Run lt n):=by
 refine zgK (zcE (fun r hr=>?_) (zls o hn (n-(m+1)) p (m+1) 0 hp (by lia) (by lia) h fun k a b=>?_))
 ·obtain⟨a1,a2,a3,a4,a5,a6⟩:=hr
  split
  ·have ev:=znh o (p:=r.1) (i:=r.2.1-(r.2.2+1)) (j:=r.2.1) (by rw[a1.size];lia) a6
   exact zob hn (a1.rev _ _) (by lia) (by lia) (a5.eqv o ev)
  ·exact zob hn a1 (by lia) (by lia) a5
 ·obtain rfl:k=m:=by lia
  exact⟨o.rf _,o.rf _⟩
theorem gd_count (o:Ord lt)(hn:0<n){p:Array Nat}(hp:Pm n p):kGd n lt (kas_count n p) (Run lt n):=by
 refine zgK (zcE (fun m hm=>?_) (zqT hn hp (n-1) 1 (Nat.le_refl _) fun i a b=>absurd a (by lia)))
 obtain⟨a1,a2,a3,a4⟩:=hm
 split
 ·exact⟨hp,a1,by lia,a3⟩
 ·rename_i ne
  have ne':m≠n:=by simpa using ne
  have c:=a4 (by lia)
  split
  ·refine⟨hp.lt hn 0,hp.lt hn (m-1),?_⟩
   show kGd n lt (if lt (kv p 0) (kv p (m-1))=true then _ else _) _
   split
   ·exact⟨hp,a1,by lia,a3⟩
   ·rename_i d
    have d':lt (kv p 0) (kv p (m-1))=false:=by simpa using d
    have eq:∀k,0<=k->k<m->Eqv lt (kv p k) (kv p (m-1)):=fun k _ hk=>⟨o.tr _ _ _ d' (a3.le o (Nat.zero_le k) hk)|>fun z=>?_,a3.le o (by lia) (by lia)⟩
    ·have ev:=znh o (p:=p) (i:=0) (j:=m) (by rw[hp.size];lia) eq
     refine zkx o hn (hp.rev 0 m) a1 (by lia) fun i x y=>?_
     rcases Nat.lt_or_eq_of_le (Nat.le_of_lt_succ y)with z|z
     ·exact o.tr _ _ _ (ev i).2 (o.tr _ _ _ ((eq (i-1) (by lia) (by lia)).tr o (eq i (by lia) z).sy).1 (ev (i-1)).1)
     ·subst z;exact o.tr _ _ _ (ev i).2 (o.tr _ _ _ (o.as _ _ c) (ev (i-1)).1)
    ·exact o.tr _ _ _ d' (a3.le o (Nat.zero_le k) hk)
  ·obtain rfl:m=1:=by lia
   refine zkx o hn hp (Nat.le_refl _) (by lia) fun i x y=>?_
   obtain rfl:i=1:=by lia
   exact o.as _ _ c
theorem zma (o:Ord lt)(hn:0<n)(hp:Pm n p)(hu:Up lt p k):∀(f l r:Nat),l<=r->r<=k->r-l<=f->(∀i,i<l->lt (kv p k) (kv p i)=false)->(∀i,r<=i->i<k->lt (kv p k) (kv p i)=true)->
  kGd n lt (kas_place p k f l r) fun x=>x<=k/\(∀i,i<x->lt (kv p k) (kv p i)=false)/\∀i,x<=i->i<k->lt (kv p k) (kv p i)=true
 |0,l,r,h1,h2,h3,h4,h5=>by
  obtain rfl:l=r:=by lia
  exact⟨h2,h4,h5⟩
 |f+1,l,r,h1,h2,h3,h4,h5=>by
  unfold kas_place
  split
  ·obtain rfl:l=r:=by lia
   exact⟨h2,h4,h5⟩
  ·rename_i ne
   refine⟨hp.lt hn k,hp.lt hn _,?_⟩
   show kGd n lt (if lt (kv p k) (kv p ((l+r)/2))=true then _ else _) _
   split
   ·rename_i c
    refine zma o hn hp hu f l _ (by lia) (by lia) (by lia) h4 fun i a b=>?_
    exact o.lt_le c (hu.le o a b)
   ·rename_i c
    have c':lt (kv p k) (kv p ((l+r)/2))=false:=by simpa using c
    refine zma o hn hp hu f _ r (by lia) h2 (by lia) (fun i a=>?_) h5
    exact o.tr _ _ _ (hu.le o (i:=i) (j:=(l+r)/2) (by lia) (by lia)) c'
theorem gd_bin (o:Ord lt)(hn:0<n):∀(f:Nat) (p:Array Nat) (k:Nat),k+f=n->1<=k->Pm n p->Up lt p k->kGd n lt (kas_bin f p k) fun q=>Pm n q/\Up lt q n
 |0,p,k,h1,_,hp,hu=>by
  obtain rfl:k=n:=by lia
  exact⟨hp,hu⟩
 |f+1,p,k,h1,hk,hp,hu=>by
  refine zgK (zcE (fun x hx=>?_) (zma o hn hp hu k 0 k (Nat.zero_le _) (Nat.le_refl _) (by lia) (fun i a=>absurd a (by lia)) fun i a b=>absurd a (by lia)))
  obtain⟨b1,b2,b3⟩:=hx
  have hs:k<p.size:=by rw[hp.size];lia
  refine gd_bin o hn f _ (k+1) (by lia) (by lia) (hp.bub _ _) fun i a b=>?_
  have e:k-(k-x)=x:=by lia
  rw[kv_bub hs (by lia),kv_bub hs (by lia),e]
  by_cases z:i=x
  ·rw[if_pos z,if_neg (by lia),if_neg (by lia)]
   exact b2 (i-1) (by lia)
  ·rw[if_neg z]
   by_cases y:x<i
   ·rw[if_pos ⟨y,by lia⟩]
    by_cases u:i-1=x
    ·rw[if_pos u,u];exact o.as _ _ (b3 x (Nat.le_refl _) (by lia))
    ·rw[if_neg u,if_pos ⟨by lia,by lia⟩];exact hu (i-1) (by lia) (by lia)
   ·rw[if_neg (fun q=>y q.1),if_neg (by lia),if_neg (by lia)];exact hu i a (by lia)
theorem znu (o:Ord lt)(hn:0<n):kGd n lt (kas_sort n) fun q=>Pm n q/\Up lt q n:=by
 refine zgK (zcE (fun r hr=>?_) (gd_count o hn (p:=List.toArray (List.range n)) ⟨List.Perm.refl _⟩))
 obtain⟨a1,a2,a3,a4⟩:=hr
 split
 ·rw[show max r.1 1=r.1 by lia]
  exact gd_bin o hn _ _ _ (by lia) a2 a1 a4
 ·obtain e:r.1=n:=by lia
  rw[e]at a4
  exact⟨a1,a4⟩
end
noncomputable def srt (n:Nat)(lt:Nat->Nat->Bool):List Nat:=if n<2 then List.range n else(kRun lt (kas_sort n)).toList
theorem zhT {n:Nat}{lt:Nat->Nat->Bool}(o:Ord lt):(srt n lt).Perm (List.range n):=by
 unfold srt
 split
 ·exact List.Perm.refl _
 ·exact(zqB (znu o (n:=n) (by lia))).1.pm
end M
namespace HT
open PySem PySem.W
open PyProof.Rows (seqObj listItems_at listUpdate_at seqEpoch_at get?_update_seq size_push' sortedHeap sortedAll list_sort_plain arrOf failedOf general' keyKind' pairsOf collect_list)
noncomputable def outA (vs:List Value)(lt:Nat->Nat->Bool):List Value:=(M.srt vs.length lt).map fun i=>vs.getD i Value.none
theorem zoG {vs:List Value}{lt:Nat->Nat->Bool}(o:M.Ord lt):(outA vs lt).length=vs.length:=by
 unfold outA
 rw[List.length_map,(M.zhT o).length_eq,List.length_range]
theorem zla (vs:List Value):(List.range vs.length).map (fun i=>vs.getD i Value.none)=vs:=by
 refine List.ext_getElem (by simp) fun i h1 h2=>?_
 rw[List.getElem_map,List.getElem_range,List.getD_eq_getElem?_getD,List.getElem?_eq_getElem h2]
 rfl
section
variable {prog:Program} {w:World} {A:Around} {E:Value->Shared->Prop} {s:Shared}
noncomputable def Asked (prog:Program)(w:World)(A:Around)(ks:List Value)(lt:Nat->Nat->Bool)(s:Shared):Prop:=
 ∃κ,(∀(Q:PyProof.Rows.SortKind->Shared->Prop) (E:Value->Shared->Prop),Q κ s->wpAny (model prog w) A (keyKind' (List.toArray ks)) Q E s)/\∀i j C,i<ks.length->j<ks.length->C (lt i j) s->kas_ask prog w A κ ks i j C s
theorem zpj {a:Addr}{vs:List Value}{n:Nat}{lt:Nat->Nat->Bool}{P:PySem.Fin->Shared->Prop}(o:M.Ord lt)(ho:s.heap.get? a=some (seqObj "list" vs.toArray n))(h64:vs.length<64)
  (hk:2<=vs.length->∀h',(∀b u,b≠a->s.heap.get? b=some u->h'.get? b=some u)->Asked prog w A vs lt {s with heap:=h'})
  (h:P (.done (.ret .none)) {s with heap:=sortedHeap s.heap a vs (outA vs lt).toArray}):wpAny (model prog w) A (Builtin.«list.sort» ⟨[.ref a],[]⟩) P E s:=by
 rw[list_sort_plain]
 have ha:=Heap.lt_size ho
 have hsl:vs.length<=sizeLine:=by rw[sizeLine_eq];lia
 obtain⟨e1,g1⟩:∃c,(s.heap.update a (Obj.mapSeq fun _=> #[])).get? a=some (seqObj "list" #[] c):=⟨_,get?_update_seq ho fun _=> #[]⟩
 refine wpAny_bind (listItems_at ho rfl (wpAny_bind (listUpdate_at ho rfl (wpAny_bind (seqEpoch_at g1 rfl (wpAny_bind (wpAny_newTuple (wpAny_bind (wpAny_newList (wpAny_holding ?_) (Nat.zero_le _))) hsl)))) (by rw[List.size_toArray];exact hsl) (Nat.zero_le _))))
 generalize hH:((s.heap.update a (Obj.mapSeq fun _=>(#[]:Array Value))).push (seqObj "tuple" vs.toArray 0)).push (seqObj "list" #[] 0)=H3
 have g3:H3.get? a=some (seqObj "list" #[] e1):=by
  rw[<-hH];exact Heap.get?_push_of_some _ (Heap.get?_push_of_some _ g1)
 have k3:∀b u,b≠a->s.heap.get? b=some u->H3.get? b=some u:=fun b u z q=>by
  rw[<-hH];exact Heap.get?_push_of_some _ (Heap.get?_push_of_some _ ((Heap.get?_update_other _ _ (Ne.symm z)).trans q))
 show wpAny _ A _ P E {s with heap:=H3}
 dsimp only
 have fin:∀(st:PyProof.Rows.SortSt),(arrOf st).map (·.2)=(outA vs lt).toArray->failedOf st=none->wpAny (model prog w) A (do
   let sorted:=(arrOf st).map (·.2)
   let touched:=(<-seqEpoch a) !=e1
   Builtin.List.listUpdate (.ref a) fun _=>sorted
   if let some e:=failedOf st then rule "list.sort.comparison-raised";throw e
   if touched then rule "list.sort.modified";raiseError "ValueError" "list modified during sort"
   ret .none) P E {s with heap:=H3}:=fun st e f=>by
  dsimp only
  rw[e,f]
  refine wpAny_bind (seqEpoch_at g3 rfl (wpAny_bind (listUpdate_at g3 rfl ?_ (Nat.zero_le _) (by rw[List.size_toArray,zoG o];lia))))
  simp only[bne_self_eq_false,Bool.false_eq_true,if_false]
  refine wpAny_pure ?_
  rw[<-hH]
  exact h
 have hz:vs.toArray.size=vs.length:=List.size_toArray ..
 by_cases h2:vs.length<2
 ·simp only[if_pos (show vs.toArray.size<2 by rw[hz];exact h2)]
  refine wpAny_bind (wpAny_pure ?_)
  rw[StateT.run_pure]
  refine wpAny_bind (wpAny_pure (fin _ ?_ rfl))
  unfold outA M.srt
  rw[if_pos h2,zla]
  show((vs.toArray.zip vs.toArray).map (·.2))=_
  apply Array.toList_inj.mp
  simp[List.map_snd_zip]
 ·simp only[if_neg (show ¬vs.toArray.size<2 by rw[hz];exact h2)]
  obtain⟨κ,a1,a2⟩:=hk (by lia) H3 k3
  refine wpAny_bind (a1 _ _ (wpAny_bind (wpAny_mono (kat_run (Q:=fun st s'=>s'={s with heap:=H3}/\(arrOf st).map (·.2)=(outA vs lt).toArray/\failedOf st=none) (G:=fun p s'=>s'={s with heap:=H3}/\p=M.kRun lt (kas_sort vs.length)) rfl (by lia) h64 (fun p st s' b1 b2 b3 b4=>⟨b4.1,?_,b3⟩) (M.zq5 (n:=vs.length) (lt:=lt) a2 (M.znu o (by lia)) ⟨rfl,rfl⟩)) (fun r s' ⟨c1,c2,c3⟩=>?_) fun _ _ x=>x)))
  ·rw[kat_snds rfl b2,b4.2]
   unfold outA M.srt
   rw[if_neg h2]
  ·subst c1
   exact fin r.2 c2 c3
theorem sortedA {l:Addr}{vs:List Value}{lt:Nat->Nat->Bool}{Q:Value->Shared->Prop}(o:M.Ord lt)(hl:s.heap.IsList l vs.toArray)(h64:vs.length<64)
    (hk:2<=vs.length->∀h',(∀b u,s.heap.get? b=some u->h'.get? b=some u)->Asked prog w A.in1.in1 vs lt {s with heap:=h'})
    (h:Q (.ref (s.heap.objs.size+1)) {s with heap:=sortedAll s.heap vs (outA vs lt).toArray}):wpAny (model prog w) A (call (.builtin "sorted") [.ref l]) Q E s:=by
  have hsl:vs.length<=sizeLine:=by rw[sizeLine_eq];lia
  have hsz:((s.heap.push (seqObj "list" #[] 0)).update s.heap.objs.size (Obj.mapSeq (· ++vs.toArray))).objs.size=s.heap.objs.size+1:=(Heap.size_update ..).trans (size_push' ..)
  refine Calls.call_function_entry PyProof.Rows.kind_sorted PyProof.Rows.plain_sorted PyProof.Rows.entry_sorted (PyProof.Rows.args_sorted1 _) (?_:wpAny _ _ (Builtin.«sorted» _) _ _ _)
  unfold Builtin.«sorted»
  refine wpAny_bind (m:=checkCount "sorted" 1 1 _) (wpAny_pure (wpAny_bind (collect_list hl (wpAny_bind (wpAny_newList ?_ hsl)) hsl)))
  have g:(((s.heap.push (seqObj "list" #[] 0)).update s.heap.objs.size (Obj.mapSeq (· ++vs.toArray))).push (seqObj "list" vs.toArray 0)).get? (s.heap.objs.size+1)=some (seqObj "list" vs.toArray 0):=hsz ▸ Heap.get?_push_size _ rfl
  show wpAny _ _ _ _ _ {s with heap:=((s.heap.push (seqObj "list" #[] 0)).update s.heap.objs.size (Obj.mapSeq (· ++vs.toArray))).push (seqObj "list" vs.toArray 0)}
  rw[hsz]
  refine wpAny_bind (wpAny_holding (wpAny_call_entry PyProof.Rows.slot_list_sort ⟨_,g,rfl⟩ PyProof.Rows.entry_list_sort (zpj o g h64 (fun h2 h' k=>hk h2 h' fun b u q=>?_) ⟨_,rfl,wpAny_pure ⟨_,rfl,h⟩⟩) (PyProof.Rows.args_list_sort _)))
  have hlt:=Heap.lt_size q
  exact k b u (Nat.ne_of_lt (Nat.lt_succ_of_lt hlt)) (Heap.get?_push_of_some _ ((Heap.get?_update_other _ _ (Nat.ne_of_gt hlt)).trans (Heap.get?_push_of_some _ q)))
end
end HT
namespace HT
open PySem PySem.Spec PySem.W
open PyProof.Rows (IntsAre IsTup)
theorem lex_tr:∀a b c:List Int,zkU b a=false->zkU c b=false->zkU c a=false
 |[],_,[],_,_=>rfl
 |[],_,_::_,_,_=>rfl
 |_::_,[],_,h,_=>by cases h
 |_::_,_::_,[],_,h=>by cases h
 |x::xs,y::ys,z::zs,h,k=>by
  rw[zgH]at h k ⊢
  by_cases e:y=x
  ·by_cases f:z=y
   ·rw[if_pos e]at h;rw[if_pos f]at k;rw[if_pos (f.trans e)];exact lex_tr xs ys zs h k
   ·rw[if_neg f]at k;subst e;rw[if_neg f];exact k
  ·rw[if_neg e]at h
   have h':=of_decide_eq_false h
   by_cases f:z=y
   ·rw[if_neg (by lia)];exact decide_eq_false (by lia)
   ·rw[if_neg f]at k
    have k':=of_decide_eq_false k
    rw[if_neg (by lia)];exact decide_eq_false (by lia)
theorem lex_as:∀a b:List Int,zkU a b=true->zkU b a=false
 |[],[],h=>by cases h
 |[],_::_,_=>rfl
 |_::_,[],h=>by cases h
 |x::xs,y::ys,h=>by
  rw[zgH]at h ⊢
  by_cases e:x=y
  ·rw[if_pos e]at h;rw[if_pos e.symm];exact lex_as xs ys h
  ·rw[if_neg e]at h
   have h':=of_decide_eq_true h
   rw[if_neg (by lia)];exact decide_eq_false (by lia)
noncomputable def ziw (nss:List (List Int))(i j:Nat):Bool:=zkU (nss.getD i []) (nss.getD j [])
theorem zlh (nss:List (List Int)):M.Ord (ziw nss):=⟨fun _ _ _=>lex_tr _ _ _,fun _ _=>lex_as _ _⟩
section
variable {prog:Program} {w:World} {A:Around} {E:Value->Shared->Prop} {s:Shared}
theorem zcT {α:Type}{l:List α}{i:Nat}{x d:α}(h:l[i]? =some x):l.getD i d=x:=by rw[List.getD_eq_getElem?_getD,h];rfl
theorem zk3 {ks:List Value}{ns:List Int}(hi:IntsAre ks ns)(h2:2<=ks.length):Asked prog w A ks (ziw (ns.map fun n=>[n])) s:=by
 refine⟨PyProof.Rows.oneType',fun Q E h=>?_,fun i j C h1 h3 h=>?_⟩
 ·rw[PyProof.Rows.ksk_kind (kz:=ns) hi (by rw[List.size_toArray];exact h2)]
  exact wpAny_pure h
 ·obtain⟨n,t,e1,e2⟩:=hi.at i _ (List.getElem?_eq_getElem h1)
  obtain⟨m,u,f1,f2⟩:=hi.at j _ (List.getElem?_eq_getElem h3)
  unfold kas_ask
  rw[zcT (List.getElem?_eq_getElem h1),zcT (List.getElem?_eq_getElem h3),e1,f1]
  refine kat_lt_int ?_
  unfold ziw at h
  rw[zcT (x:=[n]) (by rw[List.getElem?_map,e2];rfl),zcT (x:=[m]) (by rw[List.getElem?_map,f2];rfl),zgH]at h
  by_cases z:n=m
  ·subst z;rw[if_pos rfl]at h;rw[decide_eq_false (Int.lt_irrefl n)];exact h
  ·rwa[if_neg z]at h
theorem zqw {b fin:Bool}{Q:Bool->Shared->Prop}:∀{xs ys:List Value} {ns ms:List Int} (i:Nat),IntsAre xs ns->IntsAre ys ms->fin=decide (ns.length<ms.length)->Q (zkU ns ms) s->KatLex prog w A b fin Q (xs.zip ys) i s
 |_,_,_,_,i,.nil,.nil,e,h=>by subst e;exact h
 |_,_,_,_,i,.nil,.cons _ _ _,e,h=>by subst e;exact h
 |_,_,_,_,i,.cons _ _ _,.nil,e,h=>by subst e;exact h
 |_,_,_,_,i,.cons n t hx,.cons m u hy,e,h=>by
  refine kat_cons (wpAny_eqBool_int ?_)
  rw[zgH]at h
  by_cases z:n=m
  ·rw[if_pos z]at h
   rw[beq_iff_eq.mpr z]
   exact kat_yes (zqw (i+1) hx hy (by rw[e];simp) h)
  ·rw[if_neg z]at h
   rw[beq_eq_false_iff_ne.mpr z]
   refine kat_no ?_
   cases hb:(b&&i==0)with
   |true=>exact PyProof.Rows.oneLt_int h
   |false=>exact kat_one _ _ (PyProof.Rows.lt_int h)
noncomputable def zqC (h:Heap)(ks:List Value)(nss:List (List Int)):Prop:=ks.length=nss.length/\∀(i:Nat) v ns,ks[i]? =some v->nss[i]? =some ns->∃a its,v= .ref a/\IsTup h a (List.toArray its)/\IntsAre its ns/\ns≠[]
theorem zq9 {h:Heap}:∀{ks:List Value} {nss:List (List Int)},zqC h ks nss->∃fs,KatTups h ks fs/\fs.length=ks.length/\∀v∈fs,∃n t,v=Value.int n t
 |[],nss,_=>⟨[],KatTups.nil,rfl,fun v hv=>absurd hv (by simp)⟩
 |k::ks,[],⟨h1,_⟩=>by simp at h1
 |k::ks,ns::nss,⟨h1,h2⟩=>by
  obtain⟨a,its,rfl,⟨o,ho,hc,n,hd⟩,hi,ne⟩:=h2 0 _ _ rfl rfl
  obtain⟨fs,g1,g2,g3⟩:=zq9 (ks:=ks) (nss:=nss) ⟨by simpa using h1,fun i v ns e1 e2=>h2 (i+1) v ns (by simpa using e1) (by simpa using e2)⟩
  cases hi with
  |nil=>exact absurd rfl ne
  |cons m t hi=>
   refine⟨.int m t::fs,KatTups.cons ho hc hd rfl g1,by simp[g2],fun v hv=>?_⟩
   rcases List.mem_cons.mp hv with rfl|hv
   ·exact⟨m,t,rfl⟩
   ·exact g3 v hv
theorem zpe {ks:List Value}{nss:List (List Int)}(ht:zqC s.heap ks nss)(h2:2<=ks.length):Asked prog w A ks (ziw nss) s:=by
 obtain⟨fs,g1,g2,g3⟩:=zq9 ht
 refine⟨PyProof.Rows.tuples' true,fun Q E h=>?_,fun i j C h1 h3 h=>?_⟩
 ·refine kat_kind (T:= .type "int") g1 (by lia) (fun v hv=>?_) rfl h
  obtain⟨n,t,rfl⟩:=g3 v hv
  exact Looks.now
 ·have hl:=ht.1
  obtain⟨a,its,e1,⟨o,ho,hc,n,hd⟩,hi,_⟩:=ht.2 i _ _ (List.getElem?_eq_getElem h1) (List.getElem?_eq_getElem (by lia))
  obtain⟨b,its2,f1,⟨o2,ho2,hc2,n2,hd2⟩,hi2,_⟩:=ht.2 j _ _ (List.getElem?_eq_getElem h3) (List.getElem?_eq_getElem (by lia))
  unfold kas_ask
  rw[zcT (List.getElem?_eq_getElem h1),zcT (List.getElem?_eq_getElem h3),e1,f1]
  unfold ziw at h
  rw[zcT (List.getElem?_eq_getElem (l:=nss) (i:=i) (by lia)),zcT (List.getElem?_eq_getElem (l:=nss) (i:=j) (by lia))]at h
  refine kat_lt ho hd ho2 hd2 (zqw 0 hi hi2 ?_ h)
  rw[List.size_toArray,List.size_toArray,hi.length,hi2.length]
end
end HT
namespace M
open L2 PySem PySem.Spec
open PyProof.Rows hiding St
noncomputable def zpa (ds:List D):Option (List (List Int)):=match zbz ds with
 |some ns=>some (ns.map fun n=>[n])
 |none=>(zpC ds).bind fun nss=>if nss.all fun ns=>!ns.isEmpty then some nss else none
noncomputable def srtD (nss:List (List Int))(ds:List D):List D:=(srt ds.length (HT.ziw nss)).map fun i=>ds.getD i .non
noncomputable def dSrt:List D->Option (List D)
 |[.lst ds]=>if ds.length<64 then(zpa ds).map fun nss=>srtD nss ds else none
 |_=>none
noncomputable def KeyV (K:W.Frag)(H:Hp)(ys:List V)(nss:List (List Int)):Prop:=
 (∃ns:List Int,ys=ns.map V.int/\nss=ns.map fun n=>[n])\/∃as:List Addr,ys=as.map V.ref/\as.length=nss.length/\∀(i:Nat) a ns,as[i]? =some a->nss[i]? =some ns->SqT K H a (ns.map V.int)/\ns≠[]
noncomputable def srtV (nss:List (List Int))(ys:List V):List V:=(srt ys.length (HT.ziw nss)).map fun i=>ys.getD i .non
noncomputable def rSrt (K:W.Frag):List V->Hp->VK->Prop:=fun xs H Q=>∃(p:Addr) (ys:List V) (nss:List (List Int)),xs=[.ref p]/\SqL K H p ys/\ys.length<64/\KeyV K H ys nss/\∀l,H l=none->Q (.ref l) (upd H l (.lst (srtV nss ys)))
theorem zjR {ys:List V}{its:List Value}(r:Vals ys its):∀ix:List Nat,Vals (ix.map fun i=>ys.getD i .non) (ix.map fun i=>its.getD i .none)
 |[]=> .nil
 |i::ix=>by
  refine .cons ?_ (zjR r ix)
  dsimp only
  cases e:ys[i]? with
  |some y=>
   obtain⟨u,h1,h2⟩:=r.get e
   rw[HT.zcT e,HT.zcT h1];exact h2
  |none=>
   rw[List.getD_eq_getElem?_getD,List.getD_eq_getElem?_getD,e,r.none_of e];exact rfl
theorem znn {X:Cx}:zhw X (.builtin "sorted") (rSrt X.K):=by
 intro pins s σ H xs us Q I r h
 obtain⟨p,ys,nss,rfl,hq,h64,kv,q⟩:=h
 obtain⟨u,rfl,ru⟩:=zkI r
 cases ru
 obtain⟨its,rv,pl,hz⟩:=I.list hq
 have hl:=rv.length
 refine HT.sortedA (HT.zlh nss) pl.isList (by lia) (fun h2 h' k=>?_) ?_
 ·rcases kv with⟨ns,rfl,rfl⟩|⟨as,rfl,e1,e2⟩
  ·exact HT.zk3 (zeA rv) h2
  ·refine HT.zpe ⟨by rw[<-hl,List.length_map,e1],fun i v ns e3 e4=>?_⟩ h2
   obtain⟨a,ea,rfl⟩:=refs_get rv e3
   obtain⟨g1,g2⟩:=e2 i a ns ea e4
   have I':Inv X pins σ H {s with heap:=h'}:=I.kept k
   obtain⟨its2,r2,p2,_⟩:=I'.tuple g1
   exact⟨a,its2,rfl,p2,zeA r2,g2⟩
 ·obtain⟨e,he⟩:=PyProof.Rows.sortedAll_at s.heap its (HT.outA its (HT.ziw nss)).toArray
  refine⟨.ref (s.heap.objs.size+1),upd H (s.heap.objs.size+1) (.lst (srtV nss ys)),I.laid (t':=s.toks) (fun b u z=>PyProof.Rows.sortedAll_old z) (Nat.le_succ _) ?_,rfl,q _ (I.hok.fresh (Nat.le_succ _))⟩
  have r2:=zjR rv (srt ys.length (HT.ziw nss))
  refine⟨?_,HT.outA its (HT.ziw nss),e,?_,he⟩
  ·unfold srtV
   rw[List.length_map,(zhT (HT.zlh nss)).length_eq,List.length_range];exact hz
  ·unfold HT.outA srtV
   rw[<-hl];exact r2
theorem RepL.picks {K:W.Frag}{G:Hp}{ys:List V}{ds:List D}(r:RepL K G ys ds):∀ix:List Nat,RepL K G (ix.map fun i=>ys.getD i .non) (ix.map fun i=>ds.getD i .non)
 |[]=> .nil
 |i::ix=>by
  refine .cons ?_ (RepL.picks r ix)
  dsimp only
  cases e:ds[i]? with
  |some y=>
   obtain⟨u,h1,h2⟩:=r.get e
   rw[HT.zcT e,HT.zcT h1];exact h2
  |none=>
   have e':ys[i]? =none:=by rw[List.getElem?_eq_none_iff]at e ⊢;rw[r.length];exact e
   rw[List.getD_eq_getElem?_getD,List.getD_eq_getElem?_getD,e,e'];exact rfl
theorem keyV_of {K:W.Frag}{G H:Hp}{ys:List V}{ds:List D}{nss:List (List Int)}(f:Fz G H)(r:RepL K G ys ds)(e:zpa ds=some nss):KeyV K H ys nss:=by
 unfold zpa at e
 split at e
 ·rename_i ns h
  cases e
  rw[zcI h]at r
  exact .inl ⟨ns,RepL.ints_eq r,rfl⟩
 ·obtain⟨ms,e1,e⟩:=zah e
  split at e
  ·rename_i ha
   cases e
   obtain⟨as,rfl,hl,h⟩:=zmJ r e1
   refine .inr ⟨as,rfl,hl,fun i a ns h1 h2=>⟨SqT.of (f _ _ (h i a ns h1 h2)),fun z=>?_⟩⟩
   have:=List.all_eq_true.mp ha ns (List.mem_of_getElem? h2)
   rw[z]at this;cases this
  ·cases e
theorem zmx {X:Cx}{e:Expr}{ma:MA}{p pos:Pos}(ml:X.mg "sorted"=none)(ha:SA X [e] ma)(hg:autoParam (Gl X "sorted") zu2._auto_1)(he:autoParam (starEach [e] X.env=(false,eval e X.env)::starEach [] X.env) zu2._auto_1)(hb:autoParam (bootBuiltins "sorted"=some (.builtin "sorted")) zu7._auto_1):
  SO X (.Call (.Name "sorted" p) [e] [] pos) (oC dSrt ma):=by
 obtain⟨t,pa,sa⟩:=ha
 refine⟨_,zjB znn hg ml hb pa (by decide) (by decide) he rfl,fun B G H σ ρ ds ρ' Q I hm k=>?_⟩
 obtain⟨as,e1,e2⟩:=oC_inv hm
 refine sa B G H σ ρ as ρ' _ I e1 fun G1 H1 vs I1 f1 r1=>?_
 unfold dSrt at e2
 split at e2
 ·rename_i es
  split at e2
  ·rename_i h64
   obtain⟨nss,e3,rfl⟩:=zau e2
   obtain⟨x,rfl,ra⟩:=r1.one
   obtain⟨q,ys,rfl,hp,ry⟩:=I1.lst ra
   have hl:=ry.length
   refine⟨q,ys,nss,rfl,SqL.of hp,by lia,keyV_of I1.fz ry e3,fun l h0=>?_⟩
   obtain⟨I2,g2,h2,b2,n2⟩:=I1.newO h0 (srtV nss ys)
   refine k G1 _ l _ I2 f1 g2 h2 ?_ b2 n2
   unfold srtV srtD
   rw[hl];exact ry.picks _
  ·cases e2
 ·cases e2
noncomputable def sCut (i:Nat)(me ml mh:ME):MS:=fun ρ=>(me ρ).bind fun p=>if(p.2[i]?.bind Sl.items).isSome then(ml p.2).bind fun q=>(mh q.2).bind fun r=>r.2[i]?.bind fun s=>s.items.bind fun ds=>match p.1,q.1,r.1 with
 | .lst es,.int m,.int n=>if decide (0<=m)&&decide (m<=n)&&decide (n<=ds.length)&&decide (ds.length+es.length<=16777216)then some (.next,r.2.set i (s.put (ds.take m.toNat++es++ds.drop n.toNat)))else none
 |_,_,_=>none else none
end M
namespace HT
open PySem
noncomputable def SIt (h:Heap)(I S:Addr)(first:Value)(i n ep:Nat):Prop:=∃o,h.get? I=some o/\o.cls= .type "set_iterator"/\o.data= .fields #[first,.int i 0,.ref S,.int n 0,.int ep 0]
end HT
namespace M
open L2 PySem PySem.Spec
open PyProof.Rows hiding St
theorem zhJ:∀{its:List Value} {ns:List Int},IntsAre its ns->Vals (ns.map V.int) its
 |_,_,.nil=> .nil
 |_,_,.cons n t h=> .cons ⟨t,rfl⟩ (zhJ h)
end M
namespace M
open L2 PySem
noncomputable def zqP (f g h:D->D->Option D)(a b c d:ME):ME:=fun ρ=>(a ρ).bind fun p=>(b p.2).bind fun q=>(f p.1 q.1).bind fun t=>match t with
 | .bl true=>(c q.2).bind fun r=>(g q.1 r.1).bind fun t'=>match t' with
  | .bl true=>(d r.2).bind fun s=>(h r.1 s.1).map fun x=>(x,s.2)
  | .bl false=>some (.bl false,r.2)
  |_=>none
 | .bl false=>some (.bl false,q.2)
 |_=>none
noncomputable def oMv (i:Nat):MO:=fun ρ=>match ρ[i]? with
 |some (.own ds)=>some (ds,ρ.set i .emp)
 |_=>none
theorem so_mv {X:Cx}(i:Nat){x:Str}{pos':Pos}(hN:autoParam (X.N[i]? =some x) zu2._auto_1)(hv:autoParam (Vis X.env.scope x) zu5._auto_1)(hd:autoParam ((x==("__debug__":Str))=false) zu1._auto_1)
  (hcd:autoParam ((x==("__classdict__":Str))=false) zu1._auto_1):SO X (.Name x pos') (oMv i):=by
 refine⟨_,zfw hN hv hd hcd,fun B G H σ ρ ds ρ' Q I hm k=>?_⟩
 unfold oMv at hm
 split at hm
 ·rename_i ds' e
  cases hm
  obtain⟨l,xs,h1,h2,h3,h4,h5⟩:=I.slot i _ e
  exact⟨.ref l,h1,k G H l xs (I.emp i) (Fz.refl G) h2 h3 h4 h5 (nw_emp I e (by first|exact h1|exact⟨_,h1,rfl⟩|(unfold OwS;exact h1)))⟩
 ·cases hm
end M
namespace M
open L2 PySem PySem.Spec
open PyProof.Rows hiding St
open Classical in
noncomputable abbrev MG:=R->Option (R×R)
end M
namespace M
open L2 PySem PySem.Spec
open PyProof.Rows hiding St
noncomputable abbrev MXG:=R->Option (Str×R)
end M
namespace L2
open PyProof.Rows PySem PySem.Spec
open PySem.W (tabObj CodeHd kla_fn kla_obj codeHdIn)
theorem tabP.det {K:W.Frag}{mg:Str->Option Value}{P P':Addr}{q q':Str}(h:tabP K mg P q)(h':tabP K mg P' q'):P=P'/\q=q':=by
 obtain⟨f,o,fd,c,oc,vs,a1,a2,a3,a4,a5,a6,a7,a8,rfl⟩:=h
 obtain⟨f',o',fd',c',oc',vs',b1,b2,b3,b4,b5,b6,b7,b8,rfl⟩:=h'
 rw[a1]at b1;cases b1
 rw[a2]at b2;cases b2
 rw[a3]at b3;cases b3
 rw[a4]at b4;cases b4
 rw[a5]at b5;cases b5
 rw[a6]at b6;cases b6
 rw[a7]at b7;cases b7
 exact⟨rfl,rfl⟩
theorem zpS {pos:Pos}{cv z:Value}{a b:Int}(l:List Value)(ht:TriplesOk l)(h:codeAmong pos (l++[rawInt a,rawInt b,z])=some cv):codeAmong pos l=some cv\/cv=z:=by
 fun_induction TriplesOk l with
 |case1=>
  right
  simp only[List.nil_append,rawInt,codeAmong]at h
  split at h
  ·cases h;rfl
  ·cases h
 |case2 _ _ _ _ _ r ih=>
  simp only[List.cons_append,codeAmong]at h ⊢
  split at h
  ·rename_i q;rw[if_pos q];exact .inl h
  ·rename_i q;rw[if_neg q];exact ih ht h
 |case3=>exact ht.elim
inductive Grows (H:Hp):Hp->Prop
 |refl:Grows H H
 |step {H1:Hp} {a:Addr} {o:HO}:Grows H H1->H1 a=none->Grows H (upd H1 a o)
theorem Grows.old {H H':Hp}(g:Grows H H'){b:Addr}{o:HO}(e:H b=some o):H' b=some o:=by
 induction g with
 |refl=>exact e
 |step g n ih=>rw[zar (zax ih n)];exact ih
structure LamAt (H:Hp) (f:Addr) (params:Arguments) (body:Expr) (scope:Scope) (clos:List (Str×Addr)) (q:Str):Prop where
 ex:∃fo u c' oc u2 vs t pm ctv,H f=some (.frz fo u)/\fo=kla_obj "<lambda>" q params body scope clos pm c' ctv/\H c'=some (.frz oc u2)/\oc.data= .fields vs/\vs[1]? =some (.str q t)
theorem LamAt.old {H H':Hp}{f:Addr}{params:Arguments}{body:Expr}{scope:Scope}{clos:List (Str×Addr)}{q:Str}(l:LamAt H f params body scope clos q)(k:∀b o u,H b=some (.frz o u)->H' b=some (.frz o u)):LamAt H' f params body scope clos q:=
 let⟨fo,u,c',oc,u2,vs,t,pm,ctv,a1,a2,a3,a4⟩:=l.ex
 ⟨fo,u,c',oc,u2,vs,t,pm,ctv,k _ _ _ a1,a2,k _ _ _ a3,a4⟩
theorem lam_make {X:Cx}{pins:List (Addr×Obj)}{σ:St}{H:Hp}{s:Shared}{params:Arguments}{body:Expr}{scope:Scope}{pos:Pos}{clos:List (Str×Addr)}{P c:Addr}{q:Str}{Q:Value->Shared->Prop}{E:Value->Shared->Prop}
  (I:Inv X pins σ H s) (hT:tabP X.K X.mg P q) (hc:X.env.code= .ref c) (hC:codeHdIn X.K c P=true) (hq:X.env.qual++"<lambda>"=q) (hcl:closureFor scope X.env=pure clos) (hdef:defaultsOf params X.env=([],[]))
  (h:∀f H' s',Grows H H'->Inv X pins σ H' s'->LamAt H' f params body scope clos q->Q (.ref f) s'):
  wpAny (model X.prog X.w) X.A (eval (.Lambda params body scope pos) X.env) Q E s:=by
 obtain⟨tk0,hP⟩:=I.tab P q hT
 obtain⟨q',tk,qs,z,e,tr,al⟩:=I.hok P _ hP
 have zz:q'=q:=by
  have:=congrArg (fun a=>a[0]?) z
  simp only[List.getElem?_toArray,List.getElem?_cons_zero,Option.some.injEq,Value.str.injEq]at this
  exact this.1.symm
 subst zz
 have C:CodeHd s.heap c P:=W.codeHd_of_K I.kIn hC
 have hgs:=I.mod.glob.keeps I.bk
 obtain⟨bm,ob,b1,b2,b3,b4,b5,b6⟩:=I.mod.bmain
 have b3':=I.bk _ _ b3
 have hgP:mainGlobals≠P:=fun w=>by
  obtain⟨o,es,ep,e1,hd,_⟩:=hgs
  rw[w,e]at e1;cases e1;cases hd
 have hbP:bm≠P:=fun w=>by rw[w,e]at b3';cases b3';cases b4
 have hbG:bm≠mainGlobals:=fun w=>by
  obtain⟨o,es,ep,e1,hd,_⟩:=hgs
  rw[<-w,b3']at e1;cases e1;rw[b6]at hd;cases hd
 have nP:∀b,H b=none->b≠P:=fun b n w=>by rw[w,hP]at n;cases n
 refine W.kla_eval hdef ?_
 rw[hq]
 cases hA:codeAmong pos qs.toList with
 |some cv=>
  obtain⟨c',oc,vs,t,rfl,⟨u,hc'⟩,hd,hv⟩:=al pos cv hA
  refine W.kla_makeFunctionHit (mg:=X.mg) hcl I.ok.glob hgs hc C e tr hA ⟨bm,ob,b1,b2,hbG,hbP,b3',b4,b5,b6⟩ fun ctv h' tk' hk hsz=>?_
  have nf:H h'.objs.size=none:=I.hok.fresh hsz
  refine h _ (upd H h'.objs.size (.frz _ (.own 0))) _ (.step .refl nf) (I.laid (t':=tk') (fun b u e=>Heap.get?_push_of_some _ (hk b u e)) hsz ⟨Heap.get?_push_size _ rfl,_,Heap.get?_push_size _ rfl⟩) ⟨_,_,c',oc,u,vs,t,_,ctv,zaA,rfl,by rw[zar (zax hc' nf)];exact hc',hd,hv⟩
 |none=>
  refine W.kla_makeFunction (mg:=X.mg) hcl I.ok.glob hgs hc C e tr hA hgP ⟨bm,ob,b1,b2,hbG,hbP,b3',b4,b5,b6⟩ fun c' ctv h' tk' hx hge hlt hrec htb=>?_
  obtain⟨c2,oc,vs,t,e2,hoc,hd,hv⟩:=hrec
  cases e2
  have nc:H c'=none:=I.hok.fresh hge
  have sz':s.heap.objs.size<=h'.objs.size:=Nat.le_trans hge (Nat.le_of_lt hlt)
  have nf0:H h'.objs.size=none:=I.hok.fresh sz'
  have fc:h'.objs.size≠c':=Nat.ne_of_gt hlt
  have nf:(upd H c' (.frz oc (.own 0))) h'.objs.size=none:=by rw[zar fc];exact nf0
  have k1:∀(fo:Obj) b o,b≠P->s.heap.get? b=some o->(h'.push fo).get? b=some o:=fun fo b o nb e=>Heap.get?_push_of_some _ (hx b o nb e)
  have out:∀(fo:Obj) b,b<s.heap.objs.size->(upd (upd H c' (.frz oc (.own 0))) h'.objs.size (.frz fo (.own 0))) b=H b:=fun fo b hb=>by
   rw[zar (Nat.ne_of_lt (Nat.lt_of_lt_of_le hb sz')),zar (Nat.ne_of_lt (Nat.lt_of_lt_of_le hb hge))]
  have trk:∀b u,H b=some u->b<s.heap.objs.size:=fun b u e=>I.hok.lt e
  refine h _ (upd (upd H c' (.frz oc (.own 0))) h'.objs.size (.frz (kla_obj "<lambda>" q' params body scope clos ((X.mg "__name__").getD .none) c' ctv) (.own 0))) _ (.step (.step .refl nc) nf)
   (I.step (g' := s.gens) (d' := s.drawn) (t' := tk') (ch := []) (fun _ z => nomatch z) (fun b o _ _ _ e n => k1 _ b o (nP b n) e) (fun b o _ _ _ e n => ⟨o.slots, k1 _ b o (nP b n) e⟩) (fun b o _ e n => by rw [out _ b (Heap.lt_size e)]; exact n) (fun b o _ e => ?_)
    (fun b xs e=>by rw[out _ b (trk b _ e)];exact e) (fun b o u e=>by rw[out _ b (trk b _ e)];exact e) (fun b ps e=>by rw[out _ b (trk b _ e)];exact e) (fun m hm=>?_) (fun b u eb=>?_) I.bare)
   ⟨_,_,c',oc,_,vs,t,(X.mg "__name__").getD .none,ctv,zaA,rfl,by rw[zar (Ne.symm fc)];exact zaA,hd,hv⟩
  ·by_cases bP:b=P
   ·exact⟨_,by rw[bP];exact Heap.get?_push_of_some _ htb⟩
   ·exact⟨o,k1 _ b o bP e⟩
  ·obtain⟨o,es,ep,ho,r⟩:=hm
   exact⟨o,es,ep,k1 _ _ o (nP _ I.free) ho,r⟩
  ·by_cases bf:b=h'.objs.size
   ·subst bf;rw[zaA]at eb;cases eb;exact⟨Heap.get?_push_size _ rfl,_,Heap.get?_push_size _ rfl⟩
   ·rw[zar bf]at eb
    by_cases bc:b=c'
    ·subst bc;rw[zaA]at eb;cases eb;exact⟨Heap.get?_push_of_some _ hoc,_,Heap.get?_push_of_some _ hoc⟩
    ·rw[zar bc]at eb
     have ft:∀b o u,H b=some (.frz o u)->(upd (upd H c' (.frz oc (.own 0))) h'.objs.size (.frz (kla_obj "<lambda>" q' params body scope clos ((X.mg "__name__").getD .none) c' ctv) (.own 0))) b=some (.frz o u):=fun b o u e=>by rw[out _ b (trk b _ e)];exact e
     by_cases bP:b=P
     ·subst bP
      rw[hP]at eb;cases eb
      refine⟨q',tk0,_,rfl,Heap.get?_push_of_some _ htb,?_,fun pos' cv hcv=>?_⟩
      ·rw[Array.toList_append];exact TriplesOk_snoc _ _ _ _ tr
      ·rw[Array.toList_append]at hcv
       rcases zpS _ tr hcv with w|rfl
       ·obtain⟨c3,oc3,vs3,t3,e3,⟨u3,g3⟩,r3⟩:=al pos' cv w
        exact⟨c3,oc3,vs3,t3,e3,⟨u3,ft _ _ _ g3⟩,r3⟩
       ·exact⟨c',oc,vs,t,rfl,⟨_,by rw[zar (Ne.symm fc)];exact zaA⟩,hd,hv⟩
     ·refine(I.hok b u eb).stay (fun c v hc q=>k1 _ c v ?_ q) (fun c e=>by rw[out _ c (trk c _ e)];exact e) (fun c xs e=>by rw[out _ c (trk c _ e)];exact e) ft
      rcases hc with rfl|hc
      ·exact bP
      ·intro w;rw[w,hP]at hc;cases hc
end L2
namespace M
open L2 PySem PySem.Spec
open PyProof.Rows hiding St
open PySem.W (kla_fn kla_obj envX)
noncomputable def cxL (X:Cx)(A:Around)(N:List Str)(q:Str)(scope:Scope)(f:Addr)(cd:Value)(clos:List (Str×Addr))(s:Shared)(H:Hp):Cx:=
 {X with A:=A.deeper (envX q scope s.heap.objs.size f cd clos),N:=N,s₀:=s,H₀:=H,env:=envX q scope s.heap.objs.size f cd clos,outer:=X.stack,stack:=envX q scope s.heap.objs.size f cd clos::X.stack,ex:=[],fn:=fun _=>false,calm:=true,pn:=[],xe:=fun _ _=>False}
structure LamSc (scope:Scope) (params:Arguments) (x y:Str):Prop where
 co:scope.isCoroutine=false
 gen:scope.isGenerator=false
 noc:∀z∈scope.names,z.2≠ .cell
 lx:scope.names.lookup x=some .local
 ly:scope.names.lookup y=some .free
 ne:x≠y
 bind:∀(q:Str) (body:Expr) (clos:List (Str×Addr)) (pm cd ctv u:Value),bindArgs (kla_fn "<lambda>" q params body scope clos pm cd ctv) ⟨[u],[]⟩=pure [(x,u)]
theorem lam_call {X:Cx}{A:Around}{k j:Nat}{pins:List (Addr×Obj)}{σ:St}{H:Hp}{s:Shared}{params:Arguments}{body:Expr}{scope:Scope}{q x y:Str}{f:Addr}{v vc:V}{u:Value}{Q:VK}
  (I:Inv X pins σ H s) (b:BlkOk X scope) (S:LamSc scope params x y) (hA:A.frames=some X.stack) (hr:Room (k+1) A) (L:LamAt H f params body scope (clOf scope X.env) q)
  (hj:X.N[j]? =some y) (hv:σ[j]? =some (some vc)) (rv:RelV v u)
  (ht:∀cd,∃t,PE (cxL X A [x,y] q scope f cd (clOf scope X.env) s H) body t/\t [some v,some vc] H Q):
  codeAny (model X.prog X.w) A (.call (.ref f) ⟨[u],[]⟩) (CR CX0 X.stack X.prog X.w H s Q E0) s:=by
 obtain⟨fo,u1,c',oc,u2,vs,tt,pm,ctv,a1,rfl,a3,a4,a5⟩:=L.ex
 obtain⟨g1,_⟩:=I.hok f _ a1
 obtain⟨g2,_⟩:=I.hok c' _ a3
 have my:(y,NameKind.free)∈scope.names:=zcv S.ly
 have hkind:=b.free _ my rfl
 obtain⟨m,hn,hloc'⟩:=I.loc
 have hvis:Vis X.env.scope y:=by
  rcases hkind with z|z
  ·exact .inr (.inl z)
  ·exact .inr (.inr z)
 obtain⟨uc,ruc,lk⟩:=hloc' j y vc hj hv hvis
 obtain⟨cc,ec,hcell⟩:∃c,X.env.cells.lookup y=some c/\s.heap.IsCell c (some uc):=by
  rcases lk with⟨z,_⟩|⟨_,c,ec,hc⟩
  ·exfalso
   rcases hkind with w|w<;>simp only at w<;>rw[z]at w<;>cases w
  ·exact⟨c,ec,hc⟩
 have ecl:(clOf scope X.env).lookup y=some cc:=by
  obtain⟨c2,e2⟩:=Option.isSome_iff_exists.mp (zcM (env:=X.env) (cs:=[]) (.inl my))
  have:=zcF I b e2
  rw[ec]at this;cases this;exact e2
 refine W.kla_callFunE hr.depth g1 rfl S.co S.gen rfl ⟨c',oc,vs,tt,rfl,g2,a4,a5⟩ ?_
 rw[S.bind]
 refine wpAny_pure (wpAny_newFunctionEnv S.noc (fun z hz=>by
  have:z=(x,u):=by simpa using hz
  subst this;exact S.lx) (fun h1 hns hsb=>?_) b.kind)
 have hk:∀b o,s.heap.get? b=some o->h1.get? b=some o:=fun b o e=>hsb.extBut b o (Nat.ne_of_lt (Heap.lt_size e)) (Heap.get?_push_of_some _ e)
 refine⟨I.nolimit.keeps hk,?_⟩
 show codeAny _ _ (.expr body (envX q scope s.heap.objs.size f (.ref c') (clOf scope X.env))) _ _
 obtain⟨t,pt,hq⟩:=ht (.ref c')
 have ok:(cxL X A [x,y] q scope f (.ref c') (clOf scope X.env) s H).Ok:=
  {mod:=I.ok.mod,kind:=b.kind,glob:=rfl,blt:=rfl,above:=Nat.le_refl _,
   inj:=fun x y c h1 h2=>I.ok.inj x y c (zcF I b h1) (zcF I b h2),
   has:=fun z hz=>by
    have hz:scope.names.lookup z=some .cell\/scope.names.lookup z=some .free:=hz
    rcases hz with w|w
    ·exact absurd rfl (S.noc _ (zcv w))
    ·exact Option.isSome_iff_exists.mp (zcM (env:=X.env) (cs:=[]) (.inl (zcv w))),
   cab:=fun _ _ h=>Bool.noConfusion h,
   hd:=fun _=>(hr.deeper _).hd,frames:=Around.frames_deeper hA,stk:= .inr ⟨rfl,rfl⟩,
   exf:=fun b z=>absurd (show b∈([]:List Addr)from z) (by simp),bs:=I.bs,bsz:=Nat.le_trans I.ok.bsz I.sz,
   noex:=fun b _ _ z=>absurd (show b∈([]:List Addr)from z) (by simp),exfs:=fun b z=>absurd (show b∈([]:List Addr)from z) (by simp),funs:=I.stack,frf:=⟨I.stkFree,I.tab⟩}
 have J:Inv (cxL X A [x,y] q scope f (.ref c') (clOf scope X.env) s H) [] [some v,some vc] H {s with heap:=h1,toks:=s.toks+1}:=by
  refine⟨ok,rfl,I.bare,Un.kept hk,⟨_,hns,fun i z w h1 h2 h3=>?_⟩,fun z c e=>?_,I.hok.fresh (Nat.le_refl _),fun z c e=>I.freeC z c (zcF I b e),fun p hp=>absurd (show p∈([]:List (Addr×Obj))from hp) (by simp),I.hok.kept hk,rfl⟩
  ·match i,h1,h2 with
   |0,h1,h2=>
    cases(show some x=some z from h1)
    cases(show some (some v)=some (some w)from h2)
    refine⟨u,rv,.inl ⟨S.lx,?_⟩⟩
    show List.lookup x [(x,u)]=some u
    simp
   |1,h1,h2=>
    cases(show some y=some z from h1)
    cases(show some (some vc)=some (some w)from h2)
    exact⟨uc,ruc,.inr ⟨.inr S.ly,cc,ecl,hcell.keeps hk⟩⟩
   |n+2,h1,h2=>exact absurd (show(none:Option Str)=some z from h1) (by simp)
  ·obtain⟨w,hw⟩:=I.cell z c (zcF I b e)
   exact⟨w,hw.keeps hk⟩
 refine W.kla_codeExpr (wpAny_mono (pt [] _ _ H Q J hq) (fun r s' h=>?_) fun _ _ z=>z.elim)
 obtain⟨w,H',J',rw',q'⟩:=h
 exact⟨w,H',J'.os,J'.bare,J'.base,J'.hok,rw',q'⟩
end M
namespace HT
open PySem PySem.Spec PySem.W
open PyProof.Rows (IntsAre seqObj listItems_at listUpdate_at seqEpoch_at get?_update_seq size_push' arrOf failedOf general' keyKind' SortSt ksk_tree ksk_rest ksk_end ksk_tail ksk_fold ksk_snoc collect_list)
section
variable {prog:Program} {w:World} {A:Around} {E:Value->Shared->Prop} {s:Shared}
noncomputable abbrev ltK (kz:List Int):Nat->Nat->Bool:=ziw (kz.map fun n=>[n])
theorem zqs {a kS:Addr}{keys vs:List Value}{kz:List Int}{e e1:Nat}{P:PySem.Fin->Shared->Prop}(hA:s.heap.get? a=some (seqObj "list" #[] e1))(hK:s.heap.get? kS=some (seqObj "list" keys.toArray e))(hka:kS≠a)(hk:IntsAre keys kz)(hl:keys.length=vs.length)(h64:vs.length<64)
  (h:P (.done (.ret .none)) {s with heap:=(s.heap.update kS (Obj.mapSeq fun _=>(#[]:Array Value))).update a (Obj.mapSeq fun _=>(outA vs (ltK kz)).toArray)}):wpAny (model prog w) A (ksk_end a false vs.toArray e1 (.ref kS) keys.toArray) P E s:=by
 have o:=zlh (kz.map fun n=>[n])
 have s1:=Heap.SameBut.update s.heap kS (Obj.mapSeq fun _=>(#[]:Array Value))
 have na1:(s.heap.update kS (Obj.mapSeq fun _=>(#[]:Array Value))).get? a=some (seqObj "list" #[] e1):=(s1.2 a hka.symm).trans hA
 have hz:vs.toArray.size=vs.length:=List.size_toArray ..
 have fin:∀(st:SortSt),(arrOf st).map (·.2)=(outA vs (ltK kz)).toArray->failedOf st=none->wpAny (model prog w) A (ksk_tail a false e1 (.ref kS) st) P E s:=fun st e2 f=>by
  unfold ksk_tail
  try dsimp only
  refine wpAny_bind (listUpdate_at hK rfl ?_ (by rw[List.size_toArray,sizeLine_eq];lia) (Nat.zero_le _))
  refine wpAny_bind (wpAny_letGo ?_)
  refine wpAny_bind (seqEpoch_at na1 rfl ?_)
  simp only[Bool.false_eq_true,if_false]
  rw[e2,f]
  refine wpAny_bind (listUpdate_at na1 rfl ?_ (Nat.zero_le _) (by rw[List.size_toArray,zoG o,sizeLine_eq];lia))
  simp only[bne_self_eq_false,Bool.false_eq_true,if_false]
  exact wpAny_pure h
 unfold ksk_end
 try dsimp only
 simp only[Bool.false_eq_true,if_false]
 by_cases h2:vs.length<2
 ·simp only[if_pos (show vs.toArray.size<2 by rw[hz];exact h2)]
  refine wpAny_bind (wpAny_pure ?_)
  rw[StateT.run_pure]
  refine wpAny_bind (wpAny_pure (fin _ ?_ rfl))
  unfold outA M.srt
  rw[if_pos h2,zla]
  show((keys.toArray.zip vs.toArray).map (·.2))=_
  apply Array.toList_inj.mp
  simp[List.map_snd_zip,hl]
 ·simp only[if_neg (show ¬vs.toArray.size<2 by rw[hz];exact h2)]
  obtain⟨κ,a1,a2⟩:=zk3 (prog:=prog) (w:=w) (A:=A) (s:=s) hk (by lia)
  refine wpAny_bind (a1 _ _ (wpAny_bind (wpAny_mono (kat_run (Q:=fun st s'=>s'=s/\(arrOf st).map (·.2)=(outA vs (ltK kz)).toArray/\failedOf st=none) (G:=fun p s'=>s'=s/\p=M.kRun (ltK kz) (kas_sort vs.length)) hl (by lia) h64 (fun p st s' b1 b2 b3 b4=>⟨b4.1,?_,b3⟩) (M.zq5 (n:=vs.length) (lt:=ltK kz) (fun i j C h1 h3 h=>a2 i j C (by lia) (by lia) h) (M.znu o (by lia)) ⟨rfl,rfl⟩)) (fun r s' ⟨c1,c2,c3⟩=>?_) fun _ _ x=>x)))
  ·rw[kat_snds hl b2,b4.2]
   unfold outA M.srt
   rw[if_neg h2]
  ·subst c1
   exact fin r.2 c2 c3
end
end HT
namespace M
open L2 PySem PySem.Spec
open PyProof.Rows hiding St
section
variable {X:Cx} {pins:List (Addr×Obj)} {σ:St} {H:Hp} {s:Shared}
theorem track {h':Heap}{t':Nat}{a:Addr}{ys:List V}{its:List Value}{n:Nat}(I:Inv X pins σ H s)(hf:FpOk X pins H a)(hs:Heap.SameBut a s.heap h')(e:h'.get? a=some (seqObj "list" its.toArray n))(hv:Vals ys its)(hz:ys.length<=sizeLine):Inv X pins σ (upd H a (.lst ys)) {s with heap:=h',toks:=t'}:=by
 obtain⟨f0,f1,f2,f3,f4,f5⟩:=hf
 have k:∀b o,b≠a->s.heap.get? b=some o->h'.get? b=some o:=fun b o nb e=>hs.extBut b o nb e
 have nt:∀b u,H b=some u->b≠a:=fun b u e z=>by rw[z,f0]at e;cases e
 refine I.step (g':=s.gens) (d':=s.drawn) (ch:=[a]) (fun b hb=>?_) (fun b o _ _ hc e _=>k b o (fun z=>hc (by simp[z])) e) (fun b o _ _ hc e _=>⟨o.slots,k b o (fun z=>hc (by simp[z])) e⟩) (fun b o hc e n=>by rw[zar (fun z=>hc (by simp[z]))];exact n)
  (fun b o hc e=>⟨o,k b o (fun z=>hc (by simp[z])) e⟩) (fun b xs e=>by rw[zar (nt b _ e)];exact e) (fun b o u e=>by rw[zar (nt b _ e)];exact e) (fun b ps e=>by rw[zar (nt b _ e)];exact e) (fun m hm=>?_) (fun b u e2=>?_) I.bare
 ·have z:b=a:=by simpa using hb
  subst z
  exact⟨f3,f1,f4,f5⟩
 ·obtain⟨o,es,ep,ho,r⟩:=hm
  exact⟨o,es,ep,k _ o (Ne.symm f1) ho,r⟩
 ·by_cases z:b=a
  ·subst z
   rw[zaA]at e2;cases e2
   exact⟨hz,its,n,hv,e⟩
  ·rw[zar z]at e2
   refine(I.hok b u e2).stay (fun c v hc q=>k c v ?_ q) (fun c q=>by rw[zar (nt c _ q)];exact q) (fun c xs q=>by rw[zar (nt c _ q)];exact q) fun c o u q=>by rw[zar (nt c _ q)];exact q
   rcases hc with rfl|hc
   ·exact z
   ·exact nt _ _ hc
noncomputable def Turns (X:Cx)(σ:St)(H:Hp)(f:Addr)(ys:List V)(kz:List Int):Prop:=∀(i:Nat) (v:V) (k:Int),ys[i]? =some v->kz[i]? =some k->∀(H':Hp) (pins':List (Addr×Obj)) (s':Shared) (u:Value),Grows H H'->Inv X pins' σ H' s'->RelV v u->
 codeAny (model X.prog X.w) X.A.in1.in1 (.call (.ref f) ⟨[u],[]⟩) (CR CX0 X.stack X.prog X.w H' s' (fun r H''=>r= .int k/\H''=H') E0) s'
theorem zqM {xs:List V}{us:List Value}{v:V}{u:Value}(h:Vals xs us)(r:RelV v u):Vals (xs++[v]) (us++[u]):=h.append (.cons r .nil)
theorem sortK {f l:Addr}{ys:List V}{its:List Value}{kz:List Int}{Q:Value->Shared->Prop}{E:Value->Shared->Prop}(I:Inv X pins σ H s)(hl:s.heap.IsList l its.toArray)(rv:Vals ys its)(hlen:kz.length=ys.length)(h64:ys.length<64)(T:Turns X σ H f ys kz)
    (h:∀a kS s',H kS=none->(upd H kS (.lst [])) a=none->Inv X pins σ (upd (upd H kS (.lst [])) a (.lst ((srt ys.length (HT.ltK kz)).map fun i=>ys.getD i .non))) s'->Q (.ref a) s'):
    wpAny (model X.prog X.w) X.A (call (.builtin "sorted") [.ref l] [(Str.ofString "key",.ref f)]) Q E s:=by
  have hvl:=rv.length
  have hsl:its.length<=sizeLine:=by rw[sizeLine_eq];lia
  have o:=HT.zlh (kz.map fun n=>[n])
  refine call_function_entry_kw kind_sorted plain_sorted entry_sorted (ksk_s1 _ _) ?_
  unfold Builtin.«sorted»
  refine wpAny_bind (m:=checkCount "sorted" 1 1 _) (wpAny_pure ?_)
  refine wpAny_bind (collect_list hl ?_ hsl)
  refine wpAny_bind (wpAny_newList ?_ hsl)
  generalize hH1:(s.heap.push (seqObj "list" #[] 0)).update s.heap.objs.size (Obj.mapSeq (· ++its.toArray))=h1
  have sz1:h1.objs.size=s.heap.objs.size+1:=by rw[<-hH1,Heap.size_update,size_push']
  have k1:∀b o,s.heap.get? b=some o->h1.get? b=some o:=fun b o q=>by
    have hlt:b<s.heap.objs.size:=Heap.lt_size q
    rw[<-hH1,Heap.get?_update_ne _ _ _ _ (Nat.ne_of_lt hlt),Heap.get?_push_ne _ _ _ (Nat.ne_of_lt hlt)]
    exact q
  show wpAny _ _ _ _ _ {s with heap:=h1.push (seqObj "list" its.toArray 0)}
  have hoL:(h1.push (seqObj "list" its.toArray 0)).get? h1.objs.size=some (seqObj "list" its.toArray 0):=Heap.get?_push_size _ rfl
  generalize ha:h1.objs.size=a at hoL
  have as:s.heap.objs.size<=a:=by lia
  refine wpAny_bind (wpAny_holding (wpAny_call_entry_kw slot_list_sort ⟨_,hoL,rfl⟩ entry_list_sort ?_ (ksk_l1 _ _)))
  show wpAny (model X.prog X.w) X.A.in1.in1 (Builtin.«list.sort» ⟨[.ref a],[(Str.ofString "key",.ref f)]⟩) _ _ _
  rw[ksk_t1]
  unfold ksk_tree
  refine wpAny_bind (listItems_at hoL rfl ?_)
  refine wpAny_bind (listUpdate_at hoL rfl ?_ (by rw[List.size_toArray];exact hsl) (Nat.zero_le _))
  obtain⟨e1,g1⟩:∃c,((h1.push (seqObj "list" its.toArray 0)).update a (Obj.mapSeq fun _=>(#[]:Array Value))).get? a=some (seqObj "list" #[] c):=⟨_,get?_update_seq hoL fun _=> #[]⟩
  refine wpAny_bind (seqEpoch_at g1 rfl ?_)
  refine wpAny_bind (wpAny_newTuple ?_ hsl)
  refine wpAny_bind (wpAny_newList ?_ (Nat.zero_le _))
  refine wpAny_holding ?_
  generalize hH2:((h1.push (seqObj "list" its.toArray 0)).update a (Obj.mapSeq fun _=>(#[]:Array Value))).push (seqObj "tuple" its.toArray 0)=h2
  have k2:∀b o,s.heap.get? b=some o->h2.get? b=some o:=fun b o q=>by
    rw[<-hH2]
    exact Heap.get?_push_of_some _ ((Heap.get?_update_other _ _ (Nat.ne_of_gt (Nat.lt_of_lt_of_le (Heap.lt_size q) as))).trans (Heap.get?_push_of_some _ (k1 b o q)))
  have g2:h2.get? a=some (seqObj "list" #[] e1):=by rw[<-hH2];exact Heap.get?_push_of_some _ g1
  have al:a<h2.objs.size:=Heap.lt_size g2
  show wpAny _ _ (ksk_rest a (.ref f) false its.toArray e1 (.ref h2.objs.size)) _ _ {s with heap:=h2.push (seqObj "list" #[] 0)}
  have hka:h2.objs.size≠a:=Nat.ne_of_gt al
  have nK:H h2.objs.size=none:=I.hok.fresh (by lia)
  have nA:H a=none:=I.hok.fresh as
  have I1:Inv X pins σ (upd H h2.objs.size (.lst [])) {s with heap:=h2.push (seqObj "list" #[] 0),toks:=s.toks}:=
    I.laid (fun b u q=>Heap.get?_push_of_some _ (k2 b u q)) (by lia) ⟨Nat.zero_le _,[],0,.nil,Heap.get?_push_size _ rfl⟩
  generalize hkS:h2.objs.size=kS at*
  have fpA:∀ks:List V,FpOk X pins (upd H kS (.lst ks)) a:=fun ks=>I.fpOk as (by rw[zar (Ne.symm hka)];exact nA)
  have pinA:∀{ks:List V} {s':Shared},Inv X pins σ (upd H kS (.lst ks)) s'->s'.heap.get? a=some (seqObj "list" #[] e1)->Inv X (pins++[(a,seqObj "list" #[] e1)]) σ (upd H kS (.lst ks)) s':=fun{ks s'} J g=>J.pins_of fun p hp=>by
    rcases List.mem_append.mp hp with hp|hp
    . exact J.pin p (List.mem_append_right _ hp)
    . have z:p=(a,seqObj "list" #[] e1):=by simpa using hp
      subst z
      obtain⟨f0,f1,f2,_⟩:=fpA ks
      exact⟨g,f0,f1,f2,fun v z=>by cases z⟩
  unfold ksk_rest
  refine wpAny_bind (wpAny_rule ?_)
  first
    |rw[List.forIn_toArray]
    |(rw[<-Array.forIn_toList];simp only[List.toList_toArray])
    |rw[<-Array.forIn_toList]
  refine wpAny_bind (ksk_fold (fun i s'=>Inv X (pins++[(a,seqObj "list" #[] e1)]) σ (upd H kS (.lst ((kz.take i).map V.int))) s') its 0 _ (by
    refine pinA (ks:=[]) I1 ?_
    exact Heap.get?_push_of_some _ g2) ?step ?done)
  case step=>
    rintro j x s' hx J
    simp only[Nat.zero_add]at J ⊢
    have hj:j<its.length:=(List.getElem?_eq_some_iff.mp hx).1
    obtain⟨k,hkj⟩:∃k,kz[j]? =some k:=⟨_,List.getElem?_eq_getElem (by lia)⟩
    obtain⟨v,hvj,rvx⟩:∃v,ys[j]? =some v/\RelV v x:=by
      have hy:j<ys.length:=by lia
      obtain⟨u,e2,r2⟩:=rv.get (List.getElem?_eq_getElem hy)
      rw[hx]at e2;cases e2
      exact⟨_,List.getElem?_eq_getElem hy,r2⟩
    refine wpAny_bind (wpAny_attempt (wpAny_call (codeAny_mono (T j v k hvj hkj _ _ s' x (.step .refl nK) J rvx) fun r s'' hr=>?_)))
    cases r with
    |error e=>exact hr.elim
    |ok fl=>
      cases fl with
      |next=>exact hr.elim
      |brk=>exact hr.elim
      |cont=>exact hr.elim
      |ret u=>
        obtain⟨w,H'',J2,rw2,rfl,rfl⟩:=J.after hr
        obtain⟨t2,rfl⟩:∃t,u=Value.int k t:=rw2
        obtain⟨hz2,ks,n,vk,lk,gk⟩:=J2.lstM zaA
        dsimp only
        have ek:kz.take (j+1)=kz.take j++[k]:=by rw[List.take_add_one,hkj];rfl
        have lz:ks.length<=64:=by
          rw[<-lk,List.length_map,List.length_take];lia
        refine wpAny_bind (listUpdate_at gk rfl ?_ (by rw[List.size_toArray,sizeLine_eq];lia) (by rw[Array.size_push,List.size_toArray,sizeLine_eq];lia))
        refine wpAny_pure ⟨rfl,?_⟩
        have J3:=J2.lset (t':=s''.toks) (ys:=(kz.take (j+1)).map V.int) (its':=ks++[Value.int k t2]) (f:=(·.push (Value.int k t2))) zaA gk (by simp) (by rw[ek,List.map_append];exact zqM vk ⟨t2,rfl⟩) (by rw[List.length_map,List.length_take,sizeLine_eq];lia)
        rw[zqH]at J3
        exact J3
  case done=>
    intro s' J
    have e3:kz.take (0+its.length)=kz:=List.take_of_length_le (by lia)
    rw[e3]at J
    obtain⟨hz2,ks,n,vk,lk,gk⟩:=J.lstM zaA
    have gA:s'.heap.get? a=some (seqObj "list" #[] e1):=(J.pin (a,seqObj "list" #[] e1) (List.mem_append_right _ (List.mem_append_right _ (by simp)))).1
    refine wpAny_bind (listItems_at gk rfl ?_)
    refine HT.zqs gA gk hka (zeA vk) (by rw[<-lk,List.length_map];lia) (by lia) ⟨_,rfl,wpAny_pure ⟨_,rfl,?_⟩⟩
    have J1:=J.unpinned
    have J2:=J1.lset (t':=s'.toks) (ys:=[]) (its':=[]) (f:=fun _=> #[]) zaA gk rfl .nil (Nat.zero_le _)
    rw[zqH]at J2
    have gA2:(s'.heap.update kS (Obj.mapSeq fun _=>(#[]:Array Value))).get? a=some (seqObj "list" #[] e1):=((Heap.SameBut.update s'.heap kS (Obj.mapSeq fun _=>(#[]:Array Value))).2 a (Ne.symm hka)).trans gA
    obtain⟨c2,hc2⟩:∃c,((s'.heap.update kS (Obj.mapSeq fun _=>(#[]:Array Value))).update a (Obj.mapSeq fun _=>(HT.outA its (HT.ltK kz)).toArray)).get? a=some (seqObj "list" (HT.outA its (HT.ltK kz)).toArray c):=⟨_,get?_update_seq gA2 fun _=>(HT.outA its (HT.ltK kz)).toArray⟩
    refine h a kS _ nK (by rw[zar (Ne.symm hka)];exact nA) (track (s:={s' with heap:=s'.heap.update kS (Obj.mapSeq fun _=>(#[]:Array Value))}) (t':=s'.toks) J2 (fpA []) (Heap.SameBut.update _ a _) hc2 ?_ ?_)
    . unfold HT.outA
      rw[<-hvl];exact zjR rv _
    . rw[List.length_map,(zhT o).length_eq,List.length_range,sizeLine_eq];lia
end
end M
namespace L2
open PyProof.Rows PySem PySem.Spec
open PySem.W (tabObj CodeHd codeHdIn)
theorem lawL {P:Program}{w:World}{K:W.Frag}{mg mb:Str->Option Value}{CX:CXT}{k:Nat}{fa a P0:Addr}{q0:Str}{fd:FuncData}{x:Str}{sp:Sp}{s1:Shared}{vs:List Value}{ns:List Int}
    (KX:K.In s1.heap) (hns:s1.heap.Ns mainGlobals mg) (hb:s1.heap.Ns builtinsNs mb) (hbb:∀x:Str,x≠"__name__"->mb x=bootBuiltins x) (hlim:s1.heap.NoLimit) (hg:s1.gens= #[])
    (hbm:∃bm ob,mg "__builtins__"=some (.ref bm)/\bm≠builtinsNs/\s1.heap.get? bm=some ob/\ob.cls= .type "module"/\ob.dict=some builtinsNs/\ob.data= .plain)
    (hT:tabP K mg P0 q0) (hP:s1.heap.get? P0=some (tabObj #[])) (hPc:isCodeTable s1.heap P0)
    (ha:s1.heap.get? a=some {cls:= .type "list",data:= .seq vs.toArray}) (hi:IntsAre vs ns) (hl:ns.length<=sizeLine) (hr:Room k callerA)
    (F:∀base:Heap,K.In base->base.Ns mainGlobals mg->FnOk P w K mg base CX k fa fd [x] sp) (hbind:∀(s:Shared) (u:Value),BindsTo s fd ⟨[u],[]⟩ [(x,u)])
    (hsp:∀H:Hp,SqL K H a (ns.map V.int)->sp [.ref a] H (fun v _=>v= .bl true) fun _ _ _=>False)
    (hCX:∀H e s',CX [] H s1 (fun _ _ _=>False) e s'->False):
    codeAny (model P w) callerA (.call (.ref fa) ⟨[.ref a],[]⟩) (fun r s'=>r= .ok (.ret (.bool true))/\OldK s1.heap s'.heap/\s'.os=s1.os/\AllBare s'.gens) s1:=by
  have rv:=zhJ hi
  have lenV:=hi.length
  have nPa:P0≠a:=fun z=>by rw[z,ha]at hP;cases hP
  have kP:K.lookup P0=none:=by obtain⟨_,_,_,_,_,_,_,_,_,_,_,_,_,h,_⟩:=hT;exact h
  have core:∀H:Hp,SqL K H a (ns.map V.int)->HOk P w H s1.heap->(∀b,H b≠none->b=a\/b=P0)->(H a≠none->K.lookup a=none)->(H a=none\/∃o xs,H a=some (.frz o (.lst xs)))->H P0=some (.tbl #[.str q0 0])->
      codeAny (model P w) callerA (.call (.ref fa) ⟨[.ref a],[]⟩) (fun r s'=>r= .ok (.ret (.bool true))/\OldK s1.heap s'.heap/\s'.os=s1.os/\AllBare s'.gens) s1:=by
    intro H hS hok hA hK hfr hPt
    have noA:∀{b:Addr} {o:Obj},s1.heap.get? b=some o->(∀its,o.data≠ .seq its 0)->(∀qs,o.data≠ .fields qs)->H b=none:=fun{b o} e d1 d2=>by
      cases q:H b with
      |none=>rfl
      |some u=>
        rcases hA b (by rw[q];simp)with z|z
        . subst z;rw[ha]at e;cases e;exact absurd rfl (d1 _)
        . subst z;rw[hP]at e;cases e;exact absurd rfl (d2 _)
    have nsK:∀{b:Addr} {m:Str->Option Value},s1.heap.Ns b m->(hidT s1.heap H).Ns b m:=fun{b m} ⟨o,es,ep,e,d,r⟩=>⟨o,es,ep,zlq e (noA e (fun its z=>by rw[d]at z;cases z) fun qs z=>by rw[d]at z;cases z),d,r⟩
    have hKb:K.In (hidT s1.heap H):=fun b o e=>zlq (KX b o e) (by
      cases q:H b with
      |none=>rfl
      |some u=>
        rcases hA b (by rw[q];simp)with z|z
        . subst z;rw[hK (by rw[q];simp)]at e;cases e
        . subst z;rw[kP]at e;cases e)
    have hM:Mod K mg (hidT s1.heap H):=⟨hKb,nsK hns,⟨mb,nsK hb,hbb⟩,let⟨mc,h1,h2⟩:=hlim;⟨mc,nsK h1,h2⟩,by
      obtain⟨bm,ob,b1,b2,b3,b4,b5,b6⟩:=hbm
      exact⟨bm,ob,b1,b2,zlq b3 (noA b3 (fun its z=>by rw[b6]at z;cases z) fun qs z=>by rw[b6]at z;cases z),b4,b5,b6⟩⟩
    have e0:Env0 P w K mg (hidT s1.heap H) callerA [] s1 H:=⟨rfl,hM,fun b o e=>of_hidT e,Nat.le_of_eq (zp0 _ _),trivial,⟨fun b hb=>absurd (show b∈([]:List Addr)from hb) (by simp),fun P q h=>by
      obtain⟨rfl,rfl⟩:=hT.det h
      exact⟨0,hPt⟩⟩,hok,.of_eq hg⟩
    refine codeAny_mono ((F _ hKb (nsK hns)).run callerA [] s1 H ⟨[.ref a],[]⟩ [.ref a] [.ref a] _ _ hr e0 (hbind s1 (.ref a)) (.cons rfl .nil) (hsp H hS)) fun r s' h=>?_
    cases r with
    |error e=>exact(hCX H e s' h).elim
    |ok fl=>
      cases fl with
      |next=>exact False.elim h
      |brk=>exact False.elim h
      |cont=>exact False.elim h
      |ret u=>
        obtain⟨v,H',os,bare,un,hok',r',q⟩:=h
        have q':v= .bl true:=q
        subst q'
        obtain rfl:u=Value.bool true:=r'
        obtain⟨q1,tk1,qs,z1,eP,_,_⟩:=hok' P0 _ (un.tbls P0 _ hPt)
        have keep:∀b o,b≠P0->s1.heap.get? b=some o->s'.heap.get? b=some o:=fun b o nb e=>by
          cases q:H b with
          |none=>exact un.keep b o e q (by intro z;exact absurd (show b∈([]:List Addr)from z) (by simp)) (by simp)
          |some u=>
            rcases hA b (by rw[q];simp)with z|z
            . subst z
              rcases hfr with w|⟨ob,xs,w⟩
              . rw[q]at w;cases w
              . have z2:=un.frzs b ob _ w
                obtain⟨e1,_⟩:=hok b _ w
                obtain⟨e2,_⟩:=hok' b _ z2
                rw[e]at e1;cases e1
                exact e2
            . exact absurd z nb
        refine⟨rfl,⟨fun b o e=>?_,fun b o e=>?_⟩,os,bare⟩
        . by_cases nb:b=P0
          . subst nb
            rw[hP]at e;cases e
            exact .inr (.inl ⟨hPc,rfl,#[],qs,rfl,by rw[eP];simp⟩)
          . exact .inl (keep b o nb e)
        . by_cases nb:b=P0
          . subst nb;exact⟨_,eP⟩
          . exact⟨o,keep b o nb e⟩
  have tblOk:∀H:Hp,ObjOk P w H s1.heap P0 (.tbl #[.str q0 0]):=fun H=>⟨q0,0,#[],rfl,hP,trivial,fun pos cv h=>by cases h⟩
  cases hk:K.lookup a with
  |some o=>
    have e:=KX a o hk
    rw[ha]at e
    cases e
    refine core (fun b=>if b=P0 then some (.tbl #[.str q0 0])else none) (.inr ⟨_,vs.toArray,_,hk,rfl,rfl,rfl,by rw[List.size_toArray,lenV];exact hl,by simpa using rv⟩) (fun b u z=>?_) (fun b z=>?_) (fun z=>absurd (if_neg (Ne.symm nPa)) z) (.inl (if_neg (Ne.symm nPa))) (if_pos rfl)
    . by_cases hb:b=P0
      . have z':=(if_pos hb).symm.trans z
        cases z';subst hb;exact tblOk _
      . have z':=(if_neg hb).symm.trans z
        cases z'
    . by_cases hb:b=P0
      . exact .inr hb
      . exact absurd (if_neg hb) z
  |none=>
    refine core (fun b=>if b=P0 then some (.tbl #[.str q0 0])else if b=a then some (.frz {cls:= .type "list",data:= .seq vs.toArray} (.lst (ns.map V.int)))else none) (.inl (.inr ⟨{cls:= .type "list",data:= .seq vs.toArray},(if_neg (Ne.symm nPa)).trans (if_pos rfl)⟩)) (fun b u z=>?_) (fun b z=>?_) (fun _=>hk) (.inr ⟨_,_,(if_neg (Ne.symm nPa)).trans (if_pos rfl)⟩) (if_pos rfl)
    . by_cases hb:b=P0
      . have z':=(if_pos hb).symm.trans z
        cases z';subst hb;exact tblOk _
      . have z':=(if_neg hb).symm.trans z
        by_cases hb2:b=a
        . have z2:=(if_pos hb2).symm.trans z'
          cases z2
          subst hb2
          exact⟨ha,by rw[List.length_map];exact hl,vs,_,rv,ha⟩
        . have z2:=(if_neg hb2).symm.trans z'
          cases z2
    . by_cases hb:b=P0
      . exact .inr hb
      . by_cases hb2:b=a
        . exact .inl hb2
        . exact absurd ((if_neg hb).trans (if_neg hb2)) z
theorem walkL {l:W.OpenLaw}{n k:Nat}{q:Program}{loose:List Str}{XP:(Str->Option Value)->Heap->Prop}{YP:World->Heap->Prop}{d:DefRec}{K:Params->W.Frag}{CX:World->CXT}{sp:World->Sp}{x:Str}{P0:Addr}
  (hn:l.most=some n) (hn2:n<=sizeLine) (hdf:d.params.defaults=[]) (hr:Room k callerA)
  (hY:∀(w:World) (h:Heap),YP w h->(K w.params).In h) (hZ:∀(w:World) (h:Heap),YP w h->h.get? P0=some (tabObj #[]))
  (hT:∀(w:World) (mg:Str->Option Value) (h:Heap),(K w.params).In h->h.Ns mainGlobals mg->∃q0 c,tabP (K w.params) mg P0 q0/\codeHdIn (K w.params) c P0=true)
  (F : ∀ (w : World) (mg : Str -> Option Value) (fa : Addr) (h : Heap), (K w.params).In h -> h.Ns mainGlobals mg -> mg d.name = some (.ref fa) ->
   ∃fd:FuncData,(∀(s:Shared) (u:Value),BindsTo s fd ⟨[u],[]⟩ [(x,u)])/\
    ∀base:Heap,(K w.params).In base->base.Ns mainGlobals mg->FnOk l.prog w (K w.params) mg base (CX w) k fa fd [x] (sp w))
  (hsp:∀(w:World) (H:Hp) (a:Addr) (ns:List Int),ns.length<=n->SqL (K w.params) H a (ns.map V.int)->sp w [.ref a] H (fun v _=>v= .bl true) fun _ _ _=>False)
  (hCX:∀(w:World) (H:Hp) (s:Shared) (e:Value) (s':Shared),CX w [] H s (fun _ _ _=>False) e s'->False):
  W.WalkO q loose XP YP l.row.toRowW d [] (fun f vs=>PySem.call f vs):=by
 refine Att.attach_call hn hdf fun w s0 s1 mg mb fa o pm cd doc a vs ns G Y ho hd hcd hmg hobj hints hlen hg=>?_
 have KX:=hY w _ Y
 obtain⟨fd,hb,hF⟩:=F w mg fa _ KX G.T.g hmg
 obtain⟨q0,c,t1,t2⟩:=hT w mg _ KX G.T.g
 obtain⟨oc,vs',_,_,_,_,_,_,_,e1,e2,e3,e4,_⟩:=W.codeHd_of_K KX t2
 exact lawL KX G.T.g G.T.b G.T.builtins G.T.nolimit hg G.T.bmain t1 (hZ w _ Y) ⟨c,oc,vs',e1,e2,e3,e4⟩ hobj hints (Nat.le_trans hlen hn2) hr hF hb (fun H hS=>hsp w H a ns hlen hS) fun H e s'=>hCX w H s1 e s'
end L2
namespace L2
open PySem
theorem Grows.trans {H H1 H2:Hp}(a:Grows H H1)(b:Grows H1 H2):Grows H H2:=by
 induction b with
 |refl=>exact a
 |step _ n ih=>exact .step ih n
theorem Grows.sql {K:W.Frag}{H H1:Hp}(g:Grows H H1){a:PySem.Addr}{xs:List V}(h:SqL K H a xs):SqL K H1 a xs:=by
 rcases h with(h|⟨o,h⟩)|h
 ·exact .inl (.inl (g.old h))
 ·exact .inl (.inr ⟨o,g.old h⟩)
 ·exact .inr h
end L2
namespace M
open L2 PySem PySem.Spec
open PyProof.Rows hiding St
open PySem.W (codeHdIn)
noncomputable def zi9 (c:D):List D->Option (List Int)
 |[]=>some []
 |d::ds=>match dIx c d with
  |some (.int k)=>(zi9 c ds).map (k:: ·)
  |_=>none
noncomputable def zqi (kz:List Int)(ds:List D):List D:=(srt ds.length (HT.ltK kz)).map fun i=>ds.getD i .non
noncomputable def oSrtK (j:Nat)(me:ME):MO:=fun ρ=>(me ρ).bind fun p=>match p.1,p.2[j]? with
 | .lst ds,some (.val c)=>if ds.length<64 then(zi9 c ds).map fun kz=>(zqi kz ds,p.2)else none
 |_,_=>none
theorem zn3 {c:D}:∀{ds:List D} {kz:List Int},zi9 c ds=some kz->kz.length=ds.length/\∀(i:Nat) d k,ds[i]? =some d->kz[i]? =some k->dIx c d=some (.int k)
 |[],kz,h=>by cases h;exact⟨rfl,fun i d k e=>by simp at e⟩
 |d::ds,kz,h=>by
  unfold zi9 at h
  split at h
  ·rename_i k e
   obtain⟨ks,e1,rfl⟩:=zau h
   obtain⟨h1,h2⟩:=zn3 e1
   refine⟨by simp[h1],fun i d' k' e2 e3=>?_⟩
   cases i with
   |zero=>simp at e2 e3;subst e2 e3;exact e
   |succ i=>exact h2 i d' k' (by simpa using e2) (by simpa using e3)
  ·cases h
theorem SI.grows {K:W.Frag}{B:Bs}{G H H':Hp}{σ:St}{ρ:R}(I:SI K B G H σ ρ)(g:Grows H H'):SI K B G H' σ ρ:=by
 induction g with
 |refl=>exact I
 |step _ n ih=>exact ih.allocO n _
noncomputable def tSrtK (X:Cx)(j:Nat)(ta:TA):TE:=fun σ H Q=>ta σ H fun vs H1=>∃l ys kz vc,vs=[.ref l]/\SqL X.K H1 l ys/\ys.length<64/\kz.length=ys.length/\σ[j]? =some (some vc)/\
 (∀(i:Nat) v k,ys[i]? =some v->kz[i]? =some k->∀H',Grows H1 H'->rIx X.K vc v H' fun r H''=>r= .int k/\H''=H')/\∀H2 a,Grows H1 H2->H2 a=none->Q (.ref a) (upd H2 a (.lst ((srt ys.length (HT.ltK kz)).map fun i=>ys.getD i .non)))
section
variable {X:Cx} {e:Expr} {params:Arguments} {scope:Scope} {x y:Str} {j k:Nat} {P c:Addr} {q:Str} {p p1 p2 sp lp kp pos:Pos}
theorem pe_srtK {ta:TA}(ml:X.mg "sorted"=none)(ha:PA X [e] ta)(b:BlkOk X scope)(S:LamSc scope params x y)(hr:Room (k+3) X.A)(hT:tabP X.K X.mg P q)(hc:X.env.code= .ref c)(hC:codeHdIn X.K c P=true)(hq:X.env.qual++"<lambda>"=q)(hdef:defaultsOf params X.env=([],[]))(hj:X.N[j]? =some y)
  (dx:(x==("__debug__":Str))=false) (cx:(x==("__classdict__":Str))=false) (dy:(y==("__debug__":Str))=false) (cy:(y==("__classdict__":Str))=false) (hg:Gl X "sorted") (h1:backTo pos (starEach [e] X.env)=(false,eval e X.env)::backTo pos (starEach [] X.env)) (h2:((backTo pos (starEach [e] X.env)).any fun x=>x.1)=false):
  PE X (.Call (.Name "sorted" p) [e] [⟨some "key",.Lambda params (.Subscript (.Name y p1) (.Name x p2) sp) scope lp,kp⟩] pos) (tSrtK X j ta):=by
 intro pins s σ H Q I h
 refine wpAny_Call_Name_kw (zhI I hg ml (show bootBuiltins "sorted"=some (.builtin "sorted") by decide+kernel) ?_)
 refine callWith_kw (thn (ha pos pins s σ H _ I h) fun us s1 ⟨vs,H1,I1,r,l,ys,kz,vc,ev,hq1,h64,hlen,hv,tn,fin⟩=>?_) h1 h2
 subst ev
 obtain⟨u,rfl,ru⟩:=zkI r
 cases ru
 refine kws_cons (lam_make I1 hT hc hC hq (zlc (zh2 I1 b)) hdef fun f H' s2 gr I2 L=>kws_nil ?_)
 obtain⟨its,rv,pl,hz⟩:=I2.list (gr.sql hq1)
 refine sortK (f:=f) I2 pl.isList rv hlen h64 (fun i v kk e1 e2 H3 pins' s3 u g3 I3 ru=>?_) fun a kS s' n1 n2 J=>⟨.ref a,_,J,rfl,fin _ a (gr.trans (.step .refl n1)) n2⟩
 refine lam_call (k:=k) (x:=x) (y:=y) I3 b S I3.ok.frames hr.in1.in1 (L.old fun b o u e=>g3.old e) hj hv ru fun cd=>⟨_,pe_ix zrn (zfw (i:=1) rfl (.inr (.inr S.ly)) dy cy) (zfw (i:=0) rfl (.inl S.lx) dx cx) (fun _ _=>rfl),vc,rfl,v,rfl,tn i v kk e1 e2 H3 (gr.trans g3)⟩
theorem so_srtK (j:Nat){me:ME}(ml:X.mg "sorted"=none)(he:SE X e me)(hr:Room (k+3) X.A)(hT:tabP X.K X.mg P q)(hc:X.env.code= .ref c)(hC:codeHdIn X.K c P=true)(b:BlkOk X scope)(S:LamSc scope params x y)(hq:X.env.qual++"<lambda>"=q)(hdef:autoParam (defaultsOf params X.env=([],[])) zu2._auto_1)(hj:autoParam (X.N[j]? =some y) zu2._auto_1)
  (dx:autoParam ((x==("__debug__":Str))=false) zu1._auto_1) (cx:autoParam ((x==("__classdict__":Str))=false) zu1._auto_1) (dy:autoParam ((y==("__debug__":Str))=false) zu1._auto_1) (cy:autoParam ((y==("__classdict__":Str))=false) zu1._auto_1) (hg:autoParam (Gl X "sorted") zu2._auto_1) (hst:autoParam (starEach [e] X.env=(false,eval e X.env)::starEach [] X.env) zu2._auto_1) (h1:autoParam (backTo pos (starEach [e] X.env)=(false,eval e X.env)::backTo pos (starEach [] X.env)) zu2._auto_1) (h2:autoParam (((backTo pos (starEach [e] X.env)).any fun x=>x.1)=false) zu2._auto_1):
  SO X (.Call (.Name "sorted" p) [e] [⟨some "key",.Lambda params (.Subscript (.Name y p1) (.Name x p2) sp) scope lp,kp⟩] pos) (oSrtK j me):=by
 obtain⟨te,pe,se⟩:=he
 refine⟨_,pe_srtK ml (zbY pe zfj hst) b S hr hT hc hC hq hdef hj dx cx dy cy hg h1 h2,fun B G H σ ρ ds ρ' Q I hm kk=>?_⟩
 obtain⟨⟨d,ρ1⟩,e1,hm⟩:=zah hm
 dsimp only at hm
 split at hm
 ·rename_i es c' ec
  split at hm
  ·rename_i h64
   obtain⟨kz,e2,hm⟩:=zau hm
   cases hm
   obtain⟨kl,kg⟩:=zn3 e2
   show te σ H _
   refine se B G H σ ρ _ _ _ I e1 fun G1 H1 v I1 f1 r1=>?_
   obtain⟨l,ys,rfl,hp,ry⟩:=I1.lst r1
   obtain⟨vc,hvc,rc⟩:=I1.slot j _ ec
   have hl:=ry.length
   refine⟨l,ys,kz,vc,rfl,SqL.of hp,by lia,by lia,hvc,fun i v k e3 e4 H' g=>?_,fun H2 a g n=>?_⟩
   ·have I2:=I1.grows g
    obtain⟨d,e5⟩:∃d,es[i]? =some d:=⟨_,List.getElem?_eq_getElem (by have:=(List.getElem?_eq_some_iff.mp e3).1;lia)⟩
    obtain⟨w,e6,rd⟩:=ry.get e5
    rw[e3]at e6;cases e6
    exact znk I2 (ReadD.of I2.fz rc) rd (kg i d k e5 e4) fun r rr=>⟨rr,rfl⟩
   ·obtain⟨I3,g2,h2,b2,n2⟩:=(I1.grows g).newO n ((srt ys.length (HT.ltK kz)).map fun i=>ys.getD i .non)
    refine kk G1 _ a _ I3 f1 g2 h2 ?_ b2 n2
    unfold zqi
    rw[hl];exact ry.picks _
  ·cases hm
 ·cases hm
end
section
variable {P:Program} {w:World} {K:W.Frag} {mg:Str->Option Value} {base hp:Heap} {x:Str} {st:Stmt} {f:Addr} {fd:FuncData} {N ps:List Str} {k n:Nat} {m:MS}
theorem fnP_okC {qual:Str}(F:Fun K x qual st f fd)(S:FnScope N ps (zaC st))(hn:ps.length=n)(hN:n<=N.length)
  (body:∀(A:Around) (outer:List Env) (s:Shared) (H:Hp) (E:XK),Room k (A.deeper (envOfC qual (zaC st) s.heap.objs.size f fd.code))->SSs (cxOf CX0 P w K mg base N qual (zaC st) f fd.code A outer s H E).nox (zbW st) m):
  FnOk P w K mg base CX0 (k+1) f fd ps (spP K n (fP N.length m)):=by
 obtain⟨oc,od,kV,doc,pm,an,cdv,ct,osl,rfl,lk,hcd⟩:=F.ex
 refine fn_of lk hcd S (fun vs H Q E h=>?_) fun A outer s H vs Q E hr h=>?_
 ·obtain⟨G,ds,r,_,h2,_,h4,_⟩:=h
  rw[h4.length,h2,hn]
 ·obtain⟨G,ds,r,e1,h2,fz,h4,kk⟩:=h
  obtain⟨t,pt,so⟩:=body A outer s H E hr
  refine⟨t,pt.nox,?_⟩
  obtain⟨⟨fl,ρ'⟩,e2,e3⟩:=zah e1
  refine so ⟨G,H,[]⟩ G H (L2.start N vs) _ fl ρ' _ (SI.start fz h4 (by lia)) e2 ?_
  have fin:∀G' H' σ' v,SI K ⟨G,H,[]⟩ G' H' σ' ρ'->Fz G G'->ResF K G' H' H v r->Q v H':=fun G' H' σ' v I f rr=>kk G' H' v f I.fz I.new (fun b o e=>I.keep b o e (by simp)) rr
  cases fl with
  |next=>cases e3;exact fun G' H' σ' I f=>fin G' H' σ' .non I f rfl
  |brk=>cases e3
  |cont=>cases e3
  |ret r'=>
   cases e3
   refine fun G' H' σ' v I f rr=>fin G' H' σ' v I f ?_
   cases r with
   |val d=>exact rr
   |own ds=>exact rr
   |emp=>exact rr
   |two _ _=>exact rr
   |tre _=>exact rr
   |ptr _=>exact rr
   |par ds=>exact rr
noncomputable def HostAt (K:W.Frag)(x:Str)(P c:Addr):Prop:=∃f o fd,W.nsIn K mainGlobals x=some (some (.ref f))/\K.lookup f=some o/\o.data= .func fd/\fd.code= .ref c/\fd.qualname=x/\codeHdIn K c P=true/\K.lookup P=none
theorem code11 {c P:Addr}(h:codeHdIn K c P=true):∃oc vs,K.lookup c=some oc/\oc.data= .fields vs/\vs[11]? =some (.ref P):=by
 unfold codeHdIn at h
 split at h
 ·rename_i vs _ hk
  simp only[Bool.and_eq_true]at h
  obtain⟨⟨⟨⟨⟨e1,_⟩,_⟩,_⟩,_⟩,_⟩:=h
  split at e1
  ·rename_i P' h11
   have hP:P'=P:=beq_iff_eq.mp e1
   subst hP
   exact⟨_,vs,hk,rfl,h11⟩
  ·cases e1
 ·cases h
theorem fdPL {P0 c:Addr}(X:K.In hp)(G:hp.Ns mainGlobals mg)(h:FnAt K "cheapest_places" st)(hh:HostAt K "cheapest_places" P0 c)
    (b:tabP K mg P0 ("cheapest_places"++".<locals>."++"<lambda>")->codeHdIn K c P0=true->∀(f:Addr) (A:Around) (outer:List Env) (s:Shared) (H:Hp) (E:XK),Room k (A.deeper (PyProof.Rows.envOfC "cheapest_places" (zaC st) s.heap.objs.size f (.ref c)))->N.Nodup->SSs (cxOf CX0 P w K mg base N "cheapest_places" (zaC st) f (.ref c) A outer s H E).nox (zbW st) m)
    (d:autoParam (DefOk "cheapest_places" st N n) zu12._auto_1):FD P w K mg base (k+1) "cheapest_places" (spP K n (fP N.length m)):=by
  obtain⟨f,fd,a,T⟩:=h
  obtain⟨f',o,fd',a1,a2,a3,a4,a5,a6,a7⟩:=hh
  rw[a]at a1;cases a1
  have e:fd=fd':=by
    obtain⟨oc,od,kV,doc,pm,an,cdv,ct,osl,rfl,lk,hcd⟩:=T.ex
    rw[lk]at a2;cases a2;cases a3;rfl
  subst e
  obtain⟨oc,vs,b1,b2,b3⟩:=code11 a6
  have tb:tabP K mg P0 ("cheapest_places"++".<locals>."++"<lambda>"):=⟨f,o,fd,c,oc,vs,W.mg_of X G a,a2,a3,a4,b1,b2,b3,a7,by rw[a5]⟩
  refine⟨⟨f,fd,_,fnP_okC T d.sc d.len d.le (fun A outer s H E hr=>?_),W.mg_of X G a,T.kp,T.binds d.bs⟩⟩
  rw[a4]at hr ⊢
  exact b tb a6 f A outer s H E hr d.sc.nd
end
end M
namespace M
open L2 PySem PySem.Spec
theorem HostAt.code {K:W.Frag}{x:Str}{P c:Addr}(h:HostAt K x P c):W.codeHdIn K c P=true:=by
 obtain⟨_,_,_,_,_,_,_,_,h,_⟩:=h
 exact h
theorem HostAt.tab {K:W.Frag}{P c:Addr}{hp:Heap}{mg:Str->Option Value}(h:HostAt K "cheapest_places" P c)(X:K.In hp)(G:hp.Ns mainGlobals mg):tabP K mg P ("cheapest_places"++".<locals>."++"<lambda>"):=by
 obtain⟨f,o,fd,a,a2,a3,a4,a5,a6,a7⟩:=h
 obtain⟨oc,vs,b1,b2,b3⟩:=code11 a6
 exact⟨f,o,fd,_,oc,vs,W.mg_of X G a,a2,a3,a4,b1,b2,b3,a7,by rw[a5]⟩
end M
namespace M
open PyProof.Rows PySem
open Builtin
theorem zmO (l:Addr)(items:Array Value)(n:Nat)(dd:Option Addr)(sl:Array (Option Value))(k:Int)(t:Tok)(ns:List Int)(hi:IntsAre items.toList ns)(hk:k∈ns):
  Meets (Builtin.«tuple.index» ⟨[.ref l,.int k t],[]⟩) (fun _ R s=>s.heap.get? l=some {cls:= .type "tuple",dict:=dd,data:= .seq items n,slots:=sl}/\R (.ok (.ret (.int (ns.idxOf k:Nat) s.toks))) {s with toks:=s.toks+1}):=
 .of_wp fun prog w A R s h=>by
  obtain⟨hp,g,d,tk,os⟩:=s;obtain⟨hl,h⟩:=h
  unfold Builtin.«tuple.index»
  simp only[Std.Legacy.Range.forIn_eq_forIn_range']
  wp_walk using AutoSeq1.wpAny_loadPart' hl,wpAny_forIn_list _ (fun rest b s'=>b.1=none/\s'=⟨hp,g,d,tk,os⟩/\∃j,j<=ns.idxOf k/\rest=List.range' j (items.size-j)) _
  case turn=>
   rintro x rest b s ⟨hb,rfl,j,hj,e⟩
   have hil:ns.idxOf k<ns.length:=List.idxOf_lt_length_iff.mpr hk
   have hsz:items.size=ns.length:=by rw[<-hi.length];simp
   obtain⟨m,hm⟩:∃m,items.size-j=m+1:=⟨items.size-j-1,by lia⟩
   rw[hm,List.range'_succ]at e
   obtain⟨rfl,rfl⟩:=List.cons.inj e
   have hx:x<items.size:=by lia
   rw[Array.getElem?_eq_getElem hx]
   have q:=(eq_isInt k t hi items[x] (by simp)).at A.in1 ⟨hp,g,d,tk,os⟩
   have e2:isInt k items[x]=(ns[x]'(by lia)==k):=by
    have:=isInt_at k hi x (by simpa using hx) (by lia)
    simpa using this
   rw[e2]at q
   refine wpAny_bind (q prog w _ _ ?_)
   by_cases z:x=ns.idxOf k
   ·have e3:(ns[x]'(by lia)==k)=true:=by subst z;simpa using List.getElem_idxOf hil
    rw[e3]
    wp_walk
    refine⟨_,rfl,?_⟩
    rw[z]
    exact h
   ·rw[ne_of_lt_idxOf (show x<ns.idxOf k by lia) (by lia)]
    wp_walk
    exact⟨rfl,rfl,x+1,by lia,by rw[show items.size-(x+1)=m by lia]⟩
  case fin=>
   rintro b s ⟨hb,rfl,j,hj,e⟩
   have hil:ns.idxOf k<ns.length:=List.idxOf_lt_length_iff.mpr hk
   have hsz:items.size=ns.length:=by rw[<-hi.length];simp
   have:=congrArg List.length e
   simp at this
   lia
  case h=>
   refine⟨rfl,rfl,0,Nat.zero_le _,?_⟩
   simp[Std.Legacy.Range.size]
end M
namespace M
open L2 PySem PySem.Spec
open PyProof.Rows hiding St
noncomputable def zp8 (K:W.Frag):V->List V->Hp->VK->Prop:=fun x vs H Q=>∃(l:Addr) (ns:List Int) (k:Int),x= .ref l/\vs=[.int k]/\SqT K H l (ns.map V.int)/\k∈ns/\Q (.int (ns.idxOf k:Nat)) H
theorem zpJ {X:Cx}:MtR X "tuple.index" (zp8 X.K):=by
 intro pins s σ H x vs v us Q I rx rv h
 obtain⟨l,ns,k,rfl,rfl,hq,hk,q⟩:=h
 cases rx
 obtain⟨u,rfl,t,rfl⟩:=rv.one
 obtain⟨its,r,p,hz⟩:=I.tuple hq
 obtain⟨⟨cls,dd,data,sl⟩,ho,hc,n,hd⟩:=id p
 simp only at hc hd
 subst hc hd
 exact call_meets PySem.F.slot_tuple_index ⟨_,ho,rfl⟩ PySem.F.entry_tuple_index (PySem.F.args_tuple_index_2 _ _) (zmO l its.toArray n dd sl k t ns (by simpa using zeA r) hk) ⟨ho,⟨.int (ns.idxOf k:Nat),H,I.tok _,⟨_,rfl⟩,q⟩⟩
noncomputable def zlV:D->D->Option D
 | .lst ds,.int k=>(zbz ds).bind fun ns=>if k∈ns then some (.int (ns.idxOf k:Nat))else none
 | .tup ds,.int k=>(zbz ds).bind fun ns=>if k∈ns then some (.int (ns.idxOf k:Nat))else none
 |_,_=>none
theorem pe_or {X:Cx}{e:Expr}{t u:TE}(h:PE X e t)(g:PE X e u):PE X e (fun σ H Q=>t σ H Q\/u σ H Q):=fun pins s σ H Q I h2=>by
 rcases h2 with h2|h2
 ·exact h pins s σ H Q I h2
 ·exact g pins s σ H Q I h2
noncomputable def tIdxT (K:W.Frag)(to:TE)(t:TA):TE:=fun σ H Q=>to σ H fun x H1=>(∃p xs,x= .ref p/\H1 p=some (.tup xs))/\t σ H1 fun xs H2=>zp8 K x xs H2 Q
theorem zpu {X:Cx}{o e:Expr}{to:TE}{t:TA}{apos cpos:Pos}(ho:PE X o to)(ha:PA X [e] t)
  (hbase:attributeBase o "index" X.env (eval o X.env)=eval o X.env)
  (hfew : ((backTo cpos (starEach [e] X.env)).all (fun x => !x.1) && (backToKw cpos (keywordEach [] X.env)).all (fun x => x.1.isSome)
   &&decide ([e].length+([]:List Keyword).length+(if([]:List Keyword).isEmpty then 0 else 1)<30))=true)
  (hline:(apos.endLine==cpos.line)=true) (hs:starEach [e] X.env=(false,eval e X.env)::starEach [] X.env):PE X (.Call (.Attribute o "index" apos) [e] [] cpos) (tIdxT X.K to t):=by
 intro pins s σ H Q I h
 refine wpAny_Call_method_late hbase hfew hline rfl (thn (ho pins s σ H _ I h) fun v s1 ⟨x,H1,I1,r1,⟨p,ys,e1,e2⟩,q1⟩=>?_)
 subst e1
 obtain rfl:v=Value.ref p:=r1
 obtain⟨z,its,r,ob,e3,c,n,d,dn⟩:=I1.hok p _ e2
 refine⟨"tuple","tuple.index",PySem.F.plainAttrs_tuple,PySem.F.slot_tuple_index,PySem.F.type_tuple_index,⟨ob,e3,c⟩,fun a ea=>by cases ea;exact⟨ob,e3,dn⟩,?_⟩
 have hA:=ha cpos pins s1 σ H1 _ I1 q1
 rw[hs]at hA ⊢
 refine Calls.callWith_builtin (by show(false||(backTo cpos (starEach [] X.env)).any (·.1))=false;rfl) (Calls.evalArgs_plain ?_)
 exact thn hA fun us s2 ⟨vs,H2,I2,r2,q2⟩=>zpJ pins s2 σ H2 (.ref p) vs (.ref p) us Q I2 rfl r2 q2
theorem zpp {X:Cx}{o e:Expr}{mo me:ME}{apos cpos:Pos}(ho:SE X o mo)(he:SE X e me)
  (hbase:autoParam (attributeBase o "index" X.env (eval o X.env)=eval o X.env) zu2._auto_1)
  (hfew :autoParam (((backTo cpos (starEach [e] X.env)).all (fun x => !x.1) && (backToKw cpos (keywordEach [] X.env)).all (fun x => x.1.isSome)
   &&decide ([e].length+([]:List Keyword).length+(if([]:List Keyword).isEmpty then 0 else 1)<30))=true) zu2._auto_1)
  (hline:autoParam ((apos.endLine==cpos.line)=true) zu2._auto_1) (hs:autoParam (starEach [e] X.env=(false,eval e X.env)::starEach [] X.env) zu2._auto_1):SE X (.Call (.Attribute o "index" apos) [e] [] cpos) (m2 zlV mo me):=by
 obtain⟨to,po,so⟩:=ho
 obtain⟨te,pe,se⟩:=he
 refine⟨_,pe_or (pe_bm PySem.F.plainAttrs_list PySem.F.slot_list_index PySem.F.type_list_index zog po (zbY pe zfj hs) hbase hfew hline hs rfl) (zpu po (zbY pe zfj hs) hbase hfew hline hs),fun B G H σ ρ d ρ' Q I hm k=>?_⟩
 obtain⟨⟨d1,ρ1⟩,e1,hm⟩:=zah hm
 obtain⟨⟨d2,ρ2⟩,e2,hm⟩:=zah hm
 obtain⟨d3,e3,hm⟩:=zau hm
 cases hm
 cases d1 with
 |lst ds=>
  refine .inl (so B G H σ ρ _ ρ1 _ I e1 fun G1 H1 v I1 f1 r1=>?_)
  cases d2 with
  |int i=>
   obtain⟨ns,e4,e3⟩:=zah e3
   obtain⟨a,xs,rfl,ha,rr⟩:=r1
   refine⟨.inl ⟨rfl,xs,SqL.of (I1.fz _ _ ha)⟩,?_⟩
   refine se B G1 H1 σ ρ1 _ ρ2 _ I1 e2 fun G2 H2 u I2 f2 r2=>?_
   cases(show u=V.int i from r2)
   split at e3
   ·rename_i hk
    cases e3
    cases zcI e4
    have rl:=rr.mono f2
    have ex:xs=ns.map V.int:=RepL.ints_eq rl
    subst ex
    exact⟨a,ns,i,rfl,rfl,SqL.of (I2.fz _ _ (f2 _ _ ha)),hk,k G2 H2 _ I2 (f1.trans f2) rfl⟩
   ·cases e3
  |_=>cases e3
 |tup ds=>
  refine .inr (so B G H σ ρ _ ρ1 _ I e1 fun G1 H1 v I1 f1 r1=>?_)
  cases d2 with
  |int i=>
   obtain⟨ns,e4,e3⟩:=zah e3
   obtain⟨a,xs,rfl,ha,rr⟩:=r1
   refine⟨⟨a,xs,rfl,I1.fz _ _ ha⟩,?_⟩
   refine se B G1 H1 σ ρ1 _ ρ2 _ I1 e2 fun G2 H2 u I2 f2 r2=>?_
   cases(show u=V.int i from r2)
   split at e3
   ·rename_i hk
    cases e3
    cases zcI e4
    have rl:=rr.mono f2
    have ex:xs=ns.map V.int:=RepL.ints_eq rl
    subst ex
    exact⟨a,ns,i,rfl,rfl,SqT.of (I2.fz _ _ (f2 _ _ ha)),hk,k G2 H2 _ I2 (f1.trans f2) rfl⟩
   ·cases e3
  |_=>cases e3
 |_=>cases e3
end M
namespace HT
open L2 PyProof.Rows PySem PySem.Spec
section
variable {prog:Program} {w:World} {A:Around} {E:Value->Shared->Prop} {s:Shared}
theorem zqp {j n m:Nat}(hj:j<=n)(hm:0<m):Builtin.Slice.sliceAdjust (some (j:Int)) none (m:Int) (n:Int)=((j:Int),(n:Int)):=by
 unfold Builtin.Slice.sliceAdjust
 have h1:¬((m:Int)<0):=by lia
 have h2:¬((j:Int)<0):=by lia
 simp only[h1,h2,if_false]
 congr 1
 lia
theorem zkf {sl:Addr}{vl vs:Value}{j n m:Nat}{Q:Int×Int×Nat->Shared->Prop}(hs:s.heap.IsSliceOf sl vl .none vs)(pl:IsPart vl (some (j:Int)))(ps:IsPart vs (some (m:Int)))(hj:j<=n)(hm:0<m)
  (h:Q ((j:Int),(m:Int),Builtin.Slice.slicePlaces (j:Int) (n:Int) (m:Int)) s):wpAny (model prog w) A (Builtin.Slice.sliceApplied (.ref sl) (pure (n:Int))) Q E s:=by
 obtain⟨os,hos,hcs,hds⟩:=id hs
 unfold Builtin.Slice.sliceApplied Builtin.Slice.sliceFields
 refine wpAny_bind (wpAny_bind (wpAny_field hos hds (x:=vl) rfl (wpAny_bind (wpAny_field hos hds (x:= .none) rfl (wpAny_bind (wpAny_field hos hds (x:=vs) rfl (wpAny_pure ?_)))))))
 refine wpAny_bind (zgJ ps ?_)
 show wpAny _ _ (if((m:Int)==0)=true then _ else _) _ _ s
 rw[if_neg (by simp;lia)]
 refine wpAny_bind (zgJ pl (wpAny_bind (slicePart_none (wpAny_bind (wpAny_pure ?_)))))
 show wpAny _ _ (match Builtin.Slice.sliceAdjust (some (j:Int)) none (m:Int) (n:Int)with|(lo,hi)=>pure (lo,(m:Int),Builtin.Slice.slicePlaces lo hi (m:Int))) _ _ s
 rw[zqp hj hm]
 exact wpAny_pure h
theorem pick_st (its:List Value){j m:Nat}(hj:j<=its.length)(hm:0<m):((List.range (Builtin.Slice.slicePlaces (j:Int) ((its.toArray.size:Nat):Int) (m:Int))).filterMap fun(i:Nat)=>its.toArray[((j:Int)+(i:Int)*(m:Int)).toNat]?).toArray=(M.za0 its (some (j:Int)) none (some (m:Int))).toArray:=by
 congr 1
 unfold M.za0
 have hb:sliceBounds (some (j:Int)) none (some (m:Int)) its.length=((j:Int),(its.length:Int),(m:Int)):=by
  unfold sliceBounds
  have h1:(m:Int)>0:=by lia
  have h2:¬((j:Int)<0):=by lia
  simp only[Option.getD_some,h1,h2,if_true,if_false]
  congr 1
  lia
 rw[hb]
 unfold sliceRange Builtin.Slice.slicePlaces
 have h1:(m:Int)>0:=by lia
 simp only[h1,if_true,List.size_toArray]
 have hc:((its.length:Int)-j+m-1)/(m:Int)=((its.length:Int)-j-1)/(m:Int)+1:=by
  rw[show(its.length:Int)-j+m-1=(its.length:Int)-j-1+1*m by lia,Int.add_mul_ediv_right _ _ (by lia)]
 rw[hc,List.filterMap_map]
 congr 1
 funext i
 show its.toArray[_]? =its[_]?
 rw[List.getElem?_toArray,Int.mul_comm]
theorem zji {t sl:Addr}{its:List Value}{vl vs:Value}{j m:Nat}{Q:Value->Shared->Prop}(ht:IsTup s.heap t its.toArray)(hs:s.heap.IsSliceOf sl vl .none vs)(pl:IsPart vl (some (j:Int)))(ps:IsPart vs (some (m:Int)))(hj:j<=its.length)(hm:2<=m)
  (h:Q (.ref s.heap.objs.size) {s with heap:=s.heap.push {cls:= .type "tuple",data:= .seq (M.za0 its (some (j:Int)) none (some (m:Int))).toArray}})
  (hsz:(M.za0 its (some (j:Int)) none (some (m:Int))).length<=sizeLine):wpAny (model prog w) A (getItem (.ref t) (.ref sl)) Q E s:=by
 have htake:sizeOk (.seq (M.za0 its (some (j:Int)) none (some (m:Int))).toArray):=by
  show(M.za0 its (some (j:Int)) none (some (m:Int))).toArray.size<=sizeLine
  simpa using hsz
 obtain⟨os,hos,hcs,hds⟩:=id hs
 have hTs:s.TypeIs (.ref sl) "slice":=⟨os,hos,hcs⟩
 unfold getItem
 try with_reducible refine wpAny_holding ?_
 first|refine wpAny_bind (wpAny_pure ?_)|skip
 refine wpAny_bind (wpAny_sequenceKey ht.typeIs (by decide) ?_)
 refine wpAny_bind (wpAny_callSpecial?_slot (name:=Str.ofString "__getitem__") ht.typeIs PyProof.Rows.slot_tuple_getitem
  (wpAny_call_entry PyProof.Rows.slot_tuple_getitem ht.typeIs entry_tuple_getitem ?_ (args_tuple_getitem _ _)))
 show wpAny _ _ (Builtin.Tuple.tupleItemsOf (.ref t)>>=_) _ _ s
 refine wpAny_bind (tupleItemsOf_ ht ?_)
 refine wpAny_bind (wpAny_typeOf hTs ?_)
 rw[if_pos (by decide)]
 refine wpAny_bind (zkf hs pl ps (n:=its.toArray.size) (by simpa using hj) (by lia) ?_)
 have hno:¬(((j:Int)==0&&(m:Int)==1&&Builtin.Slice.slicePlaces (j:Int) ((its.toArray.size:Nat):Int) (m:Int)==its.toArray.size)=true):=by
  intro q
  rw[Bool.and_eq_true,Bool.and_eq_true]at q
  have:=q.1.2
  simp at this
  lia
 show wpAny _ _ (if((j:Int)==0&&(m:Int)==1&&Builtin.Slice.slicePlaces (j:Int) ((its.toArray.size:Nat):Int) (m:Int)==its.toArray.size)=true then _ else _) _ _ s
 rw[if_neg hno,pick_st its hj (by lia)]
 first
  |exact wpAny_bind (m:=Builtin.Tuple.tupleExact _) (wpAny_newObj_type (wpAny_pure ⟨_,rfl,wpAny_pure h⟩) htake)
  |exact wpAny_bind (m:=Builtin.Tuple.tupleExact _) (wpAny_newObj_type (wpAny_bind (wpAny_pure (wpAny_pure ⟨_,rfl,wpAny_pure h⟩))) htake)
  |exact wpAny_bind (wpAny_bind (m:=Builtin.Tuple.tupleExact _) (wpAny_newObj_type (wpAny_pure (wpAny_pure ⟨_,rfl,wpAny_pure h⟩)) htake))
  |exact wpAny_bind (wpAny_bind (m:=Builtin.Tuple.tupleExact _) (wpAny_newObj_type (wpAny_pure ⟨_,rfl,wpAny_pure h⟩) htake))
end
end HT
namespace M
open L2 PyProof.Rows PySem
section
variable {X:Cx} {e st:Expr} {lo hi:Option Expr} {te:TE} {tl th ts:TO} {p2 pos:Pos}
theorem pe_stT (he:PE X e te)(hl:PO X lo tl)(hu:PO X hi th)(hst:PO X (some st) ts):PE X (.Subscript e (.Slice lo hi (some st) p2) pos)
  (fun σ H Q=>te σ H fun x H1=>tl σ H1 fun l H2=>th σ H2 fun u H3=>ts σ H3 fun c H4=>∃(a:Addr) (xs:List V) (j m:Nat),l=some (j:Int)/\u=none/\c=some (m:Int)/\j<=xs.length/\2<=m/\x= .ref a/\SqT X.K H4 a xs/\∀p,H4 p=none->Q (.ref p) (upd H4 p (.tup (za0 xs (some (j:Int)) none (some (m:Int)))))):=by
 intro pins s σ H Q I h
 refine Subscript_ (thn (he pins s σ H _ I h) fun v s1 ⟨x,H1,I1,r1,q1⟩=>?_)
 refine wpAny_Slice (thn (hl pins s1 σ H1 _ I1 q1) fun vl s2 ⟨l,H2,I2,pl,q2⟩=>thn (hu pins s2 σ H2 _ I2 q2) fun vu s3 ⟨u,H3,I3,pu,q3⟩=>thn (hst pins s3 σ H3 _ I3 q3) fun vs s4 ⟨c,H4,I4,pc,q4⟩=>?_)
 have I5:Inv X pins σ H4 {s4 with heap:=s4.heap.push {cls:= .type "slice",data:= .fields #[vl,vu,vs]}}:=I4.kept (t':=s4.toks) fun b ob q=>Heap.get?_push_of_some _ q
 obtain⟨a,xs,j,m,rfl,rfl,rfl,hj,hm,rfl,hx,q⟩:=q4
 cases r1
 cases pu
 obtain⟨its,r,ht,hz⟩:=I5.tuple hx
 have hlen:=r.length
 have e2:(za0 xs (some (j:Int)) none (some (m:Int))).length=(za0 its (some (j:Int)) none (some (m:Int))).length:=by
  unfold za0;rw[hlen];exact(picks r _).length
 have e3:=ziV hlen (some (j:Int)) none (some (m:Int))
 have hg:wpAny (model X.prog X.w) X.A (getItem (.ref a) (.ref s4.heap.objs.size)) (EP X pins σ Q) X.xe {s4 with heap:=s4.heap.push {cls:= .type "slice",data:= .fields #[vl,.none,vs]}}:=by
  refine HT.zji ht (Heap.IsSliceOf.new ..) pl pc (by lia) hm ?_ (by lia)
  refine⟨.ref _,_,I5.laid (t':=s4.toks) (o:= .tup (za0 xs (some (j:Int)) none (some (m:Int)))) (fun b ob q=>Heap.get?_push_of_some _ q) (Nat.le_refl _) ?_,rfl,q _ (I5.hok.fresh (Nat.le_refl _))⟩
  refine⟨by lia,za0 its (some (j:Int)) none (some (m:Int)),?_,?_⟩
  ·unfold za0;rw[hlen];exact picks r _
  ·exact L2.IsTupD.new _ _
 show wpAny (model X.prog X.w) X.A (subscriptTail e (.Slice lo hi (some st) p2) (.ref a) (.ref s4.heap.objs.size)) (EP X pins σ Q) X.xe {s4 with heap:=s4.heap.push {cls:= .type "slice",data:= .fields #[vl,.none,vs]}}
 exact tail_any (ops:=[.ref a,.ref s4.heap.objs.size]) ht.typeIs slot_tuple_getitem.lookup hg (by with_unfolding_all rfl)
end
noncomputable def zos (d:D)(lo hi st:Option Int):Option D:=match d,lo,hi,st with
 | .tup ds,some l,none,some c=>if 0<=l/\l.toNat<=ds.length/\2<=c then some (.tup (za0 ds (some l) none (some c)))else none
 |d,lo,hi,st=>zoV d lo hi st
noncomputable def zps (ma:ME)(ml mh ms:MP):ME:=fun ρ=>(ma ρ).bind fun p=>(ml p.2).bind fun q=>(mh q.2).bind fun r=>(ms r.2).bind fun t=>(zos p.1 q.1 r.1 t.1).map fun d=>(d,t.2)
theorem se_cutS2 {X:Cx}{e st:Expr}{lo hi:Option Expr}{ma:ME}{ml mh ms:MP}{pos p2:Pos}(he:SE X e ma)(hl:SPt X lo ml)(hu:SPt X hi mh)(hs:SPt X (some st) ms):SE X (.Subscript e (.Slice lo hi (some st) p2) pos) (zps ma ml mh ms):=by
 obtain⟨ta,pa,sa⟩:=he
 obtain⟨tl,pl,sl⟩:=hl
 obtain⟨th,ph,sh⟩:=hu
 obtain⟨tc,pc,sc⟩:=hs
 refine⟨_,pe_or (zk6 pa pl ph pc) (pe_stT pa pl ph pc),fun B G H σ ρ d ρ' Q I hm k=>?_⟩
 obtain⟨⟨x,ρ1⟩,e1,hm⟩:=zah hm
 obtain⟨⟨l,ρ2⟩,e2,hm⟩:=zah hm
 obtain⟨⟨u,ρ3⟩,e3,hm⟩:=zah hm
 obtain⟨⟨c,ρ4⟩,e4,hm⟩:=zah hm
 obtain⟨y,e5,e6⟩:=zau hm
 obtain⟨rfl,rfl⟩:=Prod.mk.inj e6
 dsimp only at e5
 match x,l,u,c,e1,e2,e3,e4,e5 with
 | .lst ds,l,u,c,e1,e2,e3,e4,e5=>
  refine .inl (sa B G H σ ρ _ ρ1 _ I e1 fun G1 H1 v I1 f1 r1=>sl B G1 H1 σ ρ1 l ρ2 _ I1 e2 fun G2 H2 I2 f2=>sh B G2 H2 σ ρ2 u ρ3 _ I2 e3 fun G3 H3 I3 f3=>sc B G3 H3 σ ρ3 c ρ4 _ I3 e4 fun G4 H4 I4 f4=>?_)
  have r3:=r1.mono (f2.trans (f3.trans f4))
  have e5:(if c=some 0 then none else some (D.lst (za0 ds l u c)))=some y:=e5
  split at e5
  ·cases e5
  ·rename_i h0
   cases e5
   obtain⟨a,xs,rfl,ha,r⟩:=I4.lst r3
   refine⟨a,xs,rfl,SqL.of ha,h0,fun p hp=>?_⟩
   obtain⟨I5,f5,r5⟩:=I4.newL hp (r.pick l u c)
   exact k _ _ _ I5 (f1.trans (f2.trans (f3.trans (f4.trans f5)))) r5
 | .tup ds,some l,none,some c,e1,e2,e3,e4,e5=>
  refine .inr (sa B G H σ ρ _ ρ1 _ I e1 fun G1 H1 v I1 f1 r1=>sl B G1 H1 σ ρ1 (some l) ρ2 _ I1 e2 fun G2 H2 I2 f2=>sh B G2 H2 σ ρ2 none ρ3 _ I2 e3 fun G3 H3 I3 f3=>sc B G3 H3 σ ρ3 (some c) ρ4 _ I3 e4 fun G4 H4 I4 f4=>?_)
  have r3:=r1.mono (f2.trans (f3.trans f4))
  have e5:(if 0<=l/\l.toNat<=ds.length/\2<=c then some (D.tup (za0 ds (some l) none (some c)))else none)=some y:=e5
  split at e5
  ·rename_i h0
   cases e5
   obtain⟨a,xs,rfl,ha,r⟩:=I4.tup r3
   have hl:=r.length
   have q1:l=((l.toNat:Nat):Int):=by lia
   have q2:c=((c.toNat:Nat):Int):=by lia
   refine⟨a,xs,l.toNat,c.toNat,by rw[<-q1],rfl,by rw[<-q2],by lia,by lia,rfl,SqT.of ha,fun p hp=>?_⟩
   rw[<-q1,<-q2]
   obtain⟨I5,f5,r5⟩:=I4.newT hp (r.pick (some l) none (some c))
   exact k _ _ _ I5 (f1.trans (f2.trans (f3.trans (f4.trans f5)))) r5
  ·cases e5
end M
namespace M
open L2 PySem PySem.Spec
open PyProof.Rows hiding St
section
variable {X:Cx} {pins:List (Addr×Obj)} {σ:St} {H:Hp} {s:Shared}
theorem caughtC {s1:Shared}{E2:XK}{ev:Value}{D:Ends}{i j:Nat}{y n hc:Str}{CS:Addr}{hp p1 p2 p3 pos:Pos}(tp:TopF X)(I:Inv X pins σ H s)(hN:X.N.Nodup)(hi:X.N[i]? =some y)(hj:X.N[j]? =some n)(hij:i≠j)
  (ly:Loc X.env.scope y) (lf:X.fn y=true\/X.env.scope.names.lookup y=some .local) (ln:X.env.scope.names.lookup n=some .local) (hdn:(n==("__debug__":Str))=false) (hcn:(n==("__classdict__":Str))=false) (hg:Gl X hc) (hm:X.mg hc=some (.ref CS)) (hdh:(hc==("__debug__":Str))=false) (hsw:swapsWith (.Name n p2) (some (.Name y p1)) p3.line X.env=pure false)
  (hE:∀C H',E2 C none H'->∃C',C= .ref C'/\W.exmOne X.K (.ref C') (.ref CS)=some true/\∀a,H' a=none->D.nx ((σ.set i (some (.ref a))).set j none) (upd H' a (.ext (zlN a C'))))
  (c:CX1 X.prog X.w X.stack H s E2 ev s1) {F:Value->Shared->Prop}:
  wpAny (model X.prog X.w) X.A (noteFrame ev X.env) (fun _ s₂=>wpAny (model X.prog X.w) X.A (setFlight ev none) (fun _ s₃=>wpAny (model X.prog X.w) X.A (handleBy ev X.env [.ExceptHandler (some (.Name hc hp)) (some n) [.Assign [.Name y p1] (.Name n p2) p3] pos]) (SP X pins D) F s₃) F s₂) F s1:=by
 obtain⟨a,T,C,a0,H',rfl,os,bare,un,hok,⟨oe,vs,oT,ts,e1,e2,e4,e5,e6,e7,e8,e9⟩,⟨na,nT⟩,⟨ha,hT⟩,hE1⟩:=c
 obtain⟨C',rfl,hex,hD⟩:=hE C H' hE1
 have hD:=hD a ha
 have J:Inv X pins σ H' s1:=I.call' os un hok bare fun b z=>absurd z (by simp)
 have ff0:=zjy J (a::T::L2.frs X.stack) fun b hb=>List.mem_cons_of_mem _ (List.mem_cons_of_mem _ hb)
 have ff1:s1.heap.FunFrames (W.hideAll s1.heap (a::T::L2.frs X.stack)) (X.env::X.outer):=by
  have:=ff0
  generalize W.hideAll s1.heap (a::T::L2.frs X.stack)=B at this ⊢
  rw[tp.hs]at this
  exact this
 have nofield:∀b∈L2.frs X.stack,∃o,s1.heap.get? b=some o/\∀vs:Array Value,o.data≠Data.fields vs:=fun b hb=>(J.stack.mem hb).2
 refine wpAny_noteFrame_onW (base:=W.hideAll s1.heap (a::T::L2.frs X.stack)) (outer:=X.outer) (by rw[<-tp.hs];exact J.ok.frames) ff1 tp.hfr
  ⟨oe,vs,T,oT,ts,e1,e2,e4,e5,W.hideAll_none _ (by simp),e6,e7,e8,e9⟩ (fun b o q=>W.of_hideAll _ q) (W.hideAll_none _ (by simp)) fun h2 nt=>?_
 obtain⟨stay2,ff2,tr2,up2⟩:=nt
 refine wpAny_setFlight_noneW stay2 ff2 tr2 fun h3 stay3 ff3 tr3 up3=>?_
 have held3:Held X a T (.ref C') a0 s1.heap h3:=⟨stay3,ff3,tr3,fun b o hb e=>by
  obtain⟨o',ho',nd⟩:=nofield b hb
  rw[e]at ho';cases ho'
  obtain⟨sl,e2⟩:=up2 b o e nd
  exact⟨sl,up3 b _ e2 nd⟩⟩
 have J3:=zjw (tk:=s1.toks) I os bare un hok na nT ha hT J held3
 have hd:=I.ok.hd
 refine wpAny_handleBy_cons ?_ (fun z=>nomatch z)
 refine codeAny_handlers_test (zj1 (X:=mkE X a) (zn5 J3) hg hm ?_ hdh)
 obtain⟨oe3,_,_,_,_,q1,⟨q2,_⟩,_⟩:=id tr3
 refine W.exm_one (M:=model X.prog X.w) J3.kIn (zjH q1 q2) hex _ _ _ _ (fun _ _ q=>q) ?_
 rw[if_pos rfl]
 dsimp only
 refine codeAny_handlers_suite_as (wpAny_setFlight_noneW stay3 ff3 tr3 fun h4 stay4 ff4 tr4 up4=>?_)
 have held4:Held X a T (.ref C') a0 s1.heap h4:=⟨stay4,ff4,tr4,fun b o hb e=>by
  obtain⟨o',ho',nd⟩:=nofield b hb
  rw[e]at ho';cases ho'
  obtain⟨sl,e2⟩:=held3.up b o hb e
  exact⟨sl,up4 b _ e2 nd⟩⟩
 have J4:=zjw (tk:=s1.toks) I os bare un hok na nT ha hT J held4
 refine zh0 (X:=X) (v:= .ref a) J4 hN hj (.inl ln) rfl (fun s5 J5=>?_) (.inr ln)
 have hb:=(zhX (X:=mkE X a) (zmM (X:=mkE X a) hN hi ly (zfw (X:=mkE X a) hj (.inl ln) hdn hcn) hsw lf) znF) pins s5 _ _ {nx:=fun σ' H''=>σ'=(σ.set j (some (.ref a))).set i (some (.ref a))/\H''=upd H' a (.ext (zlN a C')),rt:=fun _ _=>False} (zn5 J5)
 have hjσ:j<σ.length:=by rw[I.len];exact(List.getElem?_eq_some_iff.mp hj).1
 refine wpAny_mono (hb ⟨.ref a,?_,rfl,rfl⟩) (fun f s6 q=>?_) fun _ _ q=>q.elim
 ·rw[List.getElem?_set_self hjσ]
 ·cases f with
  |next=>
   obtain⟨σ',H'',J6,rfl,rfl⟩:=q
   dsimp only
   refine zmQ (zoa hd J6) hN hj ln fun s7 J7=>⟨_,_,J7,?_⟩
   have:(((σ.set j (some (.ref a))).set i (some (.ref a))).set j none)=(σ.set i (some (.ref a))).set j none:=by
    rw[List.set_comm _ _ hij,List.set_set,List.set_comm _ _ hij]
   rw[this]
   exact hD
  |brk=>obtain⟨_,_,_,z⟩:=q;exact z.elim
  |cont=>obtain⟨_,_,_,z⟩:=q;exact z.elim
  |ret u=>obtain⟨_,_,_,_,_,z⟩:=q;exact z.elim
end
theorem ss_tryC {X:Cx}{body:List Stmt}{m:MS}{x:MX}{ok:List Str}(i j:Nat){y n hc:Str}{hp p1 p2 p3 pos tpos:Pos}(tp:TopF X)
  (hb:∀pins,SSs (tryB X pins fun _ _=>False) body m) (hx:∀pins F S E,zmi (tryB X pins F) S E->XSs (tryB X pins F) S E body x)
  (hcat:CatOk X.K X.mg hc ok)
  (hN:X.N.Nodup) (hi:autoParam (X.N[i]? =some y) zu2._auto_1) (hj:autoParam (X.N[j]? =some n) zu2._auto_1) (hij:autoParam (i≠j) zu1._auto_1)
  (ly:autoParam (Loc X.env.scope y) zu9._auto_1) (lf:autoParam (X.fn y=true\/X.env.scope.names.lookup y=some .local) zu9._auto_1) (ln:autoParam (X.env.scope.names.lookup n=some .local) zu2._auto_1) (hdn:autoParam ((n==("__debug__":Str))=false) zu1._auto_1) (hcn:autoParam ((n==("__classdict__":Str))=false) zu1._auto_1) (hg:autoParam (Gl X hc) zu2._auto_1) (hdh:autoParam ((hc==("__debug__":Str))=false) zu1._auto_1) (hsw:autoParam (swapsWith (.Name n p2) (some (.Name y p1)) p3.line X.env=pure false) zu2._auto_1):
  SS X (.Try body [.ExceptHandler (some (.Name hc hp)) (some n) [.Assign [.Name y p1] (.Name n p2) p3] pos] [] [] tpos) (sTry m x ok i j):=by
 refine⟨fun D σ H=>∀pins s,Inv X pins σ H s->wpAny (model X.prog X.w) X.A (exec (.Try body [.ExceptHandler (some (.Name hc hp)) (some n) [.Assign [.Name y p1] (.Name n p2) p3] pos] [] [] tpos) X.env) (SP X pins D) X.xe s,fun pins s σ H D I h=>h pins s I,fun B G H σ ρ fl ρ' D I hmm k pins s J=>wpAny_Try_except ?_⟩
 unfold sTry at hmm
 obtain⟨CS,hm,hok⟩:=hcat
 cases ex:x ρ with
 |none=>
  rw[ex]at hmm
  obtain⟨t,pt,so⟩:=hb pins
  refine wpAny_mono (pt [] s σ H D (zqV J) (so B G H σ ρ fl ρ' D I hmm k)) (fun f s1 q=>?_) fun _ _ q=>q.elim
  have q:=sp_untry q
  cases f with
  |next=>exact wpAny_execs_nil q
  |brk=>exact q
  |cont=>exact q
  |ret u=>exact q
 |some c=>
  rw[ex]at hmm
  dsimp only at hmm
  split at hmm
  ·rename_i no
   split at hmm
   ·rename_i okc
    cases hmm
    obtain⟨C',hC,hS⟩:=hok c okc
    let E2:XK:=fun C _ H'=>∃C',C= .ref C'/\W.exmOne X.K (.ref C') (.ref CS)=some true/\∀a,H' a=none->D.nx ((σ.set i (some (.ref a))).set j none) (upd H' a (.ext (zlN a C')))
    obtain⟨t,pt,so⟩:=hx pins (fun e s₁=>wpAny (model X.prog X.w) X.A (noteFrame e X.env) (fun _ s₂=>wpAny (model X.prog X.w) X.A (setFlight e none) (fun _ s₃=>wpAny (model X.prog X.w) X.A (handleBy e X.env [.ExceptHandler (some (.Name hc hp)) (some n) [.Assign [.Name y p1] (.Name n p2) p3] pos]) (SP X pins D) X.xe s₃) X.xe s₂) X.xe s₁) (fun σ'=>σ'=σ) E2
     (fun pins' σ' H1 s1 e s' J1 hσ cx => by
      subst hσ
      exact caughtC tp (zfI J1) hN hi hj hij ly lf ln hdn hcn hg hm hdh hsw (fun C H' q=>q) cx)
    have VI:SI X.K ⟨G,H,[]⟩ G H σ ρ:=(VS.of I no).si I.fz
    refine wpAny_mono (pt [] s σ H {nx:=fun _ _=>False,rt:=fun _ _=>False} (zqV J) (so ⟨G,H,[]⟩ G H σ ρ c VI rfl ex (fun H' C kp hC2=>?_) _)) (fun f s1 q=>?_) fun _ _ q=>q
    ·have hC2:W.nsIn X.K mainGlobals c=some (some (.ref C)):=hC2
     have:C=C':=by rw[hC]at hC2;cases hC2;rfl
     subst this
     have fz:Fz H H':=fun b o q=>kp b o q (by simp)
     refine⟨C,rfl,hS,fun a ha=>?_⟩
     have I2:SI X.K B G H' σ ρ:=I.grow (Fz.refl G) (I.fz.trans fz) (fun b o e=> .inl (nn e)) fz
     have I3:=(I2.allocF ha (.ext (zlN a C))).set (i:=i) (v:= .ref a) (d:= .exc c) ⟨a,C,rfl,hC,zaA⟩
     exact k _ _ _ (I3.drop j) (Fz.new (I2.fz.free ha) _)
    ·cases f with
     |next=>obtain⟨_,_,_,z⟩:=q;exact z.elim
     |brk=>obtain⟨_,_,_,z⟩:=q;exact z.elim
     |cont=>obtain⟨_,_,_,z⟩:=q;exact z.elim
     |ret u=>obtain⟨_,_,_,_,_,z⟩:=q;exact z.elim
   ·cases hmm
  ·cases hmm
end M
namespace M
open L2 PySem
variable {c d x:D} {b:MS} {z:Bool} {Q:Fl×R->Prop} {a i n j N:Nat} {f:D->R->Option (Option D×R)} {g:D->R->Option R} {mt:MT} {me m:ME} {ρ:R} {r:Sl} {h:List D->R->Option R} {ds xs ys:List D} {mi ma:MA} {t:Option Sl} {F:List D->Option Sl} {cap:List Nat} {I:R->Prop} {ns:List Int}
noncomputable abbrev Rt {α:Type}(_:α->Prop):Type:=Option α
noncomputable def OkQ {α:Type}(Q:α->Prop)(o:Rt Q):Prop:=∃a,o=some a/\Q a
noncomputable def Ok {α:Type}(o:Option α)(Q:α->Prop):Prop:=OkQ Q o
noncomputable abbrev RtS {α:Sort u}(_:α):Type:=Option Sl
section
variable {α β:Type} {o:Option α} {Q Q':α->Prop}
theorem ok_some {a:α}:OkQ Q (some a)=Q a:=propext ⟨fun⟨_,e,q⟩=>by cases e;exact q,fun q=>⟨a,rfl,q⟩⟩
theorem ok_none:OkQ Q (none:Option α)=False:=propext ⟨fun⟨_,e,_⟩=>(by cases e),False.elim⟩
theorem ok_bind {f:α->Option β}{Q:β->Prop}:OkQ Q (o.bind f)=OkQ (fun a=>OkQ Q (f a)) o:=by
 cases o with
 |none=>exact propext ⟨fun⟨_,e,_⟩=>(by cases e),fun⟨_,e,_⟩=>(by cases e)⟩
 |some a=>exact propext ⟨fun h=>⟨a,rfl,h⟩,fun⟨_,e,h⟩=>by cases e;exact h⟩
theorem ok_map {f:α->β}{Q:β->Prop}:OkQ Q (o.map f)=OkQ (fun a=>Q (f a)) o:=by
 cases o with
 |none=>exact propext ⟨fun⟨_,e,_⟩=>(by cases e),fun⟨_,e,_⟩=>(by cases e)⟩
 |some a=>exact propext ⟨fun h=>⟨a,rfl,ok_some.mp h⟩,fun⟨_,e,h⟩=>by cases e;exact ok_some.mpr h⟩
theorem zgx {c:Prop}[Decidable c]:OkQ Q (if c then o else none)=(c/\OkQ Q o):=by
 by_cases h:c
 ·rw[if_pos h];exact propext ⟨fun k=>⟨h,k⟩,fun k=>k.2⟩
 ·rw[if_neg h];exact propext ⟨fun k=>(ok_none.mp k).elim,fun k=>absurd k.1 h⟩
theorem ok_Q:Ok o Q=OkQ Q o:=rfl
noncomputable def gd {α:Type}(b:Bool)(o:Option α):Option α:=if b then o else none
theorem ok_gd {b:Bool}(h:b=true):OkQ Q (gd b o)=OkQ Q o:=by subst h;rfl
theorem Ok.mono (h:Ok o Q)(k:∀a,Q a->Q' a):Ok o Q':=by
 obtain⟨a,e,q⟩:=h;exact⟨a,e,k a q⟩
theorem zaR {Q':α->Prop}(h:∀a,Q a=Q' a):OkQ Q o=OkQ Q' o:=by rw[funext h]
end
section
variable {c:MT} {a b:MS} {ρ:R}
theorem zmz {α:Type}{o u:Option α}{Q:α->Prop}:OkQ Q (if z then o else u)=((z=true->OkQ Q o)/\(z=false->OkQ Q u)):=by cases z<;>simp
theorem ok_sIf:OkQ Q (sIf c a b ρ)=(OkQ (fun p=>(p.1=true->OkQ Q (a p.2))/\(p.1=false->OkQ Q (b p.2))) (c ρ)):=by
 unfold sIf;rw[ok_bind];exact zaR fun p=>zmz
theorem ok_eIf {a b:ME}{Q:D×R->Prop}:OkQ Q (eIf c a b ρ)=(OkQ (fun p=>(p.1=true->OkQ Q (a p.2))/\(p.1=false->OkQ Q (b p.2))) (c ρ)):=by
 unfold eIf;rw[ok_bind];exact zaR fun p=>zmz
theorem ok_tAnd {a b:MT}{Q:Bool×R->Prop}:OkQ Q (tAndM a b ρ)=(OkQ (fun p=>(p.1=true->OkQ Q (b p.2))/\(p.1=false->Q (false,p.2))) (a ρ)):=by
 unfold tAndM;rw[ok_bind];exact zaR fun p=>by rw[zmz,ok_some]
theorem ok_tOr {a b:MT}{Q:Bool×R->Prop}:OkQ Q (tOrM a b ρ)=(OkQ (fun p=>(p.1=true->Q (true,p.2))/\(p.1=false->OkQ Q (b p.2))) (a ρ)):=by
 unfold tOrM;rw[ok_bind];exact zaR fun p=>by rw[zmz,ok_some]
theorem ok_eAnd {a b:ME}{Q:D×R->Prop}:OkQ Q (eAnd a b ρ)=(OkQ (fun p=>∃z,p.1= .bl z/\(z=true->OkQ Q (b p.2))/\(z=false->Q (.bl false,p.2))) (a ρ)):=by
 unfold eAnd;rw[ok_bind]
 have:∀p:D×R,Ok (match p.1 with
  | .bl true=>b p.2
  | .bl false=>some (.bl false,p.2)
  |_=>none) Q↔∃z,p.1= .bl z/\(z=true->Ok (b p.2) Q)/\(z=false->Q (.bl false,p.2)):=by
  rintro⟨d,ρ⟩
  cases d with
  |bl z=>cases z<;>simp[ok_Q,ok_some]
  |_=>simp[ok_Q,ok_none]
 exact zaR fun p=>propext (this p)
theorem ok_eOr {a b:ME}{Q:D×R->Prop}:OkQ Q (eOr a b ρ)=(OkQ (fun p=>∃z,p.1= .bl z/\(z=true->Q (.bl true,p.2))/\(z=false->OkQ Q (b p.2))) (a ρ)):=by
 unfold eOr;rw[ok_bind]
 have:∀p:D×R,Ok (match p.1 with
  | .bl true=>some (.bl true,p.2)
  | .bl false=>b p.2
  |_=>none) Q↔∃z,p.1= .bl z/\(z=true->Q (.bl true,p.2))/\(z=false->Ok (b p.2) Q):=by
  rintro⟨d,ρ⟩
  cases d with
  |bl z=>cases z<;>simp[ok_Q,ok_some]
  |_=>simp[ok_Q,ok_none]
 exact zaR fun p=>propext (this p)
theorem ok_chain {f g:D->D->Option D}{a b c:ME}{Q:D×R->Prop}:OkQ Q (ziX f g a b c ρ)=(OkQ (fun p=>OkQ (fun q=>OkQ (fun t=>∃z,t= .bl z/\(z=true->OkQ (fun r=>OkQ (fun d=>Q (d,r.2)) (g q.1 r.1)) (c q.2))/\(z=false->Q (.bl false,q.2))) (f p.1 q.1)) (b p.2)) (a ρ)):=by
 unfold ziX;rw[ok_bind]
 have:∀(p q:D×R) (t:D),Ok (match t with
  | .bl true=>(c q.2).bind fun r=>(g q.1 r.1).map fun d=>(d,r.2)
  | .bl false=>some (.bl false,q.2)
  |_=>none) Q↔∃z,t= .bl z/\(z=true->Ok (c q.2) fun r=>Ok (g q.1 r.1) fun d=>Q (d,r.2))/\(z=false->Q (.bl false,q.2)):=by
  intro p q t
  cases t with
  |bl z=>
   cases z
   ·simp[ok_Q,ok_some]
   ·simp only[ok_Q,ok_bind,D.bl.injEq,exists_eq_left',forall_const,reduceCtorEq,false_implies,and_true]
    exact iff_of_eq (zaR fun r=>ok_map)
  |_=>simp[ok_Q,ok_none]
 exact zaR fun p=>by rw[ok_bind];exact zaR fun q=>by rw[ok_bind];exact zaR fun t=>propext (this p q t)
theorem ok_turnM {Q:Option D×R->Prop}:OkQ Q (znZ g mt me d ρ)=(OkQ (fun ρ1=>OkQ (fun p=>(p.1=true->OkQ (fun q=>zdb q.2=true/\Q (some q.1,q.2)) (me p.2))/\(p.1=false->zdb p.2=true/\Q (none,p.2))) (mt ρ1)) (g d ρ)):=by
 unfold znZ;rw[ok_bind];exact zaR fun ρ1=>by rw[ok_bind];exact zaR fun p=>by rw[zmz,ok_bind,zgx,ok_some];congr 1;exact propext (imp_congr Iff.rfl (iff_of_eq (zaR fun q=>by rw[zgx,ok_some])))
theorem ok_turnP {bk:Nat}{Q:Option D×R->Prop}:OkQ Q (zo4 bk g mt me d ρ)=(OkQ (fun ρ1=>OkQ (fun p=>(p.1=true->OkQ (fun q=>znR bk q.2=true/\Q (some q.1,q.2)) (me p.2))/\(p.1=false->znR bk p.2=true/\Q (none,p.2))) (mt ρ1)) (g d ρ)):=by
 unfold zo4;rw[ok_bind];exact zaR fun ρ1=>by rw[ok_bind];exact zaR fun p=>by rw[zmz,ok_bind,zgx,ok_some];congr 1;exact propext (imp_congr Iff.rfl (iff_of_eq (zaR fun q=>by rw[zgx,ok_some])))
theorem zo7 (n:Nat):Int.natAbs (no_index (OfNat.ofNat n))=n:=rfl
end
section
theorem ok_sNext:OkQ Q (zbA ρ)=(Q (.next,ρ)):=ok_some
noncomputable def SeqK (b:MS)(Q:Fl×R->Prop)(p:Fl×R):Prop:=OkQ Q (match p.1 with
 | .next=>b p.2
 |f=>some (f,p.2))
theorem zqL:SeqK b Q (.next,ρ)=(OkQ Q (b ρ)):=rfl
theorem seqK_ret:SeqK b Q (.ret r,ρ)=(Q (.ret r,ρ)):=ok_some
theorem seqK_brk:SeqK b Q (.brk,ρ)=(Q (.brk,ρ)):=ok_some
theorem zqD:SeqK b Q (.cont,ρ)=(Q (.cont,ρ)):=ok_some
theorem ok_sSeq {a b:MS}:OkQ Q (sSeq a b ρ)=(OkQ (SeqK b Q) (a ρ)):=ok_bind
theorem ok_sExpr:OkQ Q (zpY m ρ)=(OkQ (fun p=>Q (.next,p.2)) (m ρ)):=ok_map
theorem ok_sRet:OkQ Q (sRet m ρ)=(OkQ (fun p=>Q (.ret (.val p.1),p.2)) (m ρ)):=ok_map
theorem ok_sRetO {m:MO}:OkQ Q (zje m ρ)=(OkQ (fun p=>Q (.ret (.own p.1),p.2)) (m ρ)):=ok_map
theorem ok_sRetV:OkQ Q (zlG i ρ)=OkQ Q (match ρ[i]? with
 |some (.val d)=>some (.ret (.val d),ρ)
 |some (.own ds)=>some (.ret (.own ds),ρ.set i .emp)
 |_=>none):=rfl
theorem ok_gN {Q:R->Prop}:OkQ Q (gN i d ρ)=(Q (ρ.set i (.val d))):=ok_some
theorem ok_gsNil {ds:List D}{ρ:R}{Q:R->Prop}:OkQ Q (zdH ds ρ)=OkQ Q (match ds with
 |[]=>some ρ
 |_=>none):=rfl
theorem zri {Q:R->Prop}:OkQ Q (zaE g h ds ρ)=OkQ Q (match ds with
 |d::ds=>(g d ρ).bind fun ρ1=>h ds ρ1
 |[]=>none):=rfl
theorem ok_gT {g:List D->R->Option R}{Q:R->Prop}:OkQ Q (gT n g d ρ)=OkQ Q (match d with
 | .tup ds=>if ds.length=n then g ds ρ else none
 |_=>none):=rfl
theorem ok_sAsg:OkQ Q (sAsg m g ρ)=(OkQ (fun p=>OkQ (fun ρ'=>Q (.next,ρ')) (g p.1 p.2)) (m ρ)):=ok_bind.trans (zaR fun _=>ok_map)
theorem ok_sSet:OkQ Q (sSet i m ρ)=(OkQ (fun p=>Q (.next,p.2.set i (.val p.1))) (m ρ)):=ok_map
theorem ok_sSetO {m:MO}:OkQ Q (zgR i m ρ)=(OkQ (fun p=>Q (.next,p.2.set i (.own p.1))) (m ρ)):=ok_map
theorem ok_sApp:OkQ Q (sApp i m ρ)=OkQ Q (gd ((ρ[i]?.bind Sl.items).isSome) ((m ρ).bind fun p=>p.2[i]?.bind fun s=>s.items.bind fun ds=>if ds.length<16777216 then some (.next,p.2.set i (s.put (ds++[p.1])))else none)):=rfl
theorem ok_sPut {mi me:ME}:OkQ Q (sPut j mi me ρ)=OkQ Q ((me ρ).bind fun p=>gd (hasV p.2 j) ((mi p.2).bind fun q=>match q.1 with
 | .int k=>q.2[j]?.bind fun s=>s.items.bind fun ds=>(ixN ds.length k).bind fun n=>some (.next,q.2.set j (s.put (ds.set n p.1)))
 |_=>none)):=rfl
theorem ok_eC {Q:D×R->Prop}:OkQ Q (eC d ρ)=(Q (d,ρ)):=ok_some
noncomputable def eVQ (Q:D×R->Prop)(s:RtS Q)(ρ:R)(i:Nat):Prop:=match s with
 |some (.val d)=>Q (d,ρ)
 |some (.own ds)=>Q (.lst ds,ρ.set i (.val (.lst ds)))
 |_=>False
theorem zka {Q:D×R->Prop}:eVQ Q (some (.val d)) ρ i=Q (d,ρ):=rfl
theorem eVQ_own {Q:D×R->Prop}:eVQ Q (some (.own ds)) ρ i=Q (.lst ds,ρ.set i (.val (.lst ds))):=rfl
theorem zjT {Q:D×R->Prop}:OkQ Q (eVar i ρ)=eVQ Q ρ[i]? ρ i:=by
 unfold eVar eVQ
 cases ρ[i]? with
 |none=>exact ok_none
 |some s=>cases s<;>first|exact ok_some|exact ok_none
noncomputable def Vb (Q:D->D->Prop)(P:Prop)(s:RtS Q)(t:Option Sl):Prop:=match s,t with
 |some (.val x),some (.val y)=>Q x y
 |_,_=>P
theorem Vb_val {Q:D->D->Prop}{P:Prop}{x y:D}:Vb Q P (some (.val x)) (some (.val y))=Q x y:=rfl
theorem Vb_own {Q:D->D->Prop}{P:Prop}:Vb Q P (some (.own xs)) t=P:=rfl
theorem Vb_own2 {Q:D->D->Prop}{P:Prop}:Vb Q P (some (.val x)) (some (.own ys))=P:=rfl
noncomputable def Va (Q:D->Prop)(P:Prop)(s:RtS Q):Prop:=match s with
 |some (.val x)=>Q x
 |_=>P
theorem Va_val {Q:D->Prop}{P:Prop}:Va Q P (some (.val x))=Q x:=rfl
theorem Va_own {Q:D->Prop}{P:Prop}:Va Q P (some (.own xs))=P:=rfl
theorem ok_aNil {Q:List D×R->Prop}:OkQ Q (aNil ρ)=(Q ([],ρ)):=ok_some
theorem ok_aCons {r:MA}{Q:List D×R->Prop}:OkQ Q (zad m r ρ)=(OkQ (fun p=>OkQ (fun q=>Q (p.1::q.1,q.2)) (r p.2)) (m ρ)):=ok_bind.trans (zaR fun _=>ok_map)
theorem ok_m2 {f:D->D->Option D}{ma mb:ME}{Q:D×R->Prop}:OkQ Q (m2 f ma mb ρ)=(OkQ (fun p=>OkQ (fun q=>OkQ (fun d=>Q (d,q.2)) (f p.1 q.1)) (mb p.2)) (ma ρ)):=ok_bind.trans (zaR fun _=>ok_bind.trans (zaR fun _=>ok_map))
theorem ok_m2VV {f:D->D->Option D}{a b:Nat}{Q:D×R->Prop}:OkQ Q (m2 f (eVar a) (eVar b) ρ)=Vb (fun x y=>OkQ (fun d=>Q (d,ρ)) (f x y)) (OkQ (fun p=>OkQ (fun q=>OkQ (fun d=>Q (d,q.2)) (f p.1 q.1)) (eVar b p.2)) (eVar a ρ)) ρ[a]? ρ[b]?:=by
 rw[ok_m2,Vb.eq_def]
 split
 ·rename_i x y h1 h2
  rw[zjT,h1,zka,zjT,h2,zka]
 ·rfl
theorem ok_m2VC {f:D->D->Option D}{Q:D×R->Prop}:OkQ Q (m2 f (eVar a) (eC c) ρ)=Va (fun x=>OkQ (fun d=>Q (d,ρ)) (f x c)) (OkQ (fun p=>OkQ (fun d=>Q (d,p.2)) (f p.1 c)) (eVar a ρ)) ρ[a]?:=by
 rw[ok_m2,Va.eq_def,show(fun p:D×R=>OkQ (fun q=>OkQ (fun d=>Q (d,q.2)) (f p.1 q.1)) (eC c p.2))=fun p=>OkQ (fun d=>Q (d,p.2)) (f p.1 c)from funext fun p=>ok_eC]
 split
 ·rename_i x h1
  rw[zjT,h1,zka]
 ·rfl
theorem ok_m2CV {f:D->D->Option D}{Q:D×R->Prop}:OkQ Q (m2 f (eC c) (eVar a) ρ)=Va (fun x=>OkQ (fun d=>Q (d,ρ)) (f c x)) (OkQ (fun p=>OkQ (fun d=>Q (d,p.2)) (f c p.1)) (eVar a ρ)) ρ[a]?:=by
 rw[ok_m2,Va.eq_def,ok_eC]
 split
 ·rename_i x h1
  rw[zjT,h1,zka]
 ·rfl
theorem ok_m1 {f:D->Option D}{ma:ME}{Q:D×R->Prop}:OkQ Q (m1 f ma ρ)=(OkQ (fun p=>OkQ (fun d=>Q (d,p.2)) (f p.1)) (ma ρ)):=ok_bind.trans (zaR fun _=>ok_map)
theorem ok_mC {f:List D->Option D}{Q:D×R->Prop}:OkQ Q (mC f ma ρ)=(OkQ (fun p=>OkQ (fun d=>Q (d,p.2)) (f p.1)) (ma ρ)):=ok_bind.trans (zaR fun _=>ok_map)
theorem ok_eIxV {mi:ME}{Q:D×R->Prop}:OkQ Q (eIxV j mi ρ)=OkQ Q (gd (hasV ρ j) ((mi ρ).bind fun p=>(p.2[j]?.bind Sl.read).bind fun d=>(dIx d p.1).map fun e=>(e,p.2))):=Eq.trans rfl rfl
noncomputable def ixR (s:Option Sl)(c:D):Option D:=match s with
 |some (.val d)=>dIx d c
 |some (.own ds)=>dIx (.lst ds) c
 |some (.par ds)=>dIx (.lst ds) c
 |_=>none
theorem ixR_val:ixR (some (.val d)) c=dIx d c:=rfl
theorem ixR_own:ixR (some (.own ds)) c=dIx (.lst ds) c:=rfl
theorem ixR_par:ixR (some (.par ds)) c=dIx (.lst ds) c:=rfl
theorem zoy:(if hasV ρ j then(ρ[j]?.bind Sl.read).bind fun d=>(dIx d c).map fun e=>(e,ρ)else none)=(ixR ρ[j]? c).map fun e=>(e,ρ):=by
 unfold hasV
 cases ρ[j]? with
 |none=>rfl
 |some s=>cases s<;>rfl
theorem ok_eIxC {Q:D×R->Prop}:OkQ Q (eIxV j (eC c) ρ)=OkQ (fun e=>Q (e,ρ)) (ixR ρ[j]? c):=by
 rw[show eIxV j (eC c) ρ=(ixR ρ[j]? c).map fun e=>(e,ρ)from zoy,ok_map]
theorem ok_eIxE {Q:D×R->Prop}:OkQ Q (eIxV j (eVar i) ρ)=Va (fun c=>OkQ (fun e=>Q (e,ρ)) (ixR ρ[j]? c)) (OkQ Q (gd (hasV ρ j) ((eVar i ρ).bind fun p=>(p.2[j]?.bind Sl.read).bind fun d=>(dIx d p.1).map fun e=>(e,p.2)))) ρ[i]?:=by
 rw[Va.eq_def]
 split
 ·rename_i x h1
  rw[show eIxV j (eVar i) ρ=(ixR ρ[j]? x).map fun e=>(e,ρ) by
   rw[<-zoy];unfold eIxV;rw[show eVar i ρ=some (x,ρ) by unfold eVar;rw[h1]];rfl,ok_map]
 ·rfl
theorem ok_eLenV {Q:D×R->Prop}:OkQ Q (zcq j ρ)=OkQ Q ((ρ[j]?.bind Sl.read).bind fun d=>(dLen [d]).map fun e=>(e,ρ)):=rfl
theorem ok_oC {f:List D->Option (List D)}{Q:List D×R->Prop}:OkQ Q (oC f ma ρ)=(OkQ (fun p=>OkQ (fun d=>Q (d,p.2)) (f p.1)) (ma ρ)):=ok_bind.trans (zaR fun _=>ok_map)
theorem ok_eTup {Q:D×R->Prop}:OkQ Q (eTup ma ρ)=(OkQ (fun p=>p.1.length<=16777216/\Q (.tup p.1,p.2)) (ma ρ)):=ok_bind.trans (zaR fun _=>by rw[zgx,ok_some])
theorem ok_oLst {Q:List D×R->Prop}:OkQ Q (oLst ma ρ)=(OkQ (fun p=>p.1.length<=16777216/\Q (p.1,p.2)) (ma ρ)):=ok_bind.trans (zaR fun _=>by rw[zgx,ok_some])
theorem ok_tTru {ma:ME}{Q:Bool×R->Prop}:OkQ Q (tTru ma ρ)=(OkQ (fun p=>OkQ (fun b=>Q (b,p.2)) (dTru p.1)) (ma ρ)):=ok_bind.trans (zaR fun _=>ok_map)
theorem ok_tNotM {a:MT}{Q:Bool×R->Prop}:OkQ Q (zgp a ρ)=(OkQ (fun p=>Q (!p.1,p.2)) (a ρ)):=ok_map
theorem ok_eCall {Q:D×R->Prop}:OkQ Q (zaN F ma ρ)=OkQ Q ((ma ρ).bind fun p=>(F p.1).bind fun r=>match r with
 | .val d=>some (d,p.2)
 | .own ds=>some (.lst ds,p.2)
 |_=>none):=rfl
theorem ok_oCall {Q:List D×R->Prop}:OkQ Q (zmD F ma ρ)=OkQ Q ((ma ρ).bind fun p=>(F p.1).bind fun r=>match r with
 | .own ds=>some (ds,p.2)
 |_=>none):=rfl
theorem zqo {F:List D->List D->Option (Sl×List D)}{Q:D×R->Prop}:OkQ Q (zbk F j ma ρ)=OkQ Q (gd ((ρ[j]?.bind Sl.items).isSome) ((ma ρ).bind fun p=>p.2[j]?.bind fun s=>s.items.bind fun cs=>(F cs p.1).bind fun r=>match r.1 with
 | .val d=>some (d,p.2.set j (s.put r.2))
 | .own ds=>some (.lst ds,p.2.set j (s.put r.2))
 |_=>none)):=rfl
theorem ok_iR2L {Q:List D×R->Prop}:OkQ Q (iR2L ma ρ)=OkQ Q ((ma ρ).bind fun p=>match p.1 with
 |[.int i,.int j]=>some (zhh i (j-i).toNat,p.2)
 |_=>none):=rfl
theorem ok_eFz {m:MO}{Q:D×R->Prop}:OkQ Q (eFz m ρ)=(OkQ (fun p=>Q (.lst p.1,p.2)) (m ρ)):=ok_map
theorem ok_eCut {ma:ME}{ml mh:MP}{Q:D×R->Prop}:OkQ Q (eCut ma ml mh ρ)=OkQ Q ((ma ρ).bind fun p=>(ml p.2).bind fun q=>(mh q.2).bind fun r=>(dCut p.1 q.1 r.1).map fun d=>(d,r.2)):=rfl
theorem ok_pNo {Q:Option Int×R->Prop}:OkQ Q (pNo ρ)=(Q (none,ρ)):=ok_some
theorem ok_pSome {Q:Option Int×R->Prop}:OkQ Q (zcP m ρ)=OkQ Q ((m ρ).bind fun p=>match p.1 with
 | .int i=>some (some i,p.2)
 |_=>none):=rfl
theorem ok_iSeq {Q:List D×R->Prop}:OkQ Q (iSeq m ρ)=(OkQ (fun p=>OkQ (fun ds=>Q (ds,p.2)) (zbj [p.1])) (m ρ)):=ok_bind.trans (zaR fun _=>ok_map)
theorem ok_iR1 {Q:List D×R->Prop}:OkQ Q (iR1 ma ρ)=OkQ Q ((ma ρ).bind fun p=>match p.1 with
 |[.int j]=>if zdK j then some (zhh 0 j.toNat,p.2)else none
 |_=>none):=rfl
theorem ok_sFor {mb:MS}:OkQ Q (sFor mi g mb ρ)=(OkQ (fun p=>OkQ Q (forM (fun d ρ=>(g d ρ).bind fun ρ'=>mb ρ') p.1 p.2)) (mi ρ)):=ok_bind
theorem ok_oLC {t:Nat}{Q:List D×R->Prop}:OkQ Q (oLC cap t mi g mt me ρ)=OkQ Q ((mi ρ).bind fun p=>if p.1.length<=16777216 then(zeO (znZ g mt me) p.1 (capR cap t (fzL cap p.2))).map fun q=>(q.1,fzL cap p.2)else none):=rfl
theorem ok_tTrue {Q:Bool×R->Prop}:OkQ Q (zbf ρ)=(Q (true,ρ)):=ok_some
theorem ok_sAugI {g:Int->Int->Int}:OkQ Q (zoN i g me ρ)=OkQ Q (match ρ[i]? with
 |some (.val (.int a))=>(me ρ).bind fun p=>match p.1 with
  | .int b=>some (.next,p.2.set i (.val (.int (g a b))))
  |_=>none
 |_=>none):=rfl
theorem ok_eCutS {ma:ME}{ml mh ms:MP}{Q:D×R->Prop}:OkQ Q (zqA ma ml mh ms ρ)=OkQ Q ((ma ρ).bind fun p=>(ml p.2).bind fun q=>(mh q.2).bind fun r=>(ms r.2).bind fun t=>(zoV p.1 q.1 r.1 t.1).map fun d=>(d,t.2)):=rfl
theorem ok_iR3 {Q:List D×R->Prop}:OkQ Q (iR3 ma ρ)=OkQ Q ((ma ρ).bind fun p=>match p.1 with
 |[.int i,.int j,.int k]=>if zdK i&&zdK j&&decide (0<k)&&decide (k<1073741824)then some (zn0 i k (cntS i j k),p.2)else none
 |_=>none):=rfl
theorem ok_oRep {ma mb:ME}{Q:List D×R->Prop}:OkQ Q (oRep ma mb ρ)=OkQ Q ((ma ρ).bind fun p=>(mb p.2).bind fun q=>match p.1,q.1 with
 | .lst xs,.int k=>if zdK k&&decide (xs.length*k.toNat<=16777216)then some ((List.replicate k.toNat xs).flatten,q.2)else none
 |_,_=>none):=rfl
theorem ok_iZ2 {Q:List D×R->Prop}:OkQ Q (iZ2 ma ρ)=OkQ Q ((ma ρ).bind fun p=>match p.1 with
 |[a,b]=>(zbj [a]).bind fun xs=>(zbj [b]).bind fun ys=>some (znP xs ys,p.2)
 |_=>none):=rfl
theorem ok_iZ3 {Q:List D×R->Prop}:OkQ Q (iZ3 ma ρ)=OkQ Q ((ma ρ).bind fun p=>match p.1 with
 |[a,b,c]=>(zbj [a]).bind fun xs=>(zbj [b]).bind fun ys=>(zbj [c]).bind fun zs=>some (znN xs ys zs,p.2)
 |_=>none):=rfl
theorem ok_iEn {Q:List D×R->Prop}:OkQ Q (iEn ma ρ)=OkQ Q ((ma ρ).bind fun p=>(zbj p.1).map fun xs=>(zn1 xs,p.2)):=rfl
theorem ok_oLCM {t b w:Nat}{Q:List D×R->Prop}:OkQ Q (oLCM cap t b w mi g mt me ρ)=OkQ Q ((mi ρ).bind fun p=>if p.1.length<=16777216 then
    ((fzL (cap.filter (· !=w)) p.2)[w]?).bind fun s=>s.items.bind fun cs=>(zeO (zo4 b g mt me) p.1 ((capR cap t (fzL (cap.filter (· !=w)) p.2)).set b (.par cs))).map fun q=>(q.1,(fzL (cap.filter (· !=w)) p.2).set w (s.put (zq2 b q.2)))
  else none):=rfl
noncomputable def zmI:Nat->List D->R
 |N,[]=>List.replicate N .emp
 |N,d::ds=> .val d::zmI (N-1) ds
theorem zk7 {d:D}:zmI N (d::ds)= .val d::zmI (N-1) ds:=rfl
theorem zpZ:zmI N []=List.replicate N .emp:=rfl
theorem zjC:∀(N:Nat) (ds:List D),ds.map .val++List.replicate (N-ds.length) .emp=zmI N ds
 |_,[]=>rfl
 |N,d::ds=>by rw[zk7,<-zjC (N-1) ds,List.map_cons,List.length_cons,Nat.sub_sub,Nat.add_comm 1];rfl
theorem zrm {α β:Type}{f:α->β}{a:α}{l:List α}:(a::l).map f=f a::l.map f:=rfl
theorem map_nilR {α β:Type}{f:α->β}:[].map f=[]:=rfl
theorem ok_fP {m:MS}{Q:Sl->Prop}:OkQ Q (fP N m ds)=OkQ Q ((m (zmI N ds)).bind fun p=>match p.1 with
 | .ret r=>some r
 | .next=>some (.val .non)
 |_=>none):=by rw[<-zjC];rfl
theorem ok_fM {m:MS}{cs:List D}{Q:Sl×List D->Prop}:OkQ Q (fM N m cs ds)=OkQ Q ((m (.par cs::zmI (N-1) ds)).bind fun p=>match p.1,(p.2[0]?:Option Sl)with
 |Fl.ret r,some (Sl.par out)=>some (r,out)
 |Fl.next,some (Sl.par out)=>some (.val .non,out)
 |_,_=>none):=by rw[<-zjC,Nat.sub_sub,Nat.add_comm 1];rfl
end
noncomputable def Turn (I:R->Prop)(Q:Fl×R->Prop)(p:Fl×R):Prop:=match p.1 with
 | .next=>I p.2
 | .cont=>I p.2
 | .brk=>Q (.next,p.2)
 | .ret r=>Q (.ret r,p.2)
theorem zq6:Turn I Q (.next,ρ)=(I ρ):=rfl
theorem zpE:Turn I Q (.cont,ρ)=(I ρ):=rfl
theorem turn_brk:Turn I Q (.brk,ρ)=(Q (.next,ρ)):=rfl
theorem turn_ret:Turn I Q (.ret r,ρ)=(Q (.ret r,ρ)):=rfl
theorem zrb {α:Type}{f:D->R->Option (Fl×R)}(enc:α->D)(I:Nat->R->Prop):∀(l:List α) (b:Nat) (ρ:R),I b ρ->
  (∀i a ρ,l[i]? =some a->I (b+i) ρ->Ok (f (enc a) ρ) (Turn (I (b+i+1)) Q))->(∀ρ,I (b+l.length) ρ->Q (.next,ρ))->Ok (forM f (l.map enc) ρ) Q
 |[],b,ρ,h0,_,hq=>ok_some.mpr (hq ρ h0)
 |a::l,b,ρ,h0,hs,hq=>by
  obtain⟨p,e,t⟩:=hs 0 a ρ rfl h0
  obtain⟨fl,ρ1⟩:=p
  have go:∀ρ1,I (b+1) ρ1->Ok (forM f (l.map enc) ρ1) Q:=fun ρ1 h1=>zrb enc I l (b+1) ρ1 h1 (fun i a' ρ' hi hp=>by
   have:=hs (i+1) a' ρ' (by simpa using hi) (by rw[show b+(i+1)=b+1+i by lia];exact hp)
   rw[show b+(i+1)+1=b+1+i+1 by lia]at this
   exact this) (fun ρ h=>hq ρ (by rw[List.length_cons,show b+(l.length+1)=b+1+l.length by lia];exact h))
  have e':forM f ((a::l).map enc) ρ=(f (enc a) ρ).bind fun p=>match p.1 with
   | .next=>forM f (l.map enc) p.2
   | .cont=>forM f (l.map enc) p.2
   | .brk=>some (.next,p.2)
   | .ret r=>some (.ret r,p.2):=rfl
  rw[e',e]
  cases fl with
  |next=>exact go ρ1 t
  |cont=>exact go ρ1 t
  |brk=>exact ok_some.mpr t
  |ret r=>exact ok_some.mpr t
theorem ok_for {α:Type}{f:D->R->Option (Fl×R)}{enc:α->D}{l:List α}(I:Nat->R->Prop)(h0:I 0 ρ)
  (hs:∀i a ρ,l[i]? =some a->I i ρ->Ok (f (enc a) ρ) (Turn (I (i+1)) Q)) (hq:∀ρ,I l.length ρ->Q (.next,ρ)):Ok (forM f (l.map enc) ρ) Q:=
 zrb enc I l 0 ρ h0 (fun i a ρ hi h=>by rw[Nat.zero_add]at h ⊢;exact hs i a ρ hi h) (fun ρ h=>hq ρ (by rw[Nat.zero_add]at h;exact h))
theorem zmn {α:Type}(enc:α->D){Q:List D×R->Prop}(I:Nat->List D->R->Prop):∀(l:List α) (b:Nat) (acc:List D) (ρ:R),I b acc ρ->
  (∀i a acc ρ,l[i]? =some a->I (b+i) acc ρ->Ok (f (enc a) ρ) fun p=>I (b+i+1) (acc++p.1.toList) p.2)->(∀ds ρ,I (b+l.length) (acc++ds) ρ->Q (ds,ρ))->Ok (zeO f (l.map enc) ρ) Q
 |[],b,acc,ρ,h0,_,hq=>ok_some.mpr (hq [] ρ (by rw[List.append_nil];exact h0))
 |a::l,b,acc,ρ,h0,hs,hq=>by
  obtain⟨p,e,t⟩:=hs 0 a acc ρ rfl h0
  have go:=zmn enc (Q:=fun q=>Q (p.1.toList++q.1,q.2)) I l (b+1) (acc++p.1.toList) p.2 t (fun i a' acc' ρ' hi hp=>by
   have:=hs (i+1) a' acc' ρ' (by simpa using hi) (by rw[show b+(i+1)=b+1+i by lia];exact hp)
   rw[show b+(i+1)+1=b+1+i+1 by lia]at this
   exact this) (fun ds ρ h=>hq _ ρ (by rw[List.length_cons,show b+(l.length+1)=b+1+l.length by lia,<-List.append_assoc];exact h))
  have e':zeO f ((a::l).map enc) ρ=(f (enc a) ρ).bind fun p=>(zeO f (l.map enc) p.2).map fun q=>(p.1.toList++q.1,q.2):=rfl
  rw[e',e]
  exact ok_map.mpr go
theorem zop {α:Type}{enc:α->D}{l:List α}{Q:List D×R->Prop}(I:Nat->List D->R->Prop)(h0:I 0 [] ρ)
  (hs:∀i a acc ρ,l[i]? =some a->I i acc ρ->Ok (f (enc a) ρ) fun p=>I (i+1) (acc++p.1.toList) p.2) (hq:∀ds ρ,I l.length ds ρ->Q (ds,ρ)):Ok (zeO f (l.map enc) ρ) Q:=
 zmn enc I l 0 [] ρ h0 (fun i a acc ρ hi h=>by rw[Nat.zero_add]at h ⊢;exact hs i a acc ρ hi h) (fun ds ρ h=>hq ds ρ (by rw[Nat.zero_add]at h;exact h))
theorem zlD {α:Type}{enc:α->D}{l:List α}{Q:List D×R->Prop}(P:R->Prop)(g:α->Option D)(h0:P ρ)
  (hs:∀a ρ,a∈l->P ρ->Ok (f (enc a) ρ) fun p=>p.1=g a/\P p.2) (hq:∀ρ,P ρ->Q (l.filterMap g,ρ)):Ok (zeO f (l.map enc) ρ) Q:=
 zop (fun i ds ρ=>ds=(l.take i).filterMap g/\P ρ) ⟨rfl,h0⟩ (fun i a acc ρ hi ⟨e,p⟩=>by
  refine(hs a ρ (List.mem_of_getElem? hi) p).mono fun r h=>⟨?_,h.2⟩
  obtain⟨h1,h2⟩:=List.getElem?_eq_some_iff.mp hi
  rw[h.1,e,List.take_add_one,hi,List.filterMap_append]
  cases q:g a<;>simp[q]) (fun ds ρ ⟨e,p⟩=>by rw[List.take_length]at e;rw[e];exact hq ρ p)
theorem ziG {α:Type}{enc:α->D}{l:List α}{Q:List D×R->Prop}(P:R->Prop)(g:α->D)(h0:P ρ)
  (hs:∀a ρ,a∈l->P ρ->Ok (f (enc a) ρ) fun p=>p.1=some (g a)/\P p.2) (hq:∀ρ,P ρ->Q (l.map g,ρ)):Ok (zeO f (l.map enc) ρ) Q:=
 zlD P (fun a=>some (g a)) h0 hs (fun ρ p=>by rw[<-Function.comp_def some g,List.filterMap_eq_map];exact hq ρ p)
theorem dEq_int (i j:Int):dEq (.int i) (.int j)=some (.bl (i==j)):=by
 unfold dEq
 rw[show noS (.int i)=true from rfl,show noS (.int j)=true from rfl,show depth (.int i)=0 from rfl]
 rfl
theorem dNe_int (i j:Int):dNe (.int i) (.int j)=some (.bl (i !=j)):=by
 unfold dNe
 rw[show noS (.int i)=true from rfl,show noS (.int j)=true from rfl,show depth (.int i)=0 from rfl]
 rfl
theorem atI_n {α:Type}(xs:List α)(i:Nat):atI xs (i:Int)=xs[i]?:=by
 unfold atI ixN
 rw[if_pos (by lia)]
 by_cases h:i<xs.length
 ·rw[if_pos (by lia)];simp
 ·rw[if_neg (by lia)];simp[List.getElem?_eq_none (by lia:xs.length<=i)]
theorem atI_lit {α:Type}(xs:List α)(n:Nat):atI xs (no_index (@OfNat.ofNat Int n _))=xs[n]?:=atI_n xs n
theorem atI_n1 {α:Type}(xs:List α)(i:Nat):atI xs ((i:Int)+1)=xs[i+1]?:=atI_n xs (i+1)
theorem ixN_n (n i:Nat):ixN n (i:Int)=if i<n then some i else none:=by
 unfold ixN
 rw[if_pos (by lia)]
 by_cases h:i<n
 ·rw[if_pos (by lia),if_pos h];simp
 ·rw[if_neg (by lia),if_neg h]
theorem ixN_lit (n i:Nat):ixN n (no_index (@OfNat.ofNat Int i _))=if i<n then some i else none:=ixN_n n i
theorem zeZ {i j:Int}(h:i.natAbs<18446744073709551616):zo5 i j=true:=by
 unfold zo5
 have:decide (i.natAbs<2^64)=true:=decide_eq_true h
 rw[this];rfl
theorem zaO {j:Int}(h1: -1000000000000<=j)(h2:j<=1000000000000):zdK j=true:=by
 unfold zdK;rw[decide_eq_true h1,decide_eq_true h2];rfl
noncomputable def wL (n:Nat)(f:Nat->D):List D:=(List.range n).map f
noncomputable abbrev wI (n:Nat)(f:Nat->Int):List D:=wL n fun i=> .int (f i)
theorem za4 (n:Nat)(f:Nat->D):(wL n f).length=n:=by simp[wL]
theorem zaI (f:Nat->D)(h:i<n):(wL n f)[i]? =some (f i):=by simp[wL,h]
theorem zhD (n:Nat)(f:Nat->D):wL (n+1) f=wL n f++[f n]:=by simp[wL,List.range_succ]
theorem ze0 {f g:Nat->D}(h:∀i,i<n->f i=g i):wL n f=wL n g:=List.map_congr_left fun i hi=>h i (List.mem_range.mp hi)
theorem wL_snoc (n:Nat)(f:Nat->D)(x:D):wL n f++[x]=wL (n+1) fun j=>if j<n then f j else x:=by
 rw[zhD];congr 1
 ·exact ze0 fun i hi=>by rw[if_pos hi]
 ·rw[if_neg (by lia)]
theorem wL_set (f:Nat->D)(x:D)(h:i<n):(wL n f).set i x=wL n fun j=>if j=i then x else f j:=by
 apply List.ext_getElem?
 intro j
 by_cases hj:j<n
 ·rw[zaI _ hj,List.getElem?_set]
  by_cases e:i=j
  ·subst e;simp[za4,h]
  ·simp[e,zaI _ hj,Ne.symm e]
 ·rw[List.getElem?_eq_none (by simp[za4];lia),List.getElem?_eq_none (by simp[za4];lia)]
theorem znW (n:Nat)(f:Nat->D):zn1 (wL n f)=wL n fun i=> .tup [.int (i:Nat),f i]:=by
 apply List.ext_getElem?
 intro j
 unfold zn1
 by_cases hj:j<n
 ·rw[List.getElem?_zipWith,zaI _ hj,zaI _ hj]
  simp[za4,hj]
 ·rw[List.getElem?_eq_none (by simp[za4];lia),List.getElem?_eq_none (by simp[za4];lia)]
theorem zip2D_w (n:Nat)(f g:Nat->D):znP (wL n f) (wL n g)=wL n fun i=> .tup [f i,g i]:=by
 apply List.ext_getElem?
 intro j
 unfold znP
 by_cases hj:j<n
 ·rw[List.getElem?_zipWith,zaI _ hj,zaI _ hj,zaI _ hj]
 ·rw[List.getElem?_eq_none (by simp[za4];lia),List.getElem?_eq_none (by simp[za4];lia)]
theorem zh3 {α:Type}(xs:List α)(i:Nat):cutD xs none (some (i:Int))=xs.take i:=by
 unfold cutD
 rw[HT.zlB,HT.zlK,Nat.sub_zero,List.drop_zero]
 by_cases h:i<=xs.length
 ·rw[Nat.min_eq_left h]
 ·rw[Nat.min_eq_right (by lia),List.take_of_length_le (Nat.le_refl _),List.take_of_length_le (by lia)]
theorem zgI {α:Type}(xs:List α)(i:Nat):cutD xs (some (i:Int)) none=xs.drop i:=by
 unfold cutD
 rw[HT.zlB,HT.zlK]
 by_cases h:i<=xs.length
 ·rw[Nat.min_eq_left h,List.take_of_length_le (by simp)]
 ·rw[Nat.min_eq_right (by lia),List.drop_of_length_le (Nat.le_refl _),List.drop_of_length_le (by lia)];simp
theorem zcw:∀(l:List Int),zbz (l.map .int)=some l
 |[]=>rfl
 |i::l=>by simp[zbz,zcw l]
theorem zkk (bt:Nat->Nat->Bool):∀n,argBest bt n<=n
 |0=>Nat.le_refl 0
 |n+1=>by
  have:=zkk bt n
  unfold argBest
  split<;>lia
theorem zmT (lt:Int->Int->Bool)(h:ns≠[]):zks lt ns∈ns:=by
 unfold zks
 have hl:0<ns.length:=List.length_pos_iff.mpr h
 have:=zkk (fun i j=>lt (ns.getD i 0) (ns.getD j 0)) (ns.length-1)
 generalize argBest (fun i j=>lt (ns.getD i 0) (ns.getD j 0)) (ns.length-1)=k at*
 rw[List.getD_eq_getElem?_getD,List.getElem?_eq_getElem (by lia)]
 exact List.getElem_mem _
theorem zk9 (lt:Int->Int->Bool)(h:ns≠[]):zqK lt [.lst (ns.map .int)]=some (.int (zks lt ns)):=by
 have hne:ns.isEmpty=false:=by cases ns with|nil=>exact absurd rfl h|cons=>rfl
 simp only[zqK,zbj,Option.bind_some,zcw,hne]
 rfl
theorem rangeD_w (n:Nat):zhh 0 n=wL n fun i=> .int (i:Nat):=by unfold zhh wL;simp only[Int.zero_add]
section
variable {n:Nat} {e:Nat->D} {ρ:R}
theorem zeV {f:D->R->Option (Fl×R)}(I:Nat->R->Prop)(h0:I 0 ρ)
  (hs:∀i ρ,i<n->I i ρ->Ok (f (e i) ρ) (Turn (I (i+1)) Q)) (hq:∀ρ,I n ρ->Q (.next,ρ)):Ok (forM f (wL n e) ρ) Q:=
 ok_for (enc:=e) (l:=List.range n) I h0 (fun i a ρ hi h=>by
  obtain⟨h1,h2⟩:=List.getElem?_eq_some_iff.mp hi
  have:a=i:=by simpa using h2.symm
  subst this
  exact hs a ρ (by simpa using h1) h) (fun ρ h=>hq ρ (by simpa using h))
variable {f:D->R->Option (Option D×R)} {Q:List D×R->Prop}
theorem zkC (I:Nat->List D->R->Prop)(h0:I 0 [] ρ)
  (hs:∀i acc ρ,i<n->I i acc ρ->Ok (f (e i) ρ) fun p=>I (i+1) (acc++p.1.toList) p.2) (hq:∀ds ρ,I n ds ρ->Q (ds,ρ)):Ok (zeO f (wL n e) ρ) Q:=
 zop (enc:=e) (l:=List.range n) I h0 (fun i a acc ρ hi h=>by
  obtain⟨h1,h2⟩:=List.getElem?_eq_some_iff.mp hi
  have:a=i:=by simpa using h2.symm
  subst this
  exact hs a acc ρ (by simpa using h1) h) (fun ds ρ h=>hq ds ρ (by simpa using h))
theorem zmu (P:R->Prop)(g:Nat->Option D)(h0:P ρ)
  (hs:∀i ρ,i<n->P ρ->Ok (f (e i) ρ) fun p=>p.1=g i/\P p.2) (hq:∀ρ,P ρ->Q ((List.range n).filterMap g,ρ)):Ok (zeO f (wL n e) ρ) Q:=
 zlD (enc:=e) (l:=List.range n) P g h0 (fun a ρ ha hp=>hs a ρ (List.mem_range.mp ha) hp) hq
theorem za8 (P:R->Prop)(g:Nat->D)(h0:P ρ)
  (hs:∀i ρ,i<n->P ρ->Ok (f (e i) ρ) fun p=>p.1=some (g i)/\P p.2) (hq:∀ρ,P ρ->Q (wL n g,ρ)):Ok (zeO f (wL n e) ρ) Q:=
 ziG (enc:=e) (l:=List.range n) P g h0 (fun a ρ ha hp=>hs a ρ (List.mem_range.mp ha) hp) hq
end
end M
namespace M
theorem zkn (n:Nat)(f:Nat->Int)(x:Int):wI n f++[.int x]=wI (n+1) fun j=>if j<n then f j else x:=by
 rw[wI,wL_snoc];exact ze0 fun j _=>by dsimp only;split<;>rfl
theorem zq8 {j:Int}(h0:0<j)(h1:j<2^250):divOk j=true:=by
 have h:j.natAbs.log2<9000:=by
  have:j.natAbs.log2<250:=(Nat.log2_lt (by lia)).mpr (by lia)
  lia
 unfold divOk;rw[decide_eq_true h0,decide_eq_true h];rfl
theorem zpn {n i:Nat}(f:Nat->Int)(x:Int)(h:i<n):(wI n f).set i (.int x)=wI n fun j=>if j=i then x else f j:=by
 rw[wI,wL_set _ _ h];exact ze0 fun j _=>by dsimp only;split<;>rfl
theorem isN_non:isN .non=true:=rfl
theorem isN_int (i:Int):isN (.int i)=false:=rfl
theorem isN_bl (b:Bool):isN (.bl b)=false:=rfl
theorem isN_str (s:PySem.Str):isN (.str s)=false:=rfl
theorem isN_lst (ds:List D):isN (.lst ds)=false:=rfl
theorem isN_tup (ds:List D):isN (.tup ds)=false:=rfl
end M
namespace M
open L2 PySem
theorem dItems_l (ds:List D):zbj [.lst ds]=some ds:=rfl
theorem dItems_t (ds:List D):zbj [.tup ds]=some ds:=rfl
theorem dItems_s (ns:List Int):zbj [.scr ns]=some (ns.map .int):=rfl
theorem dLen_l (ds:List D):dLen [.lst ds]=some (.int ds.length):=rfl
theorem dLen_t (ds:List D):dLen [.tup ds]=some (.int ds.length):=rfl
theorem dLen_s (ns:List Int):dLen [.scr ns]=some (.int ns.length):=rfl
theorem dTuple_l (ds:List D):zcf [.lst ds]=some (.tup ds):=rfl
theorem dTuple_t (ds:List D):zcf [.tup ds]=some (.tup ds):=rfl
theorem dTuple_s (ns:List Int):zcf [.scr ns]=some (.tup (ns.map .int)):=rfl
theorem dCut_l (ds:List D)(a b:Option Int):dCut (.lst ds) a b=some (.lst (cutD ds a b)):=rfl
theorem dCut_t (ds:List D)(a b:Option Int):dCut (.tup ds) a b=some (.tup (cutD ds a b)):=rfl
theorem dCut_s (ns:List Int)(a b:Option Int):dCut (.scr ns) a b=some (.lst ((cutD ns a b).map .int)):=rfl
theorem dIx_l (ds:List D)(i:Int):dIx (.lst ds) (.int i)=atI ds i:=rfl
theorem dIx_t (ds:List D)(i:Int):dIx (.tup ds) (.int i)=atI ds i:=rfl
theorem dIx_s (ns:List Int)(i:Int):dIx (.scr ns) (.int i)=(atI ns i).map .int:=rfl
theorem dEq_str (a b:Str):dEq (.str a) (.str b)=some (.bl (a==b)):=by
 unfold dEq
 rw[show noS (.str a)=true from rfl,show noS (.str b)=true from rfl,show depth (.str a)=0 from rfl]
 rfl
theorem zip3D_w (n:Nat)(f g h:Nat->D):znN (wL n f) (wL n g) (wL n h)=wL n fun i=> .tup [f i,g i,h i]:=by
 apply List.ext_getElem?
 intro j
 unfold znN
 by_cases hj:j<n
 ·have e:(List.zip (wL n g) (wL n h))[j]? =some (g j,h j):=by
   rw[List.getElem?_zip_eq_some];exact⟨zaI g hj,zaI h hj⟩
  rw[List.getElem?_zipWith,e,zaI _ hj,zaI _ hj]
 ·rw[List.getElem?_eq_none (by simp[za4];lia),List.getElem?_eq_none (by simp[za4];lia)]
theorem zrg (n:Nat)(b:Nat->Bool):zc0 (wL n fun i=> .bl (b i))=some ((List.range n).map b):=by
 have:∀l:List Nat,zc0 (l.map fun i=>D.bl (b i))=some (l.map b):=by
  intro l
  induction l with
  |nil=>rfl
  |cons a l ih=>simp[zc0,ih]
 exact this _
theorem eqV_int (a b:Int):eqV (.int a) (.int b)=(b==a):=by
 show(a==b)=(b==a)
 by_cases h:a=b
 ·subst h;rfl
 ·rw[beq_eq_false_iff_ne.mpr h,beq_eq_false_iff_ne.mpr fun e=>h e.symm]
theorem zk5:∀(l:List Int),zpk (l.map D.int)=some (l.map V.int)
 |[]=>rfl
 |i::l=>by simp[zpk,flV,zk5 l]
theorem zcY {j n m i:Nat}(hm:0<m):i<cntS (j:Int) (n:Int) (m:Int)↔j+i*m<n:=by
 unfold cntS
 by_cases h:(j:Int)<(n:Int)
 ·rw[if_pos h]
  have e:((n:Int)-(j:Int)-1)/(m:Int)=(((n-j-1)/m:Nat):Int):=by
   rw[Int.natCast_ediv];congr 1;lia
  have e2:∀q:Nat,((q:Int)+1).toNat=q+1:=fun q=>by lia
  rw[e,e2,Nat.lt_succ_iff,Nat.le_div_iff_mul_le hm]
  lia
 ·rw[if_neg h]
  constructor
  ·intro h;lia
  ·intro h;lia
theorem zrc {α β:Type}{h:α->Option β}{g:α->β}:∀(l:List α),(∀a∈l,h a=some (g a))->l.filterMap h=l.map g
 |[],_=>rfl
 |a::l,e=>by rw[List.filterMap_cons,e a List.mem_cons_self,List.map_cons,zrc l fun b hb=>e b (List.mem_cons_of_mem _ hb)]
theorem zmG {n j m:Nat}(f:Nat->D)(hm:0<m)(hj:j<n):za0 (wL n f) (some (j:Int)) none (some (m:Int))=wL (cntS (j:Int) (n:Int) (m:Int)) fun i=>f (j+i*m):=by
 have hb:sliceBounds (some (j:Int)) none (some (m:Int)) n=((j:Int),(n:Int),(m:Int)):=by
  have:(m:Int)>0:=by lia
  simp[sliceBounds,this]
  lia
 unfold za0
 rw[za4,hb]
 unfold sliceRange
 have h1:(m:Int)>0:=by lia
 have h2:(j:Int)<(n:Int):=by lia
 simp only[h1,h2,if_true]
 have ec:(((n:Int)-(j:Int)+(m:Int)-1)/(m:Int)).toNat=cntS (j:Int) (n:Int) (m:Int):=by
  unfold cntS
  rw[if_pos h2,show((n:Int)-(j:Int)+(m:Int)-1)=((n:Int)-(j:Int)-1)+(m:Int) by lia,Int.add_ediv_of_dvd_right (Int.dvd_refl _),Int.ediv_self (by lia)]
 rw[ec]
 rw[List.filterMap_map]
 apply zrc
 intro i hi
 have hi:j+i*m<n:=(zcY hm).mp (List.mem_range.mp hi)
 have ht:((j:Int)+(m:Int)*(i:Int)).toNat=j+i*m:=by
  rw[show((j:Int)+(m:Int)*(i:Int))=((j+i*m:Nat):Int) by push_cast;rw[Int.mul_comm]];lia
 simp only[Function.comp_def,ht]
 exact zaI f hi
noncomputable def sumR:Nat->(Nat->Int)->Int
 |0,_=>0
 |n+1,f=>sumR n f+f n
theorem zgM {f g:Nat->Int}:∀{n:Nat},(∀i,i<n->f i=g i)->sumR n f=sumR n g
 |0,_=>rfl
 |n+1,h=>by rw[sumR,sumR,zgM fun i hi=>h i (by lia),h n (by lia)]
theorem znp {f g:Nat->Int}:∀{n:Nat},(∀i,i<n->f i<=g i)->sumR n f<=sumR n g
 |0,_=>Int.le_refl _
 |n+1,h=>by
  have h1:=znp (n:=n) fun i hi=>h i (by lia)
  have h2:=h n (by lia)
  simp only[sumR];lia
theorem zik (f:Nat->Int)(a:Nat):∀b,sumR (a+b) f=sumR a f+sumR b fun i=>f (a+i)
 |0=>by simp[sumR]
 |b+1=>by rw[show a+(b+1)=a+b+1 by lia,sumR,sumR,zik f a b];lia
theorem zcl (f:Nat->Int):∀n,((List.range n).map f).sum=sumR n f
 |0=>rfl
 |n+1=>by simp[List.range_succ,zcl f n,sumR]
theorem zc7 (n:Nat)(f:Nat->Int):zbz (wI n f)=some ((List.range n).map f):=by
 have:wI n f=((List.range n).map f).map .int:=by simp[wL,List.map_map,Function.comp_def]
 rw[this,zcw]
theorem cut_w {n a b:Nat}(f:Nat->D)(h:a+b<=n):cutD (wL n f) (some (a:Int)) (some ((a:Int)+(b:Int)))=wL b fun i=>f (a+i):=by
 have e:cutD (wL n f) (some (a:Int)) (some ((a:Int)+(b:Int)))=((wL n f).drop a).take b:=by
  unfold cutD
  rw[HT.zlB,show((a:Int)+(b:Int))=((a+b:Nat):Int) by lia,HT.zlB,za4]
  rw[Nat.min_eq_left h,Nat.min_eq_left (by lia:a<=n),Nat.add_sub_cancel_left]
 rw[e]
 apply List.ext_getElem?
 intro j
 by_cases hj:j<b
 ·rw[List.getElem?_take_of_lt hj,List.getElem?_drop,zaI _ (by lia),zaI _ hj]
 ·rw[List.getElem?_eq_none (by simp[za4];lia),List.getElem?_eq_none (by rw[za4];lia)]
theorem zfT (v:Nat->Int):∀n i,i<=n->v i<=v (argBest (fun i j=>decide (v i>v j)) n)
 |0,i,h=>by rw[show i=0 by lia];exact Int.le_refl _
 |n+1,i,h=>by
  simp only[argBest]
  by_cases c:v (n+1)>v (argBest (fun i j=>decide (v i>v j)) n)
  ·rw[if_pos (decide_eq_true c)]
   by_cases e:i=n+1
   ·rw[e];exact Int.le_refl _
   ·have:=zfT v n i (by lia);lia
  ·rw[if_neg (by simpa using c)]
   by_cases e:i=n+1
   ·rw[e];lia
   ·exact zfT v n i (by lia)
theorem zge (v:Nat->Int):∀n i,i<=n->v (argBest (fun i j=>decide (v i<v j)) n)<=v i
 |0,i,h=>by rw[show i=0 by lia];exact Int.le_refl _
 |n+1,i,h=>by
  simp only[argBest]
  by_cases c:v (n+1)<v (argBest (fun i j=>decide (v i<v j)) n)
  ·rw[if_pos (decide_eq_true c)]
   by_cases e:i=n+1
   ·rw[e];exact Int.le_refl _
   ·have:=zge v n i (by lia);lia
  ·rw[if_neg (by simpa using c)]
   by_cases e:i=n+1
   ·rw[e];lia
   ·exact zge v n i (by lia)
theorem zoH (g:Nat->Int){c i:Nat}(h:i<c):((List.range c).map g).getD i 0=g i:=by
 rw[List.getD_eq_getElem?_getD];simp[h]
theorem max_w (g:Nat->Int){c:Nat}(hc:0<c):∃v,zkM [.lst (wI c g)]=some (.int v)/\(∃i,i<c/\g i=v)/\∀i,i<c->g i<=v:=by
 have hne:(List.range c).map g≠[]:=fun h=>by have:=congrArg List.length h;simp at this;lia
 have e1:wI c g=((List.range c).map g).map .int:=by simp[wL,List.map_map,Function.comp_def]
 refine⟨_,by rw[e1];exact zk9 _ hne,?_,?_⟩
 ·obtain⟨i,hi,e⟩:=List.mem_map.mp (zmT (fun i j=>decide (i>j)) hne)
  exact⟨i,List.mem_range.mp hi,e⟩
 ·intro i hi
  have:=zfT (fun i=>((List.range c).map g).getD i 0) (c-1) i (by lia)
  rw[zoH g hi]at this
  unfold zks
  rw[List.length_map,List.length_range]
  exact this
theorem min_w (g:Nat->Int){c:Nat}(hc:0<c):∃v,zgS [.lst (wI c g)]=some (.int v)/\(∃i,i<c/\g i=v)/\∀i,i<c->v<=g i:=by
 have hne:(List.range c).map g≠[]:=fun h=>by have:=congrArg List.length h;simp at this;lia
 have e1:wI c g=((List.range c).map g).map .int:=by simp[wL,List.map_map,Function.comp_def]
 refine⟨_,by rw[e1];exact zk9 _ hne,?_,?_⟩
 ·obtain⟨i,hi,e⟩:=List.mem_map.mp (zmT (fun i j=>decide (i<j)) hne)
  exact⟨i,List.mem_range.mp hi,e⟩
 ·intro i hi
  have:=zge (fun i=>((List.range c).map g).getD i 0) (c-1) i (by lia)
  rw[zoH g hi]at this
  unfold zks
  rw[List.length_map,List.length_range]
  exact this
theorem max_pick (f:Nat->Int){n m j:Nat}(hm:0<m)(hj:j<m)(hn:m<=n):∃v,zkM [.lst (za0 (wI n f) (some (j:Int)) none (some (m:Int)))]=some (.int v)/\(∃p,p<n/\p%m=j/\f p=v)/\∀p,p<n->p%m=j->f p<=v:=by
 rw[wI,zmG _ hm (by lia)]
 obtain⟨v,e,⟨i,hi,ei⟩,h⟩:=max_w (fun i=>f (j+i*m)) (c:=cntS (j:Int) (n:Int) (m:Int)) ((zcY hm).mpr (by lia))
 refine⟨v,e,⟨j+i*m,(zcY hm).mp hi,by rw[Nat.add_mul_mod_self_right,Nat.mod_eq_of_lt hj],ei⟩,fun p hp hpm=>?_⟩
 have e2:j+p/m*m=p:=by have:=Nat.mod_add_div p m;rw[Nat.mul_comm];lia
 have:=h (p/m) ((zcY hm).mpr (by lia))
 rw[e2]at this
 exact this
theorem zoc (f:Nat->Int){n m j:Nat}(hm:0<m)(hj:j<m)(hn:m<=n):∃v,zgS [.lst (za0 (wI n f) (some (j:Int)) none (some (m:Int)))]=some (.int v)/\(∃p,p<n/\p%m=j/\f p=v)/\∀p,p<n->p%m=j->v<=f p:=by
 rw[wI,zmG _ hm (by lia)]
 obtain⟨v,e,⟨i,hi,ei⟩,h⟩:=min_w (fun i=>f (j+i*m)) (c:=cntS (j:Int) (n:Int) (m:Int)) ((zcY hm).mpr (by lia))
 refine⟨v,e,⟨j+i*m,(zcY hm).mp hi,by rw[Nat.add_mul_mod_self_right,Nat.mod_eq_of_lt hj],ei⟩,fun p hp hpm=>?_⟩
 have e2:j+p/m*m=p:=by have:=Nat.mod_add_div p m;rw[Nat.mul_comm];lia
 have:=h (p/m) ((zcY hm).mpr (by lia))
 rw[e2]at this
 exact this
theorem zle (f:Nat->Int){n m j:Nat}(hm:0<m)(hj:j<m){v:Int}(h:∃p,p<n/\p%m=j/\f p=v):∃i:Nat,zku (.lst (za0 (wI n f) (some (j:Int)) none (some (m:Int)))) (.int v)=some (.int i)/\j+i*m<n/\f (j+i*m)=v:=by
 obtain⟨p,hp,hpm,hv⟩:=h
 have hjn:j<n:=by have:=Nat.mod_le p m;lia
 rw[wI,zmG _ hm hjn]
 have e2:j+p/m*m=p:=by have:=Nat.mod_add_div p m;rw[Nat.mul_comm];lia
 have hc:p/m<cntS (j:Int) (n:Int) (m:Int):=(zcY hm).mpr (by lia)
 have mem:v∈(List.range (cntS (j:Int) (n:Int) (m:Int))).map fun i=>f (j+i*m):=List.mem_map.mpr ⟨p/m,List.mem_range.mpr hc,by rw[e2];exact hv⟩
 have e3:zbz (wL (cntS (j:Int) (n:Int) (m:Int)) fun i=>D.int (f (j+i*m)))=some ((List.range (cntS (j:Int) (n:Int) (m:Int))).map fun i=>f (j+i*m)):=zc7 _ fun i=>f (j+i*m)
 have hl:=List.idxOf_lt_length_iff.mpr mem
 have hg:=List.getElem_idxOf hl
 refine⟨List.idxOf v ((List.range (cntS (j:Int) (n:Int) (m:Int))).map fun i=>f (j+i*m)),by simp only[zku,e3,Option.bind_some,mem,if_true],?_,?_⟩
 ·exact(zcY hm).mp (by simpa using hl)
 ·rw[List.getElem_map,List.getElem_range]at hg
  exact hg
end M
namespace M
open L2 PySem
open PyProof.Rows (step_dedup firstMet)
variable {ρ:R} {Q:Fl×R->Prop} {m:MS} {x a b:MX} {i j:Nat} {c:MT} {r:Option Str} {F:List D->Option Str}
theorem ok_eIsO {tab:List (Str×Bool)}{ma:ME}{Q:D×R->Prop}:OkQ Q (eIsO tab ma ρ)=OkQ Q ((ma ρ).bind fun p=>match p.1 with
 | .exc c=>(tab.lookup c).map fun b=>(.bl b,p.2)
 |_=>none):=rfl
theorem zlP {ok:List Str}(hx:x ρ=none)(h:Ok (m ρ) Q):Ok (sTry m x ok i j ρ) Q:=by
 unfold sTry;rw[hx];exact h
theorem zeJ {ok:List Str}{c:Str}(hx:x ρ=some c)(hn:zdb ρ=true)(hc:ok.contains c=true)(h:Q (.next,(ρ.set i (.val (.exc c))).set j .emp)):Ok (sTry m x ok i j ρ) Q:=by
 unfold sTry;rw[hx];dsimp only;rw[if_pos hn,if_pos hc];exact ok_some.mpr h
theorem znv {r:Str}(h:Ok (c ρ) fun p=>p.1=true/\a p.2=some r):xIf c a ρ=some r:=by
 obtain⟨p,e,h1,h2⟩:=h
 unfold xIf;rw[e];show(if p.1=true then a p.2 else none)=_;rw[if_pos h1,h2]
theorem zqc (h:Ok (c ρ) fun p=>p.1=false):xIf c a ρ=none:=by
 obtain⟨p,e,h1⟩:=h
 unfold xIf;rw[e];show(if p.1=true then a p.2 else none)=_;rw[h1];rfl
theorem ze9 {ma:MA}(h:Ok (ma ρ) fun p=>F p.1=r):zkF F ma ρ=r:=by
 obtain⟨p,e,h1⟩:=h
 unfold zkF;rw[e];exact h1
theorem znf (h:Ok (m ρ) fun p=>p.1= .next/\x p.2=r):xSeq m x ρ=r:=by
 obtain⟨⟨f,ρ1⟩,e,h1,h2⟩:=h
 cases h1
 unfold xSeq;rw[e];exact h2
theorem zqF {r:Str}(h:a ρ=some r):xOr a b ρ=some r:=by unfold xOr;rw[h]
theorem xOr_no (h:a ρ=none):xOr a b ρ=b ρ:=by unfold xOr;rw[h]
end M
namespace M
open L2 PySem
theorem notInL (j:Int)(ns:List Int):zpU (.int j) (.lst (ns.map .int))=some (.bl (!(ns.contains j))):=by
 have e:inV (.int j) (ns.map V.int)=ns.contains j:=by
  unfold inV
  induction ns with
  |nil=>rfl
  |cons a l ih=>rw[List.map_cons,List.any_cons,ih,eqV_int,List.contains_cons]
 show((zpk (ns.map D.int)).map fun xs=>D.bl (!inV (.int j) xs))=_
 rw[zk5]
 show some (D.bl (!inV (.int j) (ns.map V.int)))=_
 rw[e]
theorem like_par (ns:List Int):likeS (.par (ns.map .int)) (.par (ns.map .int))=true:=by
 show(match zbz (ns.map D.int),zbz (ns.map D.int)with
  |some a,some b=>a==b
  |_,_=>false)=true
 rw[zcw];exact beq_self_eq_true ns
section
variable {j:Nat} {mk me:ME} {ρ:R}
theorem ok_tDI {neg:Bool}{Q:Bool×R->Prop}:OkQ Q (tDI j neg mk ρ)=(OkQ (fun p=>OkQ Q (match p.1 with
 | .int k=>(p.2[j]?.bind Sl.dic).map fun q=>(((lkD q.1 q.2 k).isSome !=neg),p.2)
 |_=>none)) (mk ρ)):=ok_bind
theorem ok_sUnT {is:List Nat}{Q:Fl×R->Prop}:OkQ Q (sUnT j is ρ)=OkQ Q (match ρ[j]? with
 |some (.tre (.lst cs))=>if cs.length=is.length then some (.next,putCs is cs (ρ.set j .emp))else none
 |_=>none):=rfl
theorem ok_cOwn {r:MP'}{Q:List Ch×R->Prop}:OkQ Q (cOwn j r ρ)=OkQ Q (match ρ[j]? with
 |some (.own ds)=>(r (ρ.set j .emp)).map fun q=>(.l ds::q.1,q.2)
 |_=>none):=rfl
theorem ok_fMT {N:Nat}{m:MS}{cs:List D}{t:T}{ds:List D}{Q:Sl×List D->Prop}:OkQ Q (fMT N m cs t ds)=OkQ Q ((m (.par cs:: .tre t::zmI (N-2) ds)).bind fun p=>match p.1,(p.2[0]?:Option Sl)with
 |Fl.ret r,some (Sl.par out)=>some (r,out)
 |Fl.next,some (Sl.par out)=>some (.val .non,out)
 |_,_=>none):=by rw[<-zjC,Nat.sub_sub,Nat.add_comm 2];rfl
theorem ok_iDKT {Q:List D×R->Prop}:OkQ Q (iDKT j ρ)=OkQ Q (match ρ[j]? with
 |some (.val (.dit ks ds))=>some (ks.map fun k=> .tup (k.map .int),ρ)
 |_=>none):=rfl
theorem zqG {F:List D->Option Sl}{ma:MA}{Q:D×R->Prop}:OkQ Q (zpQ F ma ρ)=OkQ Q ((ma ρ).bind fun p=>(F p.1).bind fun r=>match r with
 | .tre (.tup cs)=>some (.tup (cs.map Ch.D),p.2)
 |_=>none):=rfl
theorem ok_turnT {g:D->R->Option R}{mt:MT}{mo:MO}{d:D}{Q:Option (List D)×R->Prop}:OkQ Q (turnT g mt mo d ρ)=(OkQ (fun ρ1=>OkQ (fun p=>(p.1=true->OkQ (fun q=>zdb q.2=true/\Q (some q.1,q.2)) (mo p.2))/\(p.1=false->zdb p.2=true/\Q (none,p.2))) (mt ρ1)) (g d ρ)):=by
 unfold turnT;rw[ok_bind];exact zaR fun ρ1=>by rw[ok_bind];exact zaR fun p=>by rw[zmz,ok_bind,zgx,ok_some];congr 1;exact propext (imp_congr Iff.rfl (iff_of_eq (zaR fun q=>by rw[zgx,ok_some])))
theorem zqt {ma:ME}{mo:MO}{Q:Fl×R->Prop}:OkQ Q (zqN ma mo ρ)=OkQ Q ((ma ρ).bind fun p=>(mo p.2).bind fun r=>some (.ret (.tre (.tup [.d p.1,.l r.1])),r.2)):=rfl
theorem ok_turnQ {b c:Nat}{g:D->R->Option R}{mt:MT}{me:ME}{d:D}{Q:Option D×R->Prop}:OkQ Q (turnQ b c g mt me d ρ)=(OkQ (fun ρ1=>OkQ (fun p=>(p.1=true->OkQ (fun q=>zpD b c q.2=true/\Q (some q.1,q.2)) (me p.2))/\(p.1=false->zpD b c p.2=true/\Q (none,p.2))) (mt ρ1)) (g d ρ)):=by
 unfold turnQ;rw[ok_bind];exact zaR fun ρ1=>by rw[ok_bind];exact zaR fun p=>by rw[zmz,ok_bind,zgx,ok_some];congr 1;exact propext (imp_congr Iff.rfl (iff_of_eq (zaR fun q=>by rw[zgx,ok_some])))
theorem ok_sCut {i:Nat}{me ml mh:ME}{Q:Fl×R->Prop}:OkQ Q (sCut i me ml mh ρ)=OkQ Q ((me ρ).bind fun p=>gd ((p.2[i]?.bind Sl.items).isSome) ((ml p.2).bind fun q=>(mh q.2).bind fun r=>r.2[i]?.bind fun s=>s.items.bind fun ds=>match p.1,q.1,r.1 with
 | .lst es,.int m,.int n=>if decide (0<=m)&&decide (m<=n)&&decide (n<=ds.length)&&decide (ds.length+es.length<=16777216)then some (.next,r.2.set i (s.put (ds.take m.toNat++es++ds.drop n.toNat)))else none
 |_,_,_=>none)):=rfl
theorem zpr {f g h:D->D->Option D}{a b c d:ME}{Q:D×R->Prop}:OkQ Q (zqP f g h a b c d ρ)=(OkQ (fun p=>OkQ (fun q=>OkQ (fun t=>∃z,t= .bl z/\(z=true->OkQ (fun r=>OkQ (fun t'=>∃z',t'= .bl z'/\(z'=true->OkQ (fun s=>OkQ (fun x=>Q (x,s.2)) (h r.1 s.1)) (d r.2))/\(z'=false->Q (.bl false,r.2))) (g q.1 r.1)) (c q.2))/\(z=false->Q (.bl false,q.2))) (f p.1 q.1)) (b p.2)) (a ρ)):=by
 unfold zqP
 rw[ok_bind]
 refine zaR fun p=>?_
 rw[ok_bind]
 refine zaR fun q=>?_
 rw[ok_bind]
 refine zaR fun t=>?_
 cases t with
 |bl z=>
  cases z
  ·simp[ok_some]
  ·simp only[D.bl.injEq,exists_eq_left',forall_const,Bool.true_eq_false,false_implies,and_true]
   rw[ok_bind]
   refine zaR fun r=>?_
   rw[ok_bind]
   refine zaR fun t'=>?_
   cases t' with
   |bl z=>
    cases z
    ·simp[ok_some]
    ·simp only[D.bl.injEq,exists_eq_left',forall_const,Bool.true_eq_false,false_implies,and_true]
     rw[ok_bind]
     exact zaR fun s=>ok_map
   |_=>simp[ok_none]
 |_=>simp[ok_none]
theorem ok_oMv {Q:List D×R->Prop}:OkQ Q (oMv j ρ)=OkQ Q (match ρ[j]? with
 |some (.own ds)=>some (ds,ρ.set j .emp)
 |_=>none):=rfl
end
section
theorem zra {ma:ME}{ml mh ms:MP}{ρ:R}{Q:D×R->Prop}:OkQ Q (zps ma ml mh ms ρ)=OkQ Q ((ma ρ).bind fun p=>(ml p.2).bind fun q=>(mh q.2).bind fun r=>(ms r.2).bind fun t=>(zos p.1 q.1 r.1 t.1).map fun d=>(d,t.2)):=rfl
theorem ok_oSrtK {ρ:R}{j:Nat}{me:ME}{Q:List D×R->Prop}:OkQ Q (oSrtK j me ρ)=OkQ Q ((me ρ).bind fun p=>match p.1,p.2[j]? with
 | .lst ds,some (.val c)=>if ds.length<64 then(zi9 c ds).map fun kz=>(zqi kz ds,p.2)else none
 |_,_=>none):=rfl
end
end M
local macro_rules | `(tactic| simp! only [$ls,*]) => do
  let f (d : Bool) (n : String) : Lean.MacroM (Lean.TSyntax `Lean.Parser.Tactic.simpLemma) := let i := Lean.mkIdent n.toName; if d then `(Lean.Parser.Tactic.simpLemma| ↓$i:term) else `(Lean.Parser.Tactic.simpLemma| $i:term)
  let a ← ("M.ok_Q M.ok_sIf M.ok_eIf M.ok_tAnd M.ok_tOr M.ok_eAnd M.ok_eOr M.ok_chain M.zpr M.ok_turnM M.ok_turnP M.ok_turnQ M.ok_bind M.ok_map M.ok_gd M.zgx M.ok_some M.ok_sNext M.ok_sSeq M.ok_sExpr M.ok_sRet M.ok_sRetO M.ok_sRetV M.ok_gN M.ok_gsNil M.zri M.ok_gT M.ok_sAsg M.ok_sSet M.ok_sSetO M.ok_sApp M.ok_sPut M.ok_eC M.zjT M.ok_aNil M.ok_aCons M.ok_m1 M.ok_mC M.ok_eLenV M.ok_oC M.ok_eTup M.ok_oLst M.ok_tTru M.ok_tNotM M.ok_eCall M.ok_oCall M.zqo M.ok_eFz M.ok_eCut M.ok_pNo M.ok_pSome M.ok_iSeq M.ok_iR1 M.ok_sFor M.ok_oLC M.ok_tTrue M.ok_fP M.ok_fM M.ok_sAugI M.ok_eCutS M.ok_iR3 M.ok_oRep M.ok_iZ2 M.ok_iZ3 M.ok_iEn M.ok_oLCM M.ok_eIsO M.ok_fMT M.zqG M.ok_turnT M.zqt M.ok_oSrtK M.zra M.ok_oMv M.ok_eIxC M.ok_eIxE M.ok_m2VV M.ok_m2VC M.ok_m2CV".splitOn " ").toArray.mapM (f true)
  let b ← ("M.ok_m2 M.ok_eIxV M.dI2 M.dSub M.dDiv M.dMod M.dPow M.dLt M.dLe M.dGt M.dNeg M.dMul M.dAdd M.dTru M.Sl.read M.Sl.items M.Sl.put M.hasV M.zdb M.fz1 M.fzL M.capS M.capR M.eIsI.noS1 M.okT M.isI M.d2I M.dInt M.dSum M.dAll M.zkM M.zgS M.dIsN M.zlS M.znR M.zq2 M.znO M.fzD M.putCs M.Ch.sl M.Sl.dic M.Sl.dit M.Sl.tree M.Sl.putT M.Sl.dit M.fzT M.Ch.D M.fzDT M.fzU M.rowsOf M.zpD M.zqL M.seqK_ret M.seqK_brk M.zqD M.zq6 M.zpE M.turn_brk M.turn_ret List.getElem?_cons_zero List.getElem?_cons_succ List.set_cons_zero List.set_cons_succ Option.bind_some Option.isSome_some Option.map_some if_true M.zrm M.map_nilR M.zk7 M.zpZ M.ixR_val M.ixR_own M.ixR_par M.zka M.eVQ_own M.Vb_val M.Vb_own M.Vb_own2 M.Va_val M.Va_own List.replicate_succ List.replicate_zero List.length_cons List.length_nil List.cons_append List.nil_append List.all_cons List.all_nil Bool.and_true Bool.true_and Bool.and_self Bool.true_eq_false Bool.false_eq_true if_false M.dEq_int M.dNe_int List.length_map List.length_append M.atI_n M.atI_lit M.ixN_n M.ixN_lit M.atI_n1 M.ok_none M.dItems_l M.dItems_t M.dItems_s M.dLen_l M.dLen_t M.dLen_s M.dTuple_l M.dTuple_t M.dTuple_s M.dCut_l M.dCut_t M.dCut_s M.dIx_l M.dIx_t M.dIx_s M.dEq_str M.zip3D_w M.isN_non M.isN_int M.isN_bl M.isN_str M.isN_lst M.isN_tup beq_self_eq_true Bool.not_true Bool.not_false M.zcw Int.toNat_natCast M.rangeD_w M.za4 decide_eq_true_eq Bool.and_eq_true true_and and_true Nat.reduceAdd Nat.reduceLeDiff Int.reduceLT Int.reduceLE Int.reduceNeg Nat.reduceSub Int.reducePow Int.reduceMul Int.reduceAdd Int.reduceSub Int.reduceMod Int.reduceDiv Nat.reduceLT Nat.reduceBNe Nat.reduceEqDiff List.filter_cons List.filter_nil bne_self_eq_false Int.reduceToNat Nat.reducePow M.zo7 Int.reduceEq Int.reduceBEq Int.reduceBNe Nat.reduceMod decide_true decide_false beq_iff_eq beq_eq_false_iff_ne bne_iff_ne bne_eq_false_iff_eq decide_eq_false_iff_not Int.not_le Int.not_lt ne_eq forall_const true_implies false_implies reduceCtorEq imp_self implies_true M.D.bl.injEq exists_eq_left' Bool.not_true Bool.not_false".splitOn " ").toArray.mapM (f false)
  `(tactic| simp only [$a,*, $b,*, $ls,*])
namespace Prf
open L2 M PySem
noncomputable def top (i:Nat):Stmt:=PySem.Challenge.pw_tellsum_k27_settling_refused.main.body.getD i (.Pass ⟨0,0,0,0⟩)
noncomputable def zen:List (Str×Bool):=[("NoFit",false),("NoPlace",false),("Unlike",false)]
noncomputable def zjP:List (Str×Bool):=[("NoFit",true),("NoPlace",false),("Unlike",false)]
noncomputable def zgz:List (Str×Bool):=[("NoFit",false),("NoPlace",false),("Unlike",false)]
noncomputable def ziI:List (Str×Bool):=[("NoFit",false),("NoPlace",false),("Unlike",false)]
noncomputable def zhy:List (Str×Bool):=[("NoFit",false),("NoPlace",true),("Unlike",false)]
noncomputable def zjQ:List (Str×Bool):=[("NoFit",false),("NoPlace",false),("Unlike",false)]
noncomputable def zis:List (Str×Bool):=[("NoFit",false),("NoPlace",false),("Unlike",false)]
noncomputable def zhr:List (Str×Bool):=[("NoFit",false),("NoPlace",false),("Unlike",false)]
noncomputable def zgl:List (Str×Bool):=[("NoFit",true),("NoPlace",true),("Unlike",true)]
noncomputable def zig:List (Str×Bool):=[("NoFit",false),("NoPlace",false),("Unlike",true)]
noncomputable def zef:List (Str×Bool):=[("NoFit",true),("NoPlace",true),("Unlike",true)]
structure BN (K:W.Frag) (mg:Str->Option Value):Prop where
 r_NoFit:RaiOk K mg "NoFit"
 r_NoPlace:RaiOk K mg "NoPlace"
 r_Unlike:RaiOk K mg "Unlike"
 t_SumError:CatOk K mg "SumError" ["NoFit","NoPlace","Unlike"]
 i_BadTelling:IsOk K mg "BadTelling" zen
 i_NoFit:IsOk K mg "NoFit" zjP
 i_NoNumber:IsOk K mg "NoNumber" zgz
 i_NoPast:IsOk K mg "NoPast" ziI
 i_NoPlace:IsOk K mg "NoPlace" zhy
 i_NoRow:IsOk K mg "NoRow" zjQ
 i_NoText:IsOk K mg "NoText" zis
 i_NotTwos:IsOk K mg "NotTwos" zhr
 i_SumError:IsOk K mg "SumError" zgl
 i_Unlike:IsOk K mg "Unlike" zig
 i_ValueError:zqI K (.type "ValueError") zef
 ValueError':mg "ValueError"=none
 all':mg "all"=none
 enumerate':mg "enumerate"=none
 int':mg "int"=none
 isinstance':mg "isinstance"=none
 len':mg "len"=none
 max':mg "max"=none
 min':mg "min"=none
 range':mg "range"=none
 sorted':mg "sorted"=none
 sum':mg "sum"=none
 tuple':mg "tuple"=none
 zip':mg "zip"=none
section
variable {P:Program} {w:World} {K:W.Frag} {mg:Str->Option Value} {base hp:Heap} {f:Addr} {fd:FuncData} (X:K.In hp) (G:hp.Ns mainGlobals mg) (bn:BN K mg)
include X G bn
abbrev zic:Stmt:=top 12
def zgm:ME:=
 (m2 dSub (eVar 0) (eVar 1))
def zfU:MO:=
 oLC [] 2 (iZ2 (zad (eVar 0) (zad (eVar 1) aNil))) (gT 2 (zaE (gN 0) (zaE (gN 1) zdH))) zbf zgm
def zfR:MS:=
 (zje zfU)
def zbL:List D->Option Sl:=fP 2 zfR
theorem zlC (h:FnAt K "less_mores" zic):FD P w K mg base 1 "less_mores" (spP K 2 zbL):=
 fdP (N:=["bounds","mores"]) (k:=0) (m:=zfR) X G h fun _ _ _ _ _ _ _ hr nd=>(zaj (zeh (zbU [] 2 ["bound","more"] rfl (it_zip2N bn.zip' (zaa (zab 0) (zaa (zab 1) zae))) (fun C s H fp=>(zca rfl (zao (zal 0 ndk) (zao (zal 1 ndk) zbn)))) (fun C s H fp=>zaz) (fun C s H fp=>(zb9 (zab 0) (zab 1))))))
abbrev zh7:Stmt:=top 13
def zga:ME:=
 (eTup (zad (mC zkM (zad (zqA (eVar 0) (zcP (eVar 3)) pNo (zcP (eVar 1))) aNil)) (zad (mC zgS (zad (zqA (eVar 2) (zcP (eVar 3)) pNo (zcP (eVar 1))) aNil)) aNil)))
def zfY:MO:=
 oLC [0,2,1] 1 (iR1 (zad (eVar 2) aNil)) (gN 3) zbf zga
def zgo:MS:=
 (zje zfY)
def zbI:List D->Option Sl:=fP 3 zgo
theorem zl3 (h:FnAt K "head_spans" zh7):FD P w K mg base 1 "head_spans" (spP K 3 zbI):=
 fdP (N:=["lows","highs","many"]) (k:=0) (m:=zgo) X G h fun _ _ _ _ _ _ _ hr nd=>(zaj (zeh (zbU [0,2,1] 1 ["lows","many","highs","j"] rfl (zaZ bn.range' (zaa (zab 2) zae)) (fun C s H fp=>(zal 3 ndk)) (fun C s H fp=>zaz) (fun C s H fp=>(zbS (zaa (zrp rfl bn.max' (zaa (znU (zab 0) (za1 (zab 3)) zgQ (za1 (zab 1))) zae)) (zaa (zme rfl bn.min' (zaa (znU (zab 2) (za1 (zab 3)) zgQ (za1 (zab 1))) zae)) zae)))))))
abbrev zfK:Stmt:=top 14
def zeK:ME:=
 (m2 dAdd (eIxV 0 (m2 dMod (eVar 2) (eVar 1))) (eVar 3))
def zez:MO:=
 oLC [0,2] 2 (iEn (zad (eVar 1) aNil)) (gT 2 (zaE (gN 2) (zaE (gN 3) zdH))) zbf zeK
def zd9:MS:=
 (sSeq (sSet 2 (zcq 0))
  (sRet (mC zcf (zad (eFz zez) aNil))))
def zbZ:List D->Option Sl:=fP 3 zd9
theorem zkp (h:FnAt K "row_by_heads" zfK):FD P w K mg base 1 "row_by_heads" (spP K 2 zbZ):=
 fdP (N:=["heads","mores","many"]) (k:=0) (m:=zd9) X G h fun _ _ _ _ _ _ _ hr nd=>(zaf (zay 2 (za2 0 bn.len') nd)
  (zaj (zaD (zb1 bn.tuple' (zaa (SO.se (zbU [0,2] 2 ["heads","many","place","more"] rfl (ze7 bn.enumerate' (zaa (zab 1) zae)) (fun C s H fp=>(zca rfl (zao (zal 2 ndk) (zao (zal 3 ndk) zbn)))) (fun C s H fp=>zaz) (fun C s H fp=>(zaP (zak 0 (zdS (zab 2) (zab 1))) (zab 3))))) zae)))))
abbrev zfd:Stmt:=top 15
def zd3:ME:=
 (m2 dAdd (eVar 3) (m2 dMul (eVar 0) (m2 zku (zqA (eVar 1) (zcP (eVar 3)) pNo (zcP (eVar 0))) (eIxV 2 (eVar 3)))))
def zd0:MO:=
 oLC [2,0,1] 1 (iR1 (zad (eVar 2) aNil)) (gN 3) zbf zd3
def zdd:MS:=
 (sSeq (sSet 2 (zcq 1))
  (sRet (mC zcf (zad (eFz zd0) aNil))))
def zbm:List D->Option Sl:=fP 3 zdd
theorem zjs (h:FnAt K "places_asking" zfd):FD P w K mg base 1 "places_asking" (spP K 2 zbm):=
 fdP (N:=["asks","ends","many"]) (k:=0) (m:=zdd) X G h fun _ _ _ _ _ _ _ hr nd=>(zaf (zay 2 (za2 1 bn.len') nd)
  (zaj (zaD (zb1 bn.tuple' (zaa (SO.se (zbU [2,0,1] 1 ["many","asks","ends","j"] rfl (zaZ bn.range' (zaa (zab 2) zae)) (fun C s H fp=>(zal 3 ndk)) (fun C s H fp=>zaz) (fun C s H fp=>(zaP (zab 3) (zey (zab 0) (se_index (znU (zab 1) (za1 (zab 3)) zgQ (za1 (zab 0))) (zak 2 (zab 3)))))))) zae)))))
abbrev zgV:Stmt:=top 16
def zfe:ME:=
 (eVar 0)
def zfs:MO:=
 oLC [] 2 (iSeq (eVar 4)) (gT 2 (zaE (gN 0) (zaE (gN 1) zdH))) zbf zfe
def zfp:ME:=
 (eVar 1)
def zfC:MO:=
 oLC [] 2 (iSeq (eVar 4)) (gT 2 (zaE (gN 0) (zaE (gN 1) zdH))) zbf zfp
def zfm:MS:=
 (sIf (tTru (m2 dGt (eIxV 5 (eVar 9)) (eIxV 6 (eVar 9))))
  (sRet (eTup (zad (eC (.str "clash")) (zad (eIxV 7 (eVar 9)) (zad (eIxV 8 (eVar 9)) aNil)))))
  zbA)
def zft:MS:=
 sFor (iR1 (zad (eVar 2) aNil)) (gN 9) zfm
def zfk:MS:=
 (sRet (eC .non))
def zfn:MS:=
 (sSeq (sIf (tTru (m2 dLt (mC dSum (zad (eVar 6) aNil)) (eVar 3)))
  (sRet (eTup (zad (eC (.str "high")) (zad (eVar 8) aNil))))
  zbA)
  zfk)
def zeL:MS:=
 (sSeq (sSet 4 (zaN zbI (zad (eVar 0) (zad (eVar 1) (zad (eVar 2) aNil)))))
  (sSeq (sSet 5 (eFz zfs))
  (sSeq (sSet 6 (eFz zfC))
  (sSeq (sSet 7 (zaN zbm (zad (eVar 0) (zad (eVar 5) aNil))))
  (sSeq (sSet 8 (zaN zbm (zad (eVar 1) (zad (eVar 6) aNil))))
  (sSeq zft
  (sSeq (sIf (tTru (m2 dGt (mC dSum (zad (eVar 5) aNil)) (eVar 3)))
  (sRet (eTup (zad (eC (.str "low")) (zad (eVar 7) aNil))))
  zbA)
  zfn)))))))
def zcg:List D->Option Sl:=fP 10 zeL
theorem zkO (zbN:FD P w K mg base 1 "head_spans" (spP K 3 zbI))(zb2:FD P w K mg base 1 "places_asking" (spP K 2 zbm))(h:FnAt K "heads_paper" zgV):FD P w K mg base 2 "heads_paper" (spP K 4 zcg):=
 fdP (N:=["lows","highs","many","total","spans","low_ends","high_ends","low_places","high_places","j"]) (k:=1) (m:=zeL) X G h fun _ _ _ _ _ _ _ hr nd=>(zaf (zay 4 (zan zbN hr (zaa (zab 0) (zaa (zab 1) (zaa (zab 2) zae))) (hlen:=(zac (zac (zac zai))))) nd)
  (zaf (zeI 5 [] 2 ["low", "high"] rfl (zbc (zab 4)) (fun C s H fp => (zca rfl (zao (zal 0 ndk) (zao (zal 1 ndk) zbn)))) (fun C s H fp => zaz) (fun C s H fp => (zab 0)) nd)
  (zaf (zeI 6 [] 2 ["low", "high"] rfl (zbc (zab 4)) (fun C s H fp => (zca rfl (zao (zal 0 ndk) (zao (zal 1 ndk) zbn)))) (fun C s H fp => zaz) (fun C s H fp => (zab 1)) nd)
  (zaf (zay 7 (zan zb2 hr (zaa (zab 0) (zaa (zab 5) zae)) (hlen := (zac (zac zai)))) nd)
  (zaf (zay 8 (zan zb2 hr (zaa (zab 1) (zaa (zab 6) zae)) (hlen := (zac (zac zai)))) nd)
  (zaf (zg3 PassesOwn.never rfl (zaZ bn.range' (zaa (zab 2) zae)) (zal 9 nd)
  (zaj (zbx (st_gt (zak 5 (zab 9)) (zak 6 (zab 9)))
  (zaj (zaD (zbS (zaa zp7 (zaa (zak 7 (zab 9)) (zaa (zak 8 (zab 9)) zae))))))
  zaJ)))
  (zaf (zbx (st_gt (zgT rfl bn.sum' (zaa (zab 5) zae)) (zab 3))
  (zaj (zaD (zbS (zaa zp7 (zaa (zab 7) zae)))))
  zaJ)
  (zaf (zbx (st_lt (zgT rfl bn.sum' (zaa (zab 6) zae)) (zab 3))
  (zaj (zaD (zbS (zaa zp7 (zaa (zab 8) zae)))))
  zaJ)
  (zaj (zaD zkw))))))))))
abbrev zfx:Stmt:=top 17
def zdL:ME:=
 (m2 dAdd (eVar 3) (eIxV 0 (m2 dMod (eVar 2) (eVar 1))))
def zdR:MO:=
 oLCM [4,1] 2 0 4 (iEn (zad (eVar 0) aNil)) (gT 2 (zaE (gN 2) (zaE (gN 3) zdH))) zbf zdL
def zdn:MS:=
 (sSeq (zgR 4 (oRep (eFz (oLst (zad (eC (.int 0)) aNil))) (eVar 1)))
  (sSeq (sPut 4 (eVar 2) (m1 dNeg (eC (.int 1))))
  (sSeq (sPut 4 (eVar 3) (eC (.int 1)))
  (sRet (mC zcf (zad (eFz zdR) aNil))))))
def zbB:List D->Option Sl:=fP 5 zdn
theorem zjv (h:FnAt K "exchanged_row" zfx):FD P w K mg base 1 "exchanged_row" (spP K 4 zbB):=
 fdP (N:=["row","many","giver","taker","shifts"]) (k:=0) (m:=zdn) X G h fun _ _ _ _ _ _ _ hr nd=>(zaf (zcV 4 (so_rep (SO.se (zbT (zaa zag zae))) (zab 1)) nd)
  (zaf (zlb 4 (zhg zag) (zab 2))
  (zaf (zlb 4 zag (zab 3))
  (zaj (zaD (zb1 bn.tuple' (zaa (SO.se (so_lcM [4,1] 2 0 4 ["shifts","many","place","number"] rfl (ze7 bn.enumerate' (zaa (zab 0) zae)) (fun C s H fp=>(zca rfl (zao (zal 2 ndk) (zao (zal 3 ndk) zbn)))) (fun C s H fp=>zaz) (fun C s H fp=>(zaP (zab 3) (zak 0 (zdS (zab 2) (zab 1))))))) zae)))))))
abbrev zhk:Stmt:=top 18
def zfr:ME:=
 (eVar 1)
def zfo:MO:=
 oLC [] 2 (iSeq (eVar 0)) (gT 2 (zaE (gN 0) (zaE (gN 1) zdH))) zbf zfr
def zfy:MS:=
 (sSeq (zoN 4 (fun i j => i - j) (eVar 6))
  (sSeq (sSet 7 (mC (d2I max2) (zad (eVar 5) (zad (m2 dSub (eVar 3) (eVar 4)) aNil))))
  (sSeq (sApp 2 (eVar 7))
  (zoN 3 (fun i j=>i-j) (eVar 7)))))
def zfv:MS:=
 sFor (iSeq (eVar 0)) (gT 2 (zaE (gN 5) (zaE (gN 6) zdH))) zfy
def ze3:MS:=
 (sSeq (zgR 2 (oLst aNil))
  (sSeq (sSet 3 (eVar 1))
  (sSeq (sSet 4 (mC dSum (zad (eFz zfo) aNil)))
  (sSeq zfv
  (zlG 2)))))
def zch:List D->Option Sl:=fP 8 ze3
theorem zkR (h:FnAt K "least_heads" zhk):FD P w K mg base 1 "least_heads" (spP K 2 zch):=
 fdP (N:=["spans","total","heads","left","room","low","high","head"]) (k:=0) (m:=ze3) X G h fun _ _ _ _ _ _ _ hr nd=>(zaf (zcV 2 (zbT zae) nd)
  (zaf (zay 3 (zab 1) nd)
  (zaf (zay 4 (zgT rfl bn.sum' (zaa (SO.se (zbU [] 2 ["low", "high"] rfl (zbc (zab 0)) (fun C s H fp => (zca rfl (zao (zal 0 ndk) (zao (zal 1 ndk) zbn)))) (fun C s H fp => zaz) (fun C s H fp => (zab 1)))) zae)) nd)
  (zaf (zg3 PassesOwn.never rfl (zbc (zab 0)) (zca rfl (zao (zal 5 nd) (zao (zal 6 nd) zbn)))
  (zaf (zmB 4 (zab 6) nd)
  (zaf (zay 7 (zkA rfl bn.max' (zaa (zab 5) (zaa (zb9 (zab 3) (zab 4)) zae))) nd)
  (zaf (ziW 2 (zab 7))
  (zaj (zmB 3 (zab 7) nd))))))
  (zaj (zii 2))))))
abbrev zgU:Stmt:=top 19
def zfi:ME:=
 (eVar 0)
def zfA:MO:=
 oLC [] 2 (iSeq (eVar 0)) (gT 2 (zaE (gN 0) (zaE (gN 1) zdH))) zbf zfi
def zfB:ME:=
 (eVar 1)
def zfu:MO:=
 oLC [] 2 (iSeq (eVar 0)) (gT 2 (zaE (gN 0) (zaE (gN 1) zdH))) zbf zfB
def zfl:ME:=
 (eTup (zad (mC (d2I max2) (zad (eVar 2) (zad (m2 dSub (eVar 3) (eVar 0)) aNil))) (zad (mC (d2I min2) (zad (eVar 3) (zad (m2 dAdd (eVar 2) (eVar 1)) aNil))) aNil)))
def zfg:MO:=
 oLC [3,2] 2 (iSeq (eVar 0)) (gT 2 (zaE (gN 2) (zaE (gN 3) zdH))) zbf zfl
def zeT:MS:=
 (sSeq (sSet 2 (m2 dSub (eVar 1) (mC dSum (zad (eFz zfA) aNil))))
  (sSeq (sSet 3 (m2 dSub (mC dSum (zad (eFz zfu) aNil)) (eVar 1)))
  (zje zfg)))
def zbO:List D->Option Sl:=fP 4 zeT
theorem zkG (h:FnAt K "head_ranges" zgU):FD P w K mg base 1 "head_ranges" (spP K 2 zbO):=
 fdP (N:=["spans","total","over","under"]) (k:=0) (m:=zeT) X G h fun _ _ _ _ _ _ _ hr nd=>(zaf (zay 2 (zb9 (zab 1) (zgT rfl bn.sum' (zaa (SO.se (zbU [] 2 ["low","high"] rfl (zbc (zab 0)) (fun C s H fp=>(zca rfl (zao (zal 0 ndk) (zao (zal 1 ndk) zbn)))) (fun C s H fp=>zaz) (fun C s H fp=>(zab 0)))) zae))) nd)
  (zaf (zay 3 (zb9 (zgT rfl bn.sum' (zaa (SO.se (zbU [] 2 ["low", "high"] rfl (zbc (zab 0)) (fun C s H fp => (zca rfl (zao (zal 0 ndk) (zao (zal 1 ndk) zbn)))) (fun C s H fp => zaz) (fun C s H fp => (zab 1)))) zae)) (zab 1)) nd)
  (zaj (zeh (zbU [3,2] 2 ["under","over","low","high"] rfl (zbc (zab 0)) (fun C s H fp=>(zca rfl (zao (zal 2 ndk) (zao (zal 3 ndk) zbn)))) (fun C s H fp=>zaz) (fun C s H fp=>(zbS (zaa (zkA rfl bn.max' (zaa (zab 2) (zaa (zb9 (zab 3) (zab 0)) zae))) (zaa (znX rfl bn.min' (zaa (zab 3) (zaa (zaP (zab 2) (zab 1)) zae))) zae)))))))))
abbrev zkt:Stmt:=top 21
def ziu:MS:=
 (sRet (ziX dLe dLt (eC (.int 0)) (eVar 1) (mC dLen (zad (eIxV 0 (eC (.int 2))) aNil))))
def zbw:List D->Option Sl:=fP 2 ziu
theorem znI (h:FnAt K "is_place" zkt):FD P w K mg base 1 "is_place" (spP K 2 zbw):=
 fdP (N:=["line","number"]) (k:=0) (m:=ziu) X G h fun _ _ _ _ _ _ _ hr nd=>(zaj (zaD (zjI znJ op_lt zfq zfq zag (zab 1) (zms bn.len' (zaa (zak 0 zag) zae)))))
abbrev zkj:Stmt:=top 22
def zib:MS:=
 (sApp 2 (m2 dSub (m2 dAdd (eIxV 2 (eVar 3)) (eIxV 1 (m2 dAdd (eVar 3) (eC (.int 1))))) (eIxV 1 (eVar 3))))
def zhU:MS:=
 sFor (iR1 (zad (m2 dSub (zcq 1) (eC (.int 1))) aNil)) (gN 3) zib
def ziv:MS:=
 (sSeq (sSet 1 (eIxV 0 (eC (.int 1))))
  (sSeq (zgR 2 (oRep (eFz (oLst (zad (eC (.int 0)) aNil))) (eIxV 0 (eC (.int 0)))))
  (sSeq zhU
  (zlG 2))))
def zbM:List D->Option Sl:=fP 4 ziv
theorem znx (h:FnAt K "mores_of" zkj):FD P w K mg base 1 "mores_of" (spP K 1 zbM):=
 fdP (N:=["line","sums","mores","i"]) (k:=0) (m:=ziv) X G h fun _ _ _ _ _ _ _ hr nd=>(zaf (zay 1 (zak 0 zag) nd)
  (zaf (zcV 2 (so_rep (SO.se (zbT (zaa zag zae))) (zak 0 zag)) nd)
  (zaf (zg3 PassesOwn.never rfl (zaZ bn.range' (zaa (zb9 (za2 1 bn.len') zag) zae)) (zal 3 nd)
  (zaj (ziW 2 (zb9 (zaP (zak 2 (zab 3)) (zak 1 (zaP (zab 3) zag))) (zak 1 (zab 3))))))
  (zaj (zii 2)))))
abbrev zj0:Stmt:=top 23
def ziz:MS:=
 (zje (zmD zbL (zad (eIxV 0 (eC (.int 2))) (zad (zaN zbM (zad (eVar 0) aNil)) aNil))))
def zcC:List D->Option Sl:=fP 1 ziz
theorem znz (zbP:FD P w K mg base 1 "less_mores" (spP K 2 zbL))(zbp:FD P w K mg base 1 "mores_of" (spP K 1 zbM))(h:FnAt K "low_asks" zj0):FD P w K mg base 2 "low_asks" (spP K 1 zcC):=
 fdP (N:=["line"]) (k:=1) (m:=ziz) X G h fun _ _ _ _ _ _ _ hr nd=>(zaj (zeh (ziy zbP hr (zaa (zak 0 zag) (zaa (zan zbp hr (zaa (zab 0) zae) (hlen:=(zac zai))) zae)) (hlen:=(zac (zac zai))))))
abbrev ziU:Stmt:=top 24
def zhs:MS:=
 (zje (zmD zbL (zad (eIxV 0 (eC (.int 3))) (zad (zaN zbM (zad (eVar 0) aNil)) aNil))))
def zb7:List D->Option Sl:=fP 1 zhs
theorem zm4 (zbP:FD P w K mg base 1 "less_mores" (spP K 2 zbL))(zbp:FD P w K mg base 1 "mores_of" (spP K 1 zbM))(h:FnAt K "high_asks" ziU):FD P w K mg base 2 "high_asks" (spP K 1 zb7):=
 fdP (N:=["line"]) (k:=1) (m:=zhs) X G h fun _ _ _ _ _ _ _ hr nd=>(zaj (zeh (ziy zbP hr (zaa (zak 0 zag) (zaa (zan zbp hr (zaa (zab 0) zae) (hlen:=(zac zai))) zae)) (hlen:=(zac (zac zai))))))
abbrev zhK:Stmt:=top 25
def zgi:MS:=
 (zje (zmD zbI (zad (zaN zcC (zad (eVar 0) aNil)) (zad (zaN zb7 (zad (eVar 0) aNil)) (zad (eIxV 0 (eC (.int 0))) aNil)))))
def zcJ:List D->Option Sl:=fP 1 zgi
theorem zmh (zbN:FD P w K mg base 1 "head_spans" (spP K 3 zbI))(zb8:FD P w K mg base 2 "high_asks" (spP K 1 zb7))(zcy:FD P w K mg base 2 "low_asks" (spP K 1 zcC))(h:FnAt K "rest_spans" zhK):FD P w K mg base 3 "rest_spans" (spP K 1 zcJ):=
 fdP (N:=["line"]) (k:=2) (m:=zgi) X G h fun _ _ _ _ _ _ _ hr nd=>(zaj (zeh (ziy zbN hr (zaa (zan zcy hr (zaa (zab 0) zae) (hlen:=(zac zai))) (zaa (zan zb8 hr (zaa (zab 0) zae) (hlen:=(zac zai))) (zaa (zak 0 zag) zae))) (hlen:=(zac (zac (zac zai)))))))
abbrev zmo:Stmt:=top 26
def zlt:MS:=
 (sRet (zaN zbZ (zad (eVar 1) (zad (zaN zbM (zad (eVar 0) aNil)) aNil))))
def zhR:List D->Option Sl:=fP 2 zlt
theorem zrq (zbp:FD P w K mg base 1 "mores_of" (spP K 1 zbM))(zds:FD P w K mg base 1 "row_by_heads" (spP K 2 zbZ))(h:FnAt K "row_of" zmo):FD P w K mg base 2 "row_of" (spP K 2 zhR):=
 fdP (N:=["line","heads"]) (k:=1) (m:=zlt) X G h fun _ _ _ _ _ _ _ hr nd=>(zaj (zaD (zan zds hr (zaa (zab 1) (zaa (zan zbp hr (zaa (zab 0) zae) (hlen:=(zac zai))) zae)) (hlen:=(zac (zac zai))))))
abbrev zhG:Stmt:=top 27
def zf2:MS:=
 (sRet (zaN zcg (zad (zaN zcC (zad (eVar 0) aNil)) (zad (zaN zb7 (zad (eVar 0) aNil)) (zad (eIxV 0 (eC (.int 0))) (zad (m2 dIx (eIxV 0 (eC (.int 1))) (eC (.int 0))) aNil))))))
def zbb:List D->Option Sl:=fP 1 zf2
theorem zlw (zeo:FD P w K mg base 2 "heads_paper" (spP K 4 zcg))(zb8:FD P w K mg base 2 "high_asks" (spP K 1 zb7))(zcy:FD P w K mg base 2 "low_asks" (spP K 1 zcC))(h:FnAt K "line_paper" zhG):FD P w K mg base 3 "line_paper" (spP K 1 zbb):=
 fdP (N:=["line"]) (k:=2) (m:=zf2) X G h fun _ _ _ _ _ _ _ hr nd=>(zaj (zaD (zan zeo hr (zaa (zan zcy hr (zaa (zab 0) zae) (hlen:=(zac zai))) (zaa (zan zb8 hr (zaa (zab 0) zae) (hlen:=(zac zai))) (zaa (zak 0 zag) (zaa (zbJ (zak 0 zag) zag) zae)))) (hlen:=(zac (zac (zac (zac zai))))))))
abbrev zcS:Stmt:=top 28
def zdQ:MS:=
 (zje (zmD zcJ (zad (eVar 0) aNil)))
def zdh:MS:=
 (sSeq (sIf (tTru (m2 zlS (zaN zbb (zad (eVar 0) aNil)) (eC .non)))
  (fun _=>none)
  zbA)
  zdQ)
def za7:List D->Option Sl:=fP 1 zdh
theorem zjq (za3:FD P w K mg base 3 "line_paper" (spP K 1 zbb))(zeW:FD P w K mg base 3 "rest_spans" (spP K 1 zcJ))(h:FnAt K "fitting_spans" zcS):FD P w K mg base 4 "fitting_spans" (spP K 1 za7):=
 fdP (N:=["line"]) (k:=3) (m:=zdh) X G h fun _ _ _ _ _ _ _ hr nd=>(zaf (zbx (zlx (zan za3 hr (zaa (zab 0) zae) (hlen:=(zac zai))) zkw)
  (zaj zhS)
  zaJ)
  (zaj (zeh (ziy zeW hr (zaa (zab 0) zae) (hlen:=(zac zai))))))
def zdo:MX:=
 (xIf (tTru (m2 zlS (zaN zbb (zad (eVar 0) aNil)) (eC .non))) (fun _=>some "NoFit"))
def zaK:List D->Option Str:=fX 1 zdo
theorem ziA (za3:FD P w K mg base 3 "line_paper" (spP K 1 zbb))(h:FnAt K "fitting_spans" zcS):FDX P w K mg base 4 "fitting_spans" (spX K 1 zaK):=
 fdX (N:=["line"]) (k:=3) (m:=zdo) X G h fun _ _ _ _ _ _ _ hr nd=>(zbs (xs_if (zlx (zan za3 hr (zaa (zab 0) zae) (hlen:=(zac zai))) zkw) (zbs (zjK zoL rfl rfl rfl bn.r_NoFit))))
abbrev zfa:Stmt:=top 30
def zgA:ME:=
 (m2 dEq (eVar 0) (eVar 1))
def zgq:MO:=
 oLC [] 2 (iSeq (zaN zbO (zad (zaN za7 (zad (eVar 0) aNil)) (zad (m2 dIx (eIxV 0 (eC (.int 1))) (eC (.int 0))) aNil)))) (gT 2 (zaE (gN 0) (zaE (gN 1) zdH))) zbf zgA
def zfV:MS:=
 (zje zgq)
def zcO:List D->Option Sl:=fP 1 zfV
theorem zly (za9:FD P w K mg base 4 "fitting_spans" (spP K 1 za7))(zbu:FD P w K mg base 1 "head_ranges" (spP K 2 zbO))(h:FnAt K "sure_rests" zfa):FD P w K mg base 5 "sure_rests" (spP K 1 zcO):=
 fdP (N:=["line"]) (k:=4) (m:=zfV) X G h fun _ _ _ _ _ _ _ hr nd=>(zaj (zeh (zbU [] 2 ["low","high"] rfl (zbc (zan zbu hr (zaa (zan za9 hr (zaa (zab 0) zae) (hlen:=(zac zai))) (zaa (zbJ (zak 0 zag) zag) zae)) (hlen:=(zac (zac zai))))) (fun C s H fp=>(zca rfl (zao (zal 0 ndk) (zao (zal 1 ndk) zbn)))) (fun C s H fp=>zaz) (fun C s H fp=>(zo1 hr.units (zab 0) (zab 1))))))
def zgC:MX:=
 (zkF zaK (zad (eVar 0) aNil))
def zcK:List D->Option Str:=fX 1 zgC
theorem zkL (zbu:FD P w K mg base 1 "head_ranges" (spP K 2 zbO))(zco:FDX P w K mg base 4 "fitting_spans" (spX K 1 zaK))(h:FnAt K "sure_rests" zfa):FDX P w K mg base 5 "sure_rests" (spX K 1 zcK):=
 fdX (N:=["line"]) (k:=4) (m:=zgC) X G h fun _ _ _ _ _ _ _ hr nd=>(zbs (xs_ret (xe_lc [] 2 ["low","high"] rfl (zp6 (xe_arg zbu hr (zhm zco zhP hr (zaa (zab 0) zae) (hlen:=(zac zai))))))))
abbrev ziQ:Stmt:=top 32
def zkZ:ME:=
 (mC dSum (zad (eCut (eVar 0) (zcP (eVar 2)) (zcP (m2 dAdd (eVar 2) (eVar 1)))) aNil))
def zkN:MO:=
 oLC [0,1] 1 (iR1 (zad (m2 dAdd (m2 dSub (zcq 0) (eVar 1)) (eC (.int 1))) aNil)) (gN 2) zbf zkZ
def zjZ:MS:=
 (sRet (mC zcf (zad (eFz zkN) aNil)))
def zhz:List D->Option Sl:=fP 2 zjZ
theorem znb (h:FnAt K "line_sums" ziQ):FD P w K mg base 1 "line_sums" (spP K 2 zhz):=
 fdP (N:=["row","k"]) (k:=0) (m:=zjZ) X G h fun _ _ _ _ _ _ _ hr nd=>(zaj (zaD (zb1 bn.tuple' (zaa (SO.se (zbU [0,1] 1 ["row","k","i"] rfl (zaZ bn.range' (zaa (zaP (zb9 (za2 0 bn.len') (zab 1)) zag) zae)) (fun C s H fp=>(zal 2 ndk)) (fun C s H fp=>zaz) (fun C s H fp=>(zgT rfl bn.sum' (zaa (zdV (zab 0) (za1 (zab 2)) (za1 (zaP (zab 2) (zab 1)))) zae))))) zae))))
abbrev zhM:Stmt:=top 33
def zki:ME:=
 (eIxV 0 (eVar 1))
def zj2:MO:=
 oLC [0] 1 (iSeq (eVar 1)) (gN 1) zbf zki
def ziT:MS:=
 (sRet (mC dSum (zad (eFz zj2) aNil)))
def zdY:List D->Option Sl:=fP 2 ziT
theorem zlE (h:FnAt K "chosen_sum" zhM):FD P w K mg base 1 "chosen_sum" (spP K 2 zdY):=
 fdP (N:=["row","places"]) (k:=0) (m:=ziT) X G h fun _ _ _ _ _ _ _ hr nd=>(zaj (zaD (zgT rfl bn.sum' (zaa (SO.se (zbU [0] 1 ["row","place"] rfl (zbc (zab 1)) (fun C s H fp=>(zal 1 ndk)) (fun C s H fp=>zaz) (fun C s H fp=>(zak 0 (zab 1))))) zae))))
abbrev zh6:Stmt:=top 35
def zkB:ME:=
 (ziX dLe dLe (eVar 0) (eVar 1) (eVar 2))
def zj9:MO:=
 oLC [] 3 (iZ3 (zad (eVar 1) (zad (eVar 0) (zad (eVar 2) aNil)))) (gT 3 (zaE (gN 0) (zaE (gN 1) (zaE (gN 2) zdH)))) zbf zkB
def zj5:MS:=
 (sRet (mC (dAll fun bs=>bs.all id) (zad (eFz zj9) aNil)))
def ziJ:MS:=
 (sSeq (sIf (tTru (m2 dNe (zcq 0) (zcq 1)))
  (sRet (eC (.bl false)))
  zbA)
  zj5)
def zgb:List D->Option Sl:=fP 3 ziJ
theorem zlp (h:FnAt K "row_within" zh6):FD P w K mg base 1 "row_within" (spP K 3 zgb):=
 fdP (N:=["row","least","greatest"]) (k:=0) (m:=ziJ) X G h fun _ _ _ _ _ _ _ hr nd=>(zaf (zbx (zj3 hr.units (za2 0 bn.len') (za2 1 bn.len'))
  (zaj (zaD zhu))
  zaJ)
  (zaj (zaD (zgy rfl bn.all' (zaa (SO.se (zbU [] 3 ["low","number","high"] rfl (it_zip3 bn.zip' (zaa (zab 1) (zaa (zab 0) (zaa (zab 2) zae)))) (fun C s H fp=>(zca rfl (zao (zal 0 ndk) (zao (zal 1 ndk) (zao (zal 2 ndk) zbn))))) (fun C s H fp=>zaz) (fun C s H fp=>(zjI znJ znJ zfq zfq (zab 0) (zab 1) (zab 2))))) zae)))))
abbrev zox:Stmt:=top 36
def zo0:ME:=
 (m2 dLt (eIxV 0 (eVar 1)) (eIxV 0 (m2 dAdd (eVar 1) (eC (.int 1)))))
def zpd:MO:=
 oLC [0] 1 (iR1 (zad (m2 dSub (zcq 0) (eC (.int 1))) aNil)) (gN 1) zbf zo0
def zre:MS:=
 (sRet (mC (dAll fun bs=>bs.all id) (zad (eFz zpd) aNil)))
def zlm:List D->Option Sl:=fP 1 zre
theorem ok_rises (h:FnAt K "rises" zox):FD P w K mg base 1 "rises" (spP K 1 zlm):=
 fdP (N:=["numbers"]) (k:=0) (m:=zre) X G h fun _ _ _ _ _ _ _ hr nd=>(zaj (zaD (zgy rfl bn.all' (zaa (SO.se (zbU [0] 1 ["numbers","i"] rfl (zaZ bn.range' (zaa (zb9 (za2 0 bn.len') zag) zae)) (fun C s H fp=>(zal 1 ndk)) (fun C s H fp=>zaz) (fun C s H fp=>(se_lt (zak 0 (zab 1)) (zak 0 (zaP (zab 1) zag)))))) zae))))
abbrev zh9:Stmt:=top 37
def ziL:MS:=
 (sRet (eAnd (zaN zgb (zad (eVar 1) (zad (eIxV 0 (eC (.int 2))) (zad (eIxV 0 (eC (.int 3))) aNil)))) (m2 dEq (zaN zhz (zad (eVar 1) (zad (eIxV 0 (eC (.int 0))) aNil))) (eIxV 0 (eC (.int 1))))))
def zdM:List D->Option Sl:=fP 2 ziL
theorem zlA (zgs:FD P w K mg base 1 "line_sums" (spP K 2 zhz))(zeP:FD P w K mg base 1 "row_within" (spP K 3 zgb))(h:FnAt K "line_holds" zh9):FD P w K mg base 2 "line_holds" (spP K 2 zdM):=
 fdP (N:=["line","row"]) (k:=1) (m:=ziL) X G h fun _ _ _ _ _ _ _ hr nd=>(zaj (zaD (znd (zan zeP hr (zaa (zab 1) (zaa (zak 0 zag) (zaa (zak 0 zag) zae))) (hlen:=(zac (zac (zac zai))))) (zn9 (zo1 hr.units (zan zgs hr (zaa (zab 1) (zaa (zak 0 zag) zae)) (hlen:=(zac (zac zai)))) (zak 0 zag))))))
abbrev zeN:Stmt:=top 39
def zgk:ME:=
 (eVar 0)
def zgE:MT:=
 (zgp (tTru (eVar 1)))
def zf9:MO:=
 oLC [] 2 (iEn (zad (zaN zcO (zad (eVar 0) aNil)) aNil)) (gT 2 (zaE (gN 0) (zaE (gN 1) zdH))) zgE zgk
def zgn:MS:=
 (zje zf9)
def zaW:List D->Option Sl:=fP 1 zgn
theorem zmk (zeU:FD P w K mg base 5 "sure_rests" (spP K 1 zcO))(h:FnAt K "free_rests" zeN):FD P w K mg base 6 "free_rests" (spP K 1 zaW):=
 fdP (N:=["line"]) (k:=5) (m:=zgn) X G h fun _ _ _ _ _ _ _ hr nd=>(zaj (zeh (zbU [] 2 ["j","sure"] rfl (ze7 bn.enumerate' (zaa (zan zeU hr (zaa (zab 0) zae) (hlen:=(zac zai))) zae)) (fun C s H fp=>(zca rfl (zao (zal 0 ndk) (zao (zal 1 ndk) zbn)))) (fun C s H fp=>(znt (zdk (zbl (zab 1))))) (fun C s H fp=>(zab 0)))))
def zfJ:MX:=
 (zkF zcK (zad (eVar 0) aNil))
def zaS:List D->Option Str:=fX 1 zfJ
theorem zkW (zer:FDX P w K mg base 5 "sure_rests" (spX K 1 zcK))(h:FnAt K "free_rests" zeN):FDX P w K mg base 6 "free_rests" (spX K 1 zaS):=
 fdX (N:=["line"]) (k:=5) (m:=zfJ) X G h fun _ _ _ _ _ _ _ hr nd=>(zbs (xs_ret (xe_lc [] 2 ["j","sure"] rfl (xi_enum bn.enumerate' (zhm zer zhP hr (zaa (zab 0) zae) (hlen:=(zac zai)))))))
abbrev zkE:Stmt:=top 40
def zid:MS:=
 (sSeq (zgR 3 (zmD za7 (zad (eVar 0) aNil)))
  (sSeq (sPut 3 (eVar 1) (eTup (zad (m2 dIx (eIxV 3 (eVar 1)) (eC (.int 0))) (zad (m2 dSub (m2 dIx (eIxV 3 (eVar 1)) (eC (.int 1))) (eC (.int 1))) aNil))))
  (sSeq (sPut 3 (eVar 2) (eTup (zad (m2 dAdd (m2 dIx (eIxV 3 (eVar 2)) (eC (.int 0))) (eC (.int 1))) (zad (m2 dIx (eIxV 3 (eVar 2)) (eC (.int 1))) aNil))))
  (sSeq (sSet 4 (zaN zhR (zad (eVar 0) (zad (zaN zch (zad (eVar 3) (zad (m2 dIx (eIxV 0 (eC (.int 1))) (eC (.int 0))) aNil))) aNil))))
  (sRet (eTup (zad (eVar 4) (zad (zaN zbB (zad (eVar 4) (zad (eIxV 0 (eC (.int 0))) (zad (eVar 2) (zad (eVar 1) aNil))))) aNil))))))))
def zcu:List D->Option Sl:=fP 5 zid
theorem znM (zcW:FD P w K mg base 1 "exchanged_row" (spP K 4 zbB))(za9:FD P w K mg base 4 "fitting_spans" (spP K 1 za7))(zew:FD P w K mg base 1 "least_heads" (spP K 2 zch))(zkl:FD P w K mg base 2 "row_of" (spP K 2 zhR))(h:FnAt K "two_rows" zkE):FD P w K mg base 5 "two_rows" (spP K 3 zcu):=
 fdP (N:=["line","first","second","spans","row"]) (k:=4) (m:=zid) X G h fun _ _ _ _ _ _ _ hr nd=>(zaf (zcV 3 (ziy za9 hr (zaa (zab 0) zae) (hlen:=(zac zai))) nd)
  (zaf (zlb 3 (zbS (zaa (zbJ (zak 3 (zab 1)) zag) (zaa (zb9 (zbJ (zak 3 (zab 1)) zag) zag) zae))) (zab 1))
  (zaf (zlb 3 (zbS (zaa (zaP (zbJ (zak 3 (zab 2)) zag) zag) (zaa (zbJ (zak 3 (zab 2)) zag) zae))) (zab 2))
  (zaf (zay 4 (zan zkl hr (zaa (zab 0) (zaa (zan zew hr (zaa (zab 3) (zaa (zbJ (zak 0 zag) zag) zae)) (hlen := (zac (zac zai)))) zae)) (hlen := (zac (zac zai)))) nd)
  (zaj (zaD (zbS (zaa (zab 4) (zaa (zan zcW hr (zaa (zab 4) (zaa (zak 0 zag) (zaa (zab 2) (zaa (zab 1) zae)))) (hlen:=(zac (zac (zac (zac zai)))))) zae)))))))))
abbrev zij:Stmt:=top 41
def zjc:ME:=
 (zaN zbw (zad (eVar 0) (zad (eVar 1) aNil)))
def zcb:MO:=
 oLC [0] 1 (iSeq (eVar 1)) (gN 1) zbf zjc
def ziZ:ME:=
 (m2 dMod (eVar 1) (eIxV 0 (eC (.int 0))))
def zdN:MO:=
 oLC [0] 1 (iSeq (eVar 1)) (gN 1) zbf ziZ
def zi1:ME:=
 (eVar 1)
def ziK:MT:=
 (tTru (m2 zpU (eVar 1) (eVar 0)))
def zf4:MO:=
 oLC [2] 1 (iSeq (zaN zaW (zad (eVar 0) aNil))) (gN 1) ziK zi1
def ziR:MS:=
 (sRet (zaN zcu (zad (eVar 0) (zad (eIxV 3 (eC (.int 0))) (zad (eIxV 3 (eC (.int 1))) aNil)))))
def ziN:MS:=
 (sSeq (sSet 2 (eFz zdN))
  (sSeq (sSet 3 (eFz zf4))
  (sSeq (sIf (tTru (m2 dLt (zcq 3) (eC (.int 2))))
  (sRet (eC .non))
  zbA)
  ziR)))
def zjS:MS:=
 (sSeq (sIf (zgp (tTru (mC (dAll fun bs => bs.all id) (zad (eFz zcb) aNil))))
  (fun _=>none)
  zbA)
  ziN)
def zfW:List D->Option Sl:=fP 4 zjS
theorem zo6 (zaL:FD P w K mg base 6 "free_rests" (spP K 1 zaW))(zbg:FD P w K mg base 1 "is_place" (spP K 2 zbw))(zcr:FD P w K mg base 5 "two_rows" (spP K 3 zcu))(h:FnAt K "settles" zij):FD P w K mg base 7 "settles" (spP K 2 zfW):=
 fdP (N:=["line","places","told","untold"]) (k:=6) (m:=zjS) X G h fun _ _ _ _ _ _ _ hr nd=>(zaf (zbx (zdk (zbl (zgy rfl bn.all' (zaa (SO.se (zbU [0] 1 ["line","place"] rfl (zbc (zab 1)) (fun C s H fp=>(zal 1 ndk)) (fun C s H fp=>zaz) (fun C s H fp=>(zan zbg hr (zaa (zab 0) (zaa (zab 1) zae)) (hlen:=(zac (zac zai))))))) zae))))
  (zaj zhS)
  zaJ)
  (zaf (zay 2 (SO.se (zbU [0] 1 ["line", "place"] rfl (zbc (zab 1)) (fun C s H fp => (zal 1 ndk)) (fun C s H fp => zaz) (fun C s H fp => (zdS (zab 1) (zak 0 zag))))) nd)
  (zaf (zeI 3 [2] 1 ["told", "j"] rfl (zbc (zan zaL hr (zaa (zab 0) zae) (hlen := (zac zai)))) (fun C s H fp => (zal 1 ndk)) (fun C s H fp => (znt (st_notIn (zab 1) (zab 0)))) (fun C s H fp => (zab 1)) nd)
  (zaf (zbx (st_lt (za2 3 bn.len') zag)
  (zaj (zaD zkw))
  zaJ)
  (zaj (zaD (zan zcr hr (zaa (zab 0) (zaa (zak 3 zag) (zaa (zak 3 zag) zae))) (hlen:=(zac (zac (zac zai)))))))))))
def zkY:ME:=
 (zaN zbw (zad (eVar 0) (zad (eVar 1) aNil)))
def zeq:MO:=
 oLC [0] 1 (iSeq (eVar 1)) (gN 1) zbf zkY
def zkV:ME:=
 (m2 dMod (eVar 1) (eIxV 0 (eC (.int 0))))
def zg8:MO:=
 oLC [0] 1 (iSeq (eVar 1)) (gN 1) zbf zkV
def zkQ:ME:=
 (zaN zbw (zad (eVar 0) (zad (eVar 1) aNil)))
def zhf:MO:=
 oLC [0] 1 (iSeq (eVar 1)) (gN 1) zbf zkQ
def zh4:MX:=
 (xOr (xIf (zgp (tTru (mC (dAll fun bs => bs.all id) (zad (eFz zeq) aNil)))) (fun _ => some "NoPlace")) (xSeq (sIf (zgp (tTru (mC (dAll fun bs => bs.all id) (zad (eFz zhf) aNil))))
  (fun _=>none)
  zbA) (xSeq (sSet 2 (eFz zg8)) (zkF zaS (zad (eVar 0) aNil)))))
def zcH:List D->Option Str:=fX 4 zh4
theorem znj (zbg:FD P w K mg base 1 "is_place" (spP K 2 zbw))(zaV:FDX P w K mg base 6 "free_rests" (spX K 1 zaS))(h:FnAt K "settles" zij):FDX P w K mg base 7 "settles" (spX K 2 zcH):=
 fdX (N:=["line","places","told","untold"]) (k:=6) (m:=zh4) X G h fun _ _ _ _ _ _ _ hr nd=>(xss_or (zbs (xs_if (zdk (zbl (zgy rfl bn.all' (zaa (SO.se (zbU [0] 1 ["line","place"] rfl (zbc (zab 1)) (fun C s H fp=>(zal 1 ndk)) (fun C s H fp=>zaz) (fun C s H fp=>(zan zbg hr (zaa (zab 0) (zaa (zab 1) zae)) (hlen:=(zac (zac zai))))))) zae)))) (zbs (zjK zoL rfl rfl rfl bn.r_NoPlace)))) (zlX (zbx (zdk (zbl (zgy rfl bn.all' (zaa (SO.se (zbU [0] 1 ["line","place"] rfl (zbc (zab 1)) (fun C s H fp=>(zal 1 ndk)) (fun C s H fp=>zaz) (fun C s H fp=>(zan zbg hr (zaa (zab 0) (zaa (zab 1) zae)) (hlen:=(zac (zac zai))))))) zae))))
  (zaj zhS)
  zaJ) (zlX (zay 2 (SO.se (zbU [0] 1 ["line","place"] rfl (zbc (zab 1)) (fun C s H fp=>(zal 1 ndk)) (fun C s H fp=>zaz) (fun C s H fp=>(zdS (zab 1) (zak 0 zag))))) nd) (zbs (xs_setLC 3 [2] 1 ["told","j"] rfl (zp6 (zhm zaV zhP hr (zaa (zab 0) zae) (hlen:=(zac zai)))) nd)))))
abbrev zh1:Stmt:=top 42
def zf6:MS:=
 (sApp 1 (eTup (zad (eIxV 0 (eVar 2)) (zad (eVar 3) aNil))))
def zfS:MS:=
 sFor (iSeq (eCut (eVar 0) (zcP (m2 dAdd (eVar 2) (eC (.int 1)))) pNo)) (gN 3) zf6
def zgt:MS:=
 zfS
def zf5:MS:=
 sFor (iR1 (zad (zcq 0) aNil)) (gN 2) zgt
def zfG:MS:=
 (sSeq (zgR 1 (oLst aNil))
  (sSeq zf5
  (zlG 1)))
def zbF:List D->Option Sl:=fP 4 zfG
theorem zmf (h:FnAt K "rest_pairs" zh1):FD P w K mg base 1 "rest_pairs" (spP K 1 zbF):=
 fdP (N:=["rests","pairs","i","second"]) (k:=0) (m:=zfG) X G h fun _ _ _ _ _ _ _ hr nd=>(zaf (zcV 1 (zbT zae) nd)
  (zaf (zg3 PassesOwn.never rfl (zaZ bn.range' (zaa (za2 0 bn.len') zae)) (zal 2 nd)
  (zaj (zg3 PassesOwn.never rfl (zbc (zdV (zab 0) (za1 (zaP (zab 2) zag)) zgQ)) (zal 3 nd)
  (zaj (ziW 1 (zbS (zaa (zak 0 (zab 2)) (zaa (zab 3) zae))))))))
  (zaj (zii 1))))
abbrev zeD:Stmt:=top 43
def zb3:MS:=
 (sSeq (sSet 3 (zps (eVar 0) (zcP (eVar 2)) pNo (zcP (eVar 1))))
  (sRet (m2 dAdd (eVar 2) (m2 dMul (eVar 1) (m2 zlV (eVar 3) (mC zgS (zad (eVar 3) aNil)))))))
def zba:List D->Option Sl:=fP 4 zb3
theorem zit (h:FnAt K "cheapest_place" zeD):FD P w K mg base 1 "cheapest_place" (spP K 3 zba):=
 fdP (N:=["costs","k","j","of_rest"]) (k:=0) (m:=zb3) X G h fun _ _ _ _ _ _ _ hr nd=>(zaf (zay 3 (se_cutS2 (zab 0) (za1 (zab 2)) zgQ (za1 (zab 1))) nd)
  (zaj (zaD (zaP (zab 2) (zey (zab 1) (zpp (zab 3) (zme rfl bn.min' (zaa (zab 3) zae))))))))
abbrev zd2:Stmt:=top 44
def zc4:ME:=
 (zaN zba (zad (eVar 0) (zad (eVar 1) (zad (eVar 2) aNil))))
def zc5:MO:=
 oLC [0,1] 1 (iSeq (eVar 2)) (gN 2) zbf zc4
def zcA:MS:=
 (sSeq (sSet 3 (eFz zc5))
  (sSeq (sSet 3 (eCut (eFz (oSrtK 0 (eVar 3))) pNo (zcP (m1 dNeg (eC (.int 1))))))
  (sRet (mC zcf (zad (eFz (oC dSrt (zad (eVar 3) aNil))) aNil)))))
def zaT:List D->Option Sl:=fP 4 zcA
theorem zhE (zcx:FD P w K mg base 1 "cheapest_place" (spP K 3 zba)){c0:Addr}(hh:HostAt K "cheapest_places" 296 c0)(h:FnAt K "cheapest_places" zd2):FD P w K mg base 4 "cheapest_places" (spP K 3 zaT):=
 fdPL (N:=["costs","k","free","cheapest"]) (k:=3) (m:=zcA) X G h hh fun tb hC _ _ _ _ _ _ hr nd=>(zaf (zeI 3 [0,1] 1 ["costs","k","j"] rfl (zbc (zab 2)) (fun C s H fp=>(zal 2 ndk)) (fun C s H fp=>zaz) (fun C s H fp=>(zan zcx hr (zaa (zab 0) (zaa (zab 1) (zaa (zab 2) zae))) (hlen:=(zac (zac (zac zai)))))) nd)
  (zaf (zay 3 (zdV (SO.se (so_srtK 0 bn.sorted' (zab 3) (k := 0) (hr.mono (by decide)) tb rfl hC (zjb rfl rfl) ⟨rfl, rfl, by decide, rfl, rfl, by decide, fun _ _ _ _ _ _ _ => rfl⟩ rfl)) zgQ (za1 (zhg zag))) nd)
  (zaj (zaD (zb1 bn.tuple' (zaa (SO.se (zmx bn.sorted' (zaa (zab 3) zae))) zae))))))
abbrev zej:Stmt:=top 45
def zfE:ME:=
 (m2 dAdd (eTup (zad (eVar 1) (zad (eVar 2) aNil))) (zaN zcu (zad (eVar 0) (zad (eVar 1) (zad (eVar 2) aNil)))))
def zff:MO:=
 oLC [0] 2 (iSeq (zaN zbF (zad (eVar 2) aNil))) (gT 2 (zaE (gN 1) (zaE (gN 2) zdH))) zbf zfE
def zfz:MS:=
 (sSeq (sSet 2 (zaN zaW (zad (eVar 0) aNil)))
  (sSeq (zgR 3 zff)
  (zqN (zaN zaT (zad (eVar 1) (zad (eIxV 0 (eC (.int 0))) (zad (eVar 2) aNil)))) (oMv 3))))
def zfb:MS:=
 (sSeq (sIf (tTru (m2 dNe (zcq 1) (mC dLen (zad (eIxV 0 (eC (.int 2))) aNil))))
  (fun _=>none)
  zbA)
  zfz)
def zce:List D->Option Sl:=fP 4 zfb
theorem zkT (zaY:FD P w K mg base 4 "cheapest_places" (spP K 3 zaT))(zaL:FD P w K mg base 6 "free_rests" (spP K 1 zaW))(zbQ:FD P w K mg base 1 "rest_pairs" (spP K 1 zbF))(zcr:FD P w K mg base 5 "two_rows" (spP K 3 zcu))(h:FnAt K "line_settle" zej):FD P w K mg base 7 "line_settle" (spP K 2 zce):=
 fdP (N:=["line","costs","free","pairs"]) (k:=6) (m:=zfb) X G h fun _ _ _ _ _ _ _ hr nd=>(zaf (zbx (zj3 hr.units (za2 1 bn.len') (zms bn.len' (zaa (zak 0 zag) zae)))
  (zaj zhS)
  zaJ)
  (zaf (zay 2 (zan zaL hr (zaa (zab 0) zae) (hlen := (zac zai))) nd)
  (zaf (ss_setLC 3 [0] 2 ["line", "first", "second"] rfl (zbc (zan zbQ hr (zaa (zab 2) zae) (hlen := (zac zai)))) (fun C s H fp => (zca rfl (zao (zal 1 ndk) (zao (zal 2 ndk) zbn)))) (fun C s H fp => zaz) (fun C s H fp => (zaP (zbS (zaa (zab 1) (zaa (zab 2) zae))) (zan zcr hr (zaa (zab 0) (zaa (zab 1) (zaa (zab 2) zae))) (hlen := (zac (zac (zac zai))))))) nd)
  (zaj (ss_retUl (zan zaY hr (zaa (zab 1) (zaa (zak 0 zag) (zaa (zab 2) zae))) (hlen:=(zac (zac (zac zai))))) (so_mv 3))))))
def zc6:MX:=
 (xOr (xIf (tTru (m2 dNe (zcq 1) (mC dLen (zad (eIxV 0 (eC (.int 2))) aNil)))) (fun _ => some "Unlike")) (xSeq (sIf (tTru (m2 dNe (zcq 1) (mC dLen (zad (eIxV 0 (eC (.int 2))) aNil))))
  (fun _=>none)
  zbA) (zkF zaS (zad (eVar 0) aNil))))
def zbe:List D->Option Str:=fX 4 zc6
theorem zkh (zaV:FDX P w K mg base 6 "free_rests" (spX K 1 zaS))(h:FnAt K "line_settle" zej):FDX P w K mg base 7 "line_settle" (spX K 2 zbe):=
 fdX (N:=["line","costs","free","pairs"]) (k:=6) (m:=zc6) X G h fun _ _ _ _ _ _ _ hr nd=>(xss_or (zbs (xs_if (zj3 hr.units (za2 1 bn.len') (zms bn.len' (zaa (zak 0 zag) zae))) (zbs (zjK zoL rfl rfl rfl bn.r_Unlike)))) (zlX (zbx (zj3 hr.units (za2 1 bn.len') (zms bn.len' (zaa (zak 0 zag) zae)))
  (zaj zhS)
  zaJ) (zbs (xs_set 2 (zhm zaV zhP hr (zaa (zab 0) zae) (hlen:=(zac zai))) nd))))
abbrev zhc:Stmt:=top 46
def zjr:ME:=
 (zaN zbw (zad (eVar 0) (zad (eVar 1) aNil)))
def zjd:MO:=
 oLC [0] 1 (iSeq (eVar 2)) (gN 1) zbf zjr
def zjj:ME:=
 (m2 dMod (eVar 1) (eVar 0))
def zjk:MO:=
 oLC [3] 1 (iSeq (eVar 2)) (gN 1) zbf zjj
def zjl:ME:=
 (m2 dIn (eVar 1) (eVar 0))
def zjn:MO:=
 oLC [1] 1 (iSeq (eVar 4)) (gN 1) zbf zjl
def zjo:MS:=
 (sSeq (sSet 4 (eFz (oC dSrt (zad (eFz zjk) aNil))))
  (sRet (eAnd (zaN zlm (zad (eVar 4) aNil)) (eAnd (mC (dAll fun bs=>bs.all id) (zad (eFz zjn) aNil)) (m2 dEq (zcq 4) (mC (d2I max2) (zad (m2 dSub (zcq 1) (eC (.int 1))) (zad (eC (.int 0)) aNil))))))))
def zh8:MS:=
 (sSeq (sSet 3 (eIxV 0 (eC (.int 0))))
  (sSeq (sIf (tOrM (zgp (tTru (mC (dAll fun bs => bs.all id) (zad (eFz zjd) aNil)))) (zgp (tTru (zaN zlm (zad (eVar 2) aNil)))))
  (sRet (eC (.bl false)))
  zbA)
  zjo))
def zeR:List D->Option Sl:=fP 5 zh8
theorem zkH (zbg:FD P w K mg base 1 "is_place" (spP K 2 zbw))(zjE:FD P w K mg base 1 "rises" (spP K 1 zlm))(h:FnAt K "just_settle" zhc):FD P w K mg base 2 "just_settle" (spP K 3 zeR):=
 fdP (N:=["line","free","places","k","rests"]) (k:=1) (m:=zh8) X G h fun _ _ _ _ _ _ _ hr nd=>(zaf (zay 3 (zak 0 zag) nd)
  (zaf (zbx (STw.st (zoU (zdk (zbl (zgy rfl bn.all' (zaa (SO.se (zbU [0] 1 ["line", "place"] rfl (zbc (zab 2)) (fun C s H fp => (zal 1 ndk)) (fun C s H fp => zaz) (fun C s H fp => (zan zbg hr (zaa (zab 0) (zaa (zab 1) zae)) (hlen := (zac (zac zai))))))) zae)))) (zlk (zdk (zbl (zan zjE hr (zaa (zab 2) zae) (hlen := (zac zai))))))))
  (zaj (zaD zhu))
  zaJ)
  (zaf (zay 4 (SO.se (zmx bn.sorted' (zaa (SO.se (zbU [3] 1 ["k", "place"] rfl (zbc (zab 2)) (fun C s H fp => (zal 1 ndk)) (fun C s H fp => zaz) (fun C s H fp => (zdS (zab 1) (zab 0))))) zae))) nd)
  (zaj (zaD (znd (zan zjE hr (zaa (zab 4) zae) (hlen:=(zac zai))) (znd (zgy rfl bn.all' (zaa (SO.se (zbU [1] 1 ["free","j"] rfl (zbc (zab 4)) (fun C s H fp=>(zal 1 ndk)) (fun C s H fp=>zaz) (fun C s H fp=>(se_in (zab 1) (zab 0))))) zae)) (zn9 (zo1 hr.units (za2 4 bn.len') (zkA rfl bn.max' (zaa (zb9 (za2 1 bn.len') zag) (zaa zag zae))))))))))))
abbrev zgj:Stmt:=top 47
def zir:MS:=
 (sRet (m2 dEq (zaN zdY (zad (eVar 1) (zad (eVar 3) aNil))) (zaN zdY (zad (eVar 1) (zad (zaN zaT (zad (eVar 1) (zad (eIxV 0 (eC (.int 0))) (zad (eVar 2) aNil)))) aNil)))))
def zg5:MS:=
 (sSeq (sIf (tOrM (zgp (tTru (zaN zeR (zad (eVar 0) (zad (eVar 2) (zad (eVar 3) aNil)))))) (tTru (m2 dLt (mC zgS (zad (eVar 1) aNil)) (eC (.int 0)))))
  (sRet (eC (.bl false)))
  zbA)
  zir)
def zd7:List D->Option Sl:=fP 4 zg5
theorem zjU (zaY:FD P w K mg base 4 "cheapest_places" (spP K 3 zaT))(zc9:FD P w K mg base 1 "chosen_sum" (spP K 2 zdY))(zee:FD P w K mg base 2 "just_settle" (spP K 3 zeR))(h:FnAt K "places_right" zgj):FD P w K mg base 5 "places_right" (spP K 4 zd7):=
 fdP (N:=["line","costs","free","places"]) (k:=4) (m:=zg5) X G h fun _ _ _ _ _ _ _ hr nd=>(zaf (zbx (STw.st (zoU (zdk (zbl (zan zee hr (zaa (zab 0) (zaa (zab 2) (zaa (zab 3) zae))) (hlen:=(zac (zac (zac zai))))))) (zlk (st_lt (zme rfl bn.min' (zaa (zab 1) zae)) zag))))
  (zaj (zaD zhu))
  zaJ)
  (zaj (zaD (zo1 hr.units (zan zc9 hr (zaa (zab 1) (zaa (zab 3) zae)) (hlen:=(zac (zac zai)))) (zan zc9 hr (zaa (zab 1) (zaa (zan zaY hr (zaa (zab 1) (zaa (zak 0 zag) (zaa (zab 2) zae))) (hlen:=(zac (zac (zac zai))))) zae)) (hlen:=(zac (zac zai))))))))
abbrev zhV:Stmt:=top 48
def zkb:ME:=
 (m2 dEq (m2 dNe (eIxV 0 (eVar 4)) (eIxV 1 (eVar 4))) (m2 dIn (m2 dMod (eVar 4) (eVar 2)) (eCut (eVar 3) pNo (zcP (eC (.int 2))))))
def zjL:MO:=
 oLC [3,4,2,1] 1 (iR1 (zad (zcq 3) aNil)) (gN 4) zbf zkb
def zjY:MS:=
 (sRet (mC (dAll fun bs=>bs.all id) (zad (eFz zjL) aNil)))
def ziP:MS:=
 (sSeq (sSet 2 (eIxV 0 (eC (.int 0))))
  (sSeq (sSet 3 (eIxV 1 (eC (.int 2))))
  (sSeq (sSet 4 (eIxV 1 (eC (.int 3))))
  (sSeq (sIf (tOrM (zgp (tTru (zaN zdM (zad (eVar 0) (zad (eVar 3) aNil))))) (zgp (tTru (zaN zdM (zad (eVar 0) (zad (eVar 4) aNil))))))
  (sRet (eC (.bl false)))
  zbA)
  zjY))))
def zf3:List D->Option Sl:=fP 5 ziP
theorem zlT (zc8:FD P w K mg base 2 "line_holds" (spP K 2 zdM))(h:FnAt K "pair_right" zhV):FD P w K mg base 3 "pair_right" (spP K 2 zf3):=
 fdP (N:=["line","pair","k","row","other"]) (k:=2) (m:=ziP) X G h fun _ _ _ _ _ _ _ hr nd=>(zaf (zay 2 (zak 0 zag) nd)
  (zaf (zay 3 (zak 1 zag) nd)
  (zaf (zay 4 (zak 1 zag) nd)
  (zaf (zbx (STw.st (zoU (zdk (zbl (zan zc8 hr (zaa (zab 0) (zaa (zab 3) zae)) (hlen := (zac (zac zai)))))) (zlk (zdk (zbl (zan zc8 hr (zaa (zab 0) (zaa (zab 4) zae)) (hlen := (zac (zac zai)))))))))
  (zaj (zaD zhu))
  zaJ)
  (zaj (zaD (zgy rfl bn.all' (zaa (SO.se (zbU [3,4,2,1] 1 ["row","other","k","pair","place"] rfl (zaZ bn.range' (zaa (za2 3 bn.len') zae)) (fun C s H fp=>(zal 4 ndk)) (fun C s H fp=>zaz) (fun C s H fp=>(zo1 hr.units (se_ne hr.units (zak 0 (zab 4)) (zak 1 (zab 4))) (se_in (zdS (zab 4) (zab 2)) (zdV (zab 3) zgQ (za1 zag))))))) zae))))))))
abbrev zg7:Stmt:=top 49
def zjt:ME:=
 (eTup (zad (eIxV 0 (eC (.int 0))) (zad (eIxV 0 (eC (.int 1))) aNil)))
def zjg:MO:=
 oLC [] 1 (iSeq (eVar 2)) (gN 0) zbf zjt
def zjf:ME:=
 (zaN zf3 (zad (eVar 0) (zad (eVar 1) aNil)))
def zjp:MO:=
 oLC [0] 1 (iSeq (eVar 2)) (gN 1) zbf zjf
def zjh:MS:=
 (sRet (mC (dAll fun bs=>bs.all id) (zad (eFz zjp) aNil)))
def zhO:MS:=
 (sSeq (sIf (tTru (m2 dNe (eFz zjg) (zaN zbF (zad (eVar 1) aNil))))
  (sRet (eC (.bl false)))
  zbA)
  zjh)
def ze6:List D->Option Sl:=fP 3 zhO
theorem zkJ (zfc:FD P w K mg base 3 "pair_right" (spP K 2 zf3))(zbQ:FD P w K mg base 1 "rest_pairs" (spP K 1 zbF))(h:FnAt K "pairs_right" zg7):FD P w K mg base 4 "pairs_right" (spP K 3 ze6):=
 fdP (N:=["line","free","pairs"]) (k:=3) (m:=zhO) X G h fun _ _ _ _ _ _ _ hr nd=>(zaf (zbx (zj3 hr.units (SO.se (zbU [] 1 ["pair"] rfl (zbc (zab 2)) (fun C s H fp=>(zal 0 ndk)) (fun C s H fp=>zaz) (fun C s H fp=>(zbS (zaa (zak 0 zag) (zaa (zak 0 zag) zae)))))) (zan zbQ hr (zaa (zab 1) zae) (hlen:=(zac zai))))
  (zaj (zaD zhu))
  zaJ)
  (zaj (zaD (zgy rfl bn.all' (zaa (SO.se (zbU [0] 1 ["line","pair"] rfl (zbc (zab 2)) (fun C s H fp=>(zal 1 ndk)) (fun C s H fp=>zaz) (fun C s H fp=>(zan zfc hr (zaa (zab 0) (zaa (zab 1) zae)) (hlen:=(zac (zac zai))))))) zae)))))
abbrev zfN:Stmt:=top 50
def ziF:MS:=
 (sSeq (sSet 3 (zaN zaW (zad (eVar 0) aNil)))
  (sRet (eAnd (zaN zd7 (zad (eVar 0) (zad (eVar 1) (zad (eVar 3) (zad (eIxV 2 (eC (.int 0))) aNil))))) (zaN ze6 (zad (eVar 0) (zad (eVar 3) (zad (eIxV 2 (eC (.int 1))) aNil)))))))
def zd4:MS:=
 (sSeq (sIf (tTru (m2 zlS (zaN zbb (zad (eVar 0) aNil)) (eC .non)))
  (sRet (eC (.bl false)))
  zbA)
  ziF)
def zb0:List D->Option Sl:=fP 4 zd4
theorem zjM (zaL:FD P w K mg base 6 "free_rests" (spP K 1 zaW))(za3:FD P w K mg base 3 "line_paper" (spP K 1 zbb))(zek:FD P w K mg base 4 "pairs_right" (spP K 3 ze6))(zdw:FD P w K mg base 5 "places_right" (spP K 4 zd7))(h:FnAt K "settle_right" zfN):FD P w K mg base 7 "settle_right" (spP K 3 zb0):=
 fdP (N:=["line","costs","told","free"]) (k:=6) (m:=zd4) X G h fun _ _ _ _ _ _ _ hr nd=>(zaf (zbx (zlx (zan za3 hr (zaa (zab 0) zae) (hlen:=(zac zai))) zkw)
  (zaj (zaD zhu))
  zaJ)
  (zaf (zay 3 (zan zaL hr (zaa (zab 0) zae) (hlen := (zac zai))) nd)
  (zaj (zaD (znd (zan zdw hr (zaa (zab 0) (zaa (zab 1) (zaa (zab 3) (zaa (zak 2 zag) zae)))) (hlen:=(zac (zac (zac (zac zai)))))) (zn9 (zan zek hr (zaa (zab 0) (zaa (zab 3) (zaa (zak 2 zag) zae))) (hlen:=(zac (zac (zac zai)))))))))))
abbrev ziY:Stmt:=top 52
def zep:MS:=
 (zje (oLst (zad (mC (d2I max2) (zad (eC (.int 0)) (zad (m2 dSub (eVar 2) (m2 dPow (eC (.int 10)) (eC (.int 18)))) aNil))) (zad (m2 dMod (m2 dMul (m2 dAdd (m2 dAdd (m2 dMod (eVar 2) (eC (.int 2147483629))) (m2 dMul (eC (.int 7919)) (eVar 1))) (eC (.int 1))) (eC (.int 48271))) (eC (.int 2147483647))) aNil))))
def zhn:MS:=
 (sSeq (sSet 2 (eC (.int 0)))
  (sSeq (sIf (tTru (m2 dLt (eVar 1) (zcq 0)))
  (sSet 2 (m2 dMod (eIxV 0 (eVar 1)) (m2 dMul (m2 dMul (m2 dMul (m2 dPow (eC (.int 10)) (eC (.int 64))) (m2 dPow (eC (.int 10)) (eC (.int 64)))) (m2 dPow (eC (.int 10)) (eC (.int 64)))) (m2 dPow (eC (.int 10)) (eC (.int 64))))))
  zbA)
  zep))
def zdC:List D->Option Sl:=fP 3 zhn
theorem zmF (h:FnAt K "_law_pool" ziY):FD P w K mg base 1 "_law_pool" (spP K 2 zdC):=
 fdP (N:=["script","k","cell"]) (k:=0) (m:=zhn) X G h fun _ _ _ _ _ _ _ hr nd=>(zaf (zay 2 zag nd)
  (zaf (zbx (st_lt (zab 1) (za2 0 bn.len'))
  (zaj (zay 2 (zdS (zak 0 (zab 1)) (zey (zey (zey (zgg zag zag) (zgg zag zag)) (zgg zag zag)) (zgg zag zag))) nd))
  zaJ)
  (zaj (zeh (zbT (zaa (zkA rfl bn.max' (zaa zag (zaa (zb9 (zab 2) (zgg zag zag)) zae))) (zaa (zdS (zey (zaP (zaP (zdS (zab 2) zag) (zey zag (zab 1))) zag) zag) zag) zae)))))))
abbrev ziM:Stmt:=top 53
def zg1:MS:=
 (sSeq (sPut 0 (eC (.int 1)) (m2 dMod (m2 dAdd (m2 dMul (eIxV 0 (eC (.int 1))) (eC (.int 69621))) (eC (.int 12345))) (eC (.int 2147483647))))
  (sRet (m2 dMod (m2 dDiv (m2 dMod (m2 dMul (eIxV 0 (eC (.int 1))) (eIxV 0 (eC (.int 1)))) (eC (.int 2147483629))) (eC (.int 64))) (eVar 1))))
def zhv:MS:=
 (sSeq (sIf (tTru (m2 dGt (eIxV 0 (eC (.int 0))) (eC (.int 0))))
  (sSeq (sSet 2 (m2 dMod (eIxV 0 (eC (.int 0))) (eVar 1)))
  (sSeq (sPut 0 (eC (.int 0)) (m2 dDiv (eIxV 0 (eC (.int 0))) (eVar 1)))
  (zlG 2)))
  zbA)
  zg1)
def zaq:List D->List D->Option (Sl×List D):=fM 3 zhv
theorem zmt (h:FnAt K "_law_pick" ziM):FD P w K mg base 1 "_law_pick" (spM K 2 zaq):=
 fdM (N:=["pool","many","digit"]) (k:=0) (m:=zhv) X G h fun _ _ _ _ _ _ _ hr nd=>(zaf (zbx (st_gt (zak 0 zag) zag)
  (zaf (zay 2 (zdS (zak 0 zag) (zab 1)) nd)
  (zaf (zlb 0 (se_div (zak 0 zag) (zab 1)) zag)
  (zaj (zii 2))))
  zaJ)
  (zaf (zlb 0 (zdS (zaP (zey (zak 0 zag) zag) zag) zag) zag)
  (zaj (zaD (zdS (se_div (zdS (zey (zak 0 zag) (zak 0 zag)) zag) zag) (zab 1))))))
abbrev zi4:Stmt:=top 54
def zhj:MS:=
 (sRet (m2 dMul (zbk zaq 0 (zad (eC (.int 9)) aNil)) (m2 dIx (eTup (zad (eC (.int 1)) (zad (m2 dPow (eC (.int 10)) (eC (.int 3))) (zad (m2 dPow (eC (.int 10)) (eC (.int 20))) (zad (m2 dPow (eC (.int 10)) (eC (.int 58))) aNil))))) (zbk zaq 0 (zad (eC (.int 4)) aNil)))))
def zhi:MS:=
 (sSeq (sIf (tTru (m2 dEq (eVar 1) (eC (.int 2))))
  (sRet (m2 dMul (zbk zaq 0 (zad (eC (.int 2)) aNil)) (zbk zaq 0 (zad (eC (.int 40)) aNil))))
  zbA)
  zhj)
def zhe:MS:=
 (sSeq (sIf (tTru (m2 dEq (eVar 1) (eC (.int 1))))
  (sRet (zbk zaq 0 (zad (eC (.int 4)) aNil)))
  zbA)
  zhi)
def zhl:MS:=
 (sSeq (sIf (tTru (m2 dEq (eVar 1) (eC (.int 0))))
  (sRet (zbk zaq 0 (zad (eC (.int 2)) aNil)))
  zbA)
  zhe)
def zcD:List D->List D->Option (Sl×List D):=fM 2 zhl
theorem zmR (zam:FD P w K mg base 1 "_law_pick" (spM K 2 zaq))(h:FnAt K "_law_wide" zi4):FD P w K mg base 2 "_law_wide" (spM K 2 zcD):=
 fdM (N:=["pool","way"]) (k:=1) (m:=zhl) X G h fun _ _ _ _ _ _ _ hr nd=>(zaf (zbx (zjm hr.units (zab 1) zag)
  (zaj (zaD (zaM 0 zam hr (zaa zag zae) (zcQ (zac zai)))))
  zaJ)
  (zaf (zbx (zjm hr.units (zab 1) zag)
  (zaj (zaD (zaM 0 zam hr (zaa zag zae) (zcQ (zac zai)))))
  zaJ)
  (zaf (zbx (zjm hr.units (zab 1) zag)
  (zaj (zaD (zey (zaM 0 zam hr (zaa zag zae) (zcQ (zac zai))) (zaM 0 zam hr (zaa zag zae) (zcQ (zac zai))))))
  zaJ)
  (zaj (zaD (zey (zaM 0 zam hr (zaa zag zae) (zcQ (zac zai))) (zbJ (zbS (zaa zag (zaa (zgg zag zag) (zaa (zgg zag zag) (zaa (zgg zag zag) zae))))) (zaM 0 zam hr (zaa zag zae) (zcQ (zac zai))))))))))
abbrev ziO:Stmt:=top 55
def zg6:ME:=
 (mC dSum (zad (eCut (eVar 0) (zcP (eVar 2)) (zcP (m2 dAdd (eVar 2) (eVar 1)))) aNil))
def zgZ:MO:=
 oLC [0,1] 1 (iR1 (zad (m2 dAdd (m2 dSub (zcq 0) (eVar 1)) (eC (.int 1))) aNil)) (gN 2) zbf zg6
def zhq:MS:=
 (sRet (mC zcf (zad (eFz zgZ) aNil)))
def zdt:List D->Option Sl:=fP 2 zhq
theorem zmH (h:FnAt K "_law_sums" ziO):FD P w K mg base 1 "_law_sums" (spP K 2 zdt):=
 fdP (N:=["row","k"]) (k:=0) (m:=zhq) X G h fun _ _ _ _ _ _ _ hr nd=>(zaj (zaD (zb1 bn.tuple' (zaa (SO.se (zbU [0,1] 1 ["row","k","at"] rfl (zaZ bn.range' (zaa (zaP (zb9 (za2 0 bn.len') (zab 1)) zag) zae)) (fun C s H fp=>(zal 2 ndk)) (fun C s H fp=>zaz) (fun C s H fp=>(zgT rfl bn.sum' (zaa (zdV (zab 0) (za1 (zab 2)) (za1 (zaP (zab 2) (zab 1)))) zae))))) zae))))
abbrev zi7:Stmt:=top 56
def zg9:MS:=
 (sSeq (sSet 11 (m2 dMul (m2 dSub (zbk zaq 0 (zad (eC (.int 13)) aNil)) (eC (.int 6))) (eVar 5)))
  (sSeq (sApp 7 (eVar 11))
  (sSeq (sApp 8 (m2 dSub (eVar 11) (zbk zcD 0 (zad (eVar 6) aNil))))
  (sApp 9 (m2 dAdd (eVar 11) (zbk zcD 0 (zad (eVar 6) aNil)))))))
def zg2:MS:=
 sFor (iR1 (zad (eVar 4) aNil)) (gN 10) zg9
def zhx:MS:=
 (sSeq (sSet 3 (m2 dAdd (eC (.int 2)) (zbk zaq 0 (zad (eC (.int 4)) aNil))))
  (sSeq (sSet 4 (mC (d2I min2) (zad (eVar 1) (zad (m2 dIx (eTup (zad (eVar 3) (zad (m2 dAdd (eVar 3) (zbk zaq 0 (zad (eC (.int 4)) aNil))) (zad (m2 dAdd (eVar 3) (zbk zaq 0 (zad (m2 dAdd (m2 dSub (eVar 1) (eVar 3)) (eC (.int 1))) aNil))) (zad (eVar 1) aNil))))) (zbk zaq 0 (zad (eC (.int 4)) aNil))) aNil))))
  (sSeq (sSet 5 (m2 dIx (eTup (zad (eC (.int 1)) (zad (eC (.int 1)) (zad (m2 dPow (eC (.int 10)) (eC (.int 57))) aNil)))) (zbk zaq 0 (zad (eC (.int 3)) aNil))))
  (sSeq (sSet 6 (zbk zaq 0 (zad (eVar 2) aNil)))
  (sSeq (zgR 7 (oLst aNil))
  (sSeq (zgR 8 (oLst aNil))
  (sSeq (zgR 9 (oLst aNil))
  (sSeq zg2
  (sRet (eTup (zad (eVar 3) (zad (zaN zdt (zad (eVar 7) (zad (eVar 3) aNil))) (zad (mC zcf (zad (eVar 8) aNil)) (zad (mC zcf (zad (eVar 9) aNil)) aNil))))))))))))))
def zdB:List D->List D->Option (Sl×List D):=fM 12 zhx
theorem zmr (zam:FD P w K mg base 1 "_law_pick" (spM K 2 zaq))(zf8:FD P w K mg base 1 "_law_sums" (spP K 2 zdt))(zdT:FD P w K mg base 2 "_law_wide" (spM K 2 zcD))(h:FnAt K "_law_line" zi7):FD P w K mg base 3 "_law_line" (spM K 3 zdB):=
 fdM (N:=["pool","most","ways","k","many","great","way","row","least","greatest","place","number"]) (k:=2) (m:=zhx) X G h fun _ _ _ _ _ _ _ hr nd=>(zaf (zay 3 (zaP zag (zaM 0 zam hr (zaa zag zae) (zcQ (zac zai)))) nd)
  (zaf (zay 4 (znX rfl bn.min' (zaa (zab 1) (zaa (zbJ (zbS (zaa (zab 3) (zaa (zaP (zab 3) (zaM 0 zam hr (zaa zag zae) (zcQ (zac zai)))) (zaa (zaP (zab 3) (zaM 0 zam hr (zaa (zaP (zb9 (zab 1) (zab 3)) zag) zae) (zcQ (zac zai)))) (zaa (zab 1) zae))))) (zaM 0 zam hr (zaa zag zae) (zcQ (zac zai)))) zae))) nd)
  (zaf (zay 5 (zbJ (zbS (zaa zag (zaa zag (zaa (zgg zag zag) zae)))) (zaM 0 zam hr (zaa zag zae) (zcQ (zac zai)))) nd)
  (zaf (zay 6 (zaM 0 zam hr (zaa (zab 2) zae) (zcQ (zac zai))) nd)
  (zaf (zcV 7 (zbT zae) nd)
  (zaf (zcV 8 (zbT zae) nd)
  (zaf (zcV 9 (zbT zae) nd)
  (zaf (zg3 PassesOwn.never rfl (zaZ bn.range' (zaa (zab 4) zae)) (zal 10 nd)
  (zaf (zay 11 (zey (zb9 (zaM 0 zam hr (zaa zag zae) (zcQ (zac zai))) zag) (zab 5)) nd)
  (zaf (ziW 7 (zab 11))
  (zaf (ziW 8 (zb9 (zab 11) (zaM 0 zdT hr (zaa (zab 6) zae) (zcQ (zac zai)))))
  (zaj (ziW 9 (zaP (zab 11) (zaM 0 zdT hr (zaa (zab 6) zae) (zcQ (zac zai))))))))))
  (zaj (zaD (zbS (zaa (zab 3) (zaa (zan zf8 hr (zaa (zab 7) (zaa (zab 3) zae)) (hlen:=(zac (zac zai)))) (zaa (zb1 bn.tuple' (zaa (zab 8) zae)) (zaa (zb1 bn.tuple' (zaa (zab 9) zae)) zae)))))))))))))))
abbrev zi2:Stmt:=top 57
def zgX:ME:=
 (m2 dAdd (eVar 1) (eVar 0))
def zha:MO:=
 oLC [7] 1 (iSeq (eVar 3)) (gN 1) zbf zgX
def zgW:ME:=
 (m2 dAdd (eVar 1) (eVar 0))
def zg0:MO:=
 oLC [7] 1 (iSeq (eCut (eVar 3) (zcP (eVar 8)) pNo)) (gN 1) zbf zgW
def zd6:MS:=
 (sRet (eTup (zad (eVar 2) (zad (eVar 3) (zad (eVar 4) (zad (eVar 5) aNil))))))
def zd8:MS:=
 (sSeq (sIf (tTru (m2 dEq (eVar 6) (eC (.int 5))))
  (sSet 3 (m2 dAdd (eCut (eVar 3) pNo (zcP (eVar 8))) (mC zcf (zad (eFz zg0) aNil))))
  zbA)
  zd6)
def zem:MS:=
 (sSeq (sIf (tTru (m2 dEq (eVar 6) (eC (.int 4))))
  (sSet 5 (m2 dAdd (m2 dAdd (eCut (eVar 5) pNo (zcP (eVar 9))) (eTup (zad (eIxV 4 (eVar 9)) aNil))) (eCut (eVar 5) (zcP (m2 dAdd (eVar 9) (eC (.int 1)))) pNo)))
  zbA)
  zd8)
def zec:MS:=
 (sSeq (sIf (tTru (m2 dEq (eVar 6) (eC (.int 3))))
  (sSet 4 (m2 dAdd (m2 dAdd (eCut (eVar 4) pNo (zcP (eVar 9))) (eTup (zad (eIxV 5 (eVar 9)) aNil))) (eCut (eVar 4) (zcP (m2 dAdd (eVar 9) (eC (.int 1)))) pNo)))
  zbA)
  zem)
def zd5:MS:=
 (sSeq (sIf (tTru (m2 dEq (eVar 6) (eC (.int 2))))
  (sSet 3 (mC zcf (zad (eFz zha) aNil)))
  zbA)
  zec)
def zhp:MS:=
 (sSeq (sAsg (eVar 1) (gT 4 (zaE (gN 2) (zaE (gN 3) (zaE (gN 4) (zaE (gN 5) zdH))))))
  (sSeq (sSet 6 (zbk zaq 0 (zad (eC (.int 6)) aNil)))
  (sSeq (sSet 7 (m2 dIx (eTup (zad (eC (.int 1)) (zad (m1 dNeg (eC (.int 1))) (zad (eC (.int 2)) (zad (m1 dNeg (eC (.int 3))) (zad (m2 dPow (eC (.int 10)) (eC (.int 58))) (zad (m1 dNeg (m2 dPow (eC (.int 10)) (eC (.int 58)))) aNil))))))) (zbk zaq 0 (zad (eC (.int 6)) aNil))))
  (sSeq (sSet 8 (zbk zaq 0 (zad (zcq 3) aNil)))
  (sSeq (sSet 9 (zbk zaq 0 (zad (zcq 4) aNil)))
  (sSeq (sIf (tTru (m2 dEq (eVar 6) (eC (.int 1))))
  (sSet 3 (m2 dAdd (m2 dAdd (eCut (eVar 3) pNo (zcP (eVar 8))) (eTup (zad (m2 dAdd (eIxV 3 (eVar 8)) (eVar 7)) aNil))) (eCut (eVar 3) (zcP (m2 dAdd (eVar 8) (eC (.int 1)))) pNo)))
  zbA)
  zd5))))))
def zdy:List D->List D->Option (Sl×List D):=fM 10 zhp
theorem zm9 (zam:FD P w K mg base 1 "_law_pick" (spM K 2 zaq))(h:FnAt K "_law_bent" zi2):FD P w K mg base 2 "_law_bent" (spM K 2 zdy):=
 fdM (N:=["pool","line","k","sums","least","greatest","way","by","at","place"]) (k:=1) (m:=zhp) X G h fun _ _ _ _ _ _ _ hr nd=>(zaf (zqd (zab 1) (zca rfl (zao (zal 2 nd) (zao (zal 3 nd) (zao (zal 4 nd) (zao (zal 5 nd) zbn))))))
  (zaf (zay 6 (zaM 0 zam hr (zaa zag zae) (zcQ (zac zai))) nd)
  (zaf (zay 7 (zbJ (zbS (zaa zag (zaa (zhg zag) (zaa zag (zaa (zhg zag) (zaa (zgg zag zag) (zaa (zhg (zgg zag zag)) zae))))))) (zaM 0 zam hr (zaa zag zae) (zcQ (zac zai)))) nd)
  (zaf (zay 8 (zaM 0 zam hr (zaa (za2 3 bn.len') zae) (zcQ (zac zai))) nd)
  (zaf (zay 9 (zaM 0 zam hr (zaa (za2 4 bn.len') zae) (zcQ (zac zai))) nd)
  (zaf (zbx (zjm hr.units (zab 6) zag)
  (zaj (zay 3 (zaP (zaP (zdV (zab 3) zgQ (za1 (zab 8))) (zbS (zaa (zaP (zak 3 (zab 8)) (zab 7)) zae))) (zdV (zab 3) (za1 (zaP (zab 8) zag)) zgQ)) nd))
  zaJ)
  (zaf (zbx (zjm hr.units (zab 6) zag)
  (zaj (zay 3 (zb1 bn.tuple' (zaa (SO.se (zbU [7] 1 ["by","some"] rfl (zbc (zab 3)) (fun C s H fp=>(zal 1 ndk)) (fun C s H fp=>zaz) (fun C s H fp=>(zaP (zab 1) (zab 0))))) zae)) nd))
  zaJ)
  (zaf (zbx (zjm hr.units (zab 6) zag)
  (zaj (zay 4 (zaP (zaP (zdV (zab 4) zgQ (za1 (zab 9))) (zbS (zaa (zak 5 (zab 9)) zae))) (zdV (zab 4) (za1 (zaP (zab 9) zag)) zgQ)) nd))
  zaJ)
  (zaf (zbx (zjm hr.units (zab 6) zag)
  (zaj (zay 5 (zaP (zaP (zdV (zab 5) zgQ (za1 (zab 9))) (zbS (zaa (zak 4 (zab 9)) zae))) (zdV (zab 5) (za1 (zaP (zab 9) zag)) zgQ)) nd))
  zaJ)
  (zaf (zbx (zjm hr.units (zab 6) zag)
  (zaj (zay 3 (zaP (zdV (zab 3) zgQ (za1 (zab 8))) (zb1 bn.tuple' (zaa (SO.se (zbU [7] 1 ["by","some"] rfl (zbc (zdV (zab 3) (za1 (zab 8)) zgQ)) (fun C s H fp=>(zal 1 ndk)) (fun C s H fp=>zaz) (fun C s H fp=>(zaP (zab 1) (zab 0))))) zae))) nd))
  zaJ)
  (zaj (zaD (zbS (zaa (zab 2) (zaa (zab 3) (zaa (zab 4) (zaa (zab 5) zae)))))))))))))))))
abbrev zhN:Stmt:=top 58
def zf0:MS:=
 (sSet 7 (m2 dSub (m2 dAdd (eVar 7) (eIxV 2 (m2 dAdd (eVar 8) (eC (.int 1))))) (eIxV 2 (eVar 8))))
def zfF:MS:=
 sFor (iR3 (zad (m2 dMod (eVar 6) (eVar 1)) (zad (eVar 6) (zad (eVar 1) aNil)))) (gN 8) zf0
def zgd:MS:=
 (sSeq (sSet 7 (eC (.int 0)))
  (sSeq zfF
  (sApp 5 (eVar 7))))
def zgr:MS:=
 sFor (iR1 (zad (zcq 3) aNil)) (gN 6) zgd
def zf1:MS:=
 (sSeq (sAsg (eVar 0) (gT 4 (zaE (gN 1) (zaE (gN 2) (zaE (gN 3) (zaE (gN 4) zdH))))))
  (sSeq (zgR 5 (oLst aNil))
  (sSeq zgr
  (zlG 5))))
def zcN:List D->Option Sl:=fP 9 zf1
theorem zlF (h:FnAt K "_law_mores" zhN):FD P w K mg base 1 "_law_mores" (spP K 1 zcN):=
 fdP (N:=["line","k","sums","least","greatest","found","place","more","at"]) (k:=0) (m:=zf1) X G h fun _ _ _ _ _ _ _ hr nd=>(zaf (zqd (zab 0) (zca rfl (zao (zal 1 nd) (zao (zal 2 nd) (zao (zal 3 nd) (zao (zal 4 nd) zbn))))))
  (zaf (zcV 5 (zbT zae) nd)
  (zaf (zg3 PassesOwn.never rfl (zaZ bn.range' (zaa (za2 3 bn.len') zae)) (zal 6 nd)
  (zaf (zay 7 zag nd)
  (zaf (zg3 PassesOwn.never rfl (zkv bn.range' (zaa (zdS (zab 6) (zab 1)) (zaa (zab 6) (zaa (zab 1) zae)))) (zal 8 nd)
  (zaj (zay 7 (zb9 (zaP (zab 7) (zak 2 (zaP (zab 8) zag))) (zak 2 (zab 8))) nd)))
  (zaj (ziW 5 (zab 7))))))
  (zaj (zii 5)))))
abbrev zia:Stmt:=top 59
def zdq:ME:=
 (m2 dSub (eIxV 0 (eVar 2)) (eIxV 1 (eVar 2)))
def zgF:MO:=
 oLC [3,5] 1 (iR3 (zad (eVar 7) (zad (zcq 3) (zad (eVar 1) aNil)))) (gN 2) zbf zdq
def zkm:ME:=
 (m2 dSub (eIxV 0 (eVar 2)) (eIxV 1 (eVar 2)))
def zfM:MO:=
 oLC [4,5] 1 (iR3 (zad (eVar 7) (zad (zcq 3) (zad (eVar 1) aNil)))) (gN 2) zbf zkm
def zgu:MS:=
 (sSeq (sSet 8 (eFz zgF))
  (sSeq (sSet 9 (eFz zfM))
  (sApp 6 (eTup (zad (mC zkM (zad (eVar 8) aNil)) (zad (mC zgS (zad (eVar 9) aNil)) aNil))))))
def zfH:MS:=
 sFor (iR1 (zad (eVar 1) aNil)) (gN 7) zgu
def zfQ:MS:=
 (sSeq (sAsg (eVar 0) (gT 4 (zaE (gN 1) (zaE (gN 2) (zaE (gN 3) (zaE (gN 4) zdH))))))
  (sSeq (sSet 5 (zaN zcN (zad (eVar 0) aNil)))
  (sSeq (zgR 6 (oLst aNil))
  (sSeq zfH
  (zlG 6)))))
def zcL:List D->Option Sl:=fP 10 zfQ
theorem zlo (zeQ:FD P w K mg base 1 "_law_mores" (spP K 1 zcN))(h:FnAt K "_law_spans" zia):FD P w K mg base 2 "_law_spans" (spP K 1 zcL):=
 fdP (N:=["line","k","sums","least","greatest","mores","found","rest","lows","highs"]) (k:=1) (m:=zfQ) X G h fun _ _ _ _ _ _ _ hr nd=>(zaf (zqd (zab 0) (zca rfl (zao (zal 1 nd) (zao (zal 2 nd) (zao (zal 3 nd) (zao (zal 4 nd) zbn))))))
  (zaf (zay 5 (zan zeQ hr (zaa (zab 0) zae) (hlen := (zac zai))) nd)
  (zaf (zcV 6 (zbT zae) nd)
  (zaf (zg3 PassesOwn.never rfl (zaZ bn.range' (zaa (zab 1) zae)) (zal 7 nd)
  (zaf (zeI 8 [3, 5] 1 ["least", "mores", "place"] rfl (zkv bn.range' (zaa (zab 7) (zaa (za2 3 bn.len') (zaa (zab 1) zae)))) (fun C s H fp => (zal 2 ndk)) (fun C s H fp => zaz) (fun C s H fp => (zb9 (zak 0 (zab 2)) (zak 1 (zab 2)))) nd)
  (zaf (zeI 9 [4, 5] 1 ["greatest", "mores", "place"] rfl (zkv bn.range' (zaa (zab 7) (zaa (za2 3 bn.len') (zaa (zab 1) zae)))) (fun C s H fp => (zal 2 ndk)) (fun C s H fp => zaz) (fun C s H fp => (zb9 (zak 0 (zab 2)) (zak 1 (zab 2)))) nd)
  (zaj (ziW 6 (zbS (zaa (zrp rfl bn.max' (zaa (zab 8) zae)) (zaa (zme rfl bn.min' (zaa (zab 9) zae)) zae))))))))
  (zaj (zii 6))))))
abbrev zfh:Stmt:=top 60
def zdU:ME:=
 (m2 dLe (eVar 0) (eVar 1))
def zdW:MO:=
 oLC [] 2 (iSeq (eVar 1)) (gT 2 (zaE (gN 0) (zaE (gN 1) zdH))) zbf zdU
def zdX:ME:=
 (eVar 0)
def zdO:MO:=
 oLC [] 2 (iSeq (eVar 1)) (gT 2 (zaE (gN 0) (zaE (gN 1) zdH))) zbf zdX
def zd1:ME:=
 (eVar 1)
def zdP:MO:=
 oLC [] 2 (iSeq (eVar 1)) (gT 2 (zaE (gN 0) (zaE (gN 1) zdH))) zbf zd1
def zdZ:MS:=
 (sRet (ziX dLe dLe (mC dSum (zad (eFz zdO) aNil)) (m2 dIx (eIxV 0 (eC (.int 1))) (eC (.int 0))) (mC dSum (zad (eFz zdP) aNil))))
def zdp:MS:=
 (sSeq (sSet 1 (zaN zcL (zad (eVar 0) aNil)))
  (sSeq (sIf (zgp (tTru (mC (dAll fun bs => bs.all id) (zad (eFz zdW) aNil))))
  (sRet (eC (.bl false)))
  zbA)
  zdZ))
def zbD:List D->Option Sl:=fP 2 zdp
theorem zju (ze8:FD P w K mg base 2 "_law_spans" (spP K 1 zcL))(h:FnAt K "_law_some_fit" zfh):FD P w K mg base 3 "_law_some_fit" (spP K 1 zbD):=
 fdP (N:=["line","spans"]) (k:=2) (m:=zdp) X G h fun _ _ _ _ _ _ _ hr nd=>(zaf (zay 1 (zan ze8 hr (zaa (zab 0) zae) (hlen:=(zac zai))) nd)
  (zaf (zbx (zdk (zbl (zgy rfl bn.all' (zaa (SO.se (zbU [] 2 ["low", "high"] rfl (zbc (zab 1)) (fun C s H fp => (zca rfl (zao (zal 0 ndk) (zao (zal 1 ndk) zbn)))) (fun C s H fp => zaz) (fun C s H fp => (se_le (zab 0) (zab 1))))) zae))))
  (zaj (zaD zhu))
  zaJ)
  (zaj (zaD (zjI znJ znJ zfq zfq (zgT rfl bn.sum' (zaa (SO.se (zbU [] 2 ["low","high"] rfl (zbc (zab 1)) (fun C s H fp=>(zca rfl (zao (zal 0 ndk) (zao (zal 1 ndk) zbn)))) (fun C s H fp=>zaz) (fun C s H fp=>(zab 0)))) zae)) (zbJ (zak 0 zag) zag) (zgT rfl bn.sum' (zaa (SO.se (zbU [] 2 ["low","high"] rfl (zbc (zab 1)) (fun C s H fp=>(zca rfl (zao (zal 0 ndk) (zao (zal 1 ndk) zbn)))) (fun C s H fp=>zaz) (fun C s H fp=>(zab 1)))) zae)))))))
abbrev zh5:Stmt:=top 61
def zgh:MS:=
 (sRet (eAnd (m2 dEq (m2 zqn (eVar 2) (eC (.bl true))) (eC (.int 1))) (eIxV 2 (eVar 1))))
def zgc:MS:=
 (sSeq (zgR 2 (oLst (zad (eIsO zen (eVar 0)) (zad (eIsO zjP (eVar 0)) (zad (eIsO zgz (eVar 0)) (zad (eIsO zhy (eVar 0)) (zad (eIsO zhr (eVar 0)) (zad (eIsO ziI (eVar 0)) (zad (eIsO zis (eVar 0)) (zad (eIsO zjQ (eVar 0)) (zad (eIsO zig (eVar 0)) aNil)))))))))))
  (sSeq (sIf (tOrM (zgp (tTru (eIsO zgl (eVar 0)))) (zgp (tTru (eIsO zef (eVar 0)))))
  (sRet (eC (.bl false)))
  zbA)
  zgh))
def zcc:List D->Option Sl:=fP 3 zgc
theorem zlu (h:FnAt K "_law_alone" zh5):FD P w K mg base 1 "_law_alone" (spP K 2 zcc):=
 fdP (N:=["e","place","some"]) (k:=0) (m:=zgc) X G h fun _ _ _ _ _ _ _ hr nd=>(zaf (zcV 2 (zbT (zaa (zeu bn.isinstance' bn.i_BadTelling (zab 0)) (zaa (zeu bn.isinstance' bn.i_NoFit (zab 0)) (zaa (zeu bn.isinstance' bn.i_NoNumber (zab 0)) (zaa (zeu bn.isinstance' bn.i_NoPlace (zab 0)) (zaa (zeu bn.isinstance' bn.i_NotTwos (zab 0)) (zaa (zeu bn.isinstance' bn.i_NoPast (zab 0)) (zaa (zeu bn.isinstance' bn.i_NoText (zab 0)) (zaa (zeu bn.isinstance' bn.i_NoRow (zab 0)) (zaa (zeu bn.isinstance' bn.i_Unlike (zab 0)) zae)))))))))) nd)
  (zaf (zbx (STw.st (zoU (zdk (zbl (zeu bn.isinstance' bn.i_SumError (zab 0)))) (zlk (zdk (zbl (se_isOT bn.isinstance' bn.ValueError' (by decide +kernel) bn.i_ValueError (zab 0)))))))
  (zaj (zaD zhu))
  zaJ)
  (zaj (zaD (znd (zo1 hr.units (se_count (zab 2) zhu) zag) (zn9 (zak 2 (zab 1))))))))
abbrev zi0:Stmt:=top 62
def zcG:MS:=
 (sIf (tTru (m2 dEq (eVar 0) (eC (.int 0))))
  (zpY (zpQ zce (zad (eVar 1) (zad (eVar 2) aNil))))
  (sIf (tTru (m2 dEq (eVar 0) (eC (.int 1))))
  (zpY (zaN zaW (zad (eVar 1) aNil)))
  (zpY (zaN zfW (zad (eVar 1) (zad (eVar 2) aNil))))))
def zbh:MX:=
 (xIfE (tTru (m2 dEq (eVar 0) (eC (.int 0)))) (zkF zbe (zad (eVar 1) (zad (eVar 2) aNil))) (xIfE (tTru (m2 dEq (eVar 0) (eC (.int 1)))) (zkF zaS (zad (eVar 1) aNil)) (zkF zcH (zad (eVar 1) (zad (eVar 2) aNil)))))
def zhb:ME:=
 (eVar 1)
def zgY:MT:=
 (tTru (zaN zcc (zad (eVar 0) (zad (eVar 1) aNil))))
def zhd:MO:=
 oLC [3] 1 (iR1 (zad (eC (.int 9)) aNil)) (gN 1) zgY zhb
def zg4:MS:=
 (sRet (m2 dIx (m2 dAdd (eFz zhd) (eFz (oLst (zad (eC (.int 9)) aNil)))) (eC (.int 0))))
def zbv:MS:=
 (sSeq (sIf (tTru (m2 dIsN (eVar 3) (eC .non)))
  (sRet (m1 dNeg (eC (.int 1))))
  zbA)
  zg4)
def zdf:MS:=
 (sSeq (sSet 3 (eC .non))
  (sSeq (sTry zcG zbh ["NoFit", "NoPlace", "Unlike"] 3 4)
  zbv))
def zaH:List D->Option Sl:=fP 5 zdf
theorem zmL (zeM:FD P w K mg base 1 "_law_alone" (spP K 2 zcc))(zaL:FD P w K mg base 6 "free_rests" (spP K 1 zaW))(zei:FD P w K mg base 7 "line_settle" (spP K 2 zce))(ziB:FD P w K mg base 7 "settles" (spP K 2 zfW))(zaV:FDX P w K mg base 6 "free_rests" (spX K 1 zaS))(zdm:FDX P w K mg base 7 "line_settle" (spX K 2 zbe))(zhA:FDX P w K mg base 7 "settles" (spX K 2 zcH))(h:FnAt K "_law_said" zi0):FD P w K mg base 8 "_law_said" (spP K 3 zaH):=
 fdP (N:=["which","line","things","found","e"]) (k:=7) (m:=zdf) X G h fun _ _ _ _ _ _ _ hr nd=>(zaf (zay 3 zkw nd)
  (zaf (ss_tryC 3 4 ⟨rfl, rfl, rfl⟩ (fun pins => (zaj (zbx (zjm hr.units (zab 0) zag)
  (zaj (znr (se_callU zei hr (zaa (zab 1) (zaa (zab 2) zae)) (zac (zac zai)))))
  (zaj (zbx (zjm hr.units (zab 0) zag)
  (zaj (znr (zan zaL hr (zaa (zab 1) zae) (hlen:=(zac zai)))))
  (zaj (znr (zan ziB hr (zaa (zab 1) (zaa (zab 2) zae)) (hlen:=(zac (zac zai))))))))))) (fun pins F S E hx=>(zbs (xs_ife (zjm hr.units (zab 0) zag) (zbs (znB (zhm zdm hx hr (zaa (zab 1) (zaa (zab 2) zae)) (hlen:=(zac (zac zai)))))) (zbs (xs_ife (zjm hr.units (zab 0) zag) (zbs (znB (zhm zaV hx hr (zaa (zab 1) zae) (hlen:=(zac zai))))) (zbs (znB (zhm zhA hx hr (zaa (zab 1) (zaa (zab 2) zae)) (hlen:=(zac (zac zai))))))))))) bn.t_SumError nd)
  (zaf (zbx (st_is (zab 3) zkw)
  (zaj (zaD (zhg zag)))
  zaJ)
  (zaj (zaD (zbJ (zaP (SO.se (zbU [3] 1 ["found","place"] rfl (zaZ bn.range' (zaa zag zae)) (fun C s H fp=>(zal 1 ndk)) (fun C s H fp=>(znt (zbl (zan zeM hr (zaa (zab 0) (zaa (zab 1) zae)) (hlen:=(zac (zac zai))))))) (fun C s H fp=>(zab 1)))) (SO.se (zbT (zaa zag zae)))) zag))))))
abbrev zm6:Stmt:=top 63
def zof:ME:=
 (zbk zaq 0 (zad (eC (.int 5)) aNil))
def zou:MO:=
 oLCM [2] 1 0 2 (iR1 (zad (eVar 4) aNil)) (gN 1) zbf zof
def zoz:ME:=
 (m2 dSub (zbk zaq 0 (zad (m2 dAdd (eVar 1) (eC (.int 2))) aNil)) (eC (.int 1)))
def zoB:MO:=
 oLCM [2,4] 1 0 2 (iR1 (zad (zbk zaq 2 (zad (eC (.int 5)) aNil)) aNil)) (gN 2) zbf zoz
def zol:ME:=
 (ziX dLe dLt (eC (.int 0)) (eVar 1) (eVar 0))
def zoA:MO:=
 oLC [4] 1 (iSeq (eVar 8)) (gN 1) zbf zol
def zn4:MS:=
 (sIf (tAndM (zgp (tTru (eVar 5))) (tTru (m2 znO (zaN zb0 (zad (eVar 3) (zad (m2 dMul (eFz (oLst (zad (eC (.int 1)) aNil))) (eVar 4)) (zad (eTup (zad (mC zcf (zad (eVar 8) aNil)) (zad (eFz (oLst aNil)) aNil))) aNil)))) (eC (.bl false)))))
  (sRet (eC (.bl false)))
  zbA)
def zlL:MS:=
 (sSeq (sIf (tOrM (tTru (m2 dNe (zaN zaH (zad (eC (.int 2)) (zad (eVar 3) (zad (eVar 8) aNil)))) (eVar 7))) (tTru (m2 dNe (zaN zaH (zad (eC (.int 1)) (zad (eVar 3) (zad (eFz (oLst aNil)) aNil)))) (m2 dIx (eFz (oLst (zad (eC (.int 1)) (zad (m1 dNeg (eC (.int 1))) aNil)))) (mC dInt (zad (eVar 5) aNil))))))
  (sRet (eC (.bl false)))
  zbA)
  zn4)
def zn7:MS:=
 (sSeq (sSet 8 (eFz zoB))
  (sSeq (sSet 7 (m2 dIx (eFz (oLst (zad (eC (.int 1)) (zad (m1 dNeg (eC (.int 1))) aNil)))) (mC dInt (zad (eVar 5) aNil))))
  (sSeq (sIf (zgp (tTru (mC (dAll fun bs => bs.all id) (zad (eFz zoA) aNil))))
  (sSet 7 (eC (.int 3)))
  zbA)
  zlL)))
def zoC:MS:=
 (sSeq (sIf (tTru (m2 dNe (zaN zaH (zad (eC (.int 1)) (zad (eVar 3) (zad (eFz (oLst aNil)) aNil)))) (m2 dIx (eFz (oLst (zad (eC (.int 1)) (zad (m1 dNeg (eC (.int 1))) aNil)))) (mC dInt (zad (eVar 5) aNil)))))
  (sRet (eC (.bl false)))
  zbA)
  zn7)
def zlQ:MS:=
 (sSeq (sIf (tOrM (tTru (m2 dNe (zaN zaH (zad (eC (.int 0)) (zad (eVar 3) (zad (eVar 6) aNil)))) (eVar 7))) (tTru (m2 dNe (zaN zaH (zad (eC (.int 0)) (zad (eVar 3) (zad (mC zcf (zad (eVar 6) aNil)) aNil)))) (eVar 7))))
  (sRet (eC (.bl false)))
  zbA)
  zoC)
def zoj:MS:=
 (sSeq (zgR 2 (zmD zdC (zad (eVar 0) (zad (eVar 1) aNil))))
  (sSeq (sSet 3 (zbk zdy 2 (zad (zbk zdB 2 (zad (eC (.int 24)) (zad (eC (.int 4)) aNil))) aNil)))
  (sSeq (sSet 4 (mC dLen (zad (eIxV 3 (eC (.int 2))) aNil)))
  (sSeq (sSet 5 (zaN zbD (zad (eVar 3) aNil)))
  (sSeq (sSet 6 (eFz zou))
  (sSeq (sSet 6 (m2 dIx (eFz (oLst (zad (eVar 6) (zad (m2 dAdd (eVar 6) (eFz (oLst (zad (eC (.int 0)) aNil)))) (zad (eCut (eVar 6) (zcP (eC (.int 1))) pNo) (zad (eFz (oLst aNil)) (zad (eVar 6) aNil))))))) (zbk zaq 2 (zad (eC (.int 5)) aNil))))
  (sSeq (sSet 7 (m1 dNeg (eC (.int 1))))
  (sSeq (sIf (tTru (m2 dNe (zcq 6) (eVar 4)))
  (sSet 7 (eC (.int 8)))
  (sIf (zgp (tTru (eVar 5)))
  (sSet 7 (eC (.int 1)))
  zbA))
  zlQ))))))))
def zov:MS:=
 sFor (iR1 (zad (mC (d2I max2) (zad (eC (.int 1)) (zad (mC (d2I min2) (zad (zcq 0) (zad (eC (.int 10)) aNil))) aNil))) aNil)) (gN 1) zoj
def m_law:MS:=
 (sSeq zov
  (sRet (eC (.bl true))))
def zne:List D->Option Sl:=fP 9 m_law
theorem ok_law (zgf:FD P w K mg base 2 "_law_bent" (spM K 2 zdy))(zgD:FD P w K mg base 3 "_law_line" (spM K 3 zdB))(zam:FD P w K mg base 1 "_law_pick" (spM K 2 zaq))(zgv:FD P w K mg base 1 "_law_pool" (spP K 2 zdC))(zbC:FD P w K mg base 8 "_law_said" (spP K 3 zaH))(zcZ:FD P w K mg base 3 "_law_some_fit" (spP K 1 zbD))(zdv:FD P w K mg base 7 "settle_right" (spP K 3 zb0))(F:Fun K "law" "law" zm6 f fd):FnOk P w K mg base CX0 9 f fd ["script"] (spP K 1 zne):=
 lawP (N:=["script","k","pool","line","many","fit","costs","due","places"]) (k:=8) (n:=1) (m:=m_law) F fun _ _ _ _ _ _ _ hr nd=>(zaf (zg3 PassesOwn.never rfl (zaZ bn.range' (zaa (zkA rfl bn.max' (zaa zag (zaa (znX rfl bn.min' (zaa (za2 0 bn.len') (zaa zag zae))) zae))) zae)) (zal 1 nd)
  (zaf (zcV 2 (ziy zgv hr (zaa (zab 0) (zaa (zab 1) zae)) (hlen := (zac (zac zai)))) nd)
  (zaf (zay 3 (zaM 2 zgf hr (zaa (zaM 2 zgD hr (zaa zag (zaa zag zae)) (zcQ (zac (zac zai)))) zae) (zcQ (zac zai))) nd)
  (zaf (zay 4 (zms bn.len' (zaa (zak 3 zag) zae)) nd)
  (zaf (zay 5 (zan zcZ hr (zaa (zab 3) zae) (hlen := (zac zai))) nd)
  (zaf (zlf 6 [2] 1 0 2 ["pool", "place"] rfl (zaZ bn.range' (zaa (zab 4) zae)) (fun C s H fp => (zal 1 ndk)) (fun C s H fp => zaz) (fun C s H fp => (zaM 0 zam hr (zaa zag zae) (zcQ (zac zai)))) nd)
  (zaf (zay 6 (zbJ (SO.se (zbT (zaa (zab 6) (zaa (zaP (zab 6) (SO.se (zbT (zaa zag zae)))) (zaa (zdV (zab 6) (za1 zag) zgQ) (zaa (SO.se (zbT zae)) (zaa (zab 6) zae))))))) (zaM 2 zam hr (zaa zag zae) (zcQ (zac zai)))) nd)
  (zaf (zay 7 (zhg zag) nd)
  (zaf (zbx (zj3 hr.units (za2 6 bn.len') (zab 4))
  (zaj (zay 7 zag nd))
  (zaj (zbx (zdk (zbl (zab 5)))
  (zaj (zay 7 zag nd))
  zaJ)))
  (zaf (zbx (STw.st (zoU (zj3 hr.units (zan zbC hr (zaa zag (zaa (zab 3) (zaa (zab 6) zae))) (hlen := (zac (zac (zac zai))))) (zab 7)) (zlk (zj3 hr.units (zan zbC hr (zaa zag (zaa (zab 3) (zaa (zb1 bn.tuple' (zaa (zab 6) zae)) zae))) (hlen := (zac (zac (zac zai))))) (zab 7)))))
  (zaj (zaD zhu))
  zaJ)
  (zaf (zbx (zj3 hr.units (zan zbC hr (zaa zag (zaa (zab 3) (zaa (SO.se (zbT zae)) zae))) (hlen := (zac (zac (zac zai))))) (zbJ (SO.se (zbT (zaa zag (zaa (zhg zag) zae)))) (zlW bn.int' (zaa (zab 5) zae))))
  (zaj (zaD zhu))
  zaJ)
  (zaf (zlf 8 [2, 4] 1 0 2 ["pool", "many", "turn"] rfl (zaZ bn.range' (zaa (zaM 2 zam hr (zaa zag zae) (zcQ (zac zai))) zae)) (fun C s H fp => (zal 2 ndk)) (fun C s H fp => zaz) (fun C s H fp => (zb9 (zaM 0 zam hr (zaa (zaP (zab 1) zag) zae) (zcQ (zac zai))) zag)) nd)
  (zaf (zay 7 (zbJ (SO.se (zbT (zaa zag (zaa (zhg zag) zae)))) (zlW bn.int' (zaa (zab 5) zae))) nd)
  (zaf (zbx (zdk (zbl (zgy rfl bn.all' (zaa (SO.se (zbU [4] 1 ["many", "place"] rfl (zbc (zab 8)) (fun C s H fp => (zal 1 ndk)) (fun C s H fp => zaz) (fun C s H fp => (zjI znJ op_lt zfq zfq zag (zab 1) (zab 0))))) zae))))
  (zaj (zay 7 zag nd))
  zaJ)
  (zaf (zbx (STw.st (zoU (zj3 hr.units (zan zbC hr (zaa zag (zaa (zab 3) (zaa (zab 8) zae))) (hlen := (zac (zac (zac zai))))) (zab 7)) (zlk (zj3 hr.units (zan zbC hr (zaa zag (zaa (zab 3) (zaa (SO.se (zbT zae)) zae))) (hlen := (zac (zac (zac zai))))) (zbJ (SO.se (zbT (zaa zag (zaa (zhg zag) zae)))) (zlW bn.int' (zaa (zab 5) zae)))))))
  (zaj (zaD zhu))
  zaJ)
  (zaj (zbx (STw.st (sw_and (zdk (zbl (zab 5))) (sw_and1 (st_notB (zan zdv hr (zaa (zab 3) (zaa (zey (SO.se (zbT (zaa zag zae))) (zab 4)) (zaa (zbS (zaa (zb1 bn.tuple' (zaa (zab 8) zae)) (zaa (SO.se (zbT zae)) zae))) zae))) (hlen := (zac (zac (zac zai))))) zhu))))
  (zaj (zaD zhu))
  zaJ)))))))))))))))))
  (zaj (zaD zhu)))
end
set_option maxHeartbeats 0 in
theorem all_mk {l:W.OpenLaw}{w:World}{K:W.Frag}{h:Heap}{mg:Str->Option Value}{fa:Addr}(X:K.In h)(G:h.Ns mainGlobals mg)(hfa:mg "law"=some (.ref fa))
  (h1:FnAt K "less_mores" zic)
  (h2:FnAt K "head_spans" zh7)
  (h3:FnAt K "row_by_heads" zfK)
  (h4:FnAt K "places_asking" zfd)
  (h5:FnAt K "heads_paper" zgV)
  (h6:FnAt K "exchanged_row" zfx)
  (h7:FnAt K "least_heads" zhk)
  (h8:FnAt K "head_ranges" zgU)
  (h9:FnAt K "is_place" zkt)
  (h10:FnAt K "mores_of" zkj)
  (h11:FnAt K "low_asks" zj0)
  (h12:FnAt K "high_asks" ziU)
  (h13:FnAt K "rest_spans" zhK)
  (h14:FnAt K "row_of" zmo)
  (h15:FnAt K "line_paper" zhG)
  (h16:FnAt K "fitting_spans" zcS)
  (h17:FnAt K "sure_rests" zfa)
  (h18:FnAt K "line_sums" ziQ)
  (h19:FnAt K "chosen_sum" zhM)
  (h20:FnAt K "row_within" zh6)
  (h21:FnAt K "rises" zox)
  (h22:FnAt K "line_holds" zh9)
  (h23:FnAt K "free_rests" zeN)
  (h24:FnAt K "two_rows" zkE)
  (h25:FnAt K "settles" zij)
  (h26:FnAt K "rest_pairs" zh1)
  (h27:FnAt K "cheapest_place" zeD)
  (h28:FnAt K "cheapest_places" zd2)
  (h29:FnAt K "line_settle" zej)
  (h30:FnAt K "just_settle" zhc)
  (h31:FnAt K "places_right" zgj)
  (h32:FnAt K "pair_right" zhV)
  (h33:FnAt K "pairs_right" zg7)
  (h34:FnAt K "settle_right" zfN)
  (h35:FnAt K "_law_pool" ziY)
  (h36:FnAt K "_law_pick" ziM)
  (h37:FnAt K "_law_wide" zi4)
  (h38:FnAt K "_law_sums" ziO)
  (h39:FnAt K "_law_line" zi7)
  (h40:FnAt K "_law_bent" zi2)
  (h41:FnAt K "_law_mores" zhN)
  (h42:FnAt K "_law_spans" zia)
  (h43:FnAt K "_law_some_fit" zfh)
  (h44:FnAt K "_law_alone" zh5)
  (h45:FnAt K "_law_said" zi0)
  (h46:FnAt K "law" zm6)
  {c0:Addr} (hh:HostAt K "cheapest_places" 296 c0) (z0:W.nsIn K mainGlobals "ValueError"=some none) (z1:W.nsIn K mainGlobals "all"=some none) (z2:W.nsIn K mainGlobals "enumerate"=some none) (z3:W.nsIn K mainGlobals "int"=some none) (z4:W.nsIn K mainGlobals "isinstance"=some none) (z5:W.nsIn K mainGlobals "len"=some none) (z6:W.nsIn K mainGlobals "max"=some none) (z7:W.nsIn K mainGlobals "min"=some none) (z8:W.nsIn K mainGlobals "range"=some none) (z9:W.nsIn K mainGlobals "sorted"=some none) (z10:W.nsIn K mainGlobals "sum"=some none) (z11:W.nsIn K mainGlobals "tuple"=some none) (z12:W.nsIn K mainGlobals "zip"=some none) {zaB:Addr} (zbE:W.nsIn K mainGlobals "NoFit"=some (some (.ref zaB))) {zap:Addr} (zaX:W.nsIn K mainGlobals "NoPlace"=some (some (.ref zap))) {zas:Addr} (zbd:W.nsIn K mainGlobals "Unlike"=some (some (.ref zas))) {za5:Addr} (zgL:W.nsIn K mainGlobals "SumError"=some (some (.ref za5))) {zbG:Addr} (zf7:W.nsIn K mainGlobals "BadTelling"=some (some (.ref zbG))) {zcp:Addr} (zie:W.nsIn K mainGlobals "NoNumber"=some (some (.ref zcp))) {zeX:Addr} (zlR:W.nsIn K mainGlobals "NoPast"=some (some (.ref zeX))) {zht:Addr} (zng:W.nsIn K mainGlobals "NoRow"=some (some (.ref zht))) {zeS:Addr} (zll:W.nsIn K mainGlobals "NoText"=some (some (.ref zeS))) {zdG:Addr} (zkg:W.nsIn K mainGlobals "NotTwos"=some (some (.ref zdG))) (hsp:W.specialIn K (.builtin "object.__class__") "__get__"=some (some (.builtin "getset_descriptor.__get__"))) (htk:W.takesIn K (.builtin "object.__class__")=some true) {nm_NoFit qn_NoFit:Str} {N_NoFit:Addr} {bs_NoFit sub_NoFit:List Value} {hd_NoFit ab_NoFit:Bool} {sn_NoFit:List Str} {col_NoFit:Option Bool} {dd_NoFit:Option Addr} {j0_NoFit j1_NoFit j2_NoFit j3_NoFit j5_NoFit:Option Value} (ze1:K.lookup zaB=some (excClassObj nm_NoFit qn_NoFit zaB N_NoFit bs_NoFit (.ref za5::bmV) hd_NoFit sn_NoFit sub_NoFit ab_NoFit col_NoFit dd_NoFit j0_NoFit j1_NoFit j2_NoFit j3_NoFit j5_NoFit "ValueError.__new__")) (zlO:W.nsIn K N_NoFit "__init__"=some none) {cN_NoFit:Value} {dN_NoFit:Option Addr} {es_NoFit:List DictEntry} {ep_NoFit:Nat} {sN_NoFit:Array (Option Value)} (zln:K.lookup N_NoFit=some ⟨cN_NoFit,dN_NoFit,.dict es_NoFit.toArray ep_NoFit,sN_NoFit⟩) (zl9:(es_NoFit.all fun e=>match e.key with| .str _ _=>true|_=>false)=true) {nm_NoPlace qn_NoPlace:Str} {N_NoPlace:Addr} {bs_NoPlace sub_NoPlace:List Value} {hd_NoPlace ab_NoPlace:Bool} {sn_NoPlace:List Str} {col_NoPlace:Option Bool} {dd_NoPlace:Option Addr} {j0_NoPlace j1_NoPlace j2_NoPlace j3_NoPlace j5_NoPlace:Option Value} (zcB:K.lookup zap=some (excClassObj nm_NoPlace qn_NoPlace zap N_NoPlace bs_NoPlace (.ref za5::bmV) hd_NoPlace sn_NoPlace sub_NoPlace ab_NoPlace col_NoPlace dd_NoPlace j0_NoPlace j1_NoPlace j2_NoPlace j3_NoPlace j5_NoPlace "ValueError.__new__")) (zil:W.nsIn K N_NoPlace "__init__"=some none) {cN_NoPlace:Value} {dN_NoPlace:Option Addr} {es_NoPlace:List DictEntry} {ep_NoPlace:Nat} {sN_NoPlace:Array (Option Value)} (ziq:K.lookup N_NoPlace=some ⟨cN_NoPlace,dN_NoPlace,.dict es_NoPlace.toArray ep_NoPlace,sN_NoPlace⟩) (zin:(es_NoPlace.all fun e=>match e.key with| .str _ _=>true|_=>false)=true) {nm_Unlike qn_Unlike:Str} {N_Unlike:Addr} {bs_Unlike sub_Unlike:List Value} {hd_Unlike ab_Unlike:Bool} {sn_Unlike:List Str} {col_Unlike:Option Bool} {dd_Unlike:Option Addr} {j0_Unlike j1_Unlike j2_Unlike j3_Unlike j5_Unlike:Option Value} (zdx:K.lookup zas=some (excClassObj nm_Unlike qn_Unlike zas N_Unlike bs_Unlike (.ref za5::bmV) hd_Unlike sn_Unlike sub_Unlike ab_Unlike col_Unlike dd_Unlike j0_Unlike j1_Unlike j2_Unlike j3_Unlike j5_Unlike "ValueError.__new__")) (zjO:W.nsIn K N_Unlike "__init__"=some none) {cN_Unlike:Value} {dN_Unlike:Option Addr} {es_Unlike:List DictEntry} {ep_Unlike:Nat} {sN_Unlike:Array (Option Value)} (zjV:K.lookup N_Unlike=some ⟨cN_Unlike,dN_Unlike,.dict es_Unlike.toArray ep_Unlike,sN_Unlike⟩) (zke:(es_Unlike.all fun e=>match e.key with| .str _ _=>true|_=>false)=true) {nm_SumError qn_SumError:Str} {N_SumError:Addr} {bs_SumError sub_SumError:List Value} {hd_SumError ab_SumError:Bool} {sn_SumError:List Str} {col_SumError:Option Bool} {dd_SumError:Option Addr} {j0_SumError j1_SumError j2_SumError j3_SumError j5_SumError:Option Value} (za6:K.lookup za5=some (excClassObj nm_SumError qn_SumError za5 N_SumError bs_SumError bmV hd_SumError sn_SumError sub_SumError ab_SumError col_SumError dd_SumError j0_SumError j1_SumError j2_SumError j3_SumError j5_SumError "ValueError.__new__")) (zdD:W.nsIn K N_SumError "__init__"=some none) {cN_SumError:Value} {dN_SumError:Option Addr} {es_SumError:List DictEntry} {ep_SumError:Nat} {sN_SumError:Array (Option Value)} (zdc:K.lookup N_SumError=some ⟨cN_SumError,dN_SumError,.dict es_SumError.toArray ep_SumError,sN_SumError⟩) (zdr:(es_SumError.all fun e=>match e.key with| .str _ _=>true|_=>false)=true) {oc_BadTelling:Value} {od_BadTelling:Option Addr} {cd_BadTelling:ClassData} {sl_BadTelling:Array (Option Value)} (zcn:K.lookup zbG=some ⟨oc_BadTelling,od_BadTelling,.cls cd_BadTelling,sl_BadTelling⟩) {oc_NoNumber:Value} {od_NoNumber:Option Addr} {cd_NoNumber:ClassData} {sl_NoNumber:Array (Option Value)} (zdu:K.lookup zcp=some ⟨oc_NoNumber,od_NoNumber,.cls cd_NoNumber,sl_NoNumber⟩) {oc_NoPast:Value} {od_NoPast:Option Addr} {cd_NoPast:ClassData} {sl_NoPast:Array (Option Value)} (zgB:K.lookup zeX=some ⟨oc_NoPast,od_NoPast,.cls cd_NoPast,sl_NoPast⟩) {oc_NoRow:Value} {od_NoRow:Option Addr} {cd_NoRow:ClassData} {sl_NoRow:Array (Option Value)} (zhL:K.lookup zht=some ⟨oc_NoRow,od_NoRow,.cls cd_NoRow,sl_NoRow⟩) {oc_NoText:Value} {od_NoText:Option Addr} {cd_NoText:ClassData} {sl_NoText:Array (Option Value)} (zfP:K.lookup zeS=some ⟨oc_NoText,od_NoText,.cls cd_NoText,sl_NoText⟩) {oc_NotTwos:Value} {od_NotTwos:Option Addr} {cd_NotTwos:ClassData} {sl_NotTwos:Array (Option Value)} (zeH:K.lookup zdG=some ⟨oc_NotTwos,od_NotTwos,.cls cd_NotTwos,sl_NotTwos⟩) (zgG:W.typeIn K (.ref zaB)=some (.type "type")) (zda:W.typeIn K (.ref zap)=some (.type "type")) (zeE:W.typeIn K (.ref zas)=some (.type "type")) (zbH:W.typeIn K (.ref za5)=some (.type "type")) (zcj:W.typeIn K (.ref zbG)=some (.type "type")) (zdA:W.typeIn K (.ref zcp)=some (.type "type")) (zfX:W.typeIn K (.ref zeX)=some (.type "type")) (zhW:W.typeIn K (.ref zht)=some (.type "type")) (zfZ:W.typeIn K (.ref zeS)=some (.type "type")) (zex:W.typeIn K (.ref zdG)=some (.type "type")) (zdg:W.mroIn K za5 (.type "BaseException")=some true) (zmd:W.mroIn K zaB (.type "BaseException")=some true) (zjX:W.findIn K (.ref zaB) "__getattribute__"=some (some (.builtin "BaseException.__getattribute__"))) (zkr:W.findIn K (.ref zaB) "__getattr__"=some none) (zmj:W.findIn K (.ref zaB) "__class__"=some (some (.builtin "object.__class__"))) (zlz:W.mroIn K zaB (.type "object")=some true) (zaQ:W.mroIn K zaB (.ref zaB)=some true) (zb4:W.mroIn K zaB (.ref za5)=some true) (zcd:W.mroIn K zaB (.ref zbG)=some false) (zcX:W.mroIn K zaB (.ref zcp)=some false) (zet:W.mroIn K zaB (.ref zeX)=some false) (zde:W.mroIn K zaB (.ref zap)=some false) (zeY:W.mroIn K zaB (.ref zht)=some false) (zea:W.mroIn K zaB (.ref zeS)=some false) (zdF:W.mroIn K zaB (.ref zdG)=some false) (zes:W.mroIn K zaB (.ref zas)=some false) (zck:W.mroIn K zaB (.type "ValueError")=some true) (zif:W.mroIn K zap (.type "BaseException")=some true) (zho:W.findIn K (.ref zap) "__getattribute__"=some (some (.builtin "BaseException.__getattribute__"))) (zhC:W.findIn K (.ref zap) "__getattr__"=some none) (ziD:W.findIn K (.ref zap) "__class__"=some (some (.builtin "object.__class__"))) (zio:W.mroIn K zap (.type "object")=some true) (zaw:W.mroIn K zap (.ref zap)=some true) (zby:W.mroIn K zap (.ref za5)=some true) (zbV:W.mroIn K zap (.ref zbG)=some false) (zdz:W.mroIn K zap (.ref zaB)=some false) (zci:W.mroIn K zap (.ref zcp)=some false) (zcU:W.mroIn K zap (.ref zeX)=some false) (zdi:W.mroIn K zap (.ref zht)=some false) (zc2:W.mroIn K zap (.ref zeS)=some false) (zcz:W.mroIn K zap (.ref zdG)=some false) (zc1:W.mroIn K zap (.ref zas)=some false) (zbX:W.mroIn K zap (.type "ValueError")=some true) (zky:W.mroIn K zas (.type "BaseException")=some true) (ziE:W.findIn K (.ref zas) "__getattribute__"=some (some (.builtin "BaseException.__getattribute__"))) (ziH:W.findIn K (.ref zas) "__getattr__"=some none) (zj8:W.findIn K (.ref zas) "__class__"=some (some (.builtin "object.__class__"))) (zkz:W.mroIn K zas (.type "object")=some true) (zaG:W.mroIn K zas (.ref zas)=some true) (zbR:W.mroIn K zas (.ref za5)=some true) (zb6:W.mroIn K zas (.ref zbG)=some false) (zeg:W.mroIn K zas (.ref zaB)=some false) (zcs:W.mroIn K zas (.ref zcp)=some false) (zdl:W.mroIn K zas (.ref zeX)=some false) (zcR:W.mroIn K zas (.ref zap)=some false) (zel:W.mroIn K zas (.ref zht)=some false) (zdj:W.mroIn K zas (.ref zeS)=some false) (zc3:W.mroIn K zas (.ref zdG)=some false) (zb5:W.mroIn K zas (.type "ValueError")=some true):
  ∃fd:FuncData,(∀(s:Shared) (v:Value),BindsTo s fd ⟨[v],[]⟩ [("script",v)])/\∀base:Heap,K.In base->base.Ns mainGlobals mg->FnOk l.prog w K mg base CX0 9 fa fd ["script"] (spP K 1 zne):=by
 have zcm:ExcC K zaB:=⟨zl8 zmd,zjX,zkr,zmj,hsp,htk,zlz,zaU ze1,zgG⟩
 have zbo:ExcC K zap:=⟨zl8 zif,zho,zhC,ziD,hsp,htk,zio,zaU zcB,zda⟩
 have zbK:ExcC K zas:=⟨zl8 zky,ziE,ziH,zj8,hsp,htk,zkz,zaU zdx,zeE⟩
 have bn:BN K mg:=⟨⟨zaB,W.mg_of X G zbE,zbE,zl4 ze1 za6 zlO zdD (zo9 zln zl9) (zo9 zdc zdr)⟩,⟨zap,W.mg_of X G zaX,zaX,zl4 zcB za6 zil zdD (zo9 ziq zin) (zo9 zdc zdr)⟩,⟨zas,W.mg_of X G zbd,zbd,zl4 zdx za6 zjO zdD (zo9 zjV zke) (zo9 zdc zdr)⟩,⟨za5,W.mg_of X G zgL,(zlU ⟨zaB,zbE,znV zdg (zaU za6) zbH zb4⟩ (zlU ⟨zap,zaX,znV zdg (zaU za6) zbH zby⟩ (zlU ⟨zas,zbd,znV zdg (zaU za6) zbH zbR⟩ cat_nil)))⟩,⟨zbG,W.mg_of X G zf7,(zav ⟨zaB,zbE,zcm,zaF zaQ (zaU zcn) zcj zcd⟩ (zav ⟨zap,zaX,zbo,zaF zaw (zaU zcn) zcj zbV⟩ (zav ⟨zas,zbd,zbK,zaF zaG (zaU zcn) zcj zb6⟩ zdE)))⟩,⟨zaB,W.mg_of X G zbE,(zav ⟨zaB,zbE,zcm,zgO (zaU ze1) zgG zaQ⟩ (zav ⟨zap,zaX,zbo,zaF zaw (zaU ze1) zgG zdz⟩ (zav ⟨zas,zbd,zbK,zaF zaG (zaU ze1) zgG zeg⟩ zdE)))⟩,⟨zcp,W.mg_of X G zie,(zav ⟨zaB,zbE,zcm,zaF zaQ (zaU zdu) zdA zcX⟩ (zav ⟨zap,zaX,zbo,zaF zaw (zaU zdu) zdA zci⟩ (zav ⟨zas,zbd,zbK,zaF zaG (zaU zdu) zdA zcs⟩ zdE)))⟩,⟨zeX,W.mg_of X G zlR,(zav ⟨zaB,zbE,zcm,zaF zaQ (zaU zgB) zfX zet⟩ (zav ⟨zap,zaX,zbo,zaF zaw (zaU zgB) zfX zcU⟩ (zav ⟨zas,zbd,zbK,zaF zaG (zaU zgB) zfX zdl⟩ zdE)))⟩,⟨zap,W.mg_of X G zaX,(zav ⟨zaB,zbE,zcm,zaF zaQ (zaU zcB) zda zde⟩ (zav ⟨zap,zaX,zbo,zgO (zaU zcB) zda zaw⟩ (zav ⟨zas,zbd,zbK,zaF zaG (zaU zcB) zda zcR⟩ zdE)))⟩,⟨zht,W.mg_of X G zng,(zav ⟨zaB,zbE,zcm,zaF zaQ (zaU zhL) zhW zeY⟩ (zav ⟨zap,zaX,zbo,zaF zaw (zaU zhL) zhW zdi⟩ (zav ⟨zas,zbd,zbK,zaF zaG (zaU zhL) zhW zel⟩ zdE)))⟩,⟨zeS,W.mg_of X G zll,(zav ⟨zaB,zbE,zcm,zaF zaQ (zaU zfP) zfZ zea⟩ (zav ⟨zap,zaX,zbo,zaF zaw (zaU zfP) zfZ zc2⟩ (zav ⟨zas,zbd,zbK,zaF zaG (zaU zfP) zfZ zdj⟩ zdE)))⟩,⟨zdG,W.mg_of X G zkg,(zav ⟨zaB,zbE,zcm,zaF zaQ (zaU zeH) zex zdF⟩ (zav ⟨zap,zaX,zbo,zaF zaw (zaU zeH) zex zcz⟩ (zav ⟨zas,zbd,zbK,zaF zaG (zaU zeH) zex zc3⟩ zdE)))⟩,⟨za5,W.mg_of X G zgL,(zav ⟨zaB,zbE,zcm,zgO (zaU za6) zbH zb4⟩ (zav ⟨zap,zaX,zbo,zgO (zaU za6) zbH zby⟩ (zav ⟨zas,zbd,zbK,zgO (zaU za6) zbH zbR⟩ zdE)))⟩,⟨zas,W.mg_of X G zbd,(zav ⟨zaB,zbE,zcm,zaF zaQ (zaU zdx) zeE zes⟩ (zav ⟨zap,zaX,zbo,zaF zaw (zaU zdx) zeE zc1⟩ (zav ⟨zas,zbd,zbK,zgO (zaU zdx) zeE zaG⟩ zdE)))⟩,(zav ⟨zaB,zbE,zcm,zlr (by decide+kernel) zck⟩ (zav ⟨zap,zaX,zbo,zlr (by decide+kernel) zbX⟩ (zav ⟨zas,zbd,zbK,zlr (by decide+kernel) zb5⟩ zdE))),W.mg_none_of X G z0,W.mg_none_of X G z1,W.mg_none_of X G z2,W.mg_none_of X G z3,W.mg_none_of X G z4,W.mg_none_of X G z5,W.mg_none_of X G z6,W.mg_none_of X G z7,W.mg_none_of X G z8,W.mg_none_of X G z9,W.mg_none_of X G z10,W.mg_none_of X G z11,W.mg_none_of X G z12⟩
 obtain⟨a,b,c,d,e,f,T⟩:=h46.law X G hfa
 refine⟨W.fnOf "law" "law" (zfL zm6) (zbW zm6) (zaC zm6) .none a b c d e f,fun s v=> .of_eq rfl,fun base _ _=>?_⟩
 have zbP:=zlC (P:=l.prog) (w:=w) (base:=base) X G bn h1
 have zbN:=zl3 (P:=l.prog) (w:=w) (base:=base) X G bn h2
 have zds:=zkp (P:=l.prog) (w:=w) (base:=base) X G bn h3
 have zb2:=zjs (P:=l.prog) (w:=w) (base:=base) X G bn h4
 have zeo:=zkO (P:=l.prog) (w:=w) (base:=base) X G bn zbN zb2 h5
 have zcW:=zjv (P:=l.prog) (w:=w) (base:=base) X G bn h6
 have zew:=zkR (P:=l.prog) (w:=w) (base:=base) X G bn h7
 have zbu:=zkG (P:=l.prog) (w:=w) (base:=base) X G bn h8
 have zbg:=znI (P:=l.prog) (w:=w) (base:=base) X G bn h9
 have zbp:=znx (P:=l.prog) (w:=w) (base:=base) X G bn h10
 have zcy:=znz (P:=l.prog) (w:=w) (base:=base) X G bn zbP zbp h11
 have zb8:=zm4 (P:=l.prog) (w:=w) (base:=base) X G bn zbP zbp h12
 have zeW:=zmh (P:=l.prog) (w:=w) (base:=base) X G bn zbN zb8 zcy h13
 have zkl:=zrq (P:=l.prog) (w:=w) (base:=base) X G bn zbp zds h14
 have za3:=zlw (P:=l.prog) (w:=w) (base:=base) X G bn zeo zb8 zcy h15
 have za9:=zjq (P:=l.prog) (w:=w) (base:=base) X G bn za3 zeW h16
 have zco:=ziA (P:=l.prog) (w:=w) (base:=base) X G bn za3 h16
 have zeU:=zly (P:=l.prog) (w:=w) (base:=base) X G bn za9 zbu h17
 have zer:=zkL (P:=l.prog) (w:=w) (base:=base) X G bn zbu zco h17
 have zgs:=znb (P:=l.prog) (w:=w) (base:=base) X G bn h18
 have zc9:=zlE (P:=l.prog) (w:=w) (base:=base) X G bn h19
 have zeP:=zlp (P:=l.prog) (w:=w) (base:=base) X G bn h20
 have zjE:=ok_rises (P:=l.prog) (w:=w) (base:=base) X G bn h21
 have zc8:=zlA (P:=l.prog) (w:=w) (base:=base) X G bn zgs zeP h22
 have zaL:=zmk (P:=l.prog) (w:=w) (base:=base) X G bn zeU h23
 have zaV:=zkW (P:=l.prog) (w:=w) (base:=base) X G bn zer h23
 have zcr:=znM (P:=l.prog) (w:=w) (base:=base) X G bn zcW za9 zew zkl h24
 have ziB:=zo6 (P:=l.prog) (w:=w) (base:=base) X G bn zaL zbg zcr h25
 have zhA:=znj (P:=l.prog) (w:=w) (base:=base) X G bn zbg zaV h25
 have zbQ:=zmf (P:=l.prog) (w:=w) (base:=base) X G bn h26
 have zcx:=zit (P:=l.prog) (w:=w) (base:=base) X G bn h27
 have zaY:=zhE (P:=l.prog) (w:=w) (base:=base) X G bn zcx hh h28
 have zei:=zkT (P:=l.prog) (w:=w) (base:=base) X G bn zaY zaL zbQ zcr h29
 have zdm:=zkh (P:=l.prog) (w:=w) (base:=base) X G bn zaV h29
 have zee:=zkH (P:=l.prog) (w:=w) (base:=base) X G bn zbg zjE h30
 have zdw:=zjU (P:=l.prog) (w:=w) (base:=base) X G bn zaY zc9 zee h31
 have zfc:=zlT (P:=l.prog) (w:=w) (base:=base) X G bn zc8 h32
 have zek:=zkJ (P:=l.prog) (w:=w) (base:=base) X G bn zfc zbQ h33
 have zdv:=zjM (P:=l.prog) (w:=w) (base:=base) X G bn zaL za3 zek zdw h34
 have zgv:=zmF (P:=l.prog) (w:=w) (base:=base) X G bn h35
 have zam:=zmt (P:=l.prog) (w:=w) (base:=base) X G bn h36
 have zdT:=zmR (P:=l.prog) (w:=w) (base:=base) X G bn zam h37
 have zf8:=zmH (P:=l.prog) (w:=w) (base:=base) X G bn h38
 have zgD:=zmr (P:=l.prog) (w:=w) (base:=base) X G bn zam zf8 zdT h39
 have zgf:=zm9 (P:=l.prog) (w:=w) (base:=base) X G bn zam h40
 have zeQ:=zlF (P:=l.prog) (w:=w) (base:=base) X G bn h41
 have ze8:=zlo (P:=l.prog) (w:=w) (base:=base) X G bn zeQ h42
 have zcZ:=zju (P:=l.prog) (w:=w) (base:=base) X G bn ze8 h43
 have zeM:=zlu (P:=l.prog) (w:=w) (base:=base) X G bn h44
 have zbC:=zmL (P:=l.prog) (w:=w) (base:=base) X G bn zeM zaL zei ziB zaV zdm zhA h45
 exact ok_law X G bn zgf zgD zam zgv zbC zcZ zdv T
theorem walk {l:W.OpenLaw}{q:Program}{loose:List Str}{XP:(Str->Option Value)->Heap->Prop}{YP:World->Heap->Prop}{d:DefRec}{K:Params->W.Frag}{c0:Addr}(hn:l.most=some 63)(hdf:d.params.defaults=[])
  (hm:∀ns:List Int,ns.length<=63->zne [.scr ns]=some (.val (.bl true)))
  (hY:∀(w:World) (h:Heap),YP w h->(K w.params).In h)
  (hZ:∀(w:World) (h:Heap),YP w h->h.get? 296=some (W.tabObj #[])) (hh:∀w:World,HostAt (K w.params) "cheapest_places" 296 c0)
  (F : ∀ (w : World) (mg : Str -> Option Value) (fa : Addr) (h : Heap), (K w.params).In h -> h.Ns mainGlobals mg -> mg d.name = some (.ref fa) ->
   ∃fd:FuncData,(∀(s:Shared) (u:Value),BindsTo s fd ⟨[u],[]⟩ [("script",u)])/\∀base:Heap,(K w.params).In base->base.Ns mainGlobals mg->FnOk l.prog w (K w.params) mg base CX0 9 fa fd ["script"] (spP (K w.params) 1 zne)):
  W.WalkO q loose XP YP l.row.toRowW d [] (fun f vs=>PySem.call f vs):=
 L2.walkL (n:=63) (k:=9) (x:="script") (CX:=fun _=>CX0) (sp:=fun w=>spP (K w.params) 1 zne) hn (by decide) hdf ⟨rfl,by decide,by decide,rfl⟩ hY hZ (fun w mg h X G=>⟨_,c0,(hh w).tab X G,(hh w).code⟩) F
  (fun w H a ns hl hS=>⟨H,[.scr ns],.val (.bl true),hm ns hl,rfl,Fz.refl H,.cons ⟨a,rfl,hS⟩ .nil,fun _ _ _ _ _ _ _ rr=>rr⟩) fun _ _ _ _ _ z=>z
end Prf
set_option exponentiation.threshold 5000
namespace Prf
open L2 M PySem
variable {n m j k p s i:Nat} {f g lo hi e S L G c:Nat->Int} {t:Int} {ds:List D} {r:Option Str} {b:Bool} {F:List Nat} {x:Nat×Nat} {C:D} {Q:Fl×R->Prop} {ρ:M.R} {ps:List Int}
theorem rep_w (n:Nat)(x:D):(List.replicate n [x]).flatten=wL n fun _=>x:=by
 induction n with
 |zero=>rfl
 |succ n ih=>rw[List.replicate_succ',List.flatten_append,ih,zhD];rfl
theorem zpz (a b:Nat->Int)(hn:n<=1000):Ok (zbL [.tup (wI n a),.lst (wI n b)]) fun x=>x= .own (wI n fun p=>a p-b p):=by
 simp! only[↓zbL,↓zfR,↓zfU,zip2D_w]
 refine⟨by lia,za8 (fun ρ=>∃s s',ρ=[s,s']) (fun p=> .int (a p-b p)) ⟨_,_,rfl⟩ ?_ ?_⟩
 ·rintro i _ hi ⟨s,s',rfl⟩
  simp! only[↓zgm]
  exact⟨_,_,rfl⟩
 ·rintro _ ⟨_,_,rfl⟩
  simp! only[]
structure Span (f g:Nat->Int) (n m:Nat) (lo hi:Nat->Int):Prop where
 lm:∀j,j<m->∃p,p<n/\p%m=j/\f p=lo j
 lg:∀p,p<n->f p<=lo (p%m)
 hm:∀j,j<m->∃p,p<n/\p%m=j/\g p=hi j
 hg:∀p,p<n->hi (p%m)<=g p
def zdJ (m:Nat)(lo hi:Nat->Int):List D:=wL m fun j=> .tup [.int (lo j),.int (hi j)]
theorem znA (f g:Nat->Int){n m:Nat}(hm:0<m)(hn:m<=n):∃lo hi:Nat->Int,Span f g n m lo hi/\∀j,j<m->zkM [.lst (za0 (wI n f) (some (j:Int)) none (some (m:Int)))]=some (.int (lo j))/\zgS [.lst (za0 (wI n g) (some (j:Int)) none (some (m:Int)))]=some (.int (hi j)):=by
 have h1:∀j,∃v,j<m->zkM [.lst (za0 (wI n f) (some (j:Int)) none (some (m:Int)))]=some (.int v)/\(∃p,p<n/\p%m=j/\f p=v)/\∀p,p<n->p%m=j->f p<=v:=fun j=>by
  by_cases hj:j<m
  ·obtain⟨v,h⟩:=max_pick f hm hj hn;exact⟨v,fun _=>h⟩
  ·exact⟨0,fun h=>absurd h hj⟩
 have h2:∀j,∃v,j<m->zgS [.lst (za0 (wI n g) (some (j:Int)) none (some (m:Int)))]=some (.int v)/\(∃p,p<n/\p%m=j/\g p=v)/\∀p,p<n->p%m=j->v<=g p:=fun j=>by
  by_cases hj:j<m
  ·obtain⟨v,h⟩:=zoc g hm hj hn;exact⟨v,fun _=>h⟩
  ·exact⟨0,fun h=>absurd h hj⟩
 refine⟨fun j=>(h1 j).choose,fun j=>(h2 j).choose,⟨fun j hj=>((h1 j).choose_spec hj).2.1,fun p hp=>((h1 (p%m)).choose_spec (Nat.mod_lt _ hm)).2.2 p hp rfl,fun j hj=>((h2 j).choose_spec hj).2.1,fun p hp=>((h2 (p%m)).choose_spec (Nat.mod_lt _ hm)).2.2 p hp rfl⟩,fun j hj=>⟨((h1 j).choose_spec hj).1,((h2 j).choose_spec hj).1⟩⟩
theorem zhH {lo hi lo' hi':Nat->Int}(s:Span f g n m lo hi)(t:Span f g n m lo' hi')(hj:j<m):lo j=lo' j/\hi j=hi' j:=by
 obtain⟨p,h1,h2,h3⟩:=s.lm j hj
 obtain⟨p',h1',h2',h3'⟩:=t.lm j hj
 obtain⟨q,k1,k2,k3⟩:=s.hm j hj
 obtain⟨q',k1',k2',k3'⟩:=t.hm j hj
 have a1:=s.lg p' h1'
 have a2:=t.lg p h1
 have a3:=s.hg q' k1'
 have a4:=t.hg q k1
 rw[h2']at a1;rw[h2]at a2;rw[k2']at a3;rw[k2]at a4
 lia
theorem zom (hm:0<m)(hn:m<=n)(h24:n<=1000)(sp:Span f g n m lo hi):Ok (zbI [.lst (wI n f),.lst (wI n g),.int m]) fun x=>x= .own (zdJ m lo hi):=by
 obtain⟨lo',hi',sp',e⟩:=znA f g hm hn
 have el:zdJ m lo' hi'=zdJ m lo hi:=ze0 fun j hj=>by rw[(zhH sp' sp hj).1,(zhH sp' sp hj).2]
 rw[<-el]
 simp! only[↓zbI,↓zgo,↓zfY]
 refine⟨zaO (by lia) (by lia),by lia,za8 (fun ρ=>∃s,ρ=[.val (.lst (wI n f)),.val (.int m),.val (.lst (wI n g)),s]) (fun j=> .tup [.int (lo' j),.int (hi' j)]) ⟨_,rfl⟩ ?_ ?_⟩
 ·rintro j _ hj ⟨s,rfl⟩
  have hk0:¬(some (m:Int)=some 0):=by intro h;have:=Option.some.inj h;lia
  obtain⟨e1,e2⟩:=e j hj
  unfold zkM at e1
  unfold zgS at e2
  simp! only[↓zga,zoV,hk0,e1,e2]
  exact⟨_,rfl⟩
 ·rintro _ ⟨s,rfl⟩
  simp! only[]
  rfl
theorem zmN (hm:0<m)(hmn:m<=n)(h24:n<=1000)(he:∀j,j<m->∃p,p<n/\p%m=j/\f p=e j):
  Ok (zbm [.lst (wI n f),.lst (wI m e)]) fun x=>∃pl:Nat->Nat,(∀j,j<m->pl j<n/\pl j%m=j/\f (pl j)=e j)/\x= .val (.tup (wI m fun j=>(pl j:Nat))):=by
 have h1:∀j,∃i:Nat,j<m->zku (.lst (za0 (wI n f) (some (j:Int)) none (some (m:Int)))) (.int (e j))=some (.int i)/\j+i*m<n/\f (j+i*m)=e j:=fun j=>by
  by_cases hj:j<m
  ·obtain⟨i,h⟩:=zle f hm hj (he j hj);exact⟨i,fun _=>h⟩
  ·exact⟨0,fun h=>absurd h hj⟩
 have hk0:¬(some (m:Int)=some 0):=by intro h;have:=Option.some.inj h;lia
 simp! only[↓zbm,↓zdd,↓zd0]
 refine⟨zaO (by lia) (by lia),by lia,za8 (fun ρ=>∃s,ρ=[.val (.int m),.val (.lst (wI n f)),.val (.lst (wI m e)),s]) (fun j=> .int ((j+(h1 j).choose*m:Nat):Int)) ⟨_,rfl⟩ ?_ ?_⟩
 ·rintro j _ hj ⟨s,rfl⟩
  obtain⟨e1,-,-⟩:=(h1 j).choose_spec hj
  generalize (h1 j).choose=i at*
  have ee:(j:Int)+(m:Int)*(i:Int)=((j+i*m:Nat):Int):=by push_cast;rw[Int.mul_comm]
  simp! only[↓zd3,zoV,hk0,e1,zaI _ hj,ee]
  exact⟨zeZ (by lia),_,rfl⟩
 ·rintro _ ⟨s,rfl⟩
  simp! only[]
  exact⟨_,fun j hj=>⟨((h1 j).choose_spec hj).2.1,by rw[Nat.add_mul_mod_self_right,Nat.mod_eq_of_lt hj],((h1 j).choose_spec hj).2.2⟩,rfl⟩
structure Room' (m:Nat) (lo hi:Nat->Int) (t:Int):Prop where
 le:∀j,j<m->lo j<=hi j
 low:sumR m lo<=t
 high:t<=sumR m hi
def Paper (f g:Nat->Int)(n m:Nat)(t:Int)(d:D):Prop:=
 (∃a b:Nat,a<n/\b<n/\a%m=b%m/\f a>g b/\d= .tup [.str "clash",.int a,.int b])\/
 (∃pl:Nat->Nat,(∀j,j<m->pl j<n/\pl j%m=j)/\sumR m (fun j=>f (pl j))>t/\d= .tup [.str "low",.tup (wI m fun j=>(pl j:Nat))])\/
 (∃pl:Nat->Nat,(∀j,j<m->pl j<n/\pl j%m=j)/\sumR m (fun j=>g (pl j))<t/\d= .tup [.str "high",.tup (wI m fun j=>(pl j:Nat))])
theorem paper_ok (hm:0<m)(hn:m<=n)(h24:n<=1000)(t:Int)(sp:Span f g n m lo hi):
  Ok (zcg [.lst (wI n f),.lst (wI n g),.int m,.int t]) fun x=>(Room' m lo hi t/\x= .val .non)\/(¬Room' m lo hi t/\∃d,Paper f g n m t d/\x= .val d):=by
 simp! only[↓zcg,↓zeL]
 refine(zom hm hn h24 sp).mono ?_
 rintro _ rfl
 simp! only[↓zfs,zdJ]
 refine⟨by lia,za8 (fun ρ=>∃s s',ρ=[s,s']) (fun j=> .int (lo j)) ⟨_,_,rfl⟩ ?_ ?_⟩
 ·rintro j _ hj ⟨s,s',rfl⟩
  simp! only[↓zfe]
  exact⟨_,_,rfl⟩
 rintro _ ⟨_,_,rfl⟩
 simp! only[↓zfC]
 refine⟨by lia,za8 (fun ρ=>∃s s',ρ=[s,s']) (fun j=> .int (hi j)) ⟨_,_,rfl⟩ ?_ ?_⟩
 ·rintro j _ hj ⟨s,s',rfl⟩
  simp! only[↓zfp]
  exact⟨_,_,rfl⟩
 rintro _ ⟨_,_,rfl⟩
 simp! only[]
 refine(zmN hm hn h24 sp.lm).mono ?_
 rintro _ ⟨pl,hpl,rfl⟩
 simp! only[]
 refine(zmN hm hn h24 sp.hm).mono ?_
 rintro _ ⟨ph,hph,rfl⟩
 simp! only[↓zft]
 refine⟨zaO (by lia) (by lia),zeV (fun i ρ=>(∀j,j<i->lo j<=hi j)/\∃s,ρ=[.val (.lst (wI n f)),.val (.lst (wI n g)),.val (.int m),.val (.int t),.val (.lst (zdJ m lo hi)),.val (.lst (wI m lo)),.val (.lst (wI m hi)),.val (.tup (wI m fun j=>(pl j:Nat))),.val (.tup (wI m fun j=>(ph j:Nat))),s]) ⟨fun _ h=>by lia,_,rfl⟩ ?_ ?_⟩
 ·rintro j _ hj ⟨hb,s,rfl⟩
  simp! only[↓zfm,zaI _ hj]
  refine⟨fun h=> .inr ⟨fun r=>by have:=r.le j hj;lia,_,.inl ⟨pl j,ph j,(hpl j hj).1,(hph j hj).1,by rw[(hpl j hj).2.1,(hph j hj).2.1],by rw[(hpl j hj).2.2,(hph j hj).2.2];exact h,rfl⟩,rfl⟩,fun h=>⟨fun j' hj'=>?_,_,rfl⟩⟩
  by_cases e:j'=j
  ·subst e;lia
  ·exact hb j' (by lia)
 rintro _ ⟨hb,s,rfl⟩
 have el:sumR m (fun j=>f (pl j))=sumR m lo:=zgM fun j hj=>(hpl j hj).2.2
 have eh:sumR m (fun j=>g (ph j))=sumR m hi:=zgM fun j hj=>(hph j hj).2.2
 simp! only[zc7,zcl]
 refine⟨fun h=> .inr ⟨fun r=>by have:=r.low;lia,_,.inr (.inl ⟨pl,fun j hj=>⟨(hpl j hj).1,(hpl j hj).2.1⟩,by lia,rfl⟩),rfl⟩,fun h1=>?_⟩
 simp! only[↓zfn,zc7,zcl]
 refine⟨fun h=> .inr ⟨fun r=>by have:=r.high;lia,_,.inr (.inr ⟨ph,fun j hj=>⟨(hph j hj).1,(hph j hj).2.1⟩,by lia,rfl⟩),rfl⟩,fun h2=>?_⟩
 simp! only[↓zfk]
 exact .inl ⟨hb,by lia,by lia⟩
def left (lo hi:Nat->Int)(m:Nat)(t:Int):Nat->Int
 |0=>t
 |j+1=>left lo hi m t j-max2 (lo j) (left lo hi m t j-(sumR m hi-sumR (j+1) hi))
def hd (lo hi:Nat->Int)(m:Nat)(t:Int)(j:Nat):Int:=max2 (lo j) (left lo hi m t j-(sumR m hi-sumR (j+1) hi))
theorem zkS (lo hi:Nat->Int)(t:Int)(hm:m<=1000):Ok (zch [.lst (zdJ m lo hi),.int t]) fun x=>x= .own (wI m (hd lo hi m t)):=by
 simp! only[↓zch,↓ze3,↓zfo,zdJ]
 refine⟨by lia,za8 (fun ρ=>∃s s',ρ=[s,s']) (fun j=> .int (hi j)) ⟨_,_,rfl⟩ ?_ ?_⟩
 ·rintro j _ hj ⟨s,s',rfl⟩
  simp! only[↓zfr]
  exact⟨_,_,rfl⟩
 rintro _ ⟨_,_,rfl⟩
 simp! only[zc7,zcl,↓zfv]
 refine zeV (fun i ρ=>∃s5 s6 s7,ρ=[.val (.lst (zdJ m lo hi)),.val (.int t),.own (wI i (hd lo hi m t)),.val (.int (left lo hi m t i)),.val (.int (sumR m hi-sumR i hi)),s5,s6,s7]) ⟨_,_,_,by rw[show sumR 0 hi=0 from rfl,Int.sub_zero];rfl⟩ ?_ ?_
 ·rintro j _ hj ⟨s5,s6,s7,rfl⟩
  simp! only[↓zfy]
  have e:sumR m hi-sumR j hi-hi j=sumR m hi-sumR (j+1) hi:=by simp only[sumR];lia
  rw[e]
  exact⟨by lia,_,_,_,by rw[show wI (j+1) (hd lo hi m t)=_ from zhD _ _];rfl⟩
 ·rintro _ ⟨s5,s6,s7,rfl⟩
  simp! only[]
theorem znw (lo hi:Nat->Int)(m:Nat)(t:Int):∀j,left lo hi m t j=t-sumR j (hd lo hi m t)
 |0=>by simp[left,sumR]
 |j+1=>by rw[sumR,left,znw lo hi m t j,hd,znw lo hi m t j];lia
theorem znT (a b:Int):(max2 a b=a\/max2 a b=b)/\a<=max2 a b/\b<=max2 a b:=by unfold max2;split<;>lia
theorem znC (r:Room' m lo hi t):∀j,j<=m->sumR m lo-sumR j lo<=left lo hi m t j/\left lo hi m t j<=sumR m hi-sumR j hi
 |0,_=>by have:=r.low;have:=r.high;simp[left,sumR];lia
 |j+1,h=>by
  have ih:=znC r j (by lia)
  have hj:=r.le j (by lia)
  obtain⟨c,c1,c2⟩:=znT (lo j) (left lo hi m t j-(sumR m hi-sumR (j+1) hi))
  have e:left lo hi m t (j+1)=left lo hi m t j-max2 (lo j) (left lo hi m t j-(sumR m hi-sumR (j+1) hi)):=rfl
  rw[e]
  have key:sumR m lo-sumR (j+1) lo<=sumR m hi-sumR (j+1) hi:=by
   obtain⟨b,rfl⟩:∃b,m=j+1+b:=⟨m-(j+1),by lia⟩
   rw[zik lo (j+1) b,zik hi (j+1) b]
   have:=znp (f:=fun i=>lo (j+1+i)) (g:=fun i=>hi (j+1+i)) (n:=b) fun i hi'=>r.le _ (by lia)
   lia
  simp only[sumR]at*
  rcases c with c|c<;>rw[c]at c1 c2 ⊢ <;>lia
theorem hd_in (r:Room' m lo hi t)(hj:j<m):lo j<=hd lo hi m t j/\hd lo hi m t j<=hi j:=by
 have h:=znC r j (by lia)
 have hjj:=r.le j hj
 obtain⟨c,c1,c2⟩:=znT (lo j) (left lo hi m t j-(sumR m hi-sumR (j+1) hi))
 unfold hd
 simp only[sumR]at*
 rcases c with c|c<;>rw[c]at c1 c2 ⊢ <;>lia
theorem hd_sum (r:Room' m lo hi t):sumR m (hd lo hi m t)=t:=by
 have h:=znC r m (Nat.le_refl _)
 have e:=znw lo hi m t m
 lia
theorem znQ (hm:0<m)(h24:n<=1000)(h mo:Nat->Int):Ok (zbZ [.lst (wI m h),.lst (wI n mo)]) fun x=>x= .val (.tup (wI n fun p=>h (p%m)+mo p)):=by
 simp! only[↓zbZ,↓zd9,↓zez,znW]
 refine⟨by lia,za8 (fun ρ=>∃s s',ρ=[.val (.lst (wI m h)),.val (.int m),s,s']) (fun p=> .int (h (p%m)+mo p)) ⟨_,_,rfl⟩ ?_ ?_⟩
 ·rintro p _ hp ⟨s,s',rfl⟩
  have e:(p:Int)%(m:Int)=((p%m:Nat):Int):=by push_cast;rfl
  simp! only[↓zeK,e,zaI _ (Nat.mod_lt p hm)]
  exact⟨by lia,_,_,rfl⟩
 ·rintro _ ⟨_,_,rfl⟩
  simp! only[]
def zat (k s n:Nat)(S L G:Nat->Int):D:= .tup [.int k,.tup (wI s S),.tup (wI n L),.tup (wI n G)]
structure Dim (k s n:Nat):Prop where
 k2:2<=k
 k5:k<=5
 kn:k<=n
 n24:n<=24
 s:n+1=s+k
def mo (k:Nat)(S:Nat->Int)(p:Nat):Int:=sumR (p/k) fun i=>S (p%k+i*k+1)-S (p%k+i*k)
theorem mo_low (S:Nat->Int)(h:p<k):mo k S p=0:=by unfold mo;rw[Nat.div_eq_of_lt h];rfl
theorem mo_step (hk:0<k)(S:Nat->Int)(p:Nat):mo k S (p+k)=mo k S p+S (p+1)-S p:=by
 unfold mo
 rw[Nat.add_div_right _ hk,Nat.add_mod_right,sumR]
 have e:p%k+p/k*k=p:=by have:=Nat.mod_add_div p k;rw[Nat.mul_comm];lia
 rw[e];lia
theorem zl0 (d:Dim k s n)(S L G:Nat->Int):Ok (zbM [zat k s n S L G]) fun x=>x= .own (wI n (mo k S)):=by
 obtain⟨k2,k5,kn,n24,hs⟩:=d
 simp! only[↓zbM,↓ziv,↓zhU,zat,rep_w]
 rw[show((s:Int)-1).toNat=s-1 by lia]
 refine⟨⟨zaO (by lia) (by lia),by lia⟩,zaO (by lia) (by lia),zeV (fun i ρ=>∃s3,ρ=[.val (zat k s n S L G),.val (.tup (wI s S)),.own (wI (k+i) (mo k S)),s3]) ⟨.emp,?_⟩ ?_ ?_⟩
 ·rw[Nat.add_zero,show wI k (mo k S)=wL k (fun _=> .int 0)from ze0 fun p hp=>by rw[mo_low S hp]];rfl
 ·rintro i _ hi ⟨s3,rfl⟩
  simp! only[↓zib,zaI _ (show i<k+i by lia),zaI _ (show i+1<s by lia),zaI _ (show i<s by lia)]
  exact⟨by lia,_,by rw[show k+(i+1)=k+i+1 by lia,show wI (k+i+1) (mo k S)=_ from zhD _ _,show mo k S (k+i)=mo k S i+S (i+1)-S i by rw[Nat.add_comm k i];exact mo_step (by lia) S i]⟩
 ·rintro _ ⟨s3,rfl⟩
  rw[show k+(s-1)=n by lia]
  simp! only[]
abbrev ask (k:Nat)(S B:Nat->Int)(p:Nat):Int:=B p-mo k S p
theorem low_ok (d:Dim k s n)(S L G:Nat->Int):Ok (zcC [zat k s n S L G]) fun x=>x= .own (wI n (ask k S L)):=by
 have n24:=d.n24
 simp! only[↓zcC,↓ziz,zat]
 refine(zl0 d S L G).mono ?_
 rintro _ rfl
 simp! only[]
 refine(zpz L (mo k S) (by lia)).mono ?_
 rintro _ rfl
 simp! only[]
theorem zpR (d:Dim k s n)(S L G:Nat->Int):Ok (zb7 [zat k s n S L G]) fun x=>x= .own (wI n (ask k S G)):=by
 have n24:=d.n24
 simp! only[↓zb7,↓zhs,zat]
 refine(zl0 d S L G).mono ?_
 rintro _ rfl
 simp! only[]
 refine(zpz G (mo k S) (by lia)).mono ?_
 rintro _ rfl
 simp! only[]
abbrev zdI (k n:Nat)(S L G lo hi:Nat->Int):Prop:=Span (ask k S L) (ask k S G) n k lo hi
theorem zl6 (d:Dim k s n)(sp:zdI k n S L G lo hi):Ok (zcJ [zat k s n S L G]) fun x=>x= .own (zdJ k lo hi):=by
 have n24:=d.n24
 have k2:=d.k2
 simp! only[↓zcJ,↓zgi]
 refine(low_ok d S L G).mono ?_
 rintro _ rfl
 simp! only[]
 refine(zpR d S L G).mono ?_
 rintro _ rfl
 simp! only[zat]
 refine(zom (by lia) d.kn (by lia) sp).mono ?_
 rintro _ rfl
 simp! only[]
theorem zpv (d:Dim k s n)(S L G h:Nat->Int):Ok (zhR [zat k s n S L G,.lst (wI k h)]) fun x=>x= .val (.tup (wI n fun p=>h (p%k)+mo k S p)):=by
 have n24:=d.n24
 have k2:=d.k2
 simp! only[↓zhR,↓zlt]
 refine(zl0 d S L G).mono ?_
 rintro _ rfl
 simp! only[]
 refine(znQ (by lia) (by lia) h (mo k S)).mono ?_
 rintro _ rfl
 simp! only[]
def win (k:Nat)(r:Nat->Int)(i:Nat):Int:=sumR k fun j=>r (i+j)
structure Fits (k s n:Nat) (S L G r:Nat->Int):Prop where
 low:∀p,p<n->L p<=r p
 high:∀p,p<n->r p<=G p
 sum:∀i,i<s->win k r i=S i
def LPaper (k n:Nat)(S L G:Nat->Int)(d:D):Prop:=Paper (ask k S L) (ask k S G) n k (S 0) d
theorem ze2 (d:Dim k s n)(sp:zdI k n S L G lo hi):Ok (zbb [zat k s n S L G]) fun x=>(Room' k lo hi (S 0)/\x= .val .non)\/(¬Room' k lo hi (S 0)/\∃pd,LPaper k n S L G pd/\x= .val pd):=by
 have k2:=d.k2
 have kn:=d.kn
 have n24:=d.n24
 have hs:=d.s
 simp! only[↓zbb,↓zf2]
 refine(low_ok d S L G).mono ?_
 rintro _ rfl
 simp! only[]
 refine(zpR d S L G).mono ?_
 rintro _ rfl
 simp! only[zat,zaI _ (show 0<s by lia)]
 refine(paper_ok (by lia) kn (by lia) (S 0) sp).mono ?_
 rintro _ (⟨h,rfl⟩|⟨h,pd,hp,rfl⟩)
 ·simp! only[];exact .inl h
 ·simp! only[];exact .inr ⟨h,pd,hp,rfl⟩
theorem zmV {pd:D}(h:LPaper k n S L G pd):isN pd=false:=by
 rcases h with⟨a,b,_,_,_,_,rfl⟩|⟨pl,_,_,rfl⟩|⟨pl,_,_,rfl⟩<;>rfl
theorem cnt_mod' {p k:Nat}(hk:0<k):cntS ((p%k:Nat):Int) (p:Int) (k:Int)=p/k:=by
 have key:∀i,i<cntS ((p%k:Nat):Int) (p:Int) (k:Int)↔i<p/k:=fun i=>by
  rw[zcY hk,Nat.lt_div_iff_mul_lt hk]
  have e:=Nat.mod_add_div p k
  have hm:=Nat.mod_lt p hk
  constructor
  ·intro h
   have h':i*k<p/k*k:=by rw[Nat.mul_comm (p/k)];lia
   have h2:i<p/k:=Nat.lt_of_mul_lt_mul_right h'
   have h3:(i+1)*k<=p/k*k:=Nat.mul_le_mul_right k h2
   rw[Nat.add_mul,Nat.one_mul,Nat.mul_comm (p/k)]at h3
   lia
  ·intro h
   lia
 have h1:=key (cntS ((p%k:Nat):Int) (p:Int) (k:Int))
 have h2:=key (p/k)
 lia
theorem znq (lo st:Int)(n:Nat):zn0 lo st n=wL n fun i=> .int (lo+(i:Int)*st):=rfl
theorem zmE (d:Dim k s n)(S L G:Nat->Int):Ok (zcN [zat k s n S L G]) fun x=>x= .own (wI n (mo k S)):=by
 obtain⟨k2,k5,kn,n24,hs⟩:=d
 simp! only[↓zcN,↓zf1,↓zgr,zat]
 refine⟨zaO (by lia) (by lia),zeV (fun i ρ=>∃s6 s7 s8,ρ=[.val (zat k s n S L G),.val (.int k),.val (.tup (wI s S)),.val (.tup (wI n L)),.val (.tup (wI n G)),.own (wI i (mo k S)),s6,s7,s8]) ⟨_,_,_,rfl⟩ ?_ ?_⟩
 ·rintro p _ hp ⟨s6,s7,s8,rfl⟩
  have em:(p:Int)%(k:Int)=((p%k:Nat):Int):=by push_cast;rfl
  have hm:=Nat.mod_lt p (show 0<k by lia)
  simp! only[↓zgd,↓zfF,em,cnt_mod' (show 0<k by lia),znq]
  refine⟨by lia,⟨⟨⟨zaO (by lia) (by lia),zaO (by lia) (by lia)⟩,by lia⟩,by lia⟩,zeV (fun i ρ=>∃s8,ρ=[.val (zat k s n S L G),.val (.int k),.val (.tup (wI s S)),.val (.tup (wI n L)),.val (.tup (wI n G)),.own (wI p (mo k S)),.val (.int p),.val (.int (sumR i fun i=>S (p%k+i*k+1)-S (p%k+i*k))),s8]) ⟨_,rfl⟩ ?_ ?_⟩
  ·rintro i _ hi ⟨s8,rfl⟩
   have e1:((p%k:Nat):Int)+(i:Int)*(k:Int)=((p%k+i*k:Nat):Int):=by push_cast;rfl
   have hlt:p%k+i*k+1<s:=by
    have e:=Nat.mod_add_div p k
    have h3:(i+1)*k<=p/k*k:=Nat.mul_le_mul_right k hi
    rw[Nat.add_mul,Nat.one_mul,Nat.mul_comm (p/k)]at h3
    lia
   simp! only[↓zf0,e1,zaI _ hlt,zaI _ (show p%k+i*k<s by lia)]
   exact⟨_,by rw[sumR,Int.add_sub_assoc]⟩
  ·rintro _ ⟨s8,rfl⟩
   simp! only[]
   exact⟨by lia,_,_,_,by rw[show wI (p+1) (mo k S)=_ from zhD _ _];rfl⟩
 ·rintro _ ⟨s6,s7,s8,rfl⟩
  simp! only[]
theorem zmy {k s n:Nat}(d:Dim k s n)(sp:zdI k n S L G lo hi):Ok (zcL [zat k s n S L G]) fun x=>x= .own (zdJ k lo hi):=by
 have k2:=d.k2
 have k5:=d.k5
 have kn:=d.kn
 have n24:=d.n24
 obtain⟨lo',hi',sp',e⟩:=znA (ask k S L) (ask k S G) (show 0<k by lia) kn
 have el:zdJ k lo' hi'=zdJ k lo hi:=ze0 fun j hj=>by rw[(zhH sp' sp hj).1,(zhH sp' sp hj).2]
 rw[<-el]
 simp! only[↓zcL,↓zfQ,zat]
 refine(zmE d S L G).mono ?_
 rintro _ rfl
 simp! only[↓zfH]
 refine⟨zaO (by lia) (by lia),zeV (fun i ρ=>∃s7 s8 s9,ρ=[.val (zat k s n S L G),.val (.int k),.val (.tup (wI s S)),.val (.tup (wI n L)),.val (.tup (wI n G)),.val (.lst (wI n (mo k S))),.own (zdJ i lo' hi'),s7,s8,s9]) ⟨_,_,_,rfl⟩ ?_ ?_⟩
 ·rintro j _ hj ⟨s7,s8,s9,rfl⟩
  obtain⟨e1,e2⟩:=e j hj
  rw[wI,zmG _ (show 0<k by lia) (show j<n by lia)]at e1
  rw[wI,zmG _ (show 0<k by lia) (show j<n by lia)]at e2
  have hc:cntS (j:Int) (n:Int) (k:Int)<=24:=by
   by_cases c:cntS (j:Int) (n:Int) (k:Int)<=24
   ·exact c
   ·have:=(zcY (j:=j) (n:=n) (show 0<k by lia)).mp (show 24<cntS (j:Int) (n:Int) (k:Int) by lia)
    lia
  have sub:∀(B:Nat->Int) (Q:List D×R->Prop),(∀ρ,Q (wL (cntS (j:Int) (n:Int) (k:Int)) (fun i=> .int (ask k S B (j+i*k))),ρ))->
    Ok (zeO (znZ (gN 2) zbf zdq) (wL (cntS (j:Int) (n:Int) (k:Int)) fun i=> .int ((j:Int)+(i:Int)*(k:Int))) [.val (.tup (wI n B)),.val (.lst (wI n (mo k S))),.emp]) Q:=fun B Q hQ=>by
   refine za8 (fun ρ=>∃z,ρ=[.val (.tup (wI n B)),.val (.lst (wI n (mo k S))),z]) (fun i=> .int (ask k S B (j+i*k))) ⟨_,rfl⟩ ?_ ?_
   ·rintro i _ hi ⟨z,rfl⟩
    have hlt:=(zcY (show 0<k by lia)).mp hi
    have e3:(j:Int)+(i:Int)*(k:Int)=((j+i*k:Nat):Int):=by push_cast;rfl
    simp! only[↓zdq,e3,zaI _ hlt]
    exact⟨_,rfl⟩
   ·intro ρ _
    exact hQ ρ
  unfold zkM at e1
  unfold zgS at e2
  simp! only[↓zgu,↓zgF,znq]
  refine⟨⟨⟨⟨zaO (by lia) (by lia),zaO (by lia) (by lia)⟩,by lia⟩,by lia⟩,by lia,sub L _ fun ρ=>?_⟩
  simp! only[↓zfM,znq]
  refine⟨⟨⟨⟨zaO (by lia) (by lia),zaO (by lia) (by lia)⟩,by lia⟩,by lia⟩,by lia,sub G _ fun ρ=>?_⟩
  simp! only[e1,e2,zdJ]
  exact⟨by lia,_,_,_,by rw[zhD]⟩
 ·rintro _ ⟨s7,s8,s9,rfl⟩
  simp! only[]
def Pool (ds:List D):Prop:=∃p q:Int,ds=[.int p,.int q]/\0<=q/\q<2147483647
theorem zbi (h:Pool ds){m:Int}(h0:0<m)(h1:m<2^250):Ok (zaq ds [.int m]) fun r=>∃(i:Nat) (ds':List D),(i:Int)<m/\Pool ds'/\r=(.val (.int i),ds'):=by
 obtain⟨p,q,rfl,q0,q1⟩:=h
 simp! only[↓zaq,↓zhv]
 refine⟨fun hp=>?_,fun hp=>?_⟩
 ·have m0:=Int.emod_nonneg p (Int.ne_of_gt h0)
  refine⟨h0,zq8 h0 h1,(p%m).toNat,[.int (p/m),.int q],?_,⟨_,_,rfl,q0,q1⟩,?_⟩
  ·have:=Int.emod_lt_of_pos p h0;lia
  ·rw[show(((p%m).toNat:Nat):Int)=p%m by lia]
 ·simp! only[↓zg1]
  have e1:0<=(q*69621+12345)%2147483647:=Int.emod_nonneg _ (by decide)
  have e2:(q*69621+12345)%2147483647<2147483647:=Int.emod_lt_of_pos _ (by decide)
  generalize (q*69621+12345)%2147483647=z at*
  have m0:=Int.emod_nonneg (z*z%2147483629/64) (Int.ne_of_gt h0)
  refine⟨zeZ (by lia),zeZ (by lia),by decide+kernel,h0,(z*z%2147483629/64%m).toNat,[.int p,.int z],?_,⟨_,_,rfl,e1,e2⟩,?_⟩
  ·have:=Int.emod_lt_of_pos (z*z%2147483629/64) h0;lia
  ·rw[show(((z*z%2147483629/64%m).toNat:Nat):Int)=z*z%2147483629/64%m by lia]
theorem pool_ok (ns:List Int)(k:Nat)(hk:k<64):Ok (zdC [.scr ns,.int k]) fun r=>∃ds,Pool ds/\r= .own ds:=by
 have last:∀c:Int,Ok (zep [.val (.scr ns),.val (.int k),.val (.int c)]) fun p=>∃ds a,Pool ds/\p=(.ret (.own ds),a):=fun c=>by
  simp! only[↓zep]
  exact⟨zeZ (by decide),zeZ (by lia),_,_,⟨_,_,rfl,Int.emod_nonneg _ (by decide),Int.emod_lt_of_pos _ (by decide)⟩,rfl⟩
 simp! only[↓zdC,↓zhn]
 refine⟨fun h=>?_,fun h=>?_⟩
 ·rw[List.getElem?_eq_getElem (show k<ns.length by lia)]
  simp! only[]
  refine⟨by decide+kernel,by decide+kernel,by decide+kernel,(last _).mono ?_⟩
  rintro _ ⟨d,a,h,rfl⟩
  simp! only[]
  exact⟨_,h,rfl⟩
 ·refine(last _).mono ?_
  rintro _ ⟨d,a,h,rfl⟩
  simp! only[]
  exact⟨_,h,rfl⟩
theorem zpB (h:Pool ds)(way:Nat)(hw:way<4):Ok (zcD ds [.int way]) fun r=>∃(x:Int) (ds':List D),0<=x/\x<2^220/\Pool ds'/\r=(.val (.int x),ds'):=by
 simp! only[↓zcD,↓zhl]
 refine⟨fun e=>?_,fun e=>?_⟩
 ·refine(zbi h (m:=2) (by lia) (by lia)).mono ?_
  rintro _ ⟨x,d1,hx,h1,rfl⟩
  simp! only[]
  exact⟨_,_,by lia,by lia,h1,rfl⟩
 simp! only[↓zhe]
 refine⟨fun e=>?_,fun e=>?_⟩
 ·refine(zbi h (m:=4) (by lia) (by lia)).mono ?_
  rintro _ ⟨x,d1,hx,h1,rfl⟩
  simp! only[]
  exact⟨_,_,by lia,by lia,h1,rfl⟩
 simp! only[↓zhi]
 refine⟨fun e=>?_,fun e=>?_⟩
 ·refine(zbi h (m:=2) (by lia) (by lia)).mono ?_
  rintro _ ⟨x,d1,hx,h1,rfl⟩
  simp! only[]
  refine(zbi h1 (m:=40) (by lia) (by lia)).mono ?_
  rintro _ ⟨y,d2,hy,h2,rfl⟩
  simp! only[]
  refine⟨zeZ (by lia),_,_,Int.mul_nonneg (by lia) (by lia),?_,h2,rfl⟩
  have:=Int.mul_le_mul (a:=(x:Int)) (b:=(y:Int)) (c:=2) (d:=40) (by lia) (by lia) (by lia) (by lia)
  lia
 simp! only[↓zhj]
 refine(zbi h (m:=9) (by lia) (by lia)).mono ?_
 rintro _ ⟨x,d1,hx,h1,rfl⟩
 simp! only[]
 refine(zbi h1 (m:=4) (by lia) (by lia)).mono ?_
 rintro _ ⟨y,d2,hy,h2,rfl⟩
 have hy':∃z:Int,(0<=z/\z<=10000000000000000000000000000000000000000000000000000000000)/\[D.int 1,D.int 1000,D.int 100000000000000000000,D.int 10000000000000000000000000000000000000000000000000000000000][y]? =some (.int z):=by
  have:y=0\/y=1\/y=2\/y=3:=by lia
  rcases this with rfl|rfl|rfl|rfl<;>exact⟨_,by decide,rfl⟩
 obtain⟨z,hz,ez⟩:=hy'
 simp! only[ez]
 refine⟨zeZ (by lia),_,_,Int.mul_nonneg (by lia) hz.1,?_,h2,rfl⟩
 have:=Int.mul_le_mul (a:=(x:Int)) (b:=z) (c:=9) (d:=10000000000000000000000000000000000000000000000000000000000) (by lia) hz.2 hz.1 (by lia)
 lia
theorem zns (n k:Nat)(r:Nat->Int)(hk:k<=n)(hn:n<=1000):Ok (zdt [.lst (wI n r),.int k]) fun x=>x= .val (.tup (wI (n+1-k) (win k r))):=by
 have hl:((n:Int)-(k:Int)+1).toNat=n+1-k:=by lia
 simp! only[↓zdt,↓zhq,↓zgZ,hl]
 refine⟨zaO (by lia) (by lia),by lia,za8 (fun ρ=>∃s,ρ=[.val (.lst (wI n r)),.val (.int k),s]) (fun i=> .int (win k r i)) ⟨_,rfl⟩ ?_ ?_⟩
 ·rintro i _ hi ⟨s,rfl⟩
  have hc:=cut_w (n:=n) (a:=i) (b:=k) (fun j=> .int (r j)) (by lia)
  simp! only[↓zg6,hc,zc7,zcl]
  exact⟨rfl,_,rfl⟩
 ·rintro _ ⟨s,rfl⟩
  simp! only[]
structure LOk (k s n:Nat) (L G:Nat->Int):Prop where
 d:Dim k s n
 le:∀p,p<n->L p<=G p
 far:∀p,p<n->G p-L p<2^230
theorem line_ok (h:Pool ds)(most ways:Nat)(m5:5<=most)(m24:most<=24)(w1:1<=ways)(w4:ways<=4):
  Ok (zdB ds [.int most,.int ways]) fun r=>∃(k s n:Nat) (S L G:Nat->Int) (ds':List D),Pool ds'/\LOk k s n L G/\(∃r,Fits k s n S L G r)/\n<=most/\r=(.val (zat k s n S L G),ds'):=by
 simp! only[↓zdB,↓zhx]
 refine(zbi h (m:=4) (by lia) (by lia)).mono ?_
 rintro _ ⟨x,d1,hx,h1,rfl⟩
 simp! only[show(2:Int)+(x:Int)=((2+x:Nat):Int) by lia]
 generalize hk:2+x=k
 refine(zbi h1 (m:=4) (by lia) (by lia)).mono ?_
 rintro _ ⟨y,d2,hy,h2,rfl⟩
 simp! only[]
 refine(zbi h2 (m:=(most:Int)-k+1) (by lia) (by lia)).mono ?_
 rintro _ ⟨z,d3,hz,h3,rfl⟩
 simp! only[]
 refine(zbi h3 (m:=4) (by lia) (by lia)).mono ?_
 rintro _ ⟨w,d4,hw,h4,rfl⟩
 have hw':∃n:Nat,(k<=n/\n<=most)/\∃v:Int,[D.int k,D.int ((k:Int)+y),D.int ((k:Int)+z),D.int most][w]? =some (.int v)/\min2 most v=n:=by
  have:w=0\/w=1\/w=2\/w=3:=by lia
  rcases this with rfl|rfl|rfl|rfl
  ·exact⟨k,by lia,_,rfl,by unfold min2;split<;>lia⟩
  ·exact⟨min most (k+y),by lia,_,rfl,by unfold min2;split<;>lia⟩
  ·exact⟨min most (k+z),by lia,_,rfl,by unfold min2;split<;>lia⟩
  ·exact⟨most,by lia,_,rfl,by unfold min2;split<;>lia⟩
 obtain⟨n,hn,v,ev,en⟩:=hw'
 simp! only[ev,en]
 refine(zbi h4 (m:=3) (by lia) (by lia)).mono ?_
 rintro _ ⟨u,d5,hu,h5,rfl⟩
 have hu':∃z:Int,[D.int 1,D.int 1,D.int 1000000000000000000000000000000000000000000000000000000000][u]? =some (.int z):=by
  have:u=0\/u=1\/u=2:=by lia
  rcases this with rfl|rfl|rfl<;>exact⟨_,rfl⟩
 obtain⟨great,eg⟩:=hu'
 simp! only[eg]
 refine(zbi h5 (m:=(ways:Int)) (by lia) (by lia)).mono ?_
 rintro _ ⟨way,d6,hway,h6,rfl⟩
 simp! only[↓zg2]
 refine⟨zaO (by lia) (by lia),zeV (fun i ρ=>∃(ds':List D) (R L G:Nat->Int) (s10 s11:Sl),Pool ds'/\(∀p,p<i->L p<=R p/\R p<=G p/\R p-L p<2^220/\G p-R p<2^220)/\ρ=[.par ds',.val (.int most),.val (.int ways),.val (.int k),.val (.int n),.val (.int great),.val (.int way),.own (wI i R),.own (wI i L),.own (wI i G),s10,s11]) ⟨d6,fun _=>0,fun _=>0,fun _=>0,_,_,h6,fun _ h=>by lia,rfl⟩ ?_ ?_⟩
 ·rintro i _ hi ⟨d7,R,L,G,s10,s11,h7,b,rfl⟩
  simp! only[↓zg9]
  refine(zbi h7 (m:=13) (by lia) (by lia)).mono ?_
  rintro _ ⟨a,d8,ha,h8,rfl⟩
  simp! only[zkn]
  refine⟨zeZ (by lia),by lia,?_⟩
  generalize ((a:Int)-6)*great=num
  refine(zpB h8 way (by lia)).mono ?_
  rintro _ ⟨lw,d9,l0,l1,h9,rfl⟩
  simp! only[zkn]
  refine⟨by lia,?_⟩
  refine(zpB h9 way (by lia)).mono ?_
  rintro _ ⟨hw,d10,g0,g1,h10,rfl⟩
  simp! only[zkn]
  refine⟨by lia,d10,_,_,_,_,_,h10,fun p hp=>?_,rfl⟩
  by_cases e:p<i
  ·simp only[e,if_true];exact b p e
  ·simp only[e,if_false];lia
 ·rintro _ ⟨d7,R,L,G,s10,s11,h7,b,rfl⟩
  simp! only[]
  refine(zns n k R hn.1 (by lia)).mono ?_
  rintro _ rfl
  simp! only[]
  refine⟨k,n+1-k,n,_,L,G,d7,h7,⟨⟨by lia,by lia,hn.1,by lia,by lia⟩,fun p hp=>?_,fun p hp=>?_⟩,⟨R,fun p hp=>(b p hp).1,fun p hp=>(b p hp).2.1,fun i _=>rfl⟩,hn.2,rfl⟩
  ·have:=b p hp;lia
  ·have:=b p hp;lia
theorem put_w (f:Nat->Int)(x:Int)(h:i<n):(wI n f).take i++[D.int x]++(wI n f).drop (i+1)=wI n fun j=>if j=i then x else f j:=by
 rw[<-zpn f x h,List.set_eq_take_append_cons_drop]
 simp[za4,h]
theorem drop_w (f:Nat->Int):(wI n f).drop i=wI (n-i) fun j=>f (i+j):=by
 apply List.ext_getElem?
 intro j
 rw[List.getElem?_drop]
 by_cases hj:i+j<n
 ·rw[zaI _ hj,zaI _ (by lia)]
 ·rw[List.getElem?_eq_none (by rw[za4];lia),List.getElem?_eq_none (by rw[za4];lia)]
theorem join_w (f g:Nat->Int)(h:i<=n):(wI n f).take i++(wI (n-i) fun j=>g (i+j))=wI n fun j=>if j<i then f j else g j:=by
 apply List.ext_getElem?
 intro j
 by_cases hj:j<i
 ·rw[List.getElem?_append_left (by rw[List.length_take,za4];lia),List.getElem?_take_of_lt hj,zaI _ (by lia),zaI _ (by lia)];dsimp only;rw[if_pos hj]
 ·rw[List.getElem?_append_right (by rw[List.length_take,za4];lia),List.length_take,za4,Nat.min_eq_left h]
  by_cases hn:j<n
  ·rw[zaI _ (by lia),zaI _ hn];dsimp only;rw[if_neg hj,show i+(j-i)=j by lia]
  ·rw[List.getElem?_eq_none (by rw[za4];lia),List.getElem?_eq_none (by rw[za4];lia)]
section bent
variable {ds:List D} {k s n:Nat} {S L G:Nat->Int} {way at' pl:Nat} {by':Int} {d1:D} {Q:Fl×R->Prop}
theorem bent3 (h:Pool ds)(ok:LOk k s n L G)(hQ:∀(S L G:Nat->Int) (ds':List D) (a:List Sl),Pool ds'->LOk k s n L G->Q (.ret (.val (zat k s n S L G)),.par ds'::a)):
  Ok (zd6 [.par ds,.val d1,.val (.int k),.val (.tup (wI s S)),.val (.tup (wI n L)),.val (.tup (wI n G)),.val (.int way),.val (.int by'),.val (.int at'),.val (.int pl)]) Q:=by
 simp! only[↓zd6]
 exact hQ S L G ds _ h ok
theorem bent4 (h:Pool ds)(ok:LOk k s n L G)(hat:at'<s)(hpl:pl<n)(hQ:∀(S L G:Nat->Int) (ds':List D) (a:List Sl),Pool ds'->LOk k s n L G->Q (.ret (.val (zat k s n S L G)),.par ds'::a)):
  Ok (zd8 [.par ds,.val d1,.val (.int k),.val (.tup (wI s S)),.val (.tup (wI n L)),.val (.tup (wI n G)),.val (.int way),.val (.int by'),.val (.int at'),.val (.int pl)]) Q:=by
 have hs24:s<=24:=by have:=ok.d.s;have:=ok.d.n24;have:=ok.d.k2;lia
 simp! only[↓zd8]
 refine⟨fun _=>?_,fun _=>bent3 h ok hQ⟩
 simp! only[↓zg0,zh3,zgI,drop_w]
 refine⟨by lia,za8 (fun ρ=>∃z,ρ=[.val (.int by'),z]) (fun i=> .int (S (at'+i)+by')) ⟨_,rfl⟩ ?_ ?_⟩
 ·rintro i _ hi ⟨z,rfl⟩
  simp! only[↓zgW]
  exact⟨_,rfl⟩
 ·rintro _ ⟨z,rfl⟩
  have e:=join_w S (fun j=>S j+by') (show at'<=s by lia)
  simp! only[zh3,e,List.length_take]
  exact⟨by lia,bent3 h ok hQ⟩
theorem bent5 (h:Pool ds)(ok:LOk k s n L G)(hat:at'<s)(hpl:pl<n)(hQ:∀(S L G:Nat->Int) (ds':List D) (a:List Sl),Pool ds'->LOk k s n L G->Q (.ret (.val (zat k s n S L G)),.par ds'::a)):
  Ok (zem [.par ds,.val d1,.val (.int k),.val (.tup (wI s S)),.val (.tup (wI n L)),.val (.tup (wI n G)),.val (.int way),.val (.int by'),.val (.int at'),.val (.int pl)]) Q:=by
 have n24:=ok.d.n24
 simp! only[↓zem]
 refine⟨fun _=>?_,fun _=>bent4 h ok hat hpl hQ⟩
 have c1:cutD (wI n G) (some ((pl:Int)+1)) none=(wI n G).drop (pl+1):=zgI _ (pl+1)
 simp! only[zh3,c1,zaI _ hpl,List.length_take,List.length_drop,put_w G (L pl) hpl]
 refine⟨by lia,by lia,bent4 h ⟨ok.d,fun p hp=>?_,fun p hp=>?_⟩ hat hpl hQ⟩
 ·have:=ok.le p hp;split<;>first|lia|(subst_vars;lia)
 ·have:=ok.far p hp;have:=ok.le p hp;split<;>first|lia|(subst_vars;lia)
theorem bent6 (h:Pool ds)(ok:LOk k s n L G)(hat:at'<s)(hpl:pl<n)(hQ:∀(S L G:Nat->Int) (ds':List D) (a:List Sl),Pool ds'->LOk k s n L G->Q (.ret (.val (zat k s n S L G)),.par ds'::a)):
  Ok (zec [.par ds,.val d1,.val (.int k),.val (.tup (wI s S)),.val (.tup (wI n L)),.val (.tup (wI n G)),.val (.int way),.val (.int by'),.val (.int at'),.val (.int pl)]) Q:=by
 have n24:=ok.d.n24
 simp! only[↓zec]
 refine⟨fun _=>?_,fun _=>bent5 h ok hat hpl hQ⟩
 have c1:cutD (wI n L) (some ((pl:Int)+1)) none=(wI n L).drop (pl+1):=zgI _ (pl+1)
 simp! only[zh3,c1,zaI _ hpl,List.length_take,List.length_drop,put_w L (G pl) hpl]
 refine⟨by lia,by lia,bent5 h ⟨ok.d,fun p hp=>?_,fun p hp=>?_⟩ hat hpl hQ⟩
 ·have:=ok.le p hp;split<;>first|lia|(subst_vars;lia)
 ·have:=ok.far p hp;have:=ok.le p hp;split<;>first|lia|(subst_vars;lia)
theorem bent7 (h:Pool ds)(ok:LOk k s n L G)(hat:at'<s)(hpl:pl<n)(hQ:∀(S L G:Nat->Int) (ds':List D) (a:List Sl),Pool ds'->LOk k s n L G->Q (.ret (.val (zat k s n S L G)),.par ds'::a)):
  Ok (zd5 [.par ds,.val d1,.val (.int k),.val (.tup (wI s S)),.val (.tup (wI n L)),.val (.tup (wI n G)),.val (.int way),.val (.int by'),.val (.int at'),.val (.int pl)]) Q:=by
 have hs24:s<=24:=by have:=ok.d.s;have:=ok.d.n24;have:=ok.d.k2;lia
 simp! only[↓zd5]
 refine⟨fun _=>?_,fun _=>bent6 h ok hat hpl hQ⟩
 simp! only[↓zha]
 refine⟨by lia,za8 (fun ρ=>∃z,ρ=[.val (.int by'),z]) (fun i=> .int (S i+by')) ⟨_,rfl⟩ ?_ ?_⟩
 ·rintro i _ hi ⟨z,rfl⟩
  simp! only[↓zgX]
  exact⟨_,rfl⟩
 ·rintro _ ⟨z,rfl⟩
  simp! only[]
  exact bent6 h ok hat hpl hQ
end bent
theorem bent_ok (h:Pool ds)(ok:LOk k s n L G):
  Ok (zdy ds [zat k s n S L G]) fun r=>∃(S L G:Nat->Int) (ds':List D),Pool ds'/\LOk k s n L G/\r=(.val (zat k s n S L G),ds'):=by
 have hs24:s<=24:=by have:=ok.d.s;have:=ok.d.n24;have:=ok.d.k2;lia
 have hs1:1<=s:=by have:=ok.d.s;have:=ok.d.kn;lia
 have n24:=ok.d.n24
 have n1:1<=n:=by have:=ok.d.k2;have:=ok.d.kn;lia
 simp! only[↓zdy,↓zhp,zat]
 refine(zbi h (m:=6) (by lia) (by lia)).mono ?_
 rintro _ ⟨way,d2,hw,h2,rfl⟩
 simp! only[]
 refine(zbi h2 (m:=6) (by lia) (by lia)).mono ?_
 rintro _ ⟨y,d3,hy,h3,rfl⟩
 have hy':∃z:Int,[D.int 1,D.int (-1),D.int 2,D.int (-3),D.int 10000000000000000000000000000000000000000000000000000000000,D.int (-10000000000000000000000000000000000000000000000000000000000)][y]? =some (.int z):=by
  have:y=0\/y=1\/y=2\/y=3\/y=4\/y=5:=by lia
  rcases this with rfl|rfl|rfl|rfl|rfl|rfl<;>exact⟨_,rfl⟩
 obtain⟨by',ez⟩:=hy'
 simp! only[ez]
 refine(zbi h3 (m:=(s:Int)) (by lia) (by lia)).mono ?_
 rintro _ ⟨at',d4,hat,h4,rfl⟩
 simp! only[]
 refine(zbi h4 (m:=(n:Int)) (by lia) (by lia)).mono ?_
 rintro _ ⟨pl,d5,hpl,h5,rfl⟩
 have c1:cutD (wI s S) (some ((at':Int)+1)) none=(wI s S).drop (at'+1):=zgI _ (at'+1)
 simp! only[]
 refine⟨fun _=>?_,fun _=>bent7 h5 ok (by lia) (by lia) fun S L G d6 a h6 ok=>?_⟩
 ·simp! only[zh3,c1,zaI _ (show at'<s by lia),List.length_take,List.length_drop,put_w S _ (show at'<s by lia)]
  refine⟨by lia,by lia,bent7 h5 ok (by lia) (by lia) fun S L G d6 a h6 ok=>?_⟩
  simp! only[]
  exact⟨S,L,G,d6,h6,ok,rfl⟩
 ·simp! only[]
  exact⟨S,L,G,d6,h6,ok,rfl⟩
def rl (k:Nat)(lo hi:Nat->Int)(T:Int)(j:Nat):Int:=max2 (lo j) (hi j-(sumR k hi-T))
def rh (k:Nat)(lo hi:Nat->Int)(T:Int)(j:Nat):Int:=min2 (hi j) (lo j+(T-sumR k lo))
theorem min2_eq (a b:Int):(min2 a b=a\/min2 a b=b)/\min2 a b<=a/\min2 a b<=b:=by unfold min2;split<;>lia
theorem zn8 (hj:j<k){f g:Nat->Int}(h:∀i,i<k->i≠j->f i<=g i):sumR k f-f j<=sumR k g-g j:=by
 have h1:=znp (n:=k) (f:=fun i=>if i=j then 0 else f i) (g:=fun i=>if i=j then 0 else g i) fun i hi=>by
  split
  ·exact Int.le_refl _
  ·exact h i hi (by assumption)
 have h2:∀F:Nat->Int,∀m,j<m->sumR m (fun i=>if i=j then 0 else F i)=sumR m F-F j:=fun F m=>by
  have lowz:∀q,q<=j->sumR q (fun i=>if i=j then 0 else F i)=sumR q F:=fun q hq=>zgM fun i hi=>if_neg (by lia)
  induction m with
  |zero=>intro h;lia
  |succ m ih=>
   intro hm
   show sumR m (fun i=>if i=j then 0 else F i)+(if m=j then 0 else F m)=sumR m F+F m-F j
   by_cases e:m=j
   ·subst e;rw[if_pos rfl,lowz m (Nat.le_refl _)];lia
   ·rw[if_neg e,ih (by lia)];lia
 rw[h2 f k hj,h2 g k hj]at h1
 exact h1
theorem in_range {lo hi h:Nat->Int}{T:Int}(hh:∀j,j<k->lo j<=h j/\h j<=hi j)(hs:sumR k h=T)(hj:j<k):rl k lo hi T j<=h j/\h j<=rh k lo hi T j:=by
 have h1:=zn8 hj (f:=h) (g:=hi) fun i hi' _=>(hh i hi').2
 have h2:=zn8 hj (f:=lo) (g:=h) fun i hi' _=>(hh i hi').1
 have h3:=hh j hj
 have m1:=znT (lo j) (hi j-(sumR k hi-T))
 have m2:=min2_eq (hi j) (lo j+(T-sumR k lo))
 unfold rl rh
 lia
theorem range_le {lo hi:Nat->Int}{T:Int}(r:Room' k lo hi T)(hj:j<k):rl k lo hi T j<=rh k lo hi T j:=by
 have h:=in_range (lo:=lo) (hi:=hi) (h:=hd lo hi k T) (fun i hi'=>hd_in r hi') (hd_sum r) hj
 exact Int.le_trans h.1 h.2
theorem zkP (k5:k<=5)(lo hi:Nat->Int)(T:Int):Ok (zbO [.lst (zdJ k lo hi),.int T]) fun x=>x= .own (zdJ k (rl k lo hi T) (rh k lo hi T)):=by
 simp! only[↓zbO,↓zeT,↓zfA,zdJ]
 refine⟨by lia,za8 (fun ρ=>∃s s',ρ=[s,s']) (fun j=> .int (lo j)) ⟨_,_,rfl⟩ ?_ ?_⟩
 ·rintro j _ hj ⟨s,s',rfl⟩
  simp! only[↓zfi]
  exact⟨_,_,rfl⟩
 rintro _ ⟨_,_,rfl⟩
 simp! only[zc7,zcl,↓zfu]
 refine⟨by lia,za8 (fun ρ=>∃s s',ρ=[s,s']) (fun j=> .int (hi j)) ⟨_,_,rfl⟩ ?_ ?_⟩
 ·rintro j _ hj ⟨s,s',rfl⟩
  simp! only[↓zfB]
  exact⟨_,_,rfl⟩
 rintro _ ⟨_,_,rfl⟩
 simp! only[zc7,zcl,↓zfg]
 refine⟨by lia,za8 (fun ρ=>∃s s',ρ=[.val (.int (sumR k hi-T)),.val (.int (T-sumR k lo)),s,s']) (fun j=> .tup [.int (rl k lo hi T j),.int (rh k lo hi T j)]) ⟨_,_,rfl⟩ ?_ ?_⟩
 ·rintro j _ hj ⟨s,s',rfl⟩
  simp! only[↓zfl]
  exact⟨rfl,_,_,rfl⟩
 rintro _ ⟨_,_,rfl⟩
 simp! only[]
section
variable {k s n:Nat} {S L G lo hi:Nat->Int}
theorem zk1 (d:Dim k s n)(sp:zdI k n S L G lo hi)(r:Room' k lo hi (S 0)):Ok (za7 [zat k s n S L G]) fun x=>x= .own (zdJ k lo hi):=by
 simp! only[↓za7,↓zdh]
 refine(ze2 d sp).mono ?_
 rintro _ (⟨_,rfl⟩|⟨nr,_⟩)
 ·simp! only[↓zdQ]
  refine(zl6 d sp).mono ?_
  rintro _ rfl
  simp! only[]
 ·exact absurd r nr
theorem zeG (d:Dim k s n)(sp:zdI k n S L G lo hi):(Room' k lo hi (S 0)->zaK [zat k s n S L G]=none)/\(¬Room' k lo hi (S 0)->zaK [zat k s n S L G]=some "NoFit"):=by
 have h:=ze2 d sp
 unfold zaK fX zdo
 refine⟨fun r=>zqc ?_,fun r=>znv ?_⟩
 ·simp! only[]
  refine h.mono ?_
  rintro _ (⟨_,rfl⟩|⟨nr,_⟩)
  ·simp! only[]
  ·exact absurd r nr
 ·simp! only[]
  refine h.mono ?_
  rintro _ (⟨z,_⟩|⟨nr,pd,hp,rfl⟩)
  ·exact absurd z r
  ·simp! only[zmV hp]
theorem sure_ok (d:Dim k s n)(sp:zdI k n S L G lo hi)(r:Room' k lo hi (S 0)):Ok (zcO [zat k s n S L G]) fun x=>x= .own (wL k fun j=> .bl (decide (rl k lo hi (S 0) j=rh k lo hi (S 0) j))):=by
 have k5:=d.k5
 have s1:0<s:=by have:=d.s;have:=d.kn;lia
 simp! only[↓zcO,↓zfV,↓zgq]
 refine(zk1 d sp r).mono ?_
 rintro _ rfl
 simp! only[zat,zaI _ s1]
 refine(zkP k5 lo hi (S 0)).mono ?_
 rintro _ rfl
 simp! only[zdJ]
 refine⟨by lia,za8 (fun ρ=>∃s s',ρ=[s,s']) (fun j=> .bl (decide (rl k lo hi (S 0) j=rh k lo hi (S 0) j))) ⟨_,_,rfl⟩ ?_ ?_⟩
 ·rintro j _ hj ⟨s,s',rfl⟩
  simp! only[↓zgA]
  refine⟨?_,_,_,rfl⟩
  congr 2
 rintro _ ⟨_,_,rfl⟩
 simp! only[]
theorem sure_x (d:Dim k s n)(sp:zdI k n S L G lo hi):zcK [zat k s n S L G]=zaK [zat k s n S L G]:=by
 unfold zcK fX zgC
 refine ze9 ?_
 simp! only[]
def zqg (k:Nat)(p:Nat->Prop)[DecidablePred p]:List D:=(List.range k).filterMap fun j=>if p j then some (.int (j:Nat))else none
theorem zqq (k:Nat)(p:Nat->Prop)[DecidablePred p]:(zqg k p).length<=k:=Nat.le_trans (List.length_filterMap_le _ _) (by rw[List.length_range];exact Nat.le_refl _)
theorem znm (d:Dim k s n)(sp:zdI k n S L G lo hi)(r:Room' k lo hi (S 0)):Ok (zaW [zat k s n S L G]) fun x=>x= .own (zqg k fun j=>rl k lo hi (S 0) j<rh k lo hi (S 0) j):=by
 have k5:=d.k5
 simp! only[↓zaW,↓zgn,↓zf9]
 refine(sure_ok d sp r).mono ?_
 rintro _ rfl
 simp! only[znW]
 refine⟨by lia,zmu (fun ρ=>∃s s',ρ=[s,s']) (fun j=>if rl k lo hi (S 0) j<rh k lo hi (S 0) j then some (.int (j:Nat))else none) ⟨_,_,rfl⟩ ?_ ?_⟩
 ·rintro j _ hj ⟨s,s',rfl⟩
  have le:=range_le r hj
  simp! only[↓zgE,↓zgk]
  refine⟨fun h=>?_,fun h=>?_⟩
  ·have h:¬rl k lo hi (S 0) j=rh k lo hi (S 0) j:=by simpa using h
   rw[if_pos (by lia)];exact⟨rfl,_,_,rfl⟩
  ·have h:rl k lo hi (S 0) j=rh k lo hi (S 0) j:=by simpa using h
   rw[if_neg (by lia)];exact⟨rfl,_,_,rfl⟩
 rintro _ ⟨_,_,rfl⟩
 simp! only[]
 rfl
theorem zod (d:Dim k s n)(sp:zdI k n S L G lo hi):zaS [zat k s n S L G]=zaK [zat k s n S L G]:=by
 rw[<-sure_x d sp]
 unfold zaS fX zfJ
 refine ze9 ?_
 simp! only[]
theorem znG (d:Dim k s n)(sp:zdI k n S L G lo hi):Ok (zbD [zat k s n S L G]) fun x=>∃b,(b=true↔Room' k lo hi (S 0))/\x= .val (.bl b):=by
 have k5:=d.k5
 have s1:0<s:=by have:=d.s;have:=d.kn;lia
 simp! only[↓zbD,↓zdp]
 refine(zmy d sp).mono ?_
 rintro _ rfl
 simp! only[↓zdW,zdJ]
 refine⟨by lia,za8 (fun ρ=>∃s s',ρ=[s,s']) (fun j=> .bl (decide (lo j<=hi j))) ⟨_,_,rfl⟩ ?_ ?_⟩
 ·rintro j _ hj ⟨s,s',rfl⟩
  simp! only[↓zdU]
  exact⟨_,_,rfl⟩
 rintro _ ⟨_,_,rfl⟩
 have all:((List.range k).map fun j=>decide (lo j<=hi j)).all id=true↔∀j,j<k->lo j<=hi j:=by simp
 have bl:zc0 (wL k fun j=> .bl (decide (lo j<=hi j)))=some ((List.range k).map fun j=>decide (lo j<=hi j)):=zrg _ _
 simp! only[bl]
 refine⟨fun h=>?_,fun h=>?_⟩
 ·refine⟨false,?_,rfl⟩
  constructor
  ·intro z;cases z
  ·intro r;exact absurd (all.mpr r.le) (by simpa using h)
 ·have le:=all.mp (by simpa using h)
  simp! only[↓zdZ,↓zdO]
  refine⟨by lia,za8 (fun ρ=>∃s s',ρ=[s,s']) (fun j=> .int (lo j)) ⟨_,_,rfl⟩ ?_ ?_⟩
  ·rintro j _ hj ⟨s,s',rfl⟩
   simp! only[↓zdX]
   exact⟨_,_,rfl⟩
  rintro _ ⟨_,_,rfl⟩
  simp! only[zat,zaI _ s1,zc7,zcl]
  refine⟨fun h1=>?_,fun h1=>?_⟩
  ·simp! only[↓zdP]
   refine⟨by lia,za8 (fun ρ=>∃s s',ρ=[s,s']) (fun j=> .int (hi j)) ⟨_,_,rfl⟩ ?_ ?_⟩
   ·rintro j _ hj ⟨s,s',rfl⟩
    simp! only[↓zd1]
    exact⟨_,_,rfl⟩
   rintro _ ⟨_,_,rfl⟩
   simp! only[zc7,zcl]
   refine⟨decide (S 0<=sumR k hi),?_,rfl⟩
   rw[decide_eq_true_eq]
   exact⟨fun z=>⟨le,h1,z⟩,fun r=>r.high⟩
  ·refine⟨false,?_,rfl⟩
   constructor
   ·intro z;cases z
   ·intro r;have:=r.low;lia
end
theorem put_wD (f:Nat->D)(x:D)(h:i<n):(wL n f).take i++[x]++(wL n f).drop (i+1)=wL n fun j=>if j=i then x else f j:=by
 apply List.ext_getElem?
 intro j
 by_cases hj:j<i
 ·rw[List.append_assoc,List.getElem?_append_left (by rw[List.length_take,za4];lia),List.getElem?_take_of_lt hj,zaI _ (by lia),zaI _ (by lia),if_neg (by lia)]
 ·rw[List.append_assoc,List.getElem?_append_right (by rw[List.length_take,za4];lia),List.length_take,za4,Nat.min_eq_left (by lia)]
  by_cases e:j=i
  ·subst e;rw[Nat.sub_self,zaI _ h];simp
  ·obtain⟨q,eq⟩:∃q,j-i=q+1:=⟨j-i-1,by lia⟩
   rw[eq]
   show((wL n f).drop (i+1))[q]? =_
   rw[List.getElem?_drop]
   by_cases hn:j<n
   ·rw[show i+1+q=j by lia,zaI _ hn,zaI _ hn,if_neg e]
   ·rw[List.getElem?_eq_none (by rw[za4];lia),List.getElem?_eq_none (by rw[za4];lia)]
def exch (many g t:Nat)(r:Nat->Int)(p:Nat):Int:=r p+if p%many=t then 1 else if p%many=g then-1 else 0
theorem zmP {n many g t:Nat}{r:Nat->Int}(hn:n<=1000)(hm:many<=1000)(hg:g<many)(ht:t<many):
  Ok (zbB [.tup (wI n r),.int many,.int g,.int t]) fun x=>x= .val (.tup (wI n (exch many g t r))):=by
 simp! only[↓zbB,↓zdn,rep_w,hg,ht]
 rw[show(wL many fun _=>D.int 0)=wI many fun _=>0 from rfl,zpn _ _ hg,zpn _ _ ht]
 refine⟨⟨zaO (by lia) (by lia),by lia⟩,?_⟩
 simp! only[↓zdR,znW]
 refine⟨ht,by lia,zkC (fun i acc ρ=>acc=wI i (exch many g t r)/\∃s s',ρ=[.par (wI many fun j=>if j=t then(1:Int)else if j=g then-1 else 0),.val (.int many),s,s']) ⟨rfl,_,_,rfl⟩ ?_ ?_⟩
 ·rintro p _ _ hp ⟨rfl,s,s',rfl⟩
  have e:(p:Int)%(many:Int)=((p%many:Nat):Int):=by push_cast;rfl
  simp! only[↓zdL,e,zaI _ (Nat.mod_lt p (show 0<many by lia))]
  exact⟨by lia,by rw[show wI (p+1) (exch many g t r)=_ from zhD _ _];rfl,_,_,rfl⟩
 ·rintro _ _ ⟨rfl,s,s',rfl⟩
  simp! only[]
section
variable {k s n:Nat} {S L G lo hi:Nat->Int}
def loB (lo:Nat->Int)(b:Nat)(i:Nat):Int:=if i=b then lo i+1 else lo i
def hiA (hi:Nat->Int)(a:Nat)(i:Nat):Int:=if i=a then hi i-1 else hi i
def hAB (k:Nat)(lo hi:Nat->Int)(T:Int)(a b:Nat):Nat->Int:=hd (loB lo b) (hiA hi a) k T
def rowA (k:Nat)(S lo hi:Nat->Int)(a b:Nat)(p:Nat):Int:=hAB k lo hi (S 0) a b (p%k)+mo k S p
def h2 (k:Nat)(S lo hi:Nat->Int)(a b:Nat)(j:Nat):Int:=if j=a then hAB k lo hi (S 0) a b a+1 else if j=b then hAB k lo hi (S 0) a b b-1 else hAB k lo hi (S 0) a b j
theorem set_wD (f:Nat->D)(x:D)(h:i<n):(wL n f).set i x=wL n fun j=>if j=i then x else f j:=by
 rw[<-put_wD f x h,List.set_eq_take_append_cons_drop,if_pos (by rw[za4];exact h)]
 simp
theorem two_ok (d:Dim k s n)(sp:zdI k n S L G lo hi)(r:Room' k lo hi (S 0)){a b:Nat}(ha:a<k)(hb:b<k)(ne:a≠b):
  Ok (zcu [zat k s n S L G,.int a,.int b]) fun x=>x= .val (.tup [.tup (wI n (rowA k S lo hi a b)),.tup (wI n (exch k b a (rowA k S lo hi a b)))]):=by
 have k5:=d.k5
 have n24:=d.n24
 have s1:0<s:=by have:=d.s;have:=d.kn;lia
 simp! only[↓zcu,↓zid]
 refine(zk1 d sp r).mono ?_
 rintro _ rfl
 have e:(wL k fun j=>if j=b then D.tup [.int (lo b+1),.int (hi b)]else if j=a then .tup [.int (lo a),.int (hi a-1)]else .tup [.int (lo j),.int (hi j)])=zdJ k (loB lo b) (hiA hi a):=ze0 fun j hj=>by
  unfold loB hiA
  by_cases e1:j=b
  ·subst e1;simp only[if_true,if_neg (Ne.symm ne)]
  ·by_cases e2:j=a
   ·subst e2;simp only[if_neg e1,if_true]
   ·simp only[if_neg e1,if_neg e2]
 simp! only[zdJ,zaI _ ha,ha,set_wD _ _ ha,zaI _ hb,hb,if_neg (Ne.symm ne),set_wD _ _ hb,zat,zaI _ s1]
 simp! only[e]
 refine(zkS _ _ (S 0) (by lia)).mono ?_
 rintro _ rfl
 simp! only[]
 refine(zpv d S L G _).mono ?_
 rintro _ rfl
 simp! only[]
 refine(zmP (n:=n) (many:=k) (g:=b) (t:=a) (by lia) (by lia) hb ha).mono ?_
 rintro _ rfl
 simp! only[]
 rfl
end
def nI (x:Nat):D:= .int x
def Flr (k:Nat)(lo hi:Nat->Int)(T:Int):List Nat:=(List.range k).filter fun j=>decide (rl k lo hi T j<rh k lo hi T j)
theorem zm8 (k:Nat)(p:Nat->Prop)[DecidablePred p]:zqg k p=((List.range k).filter fun j=>decide (p j)).map nI:=by
 unfold zqg
 induction List.range k with
 |nil=>rfl
 |cons a l ih=>
  by_cases h:p a
  ·rw[List.filterMap_cons,if_pos h,List.filter_cons,if_pos (decide_eq_true h),List.map_cons,<-ih];rfl
  ·rw[List.filterMap_cons,if_neg h,List.filter_cons,if_neg (by simpa using h),<-ih]
theorem zpK {T:Int}(h:j∈Flr k lo hi T):j<k/\rl k lo hi T j<rh k lo hi T j:=by
 unfold Flr at h
 rw[List.mem_filter]at h
 exact⟨List.mem_range.mp h.1,of_decide_eq_true h.2⟩
theorem Fl_up (k:Nat)(lo hi:Nat->Int)(T:Int):(Flr k lo hi T).Pairwise (· < ·):=List.Pairwise.filter _ (List.pairwise_lt_range)
theorem Fl_len (k:Nat)(lo hi:Nat->Int)(T:Int):(Flr k lo hi T).length<=k:=Nat.le_trans (List.length_filter_le _ _) (by rw[List.length_range];exact Nat.le_refl _)
def prT (F:List Nat)(i:Nat):List (Nat×Nat):=((List.range i).map fun a=>(F.drop (a+1)).map fun b=>(F.getD a 0,b)).flatten
def pD (x:Nat×Nat):D:= .tup [.int x.1,.int x.2]
theorem zor (F:List Nat)(i:Nat):prT F (i+1)=prT F i++(F.drop (i+1)).map fun b=>(F.getD i 0,b):=by
 unfold prT
 rw[List.range_succ,List.map_append,List.flatten_append]
 simp
theorem prT_mem (up:F.Pairwise (· < ·))(hi:i<=F.length)(h:x∈prT F i):x.1∈F/\x.2∈F/\x.1<x.2:=by
  unfold prT at h
  rw[List.mem_flatten]at h
  obtain⟨l,hl,hx⟩:=h
  rw[List.mem_map]at hl
  obtain⟨a,ha,rfl⟩:=hl
  rw[List.mem_map]at hx
  obtain⟨b,hb,rfl⟩:=hx
  have la:a<F.length:=by have:=List.mem_range.mp ha;lia
  have ea:F.getD a 0=F[a]:=by simp[List.getD,la]
  rw[ea]
  refine⟨List.getElem_mem la,List.mem_of_mem_drop hb,?_⟩
  obtain⟨m,hm,rfl⟩:=List.getElem_of_mem hb
  rw[List.getElem_drop]
  exact List.pairwise_iff_getElem.mp up a (a+1+m) la (by rw[List.length_drop]at hm;lia) (by lia)
theorem zpX (F:List Nat)(i:Nat):(prT F i).length<=i*F.length:=by
 induction i with
 |zero=>simp[prT]
 |succ i ih=>
  rw[zor,List.length_append,List.length_map,List.length_drop,Nat.succ_mul]
  lia
theorem pairs_ok (F:List Nat)(f5:F.length<=5):Ok (zbF [.lst (F.map nI)]) fun x=>x= .own ((prT F F.length).map pD):=by
 simp! only[↓zbF,↓zfG,↓zf5]
 refine⟨zaO (by lia) (by lia),zeV (fun i ρ=>∃s2 s3,ρ=[.val (.lst (F.map nI)),.own ((prT F i).map pD),s2,s3]) ⟨_,_,rfl⟩ ?_ ?_⟩
 ·rintro i _ hi ⟨s2,s3,rfl⟩
  have ei:((i:Int)+1)=((i+1:Nat):Int):=by lia
  have eg:(F.map nI)[i]? =some (.int ((F.getD i 0:Nat):Int)):=by
   rw[List.getElem?_map,List.getElem?_eq_getElem hi];simp[nI,List.getD,hi]
  simp! only[↓zgt,↓zfS,ei,zgI,<-List.map_drop]
  refine ok_for (enc:=nI) (l:=F.drop (i+1)) (fun j ρ=>∃s3,ρ=[.val (.lst (F.map nI)),.own ((prT F i++((F.drop (i+1)).take j).map fun b=>(F.getD i 0,b)).map pD),.val (.int i),s3]) ⟨s3,by simp⟩ ?_ ?_
  ·rintro j b _ hj ⟨s3,rfl⟩
   have pl:(prT F i).length<=25:=Nat.le_trans (zpX F i) (Nat.le_trans (Nat.mul_le_mul (show i<=5 by lia) f5) (by decide))
   simp! only[↓zf6,nI,eg]
   refine⟨by rw[List.length_take,List.length_drop];lia,.val (.int b),?_⟩
   rw[List.take_add_one,hj]
   simp[pD]
  ·rintro _ ⟨s3,rfl⟩
   rw[List.take_length,<-zor]
   exact⟨_,_,rfl⟩
 ·rintro _ ⟨s2,s3,rfl⟩
  simp! only[]
def cpl (n k:Nat)(c:Nat->Int)(j:Nat):Nat:=match zgS [.lst (za0 (wI n c) (some (j:Int)) none (some (k:Int)))]with
 |some v=>match zku (.lst (za0 (wI n c) (some (j:Int)) none (some (k:Int)))) v with
  |some (.int i)=>j+i.toNat*k
  |_=>0
 |_=>0
theorem cpl_ok {n k j:Nat}(c:Nat->Int)(hk:0<k)(hj:j<k)(kn:k<=n):∃(v:Int) (i:Nat),zgS [.lst (za0 (wI n c) (some (j:Int)) none (some (k:Int)))]=some (.int v)/\zku (.lst (za0 (wI n c) (some (j:Int)) none (some (k:Int)))) (.int v)=some (.int i)/\cpl n k c j=j+i*k/\j+i*k<n/\c (j+i*k)=v/\∀p,p<n->p%k=j->v<=c p:=by
 obtain⟨v,e1,e2,e3⟩:=zoc c hk hj kn
 obtain⟨i,f1,f2,f3⟩:=zle c hk hj e2
 refine⟨v,i,e1,f1,?_,f2,f3,e3⟩
 unfold cpl
 rw[e1]
 dsimp only
 rw[f1]
 simp
def zmU (key:Nat->Int)(p:List Nat):List Nat:=(srt p.length (HT.ziw (p.map fun x=>[key x]))).map fun i=>p.getD i 0
theorem zoP (key:Nat->Int)(p:List Nat):(zmU key p).Perm p:=by
 have pm:=zhT (n:=p.length) (HT.zlh (p.map fun x=>[key x]))
 have e:(List.range p.length).map (fun i=>p.getD i 0)=p:=by
  apply List.ext_getElem?
  intro i
  by_cases hi:i<p.length
  ·simp[hi]
  ·simp[hi]
 have:=pm.map fun i=>p.getD i 0
 rw[e]at this
 exact this
theorem zp1 (key:Nat->Int)(p:List Nat):(srt p.length (HT.ziw (p.map fun x=>[key x]))).map (fun i=>(p.map nI).getD i .non)=(zmU key p).map nI:=by
 have pm:=zhT (n:=p.length) (HT.zlh (p.map fun x=>[key x]))
 unfold zmU
 rw[List.map_map]
 apply List.map_congr_left
 intro i hi
 have:=List.mem_range.mp (pm.mem_iff.mp hi)
 simp[this]
theorem ints_nI:∀p:List Nat,zbz (p.map nI)=some (p.map fun(x:Nat)=>(x:Int)):=fun p=>by
 have:p.map nI=(p.map fun(x:Nat)=>(x:Int)).map D.int:=by rw[List.map_map];rfl
 rw[this,zcw]
theorem srtK_nI (key:Nat->Int)(p:List Nat):zqi (p.map key) (p.map nI)=(zmU key p).map nI:=by
 unfold zqi
 rw[List.length_map,<-zp1]
 unfold HT.ltK
 rw[List.map_map]
 rfl
theorem srt_nI (p:List Nat)(h:p.length<64):dSrt [.lst (p.map nI)]=some ((zmU (fun(x:Nat)=>(x:Int)) p).map nI):=by
 unfold dSrt
 show(if(p.map nI).length<64 then Option.map (fun nss=>srtD nss (p.map nI)) (zpa (p.map nI))else none)=_
 have ky:zpa (p.map nI)=some (p.map fun(x:Nat)=>[(x:Int)]):=by
  unfold zpa
  rw[ints_nI]
  show some _=_
  rw[List.map_map]
  rfl
 rw[List.length_map,if_pos h,ky]
 show some (srtD _ _)=_
 unfold srtD
 rw[List.length_map,zp1]
def Cst (C:D)(n:Nat)(c:Nat->Int):Prop:=C= .lst (wI n c)\/C= .tup (wI n c)
theorem zq7 (h:Cst C n c):∀p:List Nat,(∀x∈p,x<n)->zi9 C (p.map nI)=some (p.map c)
 |[],_=>rfl
 |x::p,hp=>by
  have ih:=zq7 h p fun y hy=>hp y (List.mem_cons_of_mem _ hy)
  have hx:=hp x List.mem_cons_self
  have e:dIx C (nI x)=some (.int (c x)):=by
   rcases h with rfl|rfl
   ·simp! only[nI,zaI _ hx]
   ·simp! only[nI,zaI _ hx]
  show(match dIx C (nI x)with|some (.int k)=>(zi9 C (p.map nI)).map (k:: ·)|_=>none)=_
  rw[e]
  show(zi9 C (p.map nI)).map (c x:: ·)=_
  rw[ih]
  rfl
theorem place_ok (h:Cst C n c)(hk:2<=k)(hj:j<k)(kn:k<=n)(n24:n<=1000):Ok (zba [C,.int k,.int j]) fun x=>x= .val (.int (cpl n k c j)):=by
 obtain⟨v,i,e1,e2,e3,e4,_,_⟩:=cpl_ok c (by lia) hj kn
 have e2':zlV (.lst (za0 (wI n c) (some (j:Int)) none (some (k:Int)))) (.int v)=some (.int i):=e2
 have e1':zgS [.tup (za0 (wI n c) (some (j:Int)) none (some (k:Int)))]=some (.int v):=e1
 have e2'':zlV (.tup (za0 (wI n c) (some (j:Int)) none (some (k:Int)))) (.int v)=some (.int i):=e2
 have hk0:¬(some (k:Int)=some 0):=by intro h;have:=Option.some.inj h;lia
 have ml:zo5 (k:Int) (i:Int)=true:=zeZ (by lia)
 have fin:(j:Int)+(k:Int)*(i:Int)=((cpl n k c j:Nat):Int):=by rw[e3,Nat.mul_comm];push_cast;rfl
 have p1:zos (.lst (wI n c)) (some (j:Int)) none (some (k:Int))=some (.lst (za0 (wI n c) (some (j:Int)) none (some (k:Int)))):=by
  show(if some (k:Int)=some 0 then none else some (D.lst (za0 (wI n c) (some (j:Int)) none (some (k:Int)))))=_
  rw[if_neg hk0]
 have p2:zos (.tup (wI n c)) (some (j:Int)) none (some (k:Int))=some (.tup (za0 (wI n c) (some (j:Int)) none (some (k:Int)))):=by
  show(if 0<=(j:Int)/\((j:Int)).toNat<=(wI n c).length/\2<=(k:Int)then some (D.tup (za0 (wI n c) (some (j:Int)) none (some (k:Int))))else none)=_
  rw[if_pos (by rw[za4];lia)]
 unfold zgS at e1 e1'
 rcases h with rfl|rfl
 ·simp! only[↓zba,↓zb3,p1,e1,e2',fin]
  exact ml
 ·simp! only[↓zba,↓zb3,p2,e1',e2'',fin]
  exact ml
def Lc (n k:Nat)(c:Nat->Int)(F:List Nat):List Nat:=F.map (cpl n k c)
def Tc (n k:Nat)(c:Nat->Int)(F:List Nat):List Nat:=zmU (fun(x:Nat)=>(x:Int)) (zmU c (Lc n k c F)).dropLast
theorem cut_last {α:Type}(xs:List α):cutD xs none (some (-1))=xs.dropLast:=by
 unfold cutD
 have:HT.sIx xs.length xs.length (some (-1))=xs.length-1:=by
  show(if(-1:Int)<0 then((-1:Int)+(xs.length:Int)).toNat else min (-1:Int).toNat xs.length)=xs.length-1
  rw[if_pos (by lia)]
  lia
 rw[this,HT.zlK,Nat.sub_zero,List.drop_zero,List.dropLast_eq_take]
theorem zpM (h:Cst C n c)(hk:2<=k)(k5:k<=5)(kn:k<=n)(n24:n<=1000)(hF:∀j∈F,j<k)(f5:F.length<=5):
  Ok (zaT [C,.int k,.lst (F.map nI)]) fun x=>x= .val (.tup ((Tc n k c F).map nI)):=by
 have cn:∀x∈Lc n k c F,x<n:=fun x hx=>by
  unfold Lc at hx
  rw[List.mem_map]at hx
  obtain⟨j,hj,rfl⟩:=hx
  obtain⟨v,i,_,_,e3,e4,_⟩:=cpl_ok c (by lia) (hF j hj) kn
  lia
 simp! only[↓zaT,↓zcA,↓zc5]
 refine⟨by lia,ziG (enc:=nI) (fun ρ=>∃s,ρ=[.val C,.val (.int k),s]) (fun j=>nI (cpl n k c j)) ⟨_,rfl⟩ ?_ ?_⟩
 ·rintro j _ hj ⟨s,rfl⟩
  simp! only[↓zc4,nI]
  refine(place_ok h hk (hF j hj) kn n24).mono ?_
  rintro _ rfl
  simp! only[]
  exact⟨_,rfl⟩
 ·rintro _ ⟨s,rfl⟩
  have e:(F.map fun j=>nI (cpl n k c j))=(Lc n k c F).map nI:=by unfold Lc;rw[List.map_map];rfl
  rw[e]
  simp! only[zq7 h _ cn,srtK_nI,cut_last]
  have ll:(Lc n k c F).length<=5:=by unfold Lc;rw[List.length_map];exact f5
  have dl:(zmU c (Lc n k c F)).dropLast.length<64:=by
   have:=(zoP c (Lc n k c F)).length_eq
   rw[List.length_dropLast]
   lia
  rw[<-List.map_dropLast]
  simp! only[srt_nI _ dl]
  exact⟨by lia,rfl⟩
section
variable {k s n:Nat} {S L G lo hi:Nat->Int}
def pairD (n k:Nat)(S lo hi:Nat->Int)(x:Nat×Nat):D:= .tup [.int x.1,.int x.2,.tup (wI n (rowA k S lo hi x.1 x.2)),.tup (wI n (exch k x.2 x.1 (rowA k S lo hi x.1 x.2)))]
def pairsL (n k:Nat)(S lo hi:Nat->Int):List D:=(prT (Flr k lo hi (S 0)) (Flr k lo hi (S 0)).length).map (pairD n k S lo hi)
theorem zpA (d:Dim k s n)(sp:zdI k n S L G lo hi)(r:Room' k lo hi (S 0))(h:Cst C n c):
  Ok (zce [zat k s n S L G,C]) fun x=>x= .tre (.tup [.d (.tup ((Tc n k c (Flr k lo hi (S 0))).map nI)),.l (pairsL n k S lo hi)]):=by
 have k5:=d.k5
 have n24:=d.n24
 have kn:=d.kn
 have k2:=d.k2
 have f5:(Flr k lo hi (S 0)).length<=5:=Nat.le_trans (Fl_len k lo hi (S 0)) k5
 have lc:dLen [C]=some (.int n):=by
  rcases h with rfl|rfl
  ·simp only[dLen_l,za4]
  ·simp only[dLen_t,za4]
 have fF:zqg k (fun j=>rl k lo hi (S 0) j<rh k lo hi (S 0) j)=(Flr k lo hi (S 0)).map nI:=zm8 _ _
 simp! only[↓zce,↓zfb,zat,lc,↓zfz]
 refine(znm d sp r).mono ?_
 rintro _ rfl
 rw[fF]
 simp! only[↓zff]
 refine(pairs_ok _ f5).mono ?_
 rintro _ rfl
 simp! only[]
 have pl:=zpX (Flr k lo hi (S 0)) (Flr k lo hi (S 0)).length
 have pl2:(Flr k lo hi (S 0)).length*(Flr k lo hi (S 0)).length<=5*5:=Nat.mul_le_mul f5 f5
 refine⟨by lia,ziG (enc:=pD) (fun ρ=>∃s1 s2,ρ=[.val (zat k s n S L G),s1,s2]) (pairD n k S lo hi) ⟨_,_,rfl⟩ ?_ ?_⟩
 ·rintro⟨a,b⟩ _ hx ⟨s1,s2,rfl⟩
  obtain⟨ma,mb,ab⟩:=prT_mem (Fl_up k lo hi (S 0)) (Nat.le_refl _) hx
  simp! only[pD,↓zfE]
  refine(two_ok d sp r (zpK ma).1 (zpK mb).1 (Nat.ne_of_lt ab)).mono ?_
  rintro _ rfl
  simp! only[]
  exact⟨rfl,_,_,rfl⟩
 ·rintro _ ⟨s1,s2,rfl⟩
  simp! only[]
  refine(zpM h (by lia) k5 kn (by lia) (fun j hj=>(zpK hj).1) f5).mono ?_
  rintro _ rfl
  simp! only[]
  rfl
end
def mods (k:Nat)(ps:List Int):List Int:=ps.map fun v=>v%(k:Int)
def untL (k:Nat)(lo hi:Nat->Int)(T:Int)(ps:List Int):List Nat:=((List.range k).filter fun j=>decide (rl k lo hi T j<rh k lo hi T j)).filter fun j=>!((mods k ps).contains (j:Int))
theorem unt_map (l:List Nat)(q:Nat->Bool):(l.filterMap fun j=>if q j=true then none else some (D.int (j:Nat)))=(l.filter fun j=>!q j).map fun j=>D.int (j:Nat):=by
 induction l with
 |nil=>rfl
 |cons a l ih=>
  cases h:q a with
  |true=>rw[List.filterMap_cons,if_pos h,List.filter_cons,if_neg (by rw[h];decide),<-ih]
  |false=>rw[List.filterMap_cons,if_neg (by rw[h];decide),List.filter_cons,if_pos (by rw[h];rfl),List.map_cons,<-ih]
def Seq2 (P:D)(ps:List Int):Prop:=P= .lst (ps.map .int)\/P= .tup (ps.map .int)
def zl5 (n:Nat)(v:Int):Bool:=decide (0<=v/\v<(n:Int))
section
variable {k s n:Nat} {S L G lo hi:Nat->Int} {P:D} {ps:List Int}
theorem zno (d:Dim k s n)(v:Int):Ok (zbw [zat k s n S L G,.int v]) fun x=>∃b,(b=true↔0<=v/\v<n)/\x= .val (.bl b):=by
 simp! only[↓zbw,↓ziu,zat]
 refine⟨fun h=>⟨_,?_,rfl⟩,fun h=>⟨_,?_,rfl⟩⟩
 ·rw[decide_eq_true_eq];lia
 ·constructor
  ·intro z;cases z
  ·rintro⟨h1,_⟩;lia
theorem zmg (d:Dim k s n)(hP:Seq2 P ps)(hl:ps.length<=1000)(a b:Sl):Ok (zcb [.val (zat k s n S L G),.val P,a,b]) fun x=>x=(ps.map fun v=> .bl (zl5 n v),[.val (zat k s n S L G),.val P,a,b]):=by
 rcases hP with rfl|rfl<;>
 ·simp! only[↓zcb]
  refine⟨by lia,ziG (enc:=D.int) (l:=ps) (fun ρ=>∃z,ρ=[.val (zat k s n S L G),z]) (fun v=> .bl (zl5 n v)) ⟨_,rfl⟩ ?_ ?_⟩
  ·rintro v _ _ ⟨z,rfl⟩
   simp! only[↓zjc]
   refine(zno d v).mono ?_
   rintro _ ⟨b,hb,rfl⟩
   have:b=zl5 n v:=by
    unfold zl5
    cases b with
    |true=>exact(decide_eq_true (hb.mp rfl)).symm
    |false=>exact(decide_eq_false fun z=>by cases hb.mpr z).symm
   subst this
   simp! only[]
   exact⟨_,rfl⟩
  ·rintro _ ⟨z,rfl⟩
   simp! only[]
theorem zrd (d:Dim k s n)(hP:Seq2 P ps)(hl:ps.length<=1000)(a b:Sl):Ok (zdN [.val (zat k s n S L G),.val P,a,b]) fun x=>x=((mods k ps).map .int,[.val (zat k s n S L G),.val P,a,b]):=by
 have k2:=d.k2
 rcases hP with rfl|rfl<;>
 ·simp! only[↓zdN]
  refine⟨by lia,ziG (enc:=D.int) (l:=ps) (fun ρ=>∃z,ρ=[.val (zat k s n S L G),z]) (fun v=> .int (v%(k:Int))) ⟨_,rfl⟩ ?_ ?_⟩
  ·rintro v _ _ ⟨z,rfl⟩
   simp! only[↓ziZ,zat]
   exact⟨by lia,_,rfl⟩
  ·rintro _ ⟨z,rfl⟩
   simp! only[mods,List.map_map]
   rfl
theorem unt_ok (d:Dim k s n)(sp:zdI k n S L G lo hi)(r:Room' k lo hi (S 0))(b:Sl):Ok (zf4 [.val (zat k s n S L G),.val P,.val (.lst ((mods k ps).map .int)),b]) fun x=>x=((untL k lo hi (S 0) ps).map fun j=> .int (j:Nat),[.val (zat k s n S L G),.val P,.val (.lst ((mods k ps).map .int)),b]):=by
 have k5:=d.k5
 simp! only[↓zf4]
 refine(znm d sp r).mono ?_
 rintro _ rfl
 have hl:=zqq k fun j=>rl k lo hi (S 0) j<rh k lo hi (S 0) j
 simp! only[]
 refine⟨by lia,?_⟩
 rw[zm8]
 refine zlD (enc:=fun j:Nat=>D.int j) (fun ρ=>∃z,ρ=[.val (.lst ((mods k ps).map .int)),z]) (fun j=>if(mods k ps).contains (j:Int)=true then none else some (.int (j:Nat))) ⟨_,rfl⟩ ?_ ?_
 ·rintro j _ _ ⟨z,rfl⟩
  simp! only[↓ziK,↓zi1,notInL]
  refine⟨fun h=>?_,fun h=>?_⟩
  ·rw[if_neg (by simpa using h)];exact⟨rfl,_,rfl⟩
  ·rw[if_pos (by simpa using h)];exact⟨rfl,_,rfl⟩
 ·rintro _ ⟨z,rfl⟩
  simp! only[unt_map]
  rfl
def setD (k n:Nat)(S lo hi:Nat->Int):List Nat->D
 |a::b::_=> .tup [.tup (wI n (rowA k S lo hi a b)),.tup (wI n (exch k b a (rowA k S lo hi a b)))]
 |_=> .non
theorem zbq {α:Type}(f:α->Bool):∀l:List α,zc0 (l.map fun v=>D.bl (f v))=some (l.map f)
 |[]=>rfl
 |a::l=>by
  have ih:=zbq f l
  rw[List.map_cons,List.map_cons]
  unfold zc0
  rw[ih];rfl
theorem zjx (h:∀v∈ps,0<=v/\v<(n:Int)):(ps.map (zl5 n)).all id=true:=by
 rw[List.all_map,List.all_eq_true]
 intro v hv
 exact decide_eq_true (h v hv)
theorem zrl (h:¬ ∀v∈ps,0<=v/\v<(n:Int)):(ps.map (zl5 n)).all id=false:=by
 cases e:(ps.map (zl5 n)).all id with
 |false=>rfl
 |true=>
  rw[List.all_map,List.all_eq_true]at e
  exact absurd (fun v hv=>of_decide_eq_true (e v hv)) h
theorem zqX {j:Nat}(h:j∈untL k lo hi (S 0) ps):j<k/\rl k lo hi (S 0) j<rh k lo hi (S 0) j/\∀v∈ps,v%(k:Int)≠(j:Int):=by
 unfold untL at h
 obtain⟨h1,h2⟩:=List.mem_filter.mp h
 obtain⟨h3,h4⟩:=List.mem_filter.mp h1
 refine⟨List.mem_range.mp h3,of_decide_eq_true h4,fun v hv e=>?_⟩
 have:(mods k ps).contains (j:Int)=true:=by
  rw[List.contains_iff_mem]
  exact List.mem_map.mpr ⟨v,hv,e⟩
 rw[this]at h2
 cases h2
theorem unt_two {a b:Nat}{t:List Nat}(h:untL k lo hi (S 0) ps=a::b::t):a≠b:=by
 have:(untL k lo hi (S 0) ps).Nodup:=(List.nodup_range.filter _).filter _
 rw[h]at this
 intro e
 subst e
 simp at this
theorem zoY (d:Dim k s n)(sp:zdI k n S L G lo hi)(r:Room' k lo hi (S 0))(hP:Seq2 P ps)(hl:ps.length<=1000)(hg:∀v∈ps,0<=v/\v<(n:Int)):
  Ok (zfW [zat k s n S L G,P]) fun x=>x= .val (setD k n S lo hi (untL k lo hi (S 0) ps)):=by
 simp! only[↓zfW,↓zjS]
 refine(zmg d hP hl _ _).mono ?_
 rintro _ rfl
 simp! only[zbq,zjx hg,↓ziN]
 refine(zrd d hP hl _ _).mono ?_
 rintro _ rfl
 simp! only[]
 refine(unt_ok d sp r _).mono ?_
 rintro _ rfl
 match hu:untL k lo hi (S 0) ps with
 |[]=>simp! only[List.map_nil,List.length_nil];exact⟨fun _=>rfl,fun z=>absurd z (by decide)⟩
 |[a]=>simp! only[List.map_cons,List.map_nil,List.length_cons,List.length_nil];exact⟨fun _=>rfl,fun z=>absurd z (by decide)⟩
 |a::b::t=>
  have ha:=(zqX (S:=S) (j:=a) (by rw[hu];simp)).1
  have hb:=(zqX (S:=S) (j:=b) (by rw[hu];simp)).1
  simp! only[List.map_cons,List.length_cons]
  refine⟨fun z=>absurd z (by lia),fun _=>?_⟩
  simp! only[↓ziR]
  refine(two_ok d sp r ha hb (unt_two hu)).mono ?_
  rintro _ rfl
  simp! only[]
  rfl
end
section
variable {k s n:Nat} {S L G lo hi:Nat->Int} {P:D} {ps:List Int}
theorem zoX (d:Dim k s n)(hP:Seq2 P ps)(hl:ps.length<=1000)(hg:¬ ∀v∈ps,0<=v/\v<(n:Int)):zcH [zat k s n S L G,P]=some "NoPlace":=by
 unfold zcH fX zh4
 refine zqF (znv ?_)
 rw[show zeq=zcb from rfl]
 simp! only[]
 refine(zmg d hP hl _ _).mono ?_
 rintro _ rfl
 simp! only[zbq,zrl hg]
theorem zk0 (d:Dim k s n)(sp:zdI k n S L G lo hi)(hP:Seq2 P ps)(hl:ps.length<=1000)(hg:∀v∈ps,0<=v/\v<(n:Int)):zcH [zat k s n S L G,P]=zaK [zat k s n S L G]:=by
 unfold zcH fX zh4
 rw[show zeq=zcb from rfl,show zhf=zcb from rfl,show zg8=zdN from rfl]
 refine(xOr_no (zqc ?_)).trans (znf ?_)
 ·simp! only[]
  refine(zmg d hP hl _ _).mono ?_
  rintro _ rfl
  simp! only[zbq,zjx hg]
 ·simp! only[]
  refine(zmg d hP hl _ _).mono ?_
  rintro _ rfl
  simp! only[zbq,zjx hg]
  refine znf ?_
  simp! only[]
  refine(zrd d hP hl _ _).mono ?_
  rintro _ rfl
  simp! only[]
  refine(ze9 (r:=zaS [zat k s n S L G]) ?_).trans (zod d sp)
  simp! only[]
theorem zqj (d:Dim k s n)(hC:Cst C m c)(hne:m≠n)(hm:m<=1000):zbe [zat k s n S L G,C]=some "Unlike":=by
 unfold zbe fX zc6
 refine zqF (znv ?_)
 rcases hC with rfl|rfl<;>simp! only[zat]<;>exact fun h=>hne (by lia)
theorem zm2 (d:Dim k s n)(sp:zdI k n S L G lo hi)(hC:Cst C n c):zbe [zat k s n S L G,C]=zaK [zat k s n S L G]:=by
 unfold zbe fX zc6
 refine(xOr_no (zqc ?_)).trans (znf ?_)
 ·rcases hC with rfl|rfl<;>simp! only[zat]<;>simp
 ·rcases hC with rfl|rfl<;>simp! only[zat]<;>refine(ze9 (r:=zaS [zat k s n S L G]) ?_).trans (zod d sp)<;>simp! only[zat]
end
theorem zl1 (c:Str){b0 b1 b2 b3 b4 b5 b6 b7 b8 b:Bool}(e0:List.lookup c zen=some b0)(e1:List.lookup c zjP=some b1)(e2:List.lookup c zgz=some b2)(e3:List.lookup c zhy=some b3)(e4:List.lookup c zhr=some b4)(e5:List.lookup c ziI=some b5)(e6:List.lookup c zis=some b6)(e7:List.lookup c zjQ=some b7)(e8:List.lookup c zig=some b8)(e9:List.lookup c zgl=some true)(e10:List.lookup c zef=some true)
  (ec:zqn (.lst [.bl b0,.bl b1,.bl b2,.bl b3,.bl b4,.bl b5,.bl b6,.bl b7,.bl b8]) (.bl true)=some (.int 1)) (hp:p<9) (g:([.bl b0,.bl b1,.bl b2,.bl b3,.bl b4,.bl b5,.bl b6,.bl b7,.bl b8]:List D)[p]? =some (.bl b)):Ok (zcc [.exc c,.int (p:Int)]) fun x=>x= .val (.bl b):=by
 simp! only[↓zcc,↓zgc,e0,e1,e2,e3,e4,e5,e6,e7,e8,e9,e10,↓zgh,ec]
 simp! only[g]
theorem get9 {α:Type}(f:Nat->α):∀q:Nat,q<9->([f 0,f 1,f 2,f 3,f 4,f 5,f 6,f 7,f 8]:List α)[q]? =some (f q)
 |0,_|1,_|2,_|3,_|4,_|5,_|6,_|7,_|8,_=>rfl
 |n+9,h=>absurd h (by lia)
def Al (c:Str)(ix:Nat):Prop:=∀p:Nat,p<9->Ok (zcc [.exc c,.int (p:Int)]) fun x=>x= .val (.bl (decide (p=ix)))
theorem zlv:Al "NoFit" 1:=fun p hp=>by
 exact zl1 _ (by decide+kernel) (by decide+kernel) (by decide+kernel) (by decide+kernel) (by decide+kernel) (by decide+kernel) (by decide+kernel) (by decide+kernel) (by decide+kernel) (by decide+kernel) (by decide+kernel) rfl hp (get9 (fun q=>D.bl (decide (q=1))) p hp)
theorem zoZ:Al "NoPlace" 3:=fun p hp=>by
 exact zl1 _ (by decide+kernel) (by decide+kernel) (by decide+kernel) (by decide+kernel) (by decide+kernel) (by decide+kernel) (by decide+kernel) (by decide+kernel) (by decide+kernel) (by decide+kernel) (by decide+kernel) rfl hp (get9 (fun q=>D.bl (decide (q=3))) p hp)
theorem zp3:Al "Unlike" 8:=fun p hp=>by
 exact zl1 _ (by decide+kernel) (by decide+kernel) (by decide+kernel) (by decide+kernel) (by decide+kernel) (by decide+kernel) (by decide+kernel) (by decide+kernel) (by decide+kernel) (by decide+kernel) (by decide+kernel) rfl hp (get9 (fun q=>D.bl (decide (q=8))) p hp)
section
variable {k s n:Nat} {S L G lo hi:Nat->Int} {P:D} {ps:List Int}
theorem pick9:∀ix:Nat,ix<9->((List.range 9).filterMap fun p=>if decide (p=ix)=true then some (D.int (p:Int))else none)=[D.int (ix:Int)]
 |0,_|1,_|2,_|3,_|4,_|5,_|6,_|7,_|8,_=>rfl
 |n+9,h=>absurd h (by lia)
theorem zm3 {c:Str}{ix:Nat}(A:Al c ix)(hx:ix<9)(a1 a2 a3 a4:Sl)(h:∀ρ,Q (.ret (.val (.int (ix:Int))),ρ)):Ok (zbv [a1,a2,a3,.val (.exc c),a4]) Q:=by
 simp! only[↓zbv,↓zg4,↓zhd]
 refine⟨fun z=>(nomatch z),fun _=>⟨by decide,zmu (fun ρ=>∃a,ρ=[.val (.exc c),a]) (fun p=>if decide (p=ix)=true then some (D.int (p:Int))else none) ⟨_,rfl⟩ ?_ ?_⟩⟩
 ·rintro i _ hi ⟨a,rfl⟩
  simp! only[↓zgY,↓zhb]
  refine(A i hi).mono ?_
  rintro _ rfl
  simp! only[]
  exact⟨fun e=>⟨(if_pos e).symm,_,rfl⟩,fun e=>⟨(if_neg e).symm,_,rfl⟩⟩
 ·rintro _ ⟨a,rfl⟩
  rw[pick9 ix hx]
  simp! only[]
  exact h _
end
theorem xIfE_t {c:MT}{a b:MX}(h:Ok (c ρ) fun p=>p.1=true/\a p.2=r):xIfE c a b ρ=r:=by
 obtain⟨p,e,h1,h2⟩:=h
 unfold xIfE;rw[e];show(if p.1=true then a p.2 else b p.2)=_;rw[if_pos h1,h2]
theorem zqu {c:MT}{a b:MX}(h:Ok (c ρ) fun p=>p.1=false/\b p.2=r):xIfE c a b ρ=r:=by
 obtain⟨p,e,h1,h2⟩:=h
 unfold xIfE;rw[e];show(if p.1=true then a p.2 else b p.2)=_;rw[h1,<-h2];rfl
section
variable {k s n:Nat} {S L G lo hi:Nat->Int} {P C:D} {ps:List Int}
theorem tx0:zbh [.val (.int 0),.val (zat k s n S L G),.val C,.val .non,.emp]=zbe [zat k s n S L G,C]:=by
 unfold zbh
 refine xIfE_t ?_
 simp! only[]
 refine ze9 ?_
 simp! only[]
theorem tx1:zbh [.val (.int 1),.val (zat k s n S L G),.val C,.val .non,.emp]=zaS [zat k s n S L G]:=by
 unfold zbh
 refine zqu ?_
 simp! only[]
 refine xIfE_t ?_
 simp! only[]
 refine ze9 ?_
 simp! only[]
theorem tx2:zbh [.val (.int 2),.val (zat k s n S L G),.val C,.val .non,.emp]=zcH [zat k s n S L G,C]:=by
 unfold zbh
 refine zqu ?_
 simp! only[]
 refine zqu ?_
 simp! only[]
 refine ze9 ?_
 simp! only[]
theorem said0_ok (d:Dim k s n)(sp:zdI k n S L G lo hi)(hC:Cst C m c)(hm:m<=1000):Ok (zaH [.int 0,zat k s n S L G,C]) fun x=>
  (m≠n/\x= .val (.int 8))\/(m=n/\¬Room' k lo hi (S 0)/\x= .val (.int 1))\/(m=n/\Room' k lo hi (S 0)/\x= .val (.int (-1))):=by
 simp! only[↓zaH,↓zdf]
 by_cases e:m=n
 ·subst e
  by_cases r:Room' k lo hi (S 0)
  ·refine zlP (tx0.trans ((zm2 d sp hC).trans ((zeG d sp).1 r))) ?_
   simp! only[↓zcG]
   refine(zpA d sp r hC).mono ?_
   rintro _ rfl
   simp! only[↓zbv]
   exact .inr (.inr r)
  ·refine zeJ (tx0.trans ((zm2 d sp hC).trans ((zeG d sp).2 r))) rfl (by decide+kernel) ?_
   refine zm3 zlv (by decide) _ _ _ _ fun ρ=>?_
   simp! only[]
   exact .inr (.inl ⟨r,rfl⟩)
 ·refine zeJ (tx0.trans (zqj d hC e hm)) rfl (by decide+kernel) ?_
  refine zm3 zp3 (by decide) _ _ _ _ fun ρ=>?_
  simp! only[]
  exact .inl ⟨e,rfl⟩
theorem zoq (d:Dim k s n)(sp:zdI k n S L G lo hi):Ok (zaH [.int 1,zat k s n S L G,C]) fun x=>
  (¬Room' k lo hi (S 0)/\x= .val (.int 1))\/(Room' k lo hi (S 0)/\x= .val (.int (-1))):=by
 simp! only[↓zaH,↓zdf]
 by_cases r:Room' k lo hi (S 0)
 ·refine zlP (tx1.trans ((zod d sp).trans ((zeG d sp).1 r))) ?_
  simp! only[↓zcG]
  refine(znm d sp r).mono ?_
  rintro _ rfl
  simp! only[↓zbv]
  exact .inr r
 ·refine zeJ (tx1.trans ((zod d sp).trans ((zeG d sp).2 r))) rfl (by decide+kernel) ?_
  refine zm3 zlv (by decide) _ _ _ _ fun ρ=>?_
  simp! only[]
  exact .inl ⟨r,rfl⟩
theorem said2_ok (d:Dim k s n)(sp:zdI k n S L G lo hi)(hP:Seq2 P ps)(hl:ps.length<=1000):Ok (zaH [.int 2,zat k s n S L G,P]) fun x=>
  ((¬ ∀v∈ps,0<=v/\v<(n:Int))/\x= .val (.int 3))\/((∀v∈ps,0<=v/\v<(n:Int))/\¬Room' k lo hi (S 0)/\x= .val (.int 1))\/((∀v∈ps,0<=v/\v<(n:Int))/\Room' k lo hi (S 0)/\x= .val (.int (-1))):=by
 simp! only[↓zaH,↓zdf]
 by_cases hg:∀v∈ps,0<=v/\v<(n:Int)
 ·by_cases r:Room' k lo hi (S 0)
  ·refine zlP (tx2.trans ((zk0 d sp hP hl hg).trans ((zeG d sp).1 r))) ?_
   simp! only[↓zcG]
   refine(zoY d sp r hP hl hg).mono ?_
   rintro _ rfl
   simp! only[↓zbv]
   exact .inr (.inr ⟨hg,r⟩)
  ·refine zeJ (tx2.trans ((zk0 d sp hP hl hg).trans ((zeG d sp).2 r))) rfl (by decide+kernel) ?_
   refine zm3 zlv (by decide) _ _ _ _ fun ρ=>?_
   simp! only[]
   exact .inr (.inl ⟨hg,r,rfl⟩)
 ·refine zeJ (tx2.trans (zoX d hP hl hg)) rfl (by decide+kernel) ?_
  refine zm3 zoZ (by decide) _ _ _ _ fun ρ=>?_
  simp! only[]
  exact .inl ⟨hg,rfl⟩
theorem right_no (d:Dim k s n)(sp:zdI k n S L G lo hi)(r:¬Room' k lo hi (S 0)){A B:D}:Ok (zb0 [zat k s n S L G,A,B]) fun x=>x= .val (.bl false):=by
 simp! only[↓zb0,↓zd4]
 refine(ze2 d sp).mono ?_
 rintro _ (⟨z,_⟩|⟨nr,pd,hp,rfl⟩)
 ·exact absurd z r
 ·simp! only[zmV hp]
end
section
variable {k s n:Nat} {S L G lo hi:Nat->Int}
theorem five_ok (n:Nat)(f:Nat->Int)(n24:n<=24):∀t:Nat,t<5->∃(m:Nat) (c:Nat->Int),m<=26/\([D.lst (wI n f),D.lst (wI n f++[D.int 0]),D.lst (cutD (wI n f) (some 1) none),D.lst [],D.lst (wI n f)]:List D)[t]? =some (.lst (wI m c))
 |0,_=>⟨n,f,by lia,rfl⟩
 |1,_=>⟨n+1,_,by lia,congrArg (fun z=>some (D.lst z)) (zkn n f 0)⟩
 |2,_=>⟨n-1,fun j=>f (1+j),by lia,congrArg (fun z=>some (D.lst z)) ((zgI (wI n f) 1).trans (drop_w f))⟩
 |3,_=>⟨0,f,by lia,rfl⟩
 |4,_=>⟨n,f,by lia,rfl⟩
 |n+5,h=>absurd h (by lia)
theorem rs5_ok (d:Dim k s n)(sp:zdI k n S L G lo hi)(hb:b=true↔Room' k lo hi (S 0))(hl:ps.length<=1000){w u:Int}(hw:(if b=true then(-1:Int)else 1)=w)
  (hu:((¬ ∀v∈ps,0<=v/\v<(n:Int))/\u=3)\/((∀v∈ps,0<=v/\v<(n:Int))/\u=w)) (a0 a1 a2 a6:Sl) {Q:Fl×R->Prop} (hQ:∀a2 a4 a6 a7 a8,Q (.next,[a0,a1,a2,.val (zat k s n S L G),a4,.val (.bl b),a6,a7,a8])):
  Ok (zlL [a0,a1,a2,.val (zat k s n S L G),.val (.int n),.val (.bl b),a6,.val (.int u),.val (.lst (ps.map .int))]) Q:=by
 have n24:=d.n24
 have two:Ok (zaH [.int 2,zat k s n S L G,.lst (ps.map .int)]) fun x=>x= .val (.int u):=(said2_ok d sp (.inl rfl) hl).mono fun x hx=>by
  rcases hx with⟨h1,rfl⟩|⟨h1,h2,rfl⟩|⟨h1,h2,rfl⟩<;>rcases hu with⟨g1,rfl⟩|⟨g1,rfl⟩
  ·rfl
  ·contradiction
  ·contradiction
  ·rw[if_neg (fun z=>h2 (hb.mp z))]at hw;rw[hw]
  ·contradiction
  ·rw[if_pos (hb.mpr h2)]at hw;rw[hw]
 have one:∀{C:D},Ok (zaH [.int 1,zat k s n S L G,C]) fun x=>x= .val (.int w):=fun{C}=>(zoq d sp).mono fun x hx=>by
  rcases hx with⟨h,rfl⟩|⟨h,rfl⟩
  ·rw[if_neg (fun z=>h (hb.mp z))]at hw;rw[hw]
  ·rw[if_pos (hb.mpr h)]at hw;rw[hw]
 have hat:atI [D.int 1,D.int (-1)] (if b=true then 1 else 0)=some (.int w):=by rw[<-hw];cases b<;>rfl
 simp! only[↓zlL]
 refine two.mono ?_
 rintro _ rfl
 simp! only[]
 refine one.mono ?_
 rintro _ rfl
 simp! only[hat,↓zn4]
 refine⟨fun h=>?_,fun h=>hQ _ _ _ _ _⟩
 have r:¬Room' k lo hi (S 0):=fun z=>by rw[hb.mpr z]at h;cases h
 refine⟨⟨⟨by lia,by lia⟩,by lia⟩,?_⟩
 refine(right_no d sp r).mono ?_
 rintro _ rfl
 simp! only[]
 exact hQ _ _ _ _ _
theorem zqO (d:Dim k s n)(sp:zdI k n S L G lo hi)(hp:Pool ds)(hb:b=true↔Room' k lo hi (S 0)){m:Nat}(hm:m<=26){v:Int}
  (hv:(m≠n/\v=8)\/(m=n/\¬Room' k lo hi (S 0)/\v=1)\/(m=n/\Room' k lo hi (S 0)/\v= -1)) (a0 a1 a8:Sl) {Q:Fl×R->Prop} (hQ:∀a2 a4 a6 a7 a8,Q (.next,[a0,a1,a2,.val (zat k s n S L G),a4,.val (.bl b),a6,a7,a8])):
  Ok (zlQ [a0,a1,.own ds,.val (zat k s n S L G),.val (.int n),.val (.bl b),.val (.lst (wI m c)),.val (.int v),a8]) Q:=by
 have n24:=d.n24
 have two:∀{C:D},Cst C m c->Ok (zaH [.int 0,zat k s n S L G,C]) fun x=>x= .val (.int v):=fun hC=>(said0_ok d sp hC (by lia)).mono fun x hx=>by
  rcases hx with⟨h1,rfl⟩|⟨h1,h2,rfl⟩|⟨h1,h2,rfl⟩<;>rcases hv with⟨g1,rfl⟩|⟨g1,g2,rfl⟩|⟨g1,g2,rfl⟩<;>first|rfl|contradiction|lia
 have one:∀{C:D},Ok (zaH [.int 1,zat k s n S L G,C]) fun x=>x= .val (.int (if b then-1 else 1)):=fun{C}=>(zoq d sp).mono fun x hx=>by
  rcases hx with⟨h,rfl⟩|⟨h,rfl⟩
  ·rw[if_neg (fun z=>h (hb.mp z))]
  ·rw[if_pos (hb.mpr h)]
 simp! only[↓zlQ]
 refine(two (.inl rfl)).mono ?_
 rintro _ rfl
 simp! only[]
 refine(two (.inr rfl)).mono ?_
 rintro _ rfl
 simp! only[↓zoC]
 refine one.mono ?_
 rintro _ rfl
 have hat:atI [D.int 1,D.int (-1)] (if b=true then 1 else 0)=some (.int (if b=true then-1 else 1)):=by cases b<;>rfl
 generalize hw:(if b=true then(-1:Int)else 1)=w at hat one ⊢
 simp! only[hat,↓zn7,↓zoB]
 refine(zbi hp (m:=5) (by decide) (by decide)).mono ?_
 rintro _ ⟨t,d1,ht,hp1,rfl⟩
 simp! only[]
 refine⟨zaO (by lia) (by lia),by lia,zkC (fun i acc ρ=>∃(ps:List Int) (ds':List D) (z:Sl),Pool ds'/\ps.length=i/\acc=ps.map D.int/\ρ=[.par ds',.val (.int n),z]) ⟨[],d1,.emp,hp1,rfl,rfl,rfl⟩ ?_ ?_⟩
 ·rintro i acc _ hi ⟨ps,d2,z,hp2,hl,rfl,rfl⟩
  simp! only[↓zoz]
  refine(zbi hp2 (m:=(n:Int)+2) (by lia) (by lia)).mono ?_
  rintro _ ⟨u,d3,hu,hp3,rfl⟩
  simp! only[]
  exact⟨ps++[(u:Int)-1],d3,_,hp3,by rw[List.length_append,hl];rfl,by rw[List.map_append];rfl,rfl⟩
 ·rintro _ _ ⟨ps,d2,z,hp2,hl,rfl,rfl⟩
  simp! only[hat,↓zoA]
  refine⟨by lia,ziG (enc:=D.int) (l:=ps) (fun ρ=>∃z,ρ=[.val (.int n),z]) (fun v=> .bl (zl5 n v)) ⟨_,rfl⟩ ?_ ?_⟩
  ·rintro v _ _ ⟨z,rfl⟩
   simp! only[↓zol]
   unfold zl5
   refine⟨fun h=>⟨?_,_,rfl⟩,fun h=>⟨?_,_,rfl⟩⟩
   ·simp[h]
   ·rw[decide_eq_false (by lia)]
  ·rintro _ ⟨z,rfl⟩
   by_cases hg:∀v∈ps,0<=v/\v<(n:Int)
   ·simp! only[zbq,zjx hg]
    exact rs5_ok d sp hb (by lia) hw (.inr ⟨hg,rfl⟩) _ _ _ _ hQ
   ·simp! only[zbq,zrl hg]
    exact rs5_ok d sp hb (by lia) hw (.inl ⟨hg,rfl⟩) _ _ _ _ hQ
end
theorem math (ns:List Int)(hl:ns.length<=63):zne [.scr ns]=some (.val (.bl true)):=by
 have:Ok (zne [.scr ns]) fun r=>r= .val (.bl true):=by
  have hm:∃m:Nat,m<=10/\max2 1 (min2 (ns.length:Int) 10)=(m:Int):=by
   unfold max2 min2
   exact⟨(if(if(10:Int)<(ns.length:Int)then 10 else(ns.length:Int))>1 then(if(10:Int)<(ns.length:Int)then 10 else(ns.length:Int))else 1).toNat,by split<;>split<;>lia,by split<;>split<;>lia⟩
  obtain⟨m,hm10,em⟩:=hm
  simp! only[↓zne,↓m_law,↓zov,em]
  refine⟨zaO (by lia) (by lia),zeV (fun i ρ=>∃a1 a2 a3 a4 a5 a6 a7 a8,ρ=[.val (.scr ns),a1,a2,a3,a4,a5,a6,a7,a8]) ⟨_,_,_,_,_,_,_,_,rfl⟩ ?_ ?_⟩
  ·rintro i _ hi ⟨a1,a2,a3,a4,a5,a6,a7,a8,rfl⟩
   simp! only[↓zoj]
   refine(pool_ok ns i (by lia)).mono ?_
   rintro _ ⟨d1,h1,rfl⟩
   simp! only[]
   refine(line_ok h1 24 4 (by decide) (by decide) (by decide) (by decide)).mono ?_
   rintro _ ⟨k,s,n,S0,L0,G0,d2,h2,ok0,⟨r0,f0⟩,n10,rfl⟩
   simp! only[]
   refine(bent_ok h2 ok0).mono ?_
   rintro _ ⟨S,L,G,d3,h3,ok,rfl⟩
   obtain⟨lo,hi,sp,-⟩:=znA (ask k S L) (ask k S G) (show 0<k by have:=ok.d.k2;lia) ok.d.kn
   simp! only[zat]
   refine(znG ok.d sp).mono ?_
   rintro _ ⟨b,hb,rfl⟩
   have n24:=ok.d.n24
   simp! only[↓zou]
   refine⟨zaO (by lia) (by lia),by lia,zkC (fun i acc ρ=>∃(f:Nat->Int) (ds':List D) (z:Sl),Pool ds'/\acc=wI i f/\ρ=[.par ds',z]) ⟨fun _=>0,d3,.emp,h3,rfl,rfl⟩ ?_ ?_⟩
   ·rintro i acc _ hi ⟨f,d1,z,hp1,rfl,rfl⟩
    simp! only[↓zof]
    refine(zbi hp1 (m:=5) (by decide) (by decide)).mono ?_
    rintro _ ⟨t,d2,ht,hp2,rfl⟩
    simp! only[]
    exact⟨_,d2,_,hp2,zkn i f _,rfl⟩
   ·rintro _ _ ⟨f,d1,z,hp1,rfl,rfl⟩
    simp! only[]
    refine⟨by lia,?_⟩
    refine(zbi hp1 (m:=5) (by decide) (by decide)).mono ?_
    rintro _ ⟨t,d2,ht,hp2,rfl⟩
    obtain⟨m,c,hm,e⟩:=five_ok n f n24 t (by lia)
    simp! only[e]
    refine⟨fun e=>zqO (c:=c) ok.d sp hp2 hb (by lia) (.inl ⟨fun z=>e (by lia),rfl⟩) _ _ _ ?_,fun e=>⟨fun h=>zqO (c:=c) ok.d sp hp2 hb (by lia) (.inr (.inl ⟨by lia,fun z=>?_,rfl⟩)) _ _ _ ?_,fun h=>zqO (c:=c) ok.d sp hp2 hb (by lia) (.inr (.inr ⟨by lia,hb.mp (by simpa using h),rfl⟩)) _ _ _ ?_⟩⟩
    ·exact fun a2 a4 a6 a7 a8=>⟨_,_,_,_,_,_,_,_,rfl⟩
    ·rw[hb.mpr z]at h;cases h
    ·exact fun a2 a4 a6 a7 a8=>⟨_,_,_,_,_,_,_,_,rfl⟩
    ·exact fun a2 a4 a6 a7 a8=>⟨_,_,_,_,_,_,_,_,rfl⟩
  ·rintro _ ⟨a1,a2,a3,a4,a5,a6,a7,a8,rfl⟩
   simp! only[]
 obtain⟨_,e,rfl⟩:=this
 exact e
end Prf
def PySem.W.Fast.tw5694508856908897412:Nat:=0
def PySem.W.Fast.tw3595451703682944441:Nat:=0
def PySem.W.Fast.tw12501299991101249420:Nat:=0
def PySem.W.Fast.tw1181191095203894309:Nat:=0
def PySem.W.Fast.tw3130078905969713070:Nat:=0
def PySem.W.Fast.tw10936945659456119329:Nat:=0
def PySem.W.Fast.tw7372083158123923428:Nat:=0
def PySem.W.Fast.tw7012338318239391946:Nat:=0
def PySem.W.Fast.tw13284511141935513261:Nat:=0
def PySem.W.Fast.tw11065506969102637927:Nat:=0
def PySem.W.Fast.tw5532682288940386743:Nat:=0
def PySem.W.Fast.tw16489280183693276269:Nat:=0
def PySem.W.Fast.tw6555436119261294234:Nat:=0
def PySem.W.Fast.tw3521188762397279487:Nat:=0
def PySem.W.Fast.tw9620123314667806062:Nat:=0
def PySem.W.Fast.tw2744884815937788847:Nat:=0
def PySem.W.Fast.tw16113452548718893105:Nat:=0
def PySem.W.Fast.tw13291780062782181720:Nat:=0
def PySem.W.Fast.tw1542061862554098330:Nat:=0
def PySem.W.Fast.tw13800751381709951158:Nat:=0
def PySem.W.Fast.tw3263279565945060975:Nat:=0
def PySem.W.Fast.tw15872311094858189735:Nat:=0
def PySem.W.Fast.tw5504513803349129792:Nat:=0
def PySem.W.Fast.tw17518181909006432320:Nat:=0
def PySem.W.Fast.tw17115361925687529787:Nat:=0
def PySem.W.Fast.tw16082148018210309117:Nat:=0
def PySem.W.Fast.tw5884678925941684668:Nat:=0
def PySem.W.Fast.tw3396889682932714061:Nat:=0
def PySem.W.Fast.tw11126809466123167454:Nat:=0
def PySem.W.Fast.tw15596002442791902785:Nat:=0
def PySem.W.Fast.tw5327961930337637724:Nat:=0
def PySem.W.Fast.tw2835858274711464091:Nat:=0
def PySem.W.Fast.tw7605621283781522682:Nat:=0
def PySem.W.Fast.tw7043934920927636217:Nat:=0
def PySem.W.Fast.tw5124700796871098514:Nat:=0
def PySem.W.Fast.tw3360772356279276510:Nat:=0
def PySem.W.Fast.tw11440416999152204918:Nat:=0
def PySem.W.Fast.tw5686906743477066215:Nat:=0
def PySem.W.Fast.tw8640784260155994573:Nat:=0
def PySem.W.Fast.tw1364167632402547907:Nat:=0
def PySem.W.Fast.tw15028859369661754935:Nat:=0
def PySem.W.Fast.tw5420942961270238011:Nat:=0
def PySem.W.Fast.tw1190182695382400856:Nat:=0
def PySem.W.Fast.tw15450663460240501564:Nat:=0
def PySem.W.Fast.tw669330624331180388:Nat:=0
def PySem.W.Fast.tw1717214886080966408:Nat:=0
def PySem.W.Fast.tw12649080716730336030:Nat:=0
def PySem.W.Fast.tw11589098212884705771:Nat:=0
def PySem.W.Fast.tw10371788086367578819:Nat:=0
def PySem.W.Fast.tw3926796629555046184:Nat:=0
def PySem.W.Fast.tw9719848548178843360:Nat:=0
def PySem.W.Fast.tw3979185217914343393:Nat:=0
def PySem.W.Fast.tw16205389183911783660:Nat:=0
def PySem.W.Fast.tw4482359754488177753:Nat:=0
def PySem.W.Fast.tw6587349124331731763:Nat:=0
def PySem.W.Fast.tw629429353828001342:Nat:=0
def PySem.W.Fast.tw8787869385961088669:Nat:=0
def PySem.W.Fast.tw9830260505188125756:Nat:=0
def PySem.W.Fast.tw2186148122147612726:Nat:=0
def PySem.W.Fast.tw14239952514621058006:Nat:=0
def PySem.W.Fast.tw14149342736344420229:Nat:=0
def PySem.W.Fast.tw18149559803866161717:Nat:=0
def PySem.W.Fast.tw9575429701602822434:Nat:=0
def PySem.W.Fast.tw17997385333119843277:Nat:=0
def PySem.W.Fast.tw4442728138080497522:Nat:=0
def PySem.W.Fast.tw17364550080159882005:Nat:=0
def PySem.W.Fast.tw14616545134804785917:Nat:=0
def PySem.W.Fast.tw7595975513155721868:Nat:=0
def PySem.W.Fast.tw11883241053545845457:Nat:=0
def PySem.W.Fast.tw7788588494887253933:Nat:=0
def PySem.W.Fast.tw4824540428186431829:Nat:=0
def PySem.W.Fast.tw9555747224040928412:Nat:=0
def PySem.W.Fast.tw18190300838045429319:Nat:=0
def PySem.W.Fast.tw15448904836512155011:Nat:=0
def PySem.W.Fast.tw10253226545949824836:Nat:=0
def PySem.W.Fast.tw5919227633156337549:Nat:=0
def PySem.W.Fast.tw7895833540020674134:Nat:=0
def PySem.W.Fast.tw2761659170271090290:Nat:=0
def PySem.W.Fast.tw15781842301218010631:Nat:=0
def PySem.W.Fast.tw1247526168878034536:Nat:=0
def PySem.W.Fast.tw3287460050520482677:Nat:=0
def PySem.W.Fast.tw13080165335178239282:Nat:=0
def PySem.W.Fast.tw2611249051295984376:Nat:=0
def PySem.W.Fast.tw6417998965129511135:Nat:=0
def PySem.W.Fast.tw7230495171474277356:Nat:=0
def PySem.W.Fast.tw1130305229611227134:Nat:=0
def PySem.W.Fast.tw1555443986420994465:Nat:=0
def PySem.W.Fast.tw11483608978598712099:Nat:=0
def PySem.W.Fast.tw98520574266693284:Nat:=0
def PySem.W.Fast.tw6296247701117307873:Nat:=0
def PySem.W.Fast.tw5674221048612046092:Nat:=0
def PySem.W.Fast.tw14829482374718594542:Nat:=0
def PySem.W.Fast.tw15308765315524186282:Nat:=0
def PySem.W.Fast.tw774770819403242014:Nat:=0
def PySem.W.Fast.tw15761578353658540023:Nat:=0
def PySem.W.Fast.tw1538967133811648406:Nat:=0
def PySem.W.Fast.tw11258917082074727972:Nat:=0
def PySem.W.Fast.tw1441912398178797985:Nat:=0
def PySem.W.Fast.tw5594046513851265654:Nat:=0
def PySem.W.Fast.tw17903271078690302198:Nat:=0
def PySem.W.Fast.tw14891816045290048081:Nat:=0
def PySem.W.Fast.tw15441359197938758990:Nat:=0
def PySem.W.Fast.tw2511309922980355031:Nat:=0
def PySem.W.Fast.tw5214675019528487368:Nat:=0
def PySem.W.Fast.tw5203643828702572605:Nat:=0
def PySem.W.Fast.tw10793943790692361550:Nat:=0
def PySem.W.Fast.tw6213298547633867923:Nat:=0
def PySem.W.Fast.tw10106471495077958089:Nat:=0
def PySem.W.Fast.tw9325624657980046000:Nat:=0
def PySem.W.Fast.tw11032298539487101853:Nat:=0
def PySem.W.Fast.tw3772965727523835390:Nat:=0
def PySem.W.Fast.tw4565741074834440380:Nat:=0
def PySem.W.Fast.tw16873329696940938655:Nat:=0
def PySem.W.Fast.tw7400501730485747809:Nat:=0
def PySem.W.Fast.tw15703716018100260728:Nat:=0
def PySem.W.Fast.tw7198527310495820520:Nat:=0
def PySem.W.Fast.tw3005770833157176279:Nat:=0
def PySem.W.Fast.tw1679163457743711658:Nat:=0
def PySem.W.Fast.tw11199608378702674550:Nat:=0
def PySem.W.Fast.tw2443791948342006096:Nat:=0
def PySem.W.Fast.tw4842002241299629120:Nat:=0
def PySem.W.Fast.tw3738086849221210906:Nat:=0
def PySem.W.Fast.tw9005836238480373691:Nat:=0
def PySem.W.Fast.tw6814331221569128296:Nat:=0
def PySem.W.Fast.tw13144951766568578891:Nat:=0
def PySem.W.Fast.tw11144912700266949370:Nat:=0
def PySem.W.Fast.tw238252393864995022:Nat:=0
def PySem.W.Fast.tw13133599613021652474:Nat:=0
def PySem.W.Fast.tw5917454744604652903:Nat:=0
def PySem.W.Fast.tw16669621483143256187:Nat:=0
def PySem.W.Fast.tw6013464318679442466:Nat:=0
def PySem.W.Fast.tw10548705126091086239:Nat:=0
def PySem.W.Fast.tw17660064153777834413:Nat:=0
def PySem.W.Fast.tw9884752164304705093:Nat:=0
def PySem.W.Fast.tw12828526279970683780:Nat:=0
def PySem.W.Fast.tw6429975424166267635:Nat:=0
def PySem.W.Fast.tw4707061434917811854:Nat:=0
def PySem.W.Fast.tw417651564839124362:Nat:=0
def PySem.W.Fast.tw10405184782451962985:Nat:=0
def PySem.W.Fast.tw14268363595217852661:Nat:=0
def PySem.W.Fast.tw14510084794427214232:Nat:=0
def PySem.W.Fast.tw2014449932414972230:Nat:=0
def PySem.W.Fast.tw9308166953109354164:Nat:=0
def PySem.W.Fast.tw13796448210014615781:Nat:=0
def PySem.W.Fast.tw11635889970790572941:Nat:=0
def PySem.W.Fast.tw4586276000436405532:Nat:=0
def PySem.W.Fast.tw11655097630051908223:Nat:=0
def PySem.W.Fast.tw4633320355706968117:Nat:=0
def PySem.W.Fast.tw9173349249836748605:Nat:=0
def PySem.W.Fast.tw16536198862289681744:Nat:=0
def PySem.W.Fast.tw12876398661966028897:Nat:=0
def PySem.W.Fast.tw959618925156195878:Nat:=0
def PySem.W.Fast.tw3805253160104947577:Nat:=0
def PySem.W.Fast.tw14553816892980912365:Nat:=0
def PySem.W.Fast.tw15779170806992416860:Nat:=0
def PySem.W.Fast.tw9997978797468360673:Nat:=0
def PySem.W.Fast.tw16760018208001864007:Nat:=0
def PySem.W.Fast.tw172950972583683431:Nat:=0
def PySem.W.Fast.tw15586731567874659395:Nat:=0
def PySem.W.Fast.tw2993760220979316995:Nat:=0
def PySem.W.Fast.tw16824853416988840947:Nat:=0
def PySem.W.Fast.tw15235919465409251925:Nat:=0
def PySem.W.Fast.tw16591236158002874003:Nat:=0
def PySem.W.Fast.tw14455523967590046527:Nat:=0
def PySem.W.Fast.tw1924980774510754696:Nat:=0
def PySem.W.Fast.tw10516810032288177887:Nat:=0
def PySem.W.Fast.tw11708837121085943355:Nat:=0
def PySem.W.Fast.tw2910360623517139613:Nat:=0
def PySem.W.Fast.tw8016430661012738133:Nat:=0
def PySem.W.Fast.tw10301732656447447698:Nat:=0
def PySem.W.Fast.tw13503831110002091229:Nat:=0
def PySem.W.Fast.tw9263185025642294605:Nat:=0
def PySem.W.Fast.tw6012360431341298672:Nat:=0
def PySem.W.Fast.tw11587789688132708144:Nat:=0
def PySem.W.Fast.tw7162942333489509394:Nat:=0
def PySem.W.Fast.tw6006403449035423477:Nat:=0
def PySem.W.Fast.tw4987845272565522044:Nat:=0
def PySem.W.Fast.tw12105658948920190903:Nat:=0
def PySem.W.Fast.tw2972120250935168580:Nat:=0
def PySem.W.Fast.tw17013171092427154122:Nat:=0
def PySem.W.Fast.tw7422223446919394857:Nat:=0
def PySem.W.Fast.tw11860737712319272638:Nat:=0
def PySem.W.Fast.tw11852535759357814393:Nat:=0
def PySem.W.Fast.tw17590553470734287307:Nat:=0
def PySem.W.Fast.tw2222940562396581773:Nat:=0
def PySem.W.Fast.tw13116260812285775924:Nat:=0
def PySem.W.Fast.tw7980357723042702015:Nat:=0
def PySem.W.Fast.tw14745999835233095778:Nat:=0
def PySem.W.Fast.tw13047727108230787862:Nat:=0
def PySem.W.Fast.tw9244591792016190488:Nat:=0
def PySem.W.Fast.tw1440172752184356674:Nat:=0
def PySem.W.Fast.tw16005066722161447375:Nat:=0
def PySem.W.Fast.tw12982984526996812058:Nat:=0
def PySem.W.Fast.tw11144231209480611670:Nat:=0
def PySem.W.Fast.tw2897767526917602935:Nat:=0
def PySem.W.Fast.tw7212806300982641003:Nat:=0
def PySem.W.Fast.tw5859153681937570268:Nat:=0
def PySem.W.Fast.tw2906542096662372316:Nat:=0
def PySem.W.Fast.tw5819217879421343573:Nat:=0
def PySem.W.Fast.tw13644987804008962811:Nat:=0
def PySem.W.Fast.tw12623759987753018987:Nat:=0
def PySem.W.Fast.tw6387752257111954920:Nat:=0
def PySem.W.Fast.tw8924026613452264164:Nat:=0
def PySem.W.Fast.tw14459085624655825731:Nat:=0
def PySem.W.Fast.tw1873670764418629835:Nat:=0
def PySem.W.Fast.tw15208132895532928710:Nat:=0
def PySem.W.Fast.tw16692828265355273650:Nat:=0
def PySem.W.Fast.tw15675627313941848874:Nat:=0
def PySem.W.Fast.tw4683939335173814436:Nat:=0
def PySem.W.Fast.tw1752389236780194488:Nat:=0
def PySem.W.Fast.tw5315218001924020007:Nat:=0
def PySem.W.Fast.tw7491846604993885793:Nat:=0
def PySem.W.Fast.tw4147605226850510727:Nat:=0
def PySem.W.Fast.tw2673749991446054349:Nat:=0
def PySem.W.Fast.tw1298994838147442810:Nat:=0
def PySem.W.Fast.tw17682193611045179028:Nat:=0
def PySem.W.Fast.tw11724512052988723595:Nat:=0
def PySem.W.Fast.tw5294965117059815680:Nat:=0
def PySem.W.Fast.tw11441407705940196225:Nat:=0
def PySem.W.Fast.tw17960009409749906040:Nat:=0
def PySem.W.Fast.tw9731390920015585109:Nat:=0
def PySem.W.Fast.tw10368129918505897612:Nat:=0
def PySem.W.Fast.tw11179468374129715956:Nat:=0
def PySem.W.Fast.tw7800831268025180077:Nat:=0
def PySem.W.Fast.tw14349892969034311133:Nat:=0
def PySem.W.Fast.tw7978163691114714970:Nat:=0
def PySem.W.Fast.tw3972122972739472302:Nat:=0
def PySem.W.Fast.tw17913804150144906079:Nat:=0
def PySem.W.Fast.tw5757519768881470305:Nat:=0
def PySem.W.Fast.tw7775466708015014612:Nat:=0
def PySem.W.Fast.tw10712316147815817768:Nat:=0
def PySem.W.Fast.tw6414518426217554235:Nat:=0
def PySem.W.Fast.tw1430060954235965928:Nat:=0
def PySem.W.Fast.tw1526649567657311924:Nat:=0
open PyProof.Rows PySem PySem.W
set_option maxRecDepth 100000 in
set_option maxHeartbeats 0 in
theorem PySem.Challenge.cw_tellsum_k27_settling_refused_holds : PySem.Challenge.rw_tellsum_k27_settling_refused.Holds := by
  w_on; o_law; k_head; (case hw => w_witness2)
  k_fill
  refine Prf.walk (l := PySem.Challenge.rw_tellsum_k27_settling_refused) rfl rfl Prf.math (fun w h Y => W.km_in_of Y) (fun w h Y => W.km_tabs_of Y _ (by decide)) (fun w => by exact ⟨_, _, _, by k_is, by k_is, rfl, rfl, rfl, by rfl, by rfl⟩) ?F
  case F =>
    intro w mg fa h KX G hmg
    refine' Prf.all_mk KX G hmg ?h1 ?h2 ?h3 ?h4 ?h5 ?h6 ?h7 ?h8 ?h9 ?h10 ?h11 ?h12 ?h13 ?h14 ?h15 ?h16 ?h17 ?h18 ?h19 ?h20 ?h21 ?h22 ?h23 ?h24 ?h25 ?h26 ?h27 ?h28 ?h29 ?h30 ?h31 ?h32 ?h33 ?h34 ?h35 ?h36 ?h37 ?h38 ?h39 ?h40 ?h41 ?h42 ?h43 ?h44 ?h45 ?h46 ?hh ?z0 ?z1 ?z2 ?z3 ?z4 ?z5 ?z6 ?z7 ?z8 ?z9 ?z10 ?z11 ?z12 ?zbE ?zaX ?zbd ?zgL ?zf7 ?zie ?zlR ?zng ?zll ?zkg ?hsp ?htk ?ze1 ?zlO ?zln ?zl9 ?zcB ?zil ?ziq ?zin ?zdx ?zjO ?zjV ?zke ?za6 ?zdD ?zdc ?zdr ?zcn ?zdu ?zgB ?zhL ?zfP ?zeH ?zgG ?zda ?zeE ?zbH ?zcj ?zdA ?zfX ?zhW ?zfZ ?zex ?zdg ?zmd ?zjX ?zkr ?zmj ?zlz ?zaQ ?zb4 ?zcd ?zcX ?zet ?zde ?zeY ?zea ?zdF ?zes ?zck ?zif ?zho ?zhC ?ziD ?zio ?zaw ?zby ?zbV ?zdz ?zci ?zcU ?zdi ?zc2 ?zcz ?zc1 ?zbX ?zky ?ziE ?ziH ?zj8 ?zkz ?zaG ?zbR ?zb6 ?zeg ?zcs ?zdl ?zcR ?zel ?zdj ?zc3 ?zb5
    (case h1 | h2 | h3 | h4 | h5 | h6 | h7 | h8 | h9 | h10 | h11 | h12 | h13 | h14 | h15 | h16 | h17 | h18 | h19 | h20 | h21 | h22 | h23 | h24 | h25 | h26 | h27 | h28 | h29 | h30 | h31 | h32 | h33 | h34 | h35 | h36 | h37 | h38 | h39 | h40 | h41 | h42 | h43 | h44 | h45 | h46 =>
      refine' M.FnAt.mk ?a ?l ?c ?k
      (case a => k_is)
      (case l => k_is)
      (case c => k_is)
      (case k => k_is))
    (case hh => exact ⟨_, _, _, by k_is, by k_is, rfl, rfl, rfl, by rfl, by rfl⟩)
    (case z0 | z1 | z2 | z3 | z4 | z5 | z6 | z7 | z8 | z9 | z10 | z11 | z12 | zbE | zaX | zbd | zgL | zf7 | zie | zlR | zng | zll | zkg | hsp | htk | ze1 | zlO | zln | zcB | zil | ziq | zdx | zjO | zjV | za6 | zdD | zdc | zcn | zdu | zgB | zhL | zfP | zeH | zgG | zda | zeE | zbH | zcj | zdA | zfX | zhW | zfZ | zex | zdg | zmd | zjX | zkr | zmj | zlz | zaQ | zb4 | zcd | zcX | zet | zde | zeY | zea | zdF | zes | zck | zif | zho | zhC | ziD | zio | zaw | zby | zbV | zdz | zci | zcU | zdi | zc2 | zcz | zc1 | zbX | zky | ziE | ziH | zj8 | zkz | zaG | zbR | zb6 | zeg | zcs | zdl | zcR | zel | zdj | zc3 | zb5 => k_is)
    (case zl9 | zin | zke | zdr => rfl)
end
