import PyProof.Rows.All
import Wide.All
import OpenK.AllK
import Wide.FinOn
import Lean
import PyProof.EqAt
import PyProof.EqKinds
import PyProof.TupleCall
import PyProof.Rows.Range3
import PyProof.ZipIter
import PyProof.Draws
import PyProof.EnumMake
import PyProof.Rows.FactsTup
import PyProof.LayNew
import PyProof.Rows.SeqMore2
import PyProof.Rows.RuleIs
import KE.KRevIter
import PyProof.P3In
import KE.KSortTup
import PyProof.Rows.SortWalk
import PyProof.Rows.SetFrom
import PySem.Challenge.RW_tellsum_k24_cheapest_places_told
set_option Elab.async false
set_option linter.all false
set_option bootstrap.genMatcherCode false
set_option compiler.extract_closed false
set_option maxRecDepth 100000
theorem zu0(h:True:=by first|exact .inl rfl|exact .inr rfl|assumption):True:=trivial
theorem zu1(h:True:=by decide):True:=trivial
theorem zu2(h:True:=by rfl):True:=trivial
theorem zu3(h:True:=by intro _;rfl):True:=trivial
theorem zu4(h:True:=by with_unfolding_all rfl):True:=trivial
theorem zu5(h:True:=by first|exact Or.inl rfl|exact Or.inr (Or.inl rfl)|exact Or.inr (Or.inr rfl)):True:=trivial
theorem zu6(h:True:=by exact fun _ _=>rfl):True:=trivial
theorem zu7(h:True:=by decide+kernel):True:=trivial
theorem zu8(h:True:=by exact fun _=>rfl):True:=trivial
theorem zu9(h:True:=by first|exact Or.inl rfl|exact Or.inr rfl):True:=trivial
theorem zu10(h:True:=by kernel_rfl):True:=trivial
theorem zu11(h:True:=by exact⟨⟨rfl,rfl,rfl,by decide+kernel,rfl,by decide+kernel,by decide+kernel⟩,rfl,by decide,fun _ _ _ _ _ _=>by repeat (first|exact us_0 rfl|refine us_s fun _=>?_)⟩):True:=trivial
noncomputable section
namespace L2
open PyProof.Rows PySem PySem.Spec
variable {xs vs:List V} {us:List Value} {x qual:Str} {u cd:Value} {H:Hp} {a b it dx:Addr} {o:HO} {h base:Heap} {its:Array Value} {w:World} {g':Array GenState} {t' i j k n:Nat} {d':Drawn} {ch fp:List Addr} {e c tg:Expr} {pins' pins pl:List (Addr×Obj)} {N ps:List Str} {A:Around} {E:Value->Shared->Prop} {v:V} {Q:Unit->Shared->Prop} {X:Cx} {t:TSet} {s s':Shared} {pos pos':Pos} {σ:St} {K:W.Frag} {f:Value->Value->Sem Value} {es:List Expr} {te:TE} {g:Int->Int->Int} {op:CmpOp} {p:Addr×Obj} {body:List Stmt} {r:V->Hp->VK->Prop} {C:Int->Int->Prop} {mA mg:Str->Option Value} {fd:FuncData} {kindOf:Str->Option NameKind} {sc scope:Scope} {CX:CXT} {outer:List Env} {params:Arguments}
noncomputable abbrev Key:=Sum Int Str
noncomputable def keyIs:Key->Value->Bool
 | .inl k,v=>Value.isInt k v
 | .inr x,v=>Value.isStrOf x v
noncomputable def keyH (w:World):Key->Int
 | .inl k=>hashInt k
 | .inr x=>hashStr w x
theorem za8:∀{k:Key} {v:Value},keyIs k v=true->(∃i t,k=Sum.inl i/\v=Value.int i t)\/(∃x t,k=Sum.inr x/\v=Value.str x t)
 | .inl i,v,h=>by
  obtain⟨t,e⟩:=Value.isInt_shape (k:=i) (v:=v) h
  exact .inl ⟨i,t,rfl,e⟩
 | .inr x,v,h=>by
  obtain⟨t,e⟩:=Value.isStrOf_shape (x:=x) (v:=v) h
  exact .inr ⟨x,t,rfl,e⟩
theorem key_ll (a b:Int):decide ((Sum.inl a:Key)=Sum.inl b)=(a==b):=by
 by_cases e:a=b
 ·subst e;simp
 ·have h:¬(Sum.inl a:Key)=Sum.inl b:=fun q=>e (Sum.inl.inj q)
  rw[decide_eq_false h]
  exact(beq_eq_false_iff_ne.mpr e).symm
theorem key_rr (a b:Str):decide ((Sum.inr a:Key)=Sum.inr b)=decide (a=b):=by
 by_cases e:a=b
 ·subst e;simp
 ·have h:¬(Sum.inr a:Key)=Sum.inr b:=fun q=>e (Sum.inr.inj q)
  rw[decide_eq_false h,decide_eq_false e]
theorem key_lr (a:Int)(b:Str):decide ((Sum.inl a:Key)=Sum.inr b)=false:=decide_eq_false (fun q=>nomatch q)
theorem key_rl (a:Str)(b:Int):decide ((Sum.inr a:Key)=Sum.inl b)=false:=decide_eq_false (fun q=>nomatch q)
noncomputable def zlB (prog:Program)(w:World):PySem.KeyKind prog w Key where
 is:=keyIs
 hash:=keyH w
 inj:=fun v a b ha hb=>by
  rcases za8 ha with⟨i,t,rfl,rfl⟩|⟨x,t,rfl,rfl⟩
  ·rcases za8 hb with⟨j,u,rfl,e⟩|⟨y,u,rfl,e⟩
   ·injection e with e1 _;rw[e1]
   ·exact nomatch e
  ·rcases za8 hb with⟨j,u,rfl,e⟩|⟨y,u,rfl,e⟩
   ·exact nomatch e
   ·injection e with e1 _;rw[e1]
 byValue:=fun k v h=>by
  rcases za8 h with⟨i,t,rfl,rfl⟩|⟨x,t,rfl,rfl⟩<;>rfl
 pyHash:=fun hv h=>by
  rcases za8 hv with⟨i,t,rfl,rfl⟩|⟨x,t,rfl,rfl⟩
  ·exact wpAny_pyHash_int h
  ·exact wpAny_pyHash_str h
 eqBool:=fun hu hv h=>by
  rcases za8 hu with⟨i,t,rfl,rfl⟩|⟨x,t,rfl,rfl⟩
  ·rcases za8 hv with⟨j,u,rfl,rfl⟩|⟨y,u,rfl,rfl⟩
   ·rw[key_ll]at h;exact wpAny_eqBool_int h
   ·rw[key_lr]at h;exact SeqAt.EqAt.int_str i t y u _ _ _ _ h
  ·rcases za8 hv with⟨j,u,rfl,rfl⟩|⟨y,u,rfl,rfl⟩
   ·rw[key_rl]at h;exact SeqAt.EqAt.str_int x t j u _ _ _ _ h
   ·rw[key_rr]at h;exact wpAny_eqBool_str h
 «strs»:=fun k x t v h=>by
  rcases za8 h with⟨i,u,rfl,e⟩|⟨y,u,rfl,e⟩
  ·exact nomatch e
  ·injection e with e1 _
   subst e1
   cases v<;>rfl
inductive V where
 |non|bl (b:Bool)|int (i:Int)|str (x:Str)|byt (b:Array UInt8)|flt (b:UInt64)|ref (a:Addr)|ty (n:String)
 deriving DecidableEq
noncomputable def RelV:V->Value->Prop
 | .non,u=>u=Value.none
 | .bl b,u=>u=Value.bool b
 | .int i,u=>∃t,u=Value.int i t
 | .str x,u=>∃t,u=Value.str x t
 | .byt b,u=>∃t,u=Value.bytes b t
 | .flt b,u=>∃t,u=Value.float b t
 | .ref a,u=>u=Value.ref a
 | .ty n,u=>u=Value.type n
noncomputable abbrev Vals:List V->List Value->Prop:=Paired RelV
theorem Vals.length (r:Vals xs us):xs.length=us.length:=Paired.length r
theorem Vals.get:∀{xs:List V} {us:List Value} {i:Nat} {x:V},Vals xs us->xs[i]? =some x->∃u,us[i]? =some u/\RelV x u
 |_,_,_,_,.nil,e=>by simp at e
 |_,_,0,_,.cons r _,e=>by simp at e;subst e;exact⟨_,rfl,r⟩
 |_,_,i+1,x,.cons _ t,e=>by
  obtain⟨u,h1,h2⟩:=Vals.get (i:=i) (x:=x) t (by simpa using e)
  exact⟨u,by simpa using h1,h2⟩
theorem Vals.set {x:V}(r:RelV x u):∀{xs:List V} {us:List Value} (i:Nat),Vals xs us->Vals (xs.set i x) (us.set i u)
 |_,_,_,.nil=> .nil
 |_,_,0,.cons _ t=> .cons r t
 |_,_,i+1,.cons q t=> .cons q (Vals.set r i t)
theorem Vals.append:∀{xs ys:List V} {us ws:List Value},Vals xs us->Vals ys ws->Vals (xs++ys) (us++ws)
 |_,_,_,_,.nil,s=>s
 |_,_,_,_,.cons r t,s=> .cons r (Vals.append t s)
theorem Vals.take:∀{xs:List V} {us:List Value} (n:Nat),Vals xs us->Vals (xs.take n) (us.take n)
 |_,_,0,_=> .nil
 |_,_,_+1,.nil=> .nil
 |_,_,n+1,.cons r t=> .cons r (Vals.take n t)
theorem Vals.drop:∀{xs:List V} {us:List Value} (n:Nat),Vals xs us->Vals (xs.drop n) (us.drop n)
 |_,_,0,r=>r
 |_,_,_+1,.nil=> .nil
 |_,_,n+1,.cons _ t=>Vals.drop n t
theorem Vals.none_of:∀{xs:List V} {us:List Value} {i:Nat},Vals xs us->xs[i]? =none->us[i]? =none:=fun{xs us i} r e=>by
 have h1:=r.length
 have h2:xs.length<=i:=List.getElem?_eq_none_iff.mp e
 exact List.getElem?_eq_none_iff.mpr (by lia)
noncomputable def RelO:Option V->Option Value->Prop
 |some v,some u=>RelV v u
 |none,none=>True
 |_,_=>False
noncomputable def KV {κ:Type}:List (κ×V)->List (κ×Value)->Prop:=Paired fun(p:κ×V) (q:κ×Value)=>p.1=q.1/\RelV p.2 q.2
noncomputable def kV:Key->V
 | .inl i=> .int i
 | .inr x=> .str x
inductive HO where
 /-- a list -/
 |lst (xs:List V)
 /-- a tuple (never changes) -/
 |tup (xs:List V)
 /-- a dict whose keys are ints and texts; one whose keys are tuples of ints and texts (the empty one is both) -/
 |dK (kvs:List (Key×V))|dT (kvs:List (List Key×V))
 /-- a set of ints: its members, its size -/
 |set (S:Int->Bool) (n:Nat)
 /-- an instance of the class at C, its dict at dx, its attributes -/
 |ins (C dx:Addr) (fs:List (Str×V))
 /-- the dict of the instance at x -/
 |own (x:Addr)
 /-- the dict of an exception -/
 |xd (fs:List (Str×V))
 /-- a bound method, f of x -/
 |met (f x:Addr)
 /-- a range object lo, lo + 1, .. below hi -/
 |rng (lo hi:Int)
 /-- a thing that is known to the object (the script; a dict while a loop walks it): read, never written while it is so -/
 |frz (o:Obj) (u:HO)
 /-- a code object's table -/
 |tbl (ps:Array Value)
 /-- any other thing, by what is true of its one object (a def of one's own: SetO a S n := HO.ext fun h => ..) -/
 |ext (φ:Heap->Prop)
noncomputable abbrev Hp:=Addr->Option HO
noncomputable def upd (H:Hp)(a:Addr)(o:HO):Hp:=fun b=>if b=a then some o else H b
theorem zas:upd H a o a=some o:=by unfold upd;rw[if_pos rfl]
theorem zap (h:b≠a):upd H a o b=H b:=by unfold upd;rw[if_neg h]
theorem zov {o u:HO}:upd (upd H a o) a u=upd H a u:=by
 funext b;unfold upd;split<;>rfl
theorem zax (h:H a=some o)(h':H b=none):a≠b:=by
 intro e;subst e;rw[h]at h';cases h'
noncomputable def IsTupD (h:Heap)(a:Addr)(its:Array Value):Prop:=∃o,h.get? a=some o/\o.cls= .type "tuple"/\∃n,o.data= .seq its n/\o.dict=none
theorem IsTupD.is (p:IsTupD h a its):IsTup h a its:=let⟨o,e,c,n,d,_⟩:=p;⟨o,e,c,n,d⟩
theorem IsTupD.lt (p:IsTupD h a its):a<h.objs.size:=let⟨_,e,_⟩:=p;Heap.lt_size e
theorem IsTupD.new (h:Heap)(its:Array Value):IsTupD (h.push {cls:= .type "tuple",data:= .seq its}) h.objs.size its:=⟨_,Heap.get?_push_size _ rfl,rfl,0,rfl,rfl⟩
section
variable (P:Program) (w:World)
noncomputable def ObjOk (H:Hp)(h:Heap)(a:Addr):HO->Prop
 | .lst xs=>xs.length<=sizeLine/\∃(its:List Value) (n:Nat),Vals xs its/\h.get? a=some {cls:= .type "list",data:= .seq its.toArray n}
 | .tup xs=>xs.length<=sizeLine/\∃its:List Value,Vals xs its/\IsTupD h a its.toArray
 | .dK kvs=>kvs.length<=sizeLine/\(a==sysModules)=false/\∃vs,KV kvs vs/\h.DictOf (zlB P w) a vs
 | .dT kvs=>kvs.length<=sizeLine/\(a==sysModules)=false/\∃xs:List (List Key×Addr×Value),
   Paired (fun(p:List Key×V) (q:List Key×Addr×Value)=>p.1=q.1/\H q.2.1=some (.tup (p.1.map kV))/\RelV p.2 q.2.2) kvs xs/\
   ∃o es ep,h.get? a=some o/\o.ExactDict/\o.data= .dict es ep/\es.toList=xs.map (entryOfKey (tupleKind (zlB P w)))/\(xs.map (·.1)).Nodup
 | .set S n=>h.SetOf (intKind P w) a S n
 | .ins C dx fs=>H dx=some (.own a)/\fs.length<=1000/\dx≠a/\h.get? a=some (W.instObj C dx)/\
   ∃mA,h.Ns1 dx mA/\(∀f,RelO (fs.lookup f) (mA f))/\PySem.Within mA (fs.map (·.1))
 | .own _=>∃o,h.get? a=some o
 | .xd fs=>∃mA,h.Ns1 a mA/\∀f,RelO (fs.lookup f) (mA f)
 | .rng lo hi=>∃t u v,h.get? a=some {cls:= .type "range",data:= .fields #[.int lo t,.int hi u,.int 1 v]}
 | .frz o u=>h.get? a=some o/\ObjOk H h a u
 | .tbl ps=>∃q tk qs,ps= #[.str q tk]/\h.get? a=some (W.tabObj qs)/\TriplesOk qs.toList/\∀pos cv,codeAmong pos qs.toList=some cv->∃c' oc vs t,cv= .ref c'/\(∃u,H c'=some (.frz oc u))/\oc.data= .fields vs/\vs[1]? =some (.str q t)
 | .met f x=>h.get? a=some (W.methodObj (.ref f) (.ref x))
 | .ext φ=>φ h/\(∃o,h.get? a=some o)/\∀h1 h2:Heap,φ h1->(∀o,h1.get? a=some o->h2.get? a=some o)->φ h2
noncomputable def HOk (H:Hp)(h:Heap):Prop:=∀a o,H a=some o->ObjOk P w H h a o
end
section
variable {P:Program} {w:World} {H H':Hp} {h h':Heap} {a:Addr} {o:HO}
theorem ObjOk.lt (x:ObjOk P w H h a o):a<h.objs.size:=by
 cases o with
 |lst xs=>obtain⟨_,_,_,_,e⟩:=x;exact Heap.lt_size e
 |tup xs=>obtain⟨_,_,_,p⟩:=x;exact p.lt
 |dK kvs=>obtain⟨_,_,_,_,o,_,_,e,_⟩:=x;exact Heap.lt_size e
 |dT kvs=>obtain⟨_,_,_,_,o,_,_,e,_⟩:=x;exact Heap.lt_size e
 |set S n=>obtain⟨o,_,_,_,e,_⟩:=x;exact Heap.lt_size e
 |ins C dx fs=>obtain⟨_,_,_,e,_⟩:=x;exact Heap.lt_size e
 |own y=>obtain⟨_,e⟩:=x;exact Heap.lt_size e
 |xd fs=>obtain⟨_,⟨_,_,_,e,_⟩,_⟩:=x;exact Heap.lt_size e
 |rng lo hi=>obtain⟨_,_,_,e⟩:=x;exact Heap.lt_size e
 |frz ob u=>obtain⟨e,_⟩:=x;exact Heap.lt_size e
 |tbl ps=>obtain⟨_,_,_,_,e,_⟩:=x;exact Heap.lt_size e
 |met f y=>exact Heap.lt_size (show h.get? a=some _ from x)
 |ext φ=>obtain⟨_,⟨_,e⟩,_⟩:=x;exact Heap.lt_size e
theorem Paired.mapP {α β:Type}{F G:α->β->Prop}:∀{l₁:List α} {l₂:List β},Paired F l₁ l₂->(∀a b,F a b->G a b)->Paired G l₁ l₂
 |_,_,.nil,_=> .nil
 |_,_,.cons r t,f=> .cons (f _ _ r) (Paired.mapP t f)
theorem ObjOk.stay (x:ObjOk P w H h a o)(k:∀b u,(b=a\/H b=some (.own a))->h.get? b=some u->h'.get? b=some u)
  (ho:∀b,H b=some (.own a)->H' b=some (.own a)) (ht:∀b xs,H b=some (.tup xs)->H' b=some (.tup xs)) (hf:∀b o u,H b=some (.frz o u)->H' b=some (.frz o u)):ObjOk P w H' h' a o:=by
 induction o with
 |lst xs=>obtain⟨z,its,n,r,e⟩:=x;exact⟨z,its,n,r,k _ _ (.inl rfl) e⟩
 |tup xs=>obtain⟨z,its,r,ob,e,c⟩:=x;exact⟨z,its,r,ob,k _ _ (.inl rfl) e,c⟩
 |dK kvs=>obtain⟨z,y,vs,r,ob,es,ep,e,c⟩:=x;exact⟨z,y,vs,r,ob,es,ep,k _ _ (.inl rfl) e,c⟩
 |dT kvs=>
  obtain⟨z,y,xs,r,ob,es,ep,e,c⟩:=x
  exact⟨z,y,xs,Paired.mapP r fun p q z=>⟨z.1,ht _ _ z.2.1,z.2.2⟩,ob,es,ep,k _ _ (.inl rfl) e,c⟩
 |set S n=>obtain⟨ob,es,ep,t,e,c⟩:=x;exact⟨ob,es,ep,t,k _ _ (.inl rfl) e,c⟩
 |ins C dx fs=>
  obtain⟨d,z,ne,e,mA,⟨od,es,ep,e2,c⟩,r⟩:=x
  exact⟨ho _ d,z,ne,k _ _ (.inl rfl) e,mA,⟨od,es,ep,k _ _ (.inr d) e2,c⟩,r⟩
 |own y=>obtain⟨ob,e⟩:=x;exact⟨ob,k _ _ (.inl rfl) e⟩
 |xd fs=>obtain⟨mA,⟨od,es,ep,e,c⟩,r⟩:=x;exact⟨mA,⟨od,es,ep,k _ _ (.inl rfl) e,c⟩,r⟩
 |rng lo hi=>obtain⟨t,u,v,e⟩:=x;exact⟨t,u,v,k _ _ (.inl rfl) e⟩
 |frz ob u ih=>obtain⟨e,q⟩:=x;exact⟨k _ _ (.inl rfl) e,ih q⟩
 |tbl ps=>
  obtain⟨q,tk,qs,z,e,tr,al⟩:=x
  refine⟨q,tk,qs,z,k _ _ (.inl rfl) e,tr,fun pos cv f=>?_⟩
  obtain⟨c',oc,vs,t,e1,⟨u,e2⟩,e4,e5⟩:=al pos cv f
  exact⟨c',oc,vs,t,e1,⟨u,hf _ _ _ e2⟩,e4,e5⟩
 |met f y=>
  have e:h.get? a=some (W.methodObj (.ref f) (.ref y)):=x
  show h'.get? a=some (W.methodObj (.ref f) (.ref y))
  exact k a _ (.inl rfl) e
 |ext φ=>obtain⟨p,⟨o,e⟩,st⟩:=x;exact⟨st _ _ p fun o q=>k _ _ (.inl rfl) q,⟨o,k _ _ (.inl rfl) e⟩,st⟩
theorem HOk.lt (x:HOk P w H h)(e:H a=some o):a<h.objs.size:=(x a o e).lt
theorem HOk.fresh (x:HOk P w H h)(e:h.objs.size<=a):H a=none:=by
 cases q:H a with
 |none=>rfl
 |some u=>exact absurd (Nat.lt_of_lt_of_le (x.lt q) e) (Nat.lt_irrefl _)
theorem HOk.kept (x:HOk P w H h)(k:∀b u,h.get? b=some u->h'.get? b=some u):HOk P w H h':=fun a o e=>
 (x a o e).stay (fun b u _ q=>k b u q) (fun _ q=>q) (fun _ _ q=>q) fun _ _ _ q=>q
theorem HOk.laid (x:HOk P w H h)(k:∀b u,h.get? b=some u->h'.get? b=some u)(hp:h.objs.size<=a)(new:ObjOk P w (upd H a o) h' a o):HOk P w (upd H a o) h':=fun b u e=>by
 have hn:=x.fresh hp
 by_cases hb:b=a
 ·subst hb;rw[zas]at e;cases e;exact new
 ·rw[zap hb]at e
  exact(x b u e).stay (fun c v _ q=>k c v q) (fun c q=>by rw[zap (zax q hn)];exact q) (fun c xs q=>by rw[zap (zax q hn)];exact q) fun c _ _ q=>by rw[zap (zax q hn)];exact q
end
noncomputable def Rd (H:Hp)(a:Addr)(u:HO):Prop:=H a=some u\/∃o,H a=some (.frz o u)
theorem Rd.ok {P:Program}{u:HO}(r:Rd H a u)(x:HOk P w H h):ObjOk P w H h a u:=by
 rcases r with r|⟨o,r⟩
 ·exact x a u r
 ·obtain⟨_,q⟩:=x a _ r
  exact q
noncomputable def Mut:Option HO->Prop
 |some (.lst _)=>True
 |some (.dK _)=>True
 |some (.dT _)=>True
 |some (.set _ _)=>True
 |some (.ins _ _ _)=>True
 |some (.ext _)=>True
 |_=>False
section
variable {P:Program} {w:World} {H:Hp} {h h':Heap} {x e:Addr} {o':HO}
theorem HOk.write (ok:HOk P w H h)(mu:Mut (H x))(he:e=x\/H e=some (.own x))(k:∀b u,b≠e->h.get? b=some u->h'.get? b=some u)(heo:∃u,h'.get? e=some u)
  (new:ObjOk P w (upd H x o') h' x o'):HOk P w (upd H x o') h':=fun b u q=>by
 have nown:∀c y,H c=some (.own y)->c≠x:=fun c y r z=>by subst z;rw[r]at mu;exact mu
 have ntup:∀c xs,H c=some (.tup xs)->c≠x:=fun c xs r z=>by subst z;rw[r]at mu;exact mu
 by_cases hb:b=x
 ·subst hb;rw[zas]at q;cases q;exact new
 ·rw[zap hb]at q
  by_cases hbe:b=e
  ·have q':H b=some (.own x):=by
    rcases he with z|z
    ·exact absurd (hbe.trans z) hb
    ·rw[hbe];exact z
   rw[q]at q';cases q'
   obtain⟨v,hv⟩:=heo
   exact⟨v,by rw[hbe];exact hv⟩
  ·refine(ok b u q).stay (fun c v hc r=>k c v ?_ r) (fun c r=>by rw[zap (nown c b r)];exact r) (fun c xs r=>by rw[zap (ntup c xs r)];exact r) fun c _ _ r=>by rw[zap (fun z=>by subst z;rw[r]at mu;exact mu)];exact r
   rcases hc with rfl|hc
   ·exact hbe
   ·rintro rfl
    rcases he with z|z
    ·exact nown c b hc z
    ·rw[hc]at z;cases z;exact hb rfl
end
structure Un (fs ex:List Addr) (H H':Hp) (h h':Heap):Prop where
 keep:∀b o,h.get? b=some o->H b=none->b∉fs->b∉ex->h'.get? b=some o
 slot:∀b o,h.get? b=some o->H b=none->b∈fs->b∉ex->∃sl,h'.get? b=some {o with slots:=sl}
 free:∀b o,h.get? b=some o->H b=none->b∉ex->H' b=none
 there:∀b o,h.get? b=some o->b∉ex->∃o',h'.get? b=some o'
 tups:∀b xs,H b=some (.tup xs)->H' b=some (.tup xs)
 frzs:∀b o u,H b=some (.frz o u)->H' b=some (.frz o u)
 tbls:∀b ps,H b=some (.tbl ps)->H' b=some (.tbl ps)
section
variable {fs fs' ex ex':List Addr} {H H1 H2:Hp} {h h1 h2 h':Heap} {a x e:Addr} {o:HO}
theorem Un.any (u:Un fs ex H H1 h h1){ob:Obj}(q:h.get? b=some ob)(n:H b=none)(hx:b∉ex):∃sl,h1.get? b=some {ob with slots:=sl}:=by
 by_cases hb:b∈fs
 ·exact u.slot b ob q n hb hx
 ·exact⟨ob.slots,u.keep b ob q n hb hx⟩
theorem Un.kept (k:∀b u,h.get? b=some u->h'.get? b=some u):Un fs ex H H h h':=
 ⟨fun b ob q _ _ _=>k b ob q,fun b ob q _ _ _=>⟨ob.slots,k b ob q⟩,fun _ _ _ n _=>n,fun b ob q _=>⟨ob,k b ob q⟩,fun _ _ q=>q,fun _ _ _ q=>q,fun _ ps q=>q⟩
theorem Un.refl:Un fs ex H H h h:=Un.kept fun _ _ q=>q
theorem Un.laid (k:∀b u,h.get? b=some u->h'.get? b=some u)(hp:h.objs.size<=a)(hn:H a=none):Un fs ex H (upd H a o) h h' where
 keep:=fun b u q _ _ _=>k b u q
 slot:=fun b u q _ _ _=>⟨u.slots,k b u q⟩
 free:=fun b u q n _=>by rw[zap (Nat.ne_of_lt (Nat.lt_of_lt_of_le (Heap.lt_size q) hp))];exact n
 there:=fun b u q _=>⟨u,k b u q⟩
 tups:=fun b xs q=>by rw[zap (zax q hn)];exact q
 frzs:=fun b u xs q=>by rw[zap (zax q hn)];exact q
 tbls:=fun b ps q=>by rw[zap (zax q hn)];exact q
theorem Un.write (mu:Mut (H x))(he:e=x\/H e=some (.own x))(k:∀b u,b≠e->h.get? b=some u->h'.get? b=some u)(heo:∃u,h'.get? e=some u):Un fs ex H (upd H x o) h h':=by
 have hx:∀b,H b=none->b≠x:=fun b n z=>by subst z;rw[n]at mu;exact mu
 have hb:∀b,H b=none->b≠e:=fun b n z=>by
  subst z
  rcases he with r|r
  ·exact hx b n r
  ·rw[n]at r;cases r
 have hm:∀b u,H b=some u->¬Mut (some u)->b≠x:=fun b u q nm z=>by subst z;rw[q]at mu;exact nm mu
 refine⟨fun b u q n _ _=>k b u (hb b n) q,fun b u q n _ _=>⟨u.slots,k b u (hb b n) q⟩,fun b u q n _=>by rw[zap (hx b n)];exact n,fun b u q _=>?_,
  fun b xs q=>by rw[zap (hm b _ q fun z=>z)];exact q,fun b u xs q=>by rw[zap (hm b _ q fun z=>z)];exact q,fun b ps q=>by rw[zap (hm b _ q fun z=>z)];exact q⟩
 by_cases hbe:b=e
 ·subst hbe;exact heo
 ·exact⟨u,k b u hbe q⟩
end
noncomputable def trk (h:Heap)(H:Hp):List Addr:=(List.range h.objs.size).filter fun a=>(H a).isSome
noncomputable def hidT (h:Heap)(H:Hp):Heap:=W.hideAll h (trk h H)
theorem znw (h:Heap)(H:Hp):(hidT h H).objs.size=h.objs.size:=W.hideAll_size _ _
theorem zkg {o:Obj}(e:h.get? b=some o)(n:H b=none):(hidT h H).get? b=some o:=
 W.hideAll_get _ e fun hm=>by
  have q:(H b).isSome=true:=(List.mem_filter.mp hm).2
  rw[n]at q;simp at q
theorem of_hidT {o:Obj}(e:(hidT h H).get? b=some o):h.get? b=some o/\H b=none:=by
 have e':h.get? b=some o:=W.of_hideAll (trk h H) e
 refine⟨e',?_⟩
 cases q:H b with
 |none=>rfl
 |some x=>
  have hm:b∈trk h H:=List.mem_filter.mpr ⟨List.mem_range.mpr (Heap.lt_size e'),by simp[q]⟩
  have z:(hidT h H).get? b=none:=W.hideAll_none (trk h H) hm
  rw[z]at e;cases e
noncomputable def allNews (g h:Heap)(L:Addr):List (Addr×Obj):=(List.range h.objs.size).filterMap fun a=>if a=L\/(g.get? a).isSome=true then none else(h.get? a).map fun o=>(a,o)
noncomputable def rest (g h:Heap)(L d:Addr):List (Addr×Obj):=(allNews g h L).filter fun p=>decide (p.1≠d)
noncomputable def tabP (K:W.Frag)(mg:Str->Option Value)(P:Addr)(q:Str):Prop:=∃f o fd c oc vs,mg "cheapest_places"=some (.ref f)/\K.lookup f=some o/\o.data= .func fd/\fd.code= .ref c/\K.lookup c=some oc/\oc.data= .fields vs/\vs[11]? =some (.ref P)/\K.lookup P=none/\q=fd.qualname++".<locals>."++"<lambda>"
noncomputable def TabIn (K:W.Frag)(mg:Str->Option Value)(H:Hp):Prop:=∀P q,tabP K mg P q->∃tk,H P=some (.tbl #[.str q tk])
structure Mod (K:W.Frag) (mg:Str->Option Value) (base:Heap):Prop where
 kin:K.In base
 glob:base.Ns mainGlobals mg
 blt:∃mb,base.Ns builtinsNs mb/\∀x:Str,x≠"__name__"->mb x=bootBuiltins x
 nolimit:base.NoLimit
 bmain:∃bm ob,mg "__builtins__"=some (.ref bm)/\bm≠builtinsNs/\base.get? bm=some ob/\ob.cls= .type "module"/\ob.dict=some builtinsNs/\ob.data= .plain
structure Cx where
 prog:Program
 w:World
 K:W.Frag
 mg:Str->Option Value
 base:Heap
 A:Around
 N:List Str
 s₀:Shared
 H₀:Hp
 env:Env
 outer:List Env
 stack:List Env
 ex:List Addr
 fn:Str->Bool
 calm:Bool
 pn:List (Addr×Obj)
 xe:Value->Shared->Prop
noncomputable def frs (l:List Env):List Addr:=l.filterMap (·.frame)
noncomputable abbrev Cx.fs (X:Cx):List Addr:=frs X.outer
noncomputable def Vis (sc:Scope)(x:Str):Prop:=sc.names.lookup x=some .local\/sc.names.lookup x=some .cell\/sc.names.lookup x=some .free
noncomputable def Loc (sc:Scope)(x:Str):Prop:=sc.names.lookup x=some .local\/sc.names.lookup x=some .cell
noncomputable def Look (env:Env)(h:Heap)(m:Str->Option Value)(x:Str)(u:Value):Prop:=
 (env.kindOf x=some .local/\m x=some u)\/((env.kindOf x=some .cell\/env.kindOf x=some .free)/\∃c,env.cells.lookup x=some c/\h.IsCell c (some u))
structure Cx.Ok (X:Cx):Prop where
 mod:Mod X.K X.mg X.base
 kind:X.env.scope.kind= .function
 glob:X.env.globals=mainGlobals
 blt:X.env.builtins=builtinsNs
 above:X.s₀.heap.objs.size<=X.env.locals
 inj:∀x y c,X.env.cells.lookup x=some c->X.env.cells.lookup y=some c->x=y
 has:∀x,(X.env.kindOf x=some .cell\/X.env.kindOf x=some .free)->∃c,X.env.cells.lookup x=some c
 cab:∀x c,X.fn x=true->X.env.cells.lookup x=some c->X.s₀.heap.objs.size<=c
 hd:X.calm=true->X.A.handled=none
 frames:X.A.frames=some X.stack
 stk:X.stack=X.outer\/(X.stack=X.env::X.outer/\X.env.frame=some X.env.locals)
 exf:∀b∈X.ex,b≠X.env.locals/\∀x c,X.env.cells.lookup x=some c->c≠b
 bs:∀b o,X.base.get? b=some o->X.s₀.heap.get? b=some o/\X.H₀ b=none
 bsz:X.base.objs.size<=X.s₀.heap.objs.size
 noex:∀b o,X.base.get? b=some o->b∉X.ex
 exfs:∀b∈X.ex,b∉X.fs
 funs:X.s₀.heap.FunFrames X.base X.outer
 frf:(∀b∈X.fs,X.H₀ b=none)/\TabIn X.K X.mg X.H₀
structure Inv (X:Cx) (pins:List (Addr×Obj)) (σ:List (Option V)) (H:Hp) (s:Shared):Prop where
 ok:X.Ok
 os:s.os=X.s₀.os
 bare:AllBare s.gens
 base:Un X.fs X.ex X.H₀ H X.s₀.heap s.heap
 loc:∃m,s.heap.Ns X.env.locals m/\∀(i:Nat) (x:Str) (v:V),X.N[i]? =some x->σ[i]? =some (some v)->Vis X.env.scope x->∃u,RelV v u/\Look X.env s.heap m x u
 cell:∀x c,X.env.cells.lookup x=some c->∃v,s.heap.IsCell c v
 free:H X.env.locals=none
 freeC:∀x c,X.env.cells.lookup x=some c->H c=none
 pin:∀p∈X.pn++pins,s.heap.get? p.1=some p.2/\H p.1=none/\p.1≠X.env.locals/\p.1∉X.fs/\∀v,p.2.data≠ .cell v
 hok:HOk X.prog X.w H s.heap
 len:σ.length=X.N.length
section
variable {X:Cx} {pins:List (Addr×Obj)} {σ:List (Option V)} {H H':Hp} {s:Shared} {h':Heap}
theorem Cx.Ok.nofr (ok:X.Ok){o:Obj}(e:X.base.get? b=some o):b∉X.fs:=fun hb=>by
 have:=(ok.funs.mem hb).1
 rw[e]at this;cases this
theorem Inv.bs (I:Inv X pins σ H s):∀b o,X.base.get? b=some o->s.heap.get? b=some o/\H b=none:=fun b o e=>
 ⟨I.base.keep b o (I.ok.bs b o e).1 (I.ok.bs b o e).2 (I.ok.nofr e) (I.ok.noex b o e),I.base.free b o (I.ok.bs b o e).1 (I.ok.bs b o e).2 (I.ok.noex b o e)⟩
theorem Inv.bk (I:Inv X pins σ H s):∀b o,X.base.get? b=some o->s.heap.get? b=some o:=fun b o e=>(I.bs b o e).1
theorem Inv.mod (I:Inv X pins σ H s):Mod X.K X.mg X.base:=I.ok.mod
theorem Inv.kIn (I:Inv X pins σ H s):X.K.In s.heap:=I.ok.mod.kin.keeps I.bk
theorem Inv.nolimit (I:Inv X pins σ H s):s.heap.NoLimit:=I.ok.mod.nolimit.keeps I.bk
theorem Inv.lt (I:Inv X pins σ H s):X.env.locals<s.heap.objs.size:=let⟨_,hn,_⟩:=I.loc;hn.lt
theorem Inv.sz (I:Inv X pins σ H s):X.s₀.heap.objs.size<=s.heap.objs.size:=Nat.le_trans I.ok.above (Nat.le_of_lt I.lt)
theorem Inv.nofs (I:Inv X pins σ H s)(h:s.heap.objs.size<=a):a∉X.fs:=fun hb=>by
 obtain⟨_,o,ho,_⟩:=I.ok.funs.mem hb
 exact absurd (Nat.lt_of_lt_of_le (Heap.lt_size ho) (Nat.le_trans I.sz h)) (Nat.lt_irrefl _)
theorem Inv.cne (I:Inv X pins σ H s):∀x c,X.env.cells.lookup x=some c->c≠X.env.locals:=fun x c e z=>by
 obtain⟨v,o,ho,hd⟩:=I.cell x c e
 obtain⟨m,⟨o',es,ep,ho',hd',_⟩,_⟩:=I.loc
 rw[z,ho']at ho;cases ho;rw[hd']at hd;cases hd
theorem Inv.funs (I:Inv X pins σ H s):s.heap.FunFrames X.base X.outer:=by
 have all:∀(l:List Env),(∀b∈frs l,b∈X.fs)->X.s₀.heap.FunFrames X.base l->s.heap.FunFrames X.base l:=by
  intro l
  induction l with
  |nil=>intro _ _;trivial
  |cons env r ih=>
   intro hs hl
   obtain⟨hk,⟨L,o,hf,hn,ho,hd⟩,hr⟩:=hl
   have hL:L∈X.fs:=hs L (by unfold frs;rw[List.filterMap_cons,hf];exact List.mem_cons_self)
   obtain⟨sl,e⟩:=I.base.slot L o ho (I.ok.frf.1 L hL) hL fun z=>I.ok.exfs L z hL
   exact⟨hk,⟨L,_,hf,hn,e,hd⟩,ih (fun b hb=>hs b (by unfold frs;rw[List.filterMap_cons,hf];exact List.mem_cons_of_mem _ hb)) hr⟩
 exact all X.outer (fun _ hb=>hb) I.ok.funs
theorem Inv.tab (I:Inv X pins σ H s):TabIn X.K X.mg H:=fun P q h=>
 let⟨tk,e⟩:=I.ok.frf.2 P q h
 ⟨tk,I.base.tbls P _ e⟩
theorem Inv.stack (I:Inv X pins σ H s):s.heap.FunFrames X.base X.stack:=by
 rcases I.ok.stk with e|⟨e,hf⟩
 ·rw[e];exact I.funs
 ·rw[e]
  obtain⟨m,hn,_⟩:=I.loc
  refine .cons (by rw[I.ok.kind];decide) hf hn ?_ I.funs
  exact Heap.get?_none_of_le (Nat.le_trans I.ok.bsz I.ok.above)
theorem Inv.stkSub (I:Inv X pins σ H s):∀b∈frs X.stack,b∈X.env.locals::X.fs:=fun b hb=>by
 rcases I.ok.stk with e|⟨e,hf⟩
 ·rw[e]at hb;exact List.mem_cons_of_mem _ hb
 ·rw[e]at hb
  unfold frs at hb
  rw[List.filterMap_cons,hf]at hb
  exact hb
theorem Inv.stkFree (I:Inv X pins σ H s):∀b∈frs X.stack,H b=none:=fun b hb=>by
 rcases List.mem_cons.mp (I.stkSub b hb)with e|hb
 ·rw[e];exact I.free
 ·obtain⟨_,o,ho,_⟩:=I.ok.funs.mem hb
  exact I.base.free b o ho (I.ok.frf.1 b hb) fun z=>I.ok.exfs b z hb
theorem Inv.step (I:Inv X pins σ H s)
  (hch:∀b∈ch,(b∈X.ex\/X.s₀.heap.objs.size<=b)/\b≠X.env.locals/\(∀x c,X.env.cells.lookup x=some c->c≠b)/\∀p∈X.pn++pins,p.1≠b)
  (keep:∀b o,b≠X.env.locals->b∉X.fs->b∉ch->s.heap.get? b=some o->H b=none->h'.get? b=some o)
  (slot:∀b o,b≠X.env.locals->b∈X.fs->b∉ch->s.heap.get? b=some o->H b=none->∃sl,h'.get? b=some {o with slots:=sl}) (free:∀b o,b∉ch->s.heap.get? b=some o->H b=none->H' b=none)
  (there:∀b o,b∉ch->s.heap.get? b=some o->∃o',h'.get? b=some o')
  (tups:∀b xs,H b=some (.tup xs)->H' b=some (.tup xs)) (frzs:∀b o u,H b=some (.frz o u)->H' b=some (.frz o u)) (tbls:∀b ps,H b=some (.tbl ps)->H' b=some (.tbl ps))
  (ns:∀m,s.heap.Ns X.env.locals m->h'.Ns X.env.locals m) (hok:HOk X.prog X.w H' h') (hg:AllBare g'):
  Inv X pins σ H' {s with heap:=h',gens:=g',drawn:=d',toks:=t'}:=by
 have neL:∀b o,X.s₀.heap.get? b=some o->b≠X.env.locals:=fun b o e=>Nat.ne_of_lt (Nat.lt_of_lt_of_le (Heap.lt_size e) I.ok.above)
 have neC:∀b o,X.s₀.heap.get? b=some o->b∉X.ex->b∉ch:=fun b o e hx hb=>by
  rcases(hch b hb).1 with z|z
  ·exact hx z
  ·exact absurd (Nat.lt_of_lt_of_le (Heap.lt_size e) z) (Nat.lt_irrefl _)
 have cellK:∀x c,X.env.cells.lookup x=some c->∀v,s.heap.IsCell c v->h'.IsCell c v:=fun x c e v ⟨o,ho,hd⟩=>by
  have nch:c∉ch:=fun z=>(hch c z).2.2.1 x c e rfl
  by_cases hc:c∈X.fs
  ·obtain⟨sl,q⟩:=slot c o (I.cne x c e) hc nch ho (I.freeC x c e)
   exact⟨_,q,hd⟩
  ·exact⟨o,keep c o (I.cne x c e) hc nch ho (I.freeC x c e),hd⟩
 refine⟨I.ok,I.os,hg,⟨fun b o e n hb hx=>?_,fun b o e n hb hx=>?_,fun b o e n hx=>?_,fun b o e hx=>?_,fun b xs e=>tups b xs (I.base.tups b xs e),fun b o xs e=>frzs b o xs (I.base.frzs b o xs e),fun b ps e=>?_⟩,?_,fun x c e=>?_,?_,fun x c e=>?_,fun p hp=>?_,hok,I.len⟩
 ·exact keep b o (neL b o e) hb (neC b o e hx) (I.base.keep b o e n hb hx) (I.base.free b o e n hx)
 ·obtain⟨sl,e1⟩:=I.base.slot b o e n hb hx
  obtain⟨sl',e2⟩:=slot b _ (neL b o e) hb (neC b o e hx) e1 (I.base.free b o e n hx)
  exact⟨sl',e2⟩
 ·obtain⟨o',e1⟩:=I.base.there b o e hx
  exact free b o' (neC b o e hx) e1 (I.base.free b o e n hx)
 ·obtain⟨o',e1⟩:=I.base.there b o e hx
  exact there b o' (neC b o e hx) e1
 ·exact tbls b ps (I.base.tbls b ps e)
 ·obtain⟨m,hn,hl⟩:=I.loc
  refine⟨m,ns m hn,fun i x v e1 e2 e3=>?_⟩
  obtain⟨u,r,l⟩:=hl i x v e1 e2 e3
  refine⟨u,r,?_⟩
  rcases l with l|⟨k,c,e,z⟩
  ·exact .inl l
  ·exact .inr ⟨k,c,e,cellK x c e _ z⟩
 ·obtain⟨v,z⟩:=I.cell x c e
  exact⟨v,cellK x c e v z⟩
 ·obtain⟨m,⟨o,_,_,ho,_⟩,_⟩:=I.loc
  exact free _ o (fun z=>(hch _ z).2.1 rfl) ho I.free
 ·obtain⟨v,o,ho,hd⟩:=I.cell x c e
  exact free c o (fun z=>(hch c z).2.2.1 x c e rfl) ho (I.freeC x c e)
 ·obtain⟨e,n,ne,nf,d⟩:=I.pin p hp
  have nch:p.1∉ch:=fun z=>(hch p.1 z).2.2.2 p hp rfl
  exact⟨keep p.1 p.2 ne nf nch e n,free p.1 p.2 nch e n,ne,nf,d⟩
theorem Inv.un (I:Inv X pins σ H s)(u:Un X.fs [] H H' s.heap h')(hok:HOk X.prog X.w H' h'):Inv X pins σ H' {s with heap:=h',toks:=t'}:=by
  obtain⟨m,⟨o,es,ep,ho,r⟩,_⟩:=id I.loc
  obtain⟨sl,hL⟩:=u.any ho I.free (by simp)
  exact I.step (g':=s.gens) (d':=s.drawn) (ch:=[]) (fun _ z=>nomatch z) (fun b o _ hb _ e n=>u.keep b o e n hb (by simp)) (fun b o _ hb _ e n=>u.slot b o e n hb (by simp)) (fun b o _ e n=>u.free b o e n (by simp)) (fun b o _ e=>u.there b o e (by simp)) u.tups u.frzs u.tbls (fun m' hm=>by
    obtain⟨o',es',ep',ho',r'⟩:=hm
    rw[ho]at ho';cases ho'
    exact⟨_,es',ep',hL,r'⟩) hok I.bare
theorem Inv.call {ch:List Addr}(I:Inv X pins σ H s)(u:Un (frs X.stack) ch H H' s.heap h')(hok:HOk X.prog X.w H' h')(hg:AllBare g')
  (hch:∀b∈ch,(b∈X.ex\/X.s₀.heap.objs.size<=b)/\b≠X.env.locals/\(∀x c,X.env.cells.lookup x=some c->c≠b)/\∀p∈X.pn++pins,p.1≠b):
  Inv X pins σ H' {s with heap:=h',gens:=g',drawn:=d',toks:=t'}:=by
 obtain⟨m,⟨o,es,ep,ho,r⟩,_⟩:=id I.loc
 obtain⟨sl,hL⟩:=u.any ho I.free fun z=>(hch _ z).2.1 rfl
 exact I.step (ch:=ch) hch (fun b o hL hb hc e n=>u.keep b o e n (fun z=>(List.mem_cons.mp (I.stkSub b z)).elim hL hb) hc) (fun b o _ _ hc e n=>u.any e n hc) (fun b o hc e n=>u.free b o e n hc) (fun b o hc e=>u.there b o e hc) u.tups u.frzs u.tbls (fun m' hm=>by
  obtain⟨o',es',ep',ho',r'⟩:=hm
  rw[ho]at ho';cases ho'
  exact⟨_,es',ep',hL,r'⟩) hok hg
theorem Inv.turned (I:Inv X pins σ H s)(k:∀b o,b≠it->s.heap.get? b=some o->h'.get? b=some o)(hn:H it=none)(hL:it≠X.env.locals)
  (h1:it∈X.ex\/X.s₀.heap.objs.size<=it) (h2:∀x c,X.env.cells.lookup x=some c->c≠it) (h3:∀p∈X.pn++pins,p.1≠it):Inv X pins σ H {s with heap:=h',toks:=t'}:=by
 have nit:∀b u,H b=some u->b≠it:=fun b u e z=>by rw[z,hn]at e;cases e
 refine I.step (g':=s.gens) (d':=s.drawn) (ch:=[it]) (fun b hb=>?_) (fun b o _ _ hc e _=>k b o (fun z=>hc (by simp[z])) e) (fun b o _ _ hc e _=>⟨o.slots,k b o (fun z=>hc (by simp[z])) e⟩) (fun _ _ _ _ n=>n)
  (fun b o hc e=>⟨o,k b o (fun z=>hc (by simp[z])) e⟩) (fun _ _ e=>e) (fun _ _ _ e=>e) (fun b ps e=>e) (fun m hm=>?_) (fun b u e=>?_) I.bare
 ·have e:b=it:=by simpa using hb
  subst e
  exact⟨h1,hL,h2,h3⟩
 ·obtain⟨o,es,ep,ho,r⟩:=hm
  exact⟨o,es,ep,k _ o (Ne.symm hL) ho,r⟩
 ·refine(I.hok b u e).stay (fun c v hc q=>k c v ?_ q) (fun _ q=>q) (fun _ _ q=>q) fun _ _ _ q=>q
  rcases hc with z|z
  ·rw[z];exact nit b u e
  ·exact nit c _ z
theorem Inv.tok (I:Inv X pins σ H s)(t:Nat):Inv X pins σ H {s with toks:=t}:=I.un (h':=s.heap) (t':=t) Un.refl I.hok
theorem Inv.kept (I:Inv X pins σ H s)(k:∀b u,s.heap.get? b=some u->h'.get? b=some u):Inv X pins σ H {s with heap:=h',toks:=t'}:=I.un (Un.kept k) (I.hok.kept k)
theorem Inv.laid (I:Inv X pins σ H s)(k:∀b u,s.heap.get? b=some u->h'.get? b=some u)(hp:s.heap.objs.size<=a)(new:ObjOk X.prog X.w (upd H a o) h' a o):
  Inv X pins σ (upd H a o) {s with heap:=h',toks:=t'}:=I.un (Un.laid k hp (I.hok.fresh hp)) (I.hok.laid k hp new)
theorem Inv.write {x e:Addr}(I:Inv X pins σ H s)(mu:Mut (H x))(he:e=x\/H e=some (.own x))(k:∀b u,b≠e->s.heap.get? b=some u->h'.get? b=some u)(heo:∃u,h'.get? e=some u)
  (new:ObjOk X.prog X.w (upd H x o) h' x o):Inv X pins σ (upd H x o) {s with heap:=h',toks:=t'}:=I.un (Un.write mu he k heo) (I.hok.write mu he k heo new)
theorem Inv.pins_of (I:Inv X pins σ H s)(h:∀p∈pins',s.heap.get? p.1=some p.2/\H p.1=none/\p.1≠X.env.locals/\p.1∉X.fs/\∀v,p.2.data≠ .cell v):Inv X pins' σ H s:=
 ⟨I.ok,I.os,I.bare,I.base,I.loc,I.cell,I.free,I.freeC,fun p hp=>(List.mem_append.mp hp).elim (fun z=>I.pin p (List.mem_append_left _ z)) (h p),I.hok,I.len⟩
theorem zmn (hN:N.Nodup)(a:N[i]? =some x)(b:N[j]? =some x):i=j:=by
 obtain⟨h1,e1⟩:=List.getElem?_eq_some_iff.mp a
 obtain⟨h2,e2⟩:=List.getElem?_eq_some_iff.mp b
 exact(List.getElem_inj hN).mp (e1.trans e2.symm)
theorem zo4 {M:Model}(I:Inv X pins σ H s)(hN:X.N.Nodup)(hi:X.N[i]? =some x)(hx:Loc X.env.scope x)(r:RelV v u)
    (h:∀s',Inv X pins (σ.set i (some v)) H s'->(∃a,Heap.SameBut a s.heap s'.heap/\(a=X.env.locals\/X.env.cells.lookup x=some a))->Q () s') (hf:autoParam (X.fn x=true\/X.env.scope.names.lookup x=some .local) zu0._auto_1):wpAny M A (storeName X.env x u) Q E s:=by
  obtain⟨m,hn,hl⟩:=id I.loc
  have hcls:(X.env.scope.kind== .class||(X.env.scope.kind== .module&&X.env.locals !=X.env.globals))=false:=by rw[I.ok.kind];rfl
  have hiσ:i<σ.length:=by rw[I.len];exact(List.getElem?_eq_some_iff.mp hi).1
  have cne:=I.cne
  have tracked:∀{a:Addr} {h':Heap},(∃o,s.heap.get? a=some o/\H a=none)->Heap.SameBut a s.heap h'->HOk X.prog X.w H h':=fun{a h'} ha hs b ob e=>by
    obtain⟨_,_,hfree⟩:=ha
    refine(I.hok b ob e).stay (fun c w' hc q=>(hs.2 c ?_).trans q) (fun _ q=>q) (fun _ _ q=>q) fun _ _ _ q=>q
    rintro rfl
    rcases hc with rfl|hc
    . rw[hfree]at e;cases e
    . rw[hfree]at hc;cases hc
  rcases hx with hk|hk
  . refine wpAny_storeName_local hk hn (fun h' hn' hs=>?_) hcls
    obtain⟨oL,_,_,hoL,_⟩:=id hn
    refine h _ ⟨I.ok,I.os,I.bare,⟨fun b o e n hb hx=>?_,fun b o e n hb hx=>?_,I.base.free,fun b o e hx=>?_,I.base.tups,I.base.frzs,I.base.tbls⟩,⟨_,hn',fun j y v' e1 e2 e3=>?_⟩,fun y c e=>?_,I.free,I.freeC,fun p hp=>?_,tracked ⟨oL,hoL,I.free⟩ hs,by simpa using I.len⟩ ⟨_,hs,.inl rfl⟩
    . exact(hs.2 b (Nat.ne_of_lt (Nat.lt_of_lt_of_le (Heap.lt_size e) I.ok.above))).trans (I.base.keep b o e n hb hx)
    . obtain⟨sl,e1⟩:=I.base.slot b o e n hb hx
      exact⟨sl,(hs.2 b (Nat.ne_of_lt (Nat.lt_of_lt_of_le (Heap.lt_size e) I.ok.above))).trans e1⟩
    . obtain⟨o',e1⟩:=I.base.there b o e hx
      exact⟨o',(hs.2 b (Nat.ne_of_lt (Nat.lt_of_lt_of_le (Heap.lt_size e) I.ok.above))).trans e1⟩
    . by_cases hj:j=i
      . subst hj
        rw[hi]at e1;cases e1
        rw[List.getElem?_set_self hiσ]at e2
        cases e2
        exact⟨u,r,.inl ⟨hk,by simp⟩⟩
      . rw[List.getElem?_set_ne (Ne.symm hj)]at e2
        obtain⟨u',r',q⟩:=hl j y v' e1 e2 e3
        refine⟨u',r',?_⟩
        rcases q with⟨k,e⟩|⟨k,c,e,z⟩
        . refine .inl ⟨k,?_⟩
          have:y≠x:=fun e=>hj (zmn hN e1 (e ▸ hi))
          simp[this,e]
        . exact .inr ⟨k,c,e,z.sameBut hs (cne y c e)⟩
    . obtain⟨w',z⟩:=I.cell y c e
      exact⟨w',z.sameBut hs (cne y c e)⟩
    . obtain⟨e,n,ne,nf,d⟩:=I.pin p hp
      exact⟨(hs.2 p.1 ne).trans e,n,ne,nf,d⟩
  . have hfn:X.fn x=true:=by
      rcases hf with z|z
      . exact z
      . rw[z]at hk;cases hk
    obtain⟨c,hc⟩:=I.ok.has x (.inl hk)
    obtain⟨w',z⟩:=I.cell x c hc
    refine wpAny_storeName_cell I.ok.kind hk hc z (fun h' hc' hs=>?_)
    obtain⟨oc,hoc,hocd⟩:=id z
    refine h {s with heap:=h'} ⟨I.ok,I.os,I.bare,⟨fun b o e n hb hx=>?_,fun b o e n hb hx=>?_,I.base.free,fun b o e hx=>?_,I.base.tups,I.base.frzs,I.base.tbls⟩,⟨m,hn.sameBut hs (Ne.symm (cne x c hc)),fun j y v' e1 e2 e3=>?_⟩,fun y c' e=>?_,I.free,I.freeC,fun p hp=>?_,tracked ⟨oc,hoc,I.freeC x c hc⟩ hs,by simpa using I.len⟩ ⟨c,hs,.inr hc⟩
    . exact(hs.2 b (Nat.ne_of_lt (Nat.lt_of_lt_of_le (Heap.lt_size e) (I.ok.cab x c hfn hc)))).trans (I.base.keep b o e n hb hx)
    . obtain⟨sl,e1⟩:=I.base.slot b o e n hb hx
      exact⟨sl,(hs.2 b (Nat.ne_of_lt (Nat.lt_of_lt_of_le (Heap.lt_size e) (I.ok.cab x c hfn hc)))).trans e1⟩
    . obtain⟨o',e1⟩:=I.base.there b o e hx
      exact⟨o',(hs.2 b (Nat.ne_of_lt (Nat.lt_of_lt_of_le (Heap.lt_size e) (I.ok.cab x c hfn hc)))).trans e1⟩
    . by_cases hj:j=i
      . subst hj
        rw[hi]at e1;cases e1
        rw[List.getElem?_set_self hiσ]at e2
        cases e2
        exact⟨u,r,.inr ⟨.inl hk,c,hc,hc'⟩⟩
      . rw[List.getElem?_set_ne (Ne.symm hj)]at e2
        obtain⟨u',r',q⟩:=hl j y v' e1 e2 e3
        refine⟨u',r',?_⟩
        rcases q with q|⟨k,c',e,z'⟩
        . exact .inl q
        . refine .inr ⟨k,c',e,z'.sameBut hs ?_⟩
          rintro rfl
          exact hj (zmn hN e1 (I.ok.inj _ _ _ e hc ▸ hi))
    . by_cases hcc:c'=c
      . subst hcc;exact⟨_,hc'⟩
      . obtain⟨w2,z2⟩:=I.cell y c' e
        exact⟨w2,z2.sameBut hs hcc⟩
    . obtain⟨e,n,ne,nf,d⟩:=I.pin p hp
      refine⟨(hs.2 p.1 ?_).trans e,n,ne,nf,d⟩
      intro q
      rw[q,hoc]at e
      have q':oc=p.2:=Option.some.inj e
      exact d w' (by rw[<-q'];exact hocd)
theorem zke {M:Model}(I:Inv X pins σ H s)(hN:X.N.Nodup)(hi:X.N[i]? =some x)(hx:Loc X.env.scope x)(r:RelV v u)
  (h:∀s',Inv X pins (σ.set i (some v)) H s'->Q () s') (hf:autoParam (X.fn x=true\/X.env.scope.names.lookup x=some .local) zu0._auto_1):wpAny M A (storeName X.env x u) Q E s:=
 zo4 I hN hi hx r (fun s' I' _=>h s' I') hf
end
noncomputable abbrev XK:=Value->Option Addr->Hp->Prop
noncomputable abbrev St:=List (Option V)
noncomputable abbrev VK:=V->Hp->Prop
noncomputable abbrev TE:=St->Hp->VK->Prop
noncomputable abbrev TT:=St->Hp->(Bool->Hp->Prop)->Prop
noncomputable abbrev TA:=St->Hp->(List V->Hp->Prop)->Prop
structure Ends where
 nx:St->Hp->Prop
 rt:VK
 bk:St->Hp->Prop:=fun _ _=>False
 ct:St->Hp->Prop:=fun _ _=>False
noncomputable abbrev TS:=Ends->St->Hp->Prop
noncomputable def EP (X:Cx)(pins:List (Addr×Obj))(σ:St)(Q:VK)(u:Value)(s':Shared):Prop:=∃v H',Inv X pins σ H' s'/\RelV v u/\Q v H'
noncomputable def TP (X:Cx)(pins:List (Addr×Obj))(σ:St)(Q:Bool->Hp->Prop)(b:Bool)(s':Shared):Prop:=∃H',Inv X pins σ H' s'/\Q b H'
noncomputable def AP (X:Cx)(pins:List (Addr×Obj))(σ:St)(Q:List V->Hp->Prop)(us:List Value)(s':Shared):Prop:=∃vs H',Inv X pins σ H' s'/\Vals vs us/\Q vs H'
noncomputable def SP (X:Cx)(pins:List (Addr×Obj))(D:Ends)(f:Flow)(s':Shared):Prop:=
 match f with
 | .next=>∃σ' H',Inv X pins σ' H' s'/\D.nx σ' H'
 | .brk=>∃σ' H',Inv X pins σ' H' s'/\D.bk σ' H'
 | .cont=>∃σ' H',Inv X pins σ' H' s'/\D.ct σ' H'
 | .ret u=>∃v σ' H',Inv X pins σ' H' s'/\RelV v u/\D.rt v H'
noncomputable def PE (X:Cx)(e:Expr)(t:TE):Prop:=
 ∀(pins:List (Addr×Obj)) (s:Shared) (σ:St) (H:Hp) (Q:VK),Inv X pins σ H s->t σ H Q->wpAny (model X.prog X.w) X.A (eval e X.env) (EP X pins σ Q) X.xe s
noncomputable def PT (X:Cx)(e:Expr)(t:TT):Prop:=
 ∀(pins:List (Addr×Obj)) (s:Shared) (σ:St) (H:Hp) (Q:Bool->Hp->Prop),Inv X pins σ H s->t σ H Q->wpAny (model X.prog X.w) X.A (isTrue e X.env (eval e X.env)) (TP X pins σ Q) X.xe s
noncomputable def PW (X:Cx)(e:Expr)(t:TT):Prop:=
 ∀(whole:Sem Value) (pins:List (Addr×Obj)) (s:Shared) (σ:St) (H:Hp) (Q:Bool->Hp->Prop),Inv X pins σ H s->t σ H Q->wpAny (model X.prog X.w) X.A (isTrue e X.env whole) (TP X pins σ Q) X.xe s
theorem PW.pt {t:TT}(h:PW X e t):PT X e t:=h _
noncomputable def PA (X:Cx)(es:List Expr)(t:TA):Prop:=
 ∀(pos:Pos) (pins:List (Addr×Obj)) (s:Shared) (σ:St) (H:Hp) (Q:List V->Hp->Prop),Inv X pins σ H s->t σ H Q->wpAny (model X.prog X.w) X.A (spliced (backTo pos (starEach es X.env))) (AP X pins σ Q) X.xe s
noncomputable def PS (X:Cx)(st:Stmt)(t:TS):Prop:=
 ∀(pins:List (Addr×Obj)) (s:Shared) (σ:St) (H:Hp) (D:Ends),Inv X pins σ H s->t D σ H->wpAny (model X.prog X.w) X.A (exec st X.env) (SP X pins D) X.xe s
noncomputable def PSs (X:Cx)(st:List Stmt)(t:TS):Prop:=
 ∀(pins:List (Addr×Obj)) (s:Shared) (σ:St) (H:Hp) (D:Ends),Inv X pins σ H s->t D σ H->wpAny (model X.prog X.w) X.A (execs st X.env) (SP X pins D) X.xe s
theorem thn {α:Type}{t:Sem α}{Q Q':α->Shared->Prop}{M:Model}(h:wpAny M A t Q E s)(hQ:∀a s,Q a s->Q' a s):wpAny M A t Q' E s:=wpAny_mono h hQ fun _ _ x=>x
section
variable {X:Cx}
noncomputable def tVar (i:Nat):TE:=fun σ H Q=>∃v,σ[i]? =some (some v)/\Q v H
noncomputable def tC (v:V):TE:=fun _ H Q=>Q v H
theorem zcX (hN:X.N[i]? =some x)(hv:Vis X.env.scope x)(hd:autoParam ((x==("__debug__":Str))=false) zu1._auto_1)(hcd:autoParam ((x==("__classdict__":Str))=false) zu1._auto_1):PE X (.Name x pos) (tVar i):=by
 intro pins s σ H Q I h
 obtain⟨v,e,h⟩:=h
 obtain⟨m,hn,hl⟩:=I.loc
 obtain⟨u,r,l⟩:=hl i x v hN e hv
 have fin:EP X pins σ Q u s:=⟨v,H,I,r,h⟩
 rcases l with⟨hk,hm⟩|⟨hk,c,hc,hcell⟩
 ·exact wpAny_Name (wpAny_loadName_local I.ok.kind hk hn hm fin) hd
 ·rcases hk with hk|hk
  ·exact wpAny_Name (wpAny_loadName_cell I.ok.kind hk hc hcell fin) hd
  ·exact wpAny_Name (wpAny_loadName_free I.ok.kind hk hc hcell fin hcd) hd
theorem zkW {i j pos}:PE X (.Constant (.int i) j pos) (tC (.int i)):=fun _ _ _ H _ I h=>wpAny_Constant_int ⟨.int i,H,I.tok _,⟨_,rfl⟩,h⟩
theorem pe_bl {b j pos}:PE X (.Constant (.bool b) j pos) (tC (.bl b)):=fun _ _ _ H _ I h=>Constant_bool ⟨.bl b,H,I,rfl,h⟩
theorem pe_non {j pos}:PE X (.Constant .none j pos) (tC .non):=fun _ _ _ H _ I h=>Constant_none ⟨.non,H,I,rfl,h⟩
theorem pe_str {x j pos}:PE X (.Constant (.str x) j pos) (tC (.str x)):=fun _ _ _ H _ I h=>Calls.Constant_str ⟨.str x,H,I.tok _,⟨_,rfl⟩,h⟩
noncomputable def Gl (X:Cx)(x:Str):Prop:=X.env.kindOf x=some .globalImplicit
theorem ld_glob {Q:Value->Shared->Prop}(I:Inv X pins σ H s)(hg:Gl X x)(hm:X.mg x=some u)(h:Q u s)
  (hd:autoParam ((x==("__debug__":Str))=false) zu1._auto_1):wpAny (model X.prog X.w) X.A (eval (.Name x pos) X.env) Q E s:=
 Calls.Name_function_global I.ok.kind hg (Calls.loadGlobal_global (by rw[I.ok.glob];exact I.mod.glob.keeps I.bk) hm h) hd
theorem zgK {Q:Value->Shared->Prop}(I:Inv X pins σ H s)(hg:Gl X x)(hm:X.mg x=none)(hv:bootBuiltins x=some u)(h:Q u s)
  (hn:autoParam (x≠"__name__") zu1._auto_1) (hd:autoParam ((x==("__debug__":Str))=false) zu1._auto_1):wpAny (model X.prog X.w) X.A (eval (.Name x pos) X.env) Q E s:=by
 obtain⟨mb,h1,h2⟩:=I.mod.blt
 exact Calls.Name_function_global I.ok.kind hg (Calls.loadGlobal_builtin (by rw[I.ok.glob];exact I.mod.glob.keeps I.bk) hm (by rw[I.ok.blt];exact h1.keeps I.bk) ((h2 x hn).trans hv) h) hd
theorem pe_bltn (hg:Gl X x)(hm:X.mg x=none)(hv:bootBuiltins x=some u)(r:RelV v u)(hn:autoParam (x≠"__name__") zu1._auto_1)(hd:autoParam ((x==("__debug__":Str))=false) zu1._auto_1):PE X (.Name x pos) (tC v):=
 fun _ _ _ H _ I h=>zgK I hg hm hv ⟨v,H,I,r,h⟩ hn hd
variable {a b:Expr} {ta tb:TE} {pos:Pos}
variable {tA tB':TT} {rest:List Expr}
noncomputable def tOr (t u:TT):TT:=fun σ H Q=>t σ H fun c H1=>if c=true then Q true H1 else u σ H1 Q
noncomputable def tNot (t:TT):TT:=fun σ H Q=>t σ H fun c H1=>Q (!c) H1
theorem pw_or1 (ha:PT X a tA):PW X (.BoolOp .Or [a] pos) tA:=by
 intro wh pins s σ H Q I h
 refine isTrue_or (thn (ha pins s σ H Q I h) fun c s1 e=>?_)
 cases c with
 |false=>exact isTrue_or_nil e
 |true=>exact e
theorem pw_or (ha:PT X a tA)(hb:PW X (.BoolOp .Or (b::rest) pos) tB'):PW X (.BoolOp .Or (a::b::rest) pos) (tOr tA tB'):=by
 intro wh pins s σ H Q I h
 refine isTrue_or (thn (ha pins s σ H _ I h) fun c s1 ⟨H1,I1,q1⟩=>?_)
 cases c with
 |true=>exact⟨H1,I1,q1⟩
 |false=>exact hb wh pins s1 σ H1 Q I1 q1
theorem pt_not (ha:PT X a tA):PT X (.UnaryOp .Not a pos) (tNot tA):=by
 intro pins s σ H Q I h
 exact isTrue_not (ha pins s σ H (fun c H1=>Q (!c) H1) I h)
noncomputable def tAndV (ta tb:TE):TE:=fun σ H Q=>ta σ H fun x H1=>∃c,x= .bl c/\if c=true then tb σ H1 Q else Q (.bl false) H1
noncomputable def tOrV (ta tb:TE):TE:=fun σ H Q=>ta σ H fun x H1=>∃c,x= .bl c/\if c=true then Q (.bl true) H1 else tb σ H1 Q
noncomputable def tNotV (ta:TE):TE:=fun σ H Q=>ta σ H fun x H1=>∃c,x= .bl c/\Q (.bl (!c)) H1
theorem pe_one {op}{t:TE}(h:PE X a t):PE X (.BoolOp op [a] pos) t:=fun pins s σ H Q I hw=>BoolOp_one (h pins s σ H Q I hw)
theorem pe_and (ha:PE X a ta)(hb:PE X (.BoolOp .And (b::rest) pos) tb):PE X (.BoolOp .And (a::b::rest) pos) (tAndV ta tb):=by
 intro pins s σ H Q I h
 refine BoolOp_and (thn (ha pins s σ H _ I h) fun v s1 ⟨x,H1,I1,r1,q1⟩=>?_)
 obtain⟨c,rfl,q1⟩:=q1
 cases r1
 refine wpAny_truthy_bool ?_
 cases c with
 |true=>exact hb pins s1 σ H1 Q I1 q1
 |false=>exact⟨.bl false,H1,I1,rfl,q1⟩
theorem pe_or (ha:PE X a ta)(hb:PE X (.BoolOp .Or (b::rest) pos) tb):PE X (.BoolOp .Or (a::b::rest) pos) (tOrV ta tb):=by
 intro pins s σ H Q I h
 refine BoolOp_or (thn (ha pins s σ H _ I h) fun v s1 ⟨x,H1,I1,r1,q1⟩=>?_)
 obtain⟨c,rfl,q1⟩:=q1
 cases r1
 refine wpAny_truthy_bool ?_
 cases c with
 |false=>exact hb pins s1 σ H1 Q I1 q1
 |true=>exact⟨.bl true,H1,I1,rfl,q1⟩
theorem pe_not (ha:PE X a ta):PE X (.UnaryOp .Not a pos) (tNotV ta):=by
 intro pins s σ H Q I h
 refine UnaryOp_ (thn (ha pins s σ H _ I h) fun v s1 ⟨x,H1,I1,r1,q1⟩=>?_)
 obtain⟨c,rfl,q1⟩:=q1
 cases r1
 exact not_of (wpAny_truthy_bool ⟨.bl (!c),H1,I1,rfl,q1⟩)
end
noncomputable def SqL (K:W.Frag)(H:Hp)(a:Addr)(xs:List V):Prop:=
 Rd H a (.lst xs)\/
  ∃(o:Obj) (its:Array Value) (n:Nat),K.lookup a=some o/\o.cls= .type "list"/\o.dict=none/\o.data= .seq its n/\its.size<=sizeLine/\Vals xs its.toList
noncomputable def SqT (K:W.Frag)(H:Hp)(a:Addr)(xs:List V):Prop:=
 Rd H a (.tup xs)\/
  ∃(o:Obj) (its:Array Value) (n:Nat),K.lookup a=some o/\o.cls= .type "tuple"/\o.data= .seq its n/\its.size<=sizeLine/\Vals xs its.toList
noncomputable def absV:Value->Option V
 | .none=>some .non
 | .bool b=>some (.bl b)
 | .int i _=>some (.int i)
 | .str x _=>some (.str x)
 | .bytes b _=>some (.byt b)
 | .float b _=>some (.flt b)
 | .ref a=>some (.ref a)
 | .type n=>some (.ty n)
 |_=>none
theorem RelV.abs {x:V}(r:RelV x u):absV u=some x:=by
 cases x with
 |non=>cases r;rfl
 |bl _=>cases r;rfl
 |int _=>obtain⟨t,rfl⟩:=r;rfl
 |str _=>obtain⟨t,rfl⟩:=r;rfl
 |byt _=>obtain⟨t,rfl⟩:=r;rfl
 |flt _=>obtain⟨t,rfl⟩:=r;rfl
 |ref _=>cases r;rfl
 |ty _=>cases r;rfl
theorem RelV.inj {x y:V}(r:RelV x u)(q:RelV y u):x=y:=Option.some.inj (r.abs.symm.trans q.abs)
theorem Vals.inj:∀{xs ys:List V} {us:List Value},Vals xs us->Vals ys us->xs=ys
 |_,_,_,.nil,.nil=>rfl
 |_,_,_,.cons r t,.cons r' t'=>by rw[r.inj r',Vals.inj t t']
section
variable {X:Cx} {pins:List (Addr×Obj)} {σ:St} {H:Hp} {s:Shared} {a:Addr} {xs ys:List V}
theorem SqL.of (h:H a=some (.lst xs)):SqL K H a xs:= .inl (.inl h)
theorem SqT.of (h:H a=some (.tup xs)):SqT K H a xs:= .inl (.inl h)
theorem Inv.list (I:Inv X pins σ H s)(h:SqL X.K H a xs):∃its:List Value,Vals xs its/\PlainL s.heap a its.toArray/\xs.length<=sizeLine:=by
 rcases h with h|⟨o,its,n,hk,hc,hd,hs,hz,r⟩
 ·obtain⟨z,its,n,r,e⟩:=h.ok I.hok
  exact⟨its,r,⟨_,n,e,rfl,rfl,rfl⟩,z⟩
 ·refine⟨its.toList,r,⟨o,n,I.kIn a o hk,hc,hd,by simpa using hs⟩,?_⟩
  have e:=r.length
  simp only[Array.length_toList]at e
  lia
theorem Inv.tuple (I:Inv X pins σ H s)(h:SqT X.K H a xs):∃its:List Value,Vals xs its/\IsTup s.heap a its.toArray/\xs.length<=sizeLine:=by
 rcases h with h|⟨o,its,n,hk,hc,hs,hz,r⟩
 ·obtain⟨z,its,r,p⟩:=h.ok I.hok
  exact⟨its,r,p.is,z⟩
 ·refine⟨its.toList,r,⟨o,I.kIn a o hk,hc,n,by simpa using hs⟩,?_⟩
  have e:=r.length
  simp only[Array.length_toList]at e
  lia
theorem Inv.list_inj (I:Inv X pins σ H s)(h:SqL X.K H a xs)(h':SqL X.K H a ys):xs=ys:=by
 obtain⟨its,r,⟨o,n,e,_,_,d⟩,_⟩:=I.list h
 obtain⟨its',r',⟨o',n',e',_,_,d'⟩,_⟩:=I.list h'
 rw[e]at e';cases e'
 rw[d]at d'
 injection d' with d1 _
 have:its=its':=by simpa using congrArg Array.toList d1
 subst this
 exact r.inj r'
theorem Inv.tuple_inj (I:Inv X pins σ H s)(h:SqT X.K H a xs)(h':SqT X.K H a ys):xs=ys:=by
 obtain⟨its,r,⟨o,e,_,n,d⟩,_⟩:=I.tuple h
 obtain⟨its',r',⟨o',e',_,n',d'⟩,_⟩:=I.tuple h'
 rw[e]at e';cases e'
 rw[d]at d'
 injection d' with d1 _
 have:its=its':=by simpa using congrArg Array.toList d1
 subst this
 exact r.inj r'
end
noncomputable abbrev Cx.wish (X:Cx)(E:Value->Shared->Prop):Cx:={X with xe:=E}
noncomputable abbrev Cx.nox (X:Cx):Cx:=X.wish fun _ _=>False
theorem Cx.Ok.wish (ok:X.Ok)(E:Value->Shared->Prop):(X.wish E).Ok:=
 ⟨ok.mod,ok.kind,ok.glob,ok.blt,ok.above,ok.inj,ok.has,ok.cab,ok.hd,ok.frames,ok.stk,ok.exf,ok.bs,ok.bsz,ok.noex,ok.exfs,ok.funs,ok.frf⟩
theorem Cx.Ok.unwish (ok:(X.wish E).Ok):X.Ok:=
 ⟨ok.mod,ok.kind,ok.glob,ok.blt,ok.above,ok.inj,ok.has,ok.cab,ok.hd,ok.frames,ok.stk,ok.exf,ok.bs,ok.bsz,ok.noex,ok.exfs,ok.funs,ok.frf⟩
section
variable {X:Cx} {pins:List (Addr×Obj)} {σ:St} {H:Hp} {s:Shared} {E:Value->Shared->Prop}
theorem Inv.wish (I:Inv X pins σ H s)(E:Value->Shared->Prop):Inv (X.wish E) pins σ H s:=⟨I.ok.wish E,I.os,I.bare,I.base,I.loc,I.cell,I.free,I.freeC,I.pin,I.hok,I.len⟩
theorem Inv.unwish (I:Inv (X.wish E) pins σ H s):Inv X pins σ H s:=⟨I.ok.unwish,I.os,I.bare,I.base,I.loc,I.cell,I.free,I.freeC,I.pin,I.hok,I.len⟩
theorem SP.unwish {D:Ends}{f:Flow}(h:SP (X.wish E) pins D f s'):SP X pins D f s':=by
 cases f with
 |next=>obtain⟨σ',H',I,q⟩:=h;exact⟨σ',H',I.unwish,q⟩
 |brk=>obtain⟨σ',H',I,q⟩:=h;exact⟨σ',H',I.unwish,q⟩
 |cont=>obtain⟨σ',H',I,q⟩:=h;exact⟨σ',H',I.unwish,q⟩
 |ret u=>obtain⟨v,σ',H',I,r,q⟩:=h;exact⟨v,σ',H',I.unwish,r,q⟩
theorem PSs.nox {st:List Stmt}{t:TS}(h:PSs X.nox st t):PSs X st t:=fun pins s σ H D I hw=>
 wpAny_mono (h pins s σ H D (I.wish _) hw) (fun _ _ q=>q.unwish) fun _ _ z=>False.elim z
end
section
variable {X:Cx} {st:Stmt} {rest:List Stmt} {t u:TS} {e:Expr} {te:TE} {pos:Pos}
noncomputable def tNext:TS:=fun D σ H=>D.nx σ H
noncomputable def tSeq (t u:TS):TS:=fun D σ H=>t {D with nx:=u D} σ H
theorem pss_nil:PSs X [] tNext:=fun _ _ σ H _ I h=>wpAny_execs_nil ⟨σ,H,I,h⟩
theorem pss_cons (h1:PS X st t)(h2:PSs X rest u):PSs X (st::rest) (tSeq t u):=by
 intro pins s σ H D I h
 refine wpAny_execs_cons (thn (h1 pins s σ H {D with nx:=u D} I h) fun f s1 q=>?_)
 cases f with
 |next=>
  obtain⟨σ',H',I',q⟩:=q
  exact h2 pins s1 σ' H' D I' q
 |ret v=>exact q
 |brk=>exact q
 |cont=>exact q
theorem pss_one (h1:PS X st t):PSs X [st] t:=by
 intro pins s σ H D I h
 refine wpAny_execs_cons (thn (h1 pins s σ H D I h) fun f s1 q=>?_)
 cases f with
 |next=>exact wpAny_execs_nil q
 |ret v=>exact q
 |brk=>exact q
 |cont=>exact q
theorem Inv.quiet (I:Inv X pins σ H s):interactive X.env=false:=by simp[interactive,I.ok.kind]
noncomputable def tDrop (te:TE):TS:=fun D σ H=>te σ H fun _ H1=>D.nx σ H1
theorem zlM (he:PE X e te)(hs:autoParam (swapsWith e none pos.line X.env=pure false) zu2._auto_1):PS X (.Expr e pos) (tDrop te):=by
 intro pins s σ H D I h
 exact wpAny_Expr_any (thn (he pins s σ H _ I h) fun v s1 ⟨x,H1,I1,r1,q1⟩=>⟨σ,H1,I1,q1⟩) I.quiet hs
noncomputable def tRet (te:TE):TS:=fun D σ H=>te σ H D.rt
theorem zmS (he:PE X e te):PS X (.Return (some e) pos) (tRet te):=by
 intro pins s σ H D I h
 exact wpAny_Return_some (thn (he pins s σ H _ I h) fun v s1 ⟨x,H1,I1,r1,q1⟩=>⟨x,σ,H1,I1,r1,q1⟩)
noncomputable def tIfS (c:TT)(t u:TS):TS:=fun D σ H=>c σ H fun b H1=>if b=true then t D σ H1 else u D σ H1
theorem ps_if {a b:List Stmt}{tc:TT}(hc:PT X c tc)(ha:PSs X a t)(hb:PSs X b u):PS X (.If c a b pos) (tIfS tc t u):=by
 intro pins s σ H D I h
 refine wpAny_If (thn (hc pins s σ H _ I h) fun d s1 ⟨H1,I1,q1⟩=>?_)
 cases d with
 |true=>exact ha pins s1 σ H1 D I1 q1
 |false=>exact hb pins s1 σ H1 D I1 q1
noncomputable def tNever:TS:=fun _ _ _=>False
theorem ps_never:PS X st tNever:=fun _ _ _ _ _ _ h=>h.elim
end
noncomputable abbrev TG:=V->St->Hp->(St->Hp->Prop)->Prop
noncomputable abbrev TGs:=List V->St->Hp->(St->Hp->Prop)->Prop
noncomputable def PG (X:Cx)(target:Expr)(t:TG):Prop:=
 ∀(pins:List (Addr×Obj)) (s:Shared) (σ:St) (H:Hp) (v:V) (u:Value) (Q:St->Hp->Prop),Inv X pins σ H s->RelV v u->t v σ H Q->
  wpAny (model X.prog X.w) X.A (assign target X.env u) (fun _ s'=>∃σ' H',Inv X pins σ' H' s'/\Q σ' H') X.xe s
noncomputable def PGs (X:Cx)(ts:List Expr)(t:TGs):Prop:=
 ∀(pins:List (Addr×Obj)) (s:Shared) (σ:St) (H:Hp) (vs:List V) (us:List Value) (Q:St->Hp->Prop),Inv X pins σ H s->Vals vs us->t vs σ H Q->
  wpAny (model X.prog X.w) X.A (assignInOrder ((assignEach ts X.env).map (·.2)) us) (fun _ s'=>∃σ' H',Inv X pins σ' H' s'/\Q σ' H') X.xe s
noncomputable abbrev TSet:=V->V->V->Hp->(Hp->Prop)->Prop
noncomputable def PSet (X:Cx)(t:TSet):Prop:=
 ∀(pins:List (Addr×Obj)) (s:Shared) (σ:St) (H:Hp) (o i v:V) (ov iv u:Value) (Q:Hp->Prop),Inv X pins σ H s->RelV o ov->RelV i iv->RelV v u->t o i v H Q->
  wpAny (model X.prog X.w) X.A (setItem ov iv u) (fun _ s'=>∃H',Inv X pins σ H' s'/\Q H') X.xe s
noncomputable abbrev TIp:=V->V->Hp->VK->Prop
noncomputable def PIp (X:Cx)(op:Operator)(t:TIp):Prop:=
 ∀(pins:List (Addr×Obj)) (s:Shared) (σ:St) (H:Hp) (x y:V) (v u:Value) (Q:VK),Inv X pins σ H s->RelV x v->RelV y u->t x y H Q->
  wpAny (model X.prog X.w) X.A (inplaceOp op v u) (EP X pins σ Q) X.xe s
section
variable {X:Cx} {pos:Pos}
noncomputable def gName (i:Nat):TG:=fun v σ H Q=>Q (σ.set i (some v)) H
theorem znV (hN:X.N.Nodup)(hi:X.N[i]? =some x)(hx:Loc X.env.scope x)(hf:autoParam (X.fn x=true\/X.env.scope.names.lookup x=some .local) zu0._auto_1):PG X (.Name x pos) (gName i):=by
  intro pins s σ H v u Q I r h
  exact wpAny_assign_Name (zke I hN hi hx r (fun s' I'=>⟨_,H,I',h⟩) hf)
noncomputable def gNil:TGs:=fun vs σ H Q=>vs=[]/\Q σ H
noncomputable def gCons (t:TG)(u:TGs):TGs:=fun vs σ H Q=>∃v r,vs=v::r/\t v σ H fun σ' H'=>u r σ' H' Q
theorem pgs_nil:PGs X [] gNil:=by
 intro pins s σ H vs us Q I r h
 obtain⟨e,h⟩:=h
 subst e
 cases r
 exact assignInOrder_nil ⟨σ,H,I,h⟩
theorem pgs_cons {t:TG}{u:TGs}(h1:PG X e t)(h2:PGs X es u)
  (hs:autoParam ((assignEach (e::es) X.env).map (·.2)=assign e X.env::(assignEach es X.env).map (·.2)) zu2._auto_1):PGs X (e::es) (gCons t u):=by
 intro pins s σ H vs us Q I r h
 obtain⟨v,vr,e1,h⟩:=h
 subst e1
 cases r with
 |cons r rr=>
  rw[hs]
  refine assignInOrder_cons (thn (h1 pins s σ H _ _ _ I r h) fun _ s1 ⟨σ1,H1,I1,q1⟩=>?_)
  exact h2 pins s1 σ1 H1 _ _ Q I1 rr q1
noncomputable def gTup (K:W.Frag)(n:Nat)(t:TGs):TG:=fun v σ H Q=>∃a xs,v= .ref a/\SqT K H a xs/\xs.length=n/\t xs σ H Q
theorem pg_tup {t:TGs}(hc:X.calm=true)(h:PGs X es t)
  (hn:autoParam ((assignEach es X.env).length=n) zu2._auto_1) (hst:autoParam ((assignEach es X.env).findIdx? (·.1)=none) zu2._auto_1):PG X (.Tuple es k pos) (gTup X.K n t):=by
 intro pins s σ H v u Q I r hw
 obtain⟨a,xs,e1,hq,hl,hw⟩:=hw
 subst e1
 cases r
 obtain⟨its,rv,ht,hz⟩:=I.tuple hq
 refine assign_Tuple_tuple (I.ok.hd hc) ht (by simp[hn,<-hl,rv.length]) hst fun h' hx=>?_
 have I1:Inv X pins σ H {s with heap:=h'}:=I.kept (t':=s.toks) fun b o e=>hx b o (Nat.ne_of_lt (Heap.lt_size e)) e
 exact h pins _ σ H xs _ Q I1 (by simpa using rv) hw
noncomputable def gSub (to ti:TE)(t:TSet):TG:=fun v σ H Q=>to σ H fun o H1=>ti σ H1 fun i H2=>t o i v H2 fun H3=>Q σ H3
theorem pg_sub {o i:Expr}{to ti:TE}(ho:PE X o to)(hi:PE X i ti)(hs:PSet X t)
    (ha :autoParam (∀ v, assign (.Subscript o i pos) X.env v = (do
      let ov<-holding [v] (eval o X.env)
      let iv<-holding [v,ov] (eval i X.env)
      standAt pos
      holding [v,ov,iv] (setItem ov iv v)
      release [v,ov,iv] [])) zu3._auto_1):PG X (.Subscript o i pos) (gSub to ti t):=by
  intro pins s σ H v u Q I r h
  rw[ha]
  refine wpAny_bind (wpAny_holding (thn (ho pins s σ H _ I h) fun ov s1 ⟨x,H1,I1,r1,q1⟩=>?_))
  refine wpAny_bind (wpAny_holding (thn (hi pins s1 σ H1 _ I1 q1) fun iv s2 ⟨y,H2,I2,r2,q2⟩=>?_))
  refine wpAny_bind (wpAny_standAt (wpAny_bind (wpAny_holding (thn (hs pins s2 σ H2 x y v ov iv u _ I2 r1 r2 r q2) fun _ s3 ⟨H3,I3,q3⟩=>?_))))
  exact wpAny_release ⟨σ,H3,I3,q3⟩
noncomputable def tAsg (te:TE)(g:TG):TS:=fun D σ H=>te σ H fun x H1=>g x σ H1 D.nx
theorem ps_asg {g:TG}(he:PE X e te)(hg:PG X tg g)(hs:autoParam (swapsWithSole [tg] e pos.line X.env=pure false) zu2._auto_1)(hw:autoParam (swappedStores [tg] e X.env=pure none) zu2._auto_1)
  (h1:autoParam ((assignEach [tg] X.env).map (·.2)=[assign tg X.env]) zu2._auto_1):PS X (.Assign [tg] e pos) (tAsg te g):=by
 intro pins s σ H D I h
 refine wpAny_Assign_stores (thn (he pins s σ H _ I h) fun v s1 ⟨x,H1,I1,r1,q1⟩=>?_) hs hw
 rw[h1]
 exact thn (hg pins s1 σ H1 x v _ I1 r1 q1) fun _ s2 q=>q
theorem zpo (hN:X.N.Nodup)(hi:X.N[i]? =some x)(hx:Loc X.env.scope x)(he:PE X e te)(hs:autoParam (swapsWith e (some (.Name x pos')) pos.line X.env=pure false) zu2._auto_1)(hf:autoParam (X.fn x=true\/X.env.scope.names.lookup x=some .local) zu0._auto_1):
  PS X (.Assign [.Name x pos'] e pos) (tAsg te (gName i)):=by
 intro pins s σ H D I h
 refine wpAny_Assign_Name (thn (he pins s σ H _ I h) fun v s1 ⟨y,H1,I1,r1,q1⟩=>?_) hs
 exact zke I1 hN hi hx r1 (fun s2 I2=>⟨_,H1,I2,q1⟩) hf
noncomputable def tAug (i:Nat)(te:TE)(ti:TIp):TS:=fun D σ H=>∃x,σ[i]? =some (some x)/\te σ H fun y H1=>ti x y H1 fun z H2=>D.nx (σ.set i (some z)) H2
theorem ps_aug {op:Operator}{ti:TIp}(hN:X.N.Nodup)(hi:X.N[i]? =some x)(hx:Loc X.env.scope x)(he:PE X e te)(ho:PIp X op ti)(hf:autoParam (X.fn x=true\/X.env.scope.names.lookup x=some .local) zu0._auto_1):
  PS X (.AugAssign (.Name x pos') op e pos) (tAug i te ti):=by
 intro pins s σ H D I h
 obtain⟨v,e1,h⟩:=h
 obtain⟨m,hn,hl⟩:=I.loc
 have vis:Vis X.env.scope x:=by rcases hx with k|k;exact .inl k;exact .inr (.inl k)
 obtain⟨u,r,l⟩:=hl i x v hi e1 vis
 refine wpAny_AugAssign_Name ?_
 have go:wpAny (model X.prog X.w) X.A (eval e X.env) (fun w s₂=>wpAny (model X.prog X.w) X.A (inplaceOp op u w) (fun r s₃=>wpAny (model X.prog X.w) X.A (storeName X.env x r) (fun _=>SP X pins D .next) X.xe s₃) X.xe s₂) X.xe s:=by
  refine thn (he pins s σ H _ I h) fun w s1 ⟨y,H1,I1,r1,q1⟩=>?_
  refine thn (ho pins s1 σ H1 v y u w _ I1 r r1 q1) fun z s2 ⟨zv,H2,I2,r2,q2⟩=>?_
  exact zke I2 hN hi hx r2 (fun s3 I3=>⟨_,H2,I3,q2⟩) hf
 rcases l with⟨hk,hm⟩|⟨hk,c,hc,hcell⟩
 ·exact wpAny_loadName_local I.ok.kind hk hn hm go
 ·rcases hk with hk|hk
  ·exact wpAny_loadName_cell I.ok.kind hk hc hcell go
  ·rcases hx with k|k
   ·have:X.env.scope.names.lookup x=some .free:=hk
    rw[k]at this;cases this
   ·have:X.env.scope.names.lookup x=some .free:=hk
    rw[k]at this;cases this
noncomputable def ipI (f:Int->Int->Int):TIp:=fun x y H Q=>∃i j,x= .int i/\y= .int j/\Q (.int (f i j)) H
theorem ip_sub:PIp X .Sub (ipI fun i j=>i-j):=by
 intro pins s σ H x y v u Q I r1 r2 h
 obtain⟨i,j,e1,e2,q⟩:=h
 subst e1;subst e2
 obtain⟨t,rfl⟩:=r1
 obtain⟨t',rfl⟩:=r2
 exact isub_int ⟨.int _,H,I.tok _,⟨_,rfl⟩,q⟩
end
structure It where
 go:Nat->Hp->Prop
 yld:Nat->Hp->V->Hp->Prop
 stop:Nat->Hp->Prop
noncomputable def FpOk (X:Cx)(pins:List (Addr×Obj))(H:Hp)(b:Addr):Prop:=
 H b=none/\b≠X.env.locals/\b∉X.fs/\(b∈X.ex\/X.s₀.heap.objs.size<=b)/\(∀x c,X.env.cells.lookup x=some c->c≠b)/\∀p∈X.pn++pins,p.1≠b
theorem Inv.fpOk {H H':Hp}(I:Inv X pins σ H s)(hb:s.heap.objs.size<=b)(hn:H' b=none):FpOk X pins H' b:=by
 refine⟨hn,Nat.ne_of_gt (Nat.lt_of_lt_of_le I.lt hb),I.nofs hb,.inr (Nat.le_trans I.sz hb),fun x c e z=>?_,fun p hp z=>?_⟩
 ·obtain⟨v,q⟩:=I.cell x c e
  exact absurd (Nat.lt_of_lt_of_le q.lt (by rw[z];exact hb)) (Nat.lt_irrefl _)
 ·exact absurd (Nat.lt_of_lt_of_le (Heap.lt_size (I.pin p hp).1) (by rw[z];exact hb)) (Nat.lt_irrefl _)
structure Turn (P:Program) (w:World) (K:W.Frag) (tg:Expr) (J:It) (fp:List Addr) (it:Addr) (tn:Nat->Heap->Prop):Prop where
 mem:it∈fp
 obj:∀i h,tn i h->∀b∈fp,∃o,h.get? b=some o/\∀v,o.data≠ .cell v
 keep:∀i h h',tn i h->(∀b∈fp,∀o,h.get? b=some o->h'.get? b=some o)->tn i h'
 item:∀(X:Cx),X.prog=P->X.w=w->X.K=K->X.calm=true->∀(i:Nat) (pins:List (Addr×Obj)) (s:Shared) (σ:St) (H:Hp) (E:Value->Shared->Prop),Inv X pins σ H s->(∀b∈fp,FpOk X pins H b)->tn i s.heap->J.go i H->
  wpAny (model P w) X.A (pyNext (.ref it)) (fun r s1=>∃u,r=some u/\
   wpAny (model P w) X.A (letOwnedTupleGo tg (.ref it) u) (fun _ s2=>∃x H',Inv X pins σ H' s2/\RelV x u/\J.yld i H x H'/\tn (i+1) s2.heap/\∀b∈fp,H' b=none) E s1) E s
 done:∀(X:Cx),X.prog=P->X.w=w->X.K=K->X.calm=true->∀(i:Nat) (pins:List (Addr×Obj)) (s:Shared) (σ:St) (H:Hp) (E:Value->Shared->Prop),Inv X pins σ H s->(∀b∈fp,FpOk X pins H b)->tn i s.heap->J.stop i H->
  wpAny (model P w) X.A (pyNext (.ref it)) (fun r s1=>r=none/\Inv X pins σ H s1) E s
 self:∀(A:Around) (i:Nat) (s:Shared) (Q:Value->Shared->Prop) (E:Value->Shared->Prop),tn i s.heap->Q (.ref it) s->wpAny (model P w) A (pyIter (.ref it)) Q E s
noncomputable abbrev TI:=St->Hp->(It->Hp->Prop)->Prop
noncomputable def PIE (X:Cx)(pins:List (Addr×Obj))(σ:St)(tg:Expr)(R:It->Hp->Prop)(itv:Value)(s2:Shared):Prop:=
 ∃(it:Addr) (fp:List Addr) (tn:Nat->Heap->Prop) (J:It) (H':Hp),itv= .ref it/\Inv X pins σ H' s2/\Turn X.prog X.w X.K tg J fp it tn/\tn 0 s2.heap/\(∀b∈fp,FpOk X pins H' b)/\R J H'
noncomputable def PI (X:Cx)(tg iter:Expr)(wi:TI):Prop:=
 ∀(pins:List (Addr×Obj)) (s:Shared) (σ:St) (H:Hp) (R:It->Hp->Prop),Inv X pins σ H s->wi σ H R->
  wpAny (model X.prog X.w) X.A (eval iter X.env) (fun v s1=>wpAny (model X.prog X.w) X.A (pyIter v) (PIE X pins σ tg R) X.xe s1) X.xe s
theorem go_of {M:Model}{o:Obj}{n:String}{vs:Array Value}(ho:s.heap.get? it=some o)(hc:o.cls= .type n)(hd:o.data= .fields vs)
    (hn:["enumerate","zip","dict_itemiterator","dict_reverseitemiterator","odict_iterator","itertools.zip_longest","itertools.pairwise"].contains n=false) (hQ:Q () s):wpAny M A (letOwnedTupleGo tg (.ref it) u) Q E s:=by
  unfold letOwnedTupleGo
  cases tg<;>first
    |exact wpAny_pure hQ
    | (cases u <;> first
        |exact wpAny_pure hQ
        | (refine wpAny_bind (wpAny_load ho ?_)
           rw[hc,hd]
           show wpAny M A (if(["enumerate","zip","dict_itemiterator","dict_reverseitemiterator","odict_iterator","itertools.zip_longest","itertools.pairwise"].contains n&&vs[0]? ==some (rawInt _))=true then _ else _) Q E s
           rw[if_neg (by intro h;rw[hn,Bool.false_and]at h;cases h)]
           exact wpAny_pure hQ))
noncomputable def Itl (K:W.Frag)(a:Addr):It:=
 ⟨fun i H=>∃xs x,SqL K H a xs/\xs[i]? =some x,fun i H x H'=>H'=H/\∀xs,SqL K H a xs->xs[i]? =some x,fun i H=>∃xs,SqL K H a xs/\xs.length<=i⟩
noncomputable def Itt (K:W.Frag)(a:Addr):It:=
 ⟨fun i H=>∃xs x,SqT K H a xs/\xs[i]? =some x,fun i H x H'=>H'=H/\∀xs,SqT K H a xs->xs[i]? =some x,fun i H=>∃xs,SqT K H a xs/\xs.length<=i⟩
noncomputable def Itr (lo:Int)(n:Nat):It:=⟨fun i _=>i<n,fun i H x H'=>H'=H/\x= .int (lo+i),fun i _=>n<=i⟩
theorem znE {P:Program}(a it:Addr):Turn P w K tg (Itl K a) [it] it (fun i h=>h.IsListIter it a i) where
 mem:=by simp
 obj:=fun i h st b hb=>by
  have e:b=it:=by simpa using hb
  subst e
  obtain⟨o,e,c,d⟩:=st
  exact⟨o,e,fun v z=>by rw[d]at z;cases z⟩
 keep:=fun i h h' st k=>st.at fun o e=>k it (by simp) o e
 item:=by
  intro X hP hw hK hc i pins s σ H E I hf st hg
  subst hP hw hK
  obtain⟨xs,x,hq,hx⟩:=hg
  obtain⟨its,rv,p,hz⟩:=I.list hq
  obtain⟨u,hu,ru⟩:=rv.get hx
  obtain⟨f0,f1,f2,f3,f4,f5⟩:=hf it (by simp)
  refine wpAny_pyNext_list_item st p.isList (x:=u) (by simpa using hu) fun h' st' sb=>?_
  have I1:Inv X pins σ H {s with heap:=h'}:=I.turned (t':=s.toks) (fun b o hb e=>(sb.2 b hb).trans e) f0 f1 f3 f4 f5
  obtain⟨o,e,c,d⟩:=id st'
  exact⟨u,rfl,go_of (s:={s with heap:=h'}) e c d (by decide) ⟨x,H,I1,ru,⟨rfl,fun ys hy=>by rw[I.list_inj hy hq];exact hx⟩,st',fun b hb=>(hf b hb).1⟩⟩
 done:=by
  intro X hP hw hK hc i pins s σ H E I hf st hg
  subst hP hw hK
  obtain⟨xs,hq,hx⟩:=hg
  obtain⟨its,rv,p,hz⟩:=I.list hq
  obtain⟨f0,f1,f2,f3,f4,f5⟩:=hf it (by simp)
  have hl:=rv.length
  exact wpAny_pyNext_list_end (I.ok.hd hc) st p.isList (by simp;lia) fun h' eb=>⟨rfl,I.turned (t':=s.toks) (fun b o hb e=>eb b o hb e) f0 f1 f3 f4 f5⟩
 self:=fun _ _ _ _ _ st h=>wpAny_pyIter_listiter st h
theorem zno {P:Program}(a it:Addr):Turn P w K tg (Itt K a) [it] it (fun i h=>h.IsTupleIter it a i) where
 mem:=by simp
 obj:=fun i h st b hb=>by
  have e:b=it:=by simpa using hb
  subst e
  obtain⟨o,e,c,d⟩:=st
  exact⟨o,e,fun v z=>by rw[d]at z;cases z⟩
 keep:=fun i h h' st k=>st.at fun o e=>k it (by simp) o e
 item:=by
  intro X hP hw hK hc i pins s σ H E I hf st hg
  subst hP hw hK
  obtain⟨xs,x,hq,hx⟩:=hg
  obtain⟨its,rv,p,hz⟩:=I.tuple hq
  obtain⟨u,hu,ru⟩:=rv.get hx
  obtain⟨f0,f1,f2,f3,f4,f5⟩:=hf it (by simp)
  refine wpAny_pyNext_tuple_item st (show s.heap.IsTuple a its.toArray from p) (x:=u) (by simpa using hu) fun h' st' sb=>?_
  have I1:Inv X pins σ H {s with heap:=h'}:=I.turned (t':=s.toks) (fun b o hb e=>(sb.2 b hb).trans e) f0 f1 f3 f4 f5
  obtain⟨o,e,c,d⟩:=id st'
  exact⟨u,rfl,go_of (s:={s with heap:=h'}) e c d (by decide) ⟨x,H,I1,ru,⟨rfl,fun ys hy=>by rw[I.tuple_inj hy hq];exact hx⟩,st',fun b hb=>(hf b hb).1⟩⟩
 done:=by
  intro X hP hw hK hc i pins s σ H E I hf st hg
  subst hP hw hK
  obtain⟨xs,hq,hx⟩:=hg
  obtain⟨its,rv,p,hz⟩:=I.tuple hq
  obtain⟨f0,f1,f2,f3,f4,f5⟩:=hf it (by simp)
  have hl:=rv.length
  exact wpAny_pyNext_tuple_end (I.ok.hd hc) st (show s.heap.IsTuple a its.toArray from p) (by simp;lia) fun h' eb=>⟨rfl,I.turned (t':=s.toks) (fun b o hb e=>eb b o hb e) f0 f1 f3 f4 f5⟩
 self:=fun _ _ _ _ _ st h=>wpAny_pyIter_tupleiter st h
theorem zm3 {P:Program}{w:World}(it:Addr)(lo:Int)(n:Nat):Turn P w K tg (Itr lo n) [it] it (fun i h=>IsRangeIter h it (lo+(i:Nat)*1) ((n:Int)-(i:Nat)) 1) where
 mem:=by simp
 obj:=fun i h st b hb=>by
  have e:b=it:=by simpa using hb
  subst e
  exact⟨_,st,fun v z=>by
   have z':Data.fields _=Data.cell v:=z
   cases z'⟩
 keep:=fun i h h' st k=>k it (by simp) _ st
 item:=by
  intro X hP hw hK hc i pins s σ H E I hf st hg
  subst hP hw hK
  obtain⟨f0,f1,f2,f3,f4,f5⟩:=hf it (by simp)
  have W:=Walks.range (prog:=X.prog) (w:=X.w) (I.ok.hd hc) it lo 1 n
  refine W.item i s _ _ hg st fun v h' tk hv st' kk=>?_
  obtain⟨t,rfl⟩:=hv
  have I1:Inv X pins σ H {s with heap:=h',toks:=tk}:=I.turned (fun b o hb e=>kk b o (by simpa using hb) e) f0 f1 f3 f4 f5
  refine⟨_,rfl,go_of (s:={s with heap:=h',toks:=tk}) (n:="range_iterator") st' rfl rfl (by decide) ⟨.int (lo+i),H,I1,⟨t,?_⟩,⟨rfl,rfl⟩,st',fun b hb=>(hf b hb).1⟩⟩
  rw[Int.mul_one]
 done:=by
  intro X hP hw hK hc i pins s σ H E I hf st hg
  subst hP hw hK
  obtain⟨f0,f1,f2,f3,f4,f5⟩:=hf it (by simp)
  exact wpAny_pyNext_range_end (I.ok.hd hc) st (by have:n<=i:=hg;lia) fun h' eb=>⟨rfl,I.turned (t':=s.toks) (fun b o hb e=>eb b o hb e) f0 f1 f3 f4 f5⟩
 self:=fun _ _ _ _ _ st h=>wpAny_pyIter_rangeiter st h
section
variable {X:Cx} {tg:Expr}
theorem range_it {R:It->Hp->Prop}{lo hi:Int}{t u v:Tok}{tk:Nat}(I:Inv X pins σ H s)(h1: -(2^62)<=lo)(h2:lo<2^62)(h3: -(2^62)<=hi)(h4:hi<2^62)
  (q:R (Itr lo (hi-lo).toNat) H):wpAny (model X.prog X.w) X.A (pyIter (.ref s.heap.objs.size)) (PIE X pins σ tg R) E {s with heap:=s.heap.push {cls:= .type "range",data:= .fields #[.int lo t,.int hi u,.int 1 v]},toks:=tk}:=by
 refine wpAny_pyIter_range (IsRange.new ..) (small_one h1 h2 h3 h4) ?_
 have I1:Inv X pins σ H {s with heap:=s.heap.push {cls:= .type "range",data:= .fields #[.int lo t,.int hi u,.int 1 v]},toks:=tk}:=I.kept fun b o e=>Heap.get?_push_of_some _ e
 refine⟨(s.heap.push {cls:= .type "range",data:= .fields #[.int lo t,.int hi u,.int 1 v]}).objs.size,[(s.heap.push {cls:= .type "range",data:= .fields #[.int lo t,.int hi u,.int 1 v]}).objs.size],_,_,H,rfl,
  I1.kept (t':=tk) fun b o e=>Heap.get?_push_of_some _ e,zm3 _ lo (hi-lo).toNat,?_,fun b hb=>?_,q⟩
 ·have e1:lo+((0:Nat):Int)*1=lo:=by simp
  have e2:(((hi-lo).toNat:Nat):Int)-((0:Nat):Int)=Builtin.Range.rangeSize lo hi 1:=by rw[rangeSize_one];split<;>lia
  show IsRangeIter _ _ (lo+((0:Nat):Int)*1) ((((hi-lo).toNat:Nat):Int)-((0:Nat):Int)) 1
  rw[e1,e2]
  exact Heap.get?_push_size _ rfl
 ·have e:b=(s.heap.push {cls:= .type "range",data:= .fields #[.int lo t,.int hi u,.int 1 v]}).objs.size:=by simpa using hb
  subst e
  exact I1.fpOk (Nat.le_refl _) (I1.hok.fresh (Nat.le_refl _))
noncomputable def iRng1 (ta:TA):TI:=fun σ H R=>ta σ H fun vs H1=>∃j:Int,vs=[.int j]/\ -(2^62)<=j/\j<2^62/\R (Itr 0 j.toNat) H1
theorem znP {a:Expr}{ta:TA}{p pos:Pos}(hg:Gl X "range")(hm:X.mg "range"=none)(ha:PA X [a] ta)(hs:autoParam (starEach [a] X.env=[(false,eval a X.env)]) zu2._auto_1):PI X tg (.Call (.Name "range" p) [a] [] pos) (iRng1 ta):=by
 intro pins s σ H R I h
 refine Call_ (zgK I hg hm boot_range (PyProof.Rows.callWith_type1 (thn (ha pos pins s σ H _ I h) fun us s1 ⟨vs,H1,I1,r1,q1⟩=>?_) hs rfl))
 obtain⟨j,e,q1,q2,q⟩:=q1
 subst e
 cases r1 with
 |cons r rr=>
  cases rr
  obtain⟨t,rfl⟩:=r
  exact call_range_1 (range_it I1 (by lia) (by lia) q1 q2 (by simpa using q))
noncomputable def tFor (wi:TI)(g:TG)(tb:TS):TS:=fun D σ H=>wi σ H fun J H1=>∃W:Nat->Nat->St->Hp->Prop,(∃m,W 0 m σ H1)/\∀i m σ H,W i m σ H->
 (J.stop i H/\D.nx σ H)\/(J.go i H/\∃N:St->Hp->Prop,(∀σ' H',N σ' H'->∃m',m'<m/\W (i+1) m' σ' H')/\∀x H',J.yld i H x H'->g x σ H' fun σ2 H2=>tb {D with nx:=N,ct:=N,bk:=D.nx} σ2 H2)
noncomputable def zku (fp:List Addr)(h:Heap):List (Addr×Obj):=fp.filterMap fun b=>(h.get? b).map fun o=>(b,o)
theorem zf2 {o:Obj}(hb:b∈fp)(e:h.get? b=some o):(b,o)∈zku fp h:=List.mem_filterMap.mpr ⟨b,hb,by rw[e];rfl⟩
theorem zoT (hp:p∈zku fp h):p.1∈fp/\h.get? p.1=some p.2:=by
 obtain⟨b,hb,e⟩:=List.mem_filterMap.mp hp
 cases q:h.get? b with
 |none=>rw[q]at e;cases e
 |some o=>
  rw[q]at e
  have e':(b,o)=p:=Option.some.inj e
  subst e'
  exact⟨hb,q⟩
theorem Inv.pinned (I:Inv X pins σ H s)(hf:∀b∈fp,FpOk X pins H b)(ho:∀b∈fp,∃o,s.heap.get? b=some o/\∀v,o.data≠ .cell v):Inv X (pins++zku fp s.heap) σ H s:=
 I.pins_of fun p hp=>(List.mem_append.mp hp).elim (fun z=>I.pin p (List.mem_append_right _ z)) fun z=>by
  obtain⟨hb,e⟩:=zoT z
  obtain⟨f0,f1,f2,_⟩:=hf p.1 hb
  obtain⟨o,e',d⟩:=ho p.1 hb
  rw[e]at e';cases e'
  exact⟨e,f0,f1,f2,d⟩
theorem Inv.unpinned (I:Inv X (pins++pl) σ H s):Inv X pins σ H s:=I.pins_of fun p hp=>I.pin p (List.mem_append_right _ (List.mem_append_left _ hp))
theorem ps_for {iter:Expr}{wi:TI}{g:TG}{tb:TS}(hp:PassesOwn (model X.prog X.w) X.A X.env X.xe)(hc:X.calm=true)(hi:PI X tg iter wi)(hg:PG X tg g)(hb:PSs X body tb)
    (hs:autoParam (∀x,foldedSetIterable iter X.env x=pure x) zu3._auto_1):PS X (.For tg iter body [] pos) (tFor wi g tb):=by
  intro pins s σ H D I h
  refine wpAny_For (thn (hi pins s σ H _ I h) fun v s1 h1=>thn h1 fun itv s2 h2=>?_) hs
  obtain⟨it,fp,tn,J,H2,e,I2,T,st2,f2,W,⟨m0,w0⟩,turn⟩:=h2
  subst e
  have stat:∀{H':Hp},(∀b∈fp,H' b=none)->∀b∈fp,FpOk X pins H' b:=fun hn b hb=>⟨hn b hb,(f2 b hb).2⟩
  refine codeAny_forLoop_any (fun n s'=>∃i σ' H',Inv X pins σ' H' s'/\tn i s'.heap/\(∀b∈fp,H' b=none)/\W i n σ' H') ?_ m0 ⟨0,σ,H2,I2,st2,fun b hb=>(f2 b hb).1,w0⟩
  rintro n s3 ⟨i,σ3,H3,I3,st3,fr3,w3⟩
  rcases turn i n σ3 H3 w3 with⟨stop,qn⟩|⟨go,N,hN,step⟩
  . refine wpAny_passesOwn hp (thn (T.done X rfl rfl rfl hc i pins s3 σ3 H3 X.xe I3 (stat fr3) st3 stop) fun r s4 ⟨hr,I4⟩=>?_)
    subst hr
    exact wpAny_execs_nil ⟨σ3,H3,I4,qn⟩
  . refine wpAny_passesOwn hp (thn (T.item X rfl rfl rfl hc i pins s3 σ3 H3 X.xe I3 (stat fr3) st3 go) fun r s4 ⟨u,hr,h4⟩=>?_)
    subst hr
    refine wpAny_passesOwn hp (thn h4 fun _ s5 ⟨x,H5,I5,r5,y5,st5,fr5⟩=>?_)
    have I5':=I5.pinned (stat fr5) (T.obj _ _ st5)
    refine wpAny_passesOwn hp (thn (hg _ s5 σ3 H5 x u _ I5' r5 (step x H5 y5)) fun _ s6 ⟨σ6,H6,I6,q6⟩=>?_)
    refine wpAny_passesOwn hp (thn (hb _ s6 σ6 H6 _ I6 q6) fun f s7 q7=>?_)
    have again:∀{σ7:St} {H7:Hp},Inv X (pins++zku fp s5.heap) σ7 H7 s7->N σ7 H7->∃m,m<n/\∃i σ' H',Inv X pins σ' H' s7/\tn i s7.heap/\(∀b∈fp,H' b=none)/\W i m σ' H':=fun{σ7 H7} I7 n7=>by
      obtain⟨m',hm,w7⟩:=hN σ7 H7 n7
      refine⟨m',hm,i+1,σ7,H7,I7.unpinned,T.keep _ _ _ st5 fun b hb o e=>(I7.pin (b,o) (List.mem_append_right _ (List.mem_append_right _ (zf2 hb e)))).1,fun b hb=>?_,w7⟩
      obtain⟨o,e,d⟩:=T.obj _ _ st5 b hb
      exact(I7.pin (b,o) (List.mem_append_right _ (List.mem_append_right _ (zf2 hb e)))).2.1
    cases f with
    |next=>obtain⟨σ7,H7,I7,n7⟩:=q7;exact again I7 n7
    |cont=>obtain⟨σ7,H7,I7,n7⟩:=q7;exact again I7 n7
    |brk=>obtain⟨σ7,H7,I7,q7⟩:=q7;exact⟨σ7,H7,I7.unpinned,q7⟩
    |ret v=>obtain⟨x7,σ7,H7,I7,r7,q7⟩:=q7;exact⟨x7,σ7,H7,I7.unpinned,r7,q7⟩
end
noncomputable abbrev R2:=V->V->Hp->VK->Prop
noncomputable def OpR (X:Cx)(f:Value->Value->Sem Value)(r:R2):Prop:=
 ∀(pins:List (Addr×Obj)) (s:Shared) (σ:St) (H:Hp) (x y:V) (v u:Value) (Q:VK),Inv X pins σ H s->RelV x v->RelV y u->r x y H Q->
  wpAny (model X.prog X.w) X.A (f v u) (EP X pins σ Q) X.xe s
noncomputable def UnR (X:Cx)(f:Value->Sem Value)(r:V->Hp->VK->Prop):Prop:=
 ∀(pins:List (Addr×Obj)) (s:Shared) (σ:St) (H:Hp) (x:V) (v:Value) (Q:VK),Inv X pins σ H s->RelV x v->r x H Q->
  wpAny (model X.prog X.w) X.A (f v) (EP X pins σ Q) X.xe s
noncomputable def zeb (X:Cx)(f:Value)(r:List V->Hp->VK->Prop):Prop:=
 ∀(pins:List (Addr×Obj)) (s:Shared) (σ:St) (H:Hp) (xs:List V) (us:List Value) (Q:VK),Inv X pins σ H s->Vals xs us->r xs H Q->
  wpAny (model X.prog X.w) X.A (call f us) (EP X pins σ Q) X.xe s
noncomputable def TruR (X:Cx)(r:V->Hp->(Bool->Hp->Prop)->Prop):Prop:=
 ∀(pins:List (Addr×Obj)) (s:Shared) (σ:St) (H:Hp) (x:V) (v:Value) (Q:Bool->Hp->Prop),Inv X pins σ H s->RelV x v->r x H Q->
  wpAny (model X.prog X.w) X.A (truthy v) (TP X pins σ Q) X.xe s
noncomputable def tOp (r:R2)(ta tb:TE):TE:=fun σ H Q=>ta σ H fun x H1=>tb σ H1 fun y H2=>r x y H2 Q
noncomputable def tUn (r:V->Hp->VK->Prop)(ta:TE):TE:=fun σ H Q=>ta σ H fun x H1=>r x H1 Q
noncomputable def rI (C:Int->Int->Prop)(g:Int->Int->V):R2:=fun x y H Q=>∃i j,x= .int i/\y= .int j/\C i j/\Q (g i j) H
noncomputable def rI0 (g:Int->Int->V):R2:=fun x y H Q=>∃i j,x= .int i/\y= .int j/\Q (g i j) H
noncomputable def rU (g:Int->V):V->Hp->VK->Prop:=fun x H Q=>∃i,x= .int i/\Q (g i) H
section
variable {X:Cx} {a b c:Expr} {ta tb tc:TE} {pos:Pos}
theorem binT (ha:PE X a ta)(hb:PE X b tb){R:V->V->Hp->Prop}(I:Inv X pins σ H s)
  (h:ta σ H fun x H1=>tb σ H1 fun y H2=>R x y H2) {Q:Value->Shared->Prop} {f:Value->Value->Sem Value}
  (hf:∀v u s2 x y H2,Inv X pins σ H2 s2->RelV x v->RelV y u->R x y H2->wpAny (model X.prog X.w) X.A (f v u) Q X.xe s2):
  wpAny (model X.prog X.w) X.A (eval a X.env) (fun v s₁=>wpAny (model X.prog X.w) X.A (eval b X.env) (fun u s₂=>wpAny (model X.prog X.w) X.A (f v u) Q X.xe s₂) X.xe s₁) X.xe s:=by
 refine thn (ha pins s σ H _ I h) fun v s1 ⟨x,H1,I1,r1,q1⟩=>?_
 refine thn (hb pins s1 σ H1 _ I1 q1) fun u s2 ⟨y,H2,I2,r2,q2⟩=>?_
 exact hf v u s2 x y H2 I2 r1 r2 q2
theorem pe_op {op:Operator}{r:R2}(ho:OpR X (binaryOp op) r)(ha:PE X a ta)(hb:PE X b tb):PE X (.BinOp a op b pos) (tOp r ta tb):=by
 intro pins s σ H Q I h
 exact wpAny_BinOp (binT ha hb I h fun v u s2 x y H2 I2 rx ry q=>ho pins s2 σ H2 x y v u Q I2 rx ry q)
theorem pe_un {op:UnaryOp}(ho:UnR X (unaryOp op) r)(ha:PE X a ta):PE X (.UnaryOp op a pos) (tUn r ta):=by
 intro pins s σ H Q I h
 exact UnaryOp_ (thn (ha pins s σ H _ I h) fun v s1 ⟨x,H1,I1,r1,q1⟩=>ho pins s1 σ H1 x v Q I1 r1 q1)
theorem opI
  (rule:∀(i j:Int) (t u:Tok) (s:Shared) (Q:Value->Shared->Prop) (E:Value->Shared->Prop),C i j->Q (.int (g i j) s.toks) {s with toks:=s.toks+1}->wpAny (model X.prog X.w) X.A (f (.int i t) (.int j u)) Q E s):
  OpR X f (rI C fun i j=> .int (g i j)):=by
 intro pins s σ H x y v u Q I rx ry h
 obtain⟨i,j,rfl,rfl,hc,q⟩:=h
 obtain⟨t,rfl⟩:=rx
 obtain⟨t',rfl⟩:=ry
 exact rule i j t t' s _ _ hc ⟨.int (g i j),H,I.tok _,⟨_,rfl⟩,q⟩
theorem opI0
  (rule:∀(i j:Int) (t u:Tok) (s:Shared) (Q:Value->Shared->Prop) (E:Value->Shared->Prop),Q (.int (g i j) s.toks) {s with toks:=s.toks+1}->wpAny (model X.prog X.w) X.A (f (.int i t) (.int j u)) Q E s):
  OpR X f (rI0 fun i j=> .int (g i j)):=by
 intro pins s σ H x y v u Q I rx ry h
 obtain⟨i,j,rfl,rfl,q⟩:=h
 obtain⟨t,rfl⟩:=rx
 obtain⟨t',rfl⟩:=ry
 exact rule i j t t' s _ _ ⟨.int (g i j),H,I.tok _,⟨_,rfl⟩,q⟩
theorem opB0 {g:Int->Int->Bool}
  (rule:∀(i j:Int) (t u:Tok) (s:Shared) (Q:Value->Shared->Prop) (E:Value->Shared->Prop),Q (.bool (g i j)) s->wpAny (model X.prog X.w) X.A (f (.int i t) (.int j u)) Q E s):
  OpR X f (rI0 fun i j=> .bl (g i j)):=by
 intro pins s σ H x y v u Q I rx ry h
 obtain⟨i,j,rfl,rfl,q⟩:=h
 obtain⟨t,rfl⟩:=rx
 obtain⟨t',rfl⟩:=ry
 exact rule i j t t' s _ _ ⟨.bl (g i j),H,I,rfl,q⟩
noncomputable def CPow (i j:Int):Prop:=0<=j/\j<=1000000/\i.natAbs<2^64
theorem op_add:OpR X (binaryOp .Add) (rI0 fun i j=> .int (i+j)):=opI0 fun _ _ _ _ _ _ _ q=>add_int q
theorem op_sub:OpR X (binaryOp .Sub) (rI0 fun i j=> .int (i-j)):=opI0 fun _ _ _ _ _ _ _ q=>sub_int q
theorem op_mod:OpR X (binaryOp .Mod) (rI (fun _ j=>0<j) fun i j=> .int (i%j)):=opI fun i j _ _ _ _ _ hc q=>by
 have h1:(0:Int)<j:=hc
 exact mod_int' (by lia) (by rw[Int.fmod_eq_emod_of_nonneg i (by lia)];exact q)
theorem op_pow:OpR X (binaryOp .Pow) (rI CPow fun i j=> .int (i^j.toNat)):=opI fun _ _ _ _ _ _ _ hc q=>pow_int_small hc.1 hc.2.1 hc.2.2 q
theorem unI {f:Value->Sem Value}{g:Int->Int}
  (rule:∀(i:Int) (t:Tok) (s:Shared) (Q:Value->Shared->Prop) (E:Value->Shared->Prop),Q (.int (g i) s.toks) {s with toks:=s.toks+1}->wpAny (model X.prog X.w) X.A (f (.int i t)) Q E s):
  UnR X f (rU fun i=> .int (g i)):=by
 intro pins s σ H x v Q I rx h
 obtain⟨i,rfl,q⟩:=h
 obtain⟨t,rfl⟩:=rx
 exact rule i t s _ _ ⟨.int (g i),H,I.tok _,⟨_,rfl⟩,q⟩
theorem un_neg:UnR X (unaryOp .USub) (rU fun i=> .int (-i)):=unI fun _ _ _ _ _ q=>neg_int q
end
section
variable {X:Cx} {a b c:Expr} {ta tb tc:TE} {pos:Pos}
theorem fin_bl {Q:VK}{k k':Bool}(I:Inv X pins σ H s)(q:Q (.bl k) H)(e:k=k'):EP X pins σ Q (.bool k') s:=by
 subst e
 exact⟨.bl k,H,I,rfl,q⟩
theorem op_lt:OpR X (compareOp .Lt) (rI0 fun i j=> .bl (decide (i<j))):=opB0 fun _ _ _ _ _ _ _ q=>lt_int q
theorem zm6:OpR X (compareOp .LtE) (rI0 fun i j=> .bl (decide (i<=j))):=opB0 fun _ _ _ _ _ _ _ q=>le_int q
theorem op_gt:OpR X (compareOp .Gt) (rI0 fun i j=> .bl (decide (j<i))):=opB0 fun _ _ _ _ _ _ _ q=>gt_int q
theorem op_notN:OpR X (compareOp .IsNot) (fun x y H Q=>y= .non/\Q (.bl (!decide (x= .non))) H):=by
 intro pins s σ H x y v u Q I rx ry h
 obtain⟨rfl,q⟩:=h
 cases ry
 refine isnot_none_gen (fin_bl I q ?_)
 cases x<;>first
  |(cases rx;rfl)
  |(obtain⟨t,rfl⟩:=rx;rfl)
theorem OpR.or {r r':R2}(h:OpR X f r)(h':OpR X f r'):OpR X f (fun x y H Q=>r x y H Q\/r' x y H Q):=by
 intro pins s σ H x y v u Q I rx ry q
 rcases q with q|q
 ·exact h pins s σ H x y v u Q I rx ry q
 ·exact h' pins s σ H x y v u Q I rx ry q
theorem zji (b:Expr)(h:autoParam (op≠ .In) zu1._auto_1)(h2:autoParam (op≠ .NotIn) zu1._auto_1):behindInMarks op b=false:=by
 have e1:(op==CmpOp.In)=false:=by cases op<;>first|rfl|exact absurd rfl h
 have e2:(op==CmpOp.NotIn)=false:=by cases op<;>first|rfl|exact absurd rfl h2
 cases b<;>simp[behindInMarks,e1,e2]
theorem pe_cmpR {r:R2}(ho:OpR X (compareOp op) r)(ha:PE X a ta)(hb:PE X b tb)(hm:behindInMarks op b=false):PE X (.Compare a [op] [b] pos) (tOp r ta tb):=by
 intro pins s σ H Q I h
 exact wpAny_Compare1 (binT ha hb I h fun v u s2 x y H2 I2 rx ry q=>ho pins s2 σ H2 x y v u Q I2 rx ry q) hm
noncomputable def tTest (t:TE):TT:=fun σ H Q=>t σ H fun x H'=>∃k,x= .bl k/\Q k H'
theorem pt_cmpR {r:R2}(ho:OpR X (compareOp op) r)(ha:PE X a ta)(hb:PE X b tb)(hm:behindInMarks op b=false):PT X (.Compare a [op] [b] pos) (tTest (tOp r ta tb)):=by
 intro pins s σ H Q I h
 refine wpAny_isTrue_Compare1 (thn (ha pins s σ H _ I h) fun v s1 ⟨x,H1,I1,r1,q1⟩=>thn (hb pins s1 σ H1 _ I1 q1) fun u s2 ⟨y,H2,I2,r2,q2⟩=>
  thn (ho pins s2 σ H2 x y v u _ I2 r1 r2 q2) fun c s3 ⟨z,H3,I3,r3,k,e,q3⟩=>?_) hm
 subst e
 cases r3
 exact wpAny_truthy_bool ⟨H3,I3,q3⟩
noncomputable def tChain (r r':R2)(ta tb tc:TE):TE:=fun σ H Q=>ta σ H fun x H1=>tb σ H1 fun y H2=>r x y H2 fun z H3=>∃k,z= .bl k/\
 (if k=true then tc σ H3 fun w' H4=>r' y w' H4 Q else Q (.bl false) H3)
theorem pe_chain {op op':CmpOp}{r r':R2}(ho:OpR X (compareOp op) r)(ho':OpR X (compareOp op') r')(ha:PE X a ta)(hb:PE X b tb)(hc:PE X c tc)
  (hm:autoParam (lastMarks [op,op'] [b,c]=false) zu4._auto_1):PE X (.Compare a [op,op'] [b,c] pos) (tChain r r' ta tb tc):=by
 intro pins s σ H Q I h
 refine Compare_chain (thn (ha pins s σ H _ I h) fun v s1 ⟨x,H1,I1,r1,q1⟩=>chain_link (thn (hb pins s1 σ H1 _ I1 q1) fun u s2 ⟨y,H2,I2,r2,q2⟩=>
  thn (ho pins s2 σ H2 x y v u _ I2 r1 r2 q2) fun d s3 ⟨z,H3,I3,r3,k,e,q3⟩=>?_)) hm
 subst e
 cases r3
 refine wpAny_truthy_bool ?_
 cases k with
 |false=>exact ite_ff ⟨.bl false,H3,I3,rfl,q3⟩
 |true=>exact ite_tt (chain_last (thn (hc pins s3 σ H3 _ I3 q3) fun w' s4 ⟨z',H4,I4,r4,q4⟩=>ho' pins s4 σ H4 y z' u w' Q I4 r2 r4 q4))
noncomputable def TruV (K:W.Frag)(x:V)(H:Hp)(k:Bool):Prop:=
 match x with
 | .non=>k=false
 | .bl b=>k=b
 | .int i=>k=(i !=0)
 | .str y=>y.length<=sizeLine/\k=((y.length:Int) !=0)
 | .byt y=>y.size<=sizeLine/\k=((y.size:Int) !=0)
 | .ref p=>(∃xs,SqL K H p xs/\k=!xs.isEmpty)\/(∃xs,SqT K H p xs/\k=!xs.isEmpty)\/∃kvs,H p=some (.dK kvs)/\k=!kvs.isEmpty
 |_=>False
theorem znc {κ:Type}{kvs:List (κ×V)}{vs:List (κ×Value)}(r:KV kvs vs):(!vs.isEmpty)=!kvs.isEmpty:=by
 cases r<;>rfl
theorem zjn {its:List Value}(r:Vals xs its):(!its.toArray.isEmpty)=!xs.isEmpty:=by
 cases r<;>simp
theorem zjc:(sizeLine:Nat)<2^63:=by rw[sizeLine_eq];decide
theorem tru_ok:TruR X (fun x H Q=>∃k,TruV X.K x H k/\Q k H):=by
 intro pins s σ H x v Q I rx h
 obtain⟨k,e,q⟩:=h
 have hl:=zjc
 have hs:sizeLine=16777216:=sizeLine_eq
 cases x with
 |non=>
  cases rx
  have e':k=false:=e
  subst e'
  exact truthy_none ⟨H,I,q⟩
 |bl b=>
  cases rx
  have e':k=b:=e
  subst e'
  exact wpAny_truthy_bool ⟨H,I,q⟩
 |int i=>
  obtain⟨t,rfl⟩:=rx
  have e':k=(i !=0):=e
  subst e'
  exact PySem.P.truthy_int ⟨H,I,q⟩
 |str y=>
  obtain⟨t,rfl⟩:=rx
  obtain⟨hy,e'⟩:y.length<=sizeLine/\k=((y.length:Int) !=0):=e
  subst e'
  exact PySem.P.truthy_str (by lia) ⟨H,I.tok _,q⟩
 |byt y=>
  obtain⟨t,rfl⟩:=rx
  obtain⟨hy,e'⟩:y.size<=sizeLine/\k=((y.size:Int) !=0):=e
  subst e'
  exact W.truthy_bytes (by lia) ⟨H,I.tok _,q⟩
 |ref p=>
  cases rx
  have e':(∃xs,SqL X.K H p xs/\k=!xs.isEmpty)\/(∃xs,SqT X.K H p xs/\k=!xs.isEmpty)\/∃kvs,H p=some (.dK kvs)/\k=!kvs.isEmpty:=e
  rcases e' with⟨xs,hx,e'⟩|⟨xs,hx,e'⟩|⟨kvs,hx,e'⟩
  ·subst e'
   obtain⟨its,r,pl,hz⟩:=I.list hx
   have hlen:=r.length
   exact wpAny_truthy_list pl.isList (by simp only[List.size_toArray];lia) ⟨H,I.tok _,by rw[zjn r];exact q⟩
  ·subst e'
   obtain⟨its,r,pl,hz⟩:=I.tuple hx
   have hlen:=r.length
   exact truthy_tuple pl (by simp only[List.size_toArray];lia) ⟨H,I.tok _,by rw[zjn r];exact q⟩
  ·subst e'
   obtain⟨hz,hS,vs,r,m⟩:kvs.length<=sizeLine/\(p==sysModules)=false/\∃vs,KV kvs vs/\s.heap.DictOf (zlB X.prog X.w) p vs:=I.hok p _ hx
   have hlen:kvs.length=vs.length:=Paired.length r
   exact wpAny_truthy_dict hS m (by lia) ⟨H,I.tok _,by rw[znc r];exact q⟩
 |_=>exact(show False from e).elim
theorem pt_truth (ha:PE X a ta)(he:∀whole,isTrue a X.env whole=(do let v<-whole;standAt a.pos;holding [v] (truthy v))):
  PT X a (fun σ H Q=>ta σ H fun x H'=>∃k,TruV X.K x H' k/\Q k H'):=by
 intro pins s σ H Q I h
 exact isTrue_plain (thn (ha pins s σ H _ I h) fun v s1 ⟨x,H1,I1,r1,q1⟩=>tru_ok pins s1 σ H1 x v Q I1 r1 q1) (he _)
theorem zmY:OpR X (binaryOp .Add) (fun x y H Q=>∃i j,x= .str i/\y= .str j/\i.length+j.length<=sizeLine/\Q (.str (i++j)) H):=by
 intro pins s σ H x y v u Q I rx ry h
 obtain⟨i,j,rfl,rfl,hz,q⟩:=h
 obtain⟨t,rfl⟩:=rx
 obtain⟨t',rfl⟩:=ry
 exact add_str (fun t' tk=>⟨.str (i++j),H,I.tok _,⟨_,rfl⟩,q⟩) hz
theorem zgP {x:V}(r:Vals [x] us):∃u,us=[u]/\RelV x u:=by
 cases r with
 |cons r1 r2=>cases r2;exact⟨_,rfl,r1⟩
theorem vals2 {x y:V}(r:Vals [x,y] us):∃u w',us=[u,w']/\RelV x u/\RelV y w':=by
 cases r with
 |cons r1 r2=>
  cases r2 with
  |cons r3 r4=>cases r4;exact⟨_,_,rfl,r1,r3⟩
theorem zpq (hc:X.calm=true):zeb X (.builtin "max") (fun xs H Q=>∃i j,xs=[.int i,.int j]/\Q (.int (if j>i then j else i)) H):=by
 intro pins s σ H xs us Q I r h
 obtain⟨i,j,rfl,q⟩:=h
 obtain⟨u,w',rfl,⟨t,rfl⟩,⟨t',rfl⟩⟩:=vals2 r
 refine max_two_ints (I.ok.hd hc) fun h' tk k=>⟨_,H,I.kept k,?_,q⟩
 by_cases hj:j>i
 ·rw[if_pos hj,if_pos hj];exact⟨_,rfl⟩
 ·rw[if_neg hj,if_neg hj];exact⟨_,rfl⟩
theorem zoZ (hc:X.calm=true):zeb X (.builtin "min") (fun xs H Q=>∃i j,xs=[.int i,.int j]/\Q (.int (if j<i then j else i)) H):=by
 intro pins s σ H xs us Q I r h
 obtain⟨i,j,rfl,q⟩:=h
 obtain⟨u,w',rfl,⟨t,rfl⟩,⟨t',rfl⟩⟩:=vals2 r
 refine min_two_ints (I.ok.hd hc) fun h' tk k=>⟨_,H,I.kept k,?_,q⟩
 by_cases hj:j<i
 ·rw[if_pos hj,if_pos hj];exact⟨_,rfl⟩
 ·rw[if_neg hj,if_neg hj];exact⟨_,rfl⟩
end
structure ObjM (h:Heap) (x dx C:Addr) (mA:Str->Option Value):Prop where
 obj:h.get? x=some (W.instObj C dx)
 ns:h.Ns1 dx mA
 ne:dx≠x
theorem zoq (n:h.Ns1 dx mA):∃od,h.get? dx=some od/\∀name,W.lookIn name od=some (mA name):=by
 obtain⟨o,es,ep,ho,hd,hk,_,hm⟩:=n
 refine⟨o,ho,fun name=>?_⟩
 have e:=hm name
 unfold nsFind findBy at e
 rw[<-Array.find?_toList]at e
 unfold W.lookIn
 rw[hd]
 dsimp only
 split
 ·rename_i y q
  rw[q]at e
  exact congrArg some e
 ·rename_i q
  rw[q]at e
  have a:es.toList.any (·.refKey)=false:=by
   rw[List.any_eq_false]
   intro y hy
   obtain⟨z,t,hkey⟩:=hk y (Array.mem_toList_iff.mp hy)
   simp[DictEntry.refKey,hkey]
  have a':¬es.toList.any (·.refKey)=true:=by rw[a];exact Bool.false_ne_true
  rw[if_neg a']
  exact congrArg some e
theorem ObjM.look {x dx C:Addr}(I:ObjM h x dx C mA):∃od,W.InstAt h x (W.instObj C dx) C (some od)/\∀name,W.lookIn name od=some (mA name):=
 let⟨od,ho,hl⟩:=zoq I.ns
 ⟨od,⟨I.obj,rfl,rfl,ho⟩,hl⟩
section
variable {P:Program} {w:World} {H H':Hp} {h h':Heap} {a C dx:Addr} {fs fs':List (Str×V)}
theorem ins_get (hok:HOk P w H h)(e:H a=some (.ins C dx fs)):∃mA,ObjM h a dx C mA/\(∀f,RelO (fs.lookup f) (mA f))/\PySem.Within mA (fs.map (·.1))/\fs.length<=1000/\H dx=some (.own a):=by
 obtain⟨d,z,ne,ob,mA,n,r,q⟩:=(show ObjOk P w H h a (.ins C dx fs)from hok a _ e)
 exact⟨mA,⟨ob,n,ne⟩,r,q,z,d⟩
end
structure Cls (K:W.Frag) (C:Addr):Prop where
 pg:W.plainGet K C Str.empty=true
 hd:W.hasDictIn K C=true
 po:W.plainOver K C=true
 sa:W.findIn K (.ref C) "__setattr__"=some (some (.builtin "object.__setattr__"))
theorem Cls.get {C:Addr}(c:Cls K C)(f:Str):W.plainGet K C f=true:=c.pg
section
variable {X:Cx} {pins:List (Addr×Obj)} {σ:St} {H:Hp} {s:Shared} {A:Around} {E:Value->Shared->Prop} {Q:Value->Shared->Prop} {c:Value} {b:Bool}
inductive TyOf (K:W.Frag) (H:Hp):V->Value->Prop where
 |non:TyOf K H .non (.type "NoneType")
 |bl (x:Bool):TyOf K H (.bl x) (.type "bool")
 |int (i:Int):TyOf K H (.int i) (.type "int")
 |str (x:Str):TyOf K H (.str x) (.type "str")
 |flt (x:UInt64):TyOf K H (.flt x) (.type "float")
 |lst {a:Addr} {xs:List V} (e:H a=some (.lst xs)):TyOf K H (.ref a) (.type "list")
 |frz {a:Addr} {o:Obj} {xs:List V} (e:H a=some (.frz o (.lst xs))):TyOf K H (.ref a) (.type "list")
 |tup {a:Addr} {xs:List V} (e:H a=some (.tup xs)):TyOf K H (.ref a) (.type "tuple")
 |dK {a:Addr} {kvs:List (Key×V)} (e:H a=some (.dK kvs)):TyOf K H (.ref a) (.type "dict")
 |dT {a:Addr} {kvs:List (List Key×V)} (e:H a=some (.dT kvs)):TyOf K H (.ref a) (.type "dict")
 |ins {a C dx:Addr} {fs:List (Str×V)} (e:H a=some (.ins C dx fs)) (cl:Cls K C) (ha:W.findIn K (.ref C) "__class__"=some (some (.builtin "object.__class__")))
   (hn:W.specialIn K (.builtin "object.__class__") "__get__"=some (some (.builtin "getset_descriptor.__get__"))) (htk:W.takesIn K (.builtin "object.__class__")=some true)
   (hm:W.mroIn K C (.type "object")=some true):TyOf K H (.ref a) (.ref C)
theorem znY {x:V}{u t:Value}(I:Inv X pins σ H s)(rx:RelV x u)(ty:TyOf X.K H x t)(e:W.kitOne X.K t c=some b)(h:∀tk,Q (.bool b) {s with toks:=tk}):
  wpAny (model X.prog X.w) A (call (.builtin "isinstance") [u,c]) Q E s:=by
 cases ty with
 |non=>cases(show u=Value.none from rx);exact W.kia_one W.kitx_none I.kIn True.intro e (fun z=>nomatch z) h
 |bl y=>cases(show u=Value.bool y from rx);exact W.kia_one W.kitx_bool I.kIn True.intro e (fun z=>nomatch z) h
 |int i=>obtain⟨t,q⟩:=(show ∃t,u=Value.int i t from rx);cases q;exact W.kia_one W.kitx_int I.kIn True.intro e (fun z=>nomatch z) h
 |str y=>obtain⟨t,q⟩:=(show ∃t,u=Value.str y t from rx);cases q;exact W.kia_one W.kitx_str I.kIn True.intro e (fun z=>nomatch z) h
 |flt y=>obtain⟨t,q⟩:=(show ∃t,u=Value.float y t from rx);cases q;exact W.kia_one W.kitx_float I.kIn True.intro e (fun z=>nomatch z) h
 | @lst a xs ea=>
  cases(show u=Value.ref a from rx)
  obtain⟨_,_,n,_,h1⟩:=(show ObjOk X.prog X.w H s.heap a (.lst xs)from I.hok a _ ea)
  exact W.kia_one W.kitx_list I.kIn ⟨_,h1,rfl⟩ e (fun z=>nomatch z) h
 | @frz a ob xs ea=>
  cases(show u=Value.ref a from rx)
  obtain⟨_,_,_,n,_,h1⟩:=(show ObjOk X.prog X.w H s.heap a (.frz ob (.lst xs))from I.hok a _ ea)
  exact W.kia_one W.kitx_list I.kIn ⟨_,h1,rfl⟩ e (fun z=>nomatch z) h
 | @tup a xs ea=>
  cases(show u=Value.ref a from rx)
  obtain⟨_,_,_,p⟩:=(show ObjOk X.prog X.w H s.heap a (.tup xs)from I.hok a _ ea)
  obtain⟨o,h1,h2,_⟩:=p
  exact W.kia_one W.kitx_tuple I.kIn ⟨o,h1,h2⟩ e (fun z=>nomatch z) h
 | @dK a kvs ea=>
  cases(show u=Value.ref a from rx)
  obtain⟨_,_,vs,_,p⟩:=(show ObjOk X.prog X.w H s.heap a (.dK kvs)from I.hok a _ ea)
  obtain⟨o,es,ep,h1,h2,_⟩:=p
  exact W.kia_one W.kitx_dict I.kIn ⟨o,h1,h2.1⟩ e (fun z=>nomatch z) h
 | @dT a kvs ea=>
  cases(show u=Value.ref a from rx)
  obtain⟨_,_,xs,_,o,es,ep,h1,h2,_⟩:=(show ObjOk X.prog X.w H s.heap a (.dT kvs)from I.hok a _ ea)
  exact W.kia_one W.kitx_dict I.kIn ⟨o,h1,h2.1⟩ e (fun z=>nomatch z) h
 | @ins a C dx fs ea cl ha hn htk hm=>
  cases(show u=Value.ref a from rx)
  obtain⟨mA,O,_⟩:=ins_get I.hok ea
  obtain⟨od,J,_⟩:=O.look
  exact W.kia_one (W.kitx_own (cl.get _) cl.hd ha hn htk hm) I.kIn J e (fun z=>nomatch z) h
end
structure Room (k:Nat) (A:Around):Prop where
 hd:A.handled=none
 dp:A.depth+3*k+5<recursionLimit
 un:A.units+16*k+200<cLine
 gd:A.guards=some []
theorem Room.mono (r:Room k A)(h:j<=k):Room j A:=⟨r.hd,by have:=r.dp;lia,by have:=r.un;lia,r.gd⟩
theorem Room.deeper (r:Room (k+1) A)(env:Env):Room k (A.deeper env):=
 ⟨r.hd,by have:=r.dp;show A.depth+1+3*k+5<_;lia,by have:=r.un;show A.units+3+16*k+200<_;lia,r.gd⟩
theorem Room.in1 (r:Room (k+1) A):Room k A.in1:=
 ⟨r.hd,by have:=r.dp;show A.depth+3*k+5<_;lia,by have:=r.un;show A.units+1+16*k+200<_;lia,r.gd⟩
theorem Room.depth (r:Room k A):A.depth<recursionLimit:=by have:=r.dp;lia
theorem Room.units (r:Room k A):A.units+64<cLine:=by have:=r.un;lia
noncomputable def tNil:TA:=fun _ H Q=>Q [] H
noncomputable def tCons (ta:TE)(tr:TA):TA:=fun σ H Q=>ta σ H fun x H1=>tr σ H1 fun xs H2=>Q (x::xs) H2
section
variable {X:Cx} {e:Expr} {es:List Expr} {te:TE} {t:TA} {pos:Pos}
theorem zcQ:PA X [] tNil:=fun _ _ _ _ H Q I h=>Calls.spliced_nil ⟨[],H,I,.nil,h⟩
theorem za7 (ha:PE X e te)(hr:PA X es t)(hs:autoParam (starEach (e::es) X.env=(false,eval e X.env)::starEach es X.env) zu2._auto_1):PA X (e::es) (tCons te t):=by
 intro pos pins s σ H Q I h
 rw[hs]
 show wpAny _ _ (spliced ((false,eval e X.env)::backTo pos (starEach es X.env))) _ _ s
 refine Calls.spliced_cons (thn (ha pins s σ H _ I h) fun u s1 ⟨x,H1,I1,r1,q1⟩=>?_)
 exact thn (hr pos pins s1 σ H1 _ I1 q1) fun us s2 ⟨xs,H2,I2,r2,q2⟩=>⟨x::xs,H2,I2,.cons r1 r2,q2⟩
noncomputable def tTup (t:TA):TE:=fun σ H Q=>t σ H fun xs H1=>xs.length<=sizeLine/\∀p,H1 p=none->Q (.ref p) (upd H1 p (.tup xs))
noncomputable def tLst (t:TA):TE:=fun σ H Q=>t σ H fun xs H1=>xs.length<=sizeLine/\∀p,H1 p=none->Q (.ref p) (upd H1 p (.lst xs))
theorem pe_tup {x1}(h:PA X es t):PE X (.Tuple es x1 pos) (tTup t):=by
 intro pins s σ H Q I hq
 refine wpAny_Tuple_spliced (thn (h pos pins s σ H _ I hq) fun us s1 ⟨xs,H1,I1,r,z,q⟩=>⟨by rw[<-r.length];exact z,?_⟩)
 have hf:H1 s1.heap.objs.size=none:=I1.hok.fresh (Nat.le_refl _)
 refine⟨.ref s1.heap.objs.size,upd H1 s1.heap.objs.size (.tup xs),I1.laid (t':=s1.toks) (fun b u e=>Heap.get?_push_of_some _ e) (Nat.le_refl _) ?_,rfl,q _ hf⟩
 exact⟨z,us,r,⟨_,Heap.get?_push_size _ rfl,rfl,_,rfl,rfl⟩⟩
theorem pe_lst (h:PA X es t):PE X (.List es pos) (tLst t):=by
 intro pins s σ H Q I hq
 refine wpAny_List_spliced (thn (h pos pins s σ H _ I hq) fun us s1 ⟨xs,H1,I1,r,z,q⟩=>⟨by rw[<-r.length];exact z,?_⟩)
 have hf:H1 s1.heap.objs.size=none:=I1.hok.fresh (Nat.le_refl _)
 refine⟨.ref s1.heap.objs.size,upd H1 s1.heap.objs.size (.lst xs),I1.laid (t':=s1.toks) (fun b u e=>Heap.get?_push_of_some _ e) (Nat.le_refl _) ?_,rfl,q _ hf⟩
 exact⟨z,us,0,r,Heap.get?_push_size _ rfl⟩
end
noncomputable abbrev Sp:=List V->Hp->VK->XK->Prop
noncomputable abbrev CXT:=List Env->Hp->Shared->XK->Value->Shared->Prop
structure Env0 (P:Program) (w:World) (K:W.Frag) (mg:Str->Option Value) (base:Heap) (A:Around) (outer:List Env) (s:Shared) (H:Hp):Prop where
 frames:A.frames=some outer
 mod:Mod K mg base
 bs:∀b o,base.get? b=some o->s.heap.get? b=some o/\H b=none
 bsz:base.objs.size<=s.heap.objs.size
 funs:s.heap.FunFrames base outer
 frf:(∀b∈frs outer,H b=none)/\TabIn K mg H
 hok:HOk P w H s.heap
 bare:AllBare s.gens
noncomputable def CE (outer:List Env)(P:Program)(w:World)(H:Hp)(s:Shared)(Q:VK)(u:Value)(s':Shared):Prop:=
 ∃v H',s'.os=s.os/\AllBare s'.gens/\Un (frs outer) [] H H' s.heap s'.heap/\HOk P w H' s'.heap/\RelV v u/\Q v H'
noncomputable def CR (CX:CXT)(outer:List Env)(P:Program)(w:World)(H:Hp)(s:Shared)(Q:VK)(E:XK)(r:Result)(s':Shared):Prop:=
 match r with
 | .ok (.ret u)=>CE outer P w H s Q u s'
 | .ok _=>False
 | .error e=>CX outer H s E e s'
structure FnOk (P:Program) (w:World) (K:W.Frag) (mg:Str->Option Value) (base:Heap) (CX:CXT) (k:Nat) (f:Addr) (fd:FuncData) (ps:List Str) (sp:Sp):Prop where
 len:∀vs H Q E,sp vs H Q E->vs.length=ps.length
 run:∀(A:Around) (outer:List Env) (s:Shared) (H:Hp) (args:Args) (us:List Value) (vs:List V) (Q:VK) (E:XK),Room k A->Env0 P w K mg base A outer s H->BindsTo s fd args (ps.zip us)->Vals vs us->sp vs H Q E->
  codeAny (model P w) A (.call (.ref f) args) (CR CX outer P w H s Q E) s
section
variable {X:Cx} {pins:List (Addr×Obj)} {σ:St} {H:Hp} {s s':Shared}
theorem Inv.env0 (I:Inv X pins σ H s):Env0 X.prog X.w X.K X.mg X.base X.A X.stack s H:=
 ⟨I.ok.frames,I.ok.mod,I.bs,Nat.le_trans I.ok.bsz I.sz,I.stack,⟨I.stkFree,I.tab⟩,I.hok,I.bare⟩
theorem Inv.after {Q:VK}(I:Inv X pins σ H s)(h:CE X.stack X.prog X.w H s Q u s'):EP X pins σ Q u s':=by
 obtain⟨v,H',os,bare,un,hok,r,q⟩:=h
 obtain⟨hh,g,d,t,os'⟩:=s'
 obtain rfl:os'=s.os:=os
 exact⟨v,H',I.call (h':=hh) (g':=g) (d':=d) (t':=t) (ch:=[]) un hok bare (fun b z=>absurd z (by simp)),r,q⟩
end
noncomputable def tCall (sp:Sp)(dvs:List V)(E:XK)(t:TA):TE:=fun σ H Q=>t σ H fun vs H1=>sp (vs++dvs) H1 Q E
noncomputable def Binds (K:W.Frag)(fd:FuncData)(ps:List Str)(ds:List Value):Prop:=
 ∀(s:Shared) (us:List Value),K.In s.heap->(us++ds).length=ps.length->BindsTo s fd ⟨us,[]⟩ (ps.zip (us++ds))
theorem Binds.all (h:∀us:List Value,us.length=ps.length->bindArgs fd ⟨us,[]⟩=pure (ps.zip us)):Binds K fd ps []:=fun s us _ hl=>by
 rw[List.append_nil]at hl ⊢
 exact .of_eq (h us hl)
noncomputable def zoa (CX:CXT)(X:Cx)(E:XK):Prop:=∀(pins:List (Addr×Obj)) (σ:St) (H:Hp) (s:Shared) (e:Value) (s':Shared),Inv X pins σ H s->CX X.stack H s E e s'->X.xe e s'
section
variable {X:Cx} {CX:CXT} {k:Nat} {f C:Addr} {fd:FuncData} {ps:List Str} {sp:Sp} {dvs:List V} {ds:List Value} {E:XK} {x m:Str} {p pos apos:Pos} {e o:Expr} {es:List Expr} {ta:TE} {t:TA}
theorem run_fn {Q:VK}(F:FnOk X.prog X.w X.K X.mg X.base CX k f fd ps sp)(hr:Room k X.A)(hb:Binds X.K fd ps ds)(hd:Vals dvs ds)(hx:zoa CX X E)
  (I:Inv X pins σ H s) (r:Vals vs us) (h:sp (vs++dvs) H Q E):wpAny (model X.prog X.w) X.A (call (.ref f) us) (EP X pins σ Q) X.xe s:=by
 have r2:Vals (vs++dvs) (us++ds):=r.append hd
 have hl:(us++ds).length=ps.length:=by rw[<-r2.length];exact F.len _ _ _ _ h
 refine wpAny_call (codeAny_mono (F.run X.A X.stack s H ⟨us,[]⟩ (us++ds) (vs++dvs) Q E hr I.env0 (hb s us I.kIn hl) r2 h) fun r s' hq=>?_)
 cases r with
 |error e=>exact hx pins σ H s e s' I hq
 |ok fl=>
  cases fl with
  |ret u=>exact I.after hq
  |next=>exact False.elim hq
  |brk=>exact False.elim hq
  |cont=>exact False.elim hq
theorem zh7 (F:FnOk X.prog X.w X.K X.mg X.base CX k f fd ps sp)(hr:Room k X.A)(hg:Gl X x)(hm:X.mg x=some (.ref f))(hk:W.keepIn X.K (.ref f)=true)(hb:Binds X.K fd ps ds)(hd:Vals dvs ds)(hx:zoa CX X E)
  (ha:PA X (e::es) t) (hdb:autoParam ((x==("__debug__":Str))=false) zu1._auto_1) (he:autoParam (starEach (e::es) X.env=(false,eval e X.env)::starEach es X.env) zu2._auto_1) (hpl:autoParam ((backTo pos (starEach es X.env)).any (·.1)=false) zu2._auto_1):
  PE X (.Call (.Name x p) (e::es) [] pos) (tCall sp dvs E t):=by
 intro pins s σ H Q I h
 refine wpAny_Call_Name_kw (ld_glob I hg hm ?_ hdb)
 refine W.callWith_K (h₀:=X.base) I.ok.mod.kin hk (thn (ha pos pins s σ H _ I h) fun us s1 ⟨vs,H1,I1,r,q⟩=>⟨I1.kIn,?_⟩) he hpl
 exact run_fn F hr hb hd hx I1 r q
end
structure FnScope (N P:List Str) (sc:Scope):Prop where
 kind:sc.kind= .function
 co:sc.isCoroutine=false
 gen:sc.isGenerator=false
 nd:N.Nodup
 pre:N.take P.length=P
 par:∀x∈P,sc.names.lookup x=some .local\/sc.names.lookup x=some .cell
 nofree:∀y∈sc.names,y.2≠ .free
theorem zlf:∀{binds:List (Str×Value)} {m:Str->Option Value},(∀v,(x,v)∉binds)->bindL kindOf binds m x=m x
 |[],_,_=>rfl
 |(n,v)::r,m,h=>by
  unfold bindL
  rw[zlf fun w hw=>h w (List.mem_cons_of_mem _ hw)]
  split
  ·have:x≠n:=by rintro rfl;exact h v List.mem_cons_self
   simp[this]
  ·rfl
theorem zkX:∀{binds:List (Str×Value)} {m:Str->Option Value},(∀v,(x,v)∉binds)->bindC kindOf binds m x=m x
 |[],_,_=>rfl
 |(n,v)::r,m,h=>by
  unfold bindC
  rw[zkX fun w hw=>h w (List.mem_cons_of_mem _ hw)]
  split
  ·rfl
  ·have:x≠n:=by rintro rfl;exact h v List.mem_cons_self
   simp[this]
theorem zla {v:Value}:∀{P:List Str} {vs:List Value} {i:Nat} {m:Str->Option Value},P.Nodup->P[i]? =some x->vs[i]? =some v->kindOf x=some .local->
  bindL kindOf (P.zip vs) m x=some v
 |[],_,_,_,_,h,_,_=>by simp at h
 |_::_,[],_,_,_,_,h,_=>by simp at h
 |p::P,w::vs,0,m,nd,h1,h2,hk=>by
  simp at h1 h2;subst h1;subst h2
  show bindL kindOf ((p,w)::P.zip vs) m p=_
  unfold bindL
  rw[zlf fun v hv=>(List.nodup_cons.mp nd).1 (List.of_mem_zip hv).1,if_pos hk]
  simp
 |p::P,w::vs,i+1,m,nd,h1,h2,hk=>by
  show bindL kindOf ((p,w)::P.zip vs) m x=_
  unfold bindL
  exact zla (i:=i) (List.nodup_cons.mp nd).2 (by simpa using h1) (by simpa using h2) hk
theorem zkF {v:Value}:∀{P:List Str} {vs:List Value} {i:Nat} {m:Str->Option Value},P.Nodup->P[i]? =some x->vs[i]? =some v->kindOf x≠some .local->
  bindC kindOf (P.zip vs) m x=some v
 |[],_,_,_,_,h,_,_=>by simp at h
 |_::_,[],_,_,_,_,h,_=>by simp at h
 |p::P,w::vs,0,m,nd,h1,h2,hk=>by
  simp at h1 h2;subst h1;subst h2
  show bindC kindOf ((p,w)::P.zip vs) m p=_
  unfold bindC
  rw[zkX fun v hv=>(List.nodup_cons.mp nd).1 (List.of_mem_zip hv).1,if_neg hk]
  simp
 |p::P,w::vs,i+1,m,nd,h1,h2,hk=>by
  show bindC kindOf ((p,w)::P.zip vs) m x=_
  unfold bindC
  exact zkF (i:=i) (List.nodup_cons.mp nd).2 (by simpa using h1) (by simpa using h2) hk
noncomputable def start (N:List Str)(vs:List V):St:=vs.map some++List.replicate (N.length-vs.length) none
noncomputable def cxOf (CX:CXT)(P:Program)(w:World)(K:W.Frag)(mg:Str->Option Value)(base:Heap)(N:List Str)(qual:Str)(scope:Scope)(f:Addr)(cd:Value)(A:Around)(outer:List Env)(s:Shared)(H:Hp)(E:XK):Cx where
 prog:=P
 w:=w
 K:=K
 mg:=mg
 base:=base
 A:=A.deeper (envOfC qual scope s.heap.objs.size f cd)
 N:=N
 s₀:=s
 H₀:=H
 env:=envOfC qual scope s.heap.objs.size f cd
 outer:=outer
 stack:=envOfC qual scope s.heap.objs.size f cd::outer
 ex:=[]
 calm:=true
 fn:=fun _=>true
 pn:=[]
 xe:=fun e s'=>wpAny (model P w) (A.deeper (envOfC qual scope s.heap.objs.size f cd)) (leaving (envOfC qual scope s.heap.objs.size f cd) e) (fun _ s''=>CX outer H s E e s'') (fun e' s''=>CX outer H s E e' s'') s'
theorem zmx (h:sc.names.lookup x=some .cell):∃c,(cellsFrom n sc.names []).lookup x=some c:=by
 have q:=W.cellsFrom_some sc.names n [] (.inl h)
 exact Option.isSome_iff_exists.mp q
theorem zom {P:Program}{f:Addr}{s s1:Shared}{E:XK}
  (S:FnScope N ps scope) (hd:A.handled=none) (e0:Env0 P w K mg base A outer s H) (hl:vs.length=ps.length) (r:Vals vs us)
  (x:InCallC s s.heap.objs.size (bindL (envOfC qual scope s.heap.objs.size f cd).kindOf (ps.zip us) fun _=>none) (cellsFrom (s.heap.objs.size+1) scope.names []) (bindC (envOfC qual scope s.heap.objs.size f cd).kindOf (ps.zip us) fun _=>none) s1):
  Inv (cxOf CX P w K mg base N qual scope f cd A outer s H E) [] (start N vs) H s1:=by
 have hpl:ps.length<=N.length:=by have:=congrArg List.length S.pre;rw[List.length_take]at this;lia
 obtain⟨h1,tk,rfl,hk⟩:=x.done
 have noA:∀b:Addr,b∉(cxOf CX P w K mg base N qual scope f cd A outer s H E).ex:=fun b z=>absurd (show b∈([]:List Addr)from z) (by simp)
 refine⟨⟨e0.mod,S.kind,rfl,rfl,Nat.le_refl _,fun y z c h1 h2=>?_,fun y hy=>?_,fun y c _ h=>?_,fun _=>hd,Around.frames_deeper e0.frames,.inr ⟨rfl,rfl⟩,fun b z=>absurd z (noA b),e0.bs,e0.bsz,fun b _ _=>noA b,fun b z=>absurd z (noA b),e0.funs,e0.frf⟩,
  rfl,e0.bare,Un.kept hk,⟨_,x.toInCall.ns,fun i y v h1 h2 h3=>?_⟩,fun y c h=>⟨_,x.cell y c h⟩,e0.hok.fresh (Nat.le_refl _),fun y c h=>?_,fun p hp=>absurd (show p∈([]:List (Addr×Obj))from hp) (by simp),e0.hok.kept hk,?_⟩
 ·exact name_of_addr x.apart (PySem.mem_of_lookup h1) (PySem.mem_of_lookup h2)
 ·have hy:scope.names.lookup y=some .cell\/scope.names.lookup y=some .free:=hy
  rcases hy with hy|hy
  ·exact zmx hy
  ·exact absurd rfl (S.nofree _ (PySem.mem_of_lookup hy))
 ·exact Nat.le_of_lt (x.above y c (PySem.mem_of_lookup h))
 ·have hi:i<vs.length:=by
   unfold start at h2
   by_cases hi:i<vs.length
   ·exact hi
   ·rw[List.getElem?_append_right (by simpa using hi)]at h2
    rw[List.getElem?_replicate]at h2
    split at h2<;>cases h2
  have ha:vs[i]? =some v:=by
   unfold start at h2
   rw[List.getElem?_append_left (by simpa using hi),List.getElem?_map]at h2
   cases e:vs[i]? with
   |none=>rw[e]at h2;cases h2
   |some a=>rw[e]at h2;cases h2;rfl
  obtain⟨u,hu,rv⟩:=r.get ha
  have hp:ps[i]? =some y:=by
   rw[<-S.pre,List.getElem?_take_of_lt (by lia)];exact h1
  have ndP:ps.Nodup:=by rw[<-S.pre];exact S.nd.sublist (List.take_sublist _ _)
  refine⟨u,rv,?_⟩
  rcases S.par y (List.mem_of_getElem? hp)with k|k
  ·exact .inl ⟨k,zla ndP hp hu k⟩
  ·obtain⟨c,e⟩:=zmx (n:=s.heap.objs.size+1) k
   refine .inr ⟨.inl k,c,e,?_⟩
   have q:=x.cell y c e
   rw[zkF ndP hp hu (by show scope.names.lookup y≠_;rw[k];decide)]at q
   exact q
 ·exact e0.hok.fresh (Nat.le_of_lt (x.above y c (PySem.mem_of_lookup h)))
 ·unfold start
  show _=N.length
  rw[List.length_append,List.length_map,List.length_replicate]
  lia
theorem fn_of {P:Program}{f:Addr}{name qual:Str}{dV kV doc pm cdv ct oc:Value}{an od:Option Addr}
  {osl:Array (Option Value)} {N ps:List Str} {sp:Sp} (lk:K.lookup f=some ⟨oc,od,.func (W.fnOf name qual params body scope dV kV doc pm an cdv ct),osl⟩) (hcd:W.codeIn K cdv qual=true) (S:FnScope N ps scope)
  (len:∀vs H Q E,sp vs H Q E->vs.length=ps.length)
  (hbody : ∀ (A : Around) (outer : List Env) (s : Shared) (H : Hp) (vs : List V) (Q : VK) (E : XK), Room k (A.deeper (envOfC qual scope s.heap.objs.size f cdv)) -> sp vs H Q E ->
   ∃t,PSs (cxOf CX P w K mg base N qual scope f cdv A outer s H E) body t/\t {nx:=fun _ H'=>Q .non H',rt:=Q} (start N vs) H):
  FnOk P w K mg base CX (k+1) f (W.fnOf name qual params body scope dV kV doc pm an cdv ct) ps sp:=by
 refine⟨len,fun A outer s H args us vs Q E hr e0 hb r hsp=>?_⟩
 have hl:=len _ _ _ _ hsp
 have KX:K.In s.heap:=e0.mod.kin.keeps fun b o e=>(e0.bs b o e).1
 have lim:s.heap.NoLimit:=e0.mod.nolimit.keeps fun b o e=>(e0.bs b o e).1
 have hkind:∀y∈ps.zip us,scope.names.lookup y.1=some .local\/(scope.names.lookup y.1=some .cell/\((cellsFrom (s.heap.objs.size+1) scope.names []).lookup y.1).isSome=true):=fun⟨n,v⟩ hy=>by
  rcases S.par n (List.of_mem_zip hy).1 with q|q
  ·exact .inl q
  ·exact .inr ⟨q,W.cellsFrom_some _ _ _ (.inl q)⟩
 refine codeAny_call_function hr.depth (KX _ _ lk) rfl S.co S.gen rfl (W.codeRec_of KX hcd) (hb _ _ _ _ ?_)
 refine wpAny_newFunctionEnv_cells S.kind hkind fun env he s1 x=>?_
 subst he
 refine⟨lim.keeps x.toInCall.keep,codeAny_func ?_⟩
 obtain⟨t,ht,hq⟩:=hbody A outer s H vs Q E (hr.deeper _) hsp
 have I:Inv (cxOf CX P w K mg base N qual scope f cdv A outer s H E) [] (start N vs) H s1:=zom S hr.hd e0 hl r x
 refine wpAny_mono (ht [] s1 (start N vs) H _ I hq) (fun fl s' hs=>?_) fun e s' hs=>hs
 have fin:∀{σ':St} {H':Hp} {v:V} {u:Value},Inv (cxOf CX P w K mg base N qual scope f cdv A outer s H E) [] σ' H' s'->RelV v u->Q v H'->CE outer P w H s Q u s':=
  fun{σ' H' v u} J rv q=>⟨v,H',J.os,J.bare,J.base,J.hok,rv,q⟩
 cases fl with
 |ret u=>
  obtain⟨v,σ',H',J,rv,q⟩:=hs
  exact fin J rv q
 |next=>
  obtain⟨σ',H',J,q⟩:=hs
  exact fin (v:=V.non) (u:=Value.none) J rfl q
 |brk=>
  obtain⟨_,_,_,q⟩:=hs
  exact False.elim q
 |cont=>
  obtain⟨_,_,_,q⟩:=hs
  exact False.elim q
section
variable {X:Cx} {x:Str} {p pos:Pos} {e:Expr} {es:List Expr} {t:TA} {id T:String} {r:List V->Hp->VK->Prop}
noncomputable def tCB (r:List V->Hp->VK->Prop)(t:TA):TE:=fun σ H Q=>t σ H fun vs H1=>r vs H1 Q
theorem zfW (hc:zeb X (.builtin id) r)(hg:Gl X x)(hm:X.mg x=none)(hv:bootBuiltins x=some (.builtin id))(ha:PA X (e::es) t)(hn:autoParam (x≠"__name__") zu1._auto_1)(hdb:autoParam ((x==("__debug__":Str))=false) zu1._auto_1)
  (he:autoParam (starEach (e::es) X.env=(false,eval e X.env)::starEach es X.env) zu2._auto_1) (hpl:autoParam ((backTo pos (starEach es X.env)).any (·.1)=false) zu2._auto_1):PE X (.Call (.Name x p) (e::es) [] pos) (tCB r t):=by
 intro pins s σ H Q I h
 refine wpAny_Call_Name_kw (zgK I hg hm hv ?_ hn hdb)
 exact PyProof.Rows.callWith_builtin1 (thn (ha pos pins s σ H _ I h) fun us s1 ⟨vs,H1,I1,r1,q1⟩=>hc pins s1 σ H1 vs us Q I1 r1 q1) he hpl
theorem zfo (hc:zeb X (.type T) r)(hg:Gl X x)(hm:X.mg x=none)(hv:bootBuiltins x=some (.type T))(ha:PA X (e::es) t)(hn:autoParam (x≠"__name__") zu1._auto_1)(hdb:autoParam ((x==("__debug__":Str))=false) zu1._auto_1)
  (he:autoParam (starEach (e::es) X.env=(false,eval e X.env)::starEach es X.env) zu2._auto_1) (hpl:autoParam ((backTo pos (starEach es X.env)).any (·.1)=false) zu2._auto_1):PE X (.Call (.Name x p) (e::es) [] pos) (tCB r t):=by
 intro pins s σ H Q I h
 refine wpAny_Call_Name_kw (zgK I hg hm hv ?_ hn hdb)
 exact PyProof.Rows.callWith_type1 (thn (ha pos pins s σ H _ I h) fun us s1 ⟨vs,H1,I1,r1,q1⟩=>hc pins s1 σ H1 vs us Q I1 r1 q1) he hpl
end
end L2
namespace HT
open PyProof.Rows PySem
noncomputable def ziQ:List Int->List Int->Bool
 |[],[]=>false
 |[],_::_=>true
 |_::_,[]=>false
 |x::xs,y::ys=>if x=y then ziQ xs ys else decide (x<y)
theorem zdW (x y:Int)(xs ys:List Int):ziQ (x::xs) (y::ys)=if x=y then ziQ xs ys else decide (x<y):=rfl
section
variable {prog:Program} {w:World} {A:Around} {E:Value->Shared->Prop} {s:Shared}
theorem cat_tup {t b:Addr}{vs ws:List Value}{Q:Value->Shared->Prop}(ht:IsTup s.heap t vs.toArray)(hb:IsTup s.heap b ws.toArray)(hv:vs≠[])
  (h1:ws=[]->Q (.ref t) s) (h2:ws≠[]->Q (.ref s.heap.objs.size) {s with heap:=s.heap.push {cls:= .type "tuple",data:= .seq (vs++ws).toArray}})
  (hsz:vs.length+ws.length<=sizeLine):wpAny (model prog w) A (binaryOp .Add (.ref t) (.ref b)) Q E s:=by
 obtain⟨⟨cls,dd,data,sl⟩,ho,hc,n,hd⟩:=id ht
 obtain⟨⟨cls2,dd2,data2,sl2⟩,ho2,hc2,n2,hd2⟩:=id hb
 simp only at hc hd hc2 hd2
 subst hc hd hc2 hd2
 have e:vs.toArray++ws.toArray=(vs++ws).toArray:=by simp
 by_cases hw:ws=[]
 ·exact concat_meets ⟨_,ho,rfl⟩ ⟨_,ho2,rfl⟩ noFill_tuple_add seq_tuple_add PySem.F.slot_tuple_add PySem.F.entry_tuple_add (PySem.F.args_tuple_add_2 _ _)
   (tuple_addW1 t b vs.toArray ws.toArray n n2 dd dd2 sl sl2 (by simpa using hv) (by simp[hw])) ⟨ho,ho2,h1 hw⟩
 ·refine concat_meets ⟨_,ho,rfl⟩ ⟨_,ho2,rfl⟩ noFill_tuple_add seq_tuple_add PySem.F.slot_tuple_add PySem.F.entry_tuple_add (PySem.F.args_tuple_add_2 _ _)
   (tuple_addW2 t b vs.toArray ws.toArray n n2 dd dd2 sl sl2 (by simpa using hv) (by simpa using hw) (by rw[List.size_toArray,List.size_toArray];exact hsz)) ⟨ho,ho2,?_⟩
  rw[e]
  exact h2 hw
noncomputable def sIx (n d:Nat):Option Int->Nat
 |none=>d
 |some v=>if v<0 then(v+(n:Int)).toNat else min v.toNat n
theorem zkd (n d:Nat):sIx n d none=d:=rfl
theorem zjN (n d k:Nat):sIx n d (some (k:Int))=min k n:=by
 show(if(k:Int)<0 then((k:Int)+(n:Int)).toNat else min (k:Int).toNat n)=min k n
 rw[if_neg (by lia),Int.toNat_natCast]
theorem sIx_le (n d:Nat)(hd:d<=n)(o:Option Int):sIx n d o<=n:=by
 cases o with
 |none=>exact hd
 |some v=>
  show(if v<0 then(v+(n:Int)).toNat else min v.toNat n)<=n
  by_cases hv:v<0
  ·rw[if_pos hv];lia
  ·rw[if_neg hv];exact Nat.min_le_right _ _
theorem zpr (v:Int)(n d:Nat):(if v<0 then max (v+(n:Int)) 0 else min v (n:Int))=((sIx n d (some v):Nat):Int):=by
 show(if v<0 then max (v+(n:Int)) 0 else min v (n:Int))=(((if v<0 then(v+(n:Int)).toNat else min v.toNat n):Nat):Int)
 by_cases hv:v<0
 ·simp only[if_pos hv];lia
 ·simp only[if_neg hv];lia
theorem zm2 (lo hi:Option Int)(n:Nat):Builtin.Slice.sliceAdjust lo hi 1 (n:Int)=(((sIx n 0 lo:Nat):Int),((sIx n n hi:Nat):Int)):=by
 have h1:¬((1:Int)<0):=by lia
 unfold Builtin.Slice.sliceAdjust
 simp only[h1,if_false]
 refine Prod.ext ?_ ?_
 ·cases lo with
  |none=>rfl
  |some v=>exact zpr v n 0
 ·cases hi with
  |none=>rfl
  |some v=>exact zpr v n n
theorem znp (i j:Nat):Builtin.Slice.slicePlaces (i:Int) (j:Int) 1=j-i:=by
 unfold Builtin.Slice.slicePlaces
 have h1:(1:Int)>0:=by lia
 simp only[h1,if_true,Int.ediv_one]
 split<;>lia
theorem zfX {v:Value}{o:Option Int}{Q:Option Int->Shared->Prop}(p:IsPart v o)(h:Q o s):wpAny (model prog w) A (Builtin.Slice.slicePartIndex v) Q E s:=by
 cases p with
 |none=>exact slicePart_none h
 |int i t=>exact slicePart_int h
theorem zeS {sl:Addr}{vl vu:Value}{lo hi:Option Int}{n:Nat}{Q:Int×Int×Nat->Shared->Prop}(hs:s.heap.IsSliceOf sl vl vu .none)(pl:IsPart vl lo)(pu:IsPart vu hi)
  (h:Q (((sIx n 0 lo:Nat):Int),1,sIx n n hi-sIx n 0 lo) s):wpAny (model prog w) A (Builtin.Slice.sliceApplied (.ref sl) (pure (n:Int))) Q E s:=by
 obtain⟨os,hos,hcs,hds⟩:=id hs
 unfold Builtin.Slice.sliceApplied Builtin.Slice.sliceFields
 refine wpAny_bind (wpAny_bind (wpAny_field hos hds (x:=vl) rfl (wpAny_bind (wpAny_field hos hds (x:=vu) rfl (wpAny_bind (wpAny_field hos hds (x:= .none) rfl (wpAny_pure ?_)))))))
 refine wpAny_bind (slicePart_none ?_)
 show wpAny _ _ (if((1:Int)==0)=true then _ else _) _ _ s
 rw[if_neg (by decide)]
 refine wpAny_bind (zfX pl (wpAny_bind (zfX pu (wpAny_bind (wpAny_pure ?_)))))
 show wpAny _ _ (match Builtin.Slice.sliceAdjust lo hi 1 (n:Int)with|(lo,hi)=>pure (lo,(1:Int),Builtin.Slice.slicePlaces lo hi 1)) _ _ s
 rw[zm2 lo hi n]
 show wpAny _ _ (pure (((sIx n 0 lo:Nat):Int),(1:Int),Builtin.Slice.slicePlaces ((sIx n 0 lo:Nat):Int) ((sIx n n hi:Nat):Int) 1)) _ _ s
 rw[znp]
 exact wpAny_pure h
theorem pick_gen (xs:Array Value)(i k:Nat):((List.range k).filterMap fun(m:Nat)=>xs[((i:Int)+(m:Int)*1).toNat]?).toArray=((xs.toList.drop i).take k).toArray:=by
 have e:(fun(m:Nat)=>xs[((i:Int)+(m:Int)*1).toNat]?)=fun m=>xs[i+m]?:=by
  funext m
  have:((i:Int)+(m:Int)*1).toNat=i+m:=by lia
  rw[this]
 rw[e]
 have:=pick_run xs i k
 rw[List.filterMap_map]at this
 have e2:((fun x=>xs[x]?) ∘ fun x=>i+x)=fun m=>xs[i+m]?:=rfl
 rw[e2]at this
 rw[this]
theorem zht {t sl:Addr}{items:Array Value}{vl vu:Value}{lo hi:Option Int}{Q:Value->Shared->Prop}(ht:IsTup s.heap t items)(hs:s.heap.IsSliceOf sl vl vu .none)(pl:IsPart vl lo)(pu:IsPart vu hi)
  (hw:¬(sIx items.size 0 lo=0/\sIx items.size items.size hi=items.size))
  (h:Q (.ref s.heap.objs.size) {s with heap:=s.heap.push {cls:= .type "tuple",data:= .seq ((items.toList.drop (sIx items.size 0 lo)).take (sIx items.size items.size hi-sIx items.size 0 lo)).toArray}})
  (hsz:items.size<=sizeLine):wpAny (model prog w) A (getItem (.ref t) (.ref sl)) Q E s:=by
 have htake:sizeOk (.seq ((items.toList.drop (sIx items.size 0 lo)).take (sIx items.size items.size hi-sIx items.size 0 lo)).toArray):=by
  show((items.toList.drop (sIx items.size 0 lo)).take (sIx items.size items.size hi-sIx items.size 0 lo)).toArray.size<=sizeLine
  rw[List.size_toArray,List.length_take,List.length_drop,Array.length_toList]
  lia
 have hj:sIx items.size items.size hi<=items.size:=sIx_le _ _ (Nat.le_refl _) hi
 obtain⟨os,hos,hcs,hds⟩:=id hs
 have hTs:s.TypeIs (.ref sl) "slice":=⟨os,hos,hcs⟩
 unfold getItem
 try with_reducible refine wpAny_holding ?_
 first|refine wpAny_bind (wpAny_pure ?_)|skip
 refine wpAny_bind (wpAny_sequenceKey ht.typeIs (by decide) ?_)
 refine wpAny_bind (wpAny_callSpecial?_slot (name:=Str.ofString "__getitem__") ht.typeIs PyProof.Rows.slot_tuple_getitem
  (wpAny_call_entry PyProof.Rows.slot_tuple_getitem ht.typeIs entry_tuple_getitem ?_ (args_tuple_getitem _ _)))
 show wpAny _ _ (Builtin.Tuple.tupleItemsOf (.ref t)>>=_) _ _ s
 refine wpAny_bind (tupleItemsOf_ ht ?_)
 refine wpAny_bind (wpAny_typeOf hTs ?_)
 rw[if_pos (by decide)]
 refine wpAny_bind (zeS hs pl pu ?_)
 have hno:¬((((sIx items.size 0 lo:Nat):Int)==0&&(1:Int)==1&&(sIx items.size items.size hi-sIx items.size 0 lo)==items.size)=true):=by
  intro q
  rw[Bool.and_eq_true,Bool.and_eq_true]at q
  have q1:((sIx items.size 0 lo:Nat):Int)=0:=eq_of_beq q.1.1
  have q2:sIx items.size items.size hi-sIx items.size 0 lo=items.size:=eq_of_beq q.2
  exact hw ⟨by lia,by lia⟩
 show wpAny _ _ (if(((sIx items.size 0 lo:Nat):Int)==0&&(1:Int)==1&&(sIx items.size items.size hi-sIx items.size 0 lo)==items.size)=true then _ else _) _ _ s
 rw[if_neg hno,pick_gen]
 first
  |exact wpAny_bind (m:=Builtin.Tuple.tupleExact _) (wpAny_newObj_type (wpAny_pure ⟨_,rfl,wpAny_pure h⟩) htake)
  |exact wpAny_bind (m:=Builtin.Tuple.tupleExact _) (wpAny_newObj_type (wpAny_bind (wpAny_pure (wpAny_pure ⟨_,rfl,wpAny_pure h⟩))) htake)
  |exact wpAny_bind (wpAny_bind (m:=Builtin.Tuple.tupleExact _) (wpAny_newObj_type (wpAny_pure (wpAny_pure ⟨_,rfl,wpAny_pure h⟩)) htake))
  |exact wpAny_bind (wpAny_bind (m:=Builtin.Tuple.tupleExact _) (wpAny_newObj_type (wpAny_pure ⟨_,rfl,wpAny_pure h⟩) htake))
end
end HT
namespace L2
open PyProof.Rows PySem PySem.Spec
variable {ns:List Int} {r r':V->Option Int->Option Int->Hp->VK->Prop} {xs:List V} {us its its':List Value} {n j t':Nat} {i:Int} {pins:List (Addr×Obj)} {σ:St} {H:Hp} {s:Shared} {p:Addr} {f:Array Value->Array Value} {A:Around} {y x:V} {u v:Value}
noncomputable abbrev TO:=St->Hp->(Option Int->Hp->Prop)->Prop
noncomputable def PO (X:Cx)(e:Option Expr)(t:TO):Prop:=
 ∀(pins:List (Addr×Obj)) (s:Shared) (σ:St) (H:Hp) (Q:Option Int->Hp->Prop),Inv X pins σ H s->t σ H Q->
  wpAny (model X.prog X.w) X.A (evalPart e X.env) (fun u s'=>∃o H',Inv X pins σ H' s'/\IsPart u o/\Q o H') X.xe s
noncomputable def tNoPart:TO:=fun _ H Q=>Q none H
noncomputable def tPart (t:TE):TO:=fun σ H Q=>t σ H fun x H1=>∃i,x= .int i/\Q (some i) H1
theorem zbI:∀{us:List Value},Vals (ns.map V.int) us->IntsAre us ns:=by
 induction ns with
 |nil=>intro us r;rw[List.map_nil]at r;cases r;exact .nil
 |cons n ns ih=>
  intro us r
  rw[List.map_cons]at r
  cases r with
  |cons r1 r2=>
   obtain⟨t,e⟩:=r1
   subst e
   exact .cons n t (ih r2)
section
variable {X:Cx} {e:Expr} {te:TE} {lo hi:Option Expr} {tl th:TO} {pos p2:Pos}
theorem po_none:PO X none tNoPart:=by
 intro pins s σ H Q I h
 rw[evalPart_none]
 exact wpAny_pure ⟨none,H,I,.none,h⟩
theorem po_some (h:PE X e te):PO X (some e) (tPart te):=by
 intro pins s σ H Q I hw
 rw[evalPart_some]
 refine thn (h pins s σ H _ I hw) fun u s1 ⟨x,H1,I1,r1,q1⟩=>?_
 obtain⟨i,rfl,q⟩:=q1
 obtain⟨t,rfl⟩:=r1
 exact⟨some i,H1,I1,.int i t,q⟩
noncomputable def SlR (X:Cx)(r:V->Option Int->Option Int->Hp->VK->Prop):Prop:=
 ∀(pins:List (Addr×Obj)) (s:Shared) (σ:St) (H:Hp) (x:V) (v vl vu:Value) (lo hi:Option Int) (sl:Addr) (Q:VK),Inv X pins σ H s->RelV x v->s.heap.IsSliceOf sl vl vu .none->IsPart vl lo->IsPart vu hi->r x lo hi H Q->
  ∃T id,typeLookup (.type T) "__getitem__"=pure (some (.builtin id))/\s.TypeIs v T/\wpAny (model X.prog X.w) X.A (getItem v (.ref sl)) (EP X pins σ Q) X.xe s
theorem SlR.or (h:SlR X r)(h':SlR X r'):SlR X (fun x lo hi H Q=>r x lo hi H Q\/r' x lo hi H Q):=by
 intro pins s σ H x v vl vu lo hi sl Q I rx hs pl pu q
 rcases q with q|q
 ·exact h pins s σ H x v vl vu lo hi sl Q I rx hs pl pu q
 ·exact h' pins s σ H x v vl vu lo hi sl Q I rx hs pl pu q
noncomputable def tSl (r:V->Option Int->Option Int->Hp->VK->Prop)(te:TE)(tl th:TO):TE:=fun σ H Q=>te σ H fun x H1=>tl σ H1 fun l H2=>th σ H2 fun u H3=>r x l u H3 Q
theorem pe_slice (hr:SlR X r)(he:PE X e te)(hl:PO X lo tl)(hu:PO X hi th):PE X (.Subscript e (.Slice lo hi none p2) pos) (tSl r te tl th):=by
 intro pins s σ H Q I h
 refine Subscript_ (thn (he pins s σ H _ I h) fun v s1 ⟨x,H1,I1,r1,q1⟩=>?_)
 refine wpAny_Slice (thn (hl pins s1 σ H1 _ I1 q1) fun vl s2 ⟨l,H2,I2,pl,q2⟩=>thn (hu pins s2 σ H2 _ I2 q2) fun vu s3 ⟨u,H3,I3,pu,q3⟩=>?_)
 rw[evalPart_none]
 refine wpAny_pure ?_
 have I4:Inv X pins σ H3 {s3 with heap:=s3.heap.push {cls:= .type "slice",data:= .fields #[vl,vu,.none]}}:=I3.kept (t':=s3.toks) fun b ob q=>Heap.get?_push_of_some _ q
 obtain⟨T,id,hT,ht,hg⟩:=hr pins {s3 with heap:=s3.heap.push {cls:= .type "slice",data:= .fields #[vl,vu,.none]}} σ H3 x v vl vu l u s3.heap.objs.size Q I4 r1 (Heap.IsSliceOf.new ..) pl pu q3
 show wpAny (model X.prog X.w) X.A (subscriptTail e (.Slice lo hi none p2) v (.ref s3.heap.objs.size)) (EP X pins σ Q) X.xe {s3 with heap:=s3.heap.push {cls:= .type "slice",data:= .fields #[vl,vu,.none]}}
 exact tail_any (ops:=[.ref s3.heap.objs.size,v]) ht hT hg (by with_unfolding_all rfl)
noncomputable def cutV (xs:List V)(lo hi:Option Int):List V:=(xs.drop (HT.sIx xs.length 0 lo)).take (HT.sIx xs.length xs.length hi-HT.sIx xs.length 0 lo)
theorem ziy (xs:List V)(lo hi:Option Int):(cutV xs lo hi).length<=xs.length:=by
 unfold cutV
 rw[List.length_take,List.length_drop]
 lia
noncomputable def rSlT (K:W.Frag):V->Option Int->Option Int->Hp->VK->Prop:=fun x lo hi H Q=>∃a xs,x= .ref a/\SqT K H a xs/\
 ¬(HT.sIx xs.length 0 lo=0/\HT.sIx xs.length xs.length hi=xs.length)/\∀p,H p=none->Q (.ref p) (upd H p (.tup (cutV xs lo hi)))
theorem sl_tup:SlR X (rSlT X.K):=by
 intro pins s σ H x v vl vu lo hi sl Q I rx hs pl pu h
 obtain⟨a,xs,rfl,hx,hw,q⟩:=h
 cases rx
 obtain⟨its,r,ht,hz⟩:=I.tuple hx
 have hlen:its.toArray.size=xs.length:=by rw[List.size_toArray];exact r.length.symm
 refine⟨"tuple",_,PyProof.Rows.slot_tuple_getitem.lookup,ht.typeIs,?_⟩
 refine HT.zht ht hs pl pu (by rw[hlen];exact hw) ?_ (by rw[hlen];exact hz)
 rw[hlen]
 refine⟨.ref s.heap.objs.size,_,I.laid (t':=s.toks) (o:= .tup (cutV xs lo hi)) (fun b ob q=>Heap.get?_push_of_some _ q) (Nat.le_refl _) ?_,rfl,q _ (I.hok.fresh (Nat.le_refl _))⟩
 exact⟨Nat.le_trans (ziy xs lo hi) hz,_,(r.drop (HT.sIx xs.length 0 lo)).take (HT.sIx xs.length xs.length hi-HT.sIx xs.length 0 lo),IsTupD.new _ _⟩
noncomputable def rCatT (K:W.Frag):R2:=fun x y H Q=>∃a b xs ys,x= .ref a/\y= .ref b/\SqT K H a xs/\SqT K H b ys/\xs≠[]/\xs.length+ys.length<=sizeLine/\
 (ys=[]->Q (.ref a) H)/\(ys≠[]->∀p,H p=none->Q (.ref p) (upd H p (.tup (xs++ys))))
theorem Vals.nil_iff (r:Vals xs us):us=[]↔xs=[]:=by
 cases r with
 |nil=>simp
 |cons _ _=>simp
theorem op_catT:OpR X (binaryOp .Add) (rCatT X.K):=by
 intro pins s σ H x y v u Q I rx ry h
 obtain⟨a,b,xs,ys,rfl,rfl,ha,hb,hx,hz,q1,q2⟩:=h
 cases rx
 cases ry
 obtain⟨its,r1,p1,_⟩:=I.tuple ha
 obtain⟨its2,r2,p2,_⟩:=I.tuple hb
 refine HT.cat_tup p1 p2 (fun z=>hx (r1.nil_iff.mp z)) (fun z=>⟨.ref a,H,I,rfl,q1 (r2.nil_iff.mp z)⟩) (fun z=>?_) (by rw[<-r1.length,<-r2.length];exact hz)
 refine⟨.ref s.heap.objs.size,_,I.laid (t':=s.toks) (o:= .tup (xs++ys)) (fun b ob q=>Heap.get?_push_of_some _ q) (Nat.le_refl _) ?_,rfl,q2 (fun w=>z (r2.nil_iff.mpr w)) _ (I.hok.fresh (Nat.le_refl _))⟩
 exact⟨by rw[List.length_append];exact hz,_,r1.append r2,IsTupD.new _ _⟩
end
noncomputable def ixN (n:Nat)(i:Int):Option Nat:=if 0<=i then(if i<n then some i.toNat else none)else if-(n:Int)<=i then some (i+n).toNat else none
noncomputable def atI {α:Type}(xs:List α)(i:Int):Option α:=(ixN xs.length i).bind fun j=>xs[j]?
theorem zof {n:Nat}(h:ixN n i=some j):seqIndex? i n=some j/\j<n/\ -(n:Int)<=i/\i<n:=by
 unfold ixN at h
 by_cases h0:0<=i
 ·rw[if_pos h0]at h
  by_cases h1:i<n
  ·rw[if_pos h1]at h
   have e:i.toNat=j:=Option.some.inj h
   exact⟨by rw[seqIndex_of h0 h1,e],by lia,by lia,h1⟩
  ·rw[if_neg h1]at h;cases h
 ·rw[if_neg h0]at h
  by_cases h1: -(n:Int)<=i
  ·rw[if_pos h1]at h
   have e:(i+n).toNat=j:=Option.some.inj h
   exact⟨by rw[seqIndex_neg (by lia) h1,e],by lia,h1,by lia⟩
  ·rw[if_neg h1]at h;cases h
theorem zlV {α:Type}{xs:List α}{v:α}(h:atI xs i=some v):∃j,seqIndex? i xs.length=some j/\xs[j]? =some v/\j<xs.length/\ -(xs.length:Int)<=i/\i<xs.length:=by
 unfold atI at h
 cases e:ixN xs.length i with
 |none=>rw[e]at h;cases h
 |some j=>
  rw[e]at h
  obtain⟨h1,h2,h3,h4⟩:=zof e
  exact⟨j,h1,h,h2,h3,h4⟩
noncomputable def zgF (b:Expr):Prop:=∀o i,subscripted b false o i=operate [o,i] (getItem o i)
noncomputable def IxR (X:Cx)(r:R2):Prop:=
 ∀(value slice:Expr) (pins:List (Addr×Obj)) (s:Shared) (σ:St) (H:Hp) (x y:V) (v u:Value) (Q:VK),Inv X pins σ H s->RelV x v->RelV y u->r x y H Q->
  subscripted slice false v u=operate [v,u] (getItem v u)->wpAny (model X.prog X.w) X.A (subscriptTail value slice v u) (EP X pins σ Q) X.xe s
noncomputable def MtR (X:Cx)(id:String)(r:V->List V->Hp->VK->Prop):Prop:=
 ∀(pins:List (Addr×Obj)) (s:Shared) (σ:St) (H:Hp) (x:V) (xs:List V) (v:Value) (us:List Value) (Q:VK),Inv X pins σ H s->RelV x v->Vals xs us->r x xs H Q->
  wpAny (model X.prog X.w) X.A (call (.builtin id) (v::us)) (EP X pins σ Q) X.xe s
section
variable {X:Cx} {a b:Expr} {ta tb:TE} {pos:Pos}
theorem IxR.or {r r':R2}(h:IxR X r)(h':IxR X r'):IxR X (fun x y H Q=>r x y H Q\/r' x y H Q):=by
 intro value slice pins s σ H x y v u Q I rx ry q hs
 rcases q with q|q
 ·exact h value slice pins s σ H x y v u Q I rx ry q hs
 ·exact h' value slice pins s σ H x y v u Q I rx ry q hs
theorem znr {r:R2}(hr:IxR X r)(ha:PE X a ta)(hb:PE X b tb)(hs:zgF b):PE X (.Subscript a b pos) (tOp r ta tb):=by
 intro pins s σ H Q I h
 exact Subscript_ (binT ha hb I h fun v u s2 x y H2 I2 rx ry q=>hr a b pins s2 σ H2 x y v u Q I2 rx ry q (hs _ _))
noncomputable def rIxL (K:W.Frag):R2:=fun x y H Q=>∃p xs i v,x= .ref p/\y= .int i/\SqL K H p xs/\atI xs i=some v/\Q v H
noncomputable def rIxT (K:W.Frag):R2:=fun x y H Q=>∃p xs i v,x= .ref p/\y= .int i/\SqT K H p xs/\atI xs i=some v/\Q v H
noncomputable def rIxS:R2:=fun x y H Q=>∃z i c,x= .str z/\y= .int i/\z.length<=sizeLine/\atI z.cps.toList i=some c/\Q (.str ⟨#[c]⟩) H
theorem ix_list:IxR X (rIxL X.K):=by
 intro value slice pins s σ H x y v u Q I rx ry h hs
 obtain⟨p,xs,i,z,rfl,rfl,hq,he,q⟩:=h
 cases rx
 obtain⟨t,rfl⟩:=ry
 obtain⟨its,r,pl,hz⟩:=I.list hq
 obtain⟨j,h1,h2,h3,h4,h5⟩:=zlV he
 obtain⟨w,ew,rw'⟩:=r.get h2
 have hl:=r.length
 have hn:=zjc
 have fin:EP X pins σ Q w s:=⟨z,H,I,rw',q⟩
 by_cases h0:0<=i
 ·have hj:i.toNat=j:=by
   rw[seqIndex_of h0 h5]at h1
   exact Option.some.inj h1
  exact item_listR pl.isList h0 (by lia) (by rw[hj];simpa using ew) fin hs
 ·have hj:(i+(its.toArray.size:Int)).toNat=j:=by
   rw[seqIndex_neg (by lia) h4]at h1
   rw[List.size_toArray,<-hl]
   exact Option.some.inj h1
  exact subscriptTail_builtinR (x:=w) pl.isList.typeIs slot_list_getitem.lookup
   (wpAny_getItem_list_neg (Q:=fun r s'=>r=w/\EP X pins σ Q r s') pl.isList (by lia) (by rw[List.size_toArray]<;>lia) (by lia) (by rw[hj];simpa using ew) ⟨rfl,fin⟩) hs
theorem ix_tup:IxR X (rIxT X.K):=by
 intro value slice pins s σ H x y v u Q I rx ry h hs
 obtain⟨p,xs,i,z,rfl,rfl,hq,he,q⟩:=h
 cases rx
 obtain⟨t,rfl⟩:=ry
 obtain⟨its,r,pl,hz⟩:=I.tuple hq
 obtain⟨j,h1,h2,h3,h4,h5⟩:=zlV he
 obtain⟨w,ew,rw'⟩:=r.get h2
 have hl:=r.length
 have hn:=zjc
 have fin:EP X pins σ Q w s:=⟨z,H,I,rw',q⟩
 exact subscriptTail_builtinR (x:=w) pl.typeIs slot_tuple_getitem.lookup
  (getItem_tuple (j:=j) (Q:=fun r s'=>r=w/\EP X pins σ Q r s') pl (by lia) (by lia) (by rw[List.size_toArray,<-hl];exact h1) (by simpa using ew) ⟨rfl,fin⟩) hs
theorem ix_str:IxR X rIxS:=by
 intro value slice pins s σ H x y v u Q I rx ry h hs
 obtain⟨z,i,c,rfl,rfl,hz,he,q⟩:=h
 obtain⟨t,rfl⟩:=rx
 obtain⟨t',rfl⟩:=ry
 obtain⟨j,h1,h2,h3,h4,h5⟩:=zlV he
 have hl:z.cps.toList.length=z.length:=by simp[Str.length]
 rw[hl]at h1 h4 h5
 have hn:=zjc
 exact tail_any (typeIs_str s z t) slot_str_getitem.lookup (getItem_str (c:=c) (by
  have e1:decide (i< -(2^63:Int))=false:=decide_eq_false (by lia)
  have e2:decide (i>=2^63)=false:=decide_eq_false (by lia)
  rw[e1,e2,Bool.or_false]) (by rw[h1];simpa using h2) ⟨.str ⟨#[c]⟩,H,I.tok _,⟨_,rfl⟩,q⟩) hs
noncomputable def rIx (K:W.Frag):R2:=fun x y H Q=>rIxL K x y H Q\/rIxT K x y H Q\/rIxS x y H Q
theorem zn7:IxR X (rIx X.K):=ix_list.or (ix_tup.or ix_str)
theorem zna (its:List Value)(n j:Nat)(u:Value):Obj.mapSeq (·.setIfInBounds j u) {cls:= .type "list",data:= .seq its.toArray n}={cls:= .type "list",data:= .seq (its.set j u).toArray n}:=by
 simp[Obj.mapSeq]
theorem Inv.lst (I:Inv X pins σ H s)(h:H p=some (.lst xs)):
  ∃(its:List Value) (n:Nat),Vals xs its/\s.heap.get? p=some {cls:= .type "list",data:= .seq its.toArray n}/\xs.length<=sizeLine:=by
 obtain⟨z,its,n,r,e⟩:=I.hok p _ h
 exact⟨its,n,r,e,z⟩
theorem Inv.lstUpd {xs ys:List V}{n n':Nat}{f:Obj->Obj}(I:Inv X pins σ H s)(h:H p=some (.lst xs))
  (ho:s.heap.get? p=some {cls:= .type "list",data:= .seq its.toArray n}) (hf:f {cls:= .type "list",data:= .seq its.toArray n}={cls:= .type "list",data:= .seq its'.toArray n'}) (r:Vals ys its') (hz:ys.length<=sizeLine) (t:Nat):
  Inv X pins σ (upd H p (.lst ys)) {s with heap:=s.heap.update p f,toks:=t}:=by
 have e:(s.heap.update p f).get? p=some {cls:= .type "list",data:= .seq its'.toArray n'}:=by
  rw[Heap.get?_update_self f ho (by rw[hf]<;>rfl),hf]
 refine I.write (x:=p) (e:=p) (by rw[h];trivial) (.inl rfl) (fun b u hb q=>(Heap.get?_update_other _ _ (Ne.symm hb)).trans q) ⟨_,e⟩ ?_
 exact⟨hz,its',n',r,e⟩
noncomputable def rSetL:V->V->V->Hp->(Hp->Prop)->Prop:=fun o i v H Q=>∃p xs k j,o= .ref p/\i= .int k/\H p=some (.lst xs)/\ixN xs.length k=some j/\Q (upd H p (.lst (xs.set j v)))
theorem set_list:PSet X rSetL:=by
 intro pins s σ H o i v ov iv u Q I ro ri rv h
 obtain⟨p,xs,k,j,rfl,rfl,hp,hj,q⟩:=h
 cases ro
 obtain⟨t,rfl⟩:=ri
 obtain⟨its,n,r,ho,hz⟩:=I.lst hp
 obtain⟨h1,h2,h3,h4⟩:=zof hj
 have hl:=r.length
 have hn:=zjc
 have I':Inv X pins σ (upd H p (.lst (xs.set j v))) {s with heap:=s.heap.update p (Obj.mapSeq (·.setIfInBounds j u))}:=
  I.lstUpd hp ho (zna its n j u) (r.set rv j) (by rw[List.length_set];exact hz) s.toks
 by_cases h0:0<=k
 ·have hk:k.toNat=j:=by
   rw[seqIndex_of h0 h4]at h1
   exact Option.some.inj h1
  exact W.ki_setAt ho h0 (by lia) (by rw[List.size_toArray,<-hl];exact h4) (by rw[hk];exact⟨_,I',q⟩)
 ·have hk:(k+(its.toArray.size:Int)).toNat=j:=by
   rw[seqIndex_neg (by lia) h3]at h1
   rw[List.size_toArray,<-hl]
   exact Option.some.inj h1
  exact W.ki_setBack ho (by lia) (by rw[List.size_toArray,<-hl];exact h3) (by lia) (by rw[hk];exact⟨_,I',q⟩)
theorem zkq (lo hi:Option Int)(n:Nat):(sliceBounds lo hi none n).1=((HT.sIx n 0 lo:Nat):Int)/\(sliceBounds lo hi none n).2.1=((HT.sIx n n hi:Nat):Int)/\(sliceBounds lo hi none n).2.2=1:=by
 refine⟨?_,?_,rfl⟩
 ·cases lo with
  |none=>simp[sliceBounds,HT.sIx]
  |some i=>
   simp only[sliceBounds,HT.sIx,Option.getD_none,show(1:Int)>0 by decide,if_true]
   by_cases h:i<0
   ·simp only[h,if_true]<;>lia
   ·simp only[h,if_false]<;>lia
 ·cases hi with
  |none=>simp[sliceBounds,HT.sIx]
  |some i=>
   simp only[sliceBounds,HT.sIx,Option.getD_none,show(1:Int)>0 by decide,if_true]
   by_cases h:i<0
   ·simp only[h,if_true]<;>lia
   ·simp only[h,if_false]<;>lia
theorem zjI (its:List Value)(lo hi:Option Int):slicePick its.toArray lo hi none=((its.drop (HT.sIx its.length 0 lo)).take (HT.sIx its.length its.length hi-HT.sIx its.length 0 lo)).toArray:=by
 obtain⟨h1,h2,h3⟩:=zkq lo hi its.toArray.size
 unfold slicePick
 rw[h1,h2,h3]
 simp only[sliceRange_one,pick_run,List.size_toArray]<;>rfl
noncomputable def rSlL (K:W.Frag):V->Option Int->Option Int->Hp->VK->Prop:=fun x lo hi H Q=>∃a xs,x= .ref a/\SqL K H a xs/\∀p,H p=none->Q (.ref p) (upd H p (.lst (cutV xs lo hi)))
theorem sl_list:SlR X (rSlL X.K):=by
 intro pins s σ H x v vl vu lo hi sl Q I rx hs pl pu h
 obtain⟨a,xs,rfl,hx,q⟩:=h
 cases rx
 obtain⟨its,r,ht,hz⟩:=I.list hx
 have hlen:=r.length
 refine⟨"list",_,slot_list_getitem.lookup,ht.isList.typeIs,?_⟩
 refine wpAny_getItem_list_slice ht.isList hs pl pu .none (by simp) ?_ (by rw[List.size_toArray]<;>lia)
 rw[zjI,<-hlen]
 refine⟨.ref s.heap.objs.size,_,I.laid (t':=s.toks) (o:= .lst (cutV xs lo hi)) (fun b ob q=>Heap.get?_push_of_some _ q) (Nat.le_refl _) ?_,rfl,q _ (I.hok.fresh (Nat.le_refl _))⟩
 exact⟨Nat.le_trans (ziy xs lo hi) hz,_,0,(r.drop (HT.sIx xs.length 0 lo)).take (HT.sIx xs.length xs.length hi-HT.sIx xs.length 0 lo),Heap.get?_push_size _ rfl⟩
noncomputable def ziT:V->Bool
 | .non=>true
 | .bl _=>true
 | .int _=>true
 | .str _=>true
 |_=>false
noncomputable def eqV:V->V->Bool
 | .non,.non=>true
 | .bl a,.bl b=>a==b
 | .bl a,.int b=>(if a then 1 else 0)==b
 | .int a,.bl b=>a==(if b then 1 else 0)
 | .int a,.int b=>a==b
 | .str a,.str b=>a==b
 |_,_=>false
theorem eqAt_V (ry:RelV y u)(rx:RelV x v)(fy:ziT y=true)(fx:ziT x=true):SeqAt.EqAt A s u v (eqV y x):=by
 cases y with
 |non=>
  cases ry
  cases x with
  |non=>cases rx;exact SeqAt.EqAt.same _
  |bl b=>cases rx;exact SeqAt.EqAt.none_bool b
  |int b=>obtain⟨t,rfl⟩:=rx;exact SeqAt.EqAt.none_int b t
  |str b=>obtain⟨t,rfl⟩:=rx;exact SeqAt.EqAt.none_str b t
  |_=>exact absurd (show false=true from fx) Bool.false_ne_true
 |bl a=>
  cases ry
  cases x with
  |non=>cases rx;exact SeqAt.EqAt.bool_none a
  |bl b=>cases rx;exact SeqAt.EqAt.bool_bool a b
  |int b=>obtain⟨t,rfl⟩:=rx;exact SeqAt.EqAt.bool_int a b t
  |str b=>obtain⟨t,rfl⟩:=rx;exact SeqAt.EqAt.bool_str a b t
  |_=>exact absurd (show false=true from fx) Bool.false_ne_true
 |int a=>
  obtain⟨t',rfl⟩:=ry
  cases x with
  |non=>cases rx;exact SeqAt.EqAt.int_none a t'
  |bl b=>cases rx;exact SeqAt.EqAt.int_bool a t' b
  |int b=>obtain⟨t,rfl⟩:=rx;exact SeqAt.EqAt.int_int a t' b t
  |str b=>obtain⟨t,rfl⟩:=rx;exact SeqAt.EqAt.int_str a t' b t
  |_=>exact absurd (show false=true from fx) Bool.false_ne_true
 |str a=>
  obtain⟨t',rfl⟩:=ry
  cases x with
  |non=>cases rx;exact SeqAt.EqAt.str_none a t'
  |bl b=>cases rx;exact SeqAt.EqAt.str_bool a t' b
  |int b=>obtain⟨t,rfl⟩:=rx;exact SeqAt.EqAt.str_int a t' b t
  |str b=>obtain⟨t,rfl⟩:=rx;exact SeqAt.EqAt.str_str a t' b t
  |_=>exact absurd (show false=true from fx) Bool.false_ne_true
 |_=>exact absurd (show false=true from fy) Bool.false_ne_true
noncomputable def eqU (x:V)(u:Value):Bool:=match u with
 | .none=>eqV .non x
 | .bool b=>eqV (.bl b) x
 | .int i _=>eqV (.int i) x
 | .str z _=>eqV (.str z) x
 |_=>false
theorem eqU_of (r:RelV y u)(f:ziT y=true):eqU x u=eqV y x:=by
 cases y with
 |non=>cases r;rfl
 |bl b=>cases r;rfl
 |int i=>obtain⟨t,rfl⟩:=r;rfl
 |str z=>obtain⟨t,rfl⟩:=r;rfl
 |_=>exact absurd (show false=true from f) Bool.false_ne_true
theorem zlx:∀{xs:List V} {us:List Value},Vals xs us->xs.all ziT=true->us.any (eqU x)=xs.any fun y=>eqV y x
 |_,_,.nil,_=>rfl
 |y::xs,u::us,.cons r t,f=>by
  rw[List.all_cons,Bool.and_eq_true]at f
  rw[List.any_cons,List.any_cons,eqU_of r f.1,zlx t f.2]
theorem zjY (rx:RelV x v)(fx:ziT x=true):∀{xs:List V} {us:List Value},Vals xs us->xs.all ziT=true->∀u∈us,SeqAt.EqAt A s u v (eqU x u)
 |_,_,.nil,_=>fun u hu=>by cases hu
 |y::xs,u::us,.cons r t,f=>fun u' hu=>by
  rw[List.all_cons,Bool.and_eq_true]at f
  rcases List.mem_cons.mp hu with rfl|hu
  ·rw[eqU_of r f.1];exact eqAt_V r rx f.1 fx
  ·exact zjY rx fx t f.2 u' hu
noncomputable def inV (x:V)(xs:List V):Bool:=xs.any fun y=>eqV y x
noncomputable def rIn (K:W.Frag)(neg:Bool):R2:=fun x y H Q=>∃p xs,y= .ref p/\(SqL K H p xs\/SqT K H p xs)/\ziT x=true/\xs.all ziT=true/\Q (.bl (if neg then !inV x xs else inV x xs)) H
theorem zkY:OpR X (compareOp .In) (rIn X.K false):=by
 intro pins s σ H x y v u Q I rx ry h
 obtain⟨p,xs,rfl,hq,fx,fs,q⟩:=h
 cases ry
 rcases hq with hq|hq
 ·obtain⟨its,r,pl,hz⟩:=I.list hq
  refine SeqAt.in_listAt (eqU x) pl.isList (fun w hw=>zjY rx fx r fs w (by simpa using hw)) ⟨.bl _,H,I,rfl,?_⟩
  rw[show its.toArray.any (eqU x)=its.any (eqU x) by simp,zlx r fs]
  exact q
 ·obtain⟨its,r,pl,hz⟩:=I.tuple hq
  refine SeqAt.in_tupleAt (eqU x) pl (fun w hw=>zjY rx fx r fs w (by simpa using hw)) ⟨.bl _,H,I,rfl,?_⟩
  rw[show its.toArray.any (eqU x)=its.any (eqU x) by simp,zlx r fs]
  exact q
theorem zhK:zeb X (.builtin "len") (fun xs H Q=>∃p ys,xs=[.ref p]/\(SqL X.K H p ys\/SqT X.K H p ys)/\Q (.int ys.length) H):=by
 intro pins s σ H xs us Q I r h
 obtain⟨p,ys,rfl,hq,q⟩:=h
 obtain⟨u,rfl,rx⟩:=zgP r
 cases rx
 have hn:=zjc
 rcases hq with hq|hq
 ·obtain⟨its,r',pl,hz⟩:=I.list hq
  have hlen:=r'.length
  exact Calls.call_len_list pl.isList (by simp only[List.size_toArray]<;>lia) ⟨.int ys.length,H,I.tok _,⟨s.toks+1,by rw[List.size_toArray,hlen]⟩,q⟩
 ·obtain⟨its,r',pl,hz⟩:=I.tuple hq
  have hlen:=r'.length
  exact len_tuple pl (by simp only[List.size_toArray]<;>lia) ⟨.int ys.length,H,I.tok _,⟨s.toks+1,by rw[List.size_toArray,hlen]⟩,q⟩
theorem zhy:zeb X (.type "list") (fun xs H Q=>∃p ys,xs=[.ref p]/\(SqL X.K H p ys\/SqT X.K H p ys)/\∀l,H l=none->Q (.ref l) (upd H l (.lst ys))):=by
 intro pins s σ H xs us Q I r h
 obtain⟨p,ys,rfl,hq,q⟩:=h
 obtain⟨u,rfl,rx⟩:=zgP r
 cases rx
 have fin:∀(its:List Value),Vals ys its->ys.length<=sizeLine->∀(h':Heap) (c':Nat),(∀b o',s.heap.get? b=some o'->h'.get? b=some o')->
   h'.get? s.heap.objs.size=some {cls:= .type "list",dict:=none,data:= .seq its.toArray c',slots:= #[]}->EP X pins σ Q (.ref s.heap.objs.size) {s with heap:=h'}:=fun its r' hz h' c' kp e=>
  ⟨.ref s.heap.objs.size,_,I.laid (t':=s.toks) kp (Nat.le_refl _) (show ObjOk X.prog X.w _ h' _ (.lst ys)from⟨hz,its,c',r',e⟩),rfl,q _ (I.hok.fresh (Nat.le_refl _))⟩
 rcases hq with hq|hq
 ·obtain⟨its,r',pl,hz⟩:=I.list hq
  have hlen:=r'.length
  obtain⟨o,ho,hc,n,hd⟩:=pl.isList
  exact call_list_seq p (.inl rfl) ho hc hd (fun h' c' kp e=>fin its r' hz h' c' kp e) (by simp only[List.size_toArray]<;>lia)
 ·obtain⟨its,r',pl,hz⟩:=I.tuple hq
  have hlen:=r'.length
  obtain⟨o,ho,hc,n,hd⟩:=pl
  exact call_list_seq p (.inr rfl) ho hc hd (fun h' c' kp e=>fin its r' hz h' c' kp e) (by simp only[List.size_toArray]<;>lia)
theorem zjF:zeb X (.type "tuple") (fun xs H Q=>∃p ys,xs=[.ref p]/\((SqL X.K H p ys/\∀l,H l=none->Q (.ref l) (upd H l (.tup ys)))\/(SqT X.K H p ys/\Q (.ref p) H))):=by
 intro pins s σ H xs us Q I r h
 obtain⟨p,ys,rfl,h⟩:=h
 obtain⟨u,rfl,rx⟩:=zgP r
 cases rx
 rcases h with⟨hq,q⟩|⟨hq,q⟩
 ·obtain⟨its,r',pl,hz⟩:=I.list hq
  have hlen:=r'.length
  refine call_tuple_list pl.isList (fun h' kp=>?_) (by simp only[List.size_toArray]<;>lia)
  have I1:Inv X pins σ H {s with heap:=h'}:=I.kept (t':=s.toks) kp
  have I2:Inv X pins σ (upd H h'.objs.size (.tup ys)) {s with heap:=h'.push {cls:= .type "tuple",data:= .seq its.toArray}}:=
   I1.laid (t':=s.toks) (fun b o e=>Heap.get?_push_of_some _ e) (Nat.le_refl _) (show ObjOk X.prog X.w _ _ _ (.tup ys)from⟨hz,its,r',IsTupD.new _ _⟩)
  exact⟨.ref h'.objs.size,_,I2,rfl,q _ (I1.hok.fresh (Nat.le_refl _))⟩
 ·obtain⟨its,r',pl,hz⟩:=I.tuple hq
  exact call_tuple_same pl ⟨.ref p,H,I,rfl,q⟩
noncomputable def tyV (K:W.Frag)(T:String)(x:V)(H:Hp):Prop:=match x with
 | .str _=>T="str"
 | .int _=>T="int"
 | .ref p=>(T="list"/\∃xs,SqL K H p xs)\/(T="tuple"/\∃o,K.lookup p=some o/\o.cls= .type "tuple"/\o.dict=none)\/
   (T="dict"/\((∃kvs,H p=some (.dK kvs))\/∃kvs,H p=some (.dT kvs)))\/(T="set"/\∃S n,H p=some (.set S n))
 |_=>False
theorem tyV_is {T:String}(I:Inv X pins σ H s)(r:RelV x v)(ty:tyV X.K T x H):
  s.TypeIs v T/\∀a,v= .ref a->∃ob,s.heap.get? a=some ob/\ob.dict=none:=by
 cases x with
 |str z=>
  obtain⟨t,rfl⟩:=r
  cases(show T="str" from ty)
  exact⟨typeIs_str s z t,fun _ e=>nomatch e⟩
 |int i=>
  obtain⟨t,rfl⟩:=r
  cases(show T="int" from ty)
  exact⟨typeIs_int s i t,fun _ e=>nomatch e⟩
 |ref p=>
  cases r
  rcases ty with⟨rfl,xs,hq⟩|⟨rfl,o,hk,hc,hd⟩|⟨rfl,hk⟩|⟨rfl,S,n,hk⟩
  ·obtain⟨its,_,pl,_⟩:=I.list hq
   refine⟨pl.isList.typeIs,fun a e=>?_⟩
   cases e
   obtain⟨o,n,e,c,hd,_⟩:=pl
   exact⟨o,e,hd⟩
  ·refine⟨⟨o,I.kIn p o hk,hc⟩,fun a e=>?_⟩
   cases e
   exact⟨o,I.kIn _ o hk,hd⟩
  ·have z:∃o,s.heap.get? p=some o/\o.ExactDict:=by
    rcases hk with⟨kvs,hk⟩|⟨kvs,hk⟩
    ·obtain⟨_,_,_,_,o,_,_,e,ex,_⟩:=I.hok p _ hk
     exact⟨o,e,ex⟩
    ·obtain⟨_,_,_,_,o,_,_,e,ex,_⟩:=I.hok p _ hk
     exact⟨o,e,ex⟩
   obtain⟨o,e,ex⟩:=z
   refine⟨⟨o,e,ex.1⟩,fun a e2=>?_⟩
   cases e2
   exact⟨o,e,ex.2.1⟩
  ·obtain⟨o,_,_,_,e,ex,_⟩:=I.hok p _ hk
   refine⟨⟨o,e,ex.1⟩,fun a e2=>?_⟩
   cases e2
   exact⟨o,e,ex.2.1⟩
 |_=>exact False.elim ty
noncomputable def tBM (K:W.Frag)(T:String)(r:V->List V->Hp->VK->Prop)(to:TE)(t:TA):TE:=fun σ H Q=>to σ H fun x H1=>tyV K T x H1/\t σ H1 fun xs H2=>r x xs H2 Q
variable {o e:Expr} {es:List Expr} {to:TE} {t:TA} {name:Str} {apos cpos:Pos} {T id:String} {r:V->List V->Hp->VK->Prop}
theorem zny (pa:PlainAttrs T)(slot:Slot T name id)(hty:typeOf (.builtin id)=pure (.type "method_descriptor"))(hm:MtR X id r)(ho:PE X o to)(ha:PA X (e::es) t)
  (hbase:autoParam (attributeBase o name X.env (eval o X.env)=eval o X.env) zu2._auto_1)
  (hfew :autoParam (((backTo cpos (starEach (e :: es) X.env)).all (fun x => !x.1) && (backToKw cpos (keywordEach [] X.env)).all (fun x => x.1.isSome)
   &&decide ((e::es).length+([]:List Keyword).length+(if([]:List Keyword).isEmpty then 0 else 1)<30))=true) zu2._auto_1)
  (hline:autoParam ((apos.endLine==cpos.line)=true) zu2._auto_1) (hs:autoParam (starEach (e::es) X.env=(false,eval e X.env)::starEach es X.env) zu2._auto_1) (hplain:autoParam ((backTo cpos (starEach es X.env)).any (·.1)=false) zu2._auto_1):
  PE X (.Call (.Attribute o name apos) (e::es) [] cpos) (tBM X.K T r to t):=by
 intro pins s σ H Q I h
 refine wpAny_Call_method_late hbase hfew hline rfl (thn (ho pins s σ H _ I h) fun v s1 ⟨x,H1,I1,r1,ty,q1⟩=>?_)
 obtain⟨h1,h2⟩:=tyV_is I1 r1 ty
 refine⟨T,id,pa,slot,hty,h1,h2,?_⟩
 have hA:=ha cpos pins s1 σ H1 _ I1 q1
 rw[hs]at hA ⊢
 refine Calls.callWith_builtin (by show(false||(backTo cpos (starEach es X.env)).any (·.1))=false;rw[hplain]<;>rfl) (Calls.evalArgs_plain ?_)
 exact thn hA fun us s2 ⟨vs,H2,I2,r2,q2⟩=>hm pins s2 σ H2 x vs v us Q I2 r1 r2 q2
end
noncomputable def MtM (X:Cx)(id:String)(r:V->List V->Hp->VK->Prop):Prop:=
 ∀(pins:List (Addr×Obj)) (s:Shared) (σ:St) (H:Hp) (x:V) (xs:List V) (v:Value) (us:List Value) (Q:VK),Inv X pins σ H s->RelV x v->Vals xs us->r x xs H Q->
  wpAny (model X.prog X.w) X.A (call (.builtin id) (v::us)) (EP X pins σ Q) X.xe s
theorem Vals.one:∀{x:V} {us:List Value},Vals [x] us->∃u,us=[u]/\RelV x u
 |_,_,.cons r .nil=>⟨_,rfl,r⟩
theorem Vals.rep (h:Vals xs us):∀k:Nat,Vals (List.replicate k xs).flatten (List.replicate k us).flatten
 |0=> .nil
 |k+1=>by
  rw[List.replicate_succ,List.replicate_succ,List.flatten_cons,List.flatten_cons]
  exact Vals.append h (Vals.rep h k)
theorem zkm (its:List Value):∀(k:Nat) (acc:List Value),
  List.foldl (fun x1 x2=>x1++x2) acc.toArray (List.replicate k its.toArray)=(acc++(List.replicate k its).flatten).toArray
 |0,acc=>by simp
 |k+1,acc=>by
  have e:acc.toArray++its.toArray=(acc++its).toArray:=by simp
  have e2:(acc++its)++(List.replicate k its).flatten=acc++(List.replicate (k+1) its).flatten:=by
   rw[List.replicate_succ,List.flatten_cons,List.append_assoc]
  rw[<-e2,<-zkm its k (acc++its),<-e,List.replicate_succ,List.foldl_cons]
section
variable {X:Cx} {pins:List (Addr×Obj)} {σ:St} {H:Hp} {s:Shared} {l b:Addr} {xs ys zs:List V}
theorem Inv.lset (I:Inv X pins σ H s)(hH:H l=some (.lst xs))
  (e:s.heap.get? l=some {cls:= .type "list",data:= .seq its.toArray n}) (hf:f its.toArray=its'.toArray) (hv:Vals ys its') (hz:ys.length<=sizeLine):
  Inv X pins σ (upd H l (.lst ys)) {s with heap:=s.heap.update l (Obj.mapSeq f),toks:=t'}:=by
 have q:=PySem.IsL.update e f
 rw[hf]at q
 refine I.write (x:=l) (e:=l) (by rw[hH];exact trivial) (.inl rfl) (fun b' u hb hu=>(Heap.get?_update_other s.heap (Obj.mapSeq f) (Ne.symm hb)).trans hu) ⟨_,q⟩ ?_
 exact⟨hz,its',_,hv,q⟩
theorem Inv.lnew (I:Inv X pins σ H s)(hv:Vals ys its)(hz:ys.length<=sizeLine):
  Inv X pins σ (upd H s.heap.objs.size (.lst ys)) {s with heap:=s.heap.push {cls:= .type "list",data:= .seq its.toArray},toks:=t'}:=
 I.laid (fun _ _ q=>Heap.get?_push_of_some _ q) (Nat.le_refl _) ⟨hz,its,0,hv,Heap.get?_push_size _ rfl⟩
theorem Inv.fresh (I:Inv X pins σ H s):H s.heap.objs.size=none:=I.hok.fresh (Nat.le_refl _)
theorem Inv.lstM (I:Inv X pins σ H s)(hH:H l=some (.lst xs)):xs.length<=sizeLine/\∃(its:List Value) (n:Nat),Vals xs its/\xs.length=its.length/\s.heap.get? l=some {cls:= .type "list",data:= .seq its.toArray n}:=by
 obtain⟨z,its,n,r,e⟩:=I.hok l _ hH
 exact⟨z,its,n,r,r.length,e⟩
theorem zmC (h:n<=sizeLine):Builtin.List.listTooLong n=false:=by
 unfold Builtin.List.listTooLong
 exact decide_eq_false (by lia)
end
section
variable {X:Cx}
noncomputable def rAppend:V->List V->Hp->VK->Prop:=fun x vs H Q=>∃l xs y,x= .ref l/\vs=[y]/\H l=some (.lst xs)/\xs.length<sizeLine/\Q .non (upd H l (.lst (xs++[y])))
theorem zic:MtM X "list.append" rAppend:=by
 intro pins s σ H x vs v us Q I rx rv h
 obtain⟨l,xs,y,rfl,rfl,hH,hz,q⟩:=h
 cases rx
 obtain⟨u,rfl,ru⟩:=rv.one
 obtain⟨z,its,n,r,hl,e⟩:=I.lstM hH
 refine call_meets F.slot_list_append ⟨_,e,rfl⟩ F.entry_list_append (F.args_list_append_2 _ _) (PySem.list_append l its.toArray n u (by rw[List.size_toArray];lia)) ⟨e,?_⟩
 refine⟨.non,_,I.lset (its':=its++[u]) hH e (by simp) (r.append (.cons ru .nil)) ?_,rfl,q⟩
 rw[List.length_append,List.length_singleton]
 lia
noncomputable def rExtend:V->List V->Hp->VK->Prop:=fun x vs H Q=>∃l b xs zs,x= .ref l/\vs=[.ref b]/\H l=some (.lst xs)/\H b=some (.lst zs)/\xs.length+zs.length<=sizeLine/\Q .non (upd H l (.lst (xs++zs)))
theorem znO:MtM X "list.extend" rExtend:=by
 intro pins s σ H x vs v us Q I rx rv h
 obtain⟨l,b,xs,zs,rfl,rfl,hH,hB,hz,q⟩:=h
 cases rx
 obtain⟨u,rfl,ru⟩:=rv.one
 cases ru
 obtain⟨z,its,n,r,hl,e⟩:=I.lstM hH
 obtain⟨z2,its2,n2,r2,hl2,e2⟩:=I.lstM hB
 have hsz:its.toArray.size+its2.toArray.size<=sizeLine:=by rw[List.size_toArray,List.size_toArray];lia
 have hlong:¬(!its.toArray.isEmpty&&Builtin.List.listTooLong (its.toArray.size+its2.toArray.size))=true:=by
  rw[zmC hsz,Bool.and_false]
  exact Bool.false_ne_true
 refine call_meets F.slot_list_extend ⟨_,e,rfl⟩ F.entry_list_extend (F.args_list_extend_2 _ _)
  (AutoSeq1.list_extend_list_list_0 l its.toArray n b its2.toArray n2 hlong (by rw[List.size_toArray];lia) (by lia)) ⟨e,e2,?_⟩
 refine⟨.non,_,I.lset (its':=its++its2) hH e (by simp) (r.append r2) ?_,rfl,q⟩
 rw[List.length_append]
 lia
noncomputable def rCat:R2:=fun x y H Q=>∃l b xs zs,x= .ref l/\y= .ref b/\H l=some (.lst xs)/\H b=some (.lst zs)/\xs.length+zs.length<=sizeLine/\∀p,H p=none->Q (.ref p) (upd H p (.lst (xs++zs)))
theorem op_cat:OpR X (binaryOp .Add) rCat:=by
 intro pins s σ H x y v u Q I rx ry h
 obtain⟨l,b,xs,zs,rfl,rfl,hH,hB,hz,q⟩:=h
 cases rx
 cases ry
 obtain⟨z,its,n,r,hl,e⟩:=I.lstM hH
 obtain⟨z2,its2,n2,r2,hl2,e2⟩:=I.lstM hB
 refine PySem.P.add_list e e2 ?_ (by rw[List.size_toArray,List.size_toArray];lia)
 have ea:its.toArray++its2.toArray=(its++its2).toArray:=by simp
 rw[ea]
 exact⟨.ref _,_,I.lnew (t':=s.toks) (r.append r2) (by rw[List.length_append];lia),rfl,q _ I.fresh⟩
noncomputable def rRep:R2:=fun x y H Q=>∃l k xs,x= .ref l/\y= .int k/\H l=some (.lst xs)/\ -(2^63)<=k/\k<2^63/\xs.length*k.toNat<=sizeLine/\
 ∀p,H p=none->Q (.ref p) (upd H p (.lst (List.replicate k.toNat xs).flatten))
theorem len_rep {α:Type}(xs:List α)(k:Nat):(List.replicate k xs).flatten.length=k*xs.length:=by
 induction k with
 |zero=>simp
 |succ k ih=>rw[List.replicate_succ,List.flatten_cons,List.length_append,ih,Nat.succ_mul,Nat.add_comm]
theorem op_rep:OpR X (binaryOp .Mult) rRep:=by
 intro pins s σ H x y v u Q I rx ry h
 obtain⟨l,k,xs,rfl,rfl,hH,h1,h2,hz,q⟩:=h
 cases rx
 obtain⟨t,rfl⟩:=ry
 obtain⟨z,its,n,r,hl,e⟩:=I.lstM hH
 have hlen:its.toArray.size*k.toNat<=sizeLine:=by rw[List.size_toArray,<-hl];exact hz
 have hcap:¬its.toArray.size*k.toNat>(2^63-1)/8:=by
  have:(sizeLine:Nat)<=(2^63-1)/8:=by decide
  lia
 have hfit:¬(!Builtin.List.listFitsIndex k)=true:=by
  rw[fitsIndex_both h1 h2]
  exact Bool.false_ne_true
 have hlong:¬Builtin.List.listTooLong (its.toArray.size*k.toNat)=true:=by
  rw[zmC hlen]
  exact Bool.false_ne_true
 have hnew:List.foldl (fun x1 x2=>x1++x2) #[] (List.replicate (if its.toArray.isEmpty=true then 0 else k.toNat) its.toArray)=(List.replicate k.toNat its).flatten.toArray:=by
  have f0:∀m:Nat,List.foldl (fun x1 x2=>x1++x2) #[] (List.replicate m its.toArray)=(List.replicate m its).flatten.toArray:=fun m=>by
   have:=zkm its m []
   rw[List.nil_append]at this
   exact this
  rw[f0]
  cases its with
  |nil=>simp
  |cons a r'=>rw[if_neg (by simp)]
 refine wpAny_binaryOp_repeat_ref (T:="list") (U:="int") (by decide) ⟨_,e,rfl⟩ (fun s'=>typeIs_int s' k t) noFill_list_mul F.fills_int_mul F.slot_int_rmul repeat_list F.slot_int_index.lookup
  (call_meets F.slot_int_rmul (typeIs_int s k t) F.entry_int_rmul (F.args_int_rmul_2 _ _) (int___rmul___int_list k t l its.toArray n)
   ⟨e,rfl,⟨_,e,rfl⟩,call_meets F.slot_list_mul ⟨_,e,rfl⟩ F.entry_list_mul (F.args_list_mul_2 _ _) (AutoListH.list___mul___list_int_3 l its.toArray n k t hfit hcap hlong) ⟨e,?_⟩⟩)
 rw[hnew]
 exact⟨.ref _,_,I.lnew (t':=s.toks) (r.rep k.toNat) (by rw[len_rep,Nat.mul_comm];exact hz),rfl,q _ I.fresh⟩
end
end L2
namespace Att
open PyProof.Rows PySem PySem.Calls PySem.W
theorem ziv {P:Params}{h:Heap}:∀(ns:List Int) (vs:List Value),WellAll P h vs (ns.map WData.int)->IntsAre vs ns:=by
 intro ns
 induction ns with
 |nil=>
  intro vs w
  rw[List.map_nil]at w
  cases w
  exact .nil
 |cons n ns ih=>
  intro vs w
  rw[List.map_cons]at w
  cases w with
  |cons a b=>
   cases a
   exact .cons _ _ (ih _ b)
theorem zpd {l:OpenLaw}{n:Nat}(hn:l.most=some n){P:Params}{h:Heap}{args:List WData}{vals:List Value}
  (hpre:l.row.toRowW.claim.pre args=true) (hwl:WellAll P h vals args):
  ∃a vs ns,vals=[Value.ref a]/\args=[WData.list (ns.map WData.int)]/\h.get? a=some {cls:= .type "list",data:= .seq vs.toArray}/\IntsAre vs ns/\ns.length<=n:=by
 have hsh:WShape.hasAll [] args [.list .int]=true:=(pre_splitW hpre).1
 have hc:l.pre.holds [] {args:=args}=true:=(pre_splitW hpre).2
 obtain⟨d,r,rfl,h1,h2⟩:=hasAllW_cons hsh
 obtain rfl:=hasAllW_nil h2
 obtain⟨xs,rfl,h3⟩:=hasW_list h1
 obtain⟨ns,rfl⟩:=items_int h3
 have hlen:ns.length<=n:=by
  unfold OpenLaw.pre at hc
  have h4:(WTm.not (.lt (.lit (.int (n:Int))) (.len (.arg 0)))).holds [] {args:=[.list (ns.map .int)]}=true:=by
   have h4:=(holds_andW hc).1
   rw[hn]at h4
   exact h4
  have h5:=condW_of h4 (w_not (w_lt w_lit (w_len_list (w_arg rfl))))
  rw[List.length_map]at h5
  refine Nat.le_of_not_lt fun q=>?_
  have q':(n:Int)<((ns.length:Nat):Int):=by lia
  first
   |(rw[decide_eq_true q']at h5;exact absurd h5 (by decide))
   |(simp at h5;lia)
 cases hwl with
 |cons w1 w2=>
  cases w2
  cases w1 with
  |list ho hall=>exact⟨_,_,ns,rfl,rfl,ho,ziv ns _ hall,hlen⟩
theorem znF (l:OpenLaw)(args:List WData):l.row.toRowW.claim.post args (.bool true) args=true:=
 postW_of (r:=l.row.toRowW) (X:=(true==true))
  (show WShape.has [] (.bool true) .bool=true by first|rfl|decide|simp[WShape.has,WShape.arms,WShape.armsAll])
  (show(WTm.eq .res (.lit (.bool true))).value [] {args:=args,res:=some (.bool true),after:=args}=some (.bool (true==true))from w_eq_bool (w_res rfl) w_lit) rfl
theorem attach_call {l:OpenLaw}{n:Nat}{q:Program}{loose:List Str}{XP:(Str->Option Value)->Heap->Prop}{YP:World->Heap->Prop}{d:DefRec}
  (hn:l.most=some n) (hdf:d.params.defaults=[])
  (call : ∀ (w : World) (s₀ s₁ : Shared) (mg mb : Str -> Option Value) (fa : Addr) (o : Obj) (pm cd doc : Value) (a : Addr) (vs : List Value) (ns : List Int),
   Ground q loose [] XP w s₀ mg mb s₁.heap->YP w s₁.heap->
   s₁.heap.get? fa=some o->o.data= .func (docDef d.name d.params d.body d.scope pm cd doc)->s₁.heap.CodeRec cd d.name->mg d.name=some (.ref fa)->
   s₁.heap.get? a=some {cls:= .type "list",data:= .seq vs.toArray}->IntsAre vs ns->ns.length<=n->s₁.gens= #[]->
   codeAny (model l.prog w) callerA (.call (.ref fa) ⟨[.ref a],[]⟩) (fun r s'=>r= .ok (.ret (.bool true))/\OldK s₁.heap s'.heap/\s'.os=s₁.os/\AllBare s'.gens) s₁):
  WalkO q loose XP YP l.row.toRowW d [] (fun f vs=>PySem.call f vs):=by
 intro w s₀ s₁ mg mb G Y fa o pm cd doc dV kV ho hd hcd hD hmg hg args vals as hpre hlay hrd hwl hlo
 obtain rfl:dV= .none:=Dflts.none hD hdf
 obtain rfl:kV= .none:=Dflts.noKw hD
 obtain⟨a,vs,ns,rfl,rfl,hobj,hints,hlen⟩:=zpd hn hpre hwl
 refine enter_call (codeAny_mono (call w s₀ s₁ mg mb fa o pm cd doc a vs ns G Y ho (fd_plain hd) hcd hmg hobj hints hlen hg) fun r s' hq=>?_)
 obtain⟨rfl,h2,h3,h4⟩:=hq
 exact⟨.inl ⟨.bool true,.bool true,[],rfl,fun _=>rfl,.bool true,znF l _,fun _=>⟨List.Pairwise.nil,fun _ hm=>(nomatch hm)⟩⟩,h2,h3,h4⟩
end Att
namespace L2
open PyProof.Rows PySem PySem.Spec
theorem zfl:∀{vs:List Value} {ns:List Int},IntsAre vs ns->Vals (ns.map V.int) vs
 |_,_,.nil=> .nil
 |_,_,.cons n t h=> .cons ⟨t,rfl⟩ (zfl h)
noncomputable def zfm (s:Stmt):Arguments:=match s with
 | .FunctionDef _ a _ _ _ _ _ _ _ _=>a
 |_=>{posonlyargs:=[],args:=[],vararg:=none,kwonlyargs:=[],kw_defaults:=[],kwarg:=none,defaults:=[]}
noncomputable def zb9 (s:Stmt):List Stmt:=match s with
 | .FunctionDef _ _ b _ _ _ _ _ _ _=>b
 |_=>[]
noncomputable def zaB (s:Stmt):Scope:=match s with
 | .FunctionDef _ _ _ _ _ _ sc _ _ _=>sc
 |_=>{kind:= .function,names:=[],isGenerator:=false,isCoroutine:=false}
noncomputable abbrev CX0:CXT:=fun _ _ _ _ _ _=>False
noncomputable abbrev E0:XK:=fun _ _ _=>False
theorem zoN {X:Cx}:zoa CX0 X E0:=fun _ _ _ _ _ _ _ h=>h.elim
structure Fun (K:W.Frag) (x qual:Str) (st:Stmt) (f:Addr) (fd:FuncData):Prop where
 ex:∃(oc:Value) (od:Option Addr) (kV doc pm:Value) (an:Option Addr) (cdv ct:Value) (osl:Array (Option Value)),
  fd=W.fnOf x qual (zfm st) (zb9 st) (zaB st) .none kV doc pm an cdv ct/\K.lookup f=some ⟨oc,od,.func fd,osl⟩/\W.codeIn K cdv qual=true
 kp:W.keepIn K (.ref f)=true
section
variable {P:Program} {w:World} {K:W.Frag} {mg:Str->Option Value} {base:Heap}
theorem Fun.ok {x qual:Str}{st:Stmt}{f:Addr}{fd:FuncData}{N ps:List Str}{k:Nat}{sp:Sp}(F:Fun K x qual st f fd)(S:FnScope N ps (zaB st))(len:∀vs H Q E,sp vs H Q E->vs.length=ps.length)
  (hbody : ∀ (cdv : Value) (A : Around) (outer : List Env) (s : Shared) (H : Hp) (vs : List V) (Q : VK) (E : XK), Room k (A.deeper (envOfC qual (zaB st) s.heap.objs.size f cdv)) -> sp vs H Q E ->
   ∃t,PSs (cxOf CX0 P w K mg base N qual (zaB st) f cdv A outer s H E).nox (zb9 st) t/\t {nx:=fun _ H'=>Q .non H',rt:=Q} (start N vs) H):FnOk P w K mg base CX0 (k+1) f fd ps sp:=by
 obtain⟨oc,od,kV,doc,pm,an,cdv,ct,osl,rfl,lk,hcd⟩:=F.ex
 refine fn_of lk hcd S len fun A outer s H vs Q E hr hsp=>?_
 obtain⟨t,h,q⟩:=hbody cdv A outer s H vs Q E hr hsp
 exact⟨t,h.nox,q⟩
theorem Fun.binds {x qual:Str}{st:Stmt}{f:Addr}{fd:FuncData}{ps:List Str}(F:Fun K x qual st f fd)
  (h:∀(kV doc pm:Value) (an:Option Addr) (cdv ct:Value) (us:List Value),us.length=ps.length->bindArgs (W.fnOf x qual (zfm st) (zb9 st) (zaB st) .none kV doc pm an cdv ct) ⟨us,[]⟩=pure (ps.zip us)):Binds K fd ps []:=by
 obtain⟨oc,od,kV,doc,pm,an,cdv,ct,osl,rfl,lk,hcd⟩:=F.ex
 exact .all (h kV doc pm an cdv ct)
theorem fun_mk {x qual:Str}{st:Stmt}{f:Addr}{oc:Value}{od an:Option Addr}{osl:Array (Option Value)}{kV doc pm cdv ct:Value}(l:K.lookup f=some ⟨oc,od,.func (W.fnOf x qual (zfm st) (zb9 st) (zaB st) .none kV doc pm an cdv ct),osl⟩)
  (c:W.codeIn K cdv qual=true) (k:W.keepIn K (.ref f)=true):Fun K x qual st f (W.fnOf x qual (zfm st) (zb9 st) (zaB st) .none kV doc pm an cdv ct):=⟨⟨oc,od,kV,doc,pm,an,cdv,ct,osl,rfl,l,c⟩,k⟩
end
section
variable {X:Cx}
theorem pv (i:Nat){x:Str}{pos:Pos}(hN:autoParam (X.N[i]? =some x) zu2._auto_1)(hv:autoParam (Vis X.env.scope x) zu5._auto_1)(hd:autoParam ((x==("__debug__":Str))=false) zu1._auto_1)
  (hcd:autoParam ((x==("__classdict__":Str))=false) zu1._auto_1):PE X (.Name x pos) (tVar i):=zcX hN hv hd hcd
end
noncomputable def Same (H H':Hp):Prop:=∀b o,H b=some o->H' b=some o
theorem Same.seq {K:W.Frag}{H H':Hp}{a:Addr}{xs:List V}(e:Same H H')(h:SqL K H a xs):SqL K H' a xs:=by
 rcases h with(h|⟨o,h⟩)|h
 ·exact .inl (.inl (e _ _ h))
 ·exact .inl (.inr ⟨o,e _ _ h⟩)
 ·exact .inr h
end L2
namespace M
open L2 PySem
variable {G G' H:Hp} {a p l:Addr} {o:Obj} {xs ys:List V} {ks:List (List Int)} {A A':List Addr} {K:W.Frag} {x v:V} {d:D} {ds es:List D} {i:Nat} {c:Ch} {t:T} {ov:Option (Option V)} {s:Sl} {ρ ρ':R} {e:Expr} {b:Bool} {f:D->D->Option D} {ma:ME} {op:Operator} {r:V->Hp->VK->Prop} {g:D->Option D}
inductive D where
 |non|bl (b:Bool)|int (i:Int)|str (x:Str)|lst (ds:List D)|tup (ds:List D)|scr (ns:List Int)|exc (c:Str)|dic (ks:List Int) (ds:List D)|dit (ks:List (List Int)) (ds:List D)
noncomputable def ExcIs (a C:Addr)(h:Heap):Prop:=∃o,h.get? a=some o/\o.cls= .ref C
noncomputable def kI (n:Int):Key:=Sum.inl n
noncomputable def kn (a:Addr)(o:Obj):HO:= .ext (fun h=>h.get? a=some o)
noncomputable def hI:Key->Int
 | .inl k=>hashInt k
 | .inr _=>0
noncomputable def DtN (o:Obj)(xs:List (List Key×Addr×Value)):Prop:=o.ExactDict/\(∃es ep,o.data= .dict es ep/\es.toList=xs.map fun x=>⟨reduceHash (Builtin.Tuple.tupleHashOf (x.1.map hI)),.ref x.2.1,x.2.2⟩)/\(xs.map (·.1)).Nodup
structure DtI (G:Hp) (a:Addr) (o:Obj) (xs:List (List Key×Addr×Value)) (ks:List (List Int)) (ys:List (List Key×V)):Prop where
 sys:(a==sysModules)=false
 dn:DtN o xs
 len:ys.length<=sizeLine
 key:ys.map (·.1)=ks.map (·.map kI)
 kt:Paired (fun(p:List Key×V) (q:List Key×Addr×Value)=>p.1=q.1/\G q.2.1=some (.tup (p.1.map kV))/\RelV p.2 q.2.2) ys xs
mutual
noncomputable def RepD (K:W.Frag)(G:Hp)(v:V):D->Prop
 | .non=>v= .non
 | .bl b=>v= .bl b
 | .int i=>v= .int i
 | .str x=>v= .str x
 | .lst ds=>∃a xs,v= .ref a/\G a=some (.lst xs)/\RepL K G xs ds
 | .tup ds=>∃a xs,v= .ref a/\G a=some (.tup xs)/\RepL K G xs ds
 | .scr ns=>∃a,v= .ref a/\SqL K G a (ns.map V.int)
 | .exc c=>∃a C,v= .ref a/\W.nsIn K mainGlobals c=some (some (.ref C))/\G a=some (.ext (ExcIs a C))
 | .dic ks ds=>∃a ys,v= .ref a/\Rd G a (.dK ys)/\ys.map (·.1)=ks.map kI/\RepL K G (ys.map (·.2)) ds
 | .dit ks ds=>∃a ys o xs,v= .ref a/\G a=some (kn a o)/\DtI G a o xs ks ys/\RepL K G (ys.map (·.2)) ds
noncomputable def RepL (K:W.Frag)(G:Hp)(xs:List V):List D->Prop
 |[]=>xs=[]
 |d::ds=>∃x ys,xs=x::ys/\RepD K G x d/\RepL K G ys ds
end
noncomputable def Fz (G H:Hp):Prop:=∀a o,G a=some o->H a=some o
theorem DtI.mono {xs:List (List Key×Addr×Value)}{ys:List (List Key×V)}(d:DtI G a o xs ks ys)(h:Fz G G'):DtI G' a o xs ks ys:={d with kt:=Paired.mapP d.kt fun _ _ z=>⟨z.1,h _ _ z.2.1,z.2.2⟩}
theorem Fz.refl (G:Hp):Fz G G:=fun _ _ h=>h
theorem Fz.trans {A B C:Hp}(h:Fz A B)(k:Fz B C):Fz A C:=fun a o e=>k a o (h a o e)
theorem Fz.free (h:Fz G H)(e:H p=none):G p=none:=by
 cases q:G p with
 |none=>rfl
 |some o=>rw[h p o q]at e;cases e
theorem Fz.new (e:G p=none)(o:HO):Fz G (upd G p o):=fun a u q=>by
 rw[zap (zax q e)];exact q
theorem Fz.upd2 (h:Fz G H)(p:Addr)(o:HO):Fz (upd G p o) (upd H p o):=fun a u q=>by
 by_cases e:a=p
 ·subst e;rw[zas]at q ⊢;exact q
 ·rw[zap e]at q ⊢;exact h a u q
theorem Fz.right (h:Fz G H)(e:G p=none)(o:HO):Fz G (upd H p o):=fun a u q=>by
 rw[zap (zax q e)];exact h a u q
theorem Fz.sql {G H:Hp}(h:Fz G H)(q:SqL K G a xs):SqL K H a xs:=Same.seq (H:=G) (H':=H) h q
mutual
theorem RepD.mono (h:Fz G G'):∀{v:V} {d:D},RepD K G v d->RepD K G' v d
 |_,.non,e=>e
 |_,.bl _,e=>e
 |_,.int _,e=>e
 |_,.str _,e=>e
 |_,.lst _,⟨a,xs,e,q,r⟩=>⟨a,xs,e,h a _ q,RepL.mono h r⟩
 |_,.tup _,⟨a,xs,e,q,r⟩=>⟨a,xs,e,h a _ q,RepL.mono h r⟩
 |_,.scr _,⟨a,e,q⟩=>⟨a,e,h.sql q⟩
 |_,.exc _,⟨a,C,e,n,q⟩=>⟨a,C,e,n,h a _ q⟩
 |_,.dic _ _,⟨a,ys,e,q,f,r⟩=>⟨a,ys,e,q.imp (h a _) fun⟨o,z⟩=>⟨o,h a _ z⟩,f,RepL.mono h r⟩
 |_,.dit _ _,⟨a,ys,o,xs,e,q,f,r⟩=>⟨a,ys,o,xs,e,h a _ q,f.mono h,RepL.mono h r⟩
theorem RepL.mono (h:Fz G G'):∀{xs:List V} {ds:List D},RepL K G xs ds->RepL K G' xs ds
 |_,[],e=>e
 |_,_::_,⟨x,ys,e,q,r⟩=>⟨x,ys,e,RepD.mono h q,RepL.mono h r⟩
end
section
variable {K:W.Frag} {G:Hp}
theorem RepL.nil:RepL K G [] []:=rfl
theorem RepL.cons {x:V}{d:D}(h:RepD K G x d)(t:RepL K G xs ds):RepL K G (x::xs) (d::ds):=⟨x,xs,rfl,h,t⟩
theorem RepL.length:∀{xs:List V} {ds:List D},RepL K G xs ds->xs.length=ds.length
 |_,[],e=>by cases e;rfl
 |_,_::_,⟨x,ys,e,_,r⟩=>by subst e;rw[List.length_cons,List.length_cons,RepL.length r]
theorem RepL.get:∀{xs:List V} {ds:List D} {i:Nat} {d:D},RepL K G xs ds->ds[i]? =some d->∃x,xs[i]? =some x/\RepD K G x d
 |_,[],_,_,_,h=>by simp at h
 |_,_::_,0,_,⟨x,ys,e,q,r⟩,h=>by subst e;simp at h;subst h;exact⟨x,rfl,q⟩
 |_,_::_,i+1,_,⟨x,ys,e,q,r⟩,h=>by
  subst e
  obtain⟨y,h1,h2⟩:=RepL.get (i:=i) r (by simpa using h)
  exact⟨y,by simpa using h1,h2⟩
theorem RepL.append:∀{xs ys:List V} {ds es:List D},RepL K G xs ds->RepL K G ys es->RepL K G (xs++ys) (ds++es)
 |_,_,[],_,e,r=>by cases e;exact r
 |_,_,_::_,_,⟨x,zs,e,q,r⟩,s=>by subst e;exact⟨x,zs++_,rfl,q,RepL.append r s⟩
theorem RepL.snoc (h:RepL K G xs ds)(q:RepD K G x d):RepL K G (xs++[x]) (ds++[d]):=h.append (.cons q .nil)
theorem RepL.take:∀{xs:List V} {ds:List D} (n:Nat),RepL K G xs ds->RepL K G (xs.take n) (ds.take n)
 |_,_,0,_=>by simp;exact .nil
 |_,[],n+1,e=>by cases e;exact .nil
 |_,_::_,n+1,⟨x,zs,e,q,r⟩=>by subst e;exact⟨x,zs.take n,rfl,q,RepL.take n r⟩
theorem RepL.drop:∀{xs:List V} {ds:List D} (n:Nat),RepL K G xs ds->RepL K G (xs.drop n) (ds.drop n)
 |_,_,0,r=>by simpa using r
 |_,[],n+1,e=>by cases e;exact .nil
 |_,_::_,n+1,⟨x,zs,e,q,r⟩=>by subst e;exact RepL.drop n r
theorem RepL.set:∀{xs:List V} {ds:List D} (i:Nat) {x:V} {d:D},RepL K G xs ds->RepD K G x d->RepL K G (xs.set i x) (ds.set i d)
 |_,[],_,_,_,e,_=>by cases e;exact .nil
 |_,_::_,0,_,_,⟨x,zs,e,q,r⟩,h=>by subst e;exact⟨_,zs,rfl,h,r⟩
 |_,_::_,i+1,_,_,⟨x,zs,e,q,r⟩,h=>by subst e;exact⟨x,_,rfl,q,RepL.set i r h⟩
theorem RepL.rep (h:RepL K G xs ds):∀k:Nat,RepL K G (List.replicate k xs).flatten (List.replicate k ds).flatten
 |0=> .nil
 |k+1=>by rw[List.replicate_succ,List.replicate_succ,List.flatten_cons,List.flatten_cons];exact h.append (RepL.rep h k)
theorem RepL.ints:∀(ns:List Int),RepL K G (ns.map V.int) (ns.map D.int)
 |[]=> .nil
 |n::ns=>⟨.int n,ns.map V.int,rfl,rfl,RepL.ints ns⟩
theorem RepL.ints_eq:∀{ns:List Int} {xs:List V},RepL K G xs (ns.map D.int)->xs=ns.map V.int
 |[],_,e=>e
 |n::ns,_,⟨x,ys,e,q,r⟩=>by subst e;cases(show x=V.int n from q);rw[RepL.ints_eq r];rfl
theorem RepL.at {i:Int}(h:RepL K G xs ds)(e:atI ds i=some d):∃x,atI xs i=some x/\RepD K G x d:=by
 unfold atI at e ⊢
 rw[h.length]
 cases q:ixN ds.length i with
 |none=>rw[q]at e;cases e
 |some j=>rw[q]at e;exact h.get e
end
inductive Ch where
 |d (x:D)|l (xs:List D)|t (xss:List (List D))
inductive T where
 |lst (cs:List Ch)|tup (cs:List Ch)|ins (c:Str) (fs:List (Str×Ch))|dic (ks:List Int) (ds:List D)|dit (ks:List (List Int)) (ds:List D)
inductive Sl where
 |emp|val (d:D)|own (ds:List D)|par (ds:List D)|two (ds es:List D)|tre (t:T)|ptr (t:T)
noncomputable abbrev R:=List Sl
noncomputable def Sl.items:Sl->Option (List D)
 | .own ds=>some ds
 | .par ds=>some ds
 |_=>none
structure Bs where
 G:Hp
 H:Hp
 O:List (Nat×Addr)
noncomputable def RepTb (K:W.Frag)(G H:Hp):List V->List (List D)->List Addr->Prop
 |[],[],A=>A=[]
 |x::xs,ds::dss,A=>∃r ys A2,x= .ref r/\H r=some (.lst ys)/\RepL K G ys ds/\RepTb K G H xs dss A2/\A=r::A2
 |_,_,_=>False
noncomputable def RepC (K:W.Frag)(G H:Hp)(x:V):Ch->List Addr->Prop
 | .d y,A=>RepD K G x y/\A=[]
 | .l ds,A=>∃l xs,x= .ref l/\H l=some (.lst xs)/\RepL K G xs ds/\A=[l]
 | .t xss,A=>∃p xs A',x= .ref p/\H p=some (.lst xs)/\RepTb K G H xs xss A'/\A=p::A'
noncomputable def RepCs (K:W.Frag)(G H:Hp):List V->List Ch->List Addr->Prop
 |[],[],A=>A=[]
 |x::xs,c::cs,A=>∃A1 A2,RepC K G H x c A1/\RepCs K G H xs cs A2/\A=A1++A2
 |_,_,_=>False
noncomputable def RepT (K:W.Frag)(G H:Hp)(v:V):T->List Addr->Prop
 | .lst cs,A=>∃p xs A',v= .ref p/\H p=some (.lst xs)/\RepCs K G H xs cs A'/\A=p::A'
 | .tup cs,A=>∃p xs A',v= .ref p/\H p=some (.tup xs)/\RepCs K G H xs cs A'/\A=p::A'
 | .ins c fs,A=>∃p C dx vs A',v= .ref p/\W.nsIn K mainGlobals c=some (some (.ref C))/\H p=some (.ins C dx vs)/\H dx=some (.own p)/\vs.map (·.1)=fs.map (·.1)/\RepCs K G H (vs.map (·.2)) (fs.map (·.2)) A'/\A=p::dx::A'
 | .dic ks ds,A=>∃p ys,v= .ref p/\H p=some (.dK ys)/\ys.map (·.1)=ks.map kI/\RepL K G (ys.map (·.2)) ds/\A=[p]
 | .dit ks ds,A=>∃p ys o xs,v= .ref p/\H p=some (kn p o)/\DtI G p o xs ks ys/\RepL K G (ys.map (·.2)) ds/\A=[p]
section
variable {K:W.Frag} {G G' H H':Hp}
theorem RepTb.move:∀{xs:List V} {dss:List (List D)} {A:List Addr},RepTb K G H xs dss A->Fz G G'->(∀a∈A,H' a=H a)->RepTb K G' H' xs dss A
 |[],[],_,h,_,_=>h
 |x::xs,ds::dss,A,⟨r,ys,A2,e1,e2,e3,e4,e5⟩,hg,hh=>⟨r,ys,A2,e1,by rw[hh r (by rw[e5];simp)];exact e2,e3.mono hg,e4.move hg fun a m=>hh a (by rw[e5];simp[m]),e5⟩
 |[],_::_,_,h,_,_=>h.elim
 |_::_,[],_,h,_,_=>h.elim
theorem RepTb.det:∀{xs:List V} {dss:List (List D)} {A A':List Addr},RepTb K G H xs dss A->RepTb K G' H' xs dss A'->A=A'
 |[],[],_,_,h,h'=>by rw[show _=[]from h,show _=[]from h']
 |x::xs,ds::dss,_,_,⟨r,ys,A2,e1,_,_,e4,e5⟩,⟨r',ys',A2',e1',_,_,e4',e5'⟩=>by
  rw[e1]at e1';cases e1'
  rw[e5,e5',e4.det e4']
 |[],_::_,_,_,h,_=>h.elim
 |_::_,[],_,_,h,_=>h.elim
theorem RepTb.here:∀{xs:List V} {dss:List (List D)} {A:List Addr},RepTb K G H xs dss A->∀{a:Addr},a∈A->∃xs,H a=some (.lst xs)
 |[],[],_,h,a,m=>by rw[show _=[]from h]at m;cases m
 |x::xs,ds::dss,_,⟨r,ys,A2,e1,e2,_,e4,e5⟩,a,m=>by
  rw[e5]at m
  rcases List.mem_cons.mp m with rfl|m
  ·exact⟨ys,e2⟩
  ·exact e4.here m
 |[],_::_,_,h,_,_=>h.elim
 |_::_,[],_,h,_,_=>h.elim
theorem RepC.move (h:RepC K G H x c A)(hg:Fz G G')(hh:∀a∈A,H' a=H a):RepC K G' H' x c A:=by
 cases c with
 |d y=>exact⟨h.1.mono hg,h.2⟩
 |l ds=>obtain⟨l,xs,e,q,r,rfl⟩:=h;exact⟨l,xs,e,by rw[hh l (by simp)];exact q,r.mono hg,rfl⟩
 |t xss=>obtain⟨p,xs,A',e,q,r,rfl⟩:=h;exact⟨p,xs,A',e,by rw[hh p (by simp)];exact q,r.move hg fun a m=>hh a (by simp[m]),rfl⟩
theorem RepCs.move:∀{xs:List V} {cs:List Ch} {A:List Addr},RepCs K G H xs cs A->Fz G G'->(∀a∈A,H' a=H a)->RepCs K G' H' xs cs A
 |[],[],_,h,_,_=>h
 |x::xs,c::cs,A,⟨A1,A2,h1,h2,e⟩,hg,hh=>⟨A1,A2,h1.move hg fun a m=>hh a (by rw[e];exact List.mem_append_left _ m),h2.move hg fun a m=>hh a (by rw[e];exact List.mem_append_right _ m),e⟩
 |[],_::_,_,h,_,_=>h.elim
 |_::_,[],_,h,_,_=>h.elim
theorem RepT.move (h:RepT K G H v t A)(hg:Fz G G')(hh:∀a∈A,H' a=H a):RepT K G' H' v t A:=by
 cases t with
 |lst cs=>obtain⟨p,xs,A',e,q,r,rfl⟩:=h;exact⟨p,xs,A',e,by rw[hh p (by simp)];exact q,r.move hg fun a m=>hh a (by simp[m]),rfl⟩
 |tup cs=>obtain⟨p,xs,A',e,q,r,rfl⟩:=h;exact⟨p,xs,A',e,by rw[hh p (by simp)];exact q,r.move hg fun a m=>hh a (by simp[m]),rfl⟩
 |ins c fs=>obtain⟨p,C,dx,vs,A',e,n,q,q2,f,r,rfl⟩:=h;exact⟨p,C,dx,vs,A',e,n,by rw[hh p (by simp)];exact q,by rw[hh dx (by simp)];exact q2,f,r.move hg fun a m=>hh a (by simp[m]),rfl⟩
 |dic ks ds=>obtain⟨p,ys,e,q,f,r,rfl⟩:=h;exact⟨p,ys,e,by rw[hh p (by simp)];exact q,f,r.mono hg,rfl⟩
 |dit ks ds=>obtain⟨p,ys,o,xs,e,q,f,r,rfl⟩:=h;exact⟨p,ys,o,xs,e,by rw[hh p (by simp)];exact q,f.mono hg,r.mono hg,rfl⟩
theorem RepC.det (h:RepC K G H x c A)(h':RepC K G' H' x c A')(hh:∀a∈A,H' a=H a):A=A':=by
 cases c with
 |d y=>rw[h.2,h'.2]
 |l ds=>obtain⟨l,xs,e,_,_,rfl⟩:=h;obtain⟨l',xs',e',_,_,rfl⟩:=h';rw[e]at e';cases e';rfl
 |t xss=>
  obtain⟨p,xs,B,e,q,r,rfl⟩:=h;obtain⟨p',xs',B',e',q',r',rfl⟩:=h'
  rw[e]at e';cases e'
  rw[hh p (by simp),q]at q';cases q'
  rw[r.det r']
theorem RepCs.det:∀{xs:List V} {cs:List Ch} {A A':List Addr},RepCs K G H xs cs A->RepCs K G' H' xs cs A'->(∀a∈A,H' a=H a)->A=A'
 |[],[],_,_,h,h',_=>by rw[show _=[]from h,show _=[]from h']
 |x::xs,c::cs,_,_,⟨A1,A2,h1,h2,e⟩,⟨B1,B2,k1,k2,e'⟩,hh=>by rw[e,e',h1.det k1 fun a m=>hh a (by rw[e];exact List.mem_append_left _ m),h2.det k2 fun a m=>hh a (by rw[e];exact List.mem_append_right _ m)]
 |[],_::_,_,_,h,_,_=>h.elim
 |_::_,[],_,_,h,_,_=>h.elim
theorem RepT.det (h:RepT K G H v t A)(h':RepT K G' H' v t A')(hh:∀a∈A,H' a=H a):A=A':=by
 cases t with
 |lst cs=>
  obtain⟨p,xs,B,e,q,r,rfl⟩:=h;obtain⟨p',xs',B',e',q',r',rfl⟩:=h'
  rw[e]at e';cases e'
  rw[hh p (by simp),q]at q';cases q'
  rw[r.det r' fun a m=>hh a (by simp[m])]
 |tup cs=>
  obtain⟨p,xs,B,e,q,r,rfl⟩:=h;obtain⟨p',xs',B',e',q',r',rfl⟩:=h'
  rw[e]at e';cases e'
  rw[hh p (by simp),q]at q';cases q'
  rw[r.det r' fun a m=>hh a (by simp[m])]
 |ins c fs=>
  obtain⟨p,C,dx,vs,B,e,n,q,q2,f,r,rfl⟩:=h;obtain⟨p',C',dx',vs',B',e',n',q',q2',f',r',rfl⟩:=h'
  rw[e]at e';cases e'
  rw[hh p (by simp),q]at q';cases q'
  rw[r.det r' fun a m=>hh a (by simp[m])]
 |dic ks ds=>obtain⟨p,ys,e,q,f,r,rfl⟩:=h;obtain⟨p',ys',e',q',f',r',rfl⟩:=h';rw[e]at e';cases e';rfl
 |dit ks ds=>obtain⟨p,ys,o,xs,e,q,f,r,rfl⟩:=h;obtain⟨p',ys',o',xs',e',q',f',r',rfl⟩:=h';rw[e]at e';cases e';rfl
theorem RepC.here (h:RepC K G H x c A)(m:a∈A):∃xs,H a=some (.lst xs):=by
 cases c with
 |d y=>rw[h.2]at m;cases m
 |l ds=>obtain⟨l,xs,_,q,_,rfl⟩:=h;simp at m;subst m;exact⟨xs,q⟩
 |t xss=>
  obtain⟨p,xs,A',_,q,r,rfl⟩:=h
  rcases List.mem_cons.mp m with rfl|m
  ·exact⟨xs,q⟩
  ·exact r.here m
theorem RepCs.here:∀{xs:List V} {cs:List Ch} {A:List Addr},RepCs K G H xs cs A->∀{a:Addr},a∈A->∃xs,H a=some (.lst xs)
 |[],[],_,h,a,m=>by rw[show _=[]from h]at m;cases m
 |x::xs,c::cs,_,⟨A1,A2,h1,h2,e⟩,a,m=>by
  rw[e]at m
  rcases List.mem_append.mp m with m|m
  ·exact h1.here m
  ·exact h2.here m
 |[],_::_,_,h,_,_=>h.elim
 |_::_,[],_,h,_,_=>h.elim
theorem RepT.here (h:RepT K G H v t A)(m:a∈A):H a≠none:=by
 cases t with
 |lst cs=>
  obtain⟨p,xs,B,e,q,r,rfl⟩:=h
  rcases List.mem_cons.mp m with rfl|m
  ·rw[q];simp
  ·obtain⟨ys,z⟩:=r.here m;rw[z];simp
 |tup cs=>
  obtain⟨p,xs,B,e,q,r,rfl⟩:=h
  rcases List.mem_cons.mp m with rfl|m
  ·rw[q];simp
  ·obtain⟨ys,z⟩:=r.here m;rw[z];simp
 |ins c fs=>
  obtain⟨p,C,dx,vs,B,e,n,q,q2,f,r,rfl⟩:=h
  rcases List.mem_cons.mp m with rfl|m
  ·rw[q];simp
  rcases List.mem_cons.mp m with rfl|m
  ·rw[q2];simp
  ·obtain⟨ys,z⟩:=r.here m;rw[z];simp
 |dic ks ds=>obtain⟨p,ys,e,q,f,r,rfl⟩:=h;simp at m;subst m;rw[q];simp
 |dit ks ds=>obtain⟨p,ys,o,xs,e,q,f,r,rfl⟩:=h;simp at m;subst m;rw[q];simp
end
noncomputable def SlotOk (K:W.Frag)(B:Bs)(G H:Hp)(i:Nat)(ov:Option (Option V)):Sl->Prop
 | .emp=>True
 | .two _ _=>True
 | .val d=>∃v,ov=some (some v)/\RepD K G v d
 | .own ds=>∃l xs,ov=some (some (.ref l))/\G l=none/\H l=some (.lst xs)/\RepL K G xs ds/\B.H l=none
 | .par ds=>∃l xs,ov=some (some (.ref l))/\G l=none/\H l=some (.lst xs)/\RepL K G xs ds/\(i,l)∈B.O
 | .tre t=>∃v A,ov=some (some v)/\RepT K G H v t A/\A.Nodup/\∀a∈A,G a=none/\B.H a=none
 | .ptr t=>∃v A,ov=some (some v)/\RepT K G H v t A/\(A.Nodup/\∃p,v= .ref p/\(i+4096,p)∈B.O)/\∀a∈A,G a=none/\(i,a)∈B.O
noncomputable def Wr (ρ:R)(i:Nat):Prop:=∃s ds,ρ[i]? =some s/\s.items=some ds
noncomputable def OwS (K:W.Frag)(G H:Hp)(ov:Option (Option V))(a:Addr):Sl->Prop
 | .own _=>ov=some (some (.ref a))
 | .par _=>ov=some (some (.ref a))
 | .tre t=>∃v A,ov=some (some v)/\RepT K G H v t A/\a∈A
 | .ptr t=>∃v A,ov=some (some v)/\RepT K G H v t A/\a∈A
 |_=>False
noncomputable def Nw (K:W.Frag)(G H:Hp)(σ:St)(ρ:R)(a:Addr):Prop:=∀(i:Nat) (s:Sl),ρ[i]? =some s->¬OwS K G H σ[i]? a s
structure SI (K:W.Frag) (B:Bs) (G H:Hp) (σ:St) (ρ:R):Prop where
 fz:Fz G H
 g0:Fz B.G G
 new:∀b o,G b=some o->B.G b≠none\/B.H b=none
 keep:∀b o,B.H b=some o->(∀i,(i,b)∉B.O)->H b=some o
 there:∀b,H b=none->B.H b=none
 len:σ.length=ρ.length
 ob:∀i b,(i,b)∈B.O->B.H b≠none
 slot:∀i s,ρ[i]? =some s->SlotOk K B G H i σ[i]? s
 dis:∀(i j:Nat) (s t:Sl) (a:Addr),i≠j->ρ[i]? =some s->ρ[j]? =some t->OwS K G H σ[i]? a s->¬OwS K G H σ[j]? a t
section
variable {K:W.Frag} {B:Bs} {G G' H H':Hp} {σ:St} {ρ:R}
theorem SlotOk.own (h:SlotOk K B G H i ov s)(w:OwS K G H ov a s):G a=none/\H a≠none/\(B.H a=none\/(i,a)∈B.O):=by
 cases s with
 |emp=>exact w.elim
 |two _ _=>exact w.elim
 |val d=>exact w.elim
 |own ds=>obtain⟨l,xs,e,g,k,r,n⟩:=h;rw[show ov=_ from w]at e;cases e;exact⟨g,by rw[k];simp,.inl n⟩
 |par ds=>obtain⟨l,xs,e,g,k,r,n⟩:=h;rw[show ov=_ from w]at e;cases e;exact⟨g,by rw[k];simp,.inr n⟩
 |tre t=>
  obtain⟨v,A,e,r,nd,f⟩:=h
  obtain⟨v',A',e',r',m⟩:=w
  rw[e]at e';cases e'
  rw[<-r.det r' fun _ _=>rfl]at m
  exact⟨(f a m).1,r.here m,.inl (f a m).2⟩
 |ptr t=>
  obtain⟨v,A,e,r,nd,f⟩:=h
  obtain⟨v',A',e',r',m⟩:=w
  rw[e]at e';cases e'
  rw[<-r.det r' fun _ _=>rfl]at m
  exact⟨(f a m).1,r.here m,.inr (f a m).2⟩
theorem SlotOk.mono (h:SlotOk K B G H i ov s)(hg:Fz G G')(hw:∀a,OwS K G H ov a s->G a=none->H a≠none->G' a=none/\H' a=H a):SlotOk K B G' H' i ov s:=by
 have ow:=fun a (w:OwS K G H ov a s)=>h.own w
 cases s with
 |emp=>trivial
 |two _ _=>trivial
 |val d=>obtain⟨v,e,r⟩:=h;exact⟨v,e,r.mono hg⟩
 |own ds=>
  obtain⟨l,xs,e,g,k,r,n⟩:=h
  obtain⟨h1,h2⟩:=hw l e g (by rw[k];simp)
  exact⟨l,xs,e,h1,h2.trans k,r.mono hg,n⟩
 |par ds=>
  obtain⟨l,xs,e,g,k,r,n⟩:=h
  obtain⟨h1,h2⟩:=hw l e g (by rw[k];simp)
  exact⟨l,xs,e,h1,h2.trans k,r.mono hg,n⟩
 |tre t=>
  obtain⟨v,A,e,r,nd,f⟩:=h
  have w:=fun a m=>hw a ⟨v,A,e,r,m⟩ (f a m).1 (r.here m)
  exact⟨v,A,e,r.move hg fun a m=>(w a m).2,nd,fun a m=>⟨(w a m).1,(f a m).2⟩⟩
 |ptr t=>
  obtain⟨v,A,e,r,nd,f⟩:=h
  have w:=fun a m=>hw a ⟨v,A,e,r,m⟩ (f a m).1 (r.here m)
  exact⟨v,A,e,r.move hg fun a m=>(w a m).2,nd,fun a m=>⟨(w a m).1,(f a m).2⟩⟩
theorem SlotOk.back (h:SlotOk K B G H i ov s)(hw:∀a,OwS K G H ov a s->G a=none->H a≠none->G' a=none/\H' a=H a)(w:OwS K G' H' ov a s):OwS K G H ov a s:=by
 cases s with
 |emp=>exact w
 |two _ _=>exact w
 |val d=>exact w
 |own ds=>exact w
 |par ds=>exact w
 |tre t=>
  obtain⟨v,A,e,r,nd,f⟩:=h
  obtain⟨v',A',e',r',m⟩:=w
  rw[e]at e';cases e'
  have q:=r.det r' fun a m=>(hw a ⟨v,A,e,r,m⟩ (f a m).1 (r.here m)).2
  subst q
  exact⟨v,A,e,r,m⟩
 |ptr t=>
  obtain⟨v,A,e,r,nd,f⟩:=h
  obtain⟨v',A',e',r',m⟩:=w
  rw[e]at e';cases e'
  have q:=r.det r' fun a m=>(hw a ⟨v,A,e,r,m⟩ (f a m).1 (r.here m)).2
  subst q
  exact⟨v,A,e,r,m⟩
theorem SI.move (I:SI K B G H σ ρ)(fz:Fz G' H')(fg:Fz G G')(new:∀b o,G' b=some o->B.G b≠none\/B.H b=none)(keep:∀b o,B.H b=some o->(∀i,(i,b)∉B.O)->H' b=some o)(there:∀b,H' b=none->B.H b=none)
  (ow:∀(i:Nat) (s:Sl) (a:Addr),ρ[i]? =some s->OwS K G H σ[i]? a s->G a=none->H a≠none->G' a=none/\H' a=H a):SI K B G' H' σ ρ where
 fz:=fz
 g0:=I.g0.trans fg
 new:=new
 keep:=keep
 there:=there
 len:=I.len
 ob:=I.ob
 slot:=fun i s e=>(I.slot i s e).mono fg fun a w g h=>ow i s a e w g h
 dis:=fun i j s t a n e1 e2 w1 w2=>I.dis i j s t a n e1 e2 ((I.slot i s e1).back (fun a w g h=>ow i s a e1 w g h) w1) ((I.slot j t e2).back (fun a w g h=>ow j t a e2 w g h) w2)
theorem SI.chg (I:SI K B G H σ ρ){ov:Option V}{s':Sl}(fz:Fz G' H')(fg:Fz G G')(new:∀b o,G' b=some o->B.G b≠none\/B.H b=none)(keep:∀b o,B.H b=some o->(∀i,(i,b)∉B.O)->H' b=some o)(there:∀b,H' b=none->B.H b=none)
  (ow:∀(j:Nat) (s:Sl) (a:Addr),j≠i->ρ[j]? =some s->OwS K G H σ[j]? a s->G a=none->H a≠none->G' a=none/\H' a=H a/\¬OwS K G' H' (some ov) a s') (sl:SlotOk K B G' H' i (some ov) s'):SI K B G' H' (σ.set i ov) (ρ.set i s'):=by
 have atI:∀{s},(ρ.set i s')[i]? =some s->s=s'/\(σ.set i ov)[i]? =some ov:=fun{s} e=>by
  rw[List.getElem?_set,if_pos rfl]at e ⊢
  split at e
  ·rename_i h;cases e;rw[if_pos (by rw[I.len];exact h)];exact⟨rfl,rfl⟩
  ·cases e
 have atJ:∀{j s},j≠i->(ρ.set i s')[j]? =some s->ρ[j]? =some s/\(σ.set i ov)[j]? =σ[j]?:=fun{j s} n e=>by
  rw[List.getElem?_set_ne (Ne.symm n)]at e ⊢
  exact⟨e,rfl⟩
 refine⟨fz,I.g0.trans fg,new,keep,there,by rw[List.length_set,List.length_set];exact I.len,I.ob,fun j s e=>?_,fun j k s t a n e1 e2 w1 w2=>?_⟩
 ·by_cases z:j=i
  ·subst z;obtain⟨rfl,q⟩:=atI e;rw[q];exact sl
  ·obtain⟨e1,q⟩:=atJ z e
   rw[q]
   exact(I.slot j s e1).mono fg fun a w g h=>⟨(ow j s a z e1 w g h).1,(ow j s a z e1 w g h).2.1⟩
 ·have one:∀j s,j≠i->(ρ.set i s')[j]? =some s->OwS K G' H' (σ.set i ov)[j]? a s->ρ[j]? =some s/\OwS K G H σ[j]? a s:=fun j s z e w=>by
   obtain⟨e1,q⟩:=atJ z e
   rw[q]at w
   exact⟨e1,(I.slot j s e1).back (fun a w g h=>⟨(ow j s a z e1 w g h).1,(ow j s a z e1 w g h).2.1⟩) w⟩
  by_cases z1:j=i
  ·subst z1
   obtain⟨rfl,q1⟩:=atI e1
   obtain⟨f2,w2⟩:=one k t (Ne.symm n) e2 w2
   obtain⟨o1,o2,_⟩:=(I.slot k t f2).own w2
   rw[q1]at w1
   exact(ow k t a (Ne.symm n) f2 w2 o1 o2).2.2 w1
  ·have p1:=one j s z1 e1 w1
   by_cases z2:k=i
   ·subst z2
    obtain⟨rfl,q2⟩:=atI e2
    obtain⟨o1,o2,_⟩:=(I.slot j s p1.1).own p1.2
    rw[q2]at w2
    exact(ow j s a z1 p1.1 p1.2 o1 o2).2.2 w2
   ·have p2:=one k t z2 e2 w2
    exact I.dis j k s t a n p1.1 p2.1 p1.2 p2.2
theorem SI.nw (I:SI K B G H σ ρ)(hp:H p=none):Nw K G H σ ρ p:=fun i s e w=>((I.slot i s e).own w).2.1 hp
theorem SI.nw_move (I:SI K B G H σ ρ)(n:Nw K G H σ ρ p)(ow:∀(i:Nat) (s:Sl) (a:Addr),ρ[i]? =some s->OwS K G H σ[i]? a s->G a=none->H a≠none->G' a=none/\H' a=H a):Nw K G' H' σ ρ p:=
 fun i s e w=>n i s e ((I.slot i s e).back (fun a w g h=>ow i s a e w g h) w)
theorem SI.allocF (I:SI K B G H σ ρ)(hp:H p=none)(o:HO):SI K B (upd G p o) (upd H p o) σ ρ:=
 I.move (I.fz.upd2 p o) (Fz.new (I.fz.free hp) o) (fun b u e=>by
  by_cases q:b=p
  ·subst q;exact .inr (I.there b hp)
  ·rw[zap q]at e;exact I.new b u e) (fun b u e n=>by
  have q:=I.keep b u e n
  rw[zap (zax q hp)];exact q) (fun b e=>by
  by_cases q:b=p
  ·subst q;rw[zas]at e;cases e
  ·rw[zap q]at e;exact I.there b e) (fun i s a _ _ g h=>by
  have q:a≠p:=fun z=>h (by rw[z];exact hp)
  rw[zap q,zap q];exact⟨g,rfl⟩)
theorem SI.allocO (I:SI K B G H σ ρ)(hp:H p=none)(o:HO):SI K B G (upd H p o) σ ρ:=
 I.move (I.fz.right (I.fz.free hp) o) (Fz.refl G) I.new (fun b u e n=>by
  have q:=I.keep b u e n
  rw[zap (zax q hp)];exact q) (fun b e=>by
  by_cases q:b=p
  ·subst q;rw[zas]at e;cases e
  ·rw[zap q]at e;exact I.there b e) (fun i s a _ _ g h=>by
  have q:a≠p:=fun z=>h (by rw[z];exact hp)
  rw[zap q];exact⟨g,rfl⟩)
theorem SI.frz (I:SI K B G H σ ρ){o:HO}(hl:H l=some o)(hB:B.H l=none)(hn:Nw K G H σ ρ l)(hg:G l=none):SI K B (upd G l o) H σ ρ:=
 I.move (fun a u q=>by
  by_cases e:a=l
  ·subst e;rw[zas]at q;cases q;exact hl
  ·rw[zap e]at q;exact I.fz a u q) (Fz.new hg o) (fun b u e=>by
  by_cases q:b=l
  ·subst q;exact .inr hB
  ·rw[zap q]at e;exact I.new b u e) I.keep I.there (fun i s a e w g _=>by
  refine⟨?_,rfl⟩
  rw[zap (fun z=>?_)]
  ·exact g
  ·subst z;exact hn i s e w)
theorem SI.set (I:SI K B G H σ ρ)(h:RepD K G v d):SI K B G H (σ.set i (some v)) (ρ.set i (.val d)):=
 I.chg I.fz (Fz.refl G) I.new I.keep I.there (fun _ _ _ _ _ _ g _=>⟨g,rfl,id⟩) ⟨v,rfl,h⟩
theorem SI.setO (I:SI K B G H σ ρ)(hg:G l=none)(hl:H l=some (.lst xs))(h:RepL K G xs ds)(hB:B.H l=none)(hn:Nw K G H σ ρ l):
  SI K B G H (σ.set i (some (.ref l))) (ρ.set i (.own ds)):=
 I.chg I.fz (Fz.refl G) I.new I.keep I.there (fun j s a _ e w g _=>⟨g,rfl,fun z=>by cases(show some (some (V.ref l))=some (some (.ref a))from z);exact hn j s e w⟩) ⟨l,xs,rfl,hg,hl,h,hB⟩
theorem SI.wr (I:SI K B G H σ ρ)(e:ρ[i]? =some s)(q:s.items=some ds):∃l xs,σ[i]? =some (some (.ref l))/\G l=none/\H l=some (.lst xs)/\RepL K G xs ds:=by
 have h:=I.slot i s e
 cases s with
 |emp=>cases q
 |two _ _=>cases q
 |val d=>cases q
 |tre _=>cases q
 |ptr _=>cases q
 |own es=>cases q;obtain⟨l,xs,h1,h2,h3,h4,_⟩:=h;exact⟨l,xs,h1,h2,h3,h4⟩
 |par es=>cases q;obtain⟨l,xs,h1,h2,h3,h4,_⟩:=h;exact⟨l,xs,h1,h2,h3,h4⟩
noncomputable def Sl.put (s:Sl)(ds:List D):Sl:=match s with
 | .own _=> .own ds
 | .par _=> .par ds
 |s=>s
theorem zfI (q:s.items=some ds):OwS K G H ov a s↔ov=some (some (.ref a)):=by
 cases s with
 |own _=>exact Iff.rfl
 |par _=>exact Iff.rfl
 |_=>cases q
theorem zkK (q:s.items=some ds)(es:List D):(s.put es).items=some es:=by
 cases s with
 |own _=>rfl
 |par _=>rfl
 |_=>cases q
theorem zkl {α:Type}{l:List α}{x:α}(e:l[i]? =some x):l.set i x=l:=by
 obtain⟨h,rfl⟩:=List.getElem?_eq_some_iff.mp e
 exact List.set_getElem_self h
theorem SI.chgW (I:SI K B G H σ ρ){i:Nat}(e:ρ[i]? =some s)(q:s.items=some ds)(hl:σ[i]? =some (some (.ref l)))(fz:Fz G' H')(fg:Fz G G')(nw:∀b o,G' b=some o->G b≠none\/H b=none)
  (kp:∀b o,b≠l->H b=some o->H' b=some o) (gl:G' l=none) (hl':H' l=some (.lst ys)) (r:RepL K G' ys es):SI K B G' H' σ (ρ.set i (s.put es)):=by
 obtain⟨l',xs,e1,e2,e3,e4⟩:=I.wr e q
 rw[hl]at e1;cases e1
 have sl:=I.slot i s e
 have nb:∀b o,B.H b=some o->(∀i,(i,b)∉B.O)->b≠l:=fun b o h1 h2 z=>by
  subst z
  rcases(sl.own ((zfI q).mpr hl)).2.2 with z|z
  ·rw[h1]at z;cases z
  ·exact h2 i z
 have h:=I.chg (i:=i) (ov:=some (.ref l)) (s':=s.put es) (G':=G') (H':=H') fz fg (fun b o k=>?_) (fun b o k1 k2=>kp b o (nb b o k1 k2) (I.keep b o k1 k2)) (fun b k=>?_) (fun j t a z ej w g ha=>?_) ?_
 ·rwa[zkl hl]at h
 ·rcases nw b o k with h|h
  ·cases q2:G b with
   |none=>exact absurd q2 h
   |some u=>exact I.new b u q2
  ·exact .inr (I.there b h)
 ·refine I.there b ?_
  cases q2:H b with
  |none=>rfl
  |some u=>
   by_cases z:b=l
   ·subst z;rw[hl']at k;cases k
   ·rw[kp b u z q2]at k;cases k
 ·have na:a≠l:=fun w'=>by subst w';exact I.dis j i t s a z ej e w ((zfI q).mpr hl)
  obtain⟨u,hu⟩:=Option.ne_none_iff_exists'.mp ha
  refine⟨?_,(kp a u na hu).trans hu.symm,fun z=>na ?_⟩
  ·cases q2:G' a with
   |none=>rfl
   |some u=>
    rcases nw a u q2 with z|z
    ·exact absurd g z
    ·exact absurd z ha
  ·cases(zfI (zkK q es)).mp z;rfl
 ·cases s with
  |own es'=>obtain⟨l',xs',k1,k2,k3,k4,k5⟩:=sl;rw[hl]at k1;cases k1;exact⟨_,ys,rfl,gl,hl',r,k5⟩
  |par es'=>obtain⟨l',xs',k1,k2,k3,k4,k5⟩:=sl;rw[hl]at k1;cases k1;exact⟨_,ys,rfl,gl,hl',r,k5⟩
  |_=>cases q
theorem SI.write (I:SI K B G H σ ρ)(e:ρ[i]? =some s)(q:s.items=some ds)(hl:σ[i]? =some (some (.ref l)))(h:RepL K G ys es):
  SI K B G (upd H l (.lst ys)) σ (ρ.set i (s.put es)):=by
 obtain⟨l',xs,e1,e2,e3,e4⟩:=I.wr e q
 rw[hl]at e1;cases e1
 exact I.chgW e q hl (I.fz.right e2 _) (Fz.refl G) (fun b o k=> .inl (by rw[k];simp)) (fun b o z k=>by rw[zap z];exact k) e2 zas h
theorem SI.freeze (I:SI K B G H σ ρ){i:Nat}(e:ρ[i]? =some (.own ds)):∃l xs,σ[i]? =some (some (.ref l))/\Fz G (upd G l (.lst xs))/\RepD K (upd G l (.lst xs)) (.ref l) (.lst ds)/\
  SI K B (upd G l (.lst xs)) H σ (ρ.set i (.val (.lst ds))):=by
 obtain⟨l,xs,h1,h2,h3,h4,h5⟩:=I.slot i _ e
 have fz:=Fz.new h2 (.lst xs)
 have rep:RepD K (upd G l (.lst xs)) (.ref l) (.lst ds):=⟨l,xs,rfl,zas,h4.mono fz⟩
 refine⟨l,xs,h1,fz,rep,?_⟩
 have h:=I.chg (i:=i) (ov:=some (.ref l)) (s':= .val (.lst ds)) (G':=upd G l (.lst xs)) (H':=H) (fun a u q=>?_) fz (fun b u q=>?_) I.keep I.there (fun j t a z ej w g _=>⟨?_,rfl,id⟩) ⟨.ref l,rfl,rep⟩
 ·rwa[zkl h1]at h
 ·by_cases z:a=l
  ·subst z;rw[zas]at q;cases q;exact h3
  ·rw[zap z]at q;exact I.fz a u q
 ·by_cases z:b=l
  ·subst z;exact .inr h5
  ·rw[zap z]at q;exact I.new b u q
 ·rw[zap (fun q=>by subst q;exact I.dis j i t _ a z ej e w h1)];exact g
end
noncomputable abbrev ME:=R->Option (D×R)
noncomputable abbrev MO:=R->Option (List D×R)
noncomputable abbrev MT:=R->Option (Bool×R)
noncomputable abbrev MA:=R->Option (List D×R)
noncomputable def SE (X:Cx)(e:Expr)(m:ME):Prop:=
 ∃t,PE X e t/\∀B G H σ ρ d ρ' (Q:VK),SI X.K B G H σ ρ->m ρ=some (d,ρ')->(∀G' H' v,SI X.K B G' H' σ ρ'->Fz G G'->RepD X.K G' v d->Q v H')->t σ H Q
noncomputable def SO (X:Cx)(e:Expr)(m:MO):Prop:=
 ∃t,PE X e t/\∀B G H σ ρ ds ρ' (Q:VK),SI X.K B G H σ ρ->m ρ=some (ds,ρ')->
  (∀G' H' l xs,SI X.K B G' H' σ ρ'->Fz G G'->G' l=none->H' l=some (.lst xs)->RepL X.K G' xs ds->B.H l=none->Nw X.K G' H' σ ρ' l->Q (.ref l) H')->t σ H Q
noncomputable def STt (X:Cx)(e:Expr)(m:MT):Prop:=
 ∃t,PT X e t/\∀B G H σ ρ d ρ' (Q:Bool->Hp->Prop),SI X.K B G H σ ρ->m ρ=some (d,ρ')->(∀G' H',SI X.K B G' H' σ ρ'->Fz G G'->Q d H')->t σ H Q
noncomputable def SA (X:Cx)(es:List Expr)(m:MA):Prop:=
 ∃t,PA X es t/\∀B G H σ ρ ds ρ' (Q:List V->Hp->Prop),SI X.K B G H σ ρ->m ρ=some (ds,ρ')->(∀G' H' vs,SI X.K B G' H' σ ρ'->Fz G G'->RepL X.K G' vs ds->Q vs H')->t σ H Q
theorem zmJ {B:Bs}{σ:St}(I:SI K B G H σ ρ)(hg:G l=none)(hl:H l=some (.lst xs))(h:RepL K G xs ds)(hB:B.H l=none)(hn:Nw K G H σ ρ l):
  SI K B (upd G l (.lst xs)) H σ ρ/\Fz G (upd G l (.lst xs))/\RepD K (upd G l (.lst xs)) (.ref l) (.lst ds):=
 ⟨I.frz hl hB hn hg,Fz.new hg _,⟨l,xs,rfl,zas,h.mono (Fz.new hg _)⟩⟩
noncomputable def eFz (m:MO):ME:=fun ρ=>(m ρ).map fun p=>(.lst p.1,p.2)
theorem SO.se {X:Cx}{m:MO}(h:SO X e m):SE X e (eFz m):=by
 obtain⟨t,p,s⟩:=h
 refine⟨t,p,fun B G H σ ρ d ρ' Q I hm k=>?_⟩
 unfold eFz at hm
 cases q:m ρ with
 |none=>rw[q]at hm;cases hm
 |some r=>
  obtain⟨ds,ρ1⟩:=r
  rw[q]at hm
  cases hm
  refine s B G H σ ρ ds _ Q I q fun G' H' l xs I' fz hg hl hr hB hn=>?_
  obtain⟨I2,f2,r2⟩:=zmJ I' hg hl hr hB hn
  exact k _ _ _ I2 (fz.trans f2) r2
noncomputable def eC (d:D):ME:=fun ρ=>some (d,ρ)
noncomputable def eVar (i:Nat):ME:=fun ρ=>match ρ[i]? with
 |some (.val d)=>some (d,ρ)
 |some (.own ds)=>some (.lst ds,ρ.set i (.val (.lst ds)))
 |_=>none
section
variable {X:Cx} {pos:Pos}
theorem zab (i:Nat){x:Str}(hN:autoParam (X.N[i]? =some x) zu2._auto_1)(hv:autoParam (Vis X.env.scope x) zu5._auto_1)(hd:autoParam ((x==("__debug__":Str))=false) zu1._auto_1)
  (hcd:autoParam ((x==("__classdict__":Str))=false) zu1._auto_1):SE X (.Name x pos) (eVar i):=by
 refine⟨_,zcX hN hv hd hcd,fun B G H σ ρ d ρ' Q I hm k=>?_⟩
 unfold eVar at hm
 cases e:ρ[i]? with
 |none=>rw[e]at hm;cases hm
 |some s=>
  rw[e]at hm
  cases s with
  |emp=>cases hm
  |two _ _=>cases hm
  |tre _=>cases hm
  |ptr _=>cases hm
  |par ds=>cases hm
  |val d'=>
   cases hm
   obtain⟨v,h1,h2⟩:=I.slot i _ e
   exact⟨v,h1,k G H v I (Fz.refl G) h2⟩
  |own ds=>
   cases hm
   obtain⟨l,xs,h1,f,r,I'⟩:=I.freeze e
   exact⟨.ref l,h1,k _ H _ I' f r⟩
theorem zah {i:Int}{j}:SE X (.Constant (.int i) j pos) (eC (.int i)):=⟨_,zkW,fun B G H σ ρ d ρ' Q I hm k=>by cases hm;exact k G H _ I (Fz.refl G) rfl⟩
theorem zf3 {j}:SE X (.Constant (.bool b) j pos) (eC (.bl b)):=⟨_,pe_bl,fun B G H σ ρ d ρ' Q I hm k=>by cases hm;exact k G H _ I (Fz.refl G) rfl⟩
theorem se_non {j}:SE X (.Constant .none j pos) (eC .non):=⟨_,pe_non,fun B G H σ ρ d ρ' Q I hm k=>by cases hm;exact k G H _ I (Fz.refl G) rfl⟩
theorem zot {x:Str}{j}:SE X (.Constant (.str x) j pos) (eC (.str x)):=⟨_,pe_str,fun B G H σ ρ d ρ' Q I hm k=>by cases hm;exact k G H _ I (Fz.refl G) rfl⟩
end
noncomputable def aNil:MA:=fun ρ=>some ([],ρ)
noncomputable def zaf (m:ME)(r:MA):MA:=fun ρ=>(m ρ).bind fun p=>(r p.2).map fun q=>(p.1::q.1,q.2)
section
variable {X:Cx} {e:Expr} {es:List Expr} {m:ME} {r:MA}
theorem zae:SA X [] aNil:=⟨_,zcQ,fun B G H σ ρ ds ρ' Q I hm k=>by cases hm;exact k G H [] I (Fz.refl G) .nil⟩
theorem zaa (h:SE X e m)(hr:SA X es r)(hs:autoParam (starEach (e::es) X.env=(false,eval e X.env)::starEach es X.env) zu2._auto_1):SA X (e::es) (zaf m r):=by
 obtain⟨t,p,s⟩:=h
 obtain⟨u,q,z⟩:=hr
 refine⟨_,za7 p q hs,fun B G H σ ρ ds ρ' Q I hm k=>?_⟩
 unfold zaf at hm
 cases e1:m ρ with
 |none=>rw[e1]at hm;cases hm
 |some a=>
  obtain⟨d,ρ1⟩:=a
  rw[e1]at hm
  cases e2:r ρ1 with
  |none=>simp[e2]at hm
  |some b=>
   obtain⟨es',ρ2⟩:=b
   simp only[Option.bind_some,e2,Option.map_some,Option.some.injEq,Prod.mk.injEq]at hm
   obtain⟨rfl,rfl⟩:=hm
   exact s B G H σ ρ d ρ1 _ I e1 fun G1 H1 v I1 f1 r1=>z B G1 H1 σ ρ1 es' ρ2 _ I1 e2 fun G2 H2 vs I2 f2 r2=>k G2 H2 (v::vs) I2 (f1.trans f2) (.cons (r1.mono f2) r2)
end
noncomputable def V2 (X:Cx)(r:R2)(f:D->D->Option D):Prop:=∀B G H σ ρ x y a b d (Q:VK),SI X.K B G H σ ρ->RepD X.K G x a->RepD X.K G y b->f a b=some d->(∀G' H' v,SI X.K B G' H' σ ρ->Fz G G'->RepD X.K G' v d->Q v H')->r x y H Q
noncomputable def V1 (X:Cx)(r:V->Hp->VK->Prop)(f:D->Option D):Prop:=∀B G H σ ρ x a d (Q:VK),SI X.K B G H σ ρ->RepD X.K G x a->f a=some d->(∀G' H' v,SI X.K B G' H' σ ρ->Fz G G'->RepD X.K G' v d->Q v H')->r x H Q
noncomputable def VC (X:Cx)(r:List V->Hp->VK->Prop)(f:List D->Option D):Prop:=∀B G H σ ρ xs ds d (Q:VK),SI X.K B G H σ ρ->RepL X.K G xs ds->f ds=some d->(∀G' H' v,SI X.K B G' H' σ ρ->Fz G G'->RepD X.K G' v d->Q v H')->r xs H Q
noncomputable def m2 (f:D->D->Option D)(ma mb:ME):ME:=fun ρ=>(ma ρ).bind fun p=>(mb p.2).bind fun q=>(f p.1 q.1).map fun d=>(d,q.2)
noncomputable def m1 (f:D->Option D)(ma:ME):ME:=fun ρ=>(ma ρ).bind fun p=>(f p.1).map fun d=>(d,p.2)
noncomputable def mC (f:List D->Option D)(ma:MA):ME:=fun ρ=>(ma ρ).bind fun p=>(f p.1).map fun d=>(d,p.2)
theorem m2_inv {ma mb:ME}(h:m2 f ma mb ρ=some (d,ρ')):∃a ρ1 b,ma ρ=some (a,ρ1)/\mb ρ1=some (b,ρ')/\f a b=some d:=by
 unfold m2 at h
 cases e1:ma ρ with
 |none=>rw[e1]at h;cases h
 |some p=>
  obtain⟨a,ρ1⟩:=p
  rw[e1]at h
  cases e2:mb ρ1 with
  |none=>simp[e2]at h
  |some q=>
   obtain⟨b,ρ2⟩:=q
   simp only[Option.bind_some,e2]at h
   cases e3:f a b with
   |none=>rw[e3]at h;cases h
   |some c=>rw[e3]at h;cases h;exact⟨a,ρ1,b,rfl,e2,e3⟩
theorem m1_inv {f:D->Option D}(h:m1 f ma ρ=some (d,ρ')):∃a,ma ρ=some (a,ρ')/\f a=some d:=by
 unfold m1 at h
 cases e1:ma ρ with
 |none=>rw[e1]at h;cases h
 |some p=>
  obtain⟨a,ρ1⟩:=p
  rw[e1]at h
  simp only[Option.bind_some]at h
  cases e3:f a with
  |none=>rw[e3]at h;cases h
  |some c=>rw[e3]at h;cases h;exact⟨a,rfl,e3⟩
theorem mC_inv {f:List D->Option D}{ma:MA}(h:mC f ma ρ=some (d,ρ')):∃a,ma ρ=some (a,ρ')/\f a=some d:=by
 unfold mC at h
 cases e1:ma ρ with
 |none=>rw[e1]at h;cases h
 |some p=>
  obtain⟨a,ρ1⟩:=p
  rw[e1]at h
  simp only[Option.bind_some]at h
  cases e3:f a with
  |none=>rw[e3]at h;cases h
  |some c=>rw[e3]at h;cases h;exact⟨a,rfl,e3⟩
section
variable {X:Cx} {a b:Expr} {ma mb:ME} {pos:Pos} {f:D->D->Option D}
theorem zmu {r:R2}{ta tb:TE}(hv:V2 X r f)
  (sa:∀B G H σ ρ d ρ' (Q:VK),SI X.K B G H σ ρ->ma ρ=some (d,ρ')->(∀G' H' v,SI X.K B G' H' σ ρ'->Fz G G'->RepD X.K G' v d->Q v H')->ta σ H Q)
  (sb:∀B G H σ ρ d ρ' (Q:VK),SI X.K B G H σ ρ->mb ρ=some (d,ρ')->(∀G' H' v,SI X.K B G' H' σ ρ'->Fz G G'->RepD X.K G' v d->Q v H')->tb σ H Q):
  ∀B G H σ ρ d ρ' (Q:VK),SI X.K B G H σ ρ->m2 f ma mb ρ=some (d,ρ')->(∀G' H' v,SI X.K B G' H' σ ρ'->Fz G G'->RepD X.K G' v d->Q v H')->tOp r ta tb σ H Q:=by
 intro B G H σ ρ d ρ' Q I hm k
 obtain⟨x,ρ1,y,e1,e2,e3⟩:=m2_inv hm
 exact sa B G H σ ρ x ρ1 _ I e1 fun G1 H1 v I1 f1 r1=>sb B G1 H1 σ ρ1 y ρ' _ I1 e2 fun G2 H2 u I2 f2 r2=>
  hv B G2 H2 σ ρ' v u x y d Q I2 (r1.mono f2) r2 e3 fun G3 H3 z I3 f3 r3=>k G3 H3 z I3 (f1.trans (f2.trans f3)) r3
theorem zns {r:R2}(ho:OpR X (binaryOp op) r)(hv:V2 X r f)(ha:SE X a ma)(hb:SE X b mb):SE X (.BinOp a op b pos) (m2 f ma mb):=by
 obtain⟨ta,pa,sa⟩:=ha
 obtain⟨tb,pb,sb⟩:=hb
 exact⟨_,pe_op ho pa pb,zmu hv sa sb⟩
theorem zor {op:CmpOp}{r:R2}(ho:OpR X (compareOp op) r)(hv:V2 X r f)(ha:SE X a ma)(hb:SE X b mb)(hm:behindInMarks op b=false):SE X (.Compare a [op] [b] pos) (m2 f ma mb):=by
 obtain⟨ta,pa,sa⟩:=ha
 obtain⟨tb,pb,sb⟩:=hb
 exact⟨_,pe_cmpR ho pa pb hm,zmu hv sa sb⟩
theorem se_un {op:UnaryOp}(ho:UnR X (unaryOp op) r)(hv:V1 X r g)(ha:SE X a ma):SE X (.UnaryOp op a pos) (m1 g ma):=by
 obtain⟨ta,pa,sa⟩:=ha
 refine⟨_,pe_un ho pa,fun B G H σ ρ d ρ' Q I hm k=>?_⟩
 obtain⟨x,e1,e2⟩:=m1_inv hm
 exact sa B G H σ ρ x ρ' _ I e1 fun G1 H1 v I1 f1 r1=>hv B G1 H1 σ ρ' v x d Q I1 r1 e2 fun G2 H2 z I2 f2 r2=>k G2 H2 z I2 (f1.trans f2) r2
theorem se_ix {r:R2}(hr:IxR X r)(hv:V2 X r f)(ha:SE X a ma)(hb:SE X b mb)(hs:zgF b):SE X (.Subscript a b pos) (m2 f ma mb):=by
 obtain⟨ta,pa,sa⟩:=ha
 obtain⟨tb,pb,sb⟩:=hb
 exact⟨_,znr hr pa pb hs,zmu hv sa sb⟩
end
section
variable {X:Cx} {x:Str} {p pos:Pos} {e:Expr} {es:List Expr} {ma:MA} {id T:String} {r:List V->Hp->VK->Prop} {f:List D->Option D}
theorem soundC {t:TA}(hv:VC X r f)(sa:∀B G H σ ρ ds ρ' (Q:List V->Hp->Prop),SI X.K B G H σ ρ->ma ρ=some (ds,ρ')->(∀G' H' vs,SI X.K B G' H' σ ρ'->Fz G G'->RepL X.K G' vs ds->Q vs H')->t σ H Q):
  ∀B G H σ ρ d ρ' (Q:VK),SI X.K B G H σ ρ->mC f ma ρ=some (d,ρ')->(∀G' H' v,SI X.K B G' H' σ ρ'->Fz G G'->RepD X.K G' v d->Q v H')->tCB r t σ H Q:=by
 intro B G H σ ρ d ρ' Q I hm k
 obtain⟨ds,e1,e2⟩:=mC_inv hm
 exact sa B G H σ ρ ds ρ' _ I e1 fun G1 H1 vs I1 f1 r1=>hv B G1 H1 σ ρ' vs ds d Q I1 r1 e2 fun G2 H2 z I2 f2 r2=>k G2 H2 z I2 (f1.trans f2) r2
theorem zei (hc:zeb X (.builtin id) r)(hv:VC X r f)(hb:bootBuiltins x=some (.builtin id))(hm:X.mg x=none)(ha:SA X (e::es) ma)(hg:autoParam (Gl X x) zu2._auto_1)(hn:autoParam (x≠"__name__") zu1._auto_1)(hdb:autoParam ((x==("__debug__":Str))=false) zu1._auto_1)
  (he:autoParam (starEach (e::es) X.env=(false,eval e X.env)::starEach es X.env) zu2._auto_1) (hpl:autoParam ((backTo pos (starEach es X.env)).any (·.1)=false) zu2._auto_1):SE X (.Call (.Name x p) (e::es) [] pos) (mC f ma):=by
 obtain⟨t,pa,sa⟩:=ha
 exact⟨_,zfW hc hg hm hb pa hn hdb he hpl,soundC hv sa⟩
theorem znT (hc:zeb X (.type T) r)(hv:VC X r f)(hb:bootBuiltins x=some (.type T))(hm:X.mg x=none)(ha:SA X (e::es) ma)(hg:autoParam (Gl X x) zu2._auto_1)(hn:autoParam (x≠"__name__") zu1._auto_1)(hdb:autoParam ((x==("__debug__":Str))=false) zu1._auto_1)
  (he:autoParam (starEach (e::es) X.env=(false,eval e X.env)::starEach es X.env) zu2._auto_1) (hpl:autoParam ((backTo pos (starEach es X.env)).any (·.1)=false) zu2._auto_1):SE X (.Call (.Name x p) (e::es) [] pos) (mC f ma):=by
 obtain⟨t,pa,sa⟩:=ha
 exact⟨_,zfo hc hg hm hb pa hn hdb he hpl,soundC hv sa⟩
end
end M
namespace M
open L2 PySem PySem.Spec
open PyProof.Rows hiding St
variable {v:V} {ds cs out:List D} {p c l:Addr} {xs vs ys:List V} {X:Cx} {C:Int->Int->Prop} {g:D->R->Option R} {a b e:Expr} {ma:MA} {pos pos':Pos} {k i j n t:Nat} {mb:ME} {K:W.Frag} {G H H' G':Hp} {us its:List Value} {u:Value} {d:D} {B:Bs} {σ σc:St} {ρ ρ':R} {s:Sl} {x qual:Str} {Q E:Value->Shared->Prop} {f:D->D->Option D} {op:CmpOp} {m:MT} {es ifs:List Expr} {h:List D->R->Option R} {body:List Stmt} {N ps:List Str} {fd:FuncData} {env:Env} {scope:Scope} {A:Around} {cl:List (Str×Addr)} {h':Heap} {prog:Program} {w:World} {use:Option (Value->Sem Unit)} {ov:Option (Option V)} {cap:List Nat} {wi:TI} {tg':Addr->Shared->Hp->List Addr->TG} {tt:Addr->Shared->Hp->List Addr->TT} {te:Addr->Shared->Hp->List Addr->TE} {ns:List Int}
section
variable {X:Cx} {K:W.Frag} {B:Bs} {G H:Hp} {σ:St} {ρ:R}
theorem SI.lst (I:SI K B G H σ ρ)(h:RepD K G v (.lst ds)):∃a xs,v= .ref a/\H a=some (.lst xs)/\RepL K G xs ds:=by
 obtain⟨a,xs,e,q,r⟩:=h
 exact⟨a,xs,e,I.fz a _ q,r⟩
theorem SI.tup (I:SI K B G H σ ρ)(h:RepD K G v (.tup ds)):∃a xs,v= .ref a/\H a=some (.tup xs)/\RepL K G xs ds:=by
 obtain⟨a,xs,e,q,r⟩:=h
 exact⟨a,xs,e,I.fz a _ q,r⟩
theorem SI.newT (I:SI K B G H σ ρ)(hp:H p=none)(h:RepL K G xs ds):SI K B (upd G p (.tup xs)) (upd H p (.tup xs)) σ ρ/\Fz G (upd G p (.tup xs))/\RepD K (upd G p (.tup xs)) (.ref p) (.tup ds):=
 ⟨I.allocF hp _,Fz.new (I.fz.free hp) _,⟨p,xs,rfl,zas,h.mono (Fz.new (I.fz.free hp) _)⟩⟩
theorem SI.newL (I:SI K B G H σ ρ)(hp:H p=none)(h:RepL K G xs ds):SI K B (upd G p (.lst xs)) (upd H p (.lst xs)) σ ρ/\Fz G (upd G p (.lst xs))/\RepD K (upd G p (.lst xs)) (.ref p) (.lst ds):=
 ⟨I.allocF hp _,Fz.new (I.fz.free hp) _,⟨p,xs,rfl,zas,h.mono (Fz.new (I.fz.free hp) _)⟩⟩
end
noncomputable def dI2 (c:Int->Int->Bool)(g:Int->Int->D):D->D->Option D
 | .int i,.int j=>if c i j then some (g i j)else none
 |_,_=>none
theorem zok {c:Int->Int->Bool}{g:Int->Int->Int}(hc:∀i j,c i j=true->C i j):V2 X (rI C fun i j=> .int (g i j)) (dI2 c fun i j=> .int (g i j)):=by
 intro B G H σ ρ x y a b d Q I ra rb hf k
 cases a<;>cases b<;>simp only[dI2]at hf<;>try cases hf
 rename_i i j
 split at hf
 ·rename_i h
  cases hf
  exact⟨i,j,ra,rb,hc i j h,k G H _ I (Fz.refl G) rfl⟩
 ·cases hf
theorem v2_int0 {g:Int->Int->Int}:V2 X (rI0 fun i j=> .int (g i j)) (dI2 (fun _ _=>true) fun i j=> .int (g i j)):=by
 intro B G H σ ρ x y a b d Q I ra rb hf k
 cases a<;>cases b<;>simp only[dI2]at hf<;>try cases hf
 rename_i i j
 exact⟨i,j,ra,rb,k G H _ I (Fz.refl G) rfl⟩
theorem zhh {g:Int->Int->Bool}:V2 X (rI0 fun i j=> .bl (g i j)) (dI2 (fun _ _=>true) fun i j=> .bl (g i j)):=by
 intro B G H σ ρ x y a b d Q I ra rb hf k
 cases a<;>cases b<;>simp only[dI2]at hf<;>try cases hf
 rename_i i j
 exact⟨i,j,ra,rb,k G H _ I (Fz.refl G) rfl⟩
noncomputable def dSub:D->D->Option D:=dI2 (fun _ _=>true) fun i j=> .int (i-j)
noncomputable def divOk (j:Int):Bool:=decide (0<j)&&decide (j.natAbs.log2<9000)
theorem op_fdivW:OpR X (binaryOp .FloorDiv) (rI (fun _ j=>0<j/\j.natAbs.log2<9000) fun i j=> .int (i/j)):=opI fun i j _ _ _ _ _ hc q=>by
 have h1:(0:Int)<j:=hc.1
 exact PyProof.Rows.floordiv_int (by lia) (by rw[Int.fdiv_eq_ediv_of_nonneg i (by lia)];exact q) (.inl (PyProof.noPylong_of_log2 hc.2))
noncomputable def dDiv:D->D->Option D:=dI2 (fun _ j=>divOk j) fun i j=> .int (i/j)
noncomputable def dMod:D->D->Option D:=dI2 (fun _ j=>decide (0<j)) fun i j=> .int (i%j)
noncomputable def dPow:D->D->Option D:=dI2 (fun i j=>decide (0<=j)&&decide (j<=1000000)&&decide (i.natAbs<2^64)) fun i j=> .int (i^j.toNat)
noncomputable def dLt:D->D->Option D:=dI2 (fun _ _=>true) fun i j=> .bl (decide (i<j))
noncomputable def dLe:D->D->Option D:=dI2 (fun _ _=>true) fun i j=> .bl (decide (i<=j))
noncomputable def dGt:D->D->Option D:=dI2 (fun _ _=>true) fun i j=> .bl (decide (j<i))
section
variable {X:Cx} {a b:Expr} {ma mb:ME} {pos:Pos}
theorem zbG (ha:SE X a ma)(hb:SE X b mb):SE X (.BinOp a .Sub b pos) (m2 dSub ma mb):=zns op_sub v2_int0 ha hb
theorem se_div (ha:SE X a ma)(hb:SE X b mb):SE X (.BinOp a .FloorDiv b pos) (m2 dDiv ma mb):=zns op_fdivW (zok fun i j h=>by simpa[divOk]using h) ha hb
theorem zeZ (ha:SE X a ma)(hb:SE X b mb):SE X (.BinOp a .Mod b pos) (m2 dMod ma mb):=zns op_mod (zok fun i j h=>by simpa using h) ha hb
theorem zdY (ha:SE X a ma)(hb:SE X b mb):SE X (.BinOp a .Pow b pos) (m2 dPow ma mb):=zns op_pow (zok fun i j h=>by simp only[Bool.and_eq_true,decide_eq_true_eq]at h;exact⟨h.1.1,h.1.2,h.2⟩) ha hb
theorem se_le (ha:SE X a ma)(hb:SE X b mb):SE X (.Compare a [.LtE] [b] pos) (m2 dLe ma mb):=zor zm6 zhh ha hb (zji _)
end
noncomputable def dNeg:D->Option D
 | .int i=>some (.int (-i))
 |_=>none
theorem zk8 {ma:ME}(ha:SE X a ma):SE X (.UnaryOp .USub a pos) (m1 dNeg ma):=
 se_un un_neg (fun B G H σ ρ x a d Q I ra hf k=>by
  cases a<;>simp only[dNeg]at hf<;>try cases hf
  exact⟨_,ra,k G H _ I (Fz.refl G) rfl⟩) ha
noncomputable def zni (i j:Int):Bool:=(decide (i.natAbs<2^64)||decide (j.natAbs<2^64))||(decide (i.natAbs<2^4000)&&decide (j.natAbs<2^4000))
noncomputable def dMul:D->D->Option D
 | .int i,.int j=>if zni i j then some (.int (i*j))else none
 | .lst ds,.int k=>if decide (-1000000<=k)&&decide (k<=1000000)&&decide (ds.length*k.toNat<=1000000)then some (.lst (List.replicate k.toNat ds).flatten)else none
 |_,_=>none
theorem zjm {k:Int}(h:k.natAbs<2^4000):Builtin.Int.intBits k<=4000:=by
 unfold Builtin.Int.intBits
 split
 ·exact Nat.zero_le _
 ·have:k.natAbs.log2<4000:=by
   rcases Nat.eq_zero_or_pos k.natAbs with h0|hp
   ·rw[h0];decide
   ·exact(Nat.log2_lt (Nat.ne_of_gt hp)).mpr h
  lia
theorem mulOk_ok {i j:Int}(h:zni i j=true):IntMulOk i j:=by
 unfold zni at h
 simp only[Bool.or_eq_true,Bool.and_eq_true,decide_eq_true_eq]at h
 rcases h with(h|h)|⟨h1,h2⟩
 ·exact .of_left (intBits_le_64 (by lia) (by lia))
 ·exact .of_right (intBits_le_64 (by lia) (by lia))
 ·have b1:=zjm h1
  have b2:=zjm h2
  unfold IntMulOk
  intro z
  simp only[Bool.and_eq_true]at z
  have z2:=z.2
  unfold Builtin.Int.intTooBig at z2
  revert z2
  generalize Builtin.Int.intBits i=p at*
  generalize Builtin.Int.intBits j=q at*
  intro z2
  have z3:=of_decide_eq_true z2
  have hb:=bitsLine_eq
  lia
theorem op_mulG:OpR X (binaryOp .Mult) (rI IntMulOk fun i j=> .int (i*j)):=opI fun _ _ _ _ _ _ _ hc q=>mul_int q hc
theorem zdV {ma mb:ME}(ha:SE X a ma)(hb:SE X b mb):SE X (.BinOp a .Mult b pos) (m2 dMul ma mb):=by
 refine zns (op_mulG.or op_rep) (fun B G H σ ρ x y a b d Q I ra rb hf k=>?_) ha hb
 cases a<;>cases b<;>simp only[dMul]at hf<;>try cases hf
 ·rename_i i j
  split at hf
  ·rename_i h
   cases hf
   exact .inl ⟨i,j,ra,rb,mulOk_ok h,k G H _ I (Fz.refl G) rfl⟩
  ·cases hf
 ·rename_i ds j
  split at hf
  ·rename_i h
   cases hf
   simp only[Bool.and_eq_true,decide_eq_true_eq]at h
   obtain⟨a,xs,rfl,ha,r⟩:=I.lst ra
   have hl:=r.length
   refine .inr ⟨a,j,xs,rfl,rb,ha,by lia,by lia,by rw[hl,sizeLine_eq];lia,fun p hp=>?_⟩
   obtain⟨I2,f2,r2⟩:=I.newL hp (r.rep j.toNat)
   exact k _ _ _ I2 f2 r2
  ·cases hf
noncomputable def dAdd:D->D->Option D
 | .int i,.int j=>some (.int (i+j))
 | .tup a,.tup b=>if a.length+b.length<=16777216 then some (.tup (a++b))else none
 | .lst a,.lst b=>if a.length+b.length<=16777216 then some (.lst (a++b))else none
 | .str a,.str b=>if a.length+b.length<=16777216 then some (.str (a++b))else none
 |_,_=>none
theorem op_catT0:OpR X (binaryOp .Add) (fun x y H Q=>∃a b ys,x= .ref a/\y= .ref b/\SqT X.K H a []/\SqT X.K H b ys/\Q (.ref b) H):=by
 intro pins s σ H x y v u Q I rx ry h
 obtain⟨a,b,ys,rfl,rfl,ha,hb,q⟩:=h
 cases rx
 cases ry
 obtain⟨its,r1,p1,_⟩:=I.tuple ha
 obtain⟨its2,r2,p2,_⟩:=I.tuple hb
 obtain rfl:its=[]:=by cases r1;rfl
 obtain⟨⟨cls,dd,data,sl⟩,ho,hc,n,hd⟩:=id p1
 obtain⟨⟨cls2,dd2,data2,sl2⟩,ho2,hc2,n2,hd2⟩:=id p2
 simp only at hc hd hc2 hd2
 subst hc hd hc2 hd2
 exact concat_meets ⟨_,ho,rfl⟩ ⟨_,ho2,rfl⟩ noFill_tuple_add seq_tuple_add PySem.F.slot_tuple_add PySem.F.entry_tuple_add (PySem.F.args_tuple_add_2 _ _)
   (tuple_addW0 a b _ _ n n2 dd dd2 sl sl2 (by simp)) ⟨ho,ho2,⟨.ref b,H,I,rfl,q⟩⟩
theorem zaH {ma mb:ME}(ha:SE X a ma)(hb:SE X b mb):SE X (.BinOp a .Add b pos) (m2 dAdd ma mb):=by
 refine zns (op_add.or (op_catT.or (op_catT0.or (op_cat.or zmY)))) (fun B G H σ ρ x y a b d Q I ra rb hf k=>?_) ha hb
 cases a<;>cases b<;>simp only[dAdd]at hf<;>try cases hf
 ·exact .inl ⟨_,_,ra,rb,k G H _ I (Fz.refl G) rfl⟩
 ·rename_i i j
  split at hf
  ·rename_i h
   cases hf
   exact .inr (.inr (.inr (.inr ⟨i,j,ra,rb,by rw[sizeLine_eq];exact h,k G H _ I (Fz.refl G) rfl⟩)))
  ·cases hf
 ·rename_i as bs
  split at hf
  ·rename_i h
   cases hf
   obtain⟨a,xs,rfl,ha,r⟩:=I.lst ra
   obtain⟨b,ys,rfl,hb,r2⟩:=I.lst rb
   refine .inr (.inr (.inr (.inl ⟨a,b,xs,ys,rfl,rfl,ha,hb,by rw[r.length,r2.length,sizeLine_eq];exact h,fun p hp=>?_⟩)))
   obtain⟨I2,f2,r2⟩:=I.newL hp (r.append r2)
   exact k _ _ _ I2 f2 r2
  ·cases hf
 ·rename_i as bs
  split at hf
  ·rename_i h
   cases hf
   obtain⟨a,xs,rfl,ha,r⟩:=I.tup ra
   obtain⟨b,ys,rfl,hb,r2⟩:=I.tup rb
   by_cases z:xs=[]
   ·subst z
    have z':as=[]:=List.eq_nil_of_length_eq_zero r.length.symm
    subst z'
    exact .inr (.inr (.inl ⟨a,b,ys,rfl,rfl,SqT.of ha,SqT.of hb,k G H _ I (Fz.refl G) rb⟩))
   ·refine .inr (.inl ⟨a,b,xs,ys,rfl,rfl,SqT.of ha,SqT.of hb,z,by rw[r.length,r2.length,sizeLine_eq];exact h,fun w=>?_,fun w p hp=>?_⟩)
    ·subst w
     have w':bs=[]:=List.eq_nil_of_length_eq_zero r2.length.symm
     subst w'
     rw[List.append_nil]at k
     exact k G H _ I (Fz.refl G) ra
    ·obtain⟨I2,f2,r2⟩:=I.newT hp (r.append r2)
     exact k _ _ _ I2 f2 r2
  ·cases hf
mutual
noncomputable def noS:D->Bool
 | .scr _=>false
 | .exc _=>false
 | .dic _ _=>false
 | .dit _ _=>false
 | .lst ds=>noSL ds
 | .tup ds=>noSL ds
 |_=>true
noncomputable def noSL:List D->Bool
 |[]=>true
 |d::ds=>noS d&&noSL ds
end
mutual
noncomputable def eqB:D->D->Bool
 | .non,.non=>true
 | .bl a,.bl b=>a==b
 | .int a,.int b=>a==b
 | .str a,.str b=>a==b
 | .bl a,.int b=>(if a then 1 else 0)==b
 | .int a,.bl b=>a==(if b then 1 else 0)
 | .lst a,.lst b=>eqBL a b
 | .tup a,.tup b=>eqBL a b
 |_,_=>false
noncomputable def eqBL:List D->List D->Bool
 |[],[]=>true
 |a::as,b::bs=>eqB a b&&eqBL as bs
 |_,_=>false
end
theorem zgS:∀{as bs:List D},as.length≠bs.length->eqBL as bs=false
 |[],[],h=>absurd rfl h
 |[],_::_,_=>rfl
 |_::_,[],_=>rfl
 |a::as,b::bs,h=>by
  have:=zgS (as:=as) (bs:=bs) (fun e=>h (by simp[e]))
  simp[eqBL,this]
mutual
theorem zjG:∀d,noS d=true->eqB d d=true
 | .non,_=>rfl
 | .bl b,_=>by simp[eqB]
 | .int b,_=>by simp[eqB]
 | .str b,_=>by simp[eqB]
 | .lst ds,h=>by simp only[noS]at h;simp only[eqB];exact zid ds h
 | .tup ds,h=>by simp only[noS]at h;simp only[eqB];exact zid ds h
 | .scr _,h=>by simp[noS]at h
 | .exc _,h=>by simp[noS]at h
 |(.dic _ _),h=>by simp[noS]at h
 |(.dit _ _),h=>by simp[noS]at h
theorem zid:∀ds,noSL ds=true->eqBL ds ds=true
 |[],_=>rfl
 |d::ds,h=>by
  simp only[noSL,Bool.and_eq_true]at h
  simp only[eqBL,Bool.and_eq_true]
  exact⟨zjG d h.1,zid ds h.2⟩
end
mutual
noncomputable def depth:D->Nat
 | .lst ds=>zgr ds+1
 | .tup ds=>zgr ds+1
 |_=>0
noncomputable def zgr:List D->Nat
 |[]=>0
 |d::ds=>max (depth d) (zgr ds)
end
theorem zhk:∀{l:List D} {i:Nat} {d:D},l[i]? =some d->depth d<=zgr l
 |[],_,_,h=>by simp at h
 |c::l,0,d,h=>by simp at h;subst h;simp only[zgr];lia
 |c::l,i+1,d,h=>by
  have:=zhk (l:=l) (i:=i) (d:=d) (by simpa using h)
  simp only[zgr];lia
theorem zgL:∀{l:List D} {i:Nat} {d:D},l[i]? =some d->noSL l=true->noS d=true
 |[],_,_,h,_=>by simp at h
 |c::l,0,d,h,z=>by simp at h;subst h;simp only[noSL,Bool.and_eq_true]at z;exact z.1
 |c::l,i+1,d,h,z=>by simp only[noSL,Bool.and_eq_true]at z;exact zgL (l:=l) (i:=i) (by simpa using h) z.2
mutual
theorem RepD.inj:∀{a b:D} {x:V},noS a=true->noS b=true->RepD K G x a->RepD K G x b->a=b
 | .non,b,x,_,nb,ra,rb=>by
  cases(show x=V.non from ra)
  cases b<;>simp_all [RepD,noS]
 | .bl c,b,x,_,nb,ra,rb=>by
  cases(show x=V.bl c from ra)
  cases b<;>simp_all [RepD,noS]
 | .int c,b,x,_,nb,ra,rb=>by
  cases(show x=V.int c from ra)
  cases b<;>simp_all [RepD,noS]
 | .str c,b,x,_,nb,ra,rb=>by
  cases(show x=V.str c from ra)
  cases b<;>simp_all [RepD,noS]
 | .lst ds,b,x,na,nb,ra,rb=>by
  obtain⟨p,xs,rfl,q,r⟩:=ra
  cases b with
  |lst es=>
   obtain⟨p2,ys,e,q2,r2⟩:=rb
   cases e
   rw[q]at q2
   cases q2
   simp only[noS]at na nb
   rw[RepL.inj na nb r r2]
  |tup es=>
   obtain⟨p2,ys,e,q2,r2⟩:=rb
   cases e
   rw[q]at q2
   cases q2
  |scr _=>simp[noS]at nb
  |exc _=>simp[noS]at nb
  |dic _ _=>simp[noS]at nb
  |dit _ _=>simp[noS]at nb
  |non=>simp[RepD]at rb
  |bl _=>simp[RepD]at rb
  |int _=>simp[RepD]at rb
  |str _=>simp[RepD]at rb
 | .tup ds,b,x,na,nb,ra,rb=>by
  obtain⟨p,xs,rfl,q,r⟩:=ra
  cases b with
  |tup es=>
   obtain⟨p2,ys,e,q2,r2⟩:=rb
   cases e
   rw[q]at q2
   cases q2
   simp only[noS]at na nb
   rw[RepL.inj na nb r r2]
  |lst es=>
   obtain⟨p2,ys,e,q2,r2⟩:=rb
   cases e
   rw[q]at q2
   cases q2
  |scr _=>simp[noS]at nb
  |exc _=>simp[noS]at nb
  |dic _ _=>simp[noS]at nb
  |dit _ _=>simp[noS]at nb
  |non=>simp[RepD]at rb
  |bl _=>simp[RepD]at rb
  |int _=>simp[RepD]at rb
  |str _=>simp[RepD]at rb
 | .scr _,_,_,na,_,_,_=>by simp[noS]at na
 | .exc _,_,_,na,_,_,_=>by simp[noS]at na
 |(.dic _ _),_,_,na,_,_,_=>by simp[noS]at na
 |(.dit _ _),_,_,na,_,_,_=>by simp[noS]at na
theorem RepL.inj:∀{as bs:List D} {xs:List V},noSL as=true->noSL bs=true->RepL K G xs as->RepL K G xs bs->as=bs
 |[],[],_,_,_,_,_=>rfl
 |[],_::_,xs,_,_,e,h=>by
  obtain⟨_,_,e2,_⟩:=h
  cases(show xs=[]from e)
  cases e2
 |_::_,[],xs,_,_,h,e=>by
  obtain⟨_,_,e2,_⟩:=h
  cases(show xs=[]from e)
  cases e2
 |a::as,b::bs,xs,na,nb,h,h2=>by
  obtain⟨x,ys,e,q,r⟩:=h
  obtain⟨x2,ys2,e2,q2,r2⟩:=h2
  subst e
  cases e2
  simp only[noSL,Bool.and_eq_true]at na nb
  rw[RepD.inj na.1 nb.1 q q2,RepL.inj na.2 nb.2 r r2]
end
noncomputable def eqJ (ds es:List D)(j:Nat):Bool:=match ds[j]?,es[j]? with
 |some a,some b=>eqB a b
 |_,_=>false
theorem zd3:∀(as bs:List D),as.length=bs.length->(List.range as.length).all (eqJ as bs)=eqBL as bs
 |[],[],_=>by simp[eqBL]
 |a::as,b::bs,h=>by
  have ih:=zd3 as bs (by simpa using h)
  rw[List.length_cons,List.range_succ_eq_map,List.all_cons,List.all_map]
  simp only[eqBL,<-ih]
  congr 1
 |[],_::_,h=>by simp at h
 |_::_,[],h=>by simp at h
section
variable {X:Cx} {pins:List (Addr×Obj)} {σ:St} {H G:Hp} {s:Shared}
theorem zjD (r:Vals xs us)(h:RepL X.K G xs ds)(e:us[j]? =some u):∃x d,ds[j]? =some d/\RelV x u/\RepD X.K G x d:=by
 have hl:=r.length
 have hl2:=h.length
 have hj:j<us.length:=(List.getElem?_eq_some_iff.mp e).1
 have ej:ds[j]? =some ds[j]:=List.getElem?_eq_getElem (by lia)
 obtain⟨x,q1,q2⟩:=h.get ej
 obtain⟨u',h1,h2⟩:=r.get q1
 have:u'=u:=by rw[h1]at e;exact Option.some.inj e
 subst this
 exact⟨x,_,ej,h2,q2⟩
theorem eqAt_D (I:Inv X pins σ H s)(fz:Fz G H):∀(n:Nat) (A:Around) (a b:D) (x y:V) (u v:Value),depth a<=n->noS a=true->noS b=true->A.units+n+1<cLine->RepD X.K G x a->RepD X.K G y b->RelV x u->RelV y v->
  SeqAt.EqAt A s u v (eqB a b)/\SeqAt.RcAt A s u v (eqB a b):=by
 intro n
 induction n with
 |zero=>
  intro A a b x y u v hd na nb hu ra rb rx ry
  have hu':A.units<cLine:=by lia
  cases a with
  |non=>
   cases(show x=V.non from ra);cases(show u=Value.none from rx)
   cases b with
   |non=>cases(show y=V.non from rb);cases(show v=Value.none from ry);exact⟨.same _,.none_none⟩
   |bl c=>cases(show y=V.bl c from rb);cases(show v=Value.bool c from ry);exact⟨.none_bool _,.none_bool _⟩
   |int c=>cases(show y=V.int c from rb);obtain⟨t,rfl⟩:=ry;exact⟨.none_int _ _,.none_int _ _⟩
   |str c=>cases(show y=V.str c from rb);obtain⟨t,rfl⟩:=ry;exact⟨.none_str _ _,.none_str _ _⟩
   |lst ds=>
    obtain⟨p,xs,rfl,q,r⟩:=rb
    cases(show v=Value.ref p from ry)
    obtain⟨its,rv,pl,hz⟩:=I.list (SqL.of (fz _ _ q))
    exact⟨.none_list pl.isList hu',.none_list pl.isList hu'⟩
   |tup ds=>
    obtain⟨p,xs,rfl,q,r⟩:=rb
    cases(show v=Value.ref p from ry)
    obtain⟨its,rv,pl,hz⟩:=I.tuple (SqT.of (fz _ _ q))
    exact⟨.none_tuple pl hu',.none_tuple pl hu'⟩
   |scr _=>simp[noS]at nb
   |exc _=>simp[noS]at nb
   |dic _ _=>simp[noS]at nb
   |dit _ _=>simp[noS]at nb
  |bl c0=>
   cases(show x=V.bl c0 from ra);cases(show u=Value.bool c0 from rx)
   cases b with
   |non=>cases(show y=V.non from rb);cases(show v=Value.none from ry);exact⟨.bool_none _,.bool_none _⟩
   |bl c=>cases(show y=V.bl c from rb);cases(show v=Value.bool c from ry);exact⟨.bool_bool _ _,.bool_bool _ _⟩
   |int c=>cases(show y=V.int c from rb);obtain⟨t,rfl⟩:=ry;exact⟨.bool_int _ _ _,.bool_int _ _ _⟩
   |str c=>cases(show y=V.str c from rb);obtain⟨t,rfl⟩:=ry;exact⟨.bool_str _ _ _,.bool_str _ _ _⟩
   |lst ds=>
    obtain⟨p,xs,rfl,q,r⟩:=rb
    cases(show v=Value.ref p from ry)
    obtain⟨its,rv,pl,hz⟩:=I.list (SqL.of (fz _ _ q))
    exact⟨.bool_list _ pl.isList hu',.bool_list _ pl.isList hu'⟩
   |tup ds=>
    obtain⟨p,xs,rfl,q,r⟩:=rb
    cases(show v=Value.ref p from ry)
    obtain⟨its,rv,pl,hz⟩:=I.tuple (SqT.of (fz _ _ q))
    exact⟨.bool_tuple _ pl hu',.bool_tuple _ pl hu'⟩
   |scr _=>simp[noS]at nb
   |exc _=>simp[noS]at nb
   |dic _ _=>simp[noS]at nb
   |dit _ _=>simp[noS]at nb
  |int c0=>
   cases(show x=V.int c0 from ra);obtain⟨t0,rfl⟩:=rx
   cases b with
   |non=>cases(show y=V.non from rb);cases(show v=Value.none from ry);exact⟨.int_none _ _,.int_none _ _⟩
   |bl c=>cases(show y=V.bl c from rb);cases(show v=Value.bool c from ry);exact⟨.int_bool _ _ _,.int_bool _ _ _⟩
   |int c=>cases(show y=V.int c from rb);obtain⟨t,rfl⟩:=ry;exact⟨.int_int _ _ _ _,.int_int _ _ _ _⟩
   |str c=>cases(show y=V.str c from rb);obtain⟨t,rfl⟩:=ry;exact⟨.int_str _ _ _ _,.int_str _ _ _ _⟩
   |lst ds=>
    obtain⟨p,xs,rfl,q,r⟩:=rb
    cases(show v=Value.ref p from ry)
    obtain⟨its,rv,pl,hz⟩:=I.list (SqL.of (fz _ _ q))
    exact⟨.int_list _ _ pl.isList hu',.int_list _ _ pl.isList hu'⟩
   |tup ds=>
    obtain⟨p,xs,rfl,q,r⟩:=rb
    cases(show v=Value.ref p from ry)
    obtain⟨its,rv,pl,hz⟩:=I.tuple (SqT.of (fz _ _ q))
    exact⟨.int_tuple _ _ pl hu',.int_tuple _ _ pl hu'⟩
   |scr _=>simp[noS]at nb
   |exc _=>simp[noS]at nb
   |dic _ _=>simp[noS]at nb
   |dit _ _=>simp[noS]at nb
  |str c0=>
   cases(show x=V.str c0 from ra);obtain⟨t0,rfl⟩:=rx
   cases b with
   |non=>cases(show y=V.non from rb);cases(show v=Value.none from ry);exact⟨.str_none _ _,.str_none _ _⟩
   |bl c=>cases(show y=V.bl c from rb);cases(show v=Value.bool c from ry);exact⟨.str_bool _ _ _,.str_bool _ _ _⟩
   |int c=>cases(show y=V.int c from rb);obtain⟨t,rfl⟩:=ry;exact⟨.str_int _ _ _ _,.str_int _ _ _ _⟩
   |str c=>cases(show y=V.str c from rb);obtain⟨t,rfl⟩:=ry;exact⟨.str_str _ _ _ _,.str_str _ _ _ _⟩
   |lst ds=>
    obtain⟨p,xs,rfl,q,r⟩:=rb
    cases(show v=Value.ref p from ry)
    obtain⟨its,rv,pl,hz⟩:=I.list (SqL.of (fz _ _ q))
    exact⟨.str_list _ _ pl.isList hu',.str_list _ _ pl.isList hu'⟩
   |tup ds=>
    obtain⟨p,xs,rfl,q,r⟩:=rb
    cases(show v=Value.ref p from ry)
    obtain⟨its,rv,pl,hz⟩:=I.tuple (SqT.of (fz _ _ q))
    exact⟨.str_tuple _ _ pl hu',.str_tuple _ _ pl hu'⟩
   |scr _=>simp[noS]at nb
   |exc _=>simp[noS]at nb
   |dic _ _=>simp[noS]at nb
   |dit _ _=>simp[noS]at nb
  |lst ds=>simp[depth]at hd
  |tup ds=>simp[depth]at hd
  |scr _=>simp[noS]at na
  |exc _=>simp[noS]at na
  |dic _ _=>simp[noS]at na
  |dit _ _=>simp[noS]at na
 |succ n ih=>
  intro A a b x y u v hd na nb hu ra rb rx ry
  have hu':A.units<cLine:=by lia
  have items:∀(ds es:List D) (xs ys:List V) (its its2:List Value),zgr ds<=n->noSL ds=true->noSL es=true->RepL X.K G xs ds->RepL X.K G ys es->Vals xs its->Vals ys its2->
    ∀j (h1:j<its.toArray.size) (h2:j<its2.toArray.size),SeqAt.EqAt A.in1 s its.toArray[j] its2.toArray[j] (eqJ ds es j):=by
   intro ds es xs ys its its2 hd nd ne r r2 rv rv2 j h1 h2
   simp only[List.size_toArray]at h1 h2
   obtain⟨x1,d1,e1,k1,m1⟩:=zjD rv r (j:=j) (u:=its[j]) (List.getElem?_eq_getElem h1)
   obtain⟨x2,d2,e2,k2,m2⟩:=zjD rv2 r2 (j:=j) (u:=its2[j]) (List.getElem?_eq_getElem h2)
   have e:eqJ ds es j=eqB d1 d2:=by unfold eqJ;rw[e1,e2]
   rw[e]
   have:=zhk e1
   simpa using(ih A.in1 d1 d2 x1 x2 _ _ (by lia) (zgL e1 nd) (zgL e2 ne) (by show A.units+1+n+1<cLine;lia) m1 m2 k1 k2).1
  cases a with
  |scr _=>simp[noS]at na
  |exc _=>simp[noS]at na
  |dic _ _=>simp[noS]at na
  |dit _ _=>simp[noS]at na
  |non=>exact ih A .non b x y u v (Nat.zero_le _) na nb (by lia) ra rb rx ry
  |bl c=>exact ih A (.bl c) b x y u v (Nat.zero_le _) na nb (by lia) ra rb rx ry
  |int c=>exact ih A (.int c) b x y u v (Nat.zero_le _) na nb (by lia) ra rb rx ry
  |str c=>exact ih A (.str c) b x y u v (Nat.zero_le _) na nb (by lia) ra rb rx ry
  |lst ds=>
   have ra0:=ra
   obtain⟨p,xs,rfl,q,r⟩:=ra
   cases(show u=Value.ref p from rx)
   obtain⟨its,rv,pl,hz⟩:=I.list (SqL.of (fz _ _ q))
   cases b with
   |non=>cases(show y=V.non from rb);cases(show v=Value.none from ry);exact⟨.list_none pl.isList hu',.list_none pl.isList hu'⟩
   |bl c=>cases(show y=V.bl c from rb);cases(show v=Value.bool c from ry);exact⟨.list_bool _ pl.isList hu',.list_bool _ pl.isList hu'⟩
   |int c=>cases(show y=V.int c from rb);obtain⟨t,rfl⟩:=ry;exact⟨.list_int _ _ pl.isList hu',.list_int _ _ pl.isList hu'⟩
   |str c=>cases(show y=V.str c from rb);obtain⟨t,rfl⟩:=ry;exact⟨.list_str _ _ pl.isList hu',.list_str _ _ pl.isList hu'⟩
   |scr _=>simp[noS]at nb
   |exc _=>simp[noS]at nb
   |dic _ _=>simp[noS]at nb
   |dit _ _=>simp[noS]at nb
   |tup es=>
    obtain⟨p2,ys,rfl,q2,r2⟩:=rb
    cases(show v=Value.ref p2 from ry)
    obtain⟨its2,rv2,pl2,hz2⟩:=I.tuple (SqT.of (fz _ _ q2))
    exact⟨.list_tuple pl.isList pl2 hu',.list_tuple pl.isList pl2 hu'⟩
   |lst es=>
    have rb0:=rb
    obtain⟨p2,ys,rfl,q2,r2⟩:=rb
    cases(show v=Value.ref p2 from ry)
    obtain⟨its2,rv2,pl2,hz2⟩:=I.list (SqL.of (fz _ _ q2))
    simp only[depth]at hd
    have l1:=rv.length;have l2:=r.length;have l3:=rv2.length;have l4:=r2.length
    have rc:SeqAt.RcAt A s (.ref p) (.ref p2) (eqBL ds es):=by
     by_cases hl:ds.length=es.length
     ·have z:=SeqAt.RcAt.lists (A:=A) (s:=s) (e:=eqJ ds es) pl.isList pl2.isList (by simp only[List.size_toArray];lia) hu' (items ds es xs ys its its2 (by lia) (by simpa only[noS]using na) (by simpa only[noS]using nb) r r2 rv rv2)
      rw[List.size_toArray,<-l1,l2,zd3 ds es hl]at z
      exact z
     ·rw[zgS hl]
      refine .lists_lengths pl.isList pl2.isList ?_ hu'
      simp only[List.size_toArray,bne_iff_ne,ne_eq]
      lia
    refine⟨?_,by simp only[eqB];exact rc⟩
    by_cases hp:p=p2
    ·subst hp
     have e:=RepD.inj na nb ra0 rb0
     cases e
     rw[zjG _ na]
     exact .same _
    ·simp only[eqB]
     exact .of_refs hp rc
  |tup ds=>
   have ra0:=ra
   obtain⟨p,xs,rfl,q,r⟩:=ra
   cases(show u=Value.ref p from rx)
   obtain⟨its,rv,pl,hz⟩:=I.tuple (SqT.of (fz _ _ q))
   cases b with
   |non=>cases(show y=V.non from rb);cases(show v=Value.none from ry);exact⟨.tuple_none pl hu',.tuple_none pl hu'⟩
   |bl c=>cases(show y=V.bl c from rb);cases(show v=Value.bool c from ry);exact⟨.tuple_bool _ pl hu',.tuple_bool _ pl hu'⟩
   |int c=>cases(show y=V.int c from rb);obtain⟨t,rfl⟩:=ry;exact⟨.tuple_int _ _ pl hu',.tuple_int _ _ pl hu'⟩
   |str c=>cases(show y=V.str c from rb);obtain⟨t,rfl⟩:=ry;exact⟨.tuple_str _ _ pl hu',.tuple_str _ _ pl hu'⟩
   |scr _=>simp[noS]at nb
   |exc _=>simp[noS]at nb
   |dic _ _=>simp[noS]at nb
   |dit _ _=>simp[noS]at nb
   |lst es=>
    obtain⟨p2,ys,rfl,q2,r2⟩:=rb
    cases(show v=Value.ref p2 from ry)
    obtain⟨its2,rv2,pl2,hz2⟩:=I.list (SqL.of (fz _ _ q2))
    exact⟨.tuple_list pl pl2.isList hu',.tuple_list pl pl2.isList hu'⟩
   |tup es=>
    have rb0:=rb
    obtain⟨p2,ys,rfl,q2,r2⟩:=rb
    cases(show v=Value.ref p2 from ry)
    obtain⟨its2,rv2,pl2,hz2⟩:=I.tuple (SqT.of (fz _ _ q2))
    simp only[depth]at hd
    have l1:=rv.length;have l2:=r.length;have l3:=rv2.length;have l4:=r2.length
    have rc:SeqAt.RcAt A s (.ref p) (.ref p2) (eqBL ds es):=by
     have z:=SeqAt.RcAt.tuples (A:=A) (s:=s) (e:=eqJ ds es) pl pl2 hu' (items ds es xs ys its its2 (by lia) (by simpa only[noS]using na) (by simpa only[noS]using nb) r r2 rv rv2)
     simp only[List.size_toArray]at z
     by_cases hl:ds.length=es.length
     ·have e1:min its.length its2.length=ds.length:=by lia
      have e2:(its.length==its2.length)=true:=by simp;lia
      rw[e1,e2,Bool.and_true,zd3 ds es hl]at z
      exact z
     ·have e2:(its.length==its2.length)=false:=by simp;lia
      rw[e2,Bool.and_false]at z
      rw[zgS hl]
      exact z
    refine⟨?_,by simp only[eqB];exact rc⟩
    by_cases hp:p=p2
    ·subst hp
     have e:=RepD.inj na nb ra0 rb0
     cases e
     rw[zjG _ na]
     exact .same _
    ·simp only[eqB]
     exact .of_refs hp rc
end
noncomputable def dEq (a b:D):Option D:=if noS a&&noS b&&decide (depth a<=50)then some (.bl (eqB a b))else none
noncomputable def dNe (a b:D):Option D:=if noS a&&noS b&&decide (depth a<=50)then some (.bl (!eqB a b))else none
noncomputable def rEqD (K:W.Frag)(c:Bool->Bool):R2:=fun x y H Q=>∃G a b,Fz G H/\RepD K G x a/\RepD K G y b/\noS a=true/\noS b=true/\depth a<=50/\Q (.bl (c (eqB a b))) H
theorem op_eqD (hu:X.A.units+64<cLine):OpR X (compareOp .Eq) (rEqD X.K id):=by
 intro pins s σ H x y v u Q I rx ry h
 obtain⟨G,a,b,fz,ra,rb,na,nb,hd,q⟩:=h
 exact(eqAt_D I fz 50 X.A a b x y v u hd na nb (by lia) ra rb rx ry).2 _ _ _ _ ⟨.bl _,H,I,rfl,q⟩
theorem se_eq {ma mb:ME}(hu:X.A.units+64<cLine)(ha:SE X a ma)(hb:SE X b mb):SE X (.Compare a [.Eq] [b] pos) (m2 dEq ma mb):=by
 refine zor (op_eqD hu) (fun B G H σ ρ x y a b d Q I ra rb hf k=>?_) ha hb (zji _)
 unfold dEq at hf
 split at hf
 ·rename_i h
  simp only[Bool.and_eq_true,decide_eq_true_eq]at h
  cases hf
  exact⟨G,a,b,I.fz,ra,rb,h.1.1,h.1.2,h.2,k G H _ I (Fz.refl G) rfl⟩
 ·cases hf
section
variable {X:Cx} {pins:List (Addr×Obj)} {σ:St} {H G:Hp} {s:Shared}
theorem neAt_D (I:Inv X pins σ H s)(fz:Fz G H)(A:Around)(a b:D)(x y:V)(u v:Value)(hd:depth a<=50)(na:noS a=true)(nb:noS b=true)(hu:A.units+64<cLine)(ra:RepD X.K G x a)(rb:RepD X.K G y b)(rx:RelV x u)(ry:RelV y v):
  SeqAt.RcNeAt A s u v (!eqB a b):=by
 have hu':A.units<cLine:=by lia
 have items:∀(ds es:List D) (xs ys:List V) (its its2:List Value),zgr ds<=49->noSL ds=true->noSL es=true->RepL X.K G xs ds->RepL X.K G ys es->Vals xs its->Vals ys its2->
   ∀j (h1:j<its.toArray.size) (h2:j<its2.toArray.size),SeqAt.EqAt A.in1 s its.toArray[j] its2.toArray[j] (eqJ ds es j):=by
  intro ds es xs ys its its2 hd nd ne r r2 rv rv2 j h1 h2
  simp only[List.size_toArray]at h1 h2
  obtain⟨x1,d1,e1,k1,m1⟩:=zjD rv r (j:=j) (u:=its[j]) (List.getElem?_eq_getElem h1)
  obtain⟨x2,d2,e2,k2,m2⟩:=zjD rv2 r2 (j:=j) (u:=its2[j]) (List.getElem?_eq_getElem h2)
  have e:eqJ ds es j=eqB d1 d2:=by unfold eqJ;rw[e1,e2]
  rw[e]
  have:=zhk e1
  simpa using(eqAt_D I fz 49 A.in1 d1 d2 x1 x2 _ _ (by lia) (zgL e1 nd) (zgL e2 ne) (by show A.units+1+49+1<cLine;lia) m1 m2 k1 k2).1
 cases a with
 |scr _=>simp[noS]at na
 |exc _=>simp[noS]at na
 |dic _ _=>simp[noS]at na
 |dit _ _=>simp[noS]at na
 |non=>
  cases(show x=V.non from ra);cases(show u=Value.none from rx)
  cases b with
  |non=>cases(show y=V.non from rb);cases(show v=Value.none from ry);exact .none_none
  |bl c=>cases(show y=V.bl c from rb);cases(show v=Value.bool c from ry);exact .none_bool _
  |int c=>cases(show y=V.int c from rb);obtain⟨t,rfl⟩:=ry;exact .none_int _ _
  |str c=>cases(show y=V.str c from rb);obtain⟨t,rfl⟩:=ry;exact .none_str _ _
  |lst ds=>
   obtain⟨p,xs,rfl,q,r⟩:=rb
   cases(show v=Value.ref p from ry)
   obtain⟨its,rv,pl,hz⟩:=I.list (SqL.of (fz _ _ q))
   exact .none_list pl.isList hu'
  |tup ds=>
   obtain⟨p,xs,rfl,q,r⟩:=rb
   cases(show v=Value.ref p from ry)
   obtain⟨its,rv,pl,hz⟩:=I.tuple (SqT.of (fz _ _ q))
   exact .none_tuple pl hu'
  |scr _=>simp[noS]at nb
  |exc _=>simp[noS]at nb
  |dic _ _=>simp[noS]at nb
  |dit _ _=>simp[noS]at nb
 |bl c0=>
  cases(show x=V.bl c0 from ra);cases(show u=Value.bool c0 from rx)
  cases b with
  |non=>cases(show y=V.non from rb);cases(show v=Value.none from ry);exact .bool_none _
  |bl c=>cases(show y=V.bl c from rb);cases(show v=Value.bool c from ry);exact .bool_bool _ _
  |int c=>cases(show y=V.int c from rb);obtain⟨t,rfl⟩:=ry;exact .bool_int _ _ _
  |str c=>cases(show y=V.str c from rb);obtain⟨t,rfl⟩:=ry;exact .bool_str _ _ _
  |lst ds=>
   obtain⟨p,xs,rfl,q,r⟩:=rb
   cases(show v=Value.ref p from ry)
   obtain⟨its,rv,pl,hz⟩:=I.list (SqL.of (fz _ _ q))
   exact .bool_list _ pl.isList hu'
  |tup ds=>
   obtain⟨p,xs,rfl,q,r⟩:=rb
   cases(show v=Value.ref p from ry)
   obtain⟨its,rv,pl,hz⟩:=I.tuple (SqT.of (fz _ _ q))
   exact .bool_tuple _ pl hu'
  |scr _=>simp[noS]at nb
  |exc _=>simp[noS]at nb
  |dic _ _=>simp[noS]at nb
  |dit _ _=>simp[noS]at nb
 |int c0=>
  cases(show x=V.int c0 from ra);obtain⟨t0,rfl⟩:=rx
  cases b with
  |non=>cases(show y=V.non from rb);cases(show v=Value.none from ry);exact .int_none _ _
  |bl c=>cases(show y=V.bl c from rb);cases(show v=Value.bool c from ry);exact .int_bool _ _ _
  |int c=>cases(show y=V.int c from rb);obtain⟨t,rfl⟩:=ry;exact .int_int _ _ _ _
  |str c=>cases(show y=V.str c from rb);obtain⟨t,rfl⟩:=ry;exact .int_str _ _ _ _
  |lst ds=>
   obtain⟨p,xs,rfl,q,r⟩:=rb
   cases(show v=Value.ref p from ry)
   obtain⟨its,rv,pl,hz⟩:=I.list (SqL.of (fz _ _ q))
   exact .int_list _ _ pl.isList hu'
  |tup ds=>
   obtain⟨p,xs,rfl,q,r⟩:=rb
   cases(show v=Value.ref p from ry)
   obtain⟨its,rv,pl,hz⟩:=I.tuple (SqT.of (fz _ _ q))
   exact .int_tuple _ _ pl hu'
  |scr _=>simp[noS]at nb
  |exc _=>simp[noS]at nb
  |dic _ _=>simp[noS]at nb
  |dit _ _=>simp[noS]at nb
 |str c0=>
  cases(show x=V.str c0 from ra);obtain⟨t0,rfl⟩:=rx
  cases b with
  |non=>cases(show y=V.non from rb);cases(show v=Value.none from ry);exact .str_none _ _
  |bl c=>cases(show y=V.bl c from rb);cases(show v=Value.bool c from ry);exact .str_bool _ _ _
  |int c=>cases(show y=V.int c from rb);obtain⟨t,rfl⟩:=ry;exact .str_int _ _ _ _
  |str c=>cases(show y=V.str c from rb);obtain⟨t,rfl⟩:=ry;exact .str_str _ _ _ _
  |lst ds=>
   obtain⟨p,xs,rfl,q,r⟩:=rb
   cases(show v=Value.ref p from ry)
   obtain⟨its,rv,pl,hz⟩:=I.list (SqL.of (fz _ _ q))
   exact .str_list _ _ pl.isList hu'
  |tup ds=>
   obtain⟨p,xs,rfl,q,r⟩:=rb
   cases(show v=Value.ref p from ry)
   obtain⟨its,rv,pl,hz⟩:=I.tuple (SqT.of (fz _ _ q))
   exact .str_tuple _ _ pl hu'
  |scr _=>simp[noS]at nb
  |exc _=>simp[noS]at nb
  |dic _ _=>simp[noS]at nb
  |dit _ _=>simp[noS]at nb
 |lst ds=>
  obtain⟨p,xs,rfl,q,r⟩:=ra
  cases(show u=Value.ref p from rx)
  obtain⟨its,rv,pl,hz⟩:=I.list (SqL.of (fz _ _ q))
  cases b with
  |non=>cases(show y=V.non from rb);cases(show v=Value.none from ry);exact .list_none pl.isList hu'
  |bl c=>cases(show y=V.bl c from rb);cases(show v=Value.bool c from ry);exact .list_bool _ pl.isList hu'
  |int c=>cases(show y=V.int c from rb);obtain⟨t,rfl⟩:=ry;exact .list_int _ _ pl.isList hu'
  |str c=>cases(show y=V.str c from rb);obtain⟨t,rfl⟩:=ry;exact .list_str _ _ pl.isList hu'
  |scr _=>simp[noS]at nb
  |exc _=>simp[noS]at nb
  |dic _ _=>simp[noS]at nb
  |dit _ _=>simp[noS]at nb
  |tup es=>
   obtain⟨p2,ys,rfl,q2,r2⟩:=rb
   cases(show v=Value.ref p2 from ry)
   obtain⟨its2,rv2,pl2,hz2⟩:=I.tuple (SqT.of (fz _ _ q2))
   exact .list_tuple pl.isList pl2 hu'
  |lst es=>
   obtain⟨p2,ys,rfl,q2,r2⟩:=rb
   cases(show v=Value.ref p2 from ry)
   obtain⟨its2,rv2,pl2,hz2⟩:=I.list (SqL.of (fz _ _ q2))
   simp only[depth]at hd
   have l1:=rv.length;have l2:=r.length;have l3:=rv2.length;have l4:=r2.length
   simp only[eqB]
   by_cases hl:ds.length=es.length
   ·have z:=SeqAt.RcNeAt.lists (A:=A) (s:=s) (e:=eqJ ds es) pl.isList pl2.isList (by simp only[List.size_toArray];lia) hu' (items ds es xs ys its its2 (by lia) (by simpa only[noS]using na) (by simpa only[noS]using nb) r r2 rv rv2)
    rw[List.size_toArray,<-l1,l2,zd3 ds es hl]at z
    exact z
   ·rw[zgS hl]
    refine .lists_lengths pl.isList pl2.isList ?_ hu'
    simp only[List.size_toArray,bne_iff_ne,ne_eq]
    lia
 |tup ds=>
  obtain⟨p,xs,rfl,q,r⟩:=ra
  cases(show u=Value.ref p from rx)
  obtain⟨its,rv,pl,hz⟩:=I.tuple (SqT.of (fz _ _ q))
  cases b with
  |non=>cases(show y=V.non from rb);cases(show v=Value.none from ry);exact .tuple_none pl hu'
  |bl c=>cases(show y=V.bl c from rb);cases(show v=Value.bool c from ry);exact .tuple_bool _ pl hu'
  |int c=>cases(show y=V.int c from rb);obtain⟨t,rfl⟩:=ry;exact .tuple_int _ _ pl hu'
  |str c=>cases(show y=V.str c from rb);obtain⟨t,rfl⟩:=ry;exact .tuple_str _ _ pl hu'
  |scr _=>simp[noS]at nb
  |exc _=>simp[noS]at nb
  |dic _ _=>simp[noS]at nb
  |dit _ _=>simp[noS]at nb
  |lst es=>
   obtain⟨p2,ys,rfl,q2,r2⟩:=rb
   cases(show v=Value.ref p2 from ry)
   obtain⟨its2,rv2,pl2,hz2⟩:=I.list (SqL.of (fz _ _ q2))
   exact .tuple_list pl pl2.isList hu'
  |tup es=>
   obtain⟨p2,ys,rfl,q2,r2⟩:=rb
   cases(show v=Value.ref p2 from ry)
   obtain⟨its2,rv2,pl2,hz2⟩:=I.tuple (SqT.of (fz _ _ q2))
   simp only[depth]at hd
   have l1:=rv.length;have l2:=r.length;have l3:=rv2.length;have l4:=r2.length
   have z:=SeqAt.RcNeAt.tuples (A:=A) (s:=s) (e:=eqJ ds es) pl pl2 hu' (items ds es xs ys its its2 (by lia) (by simpa only[noS]using na) (by simpa only[noS]using nb) r r2 rv rv2)
   simp only[List.size_toArray]at z
   simp only[eqB]
   by_cases hl:ds.length=es.length
   ·have e1:min its.length its2.length=ds.length:=by lia
    have e2:(its.length==its2.length)=true:=by simp;lia
    rw[e1,e2,Bool.and_true,zd3 ds es hl]at z
    exact z
   ·have e2:(its.length==its2.length)=false:=by simp;lia
    rw[e2,Bool.and_false]at z
    rw[zgS hl]
    exact z
end
theorem op_neD (hu:X.A.units+64<cLine):OpR X (compareOp .NotEq) (rEqD X.K not):=by
 intro pins s σ H x y v u Q I rx ry h
 obtain⟨G,a,b,fz,ra,rb,na,nb,hd,q⟩:=h
 exact neAt_D I fz X.A a b x y v u hd na nb hu ra rb rx ry _ _ _ _ ⟨.bl _,H,I,rfl,q⟩
theorem v2_ne:V2 X (rEqD X.K not) dNe:=by
 intro B G H σ ρ x y a b d Q I ra rb hf k
 unfold dNe at hf
 split at hf
 ·rename_i h
  simp only[Bool.and_eq_true,decide_eq_true_eq]at h
  cases hf
  exact⟨G,a,b,I.fz,ra,rb,h.1.1,h.1.2,h.2,k G H _ I (Fz.refl G) rfl⟩
 ·cases hf
theorem v2_eq:V2 X (rEqD X.K id) dEq:=by
 intro B G H σ ρ x y a b d Q I ra rb hf k
 unfold dEq at hf
 split at hf
 ·rename_i h
  simp only[Bool.and_eq_true,decide_eq_true_eq]at h
  cases hf
  exact⟨G,a,b,I.fz,ra,rb,h.1.1,h.1.2,h.2,k G H _ I (Fz.refl G) rfl⟩
 ·cases hf
noncomputable def dIx:D->D->Option D
 | .lst ds,.int i=>atI ds i
 | .tup ds,.int i=>atI ds i
 | .scr ns,.int i=>(atI ns i).map .int
 |_,_=>none
theorem atI_map {α β:Type}(f:α->β){xs:List α}{i:Int}{v:α}(h:atI xs i=some v):atI (xs.map f) i=some (f v):=by
 unfold atI at h ⊢
 rw[List.length_map]
 cases q:ixN xs.length i with
 |none=>rw[q]at h;cases h
 |some j=>
  rw[q]at h
  show(xs.map f)[j]? =_
  rw[List.getElem?_map,show xs[j]? =some v from h]
  rfl
noncomputable def ReadD (K:W.Frag)(G H:Hp)(v:V):D->Prop
 | .lst ds=>∃a xs,v= .ref a/\H a=some (.lst xs)/\RepL K G xs ds
 |d=>RepD K G v d
theorem ReadD.of (fz:Fz G H)(h:RepD K G v d):ReadD K G H v d:=by
 cases d with
 |lst ds=>obtain⟨a,xs,e,q,r⟩:=h;exact⟨a,xs,e,fz a _ q,r⟩
 |_=>exact h
noncomputable def Sl.read:Sl->Option D
 | .emp=>none
 | .two _ _=>none
 | .tre _=>none
 | .ptr _=>none
 | .val d=>some d
 | .own ds=>some (.lst ds)
 | .par ds=>some (.lst ds)
noncomputable def hasV (ρ:R)(j:Nat):Bool:=match ρ[j]? with
 |some (.val _)=>true
 |some (.own _)=>true
 |some (.par _)=>true
 |_=>false
theorem SI.has (I:SI K B G H σ ρ)(h:hasV ρ j=true):∃v,σ[j]? =some (some v):=by
 unfold hasV at h
 cases e:ρ[j]? with
 |none=>rw[e]at h;cases h
 |some s=>
  rw[e]at h
  have q:=I.slot j s e
  cases s with
  |emp=>cases h
  |two _ _=>cases h
  |tre _=>cases h
  |ptr _=>cases h
  |val d=>obtain⟨v,e,_⟩:=q;exact⟨v,e⟩
  |own d=>obtain⟨l,_,e,_⟩:=q;exact⟨_,e⟩
  |par d=>obtain⟨l,_,e,_⟩:=q;exact⟨_,e⟩
theorem SI.read (I:SI K B G H σ ρ)(hv:σ[j]? =some (some v))(e:ρ[j]? =some s)(q:s.read=some d):ReadD K G H v d:=by
 have h:=I.slot j s e
 cases s with
 |emp=>cases q
 |two _ _=>cases q
 |tre _=>cases q
 |ptr _=>cases q
 |val d'=>
  cases q
  obtain⟨w,e1,r⟩:=h
  rw[hv]at e1;cases e1
  exact .of I.fz r
 |own ds=>
  cases q
  obtain⟨l,xs,e1,_,h3,h4,_⟩:=h
  rw[hv]at e1;cases e1
  exact⟨l,xs,rfl,h3,h4⟩
 |par ds=>
  cases q
  obtain⟨l,xs,e1,_,h3,h4,_⟩:=h
  rw[hv]at e1;cases e1
  exact⟨l,xs,rfl,h3,h4⟩
theorem zlI {x y:V}{a b d:D}{Q:VK}(I:SI K B G H σ ρ)(ra:ReadD K G H x a)(rb:RepD K G y b)(hf:dIx a b=some d)(k:∀v,RepD K G v d->Q v H):rIx K x y H Q:=by
 cases a<;>cases b<;>simp only[dIx]at hf<;>try cases hf
 ·rename_i ds i
  obtain⟨p,xs,rfl,hp,r⟩:=ra
  obtain⟨v,e,q⟩:=r.at hf
  exact .inl ⟨p,xs,i,v,rfl,rb,SqL.of hp,e,k _ q⟩
 ·rename_i ds i
  obtain⟨p,xs,rfl,hp,r⟩:=I.tup ra
  obtain⟨v,e,q⟩:=r.at hf
  exact .inr (.inl ⟨p,xs,i,v,rfl,rb,SqT.of hp,e,k _ q⟩)
 ·rename_i ns i
  obtain⟨p,rfl,hp⟩:=ra
  cases e:atI ns i with
  |none=>rw[e]at hf;cases hf
  |some n=>
   rw[e]at hf
   cases hf
   exact .inl ⟨p,_,i,.int n,rfl,rb,I.fz.sql hp,atI_map V.int e,k _ rfl⟩
theorem v2_ix:V2 X (rIx X.K) dIx:=fun B G H σ ρ x y a b d Q I ra rb hf k=>zlI I (.of I.fz ra) rb hf fun v q=>k G H v I (Fz.refl G) q
theorem zbz {ma mb:ME}(ha:SE X a ma)(hb:SE X b mb)(hs:autoParam (zgF b) zu6._auto_1):SE X (.Subscript a b pos) (m2 dIx ma mb):=se_ix zn7 v2_ix ha hb hs
noncomputable def eIxV (j:Nat)(mi:ME):ME:=fun ρ=>if hasV ρ j then(mi ρ).bind fun p=>(p.2[j]?.bind Sl.read).bind fun d=>(dIx d p.1).map fun e=>(e,p.2)else none
theorem zak (j:Nat)(hb:SE X b mb)(hN:autoParam (X.N[j]? =some x) zu2._auto_1)(hv:autoParam (Vis X.env.scope x) zu5._auto_1)(hd:autoParam ((x==("__debug__":Str))=false) zu1._auto_1)
    (hcd:autoParam ((x==("__classdict__":Str))=false) zu1._auto_1) (hs:autoParam (zgF b) zu6._auto_1):SE X (.Subscript (.Name x pos') b pos) (eIxV j mb):=by
  obtain⟨tb,pb,sb⟩:=hb
  refine⟨_,znr zn7 (zcX hN hv hd hcd) pb hs,fun B G H σ ρ d ρ' Q I hm k=>?_⟩
  unfold eIxV at hm
  split at hm
  . rename_i hh
    obtain⟨v,ev⟩:=I.has hh
    cases e1:mb ρ with
    |none=>rw[e1]at hm;cases hm
    |some q=>
      obtain⟨i,ρ1⟩:=q
      rw[e1]at hm
      simp only[Option.bind_some]at hm
      cases e2:ρ1[j]? with
      |none=>rw[e2]at hm;cases hm
      |some s=>
        rw[e2]at hm
        simp only[Option.bind_some]at hm
        cases e3:s.read with
        |none=>rw[e3]at hm;cases hm
        |some a=>
          rw[e3]at hm
          simp only[Option.bind_some]at hm
          cases e4:dIx a i with
          |none=>rw[e4]at hm;cases hm
          |some c=>
            rw[e4]at hm
            cases hm
            exact⟨v,ev,sb B G H σ ρ i ρ' _ I e1 fun G1 H1 y I1 f1 r1=>zlI I1 (I1.read ev e2 e3) r1 e4 fun w q=>k G1 H1 w I1 f1 q⟩
  . cases hm
noncomputable def dLen:List D->Option D
 |[.lst ds]=>some (.int ds.length)
 |[.tup ds]=>some (.int ds.length)
 |[.scr ns]=>some (.int ns.length)
 |_=>none
theorem zmR {x:V}{a d:D}{Q:VK}(I:SI K B G H σ ρ)(ra:ReadD K G H x a)(hf:dLen [a]=some d)(k:∀v,RepD K G v d->Q v H):
  ∃p ys,[x]=[V.ref p]/\(SqL K H p ys\/SqT K H p ys)/\Q (.int ys.length) H:=by
 cases a<;>simp only[dLen]at hf<;>try cases hf
 ·obtain⟨p,xs,rfl,hp,r⟩:=ra
  exact⟨p,xs,rfl,.inl (SqL.of hp),by rw[r.length];exact k _ rfl⟩
 ·obtain⟨p,xs,rfl,hp,r⟩:=I.tup ra
  exact⟨p,xs,rfl,.inr (SqT.of hp),by rw[r.length];exact k _ rfl⟩
 ·obtain⟨p,rfl,hp⟩:=ra
  exact⟨p,_,rfl,.inl (I.fz.sql hp),by rw[List.length_map];exact k _ rfl⟩
theorem RepL.one (h:RepL K G xs [d]):∃x,xs=[x]/\RepD K G x d:=by
 obtain⟨x,ys,e,q,r⟩:=h
 cases(show ys=[]from r)
 exact⟨x,e,q⟩
theorem RepL.two {a b:D}(h:RepL K G xs [a,b]):∃x y,xs=[x,y]/\RepD K G x a/\RepD K G y b:=by
 obtain⟨x,ys,e,q,r⟩:=h
 obtain⟨y,e2,q2⟩:=r.one
 subst e2
 exact⟨x,y,e,q,q2⟩
theorem dLen_one (h:dLen ds=some d):∃a,ds=[a]:=by
 match ds,h with
 |[a],_=>exact⟨a,rfl⟩
 |[],h=>cases h
 |_::_::_,h=>simp[dLen]at h
theorem vc_len:VC X (fun xs H Q=>∃p ys,xs=[.ref p]/\(SqL X.K H p ys\/SqT X.K H p ys)/\Q (.int ys.length) H) dLen:=by
 intro B G H σ ρ xs ds d Q I r hf k
 obtain⟨a,rfl⟩:=dLen_one hf
 obtain⟨x,rfl,ra⟩:=r.one
 exact zmR I (.of I.fz ra) hf fun v q=>k G H v I (Fz.refl G) q
theorem zow {p pos:Pos}(ml:X.mg "len"=none)(ha:SA X [e] ma)(hg:autoParam (Gl X "len") zu2._auto_1)(he:autoParam (starEach [e] X.env=(false,eval e X.env)::starEach [] X.env) zu2._auto_1):SE X (.Call (.Name "len" p) [e] [] pos) (mC dLen ma):=
 zei zhK vc_len PySem.boot_len ml ha hg (by decide) (by decide) he rfl
noncomputable def zcG (j:Nat):ME:=fun ρ=>(ρ[j]?.bind Sl.read).bind fun d=>(dLen [d]).map fun e=>(e,ρ)
theorem zaO {p pos pos':Pos}(j:Nat)(ml:X.mg "len"=none)(hN:autoParam (X.N[j]? =some x) zu2._auto_1)(hv:autoParam (Vis X.env.scope x) zu5._auto_1)(hd:autoParam ((x==("__debug__":Str))=false) zu1._auto_1)
  (hcd:autoParam ((x==("__classdict__":Str))=false) zu1._auto_1) (hg:autoParam (Gl X "len") zu2._auto_1) (he:autoParam (starEach [.Name x pos'] X.env=(false,eval (.Name x pos') X.env)::starEach [] X.env) zu2._auto_1):SE X (.Call (.Name "len" p) [.Name x pos'] [] pos) (zcG j):=by
 refine⟨_,zfW zhK hg ml PySem.boot_len (za7 (zcX hN hv hd hcd) zcQ he) (by decide) (by decide) he rfl,fun B G H σ ρ d ρ' Q I hm k=>?_⟩
 unfold zcG at hm
 cases e2:ρ[j]? with
 |none=>rw[e2]at hm;cases hm
 |some s=>
  rw[e2]at hm
  simp only[Option.bind_some]at hm
  cases e3:s.read with
  |none=>rw[e3]at hm;cases hm
  |some a=>
   rw[e3]at hm
   simp only[Option.bind_some]at hm
   cases e4:dLen [a]with
   |none=>rw[e4]at hm;cases hm
   |some c=>
    rw[e4]at hm
    cases hm
    have hh:hasV ρ j=true:=by
     unfold hasV
     rw[e2]
     cases s<;>first|rfl|cases e3
    obtain⟨v,ev⟩:=I.has hh
    exact⟨v,ev,zmR I (I.read ev e2 e3) e4 fun w q=>k G H w I (Fz.refl G) q⟩
noncomputable def zcx:List D->Option D
 |[.lst ds]=>some (.tup ds)
 |[.tup ds]=>some (.tup ds)
 |[.scr ns]=>some (.tup (ns.map .int))
 |_=>none
theorem vc_tuple:VC X (fun xs H Q=>∃p ys,xs=[.ref p]/\((SqL X.K H p ys/\∀l,H l=none->Q (.ref l) (upd H l (.tup ys)))\/(SqT X.K H p ys/\Q (.ref p) H))) zcx:=by
 intro B G H σ ρ xs ds d Q I r hf k
 match ds,hf with
 |[a],hf=>
  obtain⟨x,rfl,ra⟩:=r.one
  cases a<;>simp only[zcx]at hf<;>try cases hf
  ·obtain⟨p,ys,rfl,hp,q⟩:=I.lst ra
   refine⟨p,ys,rfl,.inl ⟨SqL.of hp,fun l hl=>?_⟩⟩
   obtain⟨I2,f2,r2⟩:=I.newT hl q
   exact k _ _ _ I2 f2 r2
  ·obtain⟨p,ys,e,hp,q⟩:=I.tup ra
   subst e
   exact⟨p,ys,rfl,.inr ⟨SqT.of hp,k G H _ I (Fz.refl G) ra⟩⟩
  ·obtain⟨p,rfl,hp⟩:=ra
   refine⟨p,_,rfl,.inl ⟨I.fz.sql hp,fun l hl=>?_⟩⟩
   obtain⟨I2,f2,r2⟩:=I.newT hl (RepL.ints _)
   exact k _ _ _ I2 f2 r2
 |[],hf=>cases hf
 |_::_::_,hf=>simp[zcx]at hf
theorem zcs {p pos:Pos}(ml:X.mg "tuple"=none)(ha:SA X [e] ma)(hg:autoParam (Gl X "tuple") zu2._auto_1)(he:autoParam (starEach [e] X.env=(false,eval e X.env)::starEach [] X.env) zu2._auto_1)(hb:autoParam (bootBuiltins "tuple"=some (.type "tuple")) zu7._auto_1):
  SE X (.Call (.Name "tuple" p) [e] [] pos) (mC zcx ma):=
 znT zjF vc_tuple hb ml ha hg (by decide) (by decide) he rfl
noncomputable def za4:List D->Option (List D)
 |[.lst ds]=>some ds
 |[.tup ds]=>some ds
 |[.scr ns]=>some (ns.map .int)
 |_=>none
noncomputable def oC (f:List D->Option (List D))(ma:MA):MO:=fun ρ=>(ma ρ).bind fun p=>(f p.1).map fun d=>(d,p.2)
theorem oC_inv {f:List D->Option (List D)}{d:List D}(h:oC f ma ρ=some (d,ρ')):∃a,ma ρ=some (a,ρ')/\f a=some d:=by
 unfold oC at h
 cases e1:ma ρ with
 |none=>rw[e1]at h;cases h
 |some p=>
  obtain⟨a,ρ1⟩:=p
  rw[e1]at h
  simp only[Option.bind_some]at h
  cases e3:f a with
  |none=>rw[e3]at h;cases h
  |some c=>rw[e3]at h;cases h;exact⟨a,rfl,e3⟩
theorem SI.newO (I:SI K B G H σ ρ)(hp:H p=none)(xs:List V):SI K B G (upd H p (.lst xs)) σ ρ/\G p=none/\(upd H p (.lst xs)) p=some (.lst xs)/\B.H p=none/\Nw K G (upd H p (.lst xs)) σ ρ p:=
 ⟨I.allocO hp _,I.fz.free hp,zas,I.there p hp,I.nw_move (I.nw hp) fun i s a _ _ g h=>⟨g,zap fun z=>h (by rw[z];exact hp)⟩⟩
theorem zoW {p pos:Pos}(ml:X.mg "list"=none)(ha:SA X [e] ma)(hg:autoParam (Gl X "list") zu2._auto_1)(he:autoParam (starEach [e] X.env=(false,eval e X.env)::starEach [] X.env) zu2._auto_1)(hb:autoParam (bootBuiltins "list"=some (.type "list")) zu7._auto_1):
  SO X (.Call (.Name "list" p) [e] [] pos) (oC za4 ma):=by
 obtain⟨t,pa,sa⟩:=ha
 refine⟨_,zfo zhy hg ml hb pa (by decide) (by decide) he rfl,fun B G H σ ρ ds ρ' Q I hm k=>?_⟩
 obtain⟨as,e1,e2⟩:=oC_inv hm
 refine sa B G H σ ρ as ρ' _ I e1 fun G1 H1 vs I1 f1 r1=>?_
 match as,e2 with
 |[a],e2=>
  obtain⟨x,rfl,ra⟩:=r1.one
  have fin:∀(q:Addr) (ys:List V) (sq:SqL X.K H1 q ys\/SqT X.K H1 q ys),x= .ref q->RepL X.K G1 ys ds->∃p ys,[x]=[V.ref p]/\(SqL X.K H1 p ys\/SqT X.K H1 p ys)/\∀l,H1 l=none->Q (.ref l) (upd H1 l (.lst ys)):=fun q ys sq ex r=>by
   refine⟨q,ys,by rw[ex],sq,fun l hl=>?_⟩
   obtain⟨I2,g2,h2,b2,n2⟩:=I1.newO hl ys
   exact k G1 _ l ys I2 f1 g2 h2 r b2 n2
  cases a<;>simp only[za4]at e2<;>try cases e2
  ·obtain⟨p,ys,ex,hp,q⟩:=I1.lst ra
   exact fin p ys (.inl (SqL.of hp)) ex q
  ·obtain⟨p,ys,ex,hp,q⟩:=I1.tup ra
   exact fin p ys (.inr (SqT.of hp)) ex q
  ·obtain⟨p,ex,hp⟩:=ra
   exact fin p _ (.inl (I1.fz.sql hp)) ex (RepL.ints _)
 |[],e2=>cases e2
 |_::_::_,e2=>simp[za4]at e2
section
variable {X:Cx} {es:List Expr} {ma:MA} {pos:Pos}
noncomputable def eTup (ma:MA):ME:=fun ρ=>(ma ρ).bind fun p=>if p.1.length<=16777216 then some (.tup p.1,p.2)else none
theorem za5 {x1}(h:SA X es ma):SE X (.Tuple es x1 pos) (eTup ma):=by
 obtain⟨t,pa,sa⟩:=h
 refine⟨_,pe_tup pa,fun B G H σ ρ d ρ' Q I hm k=>?_⟩
 unfold eTup at hm
 cases e1:ma ρ with
 |none=>rw[e1]at hm;cases hm
 |some q=>
  obtain⟨ds,ρ1⟩:=q
  rw[e1]at hm
  simp only[Option.bind_some]at hm
  split at hm
  ·rename_i hl
   cases hm
   refine sa B G H σ ρ ds ρ' _ I e1 fun G1 H1 vs I1 f1 r1=>⟨by rw[r1.length,sizeLine_eq];exact hl,fun p hp=>?_⟩
   obtain⟨I2,f2,r2⟩:=I1.newT hp r1
   exact k _ _ _ I2 (f1.trans f2) r2
  ·cases hm
noncomputable def oLst (ma:MA):MO:=fun ρ=>(ma ρ).bind fun p=>if p.1.length<=16777216 then some (p.1,p.2)else none
theorem ze3 (h:SA X es ma):SO X (.List es pos) (oLst ma):=by
 obtain⟨t,pa,sa⟩:=h
 refine⟨_,pe_lst pa,fun B G H σ ρ d ρ' Q I hm k=>?_⟩
 unfold oLst at hm
 cases e1:ma ρ with
 |none=>rw[e1]at hm;cases hm
 |some q=>
  obtain⟨ds,ρ1⟩:=q
  rw[e1]at hm
  simp only[Option.bind_some]at hm
  split at hm
  ·rename_i hl
   cases hm
   refine sa B G H σ ρ _ ρ' _ I e1 fun G1 H1 vs I1 f1 r1=>⟨by rw[r1.length,sizeLine_eq];exact hl,fun p hp=>?_⟩
   obtain⟨I2,g2,h2,b2,n2⟩:=I1.newO hp vs
   exact k G1 _ p vs I2 f1 g2 h2 r1 b2 n2
  ·cases hm
end
theorem zag {α β:Type}{o:Option α}{f:α->Option β}{b:β}(h:o.bind f=some b):∃a,o=some a/\f a=some b:=by
 cases o with
 |none=>cases h
 |some a=>exact⟨a,rfl,h⟩
theorem zav {α β:Type}{o:Option α}{f:α->β}{b:β}(h:o.map f=some b):∃a,o=some a/\f a=b:=by
 cases o with
 |none=>cases h
 |some a=>cases h;exact⟨a,rfl,rfl⟩
noncomputable def dTru:D->Option Bool
 | .bl b=>some b
 | .int i=>some (i !=0)
 | .non=>some false
 | .lst ds=>some (!ds.isEmpty)
 | .tup ds=>some (!ds.isEmpty)
 |_=>none
noncomputable def tTru (ma:ME):MT:=fun ρ=>(ma ρ).bind fun p=>(dTru p.1).map fun b=>(b,p.2)
section
variable {X:Cx} {a b c:Expr} {ma mb mc:ME} {pos:Pos}
theorem zoL (h:RepL K G xs ds):(!xs.isEmpty)=!ds.isEmpty:=by
 have:=h.length
 cases xs<;>cases ds<;>simp_all
theorem zaS (ha:SE X a ma)(he:autoParam (∀whole,isTrue a X.env whole=(do let v<-whole;standAt a.pos;holding [v] (truthy v))) zu8._auto_1):STt X a (tTru ma):=by
  obtain⟨ta,pa,sa⟩:=ha
  refine⟨_,pt_truth pa he,fun B G H σ ρ d ρ' Q I hm k=>?_⟩
  obtain⟨⟨x,ρ1⟩,e1,e2⟩:=zag hm
  obtain⟨t,e3,e4⟩:=zav e2
  obtain⟨rfl,rfl⟩:=Prod.mk.inj e4
  refine sa B G H σ ρ x ρ1 _ I e1 fun G1 H1 v I1 f1 r1=>⟨t,?_,k G1 H1 I1 f1⟩
  cases x<;>simp only[dTru]at e3<;>try cases e3
  . cases r1;exact rfl
  . cases r1;exact rfl
  . cases r1;exact rfl
  . obtain⟨p,xs,rfl,hp,r⟩:=I1.lst r1
    exact .inl ⟨xs,SqL.of hp,(zoL r).symm⟩
  . obtain⟨p,xs,rfl,hp,r⟩:=I1.tup r1
    exact .inr (.inl ⟨xs,SqT.of hp,(zoL r).symm⟩)
theorem zjg {r:R2}(ho:OpR X (compareOp op) r)(hv:V2 X r f)(hB:∀x y d,f x y=some d->∃t,d= .bl t)(ha:SE X a ma)(hb:SE X b mb)(hm:behindInMarks op b=false):STt X (.Compare a [op] [b] pos) (tTru (m2 f ma mb)):=by
 obtain⟨ta,pa,sa⟩:=ha
 obtain⟨tb,pb,sb⟩:=hb
 refine⟨_,pt_cmpR ho pa pb hm,fun B G H σ ρ d ρ' Q I hm k=>?_⟩
 obtain⟨⟨x,ρ1⟩,e1,e2⟩:=zag hm
 obtain⟨t,e3,e4⟩:=zav e2
 obtain⟨rfl,rfl⟩:=Prod.mk.inj e4
 obtain⟨_,_,_,_,_,e5⟩:=m2_inv e1
 obtain⟨t',rfl⟩:=hB _ _ _ e5
 obtain rfl:t'=t:=Option.some.inj e3
 refine zmu hv sa sb B G H σ ρ (.bl t') ρ1 _ I e1 fun G1 H1 v I1 f1 r1=>?_
 cases(show v=V.bl t' from r1)
 exact⟨t',rfl,k G1 H1 I1 f1⟩
theorem bl_cmp {g:Int->Int->Bool}(x y d:D)(h:dI2 (fun _ _=>true) (fun i j=> .bl (g i j)) x y=some d):∃t,d= .bl t:=by
 cases x<;>cases y<;>simp only[dI2]at h<;>try cases h
 exact⟨_,rfl⟩
theorem bl_eq (x y d:D)(h:dEq x y=some d):∃t,d= .bl t:=by
 unfold dEq at h
 split at h
 ·cases h;exact⟨_,rfl⟩
 ·cases h
theorem bl_ne (x y d:D)(h:dNe x y=some d):∃t,d= .bl t:=by
 unfold dNe at h
 split at h
 ·cases h;exact⟨_,rfl⟩
 ·cases h
theorem zpD (ha:SE X a ma)(hb:SE X b mb):STt X (.Compare a [.Lt] [b] pos) (tTru (m2 dLt ma mb)):=zjg op_lt zhh bl_cmp ha hb (zji _)
theorem st_gt (ha:SE X a ma)(hb:SE X b mb):STt X (.Compare a [.Gt] [b] pos) (tTru (m2 dGt ma mb)):=zjg op_gt zhh bl_cmp ha hb (zji _)
theorem zkS (hu:X.A.units+64<cLine)(ha:SE X a ma)(hb:SE X b mb):STt X (.Compare a [.Eq] [b] pos) (tTru (m2 dEq ma mb)):=zjg (op_eqD hu) v2_eq bl_eq ha hb (zji _)
theorem ziE (hu:X.A.units+64<cLine)(ha:SE X a ma)(hb:SE X b mb):STt X (.Compare a [.NotEq] [b] pos) (tTru (m2 dNe ma mb)):=zjg (op_neD hu) v2_ne bl_ne ha hb (zji _)
end
noncomputable def STw (X:Cx)(e:Expr)(m:MT):Prop:=
 ∃t,PW X e t/\∀B G H σ ρ d ρ' (Q:Bool->Hp->Prop),SI X.K B G H σ ρ->m ρ=some (d,ρ')->(∀G' H',SI X.K B G' H' σ ρ'->Fz G G'->Q d H')->t σ H Q
theorem STw.st (h:STw X e m):STt X e m:=let⟨t,p,s⟩:=h;⟨t,p.pt,s⟩
noncomputable def tAndM (a b:MT):MT:=fun ρ=>(a ρ).bind fun p=>if p.1 then b p.2 else some (false,p.2)
noncomputable def tOrM (a b:MT):MT:=fun ρ=>(a ρ).bind fun p=>if p.1 then some (true,p.2)else b p.2
noncomputable def zdR (a:MT):MT:=fun ρ=>(a ρ).map fun p=>(!p.1,p.2)
section
variable {X:Cx} {a b c:Expr} {ma mb:MT} {pos:Pos} {rest:List Expr}
theorem zij (h:STt X a ma):STw X (.BoolOp .Or [a] pos) ma:=let⟨t,p,s⟩:=h;⟨t,pw_or1 p,s⟩
theorem zhO (ha:STt X a ma)(hb:STw X (.BoolOp .Or (b::rest) pos) mb):STw X (.BoolOp .Or (a::b::rest) pos) (tOrM ma mb):=by
 obtain⟨ta,pa,sa⟩:=ha
 obtain⟨tb,pb,sb⟩:=hb
 refine⟨_,pw_or pa pb,fun B G H σ ρ d ρ' Q I hm k=>?_⟩
 obtain⟨⟨x,ρ1⟩,e1,e2⟩:=zag hm
 refine sa B G H σ ρ x ρ1 _ I e1 fun G1 H1 I1 f1=>?_
 cases x with
 |false=>exact sb B G1 H1 σ ρ1 d ρ' Q I1 e2 fun G2 H2 I2 f2=>k G2 H2 I2 (f1.trans f2)
 |true=>cases e2;exact k G1 H1 I1 f1
theorem zcb (ha:STt X a ma):STt X (.UnaryOp .Not a pos) (zdR ma):=by
 obtain⟨ta,pa,sa⟩:=ha
 refine⟨_,pt_not pa,fun B G H σ ρ d ρ' Q I hm k=>?_⟩
 obtain⟨⟨x,ρ1⟩,e1,e2⟩:=zav hm
 cases e2
 exact sa B G H σ ρ x ρ1 _ I e1 fun G1 H1 I1 f1=>k G1 H1 I1 f1
end
noncomputable def eAnd (a b:ME):ME:=fun ρ=>(a ρ).bind fun p=>match p.1 with
 | .bl true=>b p.2
 | .bl false=>some (.bl false,p.2)
 |_=>none
noncomputable def eOr (a b:ME):ME:=fun ρ=>(a ρ).bind fun p=>match p.1 with
 | .bl true=>some (.bl true,p.2)
 | .bl false=>b p.2
 |_=>none
noncomputable def dNot:D->Option D
 | .bl b=>some (.bl (!b))
 |_=>none
section
variable {X:Cx} {a b c:Expr} {ma mb:ME} {pos:Pos} {rest:List Expr} {op:BoolOp}
theorem se_one (h:SE X a ma):SE X (.BoolOp op [a] pos) ma:=let⟨t,p,s⟩:=h;⟨t,pe_one p,s⟩
theorem se_and (ha:SE X a ma)(hb:SE X (.BoolOp .And (b::rest) pos) mb):SE X (.BoolOp .And (a::b::rest) pos) (eAnd ma mb):=by
 obtain⟨ta,pa,sa⟩:=ha
 obtain⟨tb,pb,sb⟩:=hb
 refine⟨_,pe_and pa pb,fun B G H σ ρ d ρ' Q I hm k=>?_⟩
 obtain⟨⟨x,ρ1⟩,e1,e2⟩:=zag hm
 refine sa B G H σ ρ x ρ1 _ I e1 fun G1 H1 v I1 f1 r1=>?_
 cases x<;>try cases e2
 rename_i y
 refine⟨y,r1,?_⟩
 cases y with
 |true=>exact sb B G1 H1 σ ρ1 d ρ' Q I1 e2 fun G2 H2 v I2 f2 r2=>k G2 H2 v I2 (f1.trans f2) r2
 |false=>cases e2;exact k G1 H1 _ I1 f1 rfl
theorem se_not (ha:SE X a ma):SE X (.UnaryOp .Not a pos) (m1 dNot ma):=by
 obtain⟨ta,pa,sa⟩:=ha
 refine⟨_,pe_not pa,fun B G H σ ρ d ρ' Q I hm k=>?_⟩
 obtain⟨x,e1,e2⟩:=m1_inv hm
 refine sa B G H σ ρ x ρ' _ I e1 fun G1 H1 v I1 f1 r1=>?_
 cases x<;>simp only[dNot]at e2<;>try cases e2
 exact⟨_,r1,k G1 H1 _ I1 f1 rfl⟩
noncomputable def eIf (c:MT)(a b:ME):ME:=fun ρ=>(c ρ).bind fun p=>if p.1 then a p.2 else b p.2
end
noncomputable def ziI (f g:D->D->Option D)(a b c:ME):ME:=fun ρ=>(a ρ).bind fun p=>(b p.2).bind fun q=>(f p.1 q.1).bind fun t=>match t with
 | .bl true=>(c q.2).bind fun r=>(g q.1 r.1).map fun d=>(d,r.2)
 | .bl false=>some (.bl false,q.2)
 |_=>none
section
variable {X:Cx} {a b c:Expr} {ma mb mc:ME} {pos:Pos}
theorem zl6 {r r':R2}{f g:D->D->Option D}{ta tb tc:TE}(hv:V2 X r f)(hw:V2 X r' g)
  (sa:∀B G H σ ρ d ρ' (Q:VK),SI X.K B G H σ ρ->ma ρ=some (d,ρ')->(∀G' H' v,SI X.K B G' H' σ ρ'->Fz G G'->RepD X.K G' v d->Q v H')->ta σ H Q)
  (sb:∀B G H σ ρ d ρ' (Q:VK),SI X.K B G H σ ρ->mb ρ=some (d,ρ')->(∀G' H' v,SI X.K B G' H' σ ρ'->Fz G G'->RepD X.K G' v d->Q v H')->tb σ H Q)
  (sc:∀B G H σ ρ d ρ' (Q:VK),SI X.K B G H σ ρ->mc ρ=some (d,ρ')->(∀G' H' v,SI X.K B G' H' σ ρ'->Fz G G'->RepD X.K G' v d->Q v H')->tc σ H Q):
  ∀B G H σ ρ d ρ' (Q:VK),SI X.K B G H σ ρ->ziI f g ma mb mc ρ=some (d,ρ')->(∀G' H' v,SI X.K B G' H' σ ρ'->Fz G G'->RepD X.K G' v d->Q v H')->tChain r r' ta tb tc σ H Q:=by
 intro B G H σ ρ d ρ' Q I hm k
 obtain⟨⟨x,ρ1⟩,e1,h1⟩:=zag hm
 obtain⟨⟨y,ρ2⟩,e2,h2⟩:=zag h1
 obtain⟨t,e3,h3⟩:=zag h2
 refine sa B G H σ ρ x ρ1 _ I e1 fun G1 H1 v I1 f1 r1=>sb B G1 H1 σ ρ1 y ρ2 _ I1 e2 fun G2 H2 u I2 f2 r2=>hv B G2 H2 σ ρ2 v u x y t _ I2 (r1.mono f2) r2 e3 fun G3 H3 z I3 f3 r3=>?_
 cases t<;>try cases h3
 rename_i t
 refine⟨t,r3,?_⟩
 cases t with
 |true=>
  obtain⟨⟨w,ρ3⟩,e4,h4⟩:=zag h3
  obtain⟨d',e5,e6⟩:=zav h4
  cases e6
  exact sc B G3 H3 σ ρ2 w ρ3 _ I3 e4 fun G4 H4 s I4 f4 r4=>hw B G4 H4 σ ρ3 u s y w d Q I4 (r2.mono (f3.trans f4)) r4 e5 fun G5 H5 z5 I5 f5 r5=>k G5 H5 z5 I5 (f1.trans (f2.trans (f3.trans (f4.trans f5)))) r5
 |false=>cases h3;exact k G3 H3 _ I3 (f1.trans (f2.trans f3)) rfl
theorem zjZ {op op':CmpOp}{r r':R2}{f g:D->D->Option D}(ho:OpR X (compareOp op) r)(ho':OpR X (compareOp op') r')(hv:V2 X r f)(hw:V2 X r' g)(ha:SE X a ma)(hb:SE X b mb)(hc:SE X c mc)
  (hm:autoParam (lastMarks [op,op'] [b,c]=false) zu4._auto_1):SE X (.Compare a [op,op'] [b,c] pos) (ziI f g ma mb mc):=by
 obtain⟨ta,pa,sa⟩:=ha
 obtain⟨tb,pb,sb⟩:=hb
 obtain⟨tc,pc,sc⟩:=hc
 exact⟨_,pe_chain ho ho' pa pb pc hm,zl6 hv hw sa sb sc⟩
end
inductive Fl where
 |next|brk|cont|ret (r:Sl)
noncomputable abbrev MS:=R->Option (Fl×R)
noncomputable def ResOk (K:W.Frag)(B:Bs)(G H:Hp)(v:V):Sl->Prop
 | .val d=>RepD K G v d
 | .own ds=>∃l xs,v= .ref l/\G l=none/\H l=some (.lst xs)/\RepL K G xs ds/\B.H l=none
 | .tre t=>∃A,RepT K G H v t A/\A.Nodup/\∀a∈A,G a=none/\B.H a=none
 | .two ds es=>∃t l xs m ys,v= .ref t/\H t=some (.tup [.ref l,.ref m])/\l≠m/\G l=none/\H l=some (.lst xs)/\RepL K G xs ds/\B.H l=none/\G m=none/\H m=some (.lst ys)/\RepL K G ys es/\B.H m=none
 |_=>False
noncomputable def Post (K:W.Frag)(B:Bs)(G:Hp)(E:Ends)(fl:Fl)(ρ':R):Prop:=match fl with
 | .next=>∀G' H' σ',SI K B G' H' σ' ρ'->Fz G G'->E.nx σ' H'
 | .brk=>∀G' H' σ',SI K B G' H' σ' ρ'->Fz G G'->E.bk σ' H'
 | .cont=>∀G' H' σ',SI K B G' H' σ' ρ'->Fz G G'->E.ct σ' H'
 | .ret r=>∀G' H' σ' v,SI K B G' H' σ' ρ'->Fz G G'->ResOk K B G' H' v r->E.rt v H'
theorem Post.mono {G G1:Hp}{E:Ends}{fl:Fl}(h:Post K B G E fl ρ')(f:Fz G G1):Post K B G1 E fl ρ':=by
 cases fl with
 |next=>exact fun G' H' σ' I g=>h G' H' σ' I (f.trans g)
 |brk=>exact fun G' H' σ' I g=>h G' H' σ' I (f.trans g)
 |cont=>exact fun G' H' σ' I g=>h G' H' σ' I (f.trans g)
 |ret r=>exact fun G' H' σ' v I g=>h G' H' σ' v I (f.trans g)
noncomputable def SS (X:Cx)(st:Stmt)(m:MS):Prop:=∃t,PS X st t/\∀B G H σ ρ fl ρ' (E:Ends),SI X.K B G H σ ρ->m ρ=some (fl,ρ')->Post X.K B G E fl ρ'->t E σ H
noncomputable def SSs (X:Cx)(st:List Stmt)(m:MS):Prop:=∃t,PSs X st t/\∀B G H σ ρ fl ρ' (E:Ends),SI X.K B G H σ ρ->m ρ=some (fl,ρ')->Post X.K B G E fl ρ'->t E σ H
noncomputable def zbr:MS:=fun ρ=>some (.next,ρ)
noncomputable def sSeq (a b:MS):MS:=fun ρ=>(a ρ).bind fun p=>match p.1 with
 | .next=>b p.2
 |f=>some (f,p.2)
section
variable {X:Cx} {st:Stmt} {rest:List Stmt} {m n:MS} {e:Expr} {me:ME} {pos:Pos}
theorem zaE:SSs X [] zbr:=⟨_,pss_nil,fun B G H σ ρ fl ρ' E I hm k=>by cases hm;exact k G H σ I (Fz.refl G)⟩
theorem zal (h:SS X st m):SSs X [st] m:=let⟨t,p,s⟩:=h;⟨t,pss_one p,s⟩
theorem zad (h:SS X st m)(hr:SSs X rest n):SSs X (st::rest) (sSeq m n):=by
 obtain⟨t,p,s⟩:=h
 obtain⟨u,q,z⟩:=hr
 refine⟨_,pss_cons p q,fun B G H σ ρ fl ρ' E I hm k=>?_⟩
 obtain⟨⟨f,ρ1⟩,e1,e2⟩:=zag hm
 refine s B G H σ ρ f ρ1 _ I e1 ?_
 cases f with
 |next=>exact fun G1 H1 σ1 I1 f1=>z B G1 H1 σ1 ρ1 fl ρ' E I1 e2 (k.mono f1)
 |brk=>cases e2;exact k
 |cont=>cases e2;exact k
 |ret r=>cases e2;exact k
noncomputable def sRet (m:ME):MS:=fun ρ=>(m ρ).map fun p=>(.ret (.val p.1),p.2)
theorem zaz (h:SE X e me):SS X (.Return (some e) pos) (sRet me):=by
 obtain⟨t,p,s⟩:=h
 refine⟨_,zmS p,fun B G H σ ρ fl ρ' E I hm k=>?_⟩
 obtain⟨⟨d,ρ1⟩,e1,e2⟩:=zav hm
 cases e2
 exact s B G H σ ρ d ρ1 _ I e1 fun G1 H1 v I1 f1 r1=>k G1 H1 σ v I1 f1 r1
noncomputable def zgZ (m:MO):MS:=fun ρ=>(m ρ).map fun p=>(.ret (.own p.1),p.2)
theorem zcK {mo:MO}(h:SO X e mo):SS X (.Return (some e) pos) (zgZ mo):=by
 obtain⟨t,p,s⟩:=h
 refine⟨_,zmS p,fun B G H σ ρ fl ρ' E I hm k=>?_⟩
 obtain⟨⟨d,ρ1⟩,e1,e2⟩:=zav hm
 cases e2
 exact s B G H σ ρ d ρ1 _ I e1 fun G1 H1 l xs I1 f1 g1 h1 r1 b1 _=>k G1 H1 σ _ I1 f1 ⟨l,xs,rfl,g1,h1,r1,b1⟩
theorem SI.emp (I:SI K B G H σ ρ)(i:Nat):SI K B G H σ (ρ.set i .emp):=by
 by_cases hi:i<ρ.length
 ·have hs:σ[i]? =some (σ[i]'(by rw[I.len];exact hi)):=List.getElem?_eq_getElem _
  have h:=I.chg (i:=i) (ov:=σ[i]'(by rw[I.len];exact hi)) (s':= .emp) I.fz (Fz.refl G) I.new I.keep I.there (fun _ _ _ _ _ _ g _=>⟨g,rfl,id⟩) trivial
  rwa[zkl hs]at h
 ·rw[List.set_eq_of_length_le (by lia)];exact I
noncomputable def ziO (i:Nat):MS:=fun ρ=>match ρ[i]? with
 |some (.val d)=>some (.ret (.val d),ρ)
 |some (.own ds)=>some (.ret (.own ds),ρ.set i .emp)
 |_=>none
theorem zgI (i:Nat)(hN:autoParam (X.N[i]? =some x) zu2._auto_1)(hv:autoParam (Vis X.env.scope x) zu5._auto_1)(hd:autoParam ((x==("__debug__":Str))=false) zu1._auto_1)
  (hcd:autoParam ((x==("__classdict__":Str))=false) zu1._auto_1):SS X (.Return (some (.Name x pos')) pos) (ziO i):=by
 refine⟨_,zmS (zcX hN hv hd hcd),fun B G H σ ρ fl ρ' E I hm k=>?_⟩
 unfold ziO at hm
 cases e:ρ[i]? with
 |none=>rw[e]at hm;cases hm
 |some s=>
  rw[e]at hm
  have h:=I.slot i s e
  cases s with
  |emp=>cases hm
  |two _ _=>cases hm
  |tre _=>cases hm
  |ptr _=>cases hm
  |par ds=>cases hm
  |val d=>cases hm;obtain⟨v,h1,h2⟩:=h;exact⟨v,h1,k G H σ v I (Fz.refl G) h2⟩
  |own ds=>
   cases hm
   obtain⟨l,xs,h1,h2,h3,h4,h5⟩:=h
   exact⟨.ref l,h1,k G H σ _ (I.emp i) (Fz.refl G) ⟨l,xs,rfl,h2,h3,h4,h5⟩⟩
noncomputable def sIf (c:MT)(a b:MS):MS:=fun ρ=>(c ρ).bind fun p=>if p.1 then a p.2 else b p.2
theorem zbK {c:Expr}{a b:List Stmt}{mc:MT}{ma mb:MS}(hc:STt X c mc)(ha:SSs X a ma)(hb:SSs X b mb):SS X (.If c a b pos) (sIf mc ma mb):=by
 obtain⟨tc,pc,sc⟩:=hc
 obtain⟨ta,pa,sa⟩:=ha
 obtain⟨tb,pb,sb⟩:=hb
 refine⟨_,ps_if pc pa pb,fun B G H σ ρ fl ρ' E I hm k=>?_⟩
 obtain⟨⟨x,ρ1⟩,e1,e2⟩:=zag hm
 refine sc B G H σ ρ x ρ1 _ I e1 fun G1 H1 I1 f1=>?_
 cases x with
 |true=>exact sa B G1 H1 σ ρ1 fl ρ' E I1 e2 (k.mono f1)
 |false=>exact sb B G1 H1 σ ρ1 fl ρ' E I1 e2 (k.mono f1)
end
noncomputable def SG (X:Cx)(tg:Expr)(g:D->R->Option R):Prop:=∃t,PG X tg t/\∀B G H σ ρ v d ρ' (Q:St->Hp->Prop),SI X.K B G H σ ρ->RepD X.K G v d->g d ρ=some ρ'->(∀G' H' σ',SI X.K B G' H' σ' ρ'->Fz G G'->Q σ' H')->t v σ H Q
noncomputable def SGs (X:Cx)(tgs:List Expr)(g:List D->R->Option R):Prop:=∃t,PGs X tgs t/\∀B G H σ ρ vs ds ρ' (Q:St->Hp->Prop),SI X.K B G H σ ρ->RepL X.K G vs ds->g ds ρ=some ρ'->(∀G' H' σ',SI X.K B G' H' σ' ρ'->Fz G G'->Q σ' H')->t vs σ H Q
noncomputable def gN (i:Nat):D->R->Option R:=fun d ρ=>some (ρ.set i (.val d))
noncomputable def zcw:List D->R->Option R:=fun ds ρ=>match ds with
 |[]=>some ρ
 |_=>none
noncomputable def zar (g:D->R->Option R)(h:List D->R->Option R):List D->R->Option R:=fun ds ρ=>match ds with
 |d::ds=>(g d ρ).bind fun ρ1=>h ds ρ1
 |[]=>none
noncomputable def gT (n:Nat)(g:List D->R->Option R):D->R->Option R:=fun d ρ=>match d with
 | .tup ds=>if ds.length=n then g ds ρ else none
 |_=>none
section
variable {X:Cx} {pos:Pos}
theorem zaj (i:Nat)(hN:X.N.Nodup)(hi:autoParam (X.N[i]? =some x) zu2._auto_1)(hx:autoParam (Loc X.env.scope x) zu9._auto_1)(hf:autoParam (X.fn x=true\/X.env.scope.names.lookup x=some .local) zu9._auto_1):SG X (.Name x pos) (gN i):=
 ⟨_,znV hN hi hx hf,fun B G H σ ρ v d ρ' Q I r hm k=>by cases hm;exact k G H _ (I.set r) (Fz.refl G)⟩
theorem zaL:SGs X [] zcw:=⟨_,pgs_nil,fun B G H σ ρ vs ds ρ' Q I r hm k=>by
 cases ds with
 |nil=>cases hm;exact⟨r,k G H σ I (Fz.refl G)⟩
 |cons=>cases hm⟩
theorem zam {e:Expr}(h1:SG X e g)(h2:SGs X es h)(hs:autoParam ((assignEach (e::es) X.env).map (·.2)=assign e X.env::(assignEach es X.env).map (·.2)) zu2._auto_1):SGs X (e::es) (zar g h):=by
 obtain⟨t,p,s⟩:=h1
 obtain⟨u,q,z⟩:=h2
 refine⟨_,pgs_cons p q hs,fun B G H σ ρ vs ds ρ' Q I r hm k=>?_⟩
 cases ds with
 |nil=>cases hm
 |cons d ds=>
  obtain⟨x,ys,rfl,rx,ry⟩:=r
  obtain⟨ρ1,e1,e2⟩:=zag hm
  exact⟨x,ys,rfl,s B G H σ ρ x d ρ1 _ I rx e1 fun G1 H1 σ1 I1 f1=>z B G1 H1 σ1 ρ1 ys ds ρ' Q I1 (ry.mono f1) e2 fun G2 H2 σ2 I2 f2=>k G2 H2 σ2 I2 (f1.trans f2)⟩
theorem zbe {g:List D->R->Option R}(hc:X.calm=true)(h:SGs X es g)(hn:autoParam ((assignEach es X.env).length=n) zu2._auto_1)(hst:autoParam ((assignEach es X.env).findIdx? (·.1)=none) zu2._auto_1):SG X (.Tuple es k pos) (gT n g):=by
 obtain⟨t,p,s⟩:=h
 refine⟨_,pg_tup hc p hn hst,fun B G H σ ρ v d ρ' Q I r hm k=>?_⟩
 cases d<;>try cases hm
 rename_i ds
 simp only[gT]at hm
 split at hm
 ·rename_i hl
  obtain⟨a,xs,e,ha,rx⟩:=I.tup r
  exact⟨a,xs,e,SqT.of ha,by rw[rx.length];exact hl,s B G H σ ρ xs ds ρ' Q I rx hm k⟩
 ·cases hm
variable {e tg:Expr} {me:ME} {mo:MO}
noncomputable def sAsg (m:ME)(g:D->R->Option R):MS:=fun ρ=>(m ρ).bind fun p=>(g p.1 p.2).map fun ρ'=>(.next,ρ')
theorem zk4 (he:SE X e me)(hg:SG X tg g)(hs:autoParam (swapsWithSole [tg] e pos.line X.env=pure false) zu2._auto_1)(hw:autoParam (swappedStores [tg] e X.env=pure none) zu2._auto_1)
  (h1:autoParam ((assignEach [tg] X.env).map (·.2)=[assign tg X.env]) zu2._auto_1):SS X (.Assign [tg] e pos) (sAsg me g):=by
 obtain⟨t,p,s⟩:=he
 obtain⟨u,q,z⟩:=hg
 refine⟨_,ps_asg p q hs hw h1,fun B G H σ ρ fl ρ' E I hm k=>?_⟩
 obtain⟨⟨d,ρ1⟩,e1,h2⟩:=zag hm
 obtain⟨ρ2,e2,e3⟩:=zav h2
 obtain⟨rfl,rfl⟩:=Prod.mk.inj e3
 exact s B G H σ ρ d ρ1 _ I e1 fun G1 H1 v I1 f1 r1=>z B G1 H1 σ ρ1 v d ρ2 _ I1 r1 e2 fun G2 H2 σ2 I2 f2=>k G2 H2 σ2 I2 (f1.trans f2)
noncomputable def sSet (i:Nat)(m:ME):MS:=fun ρ=>(m ρ).map fun p=>(.next,p.2.set i (.val p.1))
theorem zau (i:Nat)(he:SE X e me)(hN:X.N.Nodup)(hi:autoParam (X.N[i]? =some x) zu2._auto_1)(hx:autoParam (Loc X.env.scope x) zu9._auto_1)(hs:autoParam (swapsWith e (some (.Name x pos')) pos.line X.env=pure false) zu2._auto_1)
    (hf:autoParam (X.fn x=true\/X.env.scope.names.lookup x=some .local) zu9._auto_1):SS X (.Assign [.Name x pos'] e pos) (sSet i me):=by
  obtain⟨t,p,s⟩:=he
  refine⟨_,zpo hN hi hx p hs hf,fun B G H σ ρ fl ρ' E I hm k=>?_⟩
  obtain⟨⟨d,ρ1⟩,e1,e3⟩:=zav hm
  cases e3
  exact s B G H σ ρ d ρ1 _ I e1 fun G1 H1 v I1 f1 r1=>k G1 H1 _ (I1.set r1) f1
noncomputable def zfy (i:Nat)(m:MO):MS:=fun ρ=>(m ρ).map fun p=>(.next,p.2.set i (.own p.1))
theorem zcg (i:Nat)(he:SO X e mo)(hN:X.N.Nodup)(hi:autoParam (X.N[i]? =some x) zu2._auto_1)(hx:autoParam (Loc X.env.scope x) zu9._auto_1)(hs:autoParam (swapsWith e (some (.Name x pos')) pos.line X.env=pure false) zu2._auto_1)
    (hf:autoParam (X.fn x=true\/X.env.scope.names.lookup x=some .local) zu9._auto_1):SS X (.Assign [.Name x pos'] e pos) (zfy i mo):=by
  obtain⟨t,p,s⟩:=he
  refine⟨_,zpo hN hi hx p hs hf,fun B G H σ ρ fl ρ' E I hm k=>?_⟩
  obtain⟨⟨d,ρ1⟩,e1,e3⟩:=zav hm
  cases e3
  exact s B G H σ ρ d ρ1 _ I e1 fun G1 H1 l xs I1 f1 g1 h1 r1 b1 n1=>k G1 H1 _ (I1.setO g1 h1 r1 b1 n1) f1
noncomputable def sApp (i:Nat)(m:ME):MS:=fun ρ=>if(ρ[i]?.bind Sl.items).isSome then(m ρ).bind fun p=>p.2[i]?.bind fun s=>s.items.bind fun ds=>if ds.length<16777216 then some (.next,p.2.set i (s.put (ds++[p.1])))else none else none
theorem zg5 (i:Nat){pos' apos cpos:Pos}(he:SE X e me)(hN:autoParam (X.N[i]? =some x) zu2._auto_1)(hv:autoParam (Vis X.env.scope x) zu5._auto_1)(hd:autoParam ((x==("__debug__":Str))=false) zu1._auto_1)
  (hcd:autoParam ((x==("__classdict__":Str))=false) zu1._auto_1)
  (hbase:autoParam (attributeBase (.Name x pos') "append" X.env (eval (.Name x pos') X.env)=eval (.Name x pos') X.env) zu2._auto_1)
  (hfew :autoParam (((backTo cpos (starEach [e] X.env)).all (fun x => !x.1) && (backToKw cpos (keywordEach [] X.env)).all (fun x => x.1.isSome)
   &&decide ([e].length+([]:List Keyword).length+(if([]:List Keyword).isEmpty then 0 else 1)<30))=true) zu2._auto_1)
  (hline:autoParam ((apos.endLine==cpos.line)=true) zu2._auto_1) (hs:autoParam (starEach [e] X.env=(false,eval e X.env)::starEach [] X.env) zu2._auto_1):SS X (.Expr (.Call (.Attribute (.Name x pos') "append" apos) [e] [] cpos) pos) (sApp i me):=by
 obtain⟨t,p,s⟩:=he
 refine⟨_,zlM (zny PySem.F.plainAttrs_list PySem.F.slot_list_append PySem.F.type_list_append zic (zcX hN hv hd hcd) (za7 p zcQ hs) hbase hfew hline hs rfl) (by rfl),fun B G H σ ρ fl ρ' E I hm k=>?_⟩
 unfold sApp at hm
 split at hm
 ·rename_i hso
  obtain⟨ds0,hso⟩:=Option.isSome_iff_exists.mp hso
  obtain⟨s0,e0,q0⟩:=zag hso
  obtain⟨l,xs0,h1,h2,h3,h4⟩:=I.wr e0 q0
  obtain⟨⟨d,ρ1⟩,e1,hm⟩:=zag hm
  obtain⟨s1,e2,hm⟩:=zag hm
  obtain⟨ds,e3,hm⟩:=zag hm
  split at hm
  ·rename_i hl
   cases hm
   refine⟨.ref l,h1,.inl ⟨rfl,_,SqL.of h3⟩,s B G H σ ρ d ρ1 _ I e1 fun G1 H1 v I1 f1 r1=>?_⟩
   obtain⟨l',xs,k1,k2,k3,k4⟩:=I1.wr e2 e3
   rw[h1]at k1;cases k1
   refine⟨l,xs,v,rfl,rfl,k3,by rw[k4.length,sizeLine_eq];exact hl,?_⟩
   exact k G1 _ σ (I1.write e2 e3 h1 (k4.snoc r1)) f1
  ·cases hm
 ·cases hm
noncomputable def sPut (j:Nat)(mi me:ME):MS:=fun ρ=>(me ρ).bind fun p=>if hasV p.2 j then(mi p.2).bind fun q=>match q.1 with
 | .int k=>q.2[j]?.bind fun s=>s.items.bind fun ds=>(ixN ds.length k).bind fun n=>some (.next,q.2.set j (s.put (ds.set n p.1)))
 |_=>none else none
theorem zjb (j:Nat){i:Expr}{mi:ME}{pos' tpos:Pos}(he:SE X e me)(hi:SE X i mi)(hN:autoParam (X.N[j]? =some x) zu2._auto_1)(hv:autoParam (Vis X.env.scope x) zu5._auto_1)(hd:autoParam ((x==("__debug__":Str))=false) zu1._auto_1)
  (hcd:autoParam ((x==("__classdict__":Str))=false) zu1._auto_1)
  (ha :autoParam (∀ v, assign (.Subscript (.Name x pos') i tpos) X.env v = (do
   let ov<-holding [v] (eval (.Name x pos') X.env)
   let iv<-holding [v,ov] (eval i X.env)
   standAt tpos
   holding [v,ov,iv] (setItem ov iv v)
   release [v,ov,iv] [])) zu8._auto_1)
  (hs:autoParam (swapsWithSole [.Subscript (.Name x pos') i tpos] e pos.line X.env=pure false) zu2._auto_1) (hw:autoParam (swappedStores [.Subscript (.Name x pos') i tpos] e X.env=pure none) zu2._auto_1)
  (h1:autoParam ((assignEach [.Subscript (.Name x pos') i tpos] X.env).map (·.2)=[assign (.Subscript (.Name x pos') i tpos) X.env]) zu2._auto_1):SS X (.Assign [.Subscript (.Name x pos') i tpos] e pos) (sPut j mi me):=by
 obtain⟨t,p,s⟩:=he
 obtain⟨u,q,z⟩:=hi
 refine⟨_,ps_asg p (pg_sub (zcX hN hv hd hcd) q set_list ha) hs hw h1,fun B G H σ ρ fl ρ' E I hm k=>?_⟩
 obtain⟨⟨d,ρ1⟩,e1,hm⟩:=zag hm
 refine s B G H σ ρ d ρ1 _ I e1 fun G1 H1 v I1 f1 r1=>?_
 split at hm
 ·rename_i hh
  obtain⟨w,ew⟩:=I1.has hh
  obtain⟨⟨kd,ρ2⟩,e2,hm⟩:=zag hm
  cases kd<;>try cases hm
  rename_i kk
  obtain⟨s2,e3,hm⟩:=zag hm
  obtain⟨ds,e4,hm⟩:=zag hm
  obtain⟨n,e5,hm⟩:=zag hm
  cases hm
  refine⟨w,ew,z B G1 H1 σ ρ1 (.int kk) ρ2 _ I1 e2 fun G2 H2 y I2 f2 r2=>?_⟩
  obtain⟨l,xs,k1,k2,k3,k4⟩:=I2.wr e3 e4
  rw[ew]at k1;cases k1
  refine⟨l,xs,kk,n,rfl,r2,k3,by rw[k4.length];exact e5,?_⟩
  exact k G2 _ σ (I2.write e3 e4 ew (k4.set n (r1.mono f2))) (f1.trans f2)
 ·cases hm
end
structure Itm (K:W.Frag) (J:It) (G:Hp) (items:List D):Prop where
 go:∀H i,Fz G H->i<items.length->J.go i H
 yld:∀H i x H',Fz G H->J.yld i H x H'->∀d,items[i]? =some d->(H'=H/\RepD K G x d)\/∃p xs ds,H p=none/\H'=upd H p (.tup xs)/\x= .ref p/\d= .tup ds/\RepL K G xs ds
 stop:∀H i,Fz G H->items.length<=i->J.stop i H
noncomputable def SIt (X:Cx)(tg it:Expr)(m:MA):Prop:=∃wi,PI X tg it wi/\∀B G H σ ρ ds ρ' (Q:It->Hp->Prop),SI X.K B G H σ ρ->m ρ=some (ds,ρ')->(∀J G' H',SI X.K B G' H' σ ρ'->Fz G G'->Itm X.K J G' ds->Q J H')->wi σ H Q
noncomputable def forM (f:D->R->Option (Fl×R)):List D->R->Option (Fl×R)
 |[],ρ=>some (.next,ρ)
 |d::ds,ρ=>(f d ρ).bind fun p=>match p.1 with
  | .next=>forM f ds p.2
  | .cont=>forM f ds p.2
  | .brk=>some (.next,p.2)
  | .ret r=>some (.ret r,p.2)
noncomputable def sFor (mi:MA)(g:D->R->Option R)(mb:MS):MS:=fun ρ=>(mi ρ).bind fun p=>forM (fun d ρ=>(g d ρ).bind fun ρ'=>mb ρ') p.1 p.2
theorem SI.yld {x:V}(I:SI K B G H σ ρ)
  (h:(H'=H/\RepD K G x d)\/∃p xs ds,H p=none/\H'=upd H p (.tup xs)/\x= .ref p/\d= .tup ds/\RepL K G xs ds):∃G',SI K B G' H' σ ρ/\Fz G G'/\RepD K G' x d:=by
 rcases h with⟨rfl,r⟩|⟨p,xs,ds,hp,rfl,rfl,rfl,r⟩
 ·exact⟨G,I,Fz.refl G,r⟩
 ·obtain⟨I2,f2,r2⟩:=I.newT hp r
  exact⟨_,I2,f2,r2⟩
theorem zd0 {tg it:Expr}{mi:MA}{mb:MS}(hp:PassesOwn (model X.prog X.w) X.A X.env X.xe)(hc:X.calm=true)(hi:SIt X tg it mi)(hg:SG X tg g)(hb:SSs X body mb)
    (hs:autoParam (∀x,foldedSetIterable it X.env x=pure x) zu8._auto_1):SS X (.For tg it body [] pos) (sFor mi g mb):=by
  obtain⟨wi,pi,si⟩:=hi
  obtain⟨tg',pg,sg⟩:=hg
  obtain⟨tb,pb,sb⟩:=hb
  refine⟨_,ps_for hp hc pi pg pb hs,fun B G H σ ρ fl ρ' E I hm k=>?_⟩
  obtain⟨⟨ds,ρ1⟩,e1,hm⟩:=zag hm
  refine si B G H σ ρ ds ρ1 _ I e1 fun J G1 H1 I1 f1 IT=>?_
  refine⟨fun i m σ H=>m=ds.length-i/\i<=ds.length/\∃G2 ρ2,SI X.K B G2 H σ ρ2/\Fz G1 G2/\forM (fun d ρ=>(g d ρ).bind fun ρ'=>mb ρ') (ds.drop i) ρ2=some (fl,ρ'),⟨ds.length,by simp,Nat.zero_le _,G1,ρ1,I1,Fz.refl _,by simpa using hm⟩,?_⟩
  rintro i m σ2 H2 ⟨rfl,hi,G2,ρ2,I2,f2,e2⟩
  by_cases hlt:i<ds.length
  . rw[List.drop_eq_getElem_cons hlt]at e2
    simp only[forM]at e2
    obtain⟨⟨f,ρ3⟩,e3,e4⟩:=zag e2
    obtain⟨ρ2',e5,e6⟩:=zag e3
    have fz2:Fz G1 H2:=f2.trans I2.fz
    refine .inr ⟨IT.go H2 i fz2 hlt,fun σ' H'=>(∃G3,SI X.K B G3 H' σ' ρ3/\Fz G1 G3)/\(f= .next\/f= .cont),?_,fun x H' y=>?_⟩
    . rintro σ' H' ⟨⟨G3,I3,f3⟩,hf⟩
      refine⟨ds.length-(i+1),by lia,rfl,hlt,G3,ρ3,I3,f3,?_⟩
      rcases hf with rfl|rfl<;>exact e4
    . have yy:=IT.yld H2 i x H' fz2 y ds[i] (List.getElem?_eq_getElem hlt)
      have yy2:(H'=H2/\RepD X.K G2 x ds[i])\/∃p xs es,H2 p=none/\H'=upd H2 p (.tup xs)/\x= .ref p/\ds[i]= .tup es/\RepL X.K G2 xs es:=by
        rcases yy with⟨a,b⟩|⟨p,xs,es,a,b,c,d,e⟩
        . exact .inl ⟨a,b.mono f2⟩
        . exact .inr ⟨p,xs,es,a,b,c,d,e.mono f2⟩
      obtain⟨G3,I3,f3,r3⟩:=I2.yld yy2
      refine sg B G3 H' σ2 ρ2 x ds[i] ρ2' _ I3 r3 e5 fun G4 H4 σ4 I4 f4=>sb B G4 H4 σ4 ρ2' f ρ3 _ I4 e6 ?_
      have ff:Fz G1 G4:=f2.trans (f3.trans f4)
      cases f with
      |next=>exact fun G5 H5 σ5 I5 f5=>⟨⟨G5,I5,ff.trans f5⟩,.inl rfl⟩
      |cont=>exact fun G5 H5 σ5 I5 f5=>⟨⟨G5,I5,ff.trans f5⟩,.inr rfl⟩
      |brk=>cases e4;exact fun G5 H5 σ5 I5 f5=>k G5 H5 σ5 I5 (f1.trans (ff.trans f5))
      |ret r=>cases e4;exact fun G5 H5 σ5 v I5 f5=>k G5 H5 σ5 v I5 (f1.trans (ff.trans f5))
  . have e:i=ds.length:=by lia
    subst e
    rw[List.drop_length]at e2
    cases e2
    exact .inl ⟨IT.stop H2 _ (f2.trans I2.fz) (Nat.le_refl _),k G2 H2 σ2 I2 (f1.trans f2)⟩
section
variable {X:Cx} {tg it:Expr} {me:ME}
noncomputable def iSeq (m:ME):MA:=fun ρ=>(m ρ).bind fun p=>(za4 [p.1]).map fun ds=>(ds,p.2)
theorem pi_or {l:Expr}{tl:TE}(hl:PE X l tl):PI X tg l (fun σ H R=>tl σ H fun x H1=>∃a,x= .ref a/\(((∃xs,SqL X.K H1 a xs)/\R (Itl X.K a) H1)\/((∃xs,SqT X.K H1 a xs)/\R (Itt X.K a) H1))):=by
 intro pins s σ H R I h
 refine thn (hl pins s σ H _ I h) fun v s1 ⟨x,H1,I1,r1,q1⟩=>?_
 obtain⟨a,e,q⟩:=q1
 subst e
 cases r1
 rcases q with⟨⟨xs,hq⟩,q⟩|⟨⟨xs,hq⟩,q⟩
 ·obtain⟨its,rv,p,hz⟩:=I1.list hq
  refine wpAny_pyIter_list p.isList ?_
  refine⟨s1.heap.objs.size,[s1.heap.objs.size],_,_,H1,rfl,I1.kept (t':=s1.toks) fun b o e=>Heap.get?_push_of_some _ e,znE a _,⟨_,Heap.get?_push_size _ rfl,rfl,rfl⟩,fun b hb=>?_,q⟩
  have e:b=s1.heap.objs.size:=by simpa using hb
  subst e
  exact I1.fpOk (Nat.le_refl _) (I1.hok.fresh (Nat.le_refl _))
 ·obtain⟨its,rv,p,hz⟩:=I1.tuple hq
  refine wpAny_pyIter_tuple (show s1.heap.IsTuple a its.toArray from p) ?_
  refine⟨s1.heap.objs.size,[s1.heap.objs.size],_,_,H1,rfl,I1.kept (t':=s1.toks) fun b o e=>Heap.get?_push_of_some _ e,zno a _,⟨_,Heap.get?_push_size _ rfl,rfl,rfl⟩,fun b hb=>?_,q⟩
  have e:b=s1.heap.objs.size:=by simpa using hb
  subst e
  exact I1.fpOk (Nat.le_refl _) (I1.hok.fresh (Nat.le_refl _))
theorem zmq {a:Addr}(hg:SqL K G a xs)(r:RepL K G xs ds):Itm K (Itl K a) G ds where
 go:=fun H i f hi=>by
  have hl:=r.length
  exact⟨xs,xs[i],f.sql hg,List.getElem?_eq_getElem (by lia)⟩
 yld:=fun H i x H' f y d e=>by
  obtain⟨rfl,y⟩:=y
  have hx:=y xs (f.sql hg)
  obtain⟨x',h1,h2⟩:=r.get e
  rw[hx]at h1;cases h1
  exact .inl ⟨rfl,h2⟩
 stop:=fun H i f hi=>⟨xs,f.sql hg,by rw[r.length];exact hi⟩
theorem itm_tup {a:Addr}(hg:G a=some (.tup xs))(r:RepL K G xs ds):Itm K (Itt K a) G ds where
 go:=fun H i f hi=>by
  have hl:=r.length
  exact⟨xs,xs[i],SqT.of (f _ _ hg),List.getElem?_eq_getElem (by lia)⟩
 yld:=fun H i x H' f y d e=>by
  obtain⟨rfl,y⟩:=y
  have hx:=y xs (SqT.of (f _ _ hg))
  obtain⟨x',h1,h2⟩:=r.get e
  rw[hx]at h1;cases h1
  exact .inl ⟨rfl,h2⟩
 stop:=fun H i f hi=>⟨xs,SqT.of (f _ _ hg),by rw[r.length];exact hi⟩
theorem zaT (h:SE X it me):SIt X tg it (iSeq me):=by
 obtain⟨t,p,s⟩:=h
 refine⟨_,pi_or p,fun B G H σ ρ ds ρ' Q I hm k=>?_⟩
 obtain⟨⟨d,ρ1⟩,e1,hm⟩:=zag hm
 obtain⟨es,e2,e3⟩:=zav hm
 cases e3
 refine s B G H σ ρ d ρ1 _ I e1 fun G1 H1 v I1 f1 r1=>?_
 cases d<;>simp only[za4]at e2<;>try cases e2
 ·obtain⟨a,xs,rfl,ha,r⟩:=r1
  exact⟨a,rfl,.inl ⟨⟨xs,SqL.of (I1.fz _ _ ha)⟩,k _ G1 H1 I1 f1 (zmq (SqL.of ha) r)⟩⟩
 ·obtain⟨a,xs,rfl,ha,r⟩:=r1
  exact⟨a,rfl,.inr ⟨⟨xs,SqT.of (I1.fz _ _ ha)⟩,k _ G1 H1 I1 f1 (itm_tup ha r)⟩⟩
 ·obtain⟨a,rfl,ha⟩:=r1
  exact⟨a,rfl,.inl ⟨⟨_,I1.fz.sql ha⟩,k _ G1 H1 I1 f1 (zmq ha (RepL.ints _))⟩⟩
end
noncomputable def zgl (lo:Int)(n:Nat):List D:=(List.range n).map fun(i:Nat)=>D.int (lo+(i:Int))
theorem zn5 (lo:Int)(n:Nat):Itm K (Itr lo n) G (zgl lo n) where
 go:=fun H i f hi=>by show i<n;simpa[zgl]using hi
 yld:=fun H i x H' f y d e=>by
  obtain⟨rfl,rfl⟩:=y
  unfold zgl at e
  rw[List.getElem?_map]at e
  cases q:(List.range n)[i]? with
  |none=>rw[q]at e;cases e
  |some j=>
   rw[q]at e
   have hj:j=i:=by
    have:=List.getElem?_eq_some_iff.mp q
    obtain⟨h1,h2⟩:=this
    simpa using h2.symm
   subst hj
   cases e
   exact .inl ⟨rfl,rfl⟩
 stop:=fun H i f hi=>by show n<=i;simpa[zgl]using hi
noncomputable def zdo (j:Int):Bool:=decide (-1000000000000<=j)&&decide (j<=1000000000000)
theorem ziD {j:Int}(h:zdo j=true): -(2^62)<=j/\j<2^62:=by
 unfold zdo at h
 simp only[Bool.and_eq_true,decide_eq_true_eq]at h
 lia
noncomputable def iR1 (ma:MA):MA:=fun ρ=>(ma ρ).bind fun p=>match p.1 with
 |[.int j]=>if zdo j then some (zgl 0 j.toNat,p.2)else none
 |_=>none
section
variable {X:Cx} {tg a b:Expr} {ma:MA} {p pos:Pos}
theorem zaN (hm:X.mg "range"=none)(ha:SA X [a] ma)(hg:autoParam (Gl X "range") zu2._auto_1)(hs:autoParam (starEach [a] X.env=[(false,eval a X.env)]) zu2._auto_1):SIt X tg (.Call (.Name "range" p) [a] [] pos) (iR1 ma):=by
 obtain⟨t,pa,sa⟩:=ha
 refine⟨_,znP hg hm pa hs,fun B G H σ ρ ds ρ' Q I hm k=>?_⟩
 obtain⟨⟨es,ρ1⟩,e1,h2⟩:=zag hm
 dsimp only at h2
 refine sa B G H σ ρ es ρ1 _ I e1 fun G1 H1 vs I1 f1 r1=>?_
 split at h2
 ·rename_i j
  split at h2
  ·rename_i hj
   cases h2
   obtain⟨x,rfl,rx⟩:=r1.one
   cases(show x=V.int j from rx)
   exact⟨j,rfl,(ziD hj).1,(ziD hj).2,k _ G1 H1 I1 f1 (zn5 0 _)⟩
  ·cases h2
 ·cases h2
end
noncomputable def ResF (K:W.Frag)(G' H' H:Hp)(v:V):Sl->Prop
 | .val d=>RepD K G' v d
 | .own ds=>∃l xs,v= .ref l/\G' l=none/\H' l=some (.lst xs)/\RepL K G' xs ds/\H l=none
 | .tre t=>∃A,RepT K G' H' v t A/\A.Nodup/\∀a∈A,G' a=none/\H a=none
 | .two ds es=>∃t l xs m ys,v= .ref t/\H' t=some (.tup [.ref l,.ref m])/\l≠m/\G' l=none/\H' l=some (.lst xs)/\RepL K G' xs ds/\H l=none/\G' m=none/\H' m=some (.lst ys)/\RepL K G' ys es/\H m=none
 |_=>False
noncomputable def spP (K:W.Frag)(n:Nat)(F:List D->Option Sl):Sp:=fun vs H Q _=>∃G ds r,F ds=some r/\ds.length=n/\Fz G H/\RepL K G vs ds/\
 ∀G' H' v,Fz G G'->Fz G' H'->(∀b o,G' b=some o->G b≠none\/H b=none)->Fz H H'->ResF K G' H' H v r->Q v H'
noncomputable def spM (K:W.Frag)(n:Nat)(F:List D->List D->Option (Sl×List D)):Sp:=fun vs H Q _=>∃G l xs cs ws ds r out,vs= .ref l::ws/\F cs ds=some (r,out)/\ds.length+1=n/\Fz G H/\G l=none/\H l=some (.lst xs)/\RepL K G xs cs/\RepL K G ws ds/\
 ∀G' H' v ys,Fz G G'->Fz G' H'->(∀b o,G' b=some o->G b≠none\/H b=none)->(∀b o,b≠l->H b=some o->H' b=some o)->G' l=none->H' l=some (.lst ys)->RepL K G' ys out->ResF K G' H' H v r->Q v H'
noncomputable def fP (N:Nat)(m:MS):List D->Option Sl:=fun ds=>(m (ds.map .val++List.replicate (N-ds.length) .emp)).bind fun p=>match p.1 with
 | .ret r=>some r
 | .next=>some (.val .non)
 |_=>none
noncomputable def fM (N:Nat)(m:MS):List D->List D->Option (Sl×List D):=fun cs ds=>(m (.par cs::(ds.map .val++List.replicate (N-(ds.length+1)) .emp))).bind fun p=>match p.1,(p.2[0]?:Option Sl)with
 |Fl.ret r,some (Sl.par out)=>some (r,out)
 |Fl.next,some (Sl.par out)=>some (.val .non,out)
 |_,_=>none
theorem zkI (h:vs.length<=N.length):(L2.start N vs).length=N.length:=by
 unfold L2.start
 rw[List.length_append,List.length_map,List.length_replicate]
 lia
theorem SI.start (fz:Fz G H)(r:RepL K G vs ds)(h:ds.length<=N.length):
  SI K ⟨G,H,[]⟩ G H (L2.start N vs) (ds.map .val++List.replicate (N.length-ds.length) .emp) where
 fz:=fz
 g0:=Fz.refl G
 new:=fun b o e=> .inl (by show G b≠none;rw[e];simp)
 keep:=fun b o e _=>e
 there:=fun b e=>e
 ob:=fun i b m=>by cases m
 len:=by rw[zkI (by rw[r.length];exact h),List.length_append,List.length_map,List.length_replicate];lia
 slot:=fun i s e=>by
  by_cases hi:i<ds.length
  ·rw[List.getElem?_append_left (by simpa using hi),List.getElem?_map,List.getElem?_eq_getElem hi]at e
   cases e
   obtain⟨x,h1,h2⟩:=r.get (List.getElem?_eq_getElem hi)
   refine⟨x,?_,h2⟩
   unfold L2.start
   rw[List.getElem?_append_left (by rw[List.length_map,r.length];exact hi),List.getElem?_map,h1]
   rfl
  ·rw[List.getElem?_append_right (by simpa using hi),List.getElem?_replicate]at e
   split at e
   ·cases e;trivial
   ·cases e
 dis:=fun i j s _ a _ e _ w=>by
  exfalso
  by_cases hi:i<ds.length
  ·rw[List.getElem?_append_left (by simpa using hi),List.getElem?_map,List.getElem?_eq_getElem hi]at e
   cases e;exact w
  ·rw[List.getElem?_append_right (by simpa using hi),List.getElem?_replicate]at e
   split at e
   ·cases e;exact w
   ·cases e
theorem SI.startM (fz:Fz G H)(hg:G l=none)(hl:H l=some (.lst xs))(rc:RepL K G xs cs)(r:RepL K G vs ds)(h:ds.length+1<=N.length):
  SI K ⟨G,H,[(0,l)]⟩ G H (L2.start N (.ref l::vs)) (.par cs::(ds.map .val++List.replicate (N.length-(ds.length+1)) .emp)) where
 fz:=fz
 g0:=Fz.refl G
 new:=fun b o e=> .inl (by show G b≠none;rw[e];simp)
 keep:=fun b o e _=>e
 there:=fun b e=>e
 ob:=fun i b m=>by
  have:b=l:=((by simpa using m):i=0/\b=l).2
  subst this
  show H b≠none
  rw[hl];simp
 len:=by
  have:=r.length
  rw[zkI (by rw[List.length_cons,r.length];exact h),List.length_cons,List.length_append,List.length_map,List.length_replicate];lia
 slot:=fun i s e=>by
  cases i with
  |zero=>simp at e;subst e;exact⟨l,xs,rfl,hg,hl,rc,by simp⟩
  |succ i=>
   rw[List.getElem?_cons_succ]at e
   by_cases hi:i<ds.length
   ·rw[List.getElem?_append_left (by simpa using hi),List.getElem?_map,List.getElem?_eq_getElem hi]at e
    cases e
    obtain⟨x,h1,h2⟩:=r.get (List.getElem?_eq_getElem hi)
    refine⟨x,?_,h2⟩
    unfold L2.start
    rw[List.map_cons,List.cons_append,List.getElem?_cons_succ,List.getElem?_append_left (by rw[List.length_map,r.length];exact hi),List.getElem?_map,h1]
    rfl
   ·rw[List.getElem?_append_right (by simpa using hi),List.getElem?_replicate]at e
    split at e
    ·cases e;trivial
    ·cases e
 dis:=fun i j s t a hij hi hj w1 w2=>by
  have z:∀(i:Nat) (s:Sl),(Sl.par cs::(ds.map .val++List.replicate (N.length-(ds.length+1)) .emp))[i]? =some s->OwS K G H (L2.start N (.ref l::vs))[i]? a s->i=0:=fun i s e q=>by
   cases i with
   |zero=>rfl
   |succ i=>
    exfalso
    rw[List.getElem?_cons_succ]at e
    by_cases hi:i<ds.length
    ·rw[List.getElem?_append_left (by simpa using hi),List.getElem?_map,List.getElem?_eq_getElem hi]at e
     cases e;exact q
    ·rw[List.getElem?_append_right (by simpa using hi),List.getElem?_replicate]at e
     split at e
     ·cases e;exact q
     ·cases e
  exact hij ((z i s hi w1).trans (z j t hj w2).symm)
section
variable {P:Program} {w:World} {K:W.Frag} {mg:Str->Option Value} {base:Heap}
theorem fnP_ok {st:Stmt}{f:Addr}{m:MS}(F:Fun K x qual st f fd)(S:FnScope N ps (zaB st))(hn:ps.length=n)(hN:n<=N.length)
  (body:∀(cdv:Value) (A:Around) (outer:List Env) (s:Shared) (H:Hp) (E:XK),Room k (A.deeper (envOfC qual (zaB st) s.heap.objs.size f cdv))->SSs (cxOf CX0 P w K mg base N qual (zaB st) f cdv A outer s H E).nox (zb9 st) m):
  FnOk P w K mg base CX0 (k+1) f fd ps (spP K n (fP N.length m)):=by
 refine F.ok S (fun vs H Q E h=>?_) (fun cdv A outer s H vs Q E hr h=>?_)
 ·obtain⟨G,ds,r,_,h2,_,h4,_⟩:=h
  rw[h4.length,h2,hn]
 ·obtain⟨G,ds,r,e1,h2,fz,h4,kk⟩:=h
  obtain⟨t,pt,so⟩:=body cdv A outer s H E hr
  refine⟨t,pt,?_⟩
  obtain⟨⟨fl,ρ'⟩,e2,e3⟩:=zag e1
  refine so ⟨G,H,[]⟩ G H (L2.start N vs) _ fl ρ' _ (SI.start fz h4 (by lia)) e2 ?_
  have fin:∀G' H' σ' v,SI K ⟨G,H,[]⟩ G' H' σ' ρ'->Fz G G'->ResF K G' H' H v r->Q v H':=fun G' H' σ' v I f rr=>kk G' H' v f I.fz I.new (fun b o e=>I.keep b o e (by simp)) rr
  cases fl with
  |next=>cases e3;exact fun G' H' σ' I f=>fin G' H' σ' .non I f rfl
  |brk=>cases e3
  |cont=>cases e3
  |ret r'=>
   cases e3
   refine fun G' H' σ' v I f rr=>fin G' H' σ' v I f ?_
   cases r with
   |val d=>exact rr
   |own ds=>exact rr
   |emp=>exact rr
   |two _ _=>exact rr
   |tre _=>exact rr
   |ptr _=>exact rr
   |par ds=>exact rr
theorem fnM_ok {st:Stmt}{f:Addr}{m:MS}(F:Fun K x qual st f fd)(S:FnScope N ps (zaB st))(hn:ps.length=n)(hN:n<=N.length)
  (body:∀(cdv:Value) (A:Around) (outer:List Env) (s:Shared) (H:Hp) (E:XK),Room k (A.deeper (envOfC qual (zaB st) s.heap.objs.size f cdv))->SSs (cxOf CX0 P w K mg base N qual (zaB st) f cdv A outer s H E).nox (zb9 st) m):
  FnOk P w K mg base CX0 (k+1) f fd ps (spM K n (fM N.length m)):=by
 refine F.ok S (fun vs H Q E h=>?_) (fun cdv A outer s H vs Q E hr h=>?_)
 ·obtain⟨G,l,xs,cs,ws,ds,r,out,rfl,_,h2,_,_,_,_,h4,_⟩:=h
  rw[List.length_cons,h4.length,h2,hn]
 ·obtain⟨G,l,xs,cs,ws,ds,r,out,rfl,e1,h2,fz,hg,hl,rc,h4,kk⟩:=h
  obtain⟨t,pt,so⟩:=body cdv A outer s H E hr
  refine⟨t,pt,?_⟩
  obtain⟨⟨fl,ρ'⟩,e2,e3⟩:=zag e1
  refine so ⟨G,H,[(0,l)]⟩ G H _ _ fl ρ' _ (SI.startM fz hg hl rc h4 (by lia)) e2 ?_
  have fin:∀G' H' σ' v,ρ'[0]? =some (.par out)->SI K ⟨G,H,[(0,l)]⟩ G' H' σ' ρ'->Fz G G'->ResF K G' H' H v r->Q v H':=fun G' H' σ' v e0 I f rr=>by
   obtain⟨l',ys,k1,k2,k3,k4,k5⟩:=I.slot 0 _ e0
   have:l'=l:=by simpa using k5
   subst this
   exact kk G' H' v ys f I.fz I.new (fun b o hb e=>I.keep b o e (fun i hm=>by simp at hm;exact hb hm.2)) k2 k3 k4 rr
  cases e0:ρ'[0]? with
  |none=>rw[e0]at e3;cases fl<;>cases e3
  |some s0=>
   rw[e0]at e3
   cases s0 with
   |emp=>cases fl<;>cases e3
   |two _ _=>cases fl<;>cases e3
   |tre _=>cases fl<;>cases e3
   |ptr _=>cases fl<;>cases e3
   |val d=>cases fl<;>cases e3
   |own d=>cases fl<;>cases e3
   |par o2=>
    cases fl with
    |next=>cases e3;exact fun G' H' σ' I f=>fin G' H' σ' .non e0 I f rfl
    |brk=>cases e3
    |cont=>cases e3
    |ret r'=>
     cases e3
     refine fun G' H' σ' v I f rr=>fin G' H' σ' v e0 I f ?_
     cases r with
     |val d=>exact rr
     |own ds=>exact rr
     |emp=>exact rr
     |two _ _=>exact rr
     |tre _=>exact rr
     |ptr _=>exact rr
     |par ds=>exact rr
end
structure FD (P:Program) (w:World) (K:W.Frag) (mg:Str->Option Value) (base:Heap) (k:Nat) (x:Str) (sp:Sp):Prop where
 ex:∃f fd ps,FnOk P w K mg base CX0 k f fd ps sp/\mg x=some (.ref f)/\W.keepIn K (.ref f)=true/\Binds K fd ps []
theorem zpk (nw:∀b o,G' b=some o->G b≠none\/H b=none)(kp:Fz H H'):∀(i:Nat) (s:Sl) (a:Addr),ρ[i]? =some s->OwS K G H σ[i]? a s->G a=none->H a≠none->G' a=none/\H' a=H a:=fun i s a _ _ g h=>by
 obtain⟨u,hu⟩:=Option.ne_none_iff_exists'.mp h
 refine⟨?_,(kp a u hu).trans hu.symm⟩
 cases q:G' a with
 |none=>rfl
 |some u=>
  rcases nw a u q with z|z
  ·exact absurd g z
  ·exact absurd z h
theorem SI.grow (I:SI K B G H σ ρ)(f:Fz G G')(fz:Fz G' H')(nw:∀b o,G' b=some o->G b≠none\/H b=none)(kp:Fz H H'):SI K B G' H' σ ρ:=
 I.move fz f (fun b o e=>by
  rcases nw b o e with h|h
  ·cases q:G b with
   |none=>exact absurd q h
   |some u=>exact I.new b u q
  ·exact .inr (I.there b h)) (fun b o e n=>kp b o (I.keep b o e n)) (fun b e=>I.there b (kp.free e)) (zpk nw kp)
theorem SI.own_ne (I:SI K B G H σ ρ)(hp:H p=none)(nw:∀b o,G' b=some o->G b≠none\/H b=none)(kp:Fz H H'):Nw K G' H' σ ρ p:=I.nw_move (I.nw hp) (zpk nw kp)
noncomputable def zaR (F:List D->Option Sl)(ma:MA):ME:=fun ρ=>(ma ρ).bind fun p=>(F p.1).bind fun r=>match r with
 | .val d=>some (d,p.2)
 | .own ds=>some (.lst ds,p.2)
 |_=>none
noncomputable def zkC (F:List D->Option Sl)(ma:MA):MO:=fun ρ=>(ma ρ).bind fun p=>(F p.1).bind fun r=>match r with
 | .own ds=>some (ds,p.2)
 |_=>none
section
variable {X:Cx} {x:Str} {p pos:Pos} {e:Expr} {es:List Expr} {ma:MA} {k k' n:Nat} {F:List D->Option Sl}
theorem zaq (fd:FD X.prog X.w X.K X.mg X.base k x (spP X.K n F))(hr:Room k' X.A)(ha:SA X (e::es) ma)(hn:autoParam ((e::es).length=n) zu2._auto_1)(hk:autoParam (k<=k') zu1._auto_1)(hg:autoParam (Gl X x) zu2._auto_1)(hdb:autoParam ((x==("__debug__":Str))=false) zu1._auto_1)
  (he:autoParam (starEach (e::es) X.env=(false,eval e X.env)::starEach es X.env) zu2._auto_1) (hpl:autoParam ((backTo pos (starEach es X.env)).any (·.1)=false) zu2._auto_1) (hlen:∀ρ as ρ',ma ρ=some (as,ρ')->as.length=n):SE X (.Call (.Name x p) (e::es) [] pos) (zaR F ma):=by
 obtain⟨f,fdd,ps,G0,h1,h2,h3⟩:=fd.ex
 obtain⟨t,pa,sa⟩:=ha
 refine⟨_,zh7 G0 (hr.mono hk) hg h1 h2 h3 .nil zoN pa hdb he hpl,fun B G H σ ρ d ρ' Q I hm kk=>?_⟩
 obtain⟨⟨as,ρ1⟩,e1,hm⟩:=zag hm
 obtain⟨r,e2,hm⟩:=zag hm
 refine sa B G H σ ρ as ρ1 _ I e1 fun G1 H1 vs I1 f1 r1=>?_
 show spP X.K n F (vs++[]) H1 Q E0
 rw[List.append_nil]
 refine⟨G1,as,r,e2,hlen ρ as ρ1 e1,I1.fz,r1,fun G2 H2 v f2 fz2 nw kp rr=>?_⟩
 have I2:=I1.grow f2 fz2 nw kp
 cases r with
 |val d'=>cases hm;exact kk G2 H2 v I2 (f1.trans f2) rr
 |own ds=>
  cases hm
  obtain⟨l,xs,rfl,g3,h3,r3,b3⟩:=rr
  obtain⟨I3,f3,r4⟩:=zmJ I2 g3 h3 r3 (I1.there l b3) (I1.own_ne b3 nw kp)
  exact kk _ H2 _ I3 (f1.trans (f2.trans f3)) r4
 |emp=>cases hm
 |two _ _=>cases hm
 |tre _=>cases hm
 |ptr _=>cases hm
 |par _=>cases hm
theorem zhq (fd:FD X.prog X.w X.K X.mg X.base k x (spP X.K n F))(hr:Room k' X.A)(ha:SA X (e::es) ma)(hn:autoParam ((e::es).length=n) zu2._auto_1)(hk:autoParam (k<=k') zu1._auto_1)(hg:autoParam (Gl X x) zu2._auto_1)(hdb:autoParam ((x==("__debug__":Str))=false) zu1._auto_1)
  (he:autoParam (starEach (e::es) X.env=(false,eval e X.env)::starEach es X.env) zu2._auto_1) (hpl:autoParam ((backTo pos (starEach es X.env)).any (·.1)=false) zu2._auto_1) (hlen:∀ρ as ρ',ma ρ=some (as,ρ')->as.length=n):SO X (.Call (.Name x p) (e::es) [] pos) (zkC F ma):=by
 obtain⟨f,fdd,ps,G0,h1,h2,h3⟩:=fd.ex
 obtain⟨t,pa,sa⟩:=ha
 refine⟨_,zh7 G0 (hr.mono hk) hg h1 h2 h3 .nil zoN pa hdb he hpl,fun B G H σ ρ d ρ' Q I hm kk=>?_⟩
 obtain⟨⟨as,ρ1⟩,e1,hm⟩:=zag hm
 obtain⟨r,e2,hm⟩:=zag hm
 refine sa B G H σ ρ as ρ1 _ I e1 fun G1 H1 vs I1 f1 r1=>?_
 show spP X.K n F (vs++[]) H1 Q E0
 rw[List.append_nil]
 refine⟨G1,as,r,e2,hlen ρ as ρ1 e1,I1.fz,r1,fun G2 H2 v f2 fz2 nw kp rr=>?_⟩
 have I2:=I1.grow f2 fz2 nw kp
 cases r with
 |val d'=>cases hm
 |own ds=>
  cases hm
  obtain⟨l,xs,rfl,g3,h3,r3,b3⟩:=rr
  exact kk G2 H2 l xs I2 (f1.trans f2) g3 h3 r3 (I1.there l b3) (I1.own_ne b3 nw kp)
 |emp=>cases hm
 |two _ _=>cases hm
 |tre _=>cases hm
 |ptr _=>cases hm
 |par _=>cases hm
end
noncomputable def aLen (ma:MA)(n:Nat):Prop:=∀ρ as ρ',ma ρ=some (as,ρ')->as.length=n
theorem zai:aLen aNil 0:=fun ρ as ρ' h=>by cases h;rfl
theorem zac {m:ME}{r:MA}(h:aLen r n):aLen (zaf m r) (n+1):=fun ρ as ρ' e=>by
 obtain⟨⟨d,ρ1⟩,_,h2⟩:=zag e
 obtain⟨⟨ds,ρ2⟩,e3,e4⟩:=zav h2
 cases e4
 rw[List.length_cons,h ρ1 ds ρ2 e3]
noncomputable def zaZ (F:List D->List D->Option (Sl×List D))(j:Nat)(ma:MA):ME:=fun ρ=>if(ρ[j]?.bind Sl.items).isSome then(ma ρ).bind fun p=>p.2[j]?.bind fun s=>s.items.bind fun cs=>(F cs p.1).bind fun r=>match r.1 with
 | .val d=>some (d,p.2.set j (s.put r.2))
 | .own ds=>some (.lst ds,p.2.set j (s.put r.2))
 |_=>none else none
theorem SI.growW (I:SI K B G H σ ρ)(e:ρ[j]? =some s)(q:s.items=some cs)(hl:σ[j]? =some (some (.ref l)))
  (f:Fz G G') (fz:Fz G' H') (nw:∀b o,G' b=some o->G b≠none\/H b=none) (kp:∀b o,b≠l->H b=some o->H' b=some o) (gl:G' l=none) (hl':H' l=some (.lst ys)) (r:RepL K G' ys out):SI K B G' H' σ (ρ.set j (s.put out)):=
 I.chgW e q hl fz f nw kp gl hl' r
theorem SI.own_neW (I:SI K B G H σ ρ)(e:ρ[j]? =some s)(q:s.items=some cs)(hl:σ[j]? =some (some (.ref l)))(hp:H p=none)
  (nw:∀b o,G' b=some o->G b≠none\/H b=none) (kp:∀b o,b≠l->H b=some o->H' b=some o):Nw K G' H' σ (ρ.set j (s.put out)) p:=fun i t et w=>by
 obtain⟨l',xs,e1,e2,e3,e4⟩:=I.wr e q
 rw[hl]at e1;cases e1
 have hpl:p≠l:=fun z=>by rw[z,e3]at hp;cases hp
 by_cases z:i=j
 ·subst z
  rw[List.getElem?_set,if_pos rfl]at et
  split at et
  ·cases et
   have:=(zfI (zkK q out)).mp w
   rw[hl]at this
   exact hpl (V.ref.inj (Option.some.inj (Option.some.inj this))).symm
  ·cases et
 ·rw[List.getElem?_set_ne (Ne.symm z)]at et
  have sl:=I.slot i t et
  refine(sl.own (sl.back (fun a w g h=>?_) w)).2.1 hp
  have na:a≠l:=fun w'=>by subst w';exact I.dis i j t s a z et e w ((zfI q).mpr hl)
  obtain⟨u,hu⟩:=Option.ne_none_iff_exists'.mp h
  refine⟨?_,(kp a u na hu).trans hu.symm⟩
  cases q2:G' a with
  |none=>rfl
  |some u=>
   rcases nw a u q2 with z|z
   ·exact absurd g z
   ·exact absurd z h
section
variable {X:Cx} {x y:Str} {p py pos:Pos} {es:List Expr} {ma:MA} {k k' n:Nat} {F:List D->List D->Option (Sl×List D)}
theorem soundM {t:TA}{Q:VK}(sa:∀B G H σ ρ ds ρ' (Q:List V->Hp->Prop),SI X.K B G H σ ρ->ma ρ=some (ds,ρ')->(∀G' H' vs,SI X.K B G' H' σ ρ'->Fz G G'->RepL X.K G' vs ds->Q vs H')->t σ H Q)
  (hlen:∀ρ as ρ',ma ρ=some (as,ρ')->as.length+1=n) (I:SI X.K B G H σ ρ) {ds0:List D} (h0:ρ[j]?.bind Sl.items=some ds0) {as:List D} {ρ1:R} (e1:ma ρ=some (as,ρ1)) {s:Sl} (e2:ρ1[j]? =some s) {cs:List D} (e3:s.items=some cs)
  {r:Sl} {out:List D} (e4:F cs as=some (r,out))
  (kk:∀G' H' v,SI X.K B G' H' σ (ρ1.set j (s.put out))->Fz G G'->True->(∃H1,ResF X.K G' H' H1 v r/\(∀b,H1 b=none->B.H b=none)/\∀b,H1 b=none->Nw X.K G' H' σ (ρ1.set j (s.put out)) b)->Q v H'):
  tCall (spM X.K n F) [] E0 (tCons (tVar j) t) σ H Q:=by
 obtain⟨s0,k0,q0⟩:=zag h0
 obtain⟨l,xs0,h1,h2,h3,h4⟩:=I.wr k0 q0
 refine⟨.ref l,h1,sa B G H σ ρ as ρ1 _ I e1 fun G1 H1 vs I1 f1 r1=>?_⟩
 show spM X.K n F ((.ref l::vs)++[]) H1 Q E0
 rw[List.append_nil]
 obtain⟨l',xs,m1,m2,m3,m4⟩:=I1.wr e2 e3
 rw[h1]at m1;cases m1
 refine⟨G1,l,xs,cs,vs,as,r,out,rfl,e4,hlen ρ as ρ1 e1,I1.fz,m2,m3,m4,r1,fun G2 H2 v ys f2 fz2 nw kp gl hl r2 rr=>?_⟩
 exact kk G2 H2 v (I1.growW e2 e3 h1 f2 fz2 nw kp gl hl r2) (f1.trans f2) trivial ⟨H1,rr,fun b hb=>I1.there b hb,fun b hb=>I1.own_neW e2 e3 h1 hb nw kp⟩
theorem zaA (j:Nat)(fd:FD X.prog X.w X.K X.mg X.base k x (spM X.K n F))(hr:Room k' X.A)(ha:SA X es ma)(hlen:∀ρ as ρ',ma ρ=some (as,ρ')->as.length+1=n)(hN:autoParam (X.N[j]? =some y) zu2._auto_1)(hv:autoParam (Vis X.env.scope y) zu5._auto_1)(hd:autoParam ((y==("__debug__":Str))=false) zu1._auto_1)
  (hcd:autoParam ((y==("__classdict__":Str))=false) zu1._auto_1) (hk:autoParam (k<=k') zu1._auto_1) (hg:autoParam (Gl X x) zu2._auto_1) (hdb:autoParam ((x==("__debug__":Str))=false) zu1._auto_1)
  (he:autoParam (starEach (.Name y py::es) X.env=(false,eval (.Name y py) X.env)::starEach es X.env) zu2._auto_1) (hpl:autoParam ((backTo pos (starEach es X.env)).any (·.1)=false) zu2._auto_1):SE X (.Call (.Name x p) (.Name y py::es) [] pos) (zaZ F j ma):=by
 obtain⟨f,fdd,ps,G0,h1,h2,h3⟩:=fd.ex
 obtain⟨t,pa,sa⟩:=ha
 refine⟨_,zh7 G0 (hr.mono hk) hg h1 h2 h3 .nil zoN (za7 (zcX hN hv hd hcd) pa he) hdb he hpl,fun B G H σ ρ d ρ' Q I hm kk=>?_⟩
 unfold zaZ at hm
 split at hm
 ·rename_i hso
  obtain⟨ds0,hso⟩:=Option.isSome_iff_exists.mp hso
  obtain⟨⟨as,ρ1⟩,e1,hm⟩:=zag hm
  obtain⟨s,e2,hm⟩:=zag hm
  obtain⟨cs,e3,hm⟩:=zag hm
  obtain⟨⟨r,out⟩,e4,hm⟩:=zag hm
  refine soundM sa hlen I hso e1 e2 e3 e4 fun G' H' v I' f' _ ⟨H1,rr,bb,nn⟩=>?_
  cases r with
  |val d'=>cases hm;exact kk G' H' v I' f' rr
  |own ds=>
   cases hm
   obtain⟨l,xs,rfl,g3,h3,r3,b3⟩:=rr
   obtain⟨I3,f3,r4⟩:=zmJ I' g3 h3 r3 (bb l b3) (nn l b3)
   exact kk _ H' _ I3 (f'.trans f3) r4
  |emp=>cases hm
  |two _ _=>cases hm
  |tre _=>cases hm
  |ptr _=>cases hm
  |par _=>cases hm
 ·cases hm
end
noncomputable def zfT (env:Env)(cs:List (Str×Addr))(x:Str×NameKind):List (Str×Addr):=if x.2== .free then(x.1,(env.cells.lookup x.1).getD 0)::cs else cs
noncomputable def clOf (scope:Scope)(env:Env):List (Str×Addr):=scope.names.foldl (zfT env) []
theorem zhB:∀(names:List (Str×NameKind)) (cs:List (Str×Addr)),(∀y∈names,y.2= .free->∃c,env.cells.lookup y.1=some c)->
  (forIn names cs (fun x r=>if x.2==NameKind.free then do let a<-cellOf env x.1;pure (ForInStep.yield ((x.1,a)::r))else pure (ForInStep.yield r)):Sem (List (Str×Addr)))=pure (names.foldl (zfT env) cs)
 |[],cs,_=>rfl
 |(n,k)::r,cs,h=>by
  have ih:=fun cs'=>zhB r cs' (fun y hy=>h y (List.mem_cons_of_mem _ hy))
  rw[List.forIn_cons,List.foldl_cons]
  by_cases hk:(k==NameKind.free)=true
  ·obtain⟨c,hc⟩:=h (n,k) List.mem_cons_self (by simpa using hk)
   have e:zfT env cs (n,k)=(n,c)::cs:=by unfold zfT;simp[hk,hc]
   rw[e,<-ih]
   simp only[hk,if_true]
   unfold cellOf
   simp only at hc
   rw[hc]
   rfl
  ·have e:zfT env cs (n,k)=cs:=by unfold zfT;simp[hk]
   rw[e,<-ih]
   simp only[hk]
   rfl
theorem zi6 {env:Env}(h:∀y∈scope.names,y.2= .free->∃c,env.cells.lookup y.1=some c):closureFor scope env=pure (clOf scope env):=by
 unfold closureFor clOf
 have e:=zhB (env:=env) scope.names [] h
 simp only[bind_pure]
 exact e
theorem zdO:∀{names:List (Str×NameKind)} {cs:List (Str×Addr)},(∀y∈names,y.2= .free->∃c,env.cells.lookup y.1=some c)->(cs.lookup x=some c->env.cells.lookup x=some c)->
  (names.foldl (zfT env) cs).lookup x=some c->env.cells.lookup x=some c
 |[],cs,_,h0,h=>h0 h
 |(n,k)::r,cs,hn,h0,h=>by
  rw[List.foldl_cons]at h
  refine zdO (names:=r) (fun y hy=>hn y (List.mem_cons_of_mem _ hy)) ?_ h
  intro q
  unfold zfT at q
  split at q
  ·rename_i hk
   obtain⟨c',hc⟩:=hn (n,k) List.mem_cons_self (by simpa using hk)
   rw[List.lookup_cons]at q
   simp only at hc
   by_cases z:(x==n)=true
   ·rw[z]at q
    have zz:x=n:=by simpa using z
    subst zz
    simp only[hc,Option.getD_some]at q
    rw[hc];exact q
   ·have z':(x==n)=false:=by simpa using z
    rw[z']at q;exact h0 q
  ·exact h0 q
theorem zcz:∀{names:List (Str×NameKind)} {cs:List (Str×Addr)},((x,NameKind.free)∈names\/(cs.lookup x).isSome=true)->((names.foldl (zfT env) cs).lookup x).isSome=true
 |[],cs,h=>by
  rcases h with h|h
  ·simp at h
  ·exact h
 |(n,k)::r,cs,h=>by
  rw[List.foldl_cons]
  refine zcz (names:=r) ?_
  rcases h with h|h
  ·rcases List.mem_cons.mp h with h|h
   ·cases h
    refine .inr ?_
    unfold zfT
    simp
   ·exact .inl h
  ·refine .inr ?_
   unfold zfT
   split
   ·rw[List.lookup_cons]
    by_cases z:(x==n)=true
    ·rw[z];rfl
    ·have z':(x==n)=false:=by simpa using z
     rw[z'];exact h
   ·exact h
theorem zix:∀{names:List (Str×NameKind)} {n:Nat} {acc:List (Str×Addr)},(cellsFrom n names acc).lookup x=some c->(n<=c/\(x,NameKind.cell)∈names)\/acc.lookup x=some c
 |[],n,acc,h=> .inr h
 |(m,k)::r,n,acc,h=>by
  unfold cellsFrom at h
  split at h
  ·rename_i hk
   have hk':k= .cell:=by simpa using hk
   subst hk'
   rcases zix h with⟨h1,h2⟩|h1
   ·exact .inl ⟨Nat.le_of_succ_le h1,List.mem_cons_of_mem _ h2⟩
   ·rw[List.lookup_cons]at h1
    cases q:x==m with
    |true=>
     rw[q]at h1
     cases h1
     rw[beq_iff_eq.mp q]
     exact .inl ⟨Nat.le_refl _,List.mem_cons_self⟩
    |false=>rw[q]at h1;exact .inr h1
  ·rcases zix h with⟨h1,h2⟩|h1
   ·exact .inl ⟨h1,List.mem_cons_of_mem _ h2⟩
   ·exact .inr h1
theorem zmM:∀{names:List (Str×NameKind)} {n:Nat} {acc:List (Str×Addr)},(x,NameKind.cell)∉names->(cellsFrom n names acc).lookup x=acc.lookup x
 |[],n,acc,_=>rfl
 |(m,k)::r,n,acc,h=>by
  unfold cellsFrom
  split
  ·rename_i hk
   have hk':k= .cell:=by simpa using hk
   subst hk'
   rw[zmM fun z=>h (List.mem_cons_of_mem _ z),List.lookup_cons]
   cases q:x==m with
   |true=>exact absurd (by rw[beq_iff_eq.mp q];exact List.mem_cons_self) h
   |false=>rfl
  ·exact zmM fun z=>h (List.mem_cons_of_mem _ z)
theorem zmc:∀{names:List (Str×NameKind)} {n:Nat} {acc:List (Str×Addr)},(x,NameKind.cell)∈names->∃c,(cellsFrom n names acc).lookup x=some c/\n<=c
 |(m,k)::r,n,acc,h=>by
  unfold cellsFrom
  by_cases hr:(x,NameKind.cell)∈r
  ·split
   ·obtain⟨c,h1,h2⟩:=zmc (n:=n+1) (acc:=(m,n)::acc) hr
    exact⟨c,h1,Nat.le_of_succ_le h2⟩
   ·exact zmc hr
  ·rcases List.mem_cons.mp h with e|e
   ·cases e
    rw[if_pos (beq_self_eq_true _),zmM hr,List.lookup_cons,beq_self_eq_true]
    exact⟨n,rfl,Nat.le_refl _⟩
   ·exact absurd e hr
theorem znC:∀{names:List (Str×NameKind)} {n:Nat} {acc:List (Str×Addr)},(∀x c,acc.lookup x=some c->c<n)->(∀x y c,acc.lookup x=some c->acc.lookup y=some c->x=y)->
  ∀x y c,(cellsFrom n names acc).lookup x=some c->(cellsFrom n names acc).lookup y=some c->x=y
 |[],n,acc,_,hi=>hi
 |(m,k)::r,n,acc,hl,hi=>by
  unfold cellsFrom
  split
  ·refine znC (fun x c h=>?_) (fun x y c h1 h2=>?_)
   ·rw[List.lookup_cons]at h
    cases q:x==m with
    |true=>rw[q]at h;cases h;exact Nat.lt_succ_self _
    |false=>rw[q]at h;exact Nat.lt_succ_of_lt (hl x c h)
   ·rw[List.lookup_cons]at h1 h2
    cases q:x==m with
    |true=>
     rw[q]at h1
     cases h1
     cases q2:y==m with
     |true=>rw[beq_iff_eq.mp q,beq_iff_eq.mp q2]
     |false=>rw[q2]at h2;exact absurd (hl y n h2) (Nat.lt_irrefl _)
    |false=>
     rw[q]at h1
     cases q2:y==m with
     |true=>rw[q2]at h2;cases h2;exact absurd (hl x n h1) (Nat.lt_irrefl _)
     |false=>rw[q2]at h2;exact hi x y c h1 h2
  ·exact znC hl hi
theorem zl2:∀{names:List (Str×NameKind)} {h:Heap} {acc:List (Str×Addr)},(∀x c,acc.lookup x=some c->∃v,h.IsCell c v)->∀x c,(cellsFrom h.objs.size names acc).lookup x=some c->∃v,(pushCells h names).IsCell c v
 |[],h,acc,ha=>ha
 |(m,k)::r,h,acc,ha=>by
  unfold cellsFrom pushCells
  split
  ·intro x c e
   rw[<-Heap.size_push h {cls:= .type "cell",data:= .cell none}]at e
   refine zl2 (fun y d q=>?_) x c e
   rw[List.lookup_cons]at q
   cases z:y==m with
   |true=>rw[z]at q;cases q;exact⟨none,_,Heap.get?_push_size _ rfl,rfl⟩
   |false=>
    rw[z]at q
    obtain⟨v,hv⟩:=ha y d q
    exact⟨v,hv.keeps fun b o e=>Heap.get?_push_of_some _ e⟩
  ·exact zl2 ha
theorem zlv {M:Model}{s:Shared}{globals:Addr}{Q:Env->Shared->Prop}
  (hQ : ∀ h' : Heap, h'.Ns s.heap.objs.size (fun _ => none) -> (∀ a o, s.heap.get? a = some o -> h'.get? a = some o) ->
   ((∀x c,cl.lookup x=some c->∃v,s.heap.IsCell c v)->∀x c,(cellsFrom (s.heap.objs.size+1) scope.names cl).lookup x=some c->∃v,h'.IsCell c v)->
   Q (newEnv scope s.heap.objs.size globals (cellsFrom (s.heap.objs.size+1) scope.names cl) qual none .none (some env) builtinsNs) {s with heap:=h'}):
  wpAny M A (newFunctionEnv scope globals cl [] qual none .none (some env)) Q E s:=by
 simp only[newFunctionEnv,Option.isSome_some,if_true]
 refine wpAny_bind (wpAny_alloc ?_)
 refine wpAny_bind (wpAny_layCells _ (fun name kind cells=>by cases hkc:kind==NameKind.cell<;>simp[hkc]) _ _ _ _ ?_)
 rw[show({s with heap:=s.heap.push {cls:= .type "dict",data:= .dict #[]}}:Shared).heap.objs.size=s.heap.objs.size+1 from Heap.size_push ..]
 refine wpAny_bind ?_
 rw[List.forIn_nil]
 refine wpAny_pure (wpAny_pure (hQ _ ((Heap.Ns.new s.heap (.type "dict")).keeps (pushCells_keeps _ _)) (fun a o e=>pushCells_keeps _ _ a o (Heap.get?_push_of_some _ e)) fun hc x c e=>?_))
 rw[<-Heap.size_push s.heap {cls:= .type "dict",data:= .dict #[]}]at e
 refine zl2 (fun y d q=>?_) x c e
 obtain⟨v,hv⟩:=hc y d q
 exact⟨v,hv.keeps fun b o e=>Heap.get?_push_of_some _ e⟩
noncomputable def clC (scope:Scope)(env:Env)(C:Addr):List (Str×Addr):=cellsFrom (C+1) scope.names (clOf scope env)
noncomputable def ownC (scope:Scope)(x:Str):Bool:=match scope.names.lookup x with
 |some .cell=>true
 |_=>false
noncomputable def cxC (X:Cx)(N:List Str)(scope:Scope)(C:Addr)(s:Shared)(H:Hp)(fp:List Addr):Cx:=
 {X with N:=N,s₀:=s,H₀:=H,env:=compEnvC scope (clC scope X.env C) C X.env,outer:=X.stack,ex:=fp,fn:=ownC scope,pn:=[],xe:=fun _ _=>False}
structure BlkOk (X:Cx) (scope:Scope):Prop where
 kind:scope.kind= .function
 uniq:∀y∈scope.names,scope.names.lookup y.1=some y.2
 free:∀y∈scope.names,y.2= .free->X.env.kindOf y.1=some .cell\/X.env.kindOf y.1=some .free
theorem zcc {α:Type}{v:α}:∀{l:List (Str×α)},l.lookup x=some v->(x,v)∈l
 |[],h=>by simp at h
 |(n,w)::r,h=>by
  rw[List.lookup_cons]at h
  by_cases z:(x==n)=true
  ·rw[z]at h
   have zz:x=n:=by simpa using z
   subst zz
   cases h
   exact List.mem_cons_self
  ·have z':(x==n)=false:=by simpa using z
   rw[z']at h
   exact List.mem_cons_of_mem _ (zcc h)
theorem zdA {env:Env}{x:Str}:∀{names:List (Str×NameKind)},(names.map fun(n,k)=>if(k==NameKind.free&&env.scope.kind== .function&&env.kindOf n==some .cell)then(n,NameKind.cell)else(n,k)).lookup x=
  (names.lookup x).map fun k=>if(k==NameKind.free&&env.scope.kind== .function&&env.kindOf x==some .cell)then NameKind.cell else k
 |[]=>rfl
 |(n,k)::r=>by
  have ih:=zdA (env:=env) (x:=x) (names:=r)
  show List.lookup x ((if(k==NameKind.free&&env.scope.kind== .function&&env.kindOf n==some .cell)=true then(n,NameKind.cell)else(n,k))::_)=_
  cases hx:x==n with
  |true=>
   have zz:x=n:=by simpa using hx
   by_cases hc:(k==NameKind.free&&env.scope.kind== .function&&env.kindOf n==some .cell)=true
   ·rw[if_pos hc]
    simp only[List.lookup_cons,hx,Option.map_some]
    rw[zz,if_pos hc]
   ·rw[if_neg hc]
    simp only[List.lookup_cons,hx,Option.map_some]
    rw[zz,if_neg hc]
  |false=>
   by_cases hc:(k==NameKind.free&&env.scope.kind== .function&&env.kindOf n==some .cell)=true
   ·rw[if_pos hc];simp only[List.lookup_cons,hx];exact ih
   ·rw[if_neg hc];simp only[List.lookup_cons,hx];exact ih
section
variable {X:Cx} {pins:List (Addr×Obj)} {σ:St} {H:Hp} {s:Shared} {scope:Scope} {N:List Str} {fp:List Addr} {C:Addr}
theorem zg4 (I:Inv X pins σ H s)(b:BlkOk X scope):∀y∈scope.names,y.2= .free->∃c,X.env.cells.lookup y.1=some c:=fun y hy hf=>I.ok.has y.1 (b.free y hy hf)
theorem blk_vis (h:(relabel scope X.env).names.lookup x=some .cell\/(relabel scope X.env).names.lookup x=some .free):(x,NameKind.free)∈scope.names\/(x,NameKind.cell)∈scope.names:=by
 have e:(relabel scope X.env).names.lookup x=(scope.names.lookup x).map fun k=>if(k==NameKind.free&&X.env.scope.kind== .function&&X.env.kindOf x==some .cell)then NameKind.cell else k:=zdA
 rw[e]at h
 cases q:scope.names.lookup x with
 |none=>rw[q]at h;simp at h
 |some k=>
  have hm:=zcc q
  by_cases hk:k= .free
  ·subst hk;exact .inl hm
  ·rw[q]at h
   have hkf:(k==NameKind.free)=false:=by simpa using hk
   simp only[Option.map_some,hkf,Bool.false_and,Bool.false_eq_true,if_false,Option.some.injEq]at h
   rcases h with h|h
   ·subst h;exact .inr hm
   ·exact absurd h hk
theorem zcr (I:Inv X pins σ H s)(b:BlkOk X scope)(h:(clOf scope X.env).lookup x=some c):X.env.cells.lookup x=some c:=zdO (zg4 I b) (by simp) h
theorem zhj (I:Inv X pins σ H s)(b:BlkOk X scope)(h:(clC scope X.env C).lookup x=some c):C<c\/X.env.cells.lookup x=some c:=by
 rcases zix h with⟨h1,_⟩|h1
 ·exact .inl h1
 ·exact .inr (zcr I b h1)
theorem zma (b:BlkOk X scope)(h:(x,NameKind.free)∈scope.names):(clC scope X.env C).lookup x=(clOf scope X.env).lookup x:=zmM fun z=>by
 have h1:=b.uniq _ h
 have h2:=b.uniq _ z
 simp only at h1 h2
 rw[h1]at h2
 cases h2
theorem blk_ok (I:Inv X pins σ H s)(b:BlkOk X scope)(hC:s.heap.objs.size<=C)(hf:∀b∈fp,FpOk X pins H b)(hfC:∀b∈fp,b<C):(cxC X N scope C s H fp).Ok where
 mod:=I.ok.mod
 kind:=b.kind
 glob:=I.ok.glob
 blt:=I.ok.blt
 above:=hC
 inj:=znC (fun x c h=>by
  obtain⟨v,hv⟩:=I.cell x c (zcr I b h)
  exact Nat.lt_succ_of_lt (Nat.lt_of_lt_of_le hv.lt hC)) fun x y c h1 h2=>I.ok.inj x y c (zcr I b h1) (zcr I b h2)
 has:=fun x hx=>by
  rcases blk_vis (x:=x) hx with hm|hm
  ·show ∃c,(clC scope X.env C).lookup x=some c
   rw[zma b hm]
   exact Option.isSome_iff_exists.mp (zcz (.inl hm))
  ·obtain⟨c,h,_⟩:=zmc (n:=C+1) (acc:=clOf scope X.env) hm
   exact⟨c,h⟩
 cab:=fun x c h e=>by
  have h':ownC scope x=true:=h
  unfold ownC at h'
  split at h'
  ·rename_i q
   obtain⟨c',h1,h2⟩:=zmc (n:=C+1) (acc:=clOf scope X.env) (zcc q)
   have e':some c'=some c:=h1.symm.trans e
   cases e'
   exact Nat.le_trans hC (Nat.le_of_succ_le h2)
  ·cases h'
 hd:=I.ok.hd
 frames:=I.ok.frames
 stk:= .inl rfl
 exf:=fun a ha=>⟨Nat.ne_of_lt (hfC a ha),fun x c e z=>by
  rcases zhj I b e with q|q
  ·exact Nat.lt_asymm q (z ▸ hfC a ha)
  ·exact(hf a ha).2.2.2.2.1 x c q z⟩
 bs:=I.bs
 bsz:=Nat.le_trans I.ok.bsz I.sz
 noex:=fun a o e ha=>by
  rcases(hf a ha).2.2.2.1 with z|z
  ·exact I.ok.noex a o e z
  ·exact absurd (Nat.lt_of_lt_of_le (Heap.lt_size e) (Nat.le_trans I.ok.bsz z)) (Nat.lt_irrefl _)
 exfs:=fun a ha hs=>by
  rcases List.mem_cons.mp (I.stkSub a hs)with z|z
  ·exact(hf a ha).2.1 z
  ·exact(hf a ha).2.2.1 z
 funs:=I.stack
 frf:=⟨I.stkFree,I.tab⟩
theorem zo2 {tk:Nat}(I:Inv X pins σ H s)(b:BlkOk X scope)(hf:∀b∈fp,FpOk X pins H b)(hfs:∀b∈fp,b<s.heap.objs.size)
  (hns:h'.Ns s.heap.objs.size (fun _=>none)) (hk:∀a o,s.heap.get? a=some o->h'.get? a=some o) (hcl:∀x c,(clC scope X.env s.heap.objs.size).lookup x=some c->∃v,h'.IsCell c v) (hl:σc.length=N.length)
  (hσ:∀(i:Nat) (x:Str) (v:V),N[i]? =some x->σc[i]? =some (some v)->(x,NameKind.free)∈scope.names/\∃j:Nat,X.N[j]? =some x/\σ[j]? =some (some v)) (hloc:∀(i:Nat) (x:Str) (v:V),N[i]? =some x->σc[i]? =some (some v)->¬(relabel scope X.env).names.lookup x=some .local):
  Inv (cxC X N scope s.heap.objs.size s H fp) [] σc H {s with heap:=h',toks:=tk}:=by
 have ok:=blk_ok (N:=N) I b (Nat.le_refl _) hf hfs
 refine⟨ok,rfl,I.bare,Un.kept hk,⟨_,hns,fun i x v h1 h2 h3=>?_⟩,fun x c e=>?_,I.hok.fresh (Nat.le_refl _),fun x c e=>?_,fun p hp=>absurd (show p∈([]:List (Addr×Obj))from hp) (by simp),I.hok.kept hk,hl⟩
 ·obtain⟨hm,j,hj,hv⟩:=hσ i x v h1 h2
  have hkind:=b.free _ hm rfl
  obtain⟨m,hn,hloc'⟩:=I.loc
  have hvis:Vis X.env.scope x:=by
   rcases hkind with z|z
   ·exact .inr (.inl z)
   ·exact .inr (.inr z)
  obtain⟨u,ru,lk⟩:=hloc' j x v hj hv hvis
  refine⟨u,ru,?_⟩
  rcases lk with⟨z,_⟩|⟨_,c,ec,hc⟩
  ·exfalso
   rcases hkind with w|w<;>simp only at w<;>rw[z]at w<;>cases w
  ·refine .inr ⟨?_,c,?_,?_⟩
   ·rcases h3 with z|z|z
    ·exact absurd z (hloc i x v h1 h2)
    ·exact .inl z
    ·exact .inr z
   ·have hs:((clOf scope X.env).lookup x).isSome=true:=zcz (.inl hm)
    obtain⟨c',ec'⟩:=Option.isSome_iff_exists.mp hs
    have:=zdO (zg4 I b) (by simp) ec'
    rw[ec]at this
    cases this
    exact(zma b hm).trans ec'
   ·obtain⟨o,ho,hd⟩:=hc
    exact⟨o,hk _ _ ho,hd⟩
 ·exact hcl x c e
 ·rcases zhj I b e with q|q
  ·exact I.hok.fresh (Nat.le_of_lt q)
  ·exact I.freeC x c q
theorem zon {h':Heap}{s1:Shared}(I:Inv X pins σ H s)(hf:∀b∈fp,FpOk X pins H b)(J:Inv (cxC X N scope s.heap.objs.size s H fp) [] σc H' s1)(hs:Heap.SameBut s.heap.objs.size s1.heap h'):Inv X pins σ H' {s1 with heap:=h'}:=by
 have kp:∀a o,a≠s.heap.objs.size->s1.heap.get? a=some o->h'.get? a=some o:=fun a o ha e=>hs.extBut a o ha e
 have free:H' s.heap.objs.size=none:=J.free
 have ntr:∀a u,H' a=some u->a≠s.heap.objs.size:=fun a u e z=>by rw[z,free]at e;cases e
 have lt:∀a o,s.heap.get? a=some o->a≠s.heap.objs.size:=fun a o e=>Nat.ne_of_lt (Heap.lt_size e)
 have u:Un (frs X.stack) fp H H' s.heap s1.heap:=J.base
 have u':Un (frs X.stack) fp H H' s.heap h':=by
  refine⟨fun a o e n hb hx=>kp a o (lt a o e) (u.keep a o e n hb hx),fun a o e n hb hx=>?_,u.free,fun a o e hx=>?_,u.tups,u.frzs,u.tbls⟩
  ·obtain⟨sl,q⟩:=u.slot a o e n hb hx
   exact⟨sl,kp a _ (lt a o e) q⟩
  ·obtain⟨o',q⟩:=u.there a o e hx
   exact⟨o',kp a _ (lt a o e) q⟩
 have hok:HOk X.prog X.w H' h':=fun a o e=>(J.hok a o e).stay (fun c v hc q=>by
  refine kp c v ?_ q
  rcases hc with rfl|hc
  ·exact ntr _ _ e
  ·exact ntr _ _ hc) (fun _ q=>q) (fun _ _ q=>q) fun _ _ _ q=>q
 obtain⟨hh,g,d,t,os'⟩:=s1
 have os:os'=s.os:=J.os
 subst os
 have z:=I.call (h':=h') (g':=g) (d':=d) (t':=t) (ch:=fp) u' hok J.bare (fun a ha=>⟨(hf a ha).2.2.2.1,(hf a ha).2.1,(hf a ha).2.2.2.2.1,(hf a ha).2.2.2.2.2⟩)
 exact z
end
noncomputable def PTs (X:Cx)(ifs:List Expr)(t:TT):Prop:=∀(pins:List (Addr×Obj)) (s:Shared) (σ:St) (H:Hp) (Q:Bool->Hp->Prop),Inv X pins σ H s->t σ H Q->
 wpAny (model X.prog X.w) X.A (forIn ifs true fun c r=>if r=true then do let ok<-isTrue c X.env (eval c X.env);pure (ForInStep.yield ok)else pure (ForInStep.yield r)) (TP X pins σ Q) X.xe s
theorem pts_nil:PTs X [] (fun _ H Q=>Q true H):=fun pins s σ H Q I h=>wpAny_tests_nil ⟨H,I,h⟩
theorem pts_one {c:Expr}{t:TT}(h:PT X c t):PTs X [c] t:=fun pins s σ H Q I hw=>wpAny_tests_one (h pins s σ H Q I hw)
theorem zlE {R:Result->Shared->Prop}{s:Shared}{elt target iter:Expr}{it acc:Value}(I:Nat->Shared->Prop)
  (turn : ∀ n s, I n s -> wpAny (model prog w) A (pyNext it) (fun r s₁ => match r with
   |none=>R (.ok .next) s₁
   | some v => wpAny (model prog w) A (letOwnedTupleGo target it v) (fun _ s₁' => wpAny (model prog w) A (assign target env v) (fun _ s₂ =>
     wpAny (model prog w) A (forIn ifs true fun c r=>if r=true then do let ok<-isTrue c env (eval c env);pure (ForInStep.yield ok)else pure (ForInStep.yield r)) (fun ok s₃=>
      if ok=true then wpAny (model prog w) A (eval elt env) (fun x s₄=>
       wpAny (model prog w) A (call (.builtin "list.append") [acc,x]) (fun _ s₅=>∃m,m<n/\I m s₅) (fun _ _=>False) s₄) (fun _ _=>False) s₃
      else ∃m,m<n/\I m s₃) (fun _ _=>False) s₂) (fun _ _=>False) s₁') (fun _ _=>False) s₁) (fun _ _=>False) s)
  (n:Nat) (h:I n s):codeAny (model prog w) A (.compLoop (.ListComp elt [⟨target,iter,ifs,0⟩] scope pos) 0 it acc env) R s:=by
 refine codeAny_loop rfl I (fun n s hI=>?_) n h
 show wpAny _ A ((compTurn (.ListComp elt [⟨target,iter,ifs,0⟩] scope pos) 0 it acc env).onRaise (fun x=>do noteFrame x env;theTreesLotGoes x)) _ _ s
 refine wpAny_noted ?_
 rw[compTurn_list]
 have no:∀{E:Value->Shared->Prop},∀x s',(fun(_:Value) (_:Shared)=>False) x s'->E x s':=fun _ _ z=>z.elim
 refine wpAny_bind (wpAny_standAt (wpAny_bind (wpAny_mono (turn n s hI) (fun r s₁ h₁=>?_) no)))
 cases r with
 |none=>exact wpAny_pure h₁
 |some v=>
  refine wpAny_bind (wpAny_mono h₁ (fun _ s₁' h₁'=>?_) no)
  refine wpAny_bind (wpAny_mono h₁' (fun _ s₂ h₂=>wpAny_bind (wpAny_mono h₂ (fun ok s₃ h₃=>?_) no)) no)
  cases ok with
  |false=>exact wpAny_pure ⟨rfl,h₃⟩
  |true=>
   exact wpAny_bind (wpAny_bind (wpAny_mono h₃ (fun x s₄ h₄=>wpAny_bind (wpAny_mono h₄ (fun _ s₅ h₅=>wpAny_pure (wpAny_pure ⟨rfl,h₅⟩)) no)) no))
noncomputable def tLC (σ0:St->St)(wi:TI)(g:Addr->Shared->Hp->List Addr->TG)(tt:Addr->Shared->Hp->List Addr->TT)(te:Addr->Shared->Hp->List Addr->TE):TE:=fun σ H Q=>wi σ H fun J H1=>∀D,H1 D=none->∃W:Nat->Nat->St->Hp->Prop,(∃m,W 0 m (σ0 σ) (upd H1 D (.lst [])))/\∀i m σ H,W i m σ H->
 (J.stop i H /\ Q (.ref D) H) \/ (J.go i H /\ ∀ C s₀ H₀ fp x H', J.yld i H x H' -> g C s₀ H₀ fp x σ H' fun σ2 H2 => tt C s₀ H₀ fp σ2 H2 fun ok H3 => if ok = true then te C s₀ H₀ fp σ2 H3 fun v H4 => ∃ xs, H4 D = some (.lst xs) /\ xs.length < sizeLine /\ ∃ m', m' < m /\ W (i + 1) m' σ2 (upd H4 D (.lst (xs ++ [v])))
  else ∃m',m'<m/\W (i+1) m' σ2 H3)
section
variable {X:Cx} {elt iter tg:Expr} {ifs:List Expr} {scope:Scope} {pos:Pos} {N:List Str} {σ0:St->St} {wi:TI} {g:Addr->Shared->Hp->List Addr->TG} {tt:Addr->Shared->Hp->List Addr->TT} {te:Addr->Shared->Hp->List Addr->TE}
structure Cap (X:Cx) (scope:Scope) (N:List Str) (σ0:St->St):Prop where
 len:∀σ,(σ0 σ).length=N.length
 src:∀(σ:St) (i:Nat) (x:Str) (v:V),N[i]? =some x->(σ0 σ)[i]? =some (some v)->(x,NameKind.free)∈scope.names/\∃j:Nat,X.N[j]? =some x/\σ[j]? =some (some v)
 loc:∀(σ:St) (i:Nat) (x:Str) (v:V),N[i]? =some x->(σ0 σ)[i]? =some (some v)->¬(relabel scope X.env).names.lookup x=some .local
theorem zpE {E:Value->Shared->Prop}(hc:X.calm=true)(b:BlkOk X scope)(cap:Cap X scope N σ0)(hi:PI X tg iter wi)(hg:∀C s H fp,PG (cxC X N scope C s H fp) tg (g C s H fp))(ht:∀C s H fp,PTs (cxC X N scope C s H fp) ifs (tt C s H fp))(he:∀C s H fp,PE (cxC X N scope C s H fp) elt (te C s H fp))
  {pins:List (Addr×Obj)} {s:Shared} {σ:St} {H:Hp} {Q:VK} (I:Inv X pins σ H s) (h:tLC σ0 wi g tt te σ H Q) {QQ:Value->Shared->Prop} {p0:Pos}
  (hs:∀x,foldedSetIterable iter X.env x=pure x)
  (fin : match use with
   |none=>∀u s',EP X pins σ Q u s'->QQ u s'
   |some f=>∀(D:Addr) (fp:List Addr) (C:Addr) (H1 H':Hp) (σc:St) (s1 s':Shared),Inv X pins σ H1 s1->(∀b∈fp,FpOk X pins H1 b)->C=s1.heap.objs.size->Inv (cxC X N scope C s1 H1 fp) [] σc H' s'->Q (.ref D) H'->
     wpAny (model X.prog X.w) X.A (f (.ref D)) (fun _ s''=>∃m,s''.heap.Ns C m/\∀h',Heap.SameBut C s''.heap h'->QQ .none {s'' with heap:=h'}) X.xe s'):
  wpAny (model X.prog X.w) X.A (comprehension (.ListComp elt [⟨tg,iter,ifs,0⟩] scope pos) scope X.env p0 (newList []) false (eval iter X.env) use) QQ X.xe s:=by
 refine wpAny_comprehension_free (cl:=clOf scope X.env) (g:=⟨tg,iter,ifs,0⟩) (gs:=[]) rfl hs (zi6 (zg4 I b)) b.kind (fun x hx hl=>hl ▸ b.uniq x hx) ?_
 refine thn (hi pins s σ H _ I h) fun v s1 h1=>thn h1 fun itv s2 h2=>?_
 obtain⟨it,fp,tn,J,H2,e,I2,T,st2,f2,h3⟩:=h2
 subst e
 refine wpAny_newObj_type ?_ (by show(0:Nat)<=sizeLine;exact Nat.zero_le _)
 have hD:H2 s2.heap.objs.size=none:=I2.fresh
 obtain⟨W,⟨m0,w0⟩,turn⟩:=h3 _ hD
 have I3:Inv X pins σ (upd H2 s2.heap.objs.size (.lst [])) {s2 with heap:=s2.heap.push {cls:= .type "list",data:= .seq ([]:List Value).toArray}}:=I2.lnew (t':=s2.toks) .nil (Nat.zero_le _)
 have f3:∀b∈fp,FpOk X pins (upd H2 s2.heap.objs.size (.lst [])) b:=fun b hb=>by
  obtain⟨a1,a2⟩:=f2 b hb
  obtain⟨o,ho,_⟩:=T.obj _ _ st2 b hb
  exact⟨by rw[zap (Nat.ne_of_lt (Heap.lt_size ho))];exact a1,a2⟩
 have st3:tn 0 (s2.heap.push {cls:= .type "list",data:= .seq ([]:List Value).toArray}):=T.keep _ _ _ st2 fun b hb o e=>Heap.get?_push_of_some _ e
 generalize hs3:({s2 with heap:=s2.heap.push {cls:= .type "list",data:= .seq ([]:List Value).toArray}}:Shared)=s3 at I3
 have hs3':s3.heap=s2.heap.push {cls:= .type "list",data:= .seq ([]:List Value).toArray}:=by rw[<-hs3]
 rw[<-hs3']at st3
 have hfs:∀b∈fp,b<s3.heap.objs.size:=fun b hb=>by
  obtain⟨o,ho,_⟩:=T.obj _ _ st3 b hb
  exact Heap.lt_size ho
 show wpAny _ _ (newFunctionEnv scope X.env.globals (clOf scope X.env) [] X.env.qual none .none (some X.env)) _ _ s3
 refine zlv fun h' hns hk hcl=>?_
 have hcl:=hcl fun x c e=>I3.cell x c (zcr I3 b e)
 generalize hDD:s2.heap.objs.size=DD at*
 have B0:Inv (cxC X N scope s3.heap.objs.size s3 (upd H2 DD (.lst [])) fp) [] (σ0 σ) (upd H2 DD (.lst [])) {s3 with heap:=h'}:=
  zo2 (tk:=s3.toks) I3 b f3 hfs hns hk hcl (cap.len σ) (cap.src σ) (cap.loc σ)
 have stat:∀{H':Hp},(∀b∈fp,H' b=none)->∀b∈fp,FpOk (cxC X N scope s3.heap.objs.size s3 (upd H2 DD (.lst [])) fp) [] H' b:=fun hn b' hb=>by
  refine⟨hn b' hb,Nat.ne_of_lt (hfs b' hb),fun z=>?_,.inl hb,fun x c e=>?_,fun p hp=>absurd (show p∈([]:List (Addr×Obj))from hp) (by simp)⟩
  ·rcases List.mem_cons.mp (I3.stkSub b' z)with w|w
   ·exact(f3 b' hb).2.1 w
   ·exact(f3 b' hb).2.2.1 w
  ·intro z
   rcases zhj I3 b e with q|q
   ·exact Nat.lt_asymm q (z ▸ hfs b' hb)
   ·exact(f3 b' hb).2.2.2.2.1 x c q z
 have tn0:tn 0 h':=T.keep _ _ _ st3 fun b' hb o e=>hk b' o e
 have post:∀(s':Shared) (σc:St) (H':Hp),Inv (cxC X N scope s3.heap.objs.size s3 (upd H2 DD (.lst [])) fp) [] σc H' s'->Q (.ref DD) H'->compPost (model X.prog X.w) X.A X.xe use QQ (.ref DD) s3.heap.objs.size (.ok .next) s':=fun s' σc H' J' q=>by
  cases use with
  |none=>
   obtain⟨m,hn,_⟩:=J'.loc
   exact⟨m,hn,fun h'' hs''=>fin _ _ ⟨.ref DD,H',zon I3 f3 J' hs'',rfl,q⟩⟩
  |some f=>exact fin DD fp _ _ H' σc s3 s' I3 f3 rfl J' q
 have loop:codeAny (model X.prog X.w) X.A (.compLoop (.ListComp elt [⟨tg,iter,ifs,0⟩] scope pos) 0 (.ref it) (.ref DD) (compEnvC scope (clC scope X.env s3.heap.objs.size) s3.heap.objs.size X.env)) (compPost (model X.prog X.w) X.A X.xe use QQ (.ref DD) s3.heap.objs.size) {s3 with heap:=h'}:=by
  refine zlE (fun n s'=>∃i σ' H',Inv (cxC X N scope s3.heap.objs.size s3 (upd H2 DD (.lst [])) fp) [] σ' H' s'/\tn i s'.heap/\(∀b∈fp,H' b=none)/\W i n σ' H') ?_ m0 ⟨0,σ0 σ,_,B0,tn0,fun b' hb=>(f3 b' hb).1,w0⟩
  rintro n s5 ⟨i,σ5,H5,I5,st5,fr5,w5⟩
  rcases turn i n σ5 H5 w5 with⟨stop,qn⟩|⟨go,step⟩
  ·refine thn (T.done (cxC X N scope s3.heap.objs.size s3 (upd H2 DD (.lst [])) fp) rfl rfl rfl hc i [] s5 σ5 H5 (fun _ _=>False) I5 (stat fr5) st5 stop) fun r s6 ⟨hr,I6⟩=>?_
   subst hr
   exact post s6 σ5 H5 I6 qn
  ·refine thn (T.item (cxC X N scope s3.heap.objs.size s3 (upd H2 DD (.lst [])) fp) rfl rfl rfl hc i [] s5 σ5 H5 (fun _ _=>False) I5 (stat fr5) st5 go) fun r s6 ⟨u,hr,h6⟩=>?_
   subst hr
   refine thn h6 fun _ s7 ⟨x,H7,I7,r7,y7,st7,fr7⟩=>?_
   have I7':=I7.pinned (stat fr7) (T.obj _ _ st7)
   have again:∀{σ8:St} {H8:Hp} {s8:Shared} {m':Nat},Inv (cxC X N scope s3.heap.objs.size s3 (upd H2 DD (.lst [])) fp) ([]++zku fp s7.heap) σ8 H8 s8->m'<n->W (i+1) m' σ8 H8->
     ∃m,m<n/\∃i σ' H',Inv (cxC X N scope s3.heap.objs.size s3 (upd H2 DD (.lst [])) fp) [] σ' H' s8/\tn i s8.heap/\(∀b∈fp,H' b=none)/\W i m σ' H':=fun{σ8 H8 s8 m'} I8 hm w8=>by
    refine⟨m',hm,i+1,σ8,H8,I8.unpinned,T.keep _ _ _ st7 fun b' hb o e=>(I8.pin (b',o) (List.mem_append_right _ (List.mem_append_right _ (zf2 hb e)))).1,fun b' hb=>?_,w8⟩
    obtain⟨o,e,d⟩:=T.obj _ _ st7 b' hb
    exact(I8.pin (b',o) (List.mem_append_right _ (List.mem_append_right _ (zf2 hb e)))).2.1
   refine thn (hg _ _ _ _ _ s7 σ5 H7 x u _ I7' r7 (step _ _ _ _ x H7 y7)) fun _ s8 ⟨σ8,H8,I8,q8⟩=>?_
   refine thn (ht _ _ _ _ _ s8 σ8 H8 _ I8 q8) fun ok s9 ⟨H9,I9,q9⟩=>?_
   cases ok with
   |false=>
    obtain⟨m',hm,w9⟩:=q9
    exact again I9 hm w9
   |true=>
    refine thn (he _ _ _ _ _ s9 σ8 H9 _ I9 q9) fun u10 s10 ⟨v10,H10,I10,r10,xs,hx,hz,m',hm,w10⟩=>?_
    refine thn (zic _ s10 σ8 H10 (.ref DD) [v10] (.ref DD) [u10] (fun v H'=>v= .non/\H'=upd H10 DD (.lst (xs++[v10]))) I10 rfl (.cons r10 .nil) ⟨DD,xs,v10,rfl,rfl,hx,hz,rfl,rfl⟩) fun _ s11 ⟨_,H11,I11,_,_,e11⟩=>?_
    subst e11
    exact again I11 hm w10
 exact codeAny_compStart_list loop (T.self _ _ _ _ _ tn0 loop)
theorem pe_lc (hc:X.calm=true)(b:BlkOk X scope)(cap:Cap X scope N σ0)(hi:PI X tg iter wi)(hg:∀C s H fp,PG (cxC X N scope C s H fp) tg (g C s H fp))(ht:∀C s H fp,PTs (cxC X N scope C s H fp) ifs (tt C s H fp))(he:∀C s H fp,PE (cxC X N scope C s H fp) elt (te C s H fp))
    (hs:autoParam (∀x,foldedSetIterable iter X.env x=pure x) zu8._auto_1):PE X (.ListComp elt [⟨tg,iter,ifs,0⟩] scope pos) (tLC σ0 wi g tt te):=by
  intro pins s σ H Q I h
  rw[eval_ListComp]
  exact zpE (use:=none) (E:=X.xe) hc b cap hi hg ht he I h hs (fun u s' q=>q)
end
noncomputable def zdD (ρ:R):Bool:=ρ.all fun s=>match s with
 | .own _=>false
 | .par _=>false
 | .tre _=>false
 | .ptr _=>false
 |_=>true
theorem zmm (h:zdD ρ=true){a:Addr}(e:ρ[i]? =some s):¬OwS K G H ov a s:=fun w=>by
 unfold zdD at h
 rw[List.all_eq_true]at h
 have:=h s (List.mem_of_getElem? e)
 cases s with
 |emp=>exact w
 |two _ _=>exact w
 |val d=>exact w
 |_=>exact absurd (show false=true from this) Bool.false_ne_true
theorem zh3 (h:zdD ρ=true)(e:ρ[i]? =some s):(∀t,s≠ .tre t)/\∀t,s≠ .ptr t:=by
 unfold zdD at h
 rw[List.all_eq_true]at h
 have:=h s (List.mem_of_getElem? e)
 constructor
 ·rintro t rfl;exact absurd (show false=true from this) Bool.false_ne_true
 ·rintro t rfl;exact absurd (show false=true from this) Bool.false_ne_true
theorem zhX (h:zdD ρ=true):¬Wr ρ i:=fun⟨s,ds,e,q⟩=>by
 unfold zdD at h
 rw[List.all_eq_true]at h
 have:=h s (List.mem_of_getElem? e)
 cases s with
 |emp=>cases q
 |two _ _=>cases q
 |tre _=>cases q
 |ptr _=>cases q
 |val d=>cases q
 |own d=>exact absurd (show false=true from this) Bool.false_ne_true
 |par d=>exact absurd (show false=true from this) Bool.false_ne_true
structure VS (K:W.Frag) (G:Hp) (σ:St) (ρ:R):Prop where
 len:σ.length=ρ.length
 no:zdD ρ=true
 val:∀(i:Nat) d,ρ[i]? =some (.val d)->∃v,σ[i]? =some (some v)/\RepD K G v d
theorem VS.si (h:VS K G σ ρ)(fz:Fz G H):SI K ⟨G,H,[]⟩ G H σ ρ where
 fz:=fz
 g0:=Fz.refl G
 new:=fun b o e=> .inl (by show G b≠none;rw[e];simp)
 keep:=fun b o e _=>e
 there:=fun b e=>e
 ob:=fun i b m=>by cases m
 len:=h.len
 slot:=fun i s e=>by
  cases s with
  |emp=>trivial
  |two _ _=>trivial
  |tre t=>exact absurd rfl ((zh3 h.no e).1 t)
  |ptr t=>exact absurd rfl ((zh3 h.no e).2 t)
  |val d=>exact h.val i d e
  |own ds=>exact absurd ⟨_,ds,e,rfl⟩ (zhX h.no (i:=i))
  |par ds=>exact absurd ⟨_,ds,e,rfl⟩ (zhX h.no (i:=i))
 dis:=fun i j s _ a _ e _ w=>absurd w (zmm h.no e)
theorem VS.of (I:SI K B G H σ ρ)(h:zdD ρ=true):VS K G σ ρ:=⟨I.len,h,fun i d e=>I.slot i _ e⟩
noncomputable def fz1 (i:Nat)(ρ:R):R:=match ρ[i]? with
 |some (.own ds)=>ρ.set i (.val (.lst ds))
 |_=>ρ
noncomputable def fzL:List Nat->R->R
 |[],ρ=>ρ
 |i::is,ρ=>fzL is (fz1 i ρ)
theorem SI.fz1 (I:SI K B G H σ ρ)(i:Nat):∃G',SI K B G' H σ (M.fz1 i ρ)/\Fz G G':=by
 unfold M.fz1
 cases e:ρ[i]? with
 |none=>exact⟨G,I,Fz.refl G⟩
 |some s=>
  cases s with
  |own ds=>obtain⟨l,xs,_,f,_,I'⟩:=I.freeze e;exact⟨_,I',f⟩
  |emp=>exact⟨G,I,Fz.refl G⟩
  |two _ _=>exact⟨G,I,Fz.refl G⟩
  |tre _=>exact⟨G,I,Fz.refl G⟩
  |ptr _=>exact⟨G,I,Fz.refl G⟩
  |val _=>exact⟨G,I,Fz.refl G⟩
  |par _=>exact⟨G,I,Fz.refl G⟩
theorem SI.fzL:∀(is:List Nat) {G:Hp} {ρ:R},SI K B G H σ ρ->∃G',SI K B G' H σ (M.fzL is ρ)/\Fz G G'
 |[],G,ρ,I=>⟨G,I,Fz.refl G⟩
 |i::is,G,ρ,I=>by
  obtain⟨G1,I1,f1⟩:=I.fz1 i
  obtain⟨G2,I2,f2⟩:=SI.fzL is I1
  exact⟨G2,I2,f1.trans f2⟩
noncomputable def capS (ρ:R)(i:Nat):Sl:=match ρ[i]? with
 |some (.val d)=> .val d
 |_=> .emp
theorem znk (ρ:R)(i:Nat):capS ρ i= .emp\/∃d,capS ρ i= .val d:=by
 unfold capS
 split
 ·exact .inr ⟨_,rfl⟩
 ·exact .inl rfl
noncomputable def capR (cap:List Nat)(t:Nat)(ρ:R):R:=cap.map (capS ρ)++List.replicate t .emp
noncomputable def capσ (cap:List Nat)(t:Nat)(σ:St):St:=cap.map (fun i=>(σ[i]?).join)++List.replicate t none
theorem cap_vs (I:SI K B G H σ ρ)(cap:List Nat)(t:Nat):VS K G (capσ cap t σ) (capR cap t ρ) where
 len:=by unfold capσ capR;simp
 no:=by
  unfold zdD capR
  rw[List.all_eq_true]
  intro s hs
  rcases List.mem_append.mp hs with h|h
  ·obtain⟨i,_,rfl⟩:=List.mem_map.mp h
   rcases znk ρ i with e|⟨d,e⟩
   ·rw[e]
   ·rw[e]
  ·rw[List.eq_of_mem_replicate h]
 val:=fun i d e=>by
  unfold capR at e
  by_cases hi:i<cap.length
  ·rw[List.getElem?_append_left (by simpa using hi),List.getElem?_map,List.getElem?_eq_getElem hi]at e
   have e':capS ρ cap[i]= .val d:=by simpa using e
   unfold capS at e'
   split at e'
   ·rename_i d' q
    cases e'
    obtain⟨v,h1,h2⟩:=I.slot _ _ q
    refine⟨v,?_,h2⟩
    unfold capσ
    rw[List.getElem?_append_left (by simpa using hi),List.getElem?_map,List.getElem?_eq_getElem hi]
    simp[h1]
   ·cases e'
  ·rw[List.getElem?_append_right (by simpa using hi),List.getElem?_replicate]at e
   split at e
   ·cases e
   ·cases e
noncomputable def zeq (f:D->R->Option (Option D×R)):List D->R->Option (List D×R)
 |[],ρ=>some ([],ρ)
 |d::ds,ρ=>(f d ρ).bind fun p=>(zeq f ds p.2).map fun q=>(p.1.toList++q.1,q.2)
noncomputable def zlA (g:D->R->Option R)(mt:MT)(me:ME):D->R->Option (Option D×R):=fun d ρ=>(g d ρ).bind fun ρ1=>(mt ρ1).bind fun p=>if p.1 then(me p.2).bind fun q=>if zdD q.2 then some (some q.1,q.2)else none else if zdD p.2 then some (none,p.2)else none
noncomputable def oLC (cap:List Nat)(t:Nat)(mi:MA)(g:D->R->Option R)(mt:MT)(me:ME):MO:=fun ρ=>(mi ρ).bind fun p=>if p.1.length<=16777216 then(zeq (zlA g mt me) p.1 (capR cap t (fzL cap p.2))).map fun q=>(q.1,fzL cap p.2)else none
noncomputable def STs (X:Cx)(ifs:List Expr)(m:MT):Prop:=
 ∃t,PTs X ifs t/\∀B G H σ ρ d ρ' (Q:Bool->Hp->Prop),SI X.K B G H σ ρ->m ρ=some (d,ρ')->(∀G' H',SI X.K B G' H' σ ρ'->Fz G G'->Q d H')->t σ H Q
noncomputable def zbd:MT:=fun ρ=>some (true,ρ)
theorem zay:STs X [] zbd:=⟨_,pts_nil,fun B G H σ ρ d ρ' Q I hm k=>by cases hm;exact k G H I (Fz.refl G)⟩
theorem ziq {c:Expr}(h:STt X c m):STs X [c] m:=let⟨t,p,s⟩:=h;⟨t,pts_one p,s⟩
noncomputable def blkB (env:Env)(scope:Scope):Bool:=(scope.names.all fun x=>scope.names.lookup x.1==some x.2&&(x.2 != .free||(env.kindOf x.1==some .cell||env.kindOf x.1==some .free)))
theorem zkP (hk:scope.kind= .function)(h:blkB X.env scope=true):BlkOk X scope:=by
 unfold blkB at h
 rw[List.all_eq_true]at h
 refine⟨hk,fun x hx=>?_,fun x hx hf=>?_⟩
 ·have:=h x hx
  simp only[Bool.and_eq_true,Bool.or_eq_true,bne_iff_ne,beq_iff_eq]at this
  exact this.1
 ·have:=h x hx
  simp only[Bool.and_eq_true,Bool.or_eq_true,bne_iff_ne,beq_iff_eq]at this
  exact(this.2).resolve_left (fun z=>z hf)
noncomputable def capB (names:List (Str×NameKind))(N XN:List Str)(cap:List Nat)(t:Nat):Bool:=N.length==cap.length+t&&(cap.zip N).all fun p=>XN[p.1]? ==some p.2&&names.lookup p.2==some .free
theorem zmE (h:capB scope.names N X.N cap t=true):Cap X scope N (capσ cap t):=by
 unfold capB at h
 rw[Bool.and_eq_true,List.all_eq_true]at h
 obtain⟨hl,h⟩:=h
 have hl:N.length=cap.length+t:=by simpa using hl
 have key:∀(σ:St) (i:Nat) (x:Str) (v:V),N[i]? =some x->(capσ cap t σ)[i]? =some (some v)->∃j,cap[i]? =some j/\σ[j]? =some (some v)/\X.N[j]? =some x/\scope.names.lookup x=some .free:=fun σ i x v h1 h2=>by
  unfold capσ at h2
  by_cases hi:i<cap.length
  ·rw[List.getElem?_append_left (by simpa using hi),List.getElem?_map,List.getElem?_eq_getElem hi]at h2
   have h3:(σ[cap[i]]?).join=some v:=by simpa using h2
   have hz:(cap[i],x)∈cap.zip N:=by
    refine List.mem_of_getElem? (i:=i) ?_
    rw[List.getElem?_zip_eq_some]
    exact⟨List.getElem?_eq_getElem hi,h1⟩
   have:=h _ hz
   simp only[Bool.and_eq_true,beq_iff_eq]at this
   refine⟨cap[i],List.getElem?_eq_getElem hi,?_,this.1,this.2⟩
   cases q:σ[cap[i]]? with
   |none=>rw[q]at h3;cases h3
   |some o=>rw[q]at h3;rw[show o=some v from h3]
  ·rw[List.getElem?_append_right (by simpa using hi),List.getElem?_replicate]at h2
   split at h2<;>cases h2
 refine⟨fun σ=>by unfold capσ;simp[hl],fun σ i x v h1 h2=>?_,fun σ i x v h1 h2 z=>?_⟩
 ·obtain⟨j,_,a,b,c⟩:=key σ i x v h1 h2
  exact⟨zcc c,j,b,a⟩
 ·obtain⟨j,_,a,b,c⟩:=key σ i x v h1 h2
  have e:(relabel scope X.env).names.lookup x=(scope.names.lookup x).map fun k=>if(k==NameKind.free&&X.env.scope.kind== .function&&X.env.kindOf x==some .cell)then NameKind.cell else k:=zdA
  rw[e,c]at z
  simp only[Option.map_some,Option.some.injEq]at z
  split at z<;>cases z
structure LcV (K:W.Frag) (g:D->R->Option R) (mt:MT) (me:ME) (items all:List D) (G2 H1:Hp) (DD:Addr) (i:Nat) (σc:St) (Hc Gc:Hp) (ρc:R) (acc:List D) (xs:List V) (rest:List D) (ρe:R):Prop where
 fc:Fz G2 Gc
 fcH:Fz Gc Hc
 nw:∀b o,Gc b=some o->G2 b≠none\/H1 b=none
 kp:∀b o,H1 b=some o->Hc b=some o
 gD:Gc DD=none
 hDc:Hc DD=some (.lst xs)
 ra:RepL K Gc xs acc
 hx:xs.length<=i
 vs:VS K Gc σc ρc
 ec:zeq (zlA g mt me) (items.drop i) ρc=some (rest,ρe)
 eall:all=acc++rest
section
variable {X:Cx} {elt iter tg:Expr} {ifs:List Expr} {scope:Scope} {pos:Pos} {N:List Str} {cap:List Nat} {t:Nat} {mi:MA} {g:D->R->Option R} {mt:MT} {me:ME}
theorem zjU
  (si:∀B G H σ ρ ds ρ' (Q:It->Hp->Prop),SI X.K B G H σ ρ->mi ρ=some (ds,ρ')->(∀J G' H',SI X.K B G' H' σ ρ'->Fz G G'->Itm X.K J G' ds->Q J H')->wi σ H Q)
  (sg:∀C s H₀ fp B G H σ ρ v d ρ' (Q:St->Hp->Prop),SI X.K B G H σ ρ->RepD X.K G v d->g d ρ=some ρ'->(∀G' H' σ',SI X.K B G' H' σ' ρ'->Fz G G'->Q σ' H')->tg' C s H₀ fp v σ H Q)
  (st:∀C s H₀ fp B G H σ ρ d ρ' (Q:Bool->Hp->Prop),SI X.K B G H σ ρ->mt ρ=some (d,ρ')->(∀G' H',SI X.K B G' H' σ ρ'->Fz G G'->Q d H')->tt C s H₀ fp σ H Q)
  (se:∀C s H₀ fp B G H σ ρ d ρ' (Q:VK),SI X.K B G H σ ρ->me ρ=some (d,ρ')->(∀G' H' v,SI X.K B G' H' σ ρ'->Fz G G'->RepD X.K G' v d->Q v H')->te C s H₀ fp σ H Q):
  ∀B G H σ ρ ds ρ' (Q:VK),SI X.K B G H σ ρ->oLC cap t mi g mt me ρ=some (ds,ρ')->
   (∀G' H' l xs,SI X.K B G' H' σ ρ'->Fz G G'->G' l=none->H' l=some (.lst xs)->RepL X.K G' xs ds->B.H l=none->Nw X.K G' H' σ ρ' l->Q (.ref l) H')->tLC (capσ cap t) wi tg' tt te σ H Q:=by
 intro B G H σ ρ ds ρ' Q I hm k
 obtain⟨⟨items,ρ1⟩,e1,hm⟩:=zag hm
 refine si B G H σ ρ items ρ1 _ I e1 fun J G1 H1 I1 f1 IT DD hD=>?_
 dsimp only at hm
 split at hm
 ·rename_i hlen
  obtain⟨⟨all,ρf⟩,e2,e3⟩:=zav hm
  obtain⟨rfl,rfl⟩:=Prod.mk.inj e3
  obtain⟨G2,I2,f2⟩:=SI.fzL cap I1
  have hDG:G2 DD=none:=I2.fz.free hD
  refine⟨fun i m σc Hc=>m=items.length-i/\i<=items.length/\∃Gc ρc acc xs rest ρe,LcV X.K g mt me items all G2 H1 DD i σc Hc Gc ρc acc xs rest ρe,
   ⟨items.length,by simp,Nat.zero_le _,G2,capR cap t (M.fzL cap ρ1),[],[],all,ρf,{fc:=Fz.refl _,fcH:=I2.fz.right hDG _,nw:=fun b o e=> .inl (by rw[e];simp),kp:=fun b o e=>by rw[zap (zax e hD)];exact e,gD:=hDG,hDc:=zas,ra:= .nil,hx:=Nat.le_refl _,vs:=cap_vs I2 cap t,ec:=by simpa using e2,eall:=rfl}⟩,?_⟩
  rintro i m σc Hc ⟨rfl,hi,Gc,ρc,acc,xs,rest,ρe,J0⟩
  obtain⟨fc,fcH,nw,kp,gD,hDc,ra,hx,vs,ec,eall⟩:=J0
  by_cases hlt:i<items.length
  ·refine .inr ⟨IT.go Hc i (f2.trans (fc.trans fcH)) hlt,fun C s₀ H₀ fp x H' y=>?_⟩
   rw[List.drop_eq_getElem_cons hlt]at ec
   simp only[zeq]at ec
   obtain⟨⟨o,ρ3⟩,h3,ec⟩:=zag ec
   obtain⟨⟨rest2,ρ4⟩,h4,ec⟩:=zav ec
   obtain⟨rfl,rfl⟩:=Prod.mk.inj ec
   dsimp only at h4
   unfold zlA at h3
   obtain⟨ρ5,h5,h3⟩:=zag h3
   obtain⟨⟨ok,ρ6⟩,h6,h3⟩:=zag h3
   dsimp only at h3
   have Ic:SI X.K ⟨Gc,Hc,[]⟩ Gc Hc σc ρc:=vs.si fcH
   have fz2:Fz G1 Hc:=f2.trans (fc.trans fcH)
   have yy:=IT.yld Hc i x H' fz2 y items[i] (List.getElem?_eq_getElem hlt)
   have yy2:(H'=Hc/\RepD X.K Gc x items[i])\/∃p xs es,Hc p=none/\H'=upd Hc p (.tup xs)/\x= .ref p/\items[i]= .tup es/\RepL X.K Gc xs es:=by
    rcases yy with⟨a,b⟩|⟨p,xs,es,a,b,c,d,e⟩
    ·exact .inl ⟨a,b.mono (f2.trans fc)⟩
    ·exact .inr ⟨p,xs,es,a,b,c,d,e.mono (f2.trans fc)⟩
   obtain⟨G3,I3,f3,r3⟩:=Ic.yld yy2
   refine sg C s₀ H₀ fp _ G3 H' σc ρc x items[i] ρ5 _ I3 r3 h5 fun G4 H4 σ4 I4 f4=>st C s₀ H₀ fp _ G4 H4 σ4 ρ5 ok ρ6 _ I4 h6 fun G5 H5 I5 f5=>?_
   have facts:∀(G' H':Hp) (σ':St) (ρ':R),SI X.K ⟨Gc,Hc,[]⟩ G' H' σ' ρ'->(∀b o,G' b=some o->G2 b≠none\/H1 b=none)/\(∀b o,H1 b=some o->H' b=some o)/\G' DD=none/\H' DD=some (.lst xs):=fun G' H' σ' ρ' I'=>by
    refine⟨fun b o e=>?_,fun b o e=>I'.keep b o (kp b o e) (by simp),?_,I'.keep DD _ hDc (by simp)⟩
    ·rcases I'.new b o e with h|h
     ·have h:Gc b≠none:=h
      cases q:Gc b with
      |none=>exact absurd q h
      |some u=>exact nw b u q
     ·refine .inr ?_
      cases q:H1 b with
      |none=>rfl
      |some u=>have:=kp b u q;rw[show Hc b=none from h]at this;cases this
    ·cases q:G' DD with
     |none=>rfl
     |some u=>
      rcases I'.new DD u q with h|h
      ·exact absurd gD h
      ·rw[show Hc DD=none from h]at hDc;cases hDc
   cases ok with
   |false=>
    simp only[Bool.false_eq_true,if_false]at h3
    split at h3
    ·rename_i hno
     cases h3
     obtain⟨a1,a2,a3,a4⟩:=facts G5 H5 σ4 _ I5
     exact⟨items.length-(i+1),by lia,rfl,hlt,G5,_,acc,xs,rest2,ρ4,{fc:=fc.trans (f3.trans (f4.trans f5)),fcH:=I5.fz,nw:=a1,kp:=a2,gD:=a3,hDc:=a4,ra:=ra.mono (f3.trans (f4.trans f5)),hx:=by lia,vs:=VS.of I5 hno,ec:=h4,eall:=by simpa using eall}⟩
    ·cases h3
   |true=>
    simp only[if_true]at h3 ⊢
    obtain⟨⟨dv,ρ7⟩,h7,h3⟩:=zag h3
    dsimp only at h3
    split at h3
    ·rename_i hno
     cases h3
     refine se C s₀ H₀ fp _ G5 H5 σ4 ρ6 dv _ _ I5 h7 fun G6 H6 v I6 f6 r6=>?_
     obtain⟨a1,a2,a3,a4⟩:=facts G6 H6 σ4 _ I6
     have ff:Fz Gc G6:=f3.trans (f4.trans (f5.trans f6))
     exact⟨xs,a4,by rw[sizeLine_eq];lia,items.length-(i+1),by lia,rfl,hlt,G6,_,acc++[dv],xs++[v],rest2,ρ4,{fc:=fc.trans ff,fcH:=I6.fz.right a3 _,nw:=a1,kp:=fun b o e=>by rw[zap (zax e hD)];exact a2 b o e,gD:=a3,hDc:=zas,ra:=(ra.mono ff).snoc r6,hx:=by rw[List.length_append,List.length_singleton];lia,vs:=VS.of I6 hno,ec:=h4,eall:=by rw[eall];simp}⟩
    ·cases h3
  ·have e:i=items.length:=by lia
   subst e
   rw[List.drop_length]at ec
   cases ec
   have hall:all=acc:=by rw[eall,List.append_nil]
   refine .inl ⟨IT.stop Hc _ (f2.trans (fc.trans fcH)) (Nat.le_refl _),?_⟩
   rw[<-hall]at ra
   exact k Gc Hc DD xs (I2.grow fc fcH nw kp) (f1.trans (f2.trans fc)) gD hDc ra (I2.there DD hD) (I2.own_ne hD nw kp)
 ·cases hm
theorem zbT (cap:List Nat)(t:Nat)(N:List Str)(hc:X.calm=true)(hi:SIt X tg iter mi)(hg:∀C s H fp,SG (cxC X N scope C s H fp) tg g)(ht:∀C s H fp,STs (cxC X N scope C s H fp) ifs mt)(he:∀C s H fp,SE (cxC X N scope C s H fp) elt me)
    (hk:autoParam (scope.kind= .function) zu2._auto_1) (hb:autoParam (blkB X.env scope=true) zu10._auto_1) (hcap:autoParam (capB scope.names N X.N cap t=true) zu10._auto_1)
    (hs:autoParam (∀x,foldedSetIterable iter X.env x=pure x) zu8._auto_1):SO X (.ListComp elt [⟨tg,iter,ifs,0⟩] scope pos) (oLC cap t mi g mt me):=by
  obtain⟨wi,pi,si⟩:=hi
  exact⟨_,pe_lc hc (zkP hk hb) (zmE hcap) pi (fun C s H fp=>(hg C s H fp).choose_spec.1) (fun C s H fp=>(ht C s H fp).choose_spec.1) (fun C s H fp=>(he C s H fp).choose_spec.1) hs,
    zjU si (fun C s H fp=>(hg C s H fp).choose_spec.2) (fun C s H fp=>(ht C s H fp).choose_spec.2) (fun C s H fp=>(he C s H fp).choose_spec.2)⟩
end
section
variable {X:Cx} {elt iter tg:Expr} {ifs:List Expr} {scope:Scope} {pos lpos pos':Pos} {N:List Str} {cap:List Nat} {t:Nat} {mi:MA} {g:D->R->Option R} {mt:MT} {me:ME}
theorem zmV {σ0:St->St}(hN:X.N.Nodup)(hxi:X.N[i]? =some x)(hx:Loc X.env.scope x)(hf:X.fn x=true\/X.env.scope.names.lookup x=some .local)
  (hsw:swapsWith (.ListComp elt [⟨tg,iter,ifs,0⟩] scope lpos) (some (.Name x pos')) pos.line X.env=pure true) (hc:X.calm=true) (b:BlkOk X scope) (cap:Cap X scope N σ0) (hi:PI X tg iter wi) (hg:∀C s H fp,PG (cxC X N scope C s H fp) tg (tg' C s H fp)) (ht:∀C s H fp,PTs (cxC X N scope C s H fp) ifs (tt C s H fp)) (he:∀C s H fp,PE (cxC X N scope C s H fp) elt (te C s H fp))
  (hs:∀x,foldedSetIterable iter X.env x=pure x):PS X (.Assign [.Name x pos'] (.ListComp elt [⟨tg,iter,ifs,0⟩] scope lpos) pos) (fun E σ H=>tLC σ0 wi tg' tt te σ H fun v H'=>E.nx (σ.set i (some v)) H'):=by
 intro pins s σ H E I h
 rw[exec_Assign_Name_used _ _ _ _ hsw]
 refine wpAny_bind (wpAny_standAt (wpAny_bind ?_))
 show wpAny _ _ (do let _<-comprehension (.ListComp elt [⟨tg,iter,ifs,0⟩] scope lpos) scope X.env _ (newList []) false (eval iter X.env) (some (assign (.Name x pos') X.env))) _ _ s
 refine wpAny_bind (thn (zpE (use:=some (assign (.Name x pos') X.env)) (QQ:=fun _ s'=>SP X pins E .next s') (E:=X.xe) hc b cap hi hg ht he I h hs ?_) fun _ s' hq=>wpAny_pure (wpAny_pure hq))
 intro D fp C H1 H' σc s1 s' I1 f1 eC J q
 subst eC
 have I2:Inv X pins σ H' s':=by
  have z:=zon (h':=s'.heap) I1 f1 J (Heap.SameBut.refl _ _)
  exact z
 obtain⟨m,⟨o,es,ep,ho,hd,hrest⟩,_⟩:=J.loc
 have fpk:FpOk X pins H' s1.heap.objs.size:=I1.fpOk (Nat.le_refl _) J.free
 have I3:Inv X (pins++[(s1.heap.objs.size,o)]) σ H' s':=I2.pins_of fun p hp=>by
  rcases List.mem_append.mp hp with hp|hp
  ·exact I2.pin p (List.mem_append_right _ hp)
  ·have e:p=(s1.heap.objs.size,o):=by simpa using hp
   subst e
   exact⟨ho,fpk.1,fpk.2.1,fpk.2.2.1,fun v z=>by rw[hd]at z;cases z⟩
 refine thn (znV hN hxi hx hf (pins++[(s1.heap.objs.size,o)]) s' σ H' (.ref D) (.ref D) (fun σ2 H2=>E.nx σ2 H2) I3 rfl q) fun _ s'' ⟨σ2,H2,I4,q4⟩=>?_
 have pC:=I4.pin (s1.heap.objs.size,o) (List.mem_append_right _ (List.mem_append_right _ (by simp)))
 refine⟨m,⟨o,es,ep,pC.1,hd,hrest⟩,fun h' hs'=>?_⟩
 have I5:Inv X pins σ2 H2 s'':=I4.unpinned
 have fp2:FpOk X pins H2 s1.heap.objs.size:=I1.fpOk (Nat.le_refl _) pC.2.1
 have I6:=I5.turned (t':=s''.toks) (h':=h') (it:=s1.heap.objs.size) (fun b' o' hb e=>hs'.extBut b' o' hb e) fp2.1 fp2.2.1 fp2.2.2.2.1 fp2.2.2.2.2.1 fp2.2.2.2.2.2
 exact⟨σ2,H2,I6,q4⟩
theorem ss_setLC (i:Nat)(cap:List Nat)(t:Nat)(N:List Str)(hc:X.calm=true)(hi:SIt X tg iter mi)(hg:∀C s H fp,SG (cxC X N scope C s H fp) tg g)(ht:∀C s H fp,STs (cxC X N scope C s H fp) ifs mt)(he:∀C s H fp,SE (cxC X N scope C s H fp) elt me)(hN:X.N.Nodup)
    (hxi:autoParam (X.N[i]? =some x) zu2._auto_1) (hx:autoParam (Loc X.env.scope x) zu9._auto_1) (hf:autoParam (X.fn x=true\/X.env.scope.names.lookup x=some .local) zu9._auto_1)
    (hsw:autoParam (swapsWith (.ListComp elt [⟨tg,iter,ifs,0⟩] scope lpos) (some (.Name x pos')) pos.line X.env=pure true) zu2._auto_1)
    (hk:autoParam (scope.kind= .function) zu2._auto_1) (hb:autoParam (blkB X.env scope=true) zu10._auto_1) (hcap:autoParam (capB scope.names N X.N cap t=true) zu10._auto_1)
    (hs:autoParam (∀x,foldedSetIterable iter X.env x=pure x) zu8._auto_1):SS X (.Assign [.Name x pos'] (.ListComp elt [⟨tg,iter,ifs,0⟩] scope lpos) pos) (zfy i (oLC cap t mi g mt me)):=by
  obtain⟨wi,pi,si⟩:=hi
  refine⟨_,zmV hN hxi hx hf hsw hc (zkP hk hb) (zmE hcap) pi (fun C s H fp=>(hg C s H fp).choose_spec.1) (fun C s H fp=>(ht C s H fp).choose_spec.1) (fun C s H fp=>(he C s H fp).choose_spec.1) hs,fun B G H σ ρ fl ρ' E I hm k=>?_⟩
  obtain⟨⟨d,ρ1⟩,e1,e3⟩:=zav hm
  obtain⟨rfl,rfl⟩:=Prod.mk.inj e3
  exact zjU si (fun C s H fp=>(hg C s H fp).choose_spec.2) (fun C s H fp=>(ht C s H fp).choose_spec.2) (fun C s H fp=>(he C s H fp).choose_spec.2) B G H σ ρ d ρ1 _ I e1 fun G1 H1 l xs I1 f1 g1 h1 r1 b1 n1=>k G1 H1 _ (I1.setO g1 h1 r1 b1 n1) f1
end
section
variable {X:Cx} {pins:List (Addr×Obj)} {σ:St} {H:Hp} {s:Shared}
theorem zg6 {A:Around}(hh:A.handled=none)(I:Inv X pins σ H s)(hq:SqL X.K H p ys\/SqT X.K H p ys)
  (k : ∀ (its : List Value) (s₂ : Shared) (St : Nat -> Heap -> Prop), Vals ys its -> Walks X.prog X.w A s.heap.objs.size [s.heap.objs.size, p] [s.heap.objs.size] its.length (fun i v => its[i]? = some v) St -> St 0 s₂.heap -> (∀ b ∈ [s.heap.objs.size, p], b < s₂.heap.objs.size) ->
   (∀h' tk,(∀b o,b∉[s.heap.objs.size]->s₂.heap.get? b=some o->h'.get? b=some o)->Inv X pins σ H {s₂ with heap:=h',toks:=tk})->Q (.ref s.heap.objs.size) s₂):wpAny (model X.prog X.w) A (pyIter (.ref p)) Q E s:=by
 have fin:∀(o:Obj),∀h' tk,(∀b o',b∉[s.heap.objs.size]->(s.heap.push o).get? b=some o'->h'.get? b=some o')->Inv X pins σ H {({s with heap:=s.heap.push o}:Shared)with heap:=h',toks:=tk}:=fun o h' tk hk=>by
  have z:=I.kept (h':=h') (t':=tk) fun b o' e=>hk b o' (by simpa using Nat.ne_of_lt (Heap.lt_size e)) (Heap.get?_push_of_some _ e)
  exact z
 rcases hq with hq|hq
 ·obtain⟨its,r,pl,hz⟩:=I.list hq
  have hlt:p<s.heap.objs.size:=by obtain⟨_,_,e,_⟩:=pl;exact Heap.lt_size e
  refine wpAny_pyIter_list pl.isList (k its _ (fun i h=>h.IsListIter s.heap.objs.size p i/\h.IsList p its.toArray) r ?_ ⟨⟨_,Heap.get?_push_size _ rfl,rfl,rfl⟩,pl.isList.push _⟩ (fun b hb=>?_) (fin _))
  ·have w:=Walks.list (prog:=X.prog) (w:=X.w) (A:=A) hh s.heap.objs.size p (Nat.ne_of_lt hlt) its.toArray
   simpa using w
  ·show b<(s.heap.push _).objs.size
   rw[Heap.size_push]
   simp at hb
   rcases hb with z|z
   ·rw[z];exact Nat.lt_succ_self _
   ·rw[z];exact Nat.lt_succ_of_lt hlt
 ·obtain⟨its,r,pl,hz⟩:=I.tuple hq
  have hlt:p<s.heap.objs.size:=pl.lt
  refine wpAny_pyIter_tuple (show s.heap.IsTuple p its.toArray from pl) (k its _ (fun i h=>h.IsTupleIter s.heap.objs.size p i/\h.IsTuple p its.toArray) r ?_ ⟨⟨_,Heap.get?_push_size _ rfl,rfl,rfl⟩,(show s.heap.IsTuple p its.toArray from pl).push _⟩ (fun b hb=>?_) (fin _))
  ·have w:=Walks.tuple (prog:=X.prog) (w:=X.w) (A:=A) hh s.heap.objs.size p (Nat.ne_of_lt hlt) its.toArray
   simpa using w
  ·show b<(s.heap.push _).objs.size
   rw[Heap.size_push]
   simp at hb
   rcases hb with z|z
   ·rw[z];exact Nat.lt_succ_self _
   ·rw[z];exact Nat.lt_succ_of_lt hlt
end
theorem zjk (ns:List Int):∀j,preSum (fun i=>ns.getD i 0) j=(ns.take j).sum
 |0=>by simp[preSum]
 |j+1=>by
  rw[preSum,zjk ns j]
  by_cases h:j<ns.length
  ·rw[List.take_succ_eq_append_getElem h,List.sum_append]
   simp[h]
  ·rw[List.take_of_length_le (by lia),List.take_of_length_le (by lia)]
   simp[List.getElem?_eq_none (by lia:ns.length<=j)]
theorem zdc (r:Vals (ns.map V.int) its){v:Value}(e:its[i]? =some v):∃t,v= .int (ns.getD i 0) t:=by
 have hl:=r.length
 have hi:i<its.length:=(List.getElem?_eq_some_iff.mp e).1
 rw[List.length_map]at hl
 have e2:(ns.map V.int)[i]? =some (.int ns[i]):=by rw[List.getElem?_map,List.getElem?_eq_getElem (by lia)];rfl
 obtain⟨u,h1,t,h2⟩:=r.get e2
 rw[e]at h1;cases h1
 exact⟨t,by rw[h2];simp[show i<ns.length by lia]⟩
noncomputable def rSum (K:W.Frag):List V->Hp->VK->Prop:=fun xs H Q=>∃(p:Addr) (ns:List Int),xs=[.ref p]/\(SqL K H p (ns.map V.int)\/SqT K H p (ns.map V.int))/\Q (.int ns.sum) H
theorem znQ (hc:X.calm=true):zeb X (.builtin "sum") (rSum X.K):=by
 intro pins s σ H xs us Q I r h
 obtain⟨p,ns,rfl,hq,q⟩:=h
 obtain⟨u,rfl,ru⟩:=zgP r
 cases ru
 refine call_sum_walkG (zg6 (A:=X.A.in1) (I.ok.hd hc) I hq fun its s₂ St rv W st hfp fin=>?_)
 refine⟨_,_,_,_,_,_,fun i=>ns.getD i 0,rfl,W,st,hfp,fun i v e=>zdc rv e,fun h' tk t' hk=>⟨.int ns.sum,H,fin h' tk hk,⟨t',?_⟩,q⟩⟩
 have hl:=rv.length
 rw[List.length_map]at hl
 rw[zjk,<-hl,List.take_of_length_le (Nat.le_refl _)]
noncomputable def zaG:List D->Option (List Int)
 |[]=>some []
 | .int i::ds=>(zaG ds).map (i:: ·)
 |_=>none
theorem zba:∀{ds:List D} {ns:List Int},zaG ds=some ns->ds=ns.map .int
 |[],ns,h=>by cases h;rfl
 |d::ds,ns,h=>by
  cases d<;>simp only[zaG]at h<;>try cases h
  obtain⟨ms,e1,e2⟩:=zav h
  subst e2
  rw[zba e1];rfl
@[simp] theorem intsOf_map:∀(ns:List Int),zaG (ns.map .int)=some ns
 |[]=>rfl
 |n::ns=>by simp[zaG,intsOf_map ns]
noncomputable def dSum:List D->Option D
 |[d]=>(za4 [d]).bind fun ds=>(zaG ds).map fun ns=> .int ns.sum
 |_=>none
theorem zhZ (I:SI K B G H σ ρ){x:V}(r:RepD K G x d)(e:za4 [d]=some ds):∃p ys,x= .ref p/\(SqL K H p ys\/SqT K H p ys)/\RepL K G ys ds:=by
 cases d<;>simp only[za4]at e<;>try cases e
 ·obtain⟨p,ys,ex,hp,q⟩:=I.lst r
  exact⟨p,ys,ex,.inl (SqL.of hp),q⟩
 ·obtain⟨p,ys,ex,hp,q⟩:=I.tup r
  exact⟨p,ys,ex,.inr (SqT.of hp),q⟩
 ·obtain⟨p,ex,hp⟩:=r
  exact⟨p,_,ex,.inl (I.fz.sql hp),RepL.ints _⟩
theorem vc_sum:VC X (rSum X.K) dSum:=by
 intro B G H σ ρ xs ds d Q I r hf k
 match ds,hf with
 |[a],hf=>
  obtain⟨es,e1,hf⟩:=zag hf
  obtain⟨ns,e2,e3⟩:=zav hf
  subst e3
  obtain⟨x,rfl,ra⟩:=r.one
  obtain⟨p,ys,rfl,hq,ry⟩:=zhZ I ra e1
  rw[zba e2]at ry
  rw[RepL.ints_eq ry]at hq
  exact⟨p,ns,rfl,hq,k G H _ I (Fz.refl G) rfl⟩
 |[],hf=>cases hf
 |_::_::_,hf=>cases hf
theorem zeN {p pos:Pos}(hc:X.calm=true)(ml:X.mg "sum"=none)(ha:SA X [e] ma)(hg:autoParam (Gl X "sum") zu2._auto_1)(he:autoParam (starEach [e] X.env=(false,eval e X.env)::starEach [] X.env) zu2._auto_1):SE X (.Call (.Name "sum" p) [e] [] pos) (mC dSum ma):=
 zei (znQ hc) vc_sum (by decide+kernel) ml ha hg (by decide) (by decide) he rfl
noncomputable def zcH:List D->Option (List Bool)
 |[]=>some []
 | .bl b::ds=>(zcH ds).map (b:: ·)
 |_=>none
theorem zjd:∀{ds:List D} {bs:List Bool},zcH ds=some bs->ds=bs.map .bl
 |[],ns,h=>by cases h;rfl
 |d::ds,ns,h=>by
  cases d<;>simp only[zcH]at h<;>try cases h
  obtain⟨ms,e1,e2⟩:=zav h
  subst e2
  rw[zjd e1];rfl
@[simp] theorem boolsOf_map:∀(bs:List Bool),zcH (bs.map .bl)=some bs
 |[]=>rfl
 |n::ns=>by simp[zcH,boolsOf_map ns]
theorem RepL.bools_eq:∀{bs:List Bool} {xs:List V},RepL K G xs (bs.map D.bl)->xs=bs.map V.bl
 |[],_,e=>e
 |n::ns,_,⟨x,ys,e,q,r⟩=>by subst e;cases(show x=V.bl n from q);rw[RepL.bools_eq r];rfl
theorem zoi {bs:List Bool}(r:Vals (bs.map V.bl) its){v:Value}(e:its[i]? =some v):∃b,bs[i]? =some b/\v= .bool b:=by
 have hl:=r.length
 have hi:i<its.length:=(List.getElem?_eq_some_iff.mp e).1
 rw[List.length_map]at hl
 have e2:(bs.map V.bl)[i]? =some (.bl bs[i]):=by rw[List.getElem?_map,List.getElem?_eq_getElem (by lia)];rfl
 obtain⟨u,h1,h2⟩:=r.get e2
 rw[e]at h1;cases h1
 exact⟨bs[i],List.getElem?_eq_getElem (by lia),h2⟩
noncomputable def rAll (K:W.Frag)(f:List Bool->Bool):List V->Hp->VK->Prop:=fun xs H Q=>∃(p:Addr) (bs:List Bool),xs=[.ref p]/\(SqL K H p (bs.map V.bl)\/SqT K H p (bs.map V.bl))/\Q (.bl (f bs)) H
theorem zoB (hc:X.calm=true):zeb X (.builtin "all") (rAll X.K fun bs=>bs.all id):=by
 intro pins s σ H xs us Q I r h
 obtain⟨p,bs,rfl,hq,q⟩:=h
 obtain⟨u,rfl,ru⟩:=zgP r
 cases ru
 refine call_all_walk (zg6 (A:=X.A.in1) (I.ok.hd hc) I hq fun its s₂ St rv W st hfp fin=>?_)
 have hl:=rv.length
 rw[List.length_map]at hl
 refine⟨_,_,_,_,_,_,fun i=>(bs[i]?).getD true,rfl,W,st,fun i v s' Q' E' hP hQ=>?_,fun h' tk hk=>⟨.bl (bs.all id),H,fin h' tk hk,?_,q⟩⟩
 ·obtain⟨b,e,rfl⟩:=zoi rv hP
  simp only[e,Option.getD_some]at hQ
  exact wpAny_truthy_bool hQ
 ·rw[<-hl,LSm.range_all];rfl
noncomputable def dAll (f:List Bool->Bool):List D->Option D
 |[d]=>(za4 [d]).bind fun ds=>(zcH ds).map fun bs=> .bl (f bs)
 |_=>none
theorem vc_all (f:List Bool->Bool):VC X (rAll X.K f) (dAll f):=by
 intro B G H σ ρ xs ds d Q I r hf k
 match ds,hf with
 |[a],hf=>
  obtain⟨es,e1,hf⟩:=zag hf
  obtain⟨ns,e2,e3⟩:=zav hf
  subst e3
  obtain⟨x,rfl,ra⟩:=r.one
  obtain⟨p,ys,rfl,hq,ry⟩:=zhZ I ra e1
  rw[zjd e2]at ry
  rw[RepL.bools_eq ry]at hq
  exact⟨p,ns,rfl,hq,k G H _ I (Fz.refl G) rfl⟩
 |[],hf=>cases hf
 |_::_::_,hf=>cases hf
theorem zi3 {p pos:Pos}(hc:X.calm=true)(ml:X.mg "all"=none)(ha:SA X [e] ma)(hg:autoParam (Gl X "all") zu2._auto_1)(he:autoParam (starEach [e] X.env=(false,eval e X.env)::starEach [] X.env) zu2._auto_1):SE X (.Call (.Name "all" p) [e] [] pos) (mC (dAll fun bs=>bs.all id) ma):=
 zei (zoB hc) (vc_all _) (by decide+kernel) ml ha hg (by decide) (by decide) he rfl
noncomputable def d2I (g:Int->Int->Int):List D->Option D
 |[.int i,.int j]=>some (.int (g i j))
 |_=>none
theorem vc_2I (g:Int->Int->Int):VC X (fun xs H Q=>∃i j,xs=[.int i,.int j]/\Q (.int (g i j)) H) (d2I g):=by
 intro B G H σ ρ xs ds d Q I r hf k
 unfold d2I at hf
 split at hf
 ·rename_i i j
  cases hf
  obtain⟨x,y,rfl,rx,ry⟩:=r.two
  cases(show x=V.int i from rx)
  cases(show y=V.int j from ry)
  exact⟨i,j,rfl,k G H _ I (Fz.refl G) rfl⟩
 ·cases hf
noncomputable def max2 (i j:Int):Int:=if j>i then j else i
noncomputable def min2 (i j:Int):Int:=if j<i then j else i
theorem zhs {p pos:Pos}(hc:X.calm=true)(ml:X.mg "max"=none)(ha:SA X [a,b] ma)(hg:autoParam (Gl X "max") zu2._auto_1)(he:autoParam (starEach [a,b] X.env=(false,eval a X.env)::starEach [b] X.env) zu2._auto_1)(hpl:autoParam ((backTo pos (starEach [b] X.env)).any (·.1)=false) zu2._auto_1):SE X (.Call (.Name "max" p) [a,b] [] pos) (mC (d2I max2) ma):=
 zei (zpq hc) (vc_2I max2) (by decide+kernel) ml ha hg (by decide) (by decide) he hpl
theorem zjW {p pos:Pos}(hc:X.calm=true)(ml:X.mg "min"=none)(ha:SA X [a,b] ma)(hg:autoParam (Gl X "min") zu2._auto_1)(he:autoParam (starEach [a,b] X.env=(false,eval a X.env)::starEach [b] X.env) zu2._auto_1)(hpl:autoParam ((backTo pos (starEach [b] X.env)).any (·.1)=false) zu2._auto_1):SE X (.Call (.Name "min" p) [a,b] [] pos) (mC (d2I min2) ma):=
 zei (zoZ hc) (vc_2I min2) (by decide+kernel) ml ha hg (by decide) (by decide) he hpl
theorem zhV (K:W.Frag):W.kitOne K (.type "NoneType") (.type "int")=some false:=by kernel_rfl
theorem zhn (K:W.Frag):W.kitOne K (.type "NoneType") (.type "bool")=some false:=by kernel_rfl
theorem zgW (K:W.Frag):W.kitOne K (.type "NoneType") (.type "tuple")=some false:=by kernel_rfl
theorem zhp (K:W.Frag):W.kitOne K (.type "NoneType") (.type "list")=some false:=by kernel_rfl
theorem zhP (K:W.Frag):W.kitOne K (.type "NoneType") (.type "str")=some false:=by kernel_rfl
theorem zk2 (K:W.Frag):W.kitOne K (.type "bool") (.type "int")=some true:=by kernel_rfl
theorem zj8 (K:W.Frag):W.kitOne K (.type "bool") (.type "bool")=some true:=by kernel_rfl
theorem ziV (K:W.Frag):W.kitOne K (.type "bool") (.type "tuple")=some false:=by kernel_rfl
theorem zjq (K:W.Frag):W.kitOne K (.type "bool") (.type "list")=some false:=by kernel_rfl
theorem zkR (K:W.Frag):W.kitOne K (.type "bool") (.type "str")=some false:=by kernel_rfl
theorem zlt (K:W.Frag):W.kitOne K (.type "int") (.type "int")=some true:=by kernel_rfl
theorem zld (K:W.Frag):W.kitOne K (.type "int") (.type "bool")=some false:=by kernel_rfl
theorem zjK (K:W.Frag):W.kitOne K (.type "int") (.type "tuple")=some false:=by kernel_rfl
theorem zk7 (K:W.Frag):W.kitOne K (.type "int") (.type "list")=some false:=by kernel_rfl
theorem zlD (K:W.Frag):W.kitOne K (.type "int") (.type "str")=some false:=by kernel_rfl
theorem zlR (K:W.Frag):W.kitOne K (.type "str") (.type "int")=some false:=by kernel_rfl
theorem zkv (K:W.Frag):W.kitOne K (.type "str") (.type "bool")=some false:=by kernel_rfl
theorem zjw (K:W.Frag):W.kitOne K (.type "str") (.type "tuple")=some false:=by kernel_rfl
theorem zkZ (K:W.Frag):W.kitOne K (.type "str") (.type "list")=some false:=by kernel_rfl
theorem zlw (K:W.Frag):W.kitOne K (.type "str") (.type "str")=some true:=by kernel_rfl
theorem zkT (K:W.Frag):W.kitOne K (.type "list") (.type "int")=some false:=by kernel_rfl
theorem zjv (K:W.Frag):W.kitOne K (.type "list") (.type "bool")=some false:=by kernel_rfl
theorem ziL (K:W.Frag):W.kitOne K (.type "list") (.type "tuple")=some false:=by kernel_rfl
theorem zj1 (K:W.Frag):W.kitOne K (.type "list") (.type "list")=some true:=by kernel_rfl
theorem zkj (K:W.Frag):W.kitOne K (.type "list") (.type "str")=some false:=by kernel_rfl
theorem zjr (K:W.Frag):W.kitOne K (.type "tuple") (.type "int")=some false:=by kernel_rfl
theorem ziM (K:W.Frag):W.kitOne K (.type "tuple") (.type "bool")=some false:=by kernel_rfl
theorem zig (K:W.Frag):W.kitOne K (.type "tuple") (.type "tuple")=some true:=by kernel_rfl
theorem ziS (K:W.Frag):W.kitOne K (.type "tuple") (.type "list")=some false:=by kernel_rfl
theorem zj4 (K:W.Frag):W.kitOne K (.type "tuple") (.type "str")=some false:=by kernel_rfl
noncomputable def isI (T:String):D->Bool
 | .non=>false
 | .bl _=>T=="bool"||T=="int"
 | .int _=>T=="int"
 | .str _=>T=="str"
 | .lst _=>T=="list"
 | .tup _=>T=="tuple"
 | .scr _=>T=="list"
 | .exc _=>false
 | .dic _ _=>false
 | .dit _ _=>false
noncomputable def okT (T:String):Bool:=["int","bool","tuple","list","str"].contains T
noncomputable def rIsI (K:W.Frag)(T:String):List V->Hp->VK->Prop:=fun xs H Q=>∃x t b,xs=[x,.ty T]/\TyOf K H x t/\W.kitOne K t (.type T)=some b/\Q (.bl b) H
theorem call_isI (T:String):zeb X (.builtin "isinstance") (rIsI X.K T):=by
 intro pins s σ H xs us Q I r h
 obtain⟨x,t,b,rfl,ty,e,q⟩:=h
 obtain⟨u,w',rfl,r1,r2⟩:=vals2 r
 cases(show w'=Value.type T from r2)
 exact znY I r1 ty e fun tk=>⟨.bl b,H,I.tok _,rfl,q⟩
noncomputable def eIsI (T:String)(ma:ME):ME:=fun ρ=>(ma ρ).bind fun p=>if okT T&&noS1 p.1 then some (.bl (isI T p.1),p.2)else none
where noS1:D->Bool
 | .scr _=>false
 | .exc _=>false
 | .dic _ _=>false
 | .dit _ _=>false
 |_=>true
theorem kit_all (K:W.Frag){T:String}(hT:okT T=true):W.kitOne K (.type "NoneType") (.type T)=some false/\W.kitOne K (.type "bool") (.type T)=some (T=="bool"||T=="int")/\W.kitOne K (.type "int") (.type T)=some (T=="int")/\
  W.kitOne K (.type "str") (.type T)=some (T=="str")/\W.kitOne K (.type "list") (.type T)=some (T=="list")/\W.kitOne K (.type "tuple") (.type T)=some (T=="tuple"):=by
 have h:T="int"\/T="bool"\/T="tuple"\/T="list"\/T="str":=by simpa[okT]using hT
 rcases h with rfl|rfl|rfl|rfl|rfl
 ·exact⟨zhV K,zk2 K,zlt K,zlR K,zkT K,zjr K⟩
 ·exact⟨zhn K,zj8 K,zld K,zkv K,zjv K,ziM K⟩
 ·exact⟨zgW K,ziV K,zjK K,zjw K,ziL K,zig K⟩
 ·exact⟨zhp K,zjq K,zk7 K,zkZ K,zj1 K,ziS K⟩
 ·exact⟨zhP K,zkR K,zlD K,zlw K,zkj K,zj4 K⟩
theorem zjf {ma:ME}{p q pos:Pos}(T:String)(ml:X.mg "isinstance"=none)(mT:X.mg x=none)(hbT:bootBuiltins x=some (.type T))(ha:SE X a ma)(hg:autoParam (Gl X "isinstance") zu2._auto_1)(hgT:autoParam (Gl X x) zu2._auto_1)(hn:autoParam (x≠"__name__") zu1._auto_1)(hd:autoParam ((x==("__debug__":Str))=false) zu1._auto_1)
  (he:autoParam (starEach [a,.Name x q] X.env=(false,eval a X.env)::starEach [.Name x q] X.env) zu2._auto_1) (he2:autoParam (starEach [.Name x q] X.env=(false,eval (.Name x q) X.env)::starEach [] X.env) zu2._auto_1) (hpl:autoParam ((backTo pos (starEach [.Name x q] X.env)).any (·.1)=false) zu2._auto_1):
  SE X (.Call (.Name "isinstance" p) [a,.Name x q] [] pos) (eIsI T ma):=by
 obtain⟨ta,pa,sa⟩:=ha
 refine⟨_,zfW (call_isI T) hg ml boot_isinstance (za7 pa (za7 (pe_bltn (v:= .ty T) hgT mT hbT rfl hn hd) zcQ he2) he) (by decide) (by decide) he hpl,fun B G H σ ρ d ρ' Q I hm k=>?_⟩
 obtain⟨⟨y,ρ1⟩,e1,hm⟩:=zag hm
 dsimp only at hm
 split at hm
 ·rename_i hT
  obtain⟨rfl,rfl⟩:=Prod.mk.inj (Option.some.inj hm)
  rw[Bool.and_eq_true]at hT
  obtain⟨hT,hS⟩:=hT
  refine sa B G H σ ρ y ρ1 _ I e1 fun G1 H1 v I1 f1 r1=>?_
  obtain⟨k0,k1,k2,k3,k4,k5⟩:=kit_all X.K hT
  have fin:∀t,TyOf X.K H1 v t->W.kitOne X.K t (.type T)=some (isI T y)->rIsI X.K T [v,.ty T] H1 Q:=fun t ty e=>⟨v,t,isI T y,rfl,ty,e,k G1 H1 _ I1 f1 rfl⟩
  cases y with
  |non=>cases(show v=V.non from r1);exact fin _ .non k0
  |bl c=>cases(show v=V.bl c from r1);exact fin _ (.bl c) k1
  |int c=>cases(show v=V.int c from r1);exact fin _ (.int c) k2
  |str c=>cases(show v=V.str c from r1);exact fin _ (.str c) k3
  |lst ds=>obtain⟨a,xs,e,hp,r⟩:=I1.lst r1;subst e;exact fin _ (.lst hp) k4
  |tup ds=>obtain⟨a,xs,e,hp,r⟩:=I1.tup r1;subst e;exact fin _ (.tup hp) k5
  |scr _=>cases hS
  |exc _=>cases hS
  |dic _ _=>cases hS
  |dit _ _=>cases hS
 ·cases hm
noncomputable def cutD {α:Type}(xs:List α)(lo hi:Option Int):List α:=(xs.drop (HT.sIx xs.length 0 lo)).take (HT.sIx xs.length xs.length hi-HT.sIx xs.length 0 lo)
theorem RepL.cut (h:RepL K G xs ds)(lo hi:Option Int):RepL K G (cutV xs lo hi) (cutD ds lo hi):=by
 unfold cutV cutD
 rw[h.length]
 exact(h.drop _).take _
section
variable {prog:Program} {w:World} {A:Around} {E:Value->Shared->Prop} {s:Shared}
theorem zgB {t sl:Addr}{items:Array Value}{vl vu:Value}{lo hi:Option Int}(ht:IsTup s.heap t items)(hs:s.heap.IsSliceOf sl vl vu .none)(pl:IsPart vl lo)(pu:IsPart vu hi)
  (hw:HT.sIx items.size 0 lo=0/\HT.sIx items.size items.size hi=items.size) (h:Q (.ref t) s):wpAny (model prog w) A (getItem (.ref t) (.ref sl)) Q E s:=by
 obtain⟨os,hos,hcs,hds⟩:=id hs
 have hTs:s.TypeIs (.ref sl) "slice":=⟨os,hos,hcs⟩
 unfold getItem
 try with_reducible refine wpAny_holding ?_
 first|refine wpAny_bind (wpAny_pure ?_)|skip
 refine wpAny_bind (wpAny_sequenceKey ht.typeIs (by decide) ?_)
 refine wpAny_bind (wpAny_callSpecial?_slot (name:=Str.ofString "__getitem__") ht.typeIs PyProof.Rows.slot_tuple_getitem
  (wpAny_call_entry PyProof.Rows.slot_tuple_getitem ht.typeIs entry_tuple_getitem ?_ (args_tuple_getitem _ _)))
 show wpAny _ _ (Builtin.Tuple.tupleItemsOf (.ref t)>>=_) _ _ s
 refine wpAny_bind (tupleItemsOf_ ht ?_)
 refine wpAny_bind (wpAny_typeOf hTs ?_)
 rw[if_pos (by decide)]
 refine wpAny_bind (HT.zeS hs pl pu ?_)
 have hyes:(((HT.sIx items.size 0 lo:Nat):Int)==0&&(1:Int)==1&&(HT.sIx items.size items.size hi-HT.sIx items.size 0 lo)==items.size)=true:=by
  rw[hw.1,hw.2];simp
 show wpAny _ _ (if(((HT.sIx items.size 0 lo:Nat):Int)==0&&(1:Int)==1&&(HT.sIx items.size items.size hi-HT.sIx items.size 0 lo)==items.size)=true then _ else _) _ _ s
 rw[if_pos hyes]
 refine wpAny_bind (m:=Builtin.Tuple.tupleIsExact _) ?_
 unfold Builtin.Tuple.tupleIsExact
 refine wpAny_bind (wpAny_typeOf ht.typeIs (wpAny_pure ?_))
 rw[if_pos (by decide)]
 refine wpAny_bind (wpAny_rule ?_)
 exact wpAny_pure ⟨_,rfl,wpAny_pure h⟩
end
noncomputable def rSlTW (K:W.Frag):V->Option Int->Option Int->Hp->VK->Prop:=fun x lo hi H Q=>∃a xs,x= .ref a/\SqT K H a xs/\(HT.sIx xs.length 0 lo=0/\HT.sIx xs.length xs.length hi=xs.length)/\Q (.ref a) H
theorem sl_tupW:SlR X (rSlTW X.K):=by
 intro pins s σ H x v vl vu lo hi sl Q I rx hs pl pu h
 obtain⟨a,xs,rfl,hx,hw,q⟩:=h
 cases rx
 obtain⟨its,r,ht,hz⟩:=I.tuple hx
 have hlen:its.toArray.size=xs.length:=by rw[List.size_toArray];exact r.length.symm
 refine⟨"tuple",_,PyProof.Rows.slot_tuple_getitem.lookup,ht.typeIs,?_⟩
 exact zgB ht hs pl pu (by rw[hlen];exact hw) ⟨.ref a,H,I,rfl,q⟩
noncomputable abbrev MP:=R->Option (Option Int×R)
noncomputable def SPt (X:Cx)(e:Option Expr)(m:MP):Prop:=∃t,PO X e t/\∀B G H σ ρ o ρ' (Q:Option Int->Hp->Prop),SI X.K B G H σ ρ->m ρ=some (o,ρ')->(∀G' H',SI X.K B G' H' σ ρ'->Fz G G'->Q o H')->t σ H Q
noncomputable def pNo:MP:=fun ρ=>some (none,ρ)
noncomputable def zcC (m:ME):MP:=fun ρ=>(m ρ).bind fun p=>match p.1 with
 | .int i=>some (some i,p.2)
 |_=>none
theorem ze6:SPt X none pNo:=⟨_,po_none,fun B G H σ ρ o ρ' Q I hm k=>by cases hm;exact k G H I (Fz.refl G)⟩
theorem zaM {m:ME}(h:SE X e m):SPt X (some e) (zcC m):=by
 obtain⟨t,p,s⟩:=h
 refine⟨_,po_some p,fun B G H σ ρ o ρ' Q I hm k=>?_⟩
 obtain⟨⟨d,ρ1⟩,e1,hm⟩:=zag hm
 refine s B G H σ ρ d ρ1 _ I e1 fun G1 H1 v I1 f1 r1=>?_
 cases d<;>try cases hm
 rename_i i
 exact⟨i,r1,k G1 H1 I1 f1⟩
noncomputable def dCut (d:D)(lo hi:Option Int):Option D:=match d with
 | .lst ds=>some (.lst (cutD ds lo hi))
 | .tup ds=>some (.tup (cutD ds lo hi))
 | .scr ns=>some (.lst ((cutD ns lo hi).map .int))
 |_=>none
noncomputable def eCut (ma:ME)(ml mh:MP):ME:=fun ρ=>(ma ρ).bind fun p=>(ml p.2).bind fun q=>(mh q.2).bind fun r=>(dCut p.1 q.1 r.1).map fun d=>(d,r.2)
theorem zo9 (ns:List Int)(lo hi:Option Int):cutV (ns.map V.int) lo hi=(cutD ns lo hi).map V.int:=by
 unfold cutV cutD
 rw[List.length_map,<-List.map_drop,<-List.map_take]
theorem zd1 {lo hi:Option Expr}{ma:ME}{ml mh:MP}{pos p2:Pos}(he:SE X e ma)(hl:SPt X lo ml)(hu:SPt X hi mh):SE X (.Subscript e (.Slice lo hi none p2) pos) (eCut ma ml mh):=by
 obtain⟨ta,pa,sa⟩:=he
 obtain⟨tl,pl,sl⟩:=hl
 obtain⟨th,ph,sh⟩:=hu
 refine⟨_,pe_slice (sl_list.or (sl_tup.or sl_tupW)) pa pl ph,fun B G H σ ρ d ρ' Q I hm k=>?_⟩
 obtain⟨⟨x,ρ1⟩,e1,hm⟩:=zag hm
 obtain⟨⟨l,ρ2⟩,e2,hm⟩:=zag hm
 obtain⟨⟨u,ρ3⟩,e3,hm⟩:=zag hm
 obtain⟨c,e4,e5⟩:=zav hm
 obtain⟨rfl,rfl⟩:=Prod.mk.inj e5
 refine sa B G H σ ρ x ρ1 _ I e1 fun G1 H1 v I1 f1 r1=>sl B G1 H1 σ ρ1 l ρ2 _ I1 e2 fun G2 H2 I2 f2=>sh B G2 H2 σ ρ2 u ρ3 _ I2 e3 fun G3 H3 I3 f3=>?_
 have r3:=r1.mono (f2.trans f3)
 dsimp only at e4
 cases x with
 |exc _=>cases e4
 |dic _ _=>cases e4
 |dit _ _=>cases e4
 |non=>cases e4
 |bl _=>cases e4
 |int _=>cases e4
 |str _=>cases e4
 |lst ds=>
  cases e4
  obtain⟨a,xs,rfl,ha,r⟩:=I3.lst r3
  refine .inl ⟨a,xs,rfl,SqL.of ha,fun p hp=>?_⟩
  obtain⟨I4,f4,r4⟩:=I3.newL hp (r.cut l u)
  exact k _ _ _ I4 (f1.trans (f2.trans (f3.trans f4))) r4
 |tup ds=>
  cases e4
  obtain⟨a,xs,rfl,ha,r⟩:=I3.tup r3
  by_cases hw:HT.sIx xs.length 0 l=0/\HT.sIx xs.length xs.length u=xs.length
  ·refine .inr (.inr ⟨a,xs,rfl,SqT.of ha,hw,?_⟩)
   have e:cutD ds l u=ds:=by
    unfold cutD
    rw[<-r.length,hw.1,hw.2,List.drop_zero,Nat.sub_zero,List.take_of_length_le (by rw[r.length];exact Nat.le_refl _)]
   rw[e]at k
   exact k G3 H3 _ I3 (f1.trans (f2.trans f3)) r3
  ·refine .inr (.inl ⟨a,xs,rfl,SqT.of ha,hw,fun p hp=>?_⟩)
   obtain⟨I4,f4,r4⟩:=I3.newT hp (r.cut l u)
   exact k _ _ _ I4 (f1.trans (f2.trans (f3.trans f4))) r4
 |scr ns=>
  cases e4
  obtain⟨a,rfl,ha⟩:=r3
  refine .inl ⟨a,_,rfl,I3.fz.sql ha,fun p hp=>?_⟩
  rw[zo9]
  obtain⟨I4,f4,r4⟩:=I3.newL hp (RepL.ints (cutD ns l u))
  exact k _ _ _ I4 (f1.trans (f2.trans (f3.trans f4))) r4
theorem zcJ (h:aLen ma n):∀ρ as ρ',ma ρ=some (as,ρ')->as.length+1=n+1:=fun ρ as ρ' e=>congrArg (· +1) (h ρ as ρ' e)
section
variable {X:Cx} {elt iter tg:Expr} {ifs:List Expr} {scope:Scope} {pos lpos pos':Pos} {N:List Str} {cap:List Nat} {t:Nat} {mi:MA} {g:D->R->Option R} {mt:MT} {me:ME}
theorem zct (i:Nat)(cap:List Nat)(t:Nat)(N:List Str)(hc:X.calm=true)(hi:SIt X tg iter mi)(hg:∀C s H fp,SG (cxC X N scope C s H fp) tg g)(ht:∀C s H fp,STs (cxC X N scope C s H fp) ifs mt)(he:∀C s H fp,SE (cxC X N scope C s H fp) elt me)(hN:X.N.Nodup)
    (hxi:autoParam (X.N[i]? =some x) zu2._auto_1) (hx:autoParam (Loc X.env.scope x) zu9._auto_1) (hf:autoParam (X.fn x=true\/X.env.scope.names.lookup x=some .local) zu9._auto_1)
    (hsw:autoParam (swapsWith (.ListComp elt [⟨tg,iter,ifs,0⟩] scope lpos) (some (.Name x pos')) pos.line X.env=pure true) zu2._auto_1)
    (hk:autoParam (scope.kind= .function) zu2._auto_1) (hb:autoParam (blkB X.env scope=true) zu10._auto_1) (hcap:autoParam (capB scope.names N X.N cap t=true) zu10._auto_1)
    (hs:autoParam (∀x,foldedSetIterable iter X.env x=pure x) zu8._auto_1):SS X (.Assign [.Name x pos'] (.ListComp elt [⟨tg,iter,ifs,0⟩] scope lpos) pos) (sSet i (eFz (oLC cap t mi g mt me))):=by
  obtain⟨wi,pi,si⟩:=hi
  refine⟨_,zmV hN hxi hx hf hsw hc (zkP hk hb) (zmE hcap) pi (fun C s H fp=>(hg C s H fp).choose_spec.1) (fun C s H fp=>(ht C s H fp).choose_spec.1) (fun C s H fp=>(he C s H fp).choose_spec.1) hs,fun B G H σ ρ fl ρ' E I hm k=>?_⟩
  obtain⟨⟨d,ρ1⟩,e1,e3⟩:=zav hm
  obtain⟨⟨ds,ρ2⟩,e4,e5⟩:=zav e1
  obtain⟨rfl,rfl⟩:=Prod.mk.inj e5
  obtain⟨rfl,rfl⟩:=Prod.mk.inj e3
  refine zjU si (fun C s H fp=>(hg C s H fp).choose_spec.2) (fun C s H fp=>(ht C s H fp).choose_spec.2) (fun C s H fp=>(he C s H fp).choose_spec.2) B G H σ ρ ds ρ2 _ I e4 fun G1 H1 l xs I1 f1 g1 h1 r1 b1 n1=>?_
  obtain⟨I2,f2,r2⟩:=zmJ I1 g1 h1 r1 b1 n1
  exact k _ H1 _ (I2.set r2) (f1.trans f2)
end
end M
namespace M
open L2 PySem
@[simp] theorem atI_nat' {α:Type} (xs:List α) (i:Nat):atI xs (i:Int)=xs[i]?:=by
 unfold atI ixN
 rw[if_pos (by lia)]
 by_cases h:i<xs.length
 ·rw[if_pos (by lia)];simp
 ·rw[if_neg (by lia)];simp[List.getElem?_eq_none (by lia:xs.length<=i)]
end M
namespace M
open L2 PyProof.Rows PySem PySem.Spec
noncomputable def zm8 (i:Nat)(g:Int->Int->Int)(me:ME):MS:=fun ρ=>match ρ[i]? with
 |some (.val (.int a))=>(me ρ).bind fun p=>match p.1 with
  | .int b=>some (.next,p.2.set i (.val (.int (g a b))))
  |_=>none
 |_=>none
section
variable {X:Cx} {e:Expr} {me:ME} {pos:Pos}
theorem ss_augI (i:Nat){x:Str}{pos':Pos}{op:Operator}{g:Int->Int->Int}(ho:PIp X op (ipI g))(he:SE X e me)(hN:X.N.Nodup)(hi:autoParam (X.N[i]? =some x) zu2._auto_1)(hx:autoParam (Loc X.env.scope x) zu9._auto_1)
    (hf:autoParam (X.fn x=true\/X.env.scope.names.lookup x=some .local) zu9._auto_1):SS X (.AugAssign (.Name x pos') op e pos) (zm8 i g me):=by
  obtain⟨t,p,s⟩:=he
  refine⟨_,ps_aug hN hi hx p ho hf,fun B G H σ ρ fl ρ' E I hm k=>?_⟩
  unfold zm8 at hm
  split at hm
  . rename_i a e0
    obtain⟨⟨d,ρ1⟩,e1,h2⟩:=zag hm
    dsimp only at h2
    split at h2
    . rename_i b
      cases h2
      obtain⟨v,h1,hv⟩:=I.slot i _ e0
      cases(show v=V.int a from hv)
      refine⟨_,h1,s B G H σ ρ (.int b) ρ1 _ I e1 fun G1 H1 w I1 f1 r1=>?_⟩
      cases(show w=V.int b from r1)
      exact⟨a,b,rfl,rfl,k G1 H1 _ (I1.set (d:= .int (g a b)) rfl) f1⟩
    . cases h2
  . cases hm
theorem zlk (i:Nat){x:Str}{pos':Pos}(he:SE X e me)(hN:X.N.Nodup)(hi:autoParam (X.N[i]? =some x) zu2._auto_1)(hx:autoParam (Loc X.env.scope x) zu9._auto_1)
  (hf:autoParam (X.fn x=true\/X.env.scope.names.lookup x=some .local) zu9._auto_1):SS X (.AugAssign (.Name x pos') .Sub e pos) (zm8 i (fun i j=>i-j) me):=ss_augI i ip_sub he hN hi hx hf
end
noncomputable def zaJ {α:Type}(xs:List α)(lo hi st:Option Int):List α:=
 (sliceRange (sliceBounds lo hi st xs.length).1 (sliceBounds lo hi st xs.length).2.1 (sliceBounds lo hi st xs.length).2.2).filterMap (xs[·]?)
theorem zhF (its:List Value)(lo hi st:Option Int):slicePick its.toArray lo hi st=(zaJ its lo hi st).toArray:=by
 unfold slicePick zaJ
 simp
theorem zhD {xs:List V}{its:List Value}(h:xs.length=its.length)(lo hi st:Option Int):(zaJ its lo hi st).length<=xs.length:=by
 have:=slicePick_size_le its.toArray lo hi st
 rw[zhF]at this
 simpa[h]using this
theorem picks {its:List Value}{xs:List V}(r:Vals xs its):∀js:List Nat,Vals (js.filterMap (xs[·]?)) (js.filterMap (its[·]?))
 |[]=> .nil
 |j::js=>by
  have hl:=r.length
  by_cases h:j<xs.length
  ·have h2:j<its.length:=by lia
   obtain⟨u,e1,e2⟩:=r.get (List.getElem?_eq_getElem h)
   rw[List.filterMap_cons,List.filterMap_cons,List.getElem?_eq_getElem h,e1]
   exact .cons e2 (picks r js)
  ·rw[List.filterMap_cons,List.filterMap_cons,List.getElem?_eq_none (by lia),List.getElem?_eq_none (by lia)]
   exact picks r js
theorem RepL.pickJ {K:W.Frag}{G:Hp}{xs:List V}{ds:List D}(r:RepL K G xs ds):∀js:List Nat,RepL K G (js.filterMap (xs[·]?)) (js.filterMap (ds[·]?))
 |[]=>RepL.nil
 |j::js=>by
  have hl:=r.length
  by_cases h:j<xs.length
  ·have h2:j<ds.length:=by lia
   obtain⟨u,e1,e2⟩:=r.get (List.getElem?_eq_getElem h2)
   rw[List.filterMap_cons,List.filterMap_cons,List.getElem?_eq_getElem h2,e1]
   exact RepL.cons e2 (r.pickJ js)
  ·rw[List.filterMap_cons,List.filterMap_cons,List.getElem?_eq_none (by lia),List.getElem?_eq_none (by lia)]
   exact r.pickJ js
section
variable {X:Cx} {e st:Expr} {lo hi:Option Expr} {te:TE} {tl th ts:TO} {p2 pos:Pos}
theorem zi4 (he:PE X e te)(hl:PO X lo tl)(hu:PO X hi th)(hst:PO X (some st) ts):PE X (.Subscript e (.Slice lo hi (some st) p2) pos)
  (fun σ H Q=>te σ H fun x H1=>tl σ H1 fun l H2=>th σ H2 fun u H3=>ts σ H3 fun c H4=>∃a xs,x= .ref a/\SqL X.K H4 a xs/\c≠some 0/\∀p,H4 p=none->Q (.ref p) (upd H4 p (.lst (zaJ xs l u c)))):=by
 intro pins s σ H Q I h
 refine Subscript_ (thn (he pins s σ H _ I h) fun v s1 ⟨x,H1,I1,r1,q1⟩=>?_)
 refine wpAny_Slice (thn (hl pins s1 σ H1 _ I1 q1) fun vl s2 ⟨l,H2,I2,pl,q2⟩=>thn (hu pins s2 σ H2 _ I2 q2) fun vu s3 ⟨u,H3,I3,pu,q3⟩=>thn (hst pins s3 σ H3 _ I3 q3) fun vs s4 ⟨c,H4,I4,pc,q4⟩=>?_)
 have I5:Inv X pins σ H4 {s4 with heap:=s4.heap.push {cls:= .type "slice",data:= .fields #[vl,vu,vs]}}:=I4.kept (t':=s4.toks) fun b ob q=>Heap.get?_push_of_some _ q
 obtain⟨a,xs,rfl,hx,h0,q⟩:=q4
 cases r1
 obtain⟨its,r,ht,hz⟩:=I5.list hx
 have hlen:=r.length
 have hg:wpAny (model X.prog X.w) X.A (getItem (.ref a) (.ref s4.heap.objs.size)) (EP X pins σ Q) X.xe {s4 with heap:=s4.heap.push {cls:= .type "slice",data:= .fields #[vl,vu,vs]}}:=by
  refine wpAny_getItem_list_slice ht.isList (Heap.IsSliceOf.new ..) pl pu pc h0 ?_ (by rw[List.size_toArray]<;>lia)
  rw[zhF]
  refine⟨.ref _,_,I5.laid (t':=s4.toks) (o:= .lst (zaJ xs l u c)) (fun b ob q=>Heap.get?_push_of_some _ q) (Nat.le_refl _) ?_,rfl,q _ (I5.hok.fresh (Nat.le_refl _))⟩
  refine⟨?_,_,0,?_,Heap.get?_push_size _ rfl⟩
  ·have:=zhD hlen l u c
   have e2:(zaJ xs l u c).length=(zaJ its l u c).length:=by
    unfold zaJ;rw[hlen];exact(picks r _).length
   lia
  ·unfold zaJ;rw[hlen];exact picks r _
 show wpAny (model X.prog X.w) X.A (subscriptTail e (.Slice lo hi (some st) p2) (.ref a) (.ref s4.heap.objs.size)) (EP X pins σ Q) X.xe {s4 with heap:=s4.heap.push {cls:= .type "slice",data:= .fields #[vl,vu,vs]}}
 exact tail_any (ops:=[.ref a,.ref s4.heap.objs.size]) ht.isList.typeIs slot_list_getitem.lookup hg (by with_unfolding_all rfl)
end
noncomputable def zlH (d:D)(lo hi st:Option Int):Option D:=match d with
 | .lst ds=>if st=some 0 then none else some (.lst (zaJ ds lo hi st))
 |_=>none
noncomputable def zm9 (ma:ME)(ml mh ms:MP):ME:=fun ρ=>(ma ρ).bind fun p=>(ml p.2).bind fun q=>(mh q.2).bind fun r=>(ms r.2).bind fun t=>(zlH p.1 q.1 r.1 t.1).map fun d=>(d,t.2)
theorem RepL.pick {K:W.Frag}{G:Hp}{xs:List V}{ds:List D}(r:RepL K G xs ds)(lo hi st:Option Int):RepL K G (zaJ xs lo hi st) (zaJ ds lo hi st):=by
 unfold zaJ
 rw[r.length]
 exact r.pickJ _
theorem zjS {X:Cx}{e st:Expr}{lo hi:Option Expr}{ma:ME}{ml mh ms:MP}{pos p2:Pos}(he:SE X e ma)(hl:SPt X lo ml)(hu:SPt X hi mh)(hs:SPt X (some st) ms):SE X (.Subscript e (.Slice lo hi (some st) p2) pos) (zm9 ma ml mh ms):=by
 obtain⟨ta,pa,sa⟩:=he
 obtain⟨tl,pl,sl⟩:=hl
 obtain⟨th,ph,sh⟩:=hu
 obtain⟨tc,pc,sc⟩:=hs
 refine⟨_,zi4 pa pl ph pc,fun B G H σ ρ d ρ' Q I hm k=>?_⟩
 obtain⟨⟨x,ρ1⟩,e1,hm⟩:=zag hm
 obtain⟨⟨l,ρ2⟩,e2,hm⟩:=zag hm
 obtain⟨⟨u,ρ3⟩,e3,hm⟩:=zag hm
 obtain⟨⟨c,ρ4⟩,e4,hm⟩:=zag hm
 obtain⟨y,e5,e6⟩:=zav hm
 obtain⟨rfl,rfl⟩:=Prod.mk.inj e6
 refine sa B G H σ ρ x ρ1 _ I e1 fun G1 H1 v I1 f1 r1=>sl B G1 H1 σ ρ1 l ρ2 _ I1 e2 fun G2 H2 I2 f2=>sh B G2 H2 σ ρ2 u ρ3 _ I2 e3 fun G3 H3 I3 f3=>sc B G3 H3 σ ρ3 c ρ4 _ I3 e4 fun G4 H4 I4 f4=>?_
 have r3:=r1.mono (f2.trans (f3.trans f4))
 dsimp only at e5
 cases x<;>simp only[zlH]at e5<;>try cases e5
 rename_i ds
 split at e5
 ·cases e5
 ·rename_i h0
  cases e5
  obtain⟨a,xs,rfl,ha,r⟩:=I4.lst r3
  refine⟨a,xs,rfl,SqL.of ha,h0,fun p hp=>?_⟩
  obtain⟨I5,f5,r5⟩:=I4.newL hp (r.pick l u c)
  exact k _ _ _ I5 (f1.trans (f2.trans (f3.trans (f4.trans f5)))) r5
end M
namespace M
open L2 PySem PySem.Spec
open PyProof.Rows hiding St
variable {K:W.Frag} {tg a b e:Expr} {pins:List (Addr×Obj)} {s:Shared} {E:Value->Shared->Prop} {p pos:Pos} {G:Hp} {j:Int} {X:Cx} {ma:MA} {xs:List V} {ds:List D}
noncomputable def cntS (lo hi st:Int):Nat:=if lo<hi then((hi-lo-1)/st+1).toNat else 0
noncomputable def Itrs (lo st:Int)(n:Nat):It:=⟨fun i _=>i<n,fun i H x H'=>H'=H/\x= .int (lo+i*st),fun i _=>n<=i⟩
theorem zlW {P:Program}{w:World}(it:Addr)(lo st:Int)(n:Nat):Turn P w K tg (Itrs lo st n) [it] it (fun i h=>IsRangeIter h it (lo+(i:Nat)*st) ((n:Int)-(i:Nat)) st) where
 mem:=by simp
 obj:=fun i h st b hb=>by
  have e:b=it:=by simpa using hb
  subst e
  exact⟨_,st,fun v z=>by
   have z':Data.fields _=Data.cell v:=z
   cases z'⟩
 keep:=fun i h h' st k=>k it (by simp) _ st
 item:=by
  intro X hP hw hK hc i pins s σ H E I hf st' hg
  subst hP hw hK
  obtain⟨f0,f1,f2,f3,f4,f5⟩:=hf it (by simp)
  have W:=Walks.range (prog:=X.prog) (w:=X.w) (I.ok.hd hc) it lo st n
  refine W.item i s _ _ hg st' fun v h' tk hv st' kk=>?_
  obtain⟨t,rfl⟩:=hv
  have I1:Inv X pins σ H {s with heap:=h',toks:=tk}:=I.turned (fun b o hb e=>kk b o (by simpa using hb) e) f0 f1 f3 f4 f5
  exact⟨_,rfl,go_of (s:={s with heap:=h',toks:=tk}) (n:="range_iterator") st' rfl rfl (by decide) ⟨.int (lo+i*st),H,I1,⟨t,rfl⟩,⟨rfl,rfl⟩,st',fun b hb=>(hf b hb).1⟩⟩
 done:=by
  intro X hP hw hK hc i pins s σ H E I hf st' hg
  subst hP hw hK
  obtain⟨f0,f1,f2,f3,f4,f5⟩:=hf it (by simp)
  exact wpAny_pyNext_range_end (I.ok.hd hc) st' (by have:n<=i:=hg;lia) fun h' eb=>⟨rfl,I.turned (t':=s.toks) (fun b o hb e=>eb b o hb e) f0 f1 f3 f4 f5⟩
 self:=fun _ _ _ _ _ st h=>wpAny_pyIter_rangeiter st h
theorem zmK {lo hi st:Int}(h:0<st):((cntS lo hi st:Nat):Int)=Builtin.Range.rangeSize lo hi st:=by
 unfold cntS Builtin.Range.rangeSize
 rw[if_pos h]
 split
 ·have:0<=(hi-lo-1)/st:=Int.ediv_nonneg (by lia) (by lia)
  lia
 ·rfl
theorem small_st {a b c:Int}(ha: -(2^60)<=a)(ha':a<2^60)(hb: -(2^60)<=b)(hb':b<2^60)(hc:0<c)(hc':c<1073741824):Builtin.Range.small a b c=true:=by
 have h1:=zmK (lo:=a) (hi:=b) hc
 have h2:Builtin.Range.rangeSize a b c<=2^62:=by
  unfold Builtin.Range.rangeSize
  rw[if_pos hc]
  split
  ·have:(b-a-1)/c<=b-a-1:=Int.ediv_le_self _ (by lia)
   lia
  ·lia
 have h3:0<=Builtin.Range.rangeSize a b c:=by rw[<-h1];lia
 unfold Builtin.Range.small
 simp only[Builtin.Range.rangeFitsLong,Bool.and_eq_true,Bool.or_eq_true,decide_eq_true_eq,beq_iff_eq,show c>0 from hc,if_true]
 generalize Builtin.Range.rangeSize a b c=z at*
 lia
section
variable {X:Cx} {tg:Expr}
theorem zpg {σ:St}{H:Hp}{R:It->Hp->Prop}{lo hi st:Int}{t u v:Tok}{tk:Nat}(I:Inv X pins σ H s)(h1: -(2^60)<=lo)(h2:lo<2^60)(h3: -(2^60)<=hi)(h4:hi<2^60)(h5:0<st)(h6:st<1073741824)
  (q:R (Itrs lo st (cntS lo hi st)) H):wpAny (model X.prog X.w) X.A (pyIter (.ref s.heap.objs.size)) (PIE X pins σ tg R) E {s with heap:=s.heap.push {cls:= .type "range",data:= .fields #[.int lo t,.int hi u,.int st v]},toks:=tk}:=by
 refine wpAny_pyIter_range (IsRange.new ..) (small_st h1 h2 h3 h4 h5 h6) ?_
 have I1:Inv X pins σ H {s with heap:=s.heap.push {cls:= .type "range",data:= .fields #[.int lo t,.int hi u,.int st v]},toks:=tk}:=I.kept fun b o e=>Heap.get?_push_of_some _ e
 refine⟨(s.heap.push {cls:= .type "range",data:= .fields #[.int lo t,.int hi u,.int st v]}).objs.size,[(s.heap.push {cls:= .type "range",data:= .fields #[.int lo t,.int hi u,.int st v]}).objs.size],_,_,H,rfl,
  I1.kept (t':=tk) fun b o e=>Heap.get?_push_of_some _ e,zlW _ lo st (cntS lo hi st),?_,fun b hb=>?_,q⟩
 ·have e1:lo+((0:Nat):Int)*st=lo:=by simp
  show IsRangeIter _ _ (lo+((0:Nat):Int)*st) (((cntS lo hi st:Nat):Int)-((0:Nat):Int)) st
  rw[e1,zmK h5,show(((0:Nat):Int))=0 from rfl,Int.sub_zero]
  exact Heap.get?_push_size _ rfl
 ·have e:b=(s.heap.push {cls:= .type "range",data:= .fields #[.int lo t,.int hi u,.int st v]}).objs.size:=by simpa using hb
  subst e
  exact I1.fpOk (Nat.le_refl _) (I1.hok.fresh (Nat.le_refl _))
theorem zoA {a b c:Expr}{ta:TA}(hg:Gl X "range")(hm:X.mg "range"=none)(ha:PA X [a,b,c] ta)(hs:autoParam (starEach [a,b,c] X.env=(false,eval a X.env)::starEach [b,c] X.env) zu2._auto_1)(hs2:autoParam ((backTo pos (starEach [b,c] X.env)).any (·.1)=false) zu2._auto_1):
  PI X tg (.Call (.Name "range" p) [a,b,c] [] pos) (fun σ H R=>ta σ H fun vs H1=>∃i j k:Int,vs=[.int i,.int j,.int k]/\(-(2^60)<=i/\i<2^60/\ -(2^60)<=j/\j<2^60/\0<k/\k<1073741824)/\R (Itrs i k (cntS i j k)) H1):=by
 intro pins s σ H R I h
 refine Call_ (zgK I hg hm boot_range (PyProof.Rows.callWith_type1 (thn (ha pos pins s σ H _ I h) fun us s1 ⟨vs,H1,I1,r1,q1⟩=>?_) hs hs2))
 obtain⟨i,j,k,e,⟨q1,q2,q3,q4,q5,q6⟩,q⟩:=q1
 subst e
 cases r1 with
 |cons r rr=>
  cases rr with
  |cons r' rr=>
   cases rr with
   |cons r'' rr=>
    cases rr
    obtain⟨t,rfl⟩:=r
    obtain⟨t',rfl⟩:=r'
    obtain⟨t'',rfl⟩:=r''
    exact call_range_3 (by lia) (zpg I1 q1 q2 q3 q4 q5 q6 q) (Or.inl (PyProof.noPylong_small (by lia)))
end
noncomputable def zl1 (lo st:Int)(n:Nat):List D:=(List.range n).map fun(i:Nat)=>D.int (lo+(i:Int)*st)
theorem znd (lo st:Int)(n:Nat):Itm K (Itrs lo st n) G (zl1 lo st n) where
 go:=fun H i f hi=>by show i<n;simpa[zl1]using hi
 yld:=fun H i x H' f y d e=>by
  obtain⟨rfl,rfl⟩:=y
  unfold zl1 at e
  rw[List.getElem?_map]at e
  cases q:(List.range n)[i]? with
  |none=>rw[q]at e;cases e
  |some j=>
   rw[q]at e
   have hj:j=i:=by
    have:=List.getElem?_eq_some_iff.mp q
    obtain⟨h1,h2⟩:=this
    simpa using h2.symm
   subst hj
   cases e
   exact .inl ⟨rfl,rfl⟩
 stop:=fun H i f hi=>by show n<=i;simpa[zl1]using hi
noncomputable def iR3 (ma:MA):MA:=fun ρ=>(ma ρ).bind fun p=>match p.1 with
 |[.int i,.int j,.int k]=>if zdo i&&zdo j&&decide (0<k)&&decide (k<1073741824)then some (zl1 i k (cntS i j k),p.2)else none
 |_=>none
theorem zkM (h:zdo j=true): -(2^60)<=j/\j<2^60:=by
 unfold zdo at h
 simp only[Bool.and_eq_true,decide_eq_true_eq]at h
 lia
theorem ziC {tg a b c:Expr}(hm:X.mg "range"=none)(ha:SA X [a,b,c] ma)(hg:autoParam (Gl X "range") zu2._auto_1)(hs:autoParam (starEach [a,b,c] X.env=(false,eval a X.env)::starEach [b,c] X.env) zu2._auto_1)(hs2:autoParam ((backTo pos (starEach [b,c] X.env)).any (·.1)=false) zu2._auto_1):SIt X tg (.Call (.Name "range" p) [a,b,c] [] pos) (iR3 ma):=by
 obtain⟨t,pa,sa⟩:=ha
 refine⟨_,zoA hg hm pa hs hs2,fun B G H σ ρ ds ρ' Q I hm k=>?_⟩
 obtain⟨⟨es,ρ1⟩,e1,h2⟩:=zag hm
 dsimp only at h2
 refine sa B G H σ ρ es ρ1 _ I e1 fun G1 H1 vs I1 f1 r1=>?_
 split at h2
 ·rename_i i j l
  split at h2
  ·rename_i hj
   simp only[Bool.and_eq_true,decide_eq_true_eq]at hj
   cases h2
   obtain⟨x,xs,rfl,rx,r2⟩:=r1
   obtain⟨y,ys,rfl,ry,r3⟩:=r2
   obtain⟨z,zs,rfl,rz,r4⟩:=r3
   cases(show x=V.int i from rx)
   cases(show y=V.int j from ry)
   cases(show z=V.int l from rz)
   cases(show zs=[]from r4)
   have a1:=zkM hj.1.1.1
   have a2:=zkM hj.1.1.2
   exact⟨i,j,l,rfl,⟨a1.1,a1.2,a2.1,a2.2,hj.1.2,hj.2⟩,k _ G1 H1 I1 f1 (znd i l _)⟩
  ·cases h2
 ·cases h2
noncomputable def zd8 (lt:Int->Int->Bool)(ns:List Int):Int:=ns.getD (argBest (fun i j=>lt (ns.getD i 0) (ns.getD j 0)) (ns.length-1)) 0
noncomputable def rBest (K:W.Frag)(lt:Int->Int->Bool):List V->Hp->VK->Prop:=fun xs H Q=>∃(p:Addr) (ns:List Int),xs=[.ref p]/\ns≠[]/\(SqL K H p (ns.map V.int)\/SqT K H p (ns.map V.int))/\Q (.int (zd8 lt ns)) H
theorem zou (hc:X.calm=true):zeb X (.builtin "max") (rBest X.K fun i j=>decide (i>j)):=by
 intro pins s σ H xs us Q I r h
 obtain⟨p,ns,rfl,ne,hq,q⟩:=h
 obtain⟨u,rfl,ru⟩:=zgP r
 cases ru
 refine call_max_walk (zg6 (A:=X.A.in1) (I.ok.hd hc) I hq fun its s₂ St rv W st hfp fin=>?_)
 have hl:=rv.length
 rw[List.length_map]at hl
 have hp:0<its.length:=by rw[<-hl];exact List.length_pos_iff.mpr ne
 refine⟨_,_,_,_,_,_,_,rfl,W,st,hfp,hp,CmpOf.ints_gt (fun i=>ns.getD i 0) (fun i v e=>zdc rv e),fun v h' tk hP hk=>?_⟩
 obtain⟨t,rfl⟩:=zdc rv hP
 refine⟨.int (zd8 _ ns),H,fin h' tk hk,⟨t,?_⟩,q⟩
 unfold zd8
 rw[hl]
theorem zoY (hc:X.calm=true):zeb X (.builtin "min") (rBest X.K fun i j=>decide (i<j)):=by
 intro pins s σ H xs us Q I r h
 obtain⟨p,ns,rfl,ne,hq,q⟩:=h
 obtain⟨u,rfl,ru⟩:=zgP r
 cases ru
 refine call_min_walk (zg6 (A:=X.A.in1) (I.ok.hd hc) I hq fun its s₂ St rv W st hfp fin=>?_)
 have hl:=rv.length
 rw[List.length_map]at hl
 have hp:0<its.length:=by rw[<-hl];exact List.length_pos_iff.mpr ne
 refine⟨_,_,_,_,_,_,_,rfl,W,st,hfp,hp,CmpOf.ints_lt (fun i=>ns.getD i 0) (fun i v e=>zdc rv e),fun v h' tk hP hk=>?_⟩
 obtain⟨t,rfl⟩:=zdc rv hP
 refine⟨.int (zd8 _ ns),H,fin h' tk hk,⟨t,?_⟩,q⟩
 unfold zd8
 rw[hl]
noncomputable def zoz (lt:Int->Int->Bool):List D->Option D
 |[d]=>(za4 [d]).bind fun ds=>(zaG ds).bind fun ns=>if ns.isEmpty then none else some (.int (zd8 lt ns))
 |_=>none
theorem zoh (lt:Int->Int->Bool):VC X (rBest X.K lt) (zoz lt):=by
 intro B G H σ ρ xs ds d Q I r hf k
 match ds,hf with
 |[a],hf=>
  obtain⟨es,e1,hf⟩:=zag hf
  obtain⟨ns,e2,hf⟩:=zag hf
  split at hf
  ·cases hf
  ·rename_i ne
   cases hf
   obtain⟨x,rfl,ra⟩:=r.one
   obtain⟨p,ys,rfl,hq,ry⟩:=zhZ I ra e1
   rw[zba e2]at ry
   rw[RepL.ints_eq ry]at hq
   exact⟨p,ns,rfl,fun z=>ne (by rw[z];rfl),hq,k G H _ I (Fz.refl G) rfl⟩
 |[],hf=>cases hf
 |_::_::_,hf=>cases hf
noncomputable def ziX:List D->Option D:=zoz fun i j=>decide (i>j)
noncomputable def zfA:List D->Option D:=zoz fun i j=>decide (i<j)
theorem zpy (hc:X.calm=true)(ml:X.mg "max"=none)(ha:SA X [e] ma)(hg:autoParam (Gl X "max") zu2._auto_1)(he:autoParam (starEach [e] X.env=(false,eval e X.env)::starEach [] X.env) zu2._auto_1):SE X (.Call (.Name "max" p) [e] [] pos) (mC ziX ma):=
 zei (zou hc) (zoh _) (by decide+kernel) ml ha hg (by decide) (by decide) he rfl
theorem zka (hc:X.calm=true)(ml:X.mg "min"=none)(ha:SA X [e] ma)(hg:autoParam (Gl X "min") zu2._auto_1)(he:autoParam (starEach [e] X.env=(false,eval e X.env)::starEach [] X.env) zu2._auto_1):SE X (.Call (.Name "min" p) [e] [] pos) (mC zfA ma):=
 zei (zoY hc) (zoh _) (by decide+kernel) ml ha hg (by decide) (by decide) he rfl
noncomputable def oRep (ma mb:ME):MO:=fun ρ=>(ma ρ).bind fun p=>(mb p.2).bind fun q=>match p.1,q.1 with
 | .lst xs,.int k=>if zdo k&&decide (xs.length*k.toNat<=16777216)then some ((List.replicate k.toNat xs).flatten,q.2)else none
 |_,_=>none
theorem RepL.times (h:RepL K G xs ds):∀n:Nat,RepL K G (List.replicate n xs).flatten (List.replicate n ds).flatten
 |0=>RepL.nil
 |n+1=>by
  rw[List.replicate_succ,List.flatten_cons,List.replicate_succ,List.flatten_cons]
  exact h.append (h.times n)
theorem so_rep {ma mb:ME}(ha:SE X a ma)(hb:SE X b mb):SO X (.BinOp a .Mult b pos) (oRep ma mb):=by
 obtain⟨ta,pa,sa⟩:=ha
 obtain⟨tb,pb,sb⟩:=hb
 refine⟨_,pe_op op_rep pa pb,fun B G H σ ρ d ρ' Q I hm k=>?_⟩
 obtain⟨⟨x,ρ1⟩,e1,hm⟩:=zag hm
 obtain⟨⟨y,ρ2⟩,e2,hm⟩:=zag hm
 refine sa B G H σ ρ x ρ1 _ I e1 fun G1 H1 v I1 f1 r1=>sb B G1 H1 σ ρ1 y ρ2 _ I1 e2 fun G2 H2 u I2 f2 r2=>?_
 dsimp only at hm
 split at hm
 ·rename_i xs n _
  split at hm
  ·rename_i hs
   cases hm
   simp only[Bool.and_eq_true,decide_eq_true_eq]at hs
   cases(show u=V.int n from r2)
   obtain⟨l,ys,rfl,hl,r⟩:=I2.lst (r1.mono f2)
   have a1:=ziD hs.1
   refine⟨l,n,ys,rfl,rfl,hl,by lia,by lia,by rw[r.length,sizeLine_eq];exact hs.2,fun p hp=>?_⟩
   obtain⟨I3,g3,h3,b3,n3⟩:=I2.newO hp (List.replicate n.toNat ys).flatten
   exact k G2 _ p _ I3 (f1.trans f2) g3 h3 (r.times _) b3 n3
  ·cases hm
 ·cases hm
noncomputable def flV:D->Option V
 | .non=>some .non
 | .bl b=>some (.bl b)
 | .int i=>some (.int i)
 | .str x=>some (.str x)
 |_=>none
noncomputable def zm4:List D->Option (List V)
 |[]=>some []
 |d::ds=>(flV d).bind fun v=>(zm4 ds).map (v:: ·)
theorem flV_ok {x v:V}{d:D}(r:RepD K G x d)(e:flV d=some v):x=v/\ziT v=true:=by
 cases d<;>simp only[flV]at e<;>cases e<;>exact⟨r,rfl⟩
theorem zmr:∀{ys xs:List V} {ds:List D},RepL K G ys ds->zm4 ds=some xs->ys=xs/\xs.all ziT=true
 |ys,xs,[],r,e=>by cases e;cases(show ys=[]from r);exact⟨rfl,rfl⟩
 |ys,xs,d::ds,r,e=>by
  obtain⟨y,zs,rfl,ry,rz⟩:=r
  obtain⟨v,e1,e⟩:=zag e
  obtain⟨vs,e2,rfl⟩:=zav e
  obtain⟨rfl,f1⟩:=flV_ok ry e1
  obtain⟨rfl,f2⟩:=zmr rz e2
  exact⟨rfl,by rw[List.all_cons,f1,f2];rfl⟩
noncomputable def dInB (neg:Bool)(a b:D):Option D:=(flV a).bind fun x=>(za4 [b]).bind fun ds=>(zm4 ds).map fun xs=> .bl (if neg then !inV x xs else inV x xs)
noncomputable def dIn:D->D->Option D:=dInB false
theorem v2_in (neg:Bool):V2 X (rIn X.K neg) (dInB neg):=by
 intro B G H σ ρ x y a b d Q I ra rb hf k
 obtain⟨v,e1,hf⟩:=zag hf
 obtain⟨ds,e2,hf⟩:=zag hf
 obtain⟨xs,e3,rfl⟩:=zav hf
 obtain⟨rfl,f1⟩:=flV_ok ra e1
 obtain⟨p,ys,rfl,hq,ry⟩:=zhZ I rb e2
 obtain⟨rfl,f2⟩:=zmr ry e3
 exact⟨p,ys,rfl,hq,f1,f2,k G H _ I (Fz.refl G) rfl⟩
theorem se_in {ma mb:ME}(ha:SE X a ma)(hb:SE X b mb)(hm:autoParam (behindInMarks .In b=false) zu2._auto_1):SE X (.Compare a [.In] [b] pos) (m2 dIn ma mb):=zor zkY (v2_in false) ha hb hm
theorem bl_in (neg:Bool):∀x y d,dInB neg x y=some d->∃t,d= .bl t:=by
 intro x y d hf
 obtain⟨v,e1,hf⟩:=zag hf
 obtain⟨ds,e2,hf⟩:=zag hf
 obtain⟨xs,e3,rfl⟩:=zav hf
 exact⟨_,rfl⟩
theorem st_in {ma mb:ME}(ha:SE X a ma)(hb:SE X b mb)(hm:autoParam (behindInMarks .In b=false) zu2._auto_1):STt X (.Compare a [.In] [b] pos) (tTru (m2 dIn ma mb)):=zjg zkY (v2_in false) (bl_in false) ha hb hm
end M
namespace M
open L2 PySem PySem.Spec
open PyProof.Rows hiding St
open Sem (wp)
variable {b N i:Nat} {a it l:Addr} {t:Bool} {h h':Heap} {Q:Value->Shared->Prop} {xs:Array Value}
theorem nin2 {b x y z:Nat}(h:b∈[x,y])(h1:x≠z)(h2:y≠z):b≠z:=by
 simp at h
 rcases h with rfl|rfl<;>assumption
theorem nA {N a b:Nat}(h:a≠b):N+a≠N+b:=fun e=>h (Nat.add_left_cancel e)
theorem nB (h:0≠b):N≠N+b:=fun e=>h (Nat.add_left_cancel (show N+0=N+b from e))
theorem nC (h:b≠0):N+b≠N:=fun e=>h (Nat.add_left_cancel (show N+b=N+0 from e))
theorem nL {a N b:Nat}(h:a<N):a≠N+b:=Nat.ne_of_lt (Nat.lt_of_lt_of_le h (Nat.le_add_right _ _))
theorem ne_ {a b:Nat}(h:a≠b):a≠b:=h
noncomputable def SrcIt:Bool->Heap->Addr->Addr->Nat->Prop
 |true,h,it,a,i=>h.IsTupleIter it a i
 |false,h,it,a,i=>h.IsListIter it a i
noncomputable def SrcH:Bool->Heap->Addr->Array Value->Prop
 |true,h,a,its=>h.IsTuple a its
 |false,h,a,its=>h.IsList a its
theorem SrcIt.at (x:SrcIt t h it a i)(e:∀o,h.get? it=some o->h'.get? it=some o):SrcIt t h' it a i:=by
 cases t
 ·exact Heap.IsListIter.at x e
 ·exact Heap.IsTupleIter.at x e
theorem SrcH.at {is:Array Value}(x:SrcH t h a is)(e:∀o,h.get? a=some o->h'.get? a=some o):SrcH t h' a is:=by
 cases t
 ·exact Heap.IsList.at x e
 ·obtain⟨o,ho,r⟩:=x;exact⟨o,e _ ho,r⟩
theorem SrcIt.obj (x:SrcIt t h it a i):∃o,h.get? it=some o/\∀v,o.data≠ .cell v:=by
 cases t<;>(obtain⟨o,e,c,d⟩:=x;exact⟨o,e,fun v z=>by rw[d]at z;cases z⟩)
theorem SrcH.lt {is:Array Value}(x:SrcH t h a is):a<h.objs.size:=by
 cases t<;>(obtain⟨o,e,_⟩:=x;exact Heap.lt_size e)
section
variable {prog:Program} {w:World} {A:Around} {E:Value->Shared->Prop} {s:Shared}
theorem zmO {items}(hit:s.heap.IsTupleIter it l i)(hl:s.heap.IsTuple l items)
  (k : (∃ x, items[i]? = some x /\ ∀ h', h'.IsTupleIter it l (i + 1) -> Heap.SameBut it s.heap h' -> Q x { s with heap := h' }) \/
   (items[i]? =none/\A.handled=none/\∀h' e,Heap.ExtBut it s.heap h'->(∃o,h'.get? e=some o/\o.cls= .type "StopIteration")->E (.ref e) {s with heap:=h'})):
  wpAny (model prog w) A (Builtin.SmallTypes.nextOf (.ref it)) Q E s:=by
 obtain⟨o,ho,hc,hd⟩:=id hit
 obtain⟨ol,hol,-,nl,hdl⟩:=hl
 have ne:¬((Value.ref l==Value.none)=true):=Bool.false_ne_true
 unfold Builtin.SmallTypes.nextOf
 refine wpAny_bind (wpAny_callSpecial?_slot (name:=Str.ofString "__next__") hit.typeIs slot_tupleiter_next (wpAny_call_entry slot_tupleiter_next hit.typeIs entry_tupleiter_next ?_ (args_tupleiter_next _)))
 refine(?_:wpAny _ _ (field (.ref it) 0>>=_) _ _ s)
 refine wpAny_bind (wpAny_field ho hd (x:= .ref l) rfl (?_:wpAny _ _ (if(Value.ref l==Value.none)=true then _ else _) _ _ s))
 rw[if_neg ne]
 refine(?_:wpAny _ _ (field (.ref it) 1>>=_) _ _ s)
 refine wpAny_bind (wpAny_field ho hd (x:= .int i 0) rfl (?_:wpAny _ _ (seqItems? (.ref l)>>=_) _ _ s))
 refine wpAny_bind (wpAny_seqItems hol hdl ?_)
 rcases k with⟨x,hx,k⟩|⟨hx,hh,k⟩<;>simp only[Int.toNat_natCast,hx]
 ·have upd:∀h':Heap,h'.get? it=some (o.mapFields fun a=>a.setIfInBounds 1 (rawInt (((i:Nat):Int)+1)))->h'.IsTupleIter it l (i+1):=fun h' e=>⟨_,e,(Obj.cls_mapFields ..).trans hc,by rw[Obj.data_mapFields hd];simp[rawInt]⟩
  refine wpAny_bind (wpAny_setField ho hd (by simp) (wpAny_pure ⟨x,rfl,wpAny_pure (k _ ?_ (Heap.SameBut.update ..))⟩))
  refine⟨_,Heap.get?_update_self _ ho (Obj.isFreed_of_fields (Obj.data_mapFields hd _)),(Obj.cls_mapFields ..).trans hc,?_⟩
  rw[Obj.data_mapFields hd]
  simp[rawInt]
 ·refine wpAny_bind (wpAny_rule (wpAny_bind (wpAny_setField ho hd (by simp) (?_:wpAny _ _ (newExc (.type "StopIteration") []>>=_) _ _ _))))
  refine wpAny_bind ?_
  simp only[newExc,newTuple]
  refine wpAny_bind (wpAny_newObj_type (wpAny_bind (m:=firstArgMember _ _) (wpAny_of_eq (a:=Value.none) (by first|rfl|(simp only[firstArgMember];rfl)) (wpAny_newObj_type ?_ (by size_fits)))) (by size_fits))
  simp only[raiseNew]
  refine wpAny_bind (wpAny_handled ?_)
  first|rw[show A.in1.handled=none from hh]|rw[hh]
  exact wpAny_bind (wpAny_pure (wpAny_throw (k _ _ (((Heap.SameBut.update ..).extBut.push _).push _) ⟨_,Heap.get?_push_size _ rfl,rfl⟩)))
theorem zdU (hh:A.handled=none)(it l:Addr)(hne:l≠it)(items:Array Value):Draws prog w A it [it,l] items.size (fun i v=>items[i]? =some v) (fun i h=>SrcIt t h it l i/\SrcH t h l items):=by
 cases t
 ·exact Draws.list hh it l hne items
 ·refine⟨fun _ _ st=>?_,fun _ _ _ st hk=>⟨SrcIt.at st.1 fun o e=>hk it (by simp) o e,SrcH.at st.2 fun o e=>hk l (by simp) o e⟩,fun i s Q E hi st hQ=>?_,fun s Q E st hE=>zmO st.1 st.2 (.inr ⟨by simp,hh,hE⟩)⟩
  ·obtain⟨o,e,-⟩:=SrcIt.obj st.1
   exact⟨o,e⟩
  ·exact zmO st.1 st.2 (.inl ⟨items[i],by simp[hi],fun h' a b=>hQ _ h' s.toks (by simp[hi]) ⟨a,SrcH.at st.2 fun o e=>(b.2 l hne).trans e⟩ b⟩)
noncomputable def srcO (t:Bool)(a:Addr):Obj:={cls:= .type (if t then "tuple_iterator" else "list_iterator"),data:= .fields #[.ref a,.int 0 0]}
theorem zlP (e:h.get? it=some (srcO t a)):SrcIt t h it a 0:=by
 cases t<;>exact⟨_,e,rfl,rfl⟩
theorem ziu (t:Bool)(a:Addr):(srcO t a).isFreed=false:=by cases t<;>rfl
theorem zfY {items}(hl:SrcH t s.heap a items)(hQ:Q (.ref s.heap.objs.size) {s with heap:=s.heap.push (srcO t a)}):
  wpAny (model prog w) A (pyIter (.ref a)) Q E s:=by
 cases t
 ·exact wpAny_pyIter_list hl hQ
 ·exact wpAny_pyIter_tuple hl hQ
end
noncomputable abbrev tup_ (vs:Array Value):Obj:={cls:= .type "tuple",data:= .seq vs}
noncomputable abbrev zip_ (ti to:Addr):Obj:={cls:= .type "zip",data:= .fields #[.none,.bool false,.bool false,.ref ti,.ref to]}
noncomputable abbrev z2a (h:Heap)(t1 t2:Bool)(l1 l2:Addr):Heap:=(h.push (srcO t1 l1)).push (srcO t2 l2)
noncomputable abbrev z2b (h:Heap)(t1 t2:Bool)(l1 l2:Addr):Heap:=(z2a h t1 t2 l1 l2).push (tup_ #[.ref h.objs.size,.ref (h.push (srcO t1 l1)).objs.size])
noncomputable abbrev z2c (h:Heap)(t1 t2:Bool)(l1 l2:Addr):Heap:=(z2b h t1 t2 l1 l2).push (tup_ #[.none,.none])
noncomputable abbrev z2d (h:Heap)(t1 t2:Bool)(l1 l2:Addr):Heap:=(z2c h t1 t2 l1 l2).push (zip_ (z2a h t1 t2 l1 l2).objs.size (z2b h t1 t2 l1 l2).objs.size)
theorem znm (t1 t2:Bool)(l1 l2:Addr)(xs ys:Array Value):Meets (Builtin.«zip.__new__» ⟨[.type "zip",.ref l1,.ref l2],[]⟩) (fun _ R s=>SrcH t1 s.heap l1 xs/\SrcH t2 s.heap l2 ys/\
   R (.ok (.ret (.ref (z2c s.heap t1 t2 l1 l2).objs.size))) {s with heap:=z2d s.heap t1 t2 l1 l2}):=
 .of_wp fun prog w A R s h=>by
  obtain⟨hp,g,d,tk,os⟩:=s
  obtain⟨b1,b2,h⟩:=h
  have hsub:=sub_zip
  have L1:SrcH t1 (Shared.heap ⟨hp,g,d,tk,os⟩) l1 xs:=b1
  have L2:SrcH t2 (Shared.heap ⟨hp.push (srcO t1 l1),g,d,tk,os⟩) l2 ys:=SrcH.at b2 fun o e=>Heap.get?_push_of_some _ e
  wp_walk using zfY L1,zfY L2
  exact⟨_,rfl,h⟩
section
variable {prog:Program} {w:World} {A:Around} {E:Value->Shared->Prop} {s:Shared}
theorem zpj {t1 t2:Bool}{l1 l2:Addr}{xs ys:Array Value}(h1:SrcH t1 s.heap l1 xs)(h2:SrcH t2 s.heap l2 ys)
  (k : ∀ h', IsZip h' (s.heap.objs.size + 4) (s.heap.objs.size + 2) (s.heap.objs.size + 3) .none -> IsPair h' (s.heap.objs.size + 2) (.ref s.heap.objs.size) (.ref (s.heap.objs.size + 1)) ->
   IsPair h' (s.heap.objs.size+3) .none .none->SrcIt t1 h' s.heap.objs.size l1 0->SrcIt t2 h' (s.heap.objs.size+1) l2 0->
   (∀c o,s.heap.get? c=some o->h'.get? c=some o)->Q (.ref (s.heap.objs.size+4)) {s with heap:=h'}):wpAny (model prog w) A (call (.type "zip") [.ref l1,.ref l2]) Q E s:=by
 refine callType_new F.called_zip (by decide) (F.typeCall_zip_2 _ _) (F.newCall_zip_2 _ _) (fun obj=>F.args_object_init_3 obj _ _) F.entry_zip_new (znm t1 t2 l1 l2 xs ys) ⟨h1,h2,(?_:_/\_)⟩
 have y1:(s.heap.push (srcO t1 l1)).objs.size=s.heap.objs.size+1:=Heap.size_push ..
 have y2:(z2a s.heap t1 t2 l1 l2).objs.size=s.heap.objs.size+2:=by rw[Heap.size_push,y1]
 have y3:(z2b s.heap t1 t2 l1 l2).objs.size=s.heap.objs.size+3:=by rw[Heap.size_push,y2]
 have y4:(z2c s.heap t1 t2 l1 l2).objs.size=s.heap.objs.size+4:=by rw[Heap.size_push,y3]
 have g5:(z2d s.heap t1 t2 l1 l2).get? (z2c s.heap t1 t2 l1 l2).objs.size=some _:=Heap.get?_push_size _ rfl
 have g4:(z2d s.heap t1 t2 l1 l2).get? (z2b s.heap t1 t2 l1 l2).objs.size=some _:=Heap.get?_push_of_some _ (Heap.get?_push_size _ rfl)
 have g3:(z2d s.heap t1 t2 l1 l2).get? (z2a s.heap t1 t2 l1 l2).objs.size=some _:=Heap.get?_push_of_some _ (Heap.get?_push_of_some _ (Heap.get?_push_size _ rfl))
 have g2:(z2d s.heap t1 t2 l1 l2).get? (s.heap.push (srcO t1 l1)).objs.size=some (srcO t2 l2):=Heap.get?_push_of_some _ (Heap.get?_push_of_some _ (Heap.get?_push_of_some _ (Heap.get?_push_size _ (ziu ..))))
 have g1:(z2d s.heap t1 t2 l1 l2).get? s.heap.objs.size=some (srcO t1 l1):=Heap.get?_push_of_some _ (Heap.get?_push_of_some _ (Heap.get?_push_of_some _ (Heap.get?_push_of_some _ (Heap.get?_push_size _ (ziu ..)))))
 rw[y2,y3,y4]at g5
 rw[y1,y2]at g3
 rw[y3]at g4
 rw[y1]at g2
 rw[y4]
 exact⟨⟨_,g5,rfl⟩,k _ g5 g3 g4 (zlP g1) (zlP g2) fun c o x=>Heap.get?_push_of_some _ (Heap.get?_push_of_some _ (Heap.get?_push_of_some _ (Heap.get?_push_of_some _ (Heap.get?_push_of_some _ x))))⟩
noncomputable abbrev en_ (it:Addr):Obj:={cls:= .type "enumerate",data:= .fields #[.none,.bool false,.ref it,rawInt 0,.none,.none]}
theorem zm1 (t:Bool)(l:Addr)(o:Obj)(xs:Array Value):Meets (Builtin.«enumerate.__new__» ⟨[.type "enumerate",.ref l],[]⟩) (fun _ R s=>s.heap.get? l=some o/\SrcH t s.heap l xs/\
   R (.ok (.ret (.ref (s.heap.push (srcO t l)).objs.size))) {s with heap:=(s.heap.push (srcO t l)).push (en_ s.heap.objs.size)}):=
 .of_wp fun prog w A R s h=>by
  obtain⟨hp,g,d,tk,os⟩:=s
  obtain⟨hl,b,h⟩:=h
  have hsub:=sub_enumerate
  have hL:SrcH t (Shared.heap ⟨hp,g,d,tk,os⟩) l xs:=b
  wp_walk using AutoSeq1.wpAny_loadPart' hl
  refine wpAny_stack_any fun st=>wpAny_pure ?_
  split
  ·rename_i c _ _ _ _ _
   cases(c==Value.type "enumerate")<;>(wp_walk using AutoSeq1.wpAny_loadPart' hl,zfY hL;exact⟨_,rfl,h⟩)
  ·wp_walk using AutoSeq1.wpAny_loadPart' hl,zfY hL
   exact⟨_,rfl,h⟩
theorem znN (h1:SrcH t s.heap l xs)
  (k:∀h',IsEnum h' (s.heap.objs.size+1) s.heap.objs.size 0 .none->SrcIt t h' s.heap.objs.size l 0->(∀b o,s.heap.get? b=some o->h'.get? b=some o)->Q (.ref (s.heap.objs.size+1)) {s with heap:=h'}):
  wpAny (model prog w) A (call (.type "enumerate") [.ref l]) Q E s:=by
 have⟨o,ho⟩:∃o,s.heap.get? l=some o:=by cases t<;>(obtain⟨o,e,-⟩:=h1;exact⟨o,e⟩)
 refine callType_new F.called_enumerate (by decide) (F.typeCall_enumerate_1 _) (F.newCall_enumerate_1 _) (fun obj=>F.args_object_init_2 obj _) F.entry_enumerate_new (zm1 t l o xs) ⟨ho,h1,(?_:_/\_)⟩
 have y1:(s.heap.push (srcO t l)).objs.size=s.heap.objs.size+1:=Heap.size_push ..
 have g2:((s.heap.push (srcO t l)).push (en_ s.heap.objs.size)).get? (s.heap.push (srcO t l)).objs.size=some _:=Heap.get?_push_size _ rfl
 have g1:((s.heap.push (srcO t l)).push (en_ s.heap.objs.size)).get? s.heap.objs.size=some (srcO t l):=Heap.get?_push_of_some _ (Heap.get?_push_size _ (ziu ..))
 rw[y1]at g2
 rw[y1]
 exact⟨⟨_,g2,rfl⟩,k _ g2 (zlP g1) fun b o x=>Heap.get?_push_of_some _ (Heap.get?_push_of_some _ x)⟩
end
end M
namespace M
local macro_rules | `(tactic| ac_rfl) => `(tactic| first | exact M.nA (by decide) | exact M.nB (by decide) | exact M.nC (by decide) | exact M.nL (by assumption) | exact Nat.ne_of_lt (by assumption) | lia)
open L2 PySem PySem.Spec
open PyProof.Rows hiding St
open Sem (wp)
variable {t' ek:Nat} {h':Heap} {fp:List Addr} {vs xs:List V} {its:List Value} {t:Bool} {X:Cx} {pins:List (Addr×Obj)} {σ:St} {H:Hp} {s:Shared} {a:Addr} {K:W.Frag} {elts:List Expr} {ep p pos:Pos} {es:List D}
section
variable {X:Cx} {pins:List (Addr×Obj)} {σ:St} {H:Hp} {s:Shared}
theorem zlF (I:Inv X pins σ H s)(k:∀b o,b∉fp->s.heap.get? b=some o->h'.get? b=some o)(hf:∀b∈fp,FpOk X pins H b):Inv X pins σ H {s with heap:=h',toks:=t'}:=by
 have nit:∀b u,H b=some u->b∉fp:=fun b u e z=>by rw[(hf b z).1]at e;cases e
 refine I.step (g':=s.gens) (d':=s.drawn) (ch:=fp) (fun b hb=>?_) (fun b o _ _ hc e _=>k b o hc e) (fun b o _ _ hc e _=>⟨o.slots,k b o hc e⟩) (fun _ _ _ _ n=>n)
  (fun b o hc e=>⟨o,k b o hc e⟩) (fun _ _ e=>e) (fun _ _ _ e=>e) (fun b ps e=>e) (fun m hm=>?_) (fun b u e=>?_) I.bare
 ·obtain⟨f0,f1,f2,f3,f4,f5⟩:=hf b hb
  exact⟨f3,f1,f4,f5⟩
 ·obtain⟨o,es,ep,ho,r⟩:=hm
  exact⟨o,es,ep,k _ o (fun z=>(hf _ z).2.1 rfl) ho,r⟩
 ·refine(I.hok b u e).stay (fun c v hc q=>k c v ?_ q) (fun _ q=>q) (fun _ _ q=>q) fun _ _ _ q=>q
  rcases hc with z|z
  ·rw[z];exact nit b u e
  ·exact nit c _ z
theorem zoX {t':Nat}{h':Heap}{fp:List Addr}(I:Inv X pins σ H s)(k:∀b o,b∉fp->s.heap.get? b=some o->h'.get? b=some o)(hf:∀b∈fp,FpOk X pins H b)(hl:∀b∈fp,b<s.heap.objs.size)
  (hT:h'.get? s.heap.objs.size=some (tup_ its.toArray)) (hz:vs.length<=sizeLine) (r:Vals vs its):Inv X pins σ (upd H s.heap.objs.size (.tup vs)) {s with heap:=h',toks:=t'}:=by
 have I1:=I.laid (t':=s.toks) (a:=s.heap.objs.size) (o:= .tup vs) (h':=s.heap.push (tup_ its.toArray)) (fun b u q=>Heap.get?_push_of_some _ q) (Nat.le_refl _) ⟨hz,its,r,L2.IsTupD.new _ _⟩
 refine zlF (s:={s with heap:=s.heap.push (tup_ its.toArray),toks:=s.toks}) (t':=t') (fp:=fp) I1 (fun b o hb e=>?_) fun b hb=>?_
 ·have e':(s.heap.push (tup_ its.toArray)).get? b=some o:=e
  rcases Heap.get?_push_cases e' with⟨rfl,rfl⟩|q
  ·exact hT
  ·exact k b o hb q
 ·obtain⟨f0,fr⟩:=hf b hb
  refine⟨?_,fr⟩
  rw[zap (Nat.ne_of_lt (hl b hb))]
  exact f0
end
noncomputable def SrcSq (t:Bool)(K:W.Frag)(H:Hp)(a:Addr)(xs:List V):Prop:=match t with
 |true=>SqT K H a xs
 |false=>SqL K H a xs
theorem SrcSq.heap (I:Inv X pins σ H s)(h:SrcSq t X.K H a xs):∃its:List Value,Vals xs its/\SrcH t s.heap a its.toArray/\xs.length<=sizeLine:=by
 cases t
 ·obtain⟨its,r,p,z⟩:=I.list h
  exact⟨its,r,p.isList,z⟩
 ·obtain⟨its,r,p,z⟩:=I.tuple h
  exact⟨its,r,p,z⟩
theorem SrcSq.inj {xs ys:List V}(I:Inv X pins σ H s)(h:SrcSq t X.K H a xs)(h':SrcSq t X.K H a ys):xs=ys:=by
 cases t
 ·exact I.list_inj h h'
 ·exact I.tuple_inj h h'
noncomputable def Itz2 (K:W.Frag)(t1:Bool)(a1:Addr)(t2:Bool)(a2:Addr)(n:Nat):It where
 go:=fun i H=>i<n/\∃xs ys,SrcSq t1 K H a1 xs/\SrcSq t2 K H a2 ys/\n=min xs.length ys.length
 yld:=fun i H x H'=>∃p x1 x2,H p=none/\H'=upd H p (.tup [x1,x2])/\x= .ref p/\∀xs ys,SrcSq t1 K H a1 xs->SrcSq t2 K H a2 ys->xs[i]? =some x1/\ys[i]? =some x2
 stop:=fun i H=>n<=i/\∃xs ys,SrcSq t1 K H a1 xs/\SrcSq t2 K H a2 ys/\n=min xs.length ys.length
theorem nin4 {c N:Nat}(h:c∉([N,N+1,N+2,N+3,N+4]:List Nat)):c≠N/\c≠N+1/\c≠N+3/\c≠N+4:=
 ⟨fun e=>h (e ▸ .head _),fun e=>h (e ▸ .tail _ (.head _)),fun e=>h (e ▸ .tail _ (.tail _ (.tail _ (.head _)))),fun e=>h (e ▸ .tail _ (.tail _ (.tail _ (.tail _ (.head _)))))⟩
noncomputable def Ite (K:W.Frag)(t1:Bool)(a1:Addr)(n:Nat):It where
 go:=fun i H=>i<n/\∃xs,SrcSq t1 K H a1 xs/\n=xs.length
 yld:=fun i H x H'=>∃p x1,H p=none/\H'=upd H p (.tup [.int i,x1])/\x= .ref p/\∀xs,SrcSq t1 K H a1 xs->xs[i]? =some x1
 stop:=fun i H=>n<=i/\∃xs,SrcSq t1 K H a1 xs/\n=xs.length
theorem zpi {P:Program}{w:World}(t1:Bool)(a1:Nat)(n N:Nat)(l1:a1<N):
  Turn P w K (.Tuple elts ek ep) (Ite K t1 a1 n) ([N+1,N]:List Nat) (N+1:Nat) (fun i h=>i<=n/\(∃old,IsEnum h (N+1:Nat) N i old)/\SrcIt t1 h N a1 i) where
 mem:=by simp
 obj:=fun i h st b hb=>by
  obtain⟨-,⟨old,h1⟩,h0⟩:=st
  simp only[List.mem_cons,List.not_mem_nil,or_false]at hb
  rcases hb with rfl|rfl
  ·exact⟨_,h1,fun v z=>by cases z⟩
  ·exact h0.obj
 keep:=fun i h h' st k=>by
  obtain⟨hi,⟨old,h1⟩,h0⟩:=st
  exact⟨hi,⟨old,k _ (by simp) _ h1⟩,h0.at fun o e=>k _ (by simp) o e⟩
 item:=by
  intro X hP hw hK hc i pins s σ H E I hf st hg
  subst hP hw hK
  obtain⟨hi,⟨old,h1⟩,h0⟩:=st
  obtain⟨hn,xs,q1,en⟩:=hg
  obtain⟨us,ru,hu,zu⟩:=q1.heap I
  have lu:=ru.length
  have D1:=zdU (prog:=X.prog) (w:=X.w) (A:=X.A.in1) (t:=t1) (I.ok.hd hc) N a1 (ne_ (by ac_rfl)) us.toArray
  refine wpAny_pyNext_enum_itemD D1 h1 ⟨h0,hu⟩ (by simp;lia) (ne_ (by ac_rfl)) (fun z=>nin2 (z:=N+1) z (by lia) (by lia) rfl) fun x h' tk p1 ho g0 gT gz kk=>?_
  obtain⟨x1,hx1⟩:∃x1,xs[i]? =some x1:=⟨xs[i]'(by lia),List.getElem?_eq_getElem _⟩
  obtain⟨u1,hu1,r1⟩:=ru.get hx1
  have e1:u1=x:=by
   have:us[i]? =some x:=by simpa using p1
   rw[hu1]at this;cases this;rfl
  subst e1
  refine⟨_,rfl,wpAny_letOwnedTupleGo_enum (s:={s with heap:=h',toks:=tk+1}) ho fun h'' he' sb=>?_⟩
  replace sb:Heap.SameBut (N+1:Nat) h' h'':=sb
  have lz:N+1<s.heap.objs.size:=Heap.lt_size h1
  have kk':∀b o,b∉([N+1,N]:List Nat)->s.heap.get? b=some o->h''.get? b=some o:=fun b o hb e=>
   (sb.2 b fun z=>hb (by simp[z])).trans (kk b o (fun z=>hb (by simp[z])) (fun z=>hb (by simp[z])) e)
  have I1:=zoX (t':=tk+1) (vs:=[.int i,x1]) (its:=[.int i tk,u1]) I kk' hf (fun b hb=>by
   have:b=N+1\/b=N:=by simpa using hb
   exact Nat.lt_of_le_of_lt (show(b:Nat)<=N+1 by rcases this with h|h<;>rw[h]<;>simp) lz) ((sb.2 _ (ne_ (by ac_rfl))).trans gT) (by simp;rw[sizeLine_eq];decide) (.cons ⟨_,rfl⟩ (.cons r1 .nil))
  refine⟨.ref s.heap.objs.size,_,I1,rfl,⟨_,x1,I.hok.fresh (Nat.le_refl _),rfl,rfl,fun xs' b1=>?_⟩,⟨hn,⟨_,by simpa using he'⟩,SrcIt.at g0.1 fun o e=>(sb.2 _ (ne_ (by ac_rfl))).trans e⟩,fun b hb=>?_⟩
  ·rw[SrcSq.inj I b1 q1]
   exact hx1
  ·have:b=N+1\/b=N:=by simpa using hb
   rw[zap (Nat.ne_of_lt (Nat.lt_of_le_of_lt (show(b:Nat)<=N+1 by rcases this with h|h<;>rw[h]<;>simp) lz))]
   exact(hf b hb).1
 done:=by
  intro X hP hw hK hc i pins s σ H E I hf st hg
  subst hP hw hK
  obtain⟨hi,⟨old,h1⟩,h0⟩:=st
  obtain⟨hn,xs,q1,en⟩:=hg
  obtain⟨us,ru,hu,zu⟩:=q1.heap I
  have lu:=ru.length
  have D1:=zdU (prog:=X.prog) (w:=X.w) (A:=X.A.in1) (t:=t1) (I.ok.hd hc) N a1 (ne_ (by ac_rfl)) us.toArray
  have W:=WalksT.enumerateD D1 (N+1:Nat) (ne_ (by ac_rfl)) (fun z=>nin2 (z:=N+1) z (by lia) (by lia) rfl) (by simp)
  have ei:i=us.toArray.size:=by simp;lia
  subst ei
  exact W.done s _ _ ⟨⟨old,h1⟩,h0,hu⟩ fun h' tk kk=>⟨rfl,zlF I kk hf⟩
 self:=fun _ _ _ _ _ st h=>by
  obtain⟨hi,⟨old,h1⟩,h0⟩:=st
  exact wpAny_pyIter_enum h1 h
theorem boot_zip:bootBuiltins "zip"=some (.type "zip"):=by decide+kernel
theorem ziW:bootBuiltins "enumerate"=some (.type "enumerate"):=by decide+kernel
section
variable {X:Cx} {elts:List Expr} {ek:Nat} {ep:Pos}
theorem pi_enum {a:Expr}{ta:TA}(hg:Gl X "enumerate")(hm:X.mg "enumerate"=none)(ha:PA X [a] ta)(hs:autoParam (starEach [a] X.env=(false,eval a X.env)::starEach [] X.env) zu2._auto_1)(hs2:autoParam ((backTo pos (starEach [] X.env)).any (·.1)=false) zu2._auto_1):
  PI X (.Tuple elts ek ep) (.Call (.Name "enumerate" p) [a] [] pos) (fun σ H R=>ta σ H fun vs H1=>∃t1 a1 xs,vs=[.ref a1]/\SrcSq t1 X.K H1 a1 xs/\R (Ite X.K t1 a1 xs.length) H1):=by
 intro pins s σ H R I h
 refine Call_ (zgK I hg hm ziW (PyProof.Rows.callWith_type1 (thn (ha pos pins s σ H _ I h) fun us s1 ⟨vs,H1,I1,r1,q1⟩=>?_) hs hs2))
 obtain⟨t1,a1,xs,e,q1,q⟩:=q1
 subst e
 cases r1 with
 |cons r rr=>
  cases rr
  cases r
  obtain⟨us,ru,hu,-⟩:=q1.heap I1
  refine znN hu fun h' g1 g0 kk=>wpAny_pyIter_enum g1 ⟨_,_,_,_,H1,rfl,I1.kept (t':=s1.toks) kk,zpi t1 a1 xs.length s1.heap.objs.size hu.lt,⟨Nat.zero_le _,⟨_,g1⟩,g0⟩,fun b hb=>?_,q⟩
  have:b=s1.heap.objs.size+1\/b=s1.heap.objs.size:=by simpa using hb
  have le:s1.heap.objs.size<=b:=by rcases this with h|h<;>rw[h]<;>simp
  exact I1.fpOk le (I1.hok.fresh le)
end
theorem zpz {G:Hp}{x:V}{d:D}(r:RepD K G x d)(e:za4 [d]=some es):∃t a xs,x= .ref a/\(∀H,Fz G H->SrcSq t K H a xs)/\RepL K G xs es:=by
 cases d<;>simp only[za4]at e<;>try cases e
 ·obtain⟨a,xs,rfl,ha,r⟩:=r
  exact⟨false,a,xs,rfl,fun H f=>SqL.of (f _ _ ha),r⟩
 ·obtain⟨a,xs,rfl,ha,r⟩:=r
  exact⟨true,a,xs,rfl,fun H f=>SqT.of (f _ _ ha),r⟩
 ·obtain⟨a,rfl,ha⟩:=r
  exact⟨false,a,_,rfl,fun H f=>f.sql ha,RepL.ints _⟩
noncomputable def zlZ (xs ys:List D):List D:=List.zipWith (fun x y=>D.tup [x,y]) xs ys
noncomputable def zip3D (xs ys zs:List D):List D:=List.zipWith (fun x (p:D×D)=>D.tup [x,p.1,p.2]) xs (List.zip ys zs)
noncomputable def zlp (xs:List D):List D:=List.zipWith (fun x (i:Nat)=>D.tup [.int i,x]) xs (List.range xs.length)
noncomputable def iZ2 (ma:MA):MA:=fun ρ=>(ma ρ).bind fun p=>match p.1 with
 |[a,b]=>(za4 [a]).bind fun xs=>(za4 [b]).bind fun ys=>some (zlZ xs ys,p.2)
 |_=>none
noncomputable def iEn (ma:MA):MA:=fun ρ=>(ma ρ).bind fun p=>(za4 p.1).map fun xs=>(zlp xs,p.2)
theorem zeg {a:Expr}{ma:MA}(hm:X.mg "enumerate"=none)(ha:SA X [a] ma)(hg:autoParam (Gl X "enumerate") zu2._auto_1)(hs:autoParam (starEach [a] X.env=(false,eval a X.env)::starEach [] X.env) zu2._auto_1)(hs2:autoParam ((backTo pos (starEach [] X.env)).any (·.1)=false) zu2._auto_1):
  SIt X (.Tuple elts ek ep) (.Call (.Name "enumerate" p) [a] [] pos) (iEn ma):=by
 obtain⟨t,pa,sa⟩:=ha
 refine⟨_,pi_enum hg hm pa hs hs2,fun B G H σ ρ ds ρ' Q I hm k=>?_⟩
 obtain⟨⟨es,ρ1⟩,e1,h2⟩:=zag hm
 obtain⟨xs,ex,h2⟩:=zav h2
 cases h2
 refine sa B G H σ ρ es ρ1 _ I e1 fun G1 H1 vs I1 f1 r1=>?_
 match es,ex,r1 with
 |[],ex,_=>cases ex
 |_::_::_,ex,_=>exact absurd ex (by simp[za4])
 |[d],ex,r1=>
  obtain⟨x,rfl,rx⟩:=r1.one
  obtain⟨t1,a1,us,rfl,s1,c1⟩:=zpz rx ex
  have n1:=c1.length
  refine⟨t1,a1,us,rfl,s1 _ I1.fz,k _ G1 H1 I1 f1 ⟨fun H i f hi=>?_,fun H i x H' f y d e=>?_,fun H i f hi=>?_⟩⟩
  ·exact⟨by simp[zlp]at hi;lia,us,s1 _ f,rfl⟩
  ·obtain⟨p,x1,hp,eh,ex',q⟩:=y
   have q1:=q us (s1 _ f)
   have hi:i<us.length:=(List.getElem?_eq_some_iff.mp q1).1
   have g1:xs[i]? =some (xs[i]'(by lia)):=List.getElem?_eq_getElem _
   simp only[zlp,List.getElem?_zipWith]at e
   rw[g1,show(List.range xs.length)[i]? =some i from by rw[List.getElem?_range (by lia)]]at e
   cases e
   obtain⟨v1,b1,r1⟩:=c1.get g1
   rw[q1]at b1;cases b1
   exact .inr ⟨p,_,_,hp,eh,ex',rfl,⟨_,_,rfl,rfl,_,_,rfl,r1,rfl⟩⟩
  ·exact⟨by simp[zlp]at hi;lia,us,s1 _ f,rfl⟩
end M
namespace M
open L2 PySem PySem.Spec
open PyProof.Rows hiding St
theorem zmp {X:Cx}{st:Stmt}:SS X st (fun _=>none):=⟨_,ps_never,fun B G H σ ρ fl ρ' E I hm k=>by cases hm⟩
noncomputable def rIndex (K:W.Frag):V->List V->Hp->VK->Prop:=fun x vs H Q=>∃(l:Addr) (ns:List Int) (k:Int),x= .ref l/\vs=[.int k]/\SqL K H l (ns.map V.int)/\k∈ns/\Q (.int (ns.idxOf k:Nat)) H
theorem zmP {X:Cx}:MtR X "list.index" (rIndex X.K):=by
 intro pins s σ H x vs v us Q I rx rv h
 obtain⟨l,ns,k,rfl,rfl,hq,hk,q⟩:=h
 cases rx
 obtain⟨u,rfl,t,rfl⟩:=rv.one
 obtain⟨its,r,p,hz⟩:=I.list hq
 have hi:=zbI r
 have hlen:=hi.length
 have hj:ns.idxOf k<ns.length:=List.idxOf_lt_length_iff.mpr hk
 have hb:ns.length<=sizeLine:=by simpa using hz
 rw[sizeLine_eq]at hb
 obtain⟨⟨cls,dd,data,sl⟩,ho,hc,n,hd⟩:=p.isList
 simp only at hc hd
 subst hc hd
 refine call_meets PySem.F.slot_list_index ⟨_,ho,rfl⟩ PySem.F.entry_list_index (PySem.F.args_list_index_2 _ _)
  (PySem.SeqAt.list_indexAt l its.toArray n dd sl (.int k t) (isInt k) (ns.idxOf k) (by simpa[hlen]using hj) (by lia) ?_ ?_) ⟨ho,fun y hy=>(eq_isInt k t hi y (by simpa using hy)).at _ _,⟨.int (ns.idxOf k:Nat),H,I.tok _,⟨_,rfl⟩,q⟩⟩
 ·show isInt k its[ns.idxOf k]=true
  rw[isInt_at k hi _ (by lia) hj]
  simpa using List.getElem_idxOf hj
 ·intro j hjs hlt
  show isInt k its[j]=false
  rw[isInt_at k hi j (by simpa using hjs) (by lia)]
  exact ne_of_lt_idxOf hlt _
noncomputable def ziH:D->D->Option D
 | .lst ds,.int k=>(zaG ds).bind fun ns=>if k∈ns then some (.int (ns.idxOf k:Nat))else none
 |_,_=>none
theorem se_index {X:Cx}{o e:Expr}{mo me:ME}{apos cpos:Pos}(ho:SE X o mo)(he:SE X e me)
  (hbase:autoParam (attributeBase o "index" X.env (eval o X.env)=eval o X.env) zu2._auto_1)
  (hfew :autoParam (((backTo cpos (starEach [e] X.env)).all (fun x => !x.1) && (backToKw cpos (keywordEach [] X.env)).all (fun x => x.1.isSome)
   &&decide ([e].length+([]:List Keyword).length+(if([]:List Keyword).isEmpty then 0 else 1)<30))=true) zu2._auto_1)
  (hline:autoParam ((apos.endLine==cpos.line)=true) zu2._auto_1) (hs:autoParam (starEach [e] X.env=(false,eval e X.env)::starEach [] X.env) zu2._auto_1):SE X (.Call (.Attribute o "index" apos) [e] [] cpos) (m2 ziH mo me):=by
 obtain⟨to,po,so⟩:=ho
 obtain⟨te,pe,se⟩:=he
 refine⟨_,zny PySem.F.plainAttrs_list PySem.F.slot_list_index PySem.F.type_list_index zmP po (za7 pe zcQ hs) hbase hfew hline hs rfl,fun B G H σ ρ d ρ' Q I hm k=>?_⟩
 obtain⟨⟨d1,ρ1⟩,e1,hm⟩:=zag hm
 obtain⟨⟨d2,ρ2⟩,e2,hm⟩:=zag hm
 obtain⟨d3,e3,hm⟩:=zav hm
 cases hm
 refine so B G H σ ρ d1 ρ1 _ I e1 fun G1 H1 v I1 f1 r1=>?_
 cases d1 with
 |lst ds=>
  cases d2 with
  |int i=>
   obtain⟨ns,e4,e3⟩:=zag e3
   obtain⟨a,xs,rfl,ha,rr⟩:=r1
   refine⟨.inl ⟨rfl,xs,SqL.of (I1.fz _ _ ha)⟩,?_⟩
   refine se B G1 H1 σ ρ1 _ ρ2 _ I1 e2 fun G2 H2 u I2 f2 r2=>?_
   cases(show u=V.int i from r2)
   split at e3
   ·rename_i hk
    cases e3
    cases zba e4
    have rl:=rr.mono f2
    have ex:xs=ns.map V.int:=RepL.ints_eq rl
    subst ex
    exact⟨a,ns,i,rfl,rfl,SqL.of (I2.fz _ _ (f2 _ _ ha)),hk,k G2 H2 _ I2 (f1.trans f2) rfl⟩
   ·cases e3
  |_=>cases e3
 |_=>cases e3
noncomputable def isN:D->Bool
 | .non=>true
 |_=>false
theorem isN_ok {K:W.Frag}{G:Hp}{x:V}{d:D}(r:RepD K G x d):decide (x= .non)=isN d:=by
 cases d with
 |non=>cases(show x=V.non from r);rfl
 |bl b=>cases(show x=V.bl b from r);rfl
 |int i=>cases(show x=V.int i from r);rfl
 |str s=>cases(show x=V.str s from r);rfl
 |lst ds=>obtain⟨a,xs,rfl,-⟩:=r;rfl
 |tup ds=>obtain⟨a,xs,rfl,-⟩:=r;rfl
 |scr ns=>obtain⟨a,rfl,-⟩:=r;rfl
 |exc c=>obtain⟨a,C,rfl,-⟩:=r;rfl
 |dic _ _=>obtain⟨a,ys,rfl,-⟩:=r;rfl
 |dit _ _=>obtain⟨a,ys,o,xs,rfl,-⟩:=r;rfl
noncomputable def zlX:D->D->Option D
 |a,.non=>some (.bl (!isN a))
 |_,_=>none
theorem v2_notN {X:Cx}:V2 X (fun x y H Q=>y= .non/\Q (.bl (!decide (x= .non))) H) zlX:=by
 intro B G H σ ρ x y a b d Q I ra rb hf k
 cases b<;>simp only[zlX]at hf<;>cases hf
 exact⟨rb,k G H _ I (Fz.refl G) (by rw[isN_ok ra];rfl)⟩
theorem bl_notN:∀x y d,zlX x y=some d->∃t,d= .bl t:=by
 intro x y d hf
 cases y<;>simp only[zlX]at hf<;>cases hf
 exact⟨_,rfl⟩
section
variable {X:Cx} {a b:Expr} {ma mb:ME} {pos:Pos}
theorem st_isNot (ha:SE X a ma)(hb:SE X b mb)(hm:autoParam (behindInMarks .IsNot b=false) zu2._auto_1):STt X (.Compare a [.IsNot] [b] pos) (tTru (m2 zlX ma mb)):=zjg op_notN v2_notN bl_notN ha hb hm
end
noncomputable def zlr (b:Nat)(ρ:R):Bool:=match ρ[b]? with
 |some (.par _)=>zdD (ρ.set b .emp)
 |_=>false
noncomputable def zoD (b:Nat)(ρ:R):List D:=match ρ[b]? with
 |some (.par cs)=>cs
 |_=>[]
noncomputable def znj (b:Nat)(g:D->R->Option R)(mt:MT)(me:ME):D->R->Option (Option D×R):=fun d ρ=>(g d ρ).bind fun ρ1=>(mt ρ1).bind fun p=>if p.1 then(me p.2).bind fun q=>if zlr b q.2 then some (some q.1,q.2)else none else if zlr b p.2 then some (none,p.2)else none
noncomputable def oLCM (cap:List Nat)(t b w:Nat)(mi:MA)(g:D->R->Option R)(mt:MT)(me:ME):MO:=fun ρ=>(mi ρ).bind fun p=>if p.1.length<=16777216 then
    ((fzL (cap.filter (· !=w)) p.2)[w]?).bind fun s=>s.items.bind fun cs=>(zeq (znj b g mt me) p.1 ((capR cap t (fzL (cap.filter (· !=w)) p.2)).set b (.par cs))).map fun q=>(q.1,(fzL (cap.filter (· !=w)) p.2).set w (s.put (zoD b q.2)))
  else none
theorem VS.setEmp {K:W.Frag}{G:Hp}{σ:St}{ρ:R}(h:VS K G σ ρ)(b:Nat):VS K G σ (ρ.set b .emp) where
 len:=by rw[List.length_set];exact h.len
 no:=by
  have h0:=h.no
  unfold zdD at*
  rw[List.all_eq_true]at*
  intro s hs
  rcases List.mem_or_eq_of_mem_set hs with z|z
  ·exact h0 s z
  ·rw[z]
 val:=fun i d e=>by
  rw[List.getElem?_set]at e
  split at e
  ·split at e
   ·cases e
   ·cases e
  ·exact h.val i d e
theorem VS.siP {K:W.Frag}{G H:Hp}{σ:St}{ρ:R}{b:Nat}{cs:List D}{l:Addr}{ys:List V}(h:VS K G σ (ρ.set b .emp))(fz:Fz G H)(hb:ρ[b]? =some (.par cs))(hs:σ[b]? =some (some (.ref l)))(gl:G l=none)(hl:H l=some (.lst ys))(r:RepL K G ys cs):SI K ⟨G,H,[(b,l)]⟩ G H σ ρ where
 fz:=fz
 g0:=Fz.refl G
 new:=fun b o e=> .inl (by show G b≠none;rw[e];simp)
 keep:=fun b o e _=>e
 there:=fun b e=>e
 ob:=fun i c m=>by
  have:i=b/\c=l:=by simpa using m
  rw[this.2]
  show H l≠none
  rw[hl];simp
 len:=by rw[h.len,List.length_set]
 slot:=fun i s e=>by
  by_cases z:i=b
  ·subst z
   rw[hb]at e;cases e
   exact⟨l,ys,hs,gl,hl,r,by simp⟩
  ·have e':(ρ.set b .emp)[i]? =some s:=by rw[List.getElem?_set_ne (Ne.symm z)];exact e
   cases s with
   |emp=>trivial
   |two _ _=>trivial
   |tre t=>exact absurd rfl ((zh3 h.no e').1 t)
   |ptr t=>exact absurd rfl ((zh3 h.no e').2 t)
   |val d=>exact h.val i d e'
   |own ds=>exact absurd ⟨_,ds,e',rfl⟩ (zhX h.no (i:=i))
   |par ds=>exact absurd ⟨_,ds,e',rfl⟩ (zhX h.no (i:=i))
 dis:=fun i j s t a hij e1 e2 w1 w2=>by
  have key:∀(i:Nat) (s:Sl) ov,ρ[i]? =some s->OwS K G H ov a s->i=b:=fun i s ov e w=>by
   by_cases z:i=b
   ·exact z
   ·exact absurd w (zmm h.no (show(ρ.set b .emp)[i]? =some s by rw[List.getElem?_set_ne (Ne.symm z)];exact e))
  exact hij ((key i s _ e1 w1).trans (key j t _ e2 w2).symm)
theorem VS.ofP {K:W.Frag}{B:Bs}{G H:Hp}{σ:St}{ρ:R}{b:Nat}{l:Addr}(I:SI K B G H σ ρ)(hO:B.O=[(b,l)])(h:zlr b ρ=true):∃cs ys,ρ[b]? =some (.par cs)/\σ[b]? =some (some (.ref l))/\G l=none/\H l=some (.lst ys)/\RepL K G ys cs/\VS K G σ (ρ.set b .emp):=by
 unfold zlr at h
 split at h
 ·rename_i cs e
  obtain⟨l',ys,h1,h2,h3,h4,h5⟩:=I.slot b _ e
  have hl:l'=l:=by rw[hO]at h5;simpa using h5
  subst hl
  refine⟨cs,ys,e,h1,h2,h3,h4,⟨by rw[List.length_set];exact I.len,h,fun i d e'=>?_⟩⟩
  rw[List.getElem?_set]at e'
  split at e'
  ·split at e'
   ·cases e'
   ·cases e'
  ·exact I.slot i _ e'
 ·cases h
structure LcP (K:W.Frag) (bk:Nat) (g:D->R->Option R) (mt:MT) (me:ME) (items all:List D) (ρf:R) (G2 H1:Hp) (DD l:Addr) (i:Nat) (σc:St) (Hc Gc:Hp) (ρc:R) (acc:List D) (xs:List V) (rest cs:List D) (ys:List V):Prop where
 fc:Fz G2 Gc
 fcH:Fz Gc Hc
 nw:∀b o,Gc b=some o->G2 b≠none\/H1 b=none
 kp:∀b o,b≠l->H1 b=some o->Hc b=some o
 gD:Gc DD=none
 hDc:Hc DD=some (.lst xs)
 ra:RepL K Gc xs acc
 hx:xs.length<=i
 eb:ρc[bk]? =some (.par cs)
 sb:σc[bk]? =some (some (.ref l))
 glc:Gc l=none
 hlc:Hc l=some (.lst ys)
 rlc:RepL K Gc ys cs
 vs:VS K Gc σc (ρc.set bk .emp)
 ec:zeq (znj bk g mt me) (items.drop i) ρc=some (rest,ρf)
 eall:all=acc++rest
section
variable {X:Cx} {elt iter tg:Expr} {ifs:List Expr} {scope:Scope} {pos:Pos} {N:List Str} {cap:List Nat} {t bk wk:Nat} {mi:MA} {g:D->R->Option R} {mt:MT} {me:ME}
theorem znU (hbw:cap[bk]? =some wk){wi:TI}{tg':Addr->Shared->Hp->List Addr->TG}{tt:Addr->Shared->Hp->List Addr->TT}{te:Addr->Shared->Hp->List Addr->TE}
    (si:∀B G H σ ρ ds ρ' (Q:It->Hp->Prop),SI X.K B G H σ ρ->mi ρ=some (ds,ρ')->(∀J G' H',SI X.K B G' H' σ ρ'->Fz G G'->Itm X.K J G' ds->Q J H')->wi σ H Q)
    (sg:∀C s H₀ fp B G H σ ρ v d ρ' (Q:St->Hp->Prop),SI X.K B G H σ ρ->RepD X.K G v d->g d ρ=some ρ'->(∀G' H' σ',SI X.K B G' H' σ' ρ'->Fz G G'->Q σ' H')->tg' C s H₀ fp v σ H Q)
    (st:∀C s H₀ fp B G H σ ρ d ρ' (Q:Bool->Hp->Prop),SI X.K B G H σ ρ->mt ρ=some (d,ρ')->(∀G' H',SI X.K B G' H' σ ρ'->Fz G G'->Q d H')->tt C s H₀ fp σ H Q)
    (se:∀C s H₀ fp B G H σ ρ d ρ' (Q:VK),SI X.K B G H σ ρ->me ρ=some (d,ρ')->(∀G' H' v,SI X.K B G' H' σ ρ'->Fz G G'->RepD X.K G' v d->Q v H')->te C s H₀ fp σ H Q):
    ∀B G H σ ρ ds ρ' (Q:VK),SI X.K B G H σ ρ->oLCM cap t bk wk mi g mt me ρ=some (ds,ρ')->
      (∀G' H' l xs,SI X.K B G' H' σ ρ'->Fz G G'->G' l=none->H' l=some (.lst xs)->RepL X.K G' xs ds->B.H l=none->Nw X.K G' H' σ ρ' l->Q (.ref l) H')->tLC (capσ cap t) wi tg' tt te σ H Q:=by
  intro B G H σ ρ ds ρ' Q I hm k
  obtain⟨⟨items,ρ1⟩,e1,hm⟩:=zag hm
  refine si B G H σ ρ items ρ1 _ I e1 fun J G1 H1 I1 f1 IT DD hD=>?_
  dsimp only at hm
  split at hm
  . rename_i hlen
    obtain⟨sw,ew,hm⟩:=zag hm
    obtain⟨cs0,qw,hm⟩:=zag hm
    obtain⟨⟨all,ρf⟩,e2,e3⟩:=zav hm
    obtain⟨rfl,rfl⟩:=Prod.mk.inj e3
    obtain⟨G2,I2,f2⟩:=SI.fzL (cap.filter (· !=wk)) I1
    have hDG:G2 DD=none:=I2.fz.free hD
    obtain⟨l,ys0,hσ,gl0,hl0,rl0⟩:=I2.wr ew qw
    have hlD:DD≠l:=(zax hl0 hD).symm
    have hb:bk<cap.length:=(List.getElem?_eq_some_iff.mp hbw).1
    have hbe:cap[bk]=wk:=(List.getElem?_eq_some_iff.mp hbw).2
    have hσb:(capσ cap t σ)[bk]? =some (some (.ref l)):=by
      unfold capσ
      rw[List.getElem?_append_left (by simpa using hb),List.getElem?_map,List.getElem?_eq_getElem hb,hbe]
      simp[hσ]
    have hcl:bk<(capR cap t (M.fzL (cap.filter (· !=wk)) ρ1)).length:=by unfold capR;simp;lia
    refine⟨fun i m σc Hc=>m=items.length-i/\i<=items.length/\∃Gc ρc acc xs rest cs ys,LcP X.K bk g mt me items all ρf G2 H1 DD l i σc Hc Gc ρc acc xs rest cs ys,
      ⟨items.length,by simp,Nat.zero_le _,G2,(capR cap t (M.fzL (cap.filter (· !=wk)) ρ1)).set bk (.par cs0),[],[],all,cs0,ys0,{fc:=Fz.refl _,fcH:=I2.fz.right hDG _,nw:=fun b o e=> .inl (by rw[e];simp),kp:=fun b o _ e=>by rw[zap (zax e hD)];exact e,gD:=hDG,hDc:=zas,ra:= .nil,hx:=Nat.le_refl _,eb:=by rw[List.getElem?_set];simp[hcl],sb:=hσb,glc:=gl0,hlc:=by rw[zap (zax hl0 hD)];exact hl0,rlc:=rl0,vs:=by rw[List.set_set];exact(cap_vs I2 cap t).setEmp bk,ec:=by simpa using e2,eall:=rfl}⟩,?_⟩
    rintro i m σc Hc ⟨rfl,hi,Gc,ρc,acc,xs,rest,cs,ys,J0⟩
    obtain⟨fc,fcH,nw,kp,gD,hDc,ra,hx,eb,sb,glc,hlc,rlc,vs,ec,eall⟩:=J0
    by_cases hlt:i<items.length
    . refine .inr ⟨IT.go Hc i (f2.trans (fc.trans fcH)) hlt,fun C s₀ H₀ fp x H' y=>?_⟩
      rw[List.drop_eq_getElem_cons hlt]at ec
      simp only[zeq]at ec
      obtain⟨⟨o,ρ3⟩,h3,ec⟩:=zag ec
      obtain⟨⟨rest2,ρ4⟩,h4,ec⟩:=zav ec
      obtain⟨rfl,rfl⟩:=Prod.mk.inj ec
      dsimp only at h4
      unfold znj at h3
      obtain⟨ρ5,h5,h3⟩:=zag h3
      obtain⟨⟨ok,ρ6⟩,h6,h3⟩:=zag h3
      dsimp only at h3
      have Ic:SI X.K ⟨Gc,Hc,[(bk,l)]⟩ Gc Hc σc ρc:=vs.siP fcH eb sb glc hlc rlc
      have fz2:Fz G1 Hc:=f2.trans (fc.trans fcH)
      have yy:=IT.yld Hc i x H' fz2 y items[i] (List.getElem?_eq_getElem hlt)
      have yy2:(H'=Hc/\RepD X.K Gc x items[i])\/∃p xs es,Hc p=none/\H'=upd Hc p (.tup xs)/\x= .ref p/\items[i]= .tup es/\RepL X.K Gc xs es:=by
        rcases yy with⟨a,b⟩|⟨p,xs,es,a,b,c,d,e⟩
        . exact .inl ⟨a,b.mono (f2.trans fc)⟩
        . exact .inr ⟨p,xs,es,a,b,c,d,e.mono (f2.trans fc)⟩
      obtain⟨G3,I3,f3,r3⟩:=Ic.yld yy2
      refine sg C s₀ H₀ fp _ G3 H' σc ρc x items[i] ρ5 _ I3 r3 h5 fun G4 H4 σ4 I4 f4=>st C s₀ H₀ fp _ G4 H4 σ4 ρ5 ok ρ6 _ I4 h6 fun G5 H5 I5 f5=>?_
      have facts:∀(G' H':Hp) (σ':St) (ρ':R),SI X.K ⟨Gc,Hc,[(bk,l)]⟩ G' H' σ' ρ'->(∀b o,G' b=some o->G2 b≠none\/H1 b=none)/\(∀b o,b≠l->H1 b=some o->H' b=some o)/\G' DD=none/\H' DD=some (.lst xs):=fun G' H' σ' ρ' I'=>by
        refine⟨fun b o e=>?_,fun b o ne e=>I'.keep b o (kp b o ne e) (by simp;exact ne),?_,I'.keep DD _ hDc (by simp;exact hlD)⟩
        . rcases I'.new b o e with h|h
          . have h:Gc b≠none:=h
            cases q:Gc b with
            |none=>exact absurd q h
            |some u=>exact nw b u q
          . refine .inr ?_
            cases q:H1 b with
            |none=>rfl
            |some u=>
              have hn:Hc b=none:=h
              have nb:b≠l:=fun z=>by rw[z,hlc]at hn;cases hn
              have:=kp b u nb q
              rw[hn]at this;cases this
        . cases q:G' DD with
          |none=>rfl
          |some u=>
            rcases I'.new DD u q with h|h
            . exact absurd gD h
            . rw[show Hc DD=none from h]at hDc;cases hDc
      cases ok with
      |false=>
        simp only[Bool.false_eq_true,if_false]at h3
        split at h3
        . rename_i hno
          cases h3
          obtain⟨a1,a2,a3,a4⟩:=facts G5 H5 σ4 _ I5
          obtain⟨cs',ys',w1,w2,w3,w4,w5,w6⟩:=VS.ofP I5 rfl hno
          exact⟨items.length-(i+1),by lia,rfl,hlt,G5,_,acc,xs,rest2,cs',ys',{fc:=fc.trans (f3.trans (f4.trans f5)),fcH:=I5.fz,nw:=a1,kp:=a2,gD:=a3,hDc:=a4,ra:=ra.mono (f3.trans (f4.trans f5)),hx:=by lia,eb:=w1,sb:=w2,glc:=w3,hlc:=w4,rlc:=w5,vs:=w6,ec:=h4,eall:=by simpa using eall}⟩
        . cases h3
      |true=>
        simp only[if_true]at h3 ⊢
        obtain⟨⟨dv,ρ7⟩,h7,h3⟩:=zag h3
        dsimp only at h3
        split at h3
        . rename_i hno
          cases h3
          refine se C s₀ H₀ fp _ G5 H5 σ4 ρ6 dv _ _ I5 h7 fun G6 H6 v I6 f6 r6=>?_
          obtain⟨a1,a2,a3,a4⟩:=facts G6 H6 σ4 _ I6
          obtain⟨cs',ys',w1,w2,w3,w4,w5,w6⟩:=VS.ofP I6 rfl hno
          have ff:Fz Gc G6:=f3.trans (f4.trans (f5.trans f6))
          exact⟨xs,a4,by rw[sizeLine_eq];lia,items.length-(i+1),by lia,rfl,hlt,G6,_,acc++[dv],xs++[v],rest2,cs',ys',{fc:=fc.trans ff,fcH:=I6.fz.right a3 _,nw:=a1,kp:=fun b o ne e=>by rw[zap (zax e hD)];exact a2 b o ne e,gD:=a3,hDc:=zas,ra:=(ra.mono ff).snoc r6,hx:=by rw[List.length_append,List.length_singleton];lia,eb:=w1,sb:=w2,glc:=w3,hlc:=by rw[zap (Ne.symm hlD)];exact w4,rlc:=w5,vs:=w6,ec:=h4,eall:=by rw[eall];simp}⟩
        . cases h3
    . have e:i=items.length:=by lia
      subst e
      rw[List.drop_length]at ec
      obtain⟨rfl,rfl⟩:=Prod.mk.inj (Option.some.inj ec)
      have hall:all=acc:=by rw[eall,List.append_nil]
      refine .inl ⟨IT.stop Hc _ (f2.trans (fc.trans fcH)) (Nat.le_refl _),?_⟩
      rw[<-hall]at ra
      have hp:zoD bk ρc=cs:=by unfold zoD;rw[eb]
      rw[hp]at k
      exact k Gc Hc DD xs (I2.growW ew qw hσ fc fcH nw kp glc hlc rlc) (f1.trans (f2.trans fc)) gD hDc ra (I2.there DD hD) (I2.own_neW ew qw hσ hD nw kp)
  . cases hm
theorem so_lcM (cap:List Nat)(t bk wk:Nat)(N:List Str)(hc:X.calm=true)(hi:SIt X tg iter mi)(hg:∀C s H fp,SG (cxC X N scope C s H fp) tg g)(ht:∀C s H fp,STs (cxC X N scope C s H fp) ifs mt)(he:∀C s H fp,SE (cxC X N scope C s H fp) elt me)(hbw:autoParam (cap[bk]? =some wk) zu2._auto_1)
    (hk:autoParam (scope.kind= .function) zu2._auto_1) (hb:autoParam (blkB X.env scope=true) zu10._auto_1) (hcap:autoParam (capB scope.names N X.N cap t=true) zu10._auto_1)
    (hs:autoParam (∀x,foldedSetIterable iter X.env x=pure x) zu8._auto_1):SO X (.ListComp elt [⟨tg,iter,ifs,0⟩] scope pos) (oLCM cap t bk wk mi g mt me):=by
  obtain⟨wi,pi,si⟩:=hi
  exact⟨_,pe_lc hc (zkP hk hb) (zmE hcap) pi (fun C s H fp=>(hg C s H fp).choose_spec.1) (fun C s H fp=>(ht C s H fp).choose_spec.1) (fun C s H fp=>(he C s H fp).choose_spec.1) hs,
    znU hbw si (fun C s H fp=>(hg C s H fp).choose_spec.2) (fun C s H fp=>(ht C s H fp).choose_spec.2) (fun C s H fp=>(he C s H fp).choose_spec.2)⟩
end
end M
namespace M
open L2 PySem
theorem zhl:∀{ds:List D} {ns:List Int},zaG ds=some ns->ds=ns.map .int
 |[],_,h=>by cases h;rfl
 | .int i::ds,_,h=>by
  obtain⟨ms,e1,e2⟩:=zav h
  cases e2
  rw[zhl e1];rfl
 | .non::_,_,h=>by cases h
 | .bl _::_,_,h=>by cases h
 | .str _::_,_,h=>by cases h
 | .lst _::_,_,h=>by cases h
 | .tup _::_,_,h=>by cases h
 | .scr _::_,_,h=>by cases h
 | .exc _::_,_,h=>by cases h
 |(.dic _ _)::_,_,h=>by cases h
 |(.dit _ _)::_,_,h=>by cases h
noncomputable def sExt (i:Nat)(m:ME):MS:=fun ρ=>if(ρ[i]?.bind Sl.items).isSome then(m ρ).bind fun p=>p.2[i]?.bind fun s=>s.items.bind fun ds=>match p.1 with
 | .lst es=>if ds.length+es.length<=16777216 then some (.next,p.2.set i (s.put (ds++es)))else none
 |_=>none else none
section
variable {X:Cx} {e:Expr} {me:ME} {pos:Pos}
theorem ss_ext (i:Nat){x:Str}{pos' apos cpos:Pos}(he:SE X e me)(hN:autoParam (X.N[i]? =some x) zu2._auto_1)(hv:autoParam (Vis X.env.scope x) zu5._auto_1)(hd:autoParam ((x==("__debug__":Str))=false) zu1._auto_1)
  (hcd:autoParam ((x==("__classdict__":Str))=false) zu1._auto_1)
  (hbase:autoParam (attributeBase (.Name x pos') "extend" X.env (eval (.Name x pos') X.env)=eval (.Name x pos') X.env) zu2._auto_1)
  (hfew :autoParam (((backTo cpos (starEach [e] X.env)).all (fun x => !x.1) && (backToKw cpos (keywordEach [] X.env)).all (fun x => x.1.isSome)
   &&decide ([e].length+([]:List Keyword).length+(if([]:List Keyword).isEmpty then 0 else 1)<30))=true) zu2._auto_1)
  (hline:autoParam ((apos.endLine==cpos.line)=true) zu2._auto_1) (hs:autoParam (starEach [e] X.env=(false,eval e X.env)::starEach [] X.env) zu2._auto_1):SS X (.Expr (.Call (.Attribute (.Name x pos') "extend" apos) [e] [] cpos) pos) (sExt i me):=by
 obtain⟨t,p,s⟩:=he
 refine⟨_,zlM (zny PySem.F.plainAttrs_list PySem.F.slot_list_extend PySem.F.type_list_extend znO (zcX hN hv hd hcd) (za7 p zcQ hs) hbase hfew hline hs rfl) (by rfl),fun B G H σ ρ fl ρ' E I hm k=>?_⟩
 unfold sExt at hm
 split at hm
 ·rename_i hso
  obtain⟨ds0,hso⟩:=Option.isSome_iff_exists.mp hso
  obtain⟨s0,e0,q0⟩:=zag hso
  obtain⟨l,xs0,h1,h2,h3,h4⟩:=I.wr e0 q0
  obtain⟨⟨d,ρ1⟩,e1,hm⟩:=zag hm
  obtain⟨s1,e2,hm⟩:=zag hm
  obtain⟨ds,e3,hm⟩:=zag hm
  cases d with
  |lst es=>
   dsimp only at hm
   split at hm
   ·rename_i hl
    cases hm
    refine⟨.ref l,h1,.inl ⟨rfl,_,SqL.of h3⟩,s B G H σ ρ (.lst es) ρ1 _ I e1 fun G1 H1 v I1 f1 r1=>?_⟩
    obtain⟨l',xs,k1,k2,k3,k4⟩:=I1.wr e2 e3
    rw[h1]at k1;cases k1
    obtain⟨b,zs,rfl,hb,rb⟩:=r1
    refine⟨l,b,xs,zs,rfl,rfl,k3,I1.fz _ _ hb,by rw[k4.length,rb.length,sizeLine_eq];exact hl,?_⟩
    exact k G1 _ σ (I1.write e2 e3 h1 (k4.append rb)) f1
   ·cases hm
  |_=>cases hm
 ·cases hm
end
end M
namespace M
open L2 PySem PySem.Spec
open PyProof.Rows hiding St
noncomputable def iR2L (ma:MA):MA:=fun ρ=>(ma ρ).bind fun p=>match p.1 with
 |[.int i,.int j]=>some (zgl i (j-i).toNat,p.2)
 |_=>none
noncomputable def zoj:List D->Option (List (List Int))
 |[]=>some []
 | .tup ds::r=>(zaG ds).bind fun ns=>(zoj r).map fun nss=>ns::nss
 |_::_=>none
theorem refs_get {as:List Addr}{its:List Value}(r:Vals (as.map V.ref) its){i:Nat}{v:Value}(e:its[i]? =some v):∃a,as[i]? =some a/\v= .ref a:=by
 have hl:=r.length
 have hi:i<its.length:=(List.getElem?_eq_some_iff.mp e).1
 rw[List.length_map]at hl
 have e2:(as.map V.ref)[i]? =some (.ref as[i]):=by rw[List.getElem?_map,List.getElem?_eq_getElem (by lia)];rfl
 obtain⟨u,h1,h2⟩:=r.get e2
 rw[e]at h1
 cases h1
 exact⟨_,List.getElem?_eq_getElem (by lia),h2⟩
theorem zki {K:W.Frag}{G:Hp}:∀{ys:List V} {ds:List D} {nss:List (List Int)},RepL K G ys ds->zoj ds=some nss->∃as:List Addr,ys=as.map V.ref/\as.length=nss.length/\∀(i:Nat) a ns,as[i]? =some a->nss[i]? =some ns->G a=some (.tup (ns.map V.int))
 |_,[],nss,r,e=>by cases e;cases r;exact⟨[],rfl,rfl,fun i a ns h=>by simp at h⟩
 |_,d::ds,nss,⟨x,ys,e0,q,r⟩,e=>by
  subst e0
  cases d with
  |tup es=>
   obtain⟨ns,e1,e⟩:=zag e
   obtain⟨ms,e2,e3⟩:=zav e
   subst e3
   obtain⟨as,rfl,hl,h⟩:=zki r e2
   obtain⟨a,zs,rfl,ha,rz⟩:=q
   rw[zba e1]at rz
   rw[RepL.ints_eq rz]at ha
   refine⟨a::as,rfl,by rw[List.length_cons,List.length_cons,hl],fun i b ns' h1 h2=>?_⟩
   cases i with
   |zero=>simp at h1 h2;subst h1 h2;exact ha
   |succ i=>exact h i b ns' (by simpa using h1) (by simpa using h2)
  |non=>cases e
  |bl _=>cases e
  |int _=>cases e
  |str _=>cases e
  |lst _=>cases e
  |scr _=>cases e
  |exc _=>cases e
  |dic _ _=>cases e
  |dit _ _=>cases e
theorem nn {α:Type}{o:Option α}{x:α}(e:o=some x):o≠none:=by rw[e];exact fun z=>by cases z
noncomputable abbrev MX:=R->Option Str
noncomputable def blsOf:List D->Option (List Bool)
 |[]=>some []
 | .bl b::ds=>(blsOf ds).map (b:: ·)
 |_=>none
noncomputable def dCount:D->D->Option D
 | .lst ds,.bl k=>(blsOf ds).map fun bs=> .int (bs.count k:Nat)
 |_,_=>none
theorem zmW:bootBuiltins "set"=some (.type "set"):=by decide+kernel
noncomputable def zdn (ns:List Int):Nat:=(firstMet (fun i=>ns.getD i 0) ns.length).length
theorem zoR {X:Cx}(hc:X.calm=true):zeb X (.type "set") (fun xs H Q=>∃l ns,xs=[.ref l]/\SqL X.K H l (ns.map V.int)/\ns.length<4095/\∀p S,H p=none->Q (.ref p) (upd H p (.set S (zdn ns)))):=by
 intro pins s σ H xs us Q I r h
 obtain⟨l,ns,rfl,hq,hl,q⟩:=h
 obtain⟨u,rfl,rx⟩:=zgP r
 cases rx
 obtain⟨its,r',pl,hz⟩:=I.list hq
 have hi:=zbI r'
 have hlen:=hi.length
 refine call_set_list (I.ok.hd hc) pl.isList (by simpa using hi) (by rw[List.size_toArray];show its.length+1<4096;lia) fun h' tk so kp=>?_
 have kk:∀b o,s.heap.get? b=some o->h'.get? b=some o:=fun b o e=>kp b o (Heap.lt_size e) e
 have ez:its.toArray.size=ns.length:=by rw[List.size_toArray,hlen]
 rw[ez]at so
 exact⟨.ref s.heap.objs.size,_,I.laid (t':=tk) (o:= .set _ (zdn ns)) kk (Nat.le_refl _) so,rfl,q _ _ (I.hok.fresh (Nat.le_refl _))⟩
theorem zpJ {X:Cx}:zeb X (.builtin "len") (fun xs H Q=>∃p S n,xs=[.ref p]/\H p=some (.set S n)/\Q (.int n) H):=by
 intro pins s σ H xs us Q I r h
 obtain⟨p,S,n,rfl,hp,q⟩:=h
 obtain⟨u,rfl,rx⟩:=zgP r
 cases rx
 obtain⟨o,es,ep,t,e1,e2,e3,_,_,e6,e7,rfl⟩:=(show s.heap.SetOf (intKind X.prog X.w) p S n from I.hok p _ hp)
 refine call_len_set e1 e2 e3 e7 ?_ ⟨.int es.size,H,I.tok _,⟨_,rfl⟩,q⟩
 have:es.size<4096:=e6
 lia
noncomputable def zlC (m:ME):ME:=fun ρ=>(m ρ).bind fun p=>match p.1 with
 | .lst ds=>(zaG ds).bind fun ns=>if ns.length<4095 then some (.int (zdn ns:Nat),p.2)else none
 |_=>none
theorem znA {X:Cx}{e:Expr}{m:ME}{p q pos pos':Pos}(hc:X.calm=true)(ml:X.mg "len"=none)(ms:X.mg "set"=none)(h:SE X e m)(hg:autoParam (Gl X "len") zu2._auto_1)(hg2:autoParam (Gl X "set") zu2._auto_1)
  (he:autoParam (starEach [Expr.Call (.Name "set" q) [e] [] pos'] X.env=(false,eval (.Call (.Name "set" q) [e] [] pos') X.env)::starEach [] X.env) zu2._auto_1) (he2:autoParam (starEach [e] X.env=(false,eval e X.env)::starEach [] X.env) zu2._auto_1) (hpl:autoParam ((backTo pos (starEach [] X.env)).any (·.1)=false) zu2._auto_1) (hpl2:autoParam ((backTo pos' (starEach [] X.env)).any (·.1)=false) zu2._auto_1):
  SE X (.Call (.Name "len" p) [.Call (.Name "set" q) [e] [] pos'] [] pos) (zlC m):=by
 obtain⟨t,pe,so⟩:=h
 refine⟨_,zfW zpJ hg ml boot_len (za7 (zfo (zoR hc) hg2 ms zmW (za7 pe zcQ he2) (by decide) (by decide) he2 hpl2) zcQ he) (by decide) (by decide) he hpl,fun B G H σ ρ d ρ' Q I hm k=>?_⟩
 obtain⟨⟨d1,ρ1⟩,e1,hm⟩:=zag hm
 refine so B G H σ ρ d1 ρ1 _ I e1 fun G1 H1 v I1 f1 r1=>?_
 match d1,hm with
 | .lst ds,hm=>
  obtain⟨ns,e2,hm⟩:=zag hm
  split at hm
  ·rename_i hl
   cases hm
   cases zba e2
   obtain⟨a,xs,rfl,ha,rr⟩:=r1
   have ex:xs=ns.map V.int:=RepL.ints_eq rr
   subst ex
   exact⟨a,ns,rfl,SqL.of (I1.fz _ _ ha),hl,fun p S hp=>⟨p,S,_,rfl,zas,k G1 _ _ (I1.allocO hp _) f1 rfl⟩⟩
  ·cases hm
end M
namespace M
open L2 PySem
noncomputable def zia:Sl->Sl->Bool
 | .own ds,.own es=>match zaG ds,zaG es with
  |some a,some b=>a==b
  |_,_=>false
 | .par ds,.par es=>match zaG ds,zaG es with
  |some a,some b=>a==b
  |_,_=>false
 | .own _,_=>false
 | .par _,_=>false
 | .tre _,_=>false
 | .ptr _,_=>false
 |_,_=>true
theorem zkJ {ds es:List D}(h:(match zaG ds,zaG es with
  |some a,some b=>a==b
  |_,_=>false)=true):∃ns:List Int,ds=ns.map .int/\es=ns.map .int:=by
 cases a:zaG ds with
 |none=>rw[a]at h;cases h
 |some x=>
  cases b:zaG es with
  |none=>rw[a,b]at h;cases h
  |some y=>
   rw[a,b]at h
   have e:x=y:=by simpa using h
   subst e
   exact⟨x,zhl a,zhl b⟩
end M
namespace M
open L2 PySem PySem.Spec
open PyProof.Rows hiding St
noncomputable def Sl.putT (s:Sl)(t:T):Sl:=match s with
 | .tre _=> .tre t
 | .ptr _=> .ptr t
 |s=>s
noncomputable def Sl.tree:Sl->Option T
 | .tre t=>some t
 |_=>none
section
variable {K:W.Frag} {B:Bs} {G G' H H':Hp} {σ:St} {ρ:R}
theorem SI.setT (I:SI K B G H σ ρ){i:Nat}{v:V}{t:T}{A:List Addr}(r:RepT K G H v t A)(nd:A.Nodup)(hA:∀a∈A,G a=none/\B.H a=none/\Nw K G H σ ρ a):SI K B G H (σ.set i (some v)) (ρ.set i (.tre t)):=
 I.chg I.fz (Fz.refl G) I.new I.keep I.there (fun j s a _ e w g _=>⟨g,rfl,fun⟨v2,A2,k1,k2,k3⟩=>by
  cases k1
  rw[k2.det r fun _ _=>rfl]at k3
  exact(hA a k3).2.2 j s e w⟩) ⟨v,A,rfl,r,nd,fun a m=>⟨(hA a m).1,(hA a m).2.1⟩⟩
open Classical in
end
section
variable {J κ:Type} [DecidableEq J] [DecidableEq κ]
noncomputable def lkD:List J->List D->J->Option D
 |k::ks,d::ds,j=>if k=j then some d else lkD ks ds j
 |_,_,_=>none
noncomputable def ptD (ks:List J)(ds:List D)(j:J)(d:D):List J×List D:=if ks.contains j then(ks,List.zipWith (fun k x=>if k=j then d else x) ks ds)else(ks++[j],ds++[d])
variable {K:W.Frag} {G:Hp} {em:J->κ}
end
noncomputable def Sl.dic:Sl->Option (List Int×List D)
 | .tre (.dic ks ds)=>some (ks,ds)
 | .val (.dic ks ds)=>some (ks,ds)
 |_=>none
noncomputable def tDI (j:Nat)(neg:Bool)(mk:ME):MT:=fun ρ=>(mk ρ).bind fun p=>match p.1 with
 | .int k=>(p.2[j]?.bind Sl.dic).map fun q=>(((lkD q.1 q.2 k).isSome !=neg),p.2)
 |_=>none
noncomputable def fzD (j:Nat)(ρ:R):R:=match ρ[j]? with
 |some (.tre (.dic ks ds))=>ρ.set j (.val (.dic ks ds))
 |_=>ρ
noncomputable def Ch.sl:Ch->Sl
 | .d x=> .val x
 | .l ds=> .own ds
 | .t xss=> .tre (.lst (xss.map .l))
noncomputable def putCs:List Nat->List Ch->R->R
 |i::is,c::cs,ρ=>putCs is cs (ρ.set i c.sl)
 |_,_,ρ=>ρ
noncomputable def sUnT (j:Nat)(is:List Nat):MS:=fun ρ=>match ρ[j]? with
 |some (.tre (.lst cs))=>if cs.length=is.length then some (.next,putCs is cs (ρ.set j .emp))else none
 |_=>none
end M
namespace M
open L2 PySem PySem.Spec
open PyProof.Rows hiding St
open Classical in
noncomputable def fMT (N:Nat)(m:MS):List D->T->List D->Option (Sl×List D):=fun cs t ds=>(m (.par cs:: .tre t::(ds.map .val++List.replicate (N-(ds.length+2)) .emp))).bind fun p=>match p.1,(p.2[0]?:Option Sl)with
 |Fl.ret r,some (Sl.par out)=>some (r,out)
 |Fl.next,some (Sl.par out)=>some (.val .non,out)
 |_,_=>none
noncomputable abbrev MP':=R->Option (List Ch×R)
noncomputable def cOwn (i:Nat)(r:MP'):MP':=fun ρ=>match ρ[i]? with
 |some (.own ds)=>(r (ρ.set i .emp)).map fun q=>(.l ds::q.1,q.2)
 |_=>none
end M
namespace M
open L2 PySem PySem.Spec
open PyProof.Rows hiding St
noncomputable def Ch.D:Ch->M.D
 | .d x=>x
 | .l ds=> .lst ds
 | .t xss=> .lst (xss.map .lst)
section
variable {K:W.Frag} {B:Bs} {G G' H H':Hp} {σ:St} {ρ:R}
theorem zfC:∀{xs:List V} {cs:List Ch} {A:List Addr} {n:Nat} {c:Ch},RepCs K G H xs cs A->cs[n]? =some c->∃x A1,xs[n]? =some x/\RepC K G H x c A1/\∀a∈A1,a∈A
 |[],[],_,_,_,_,h=>by simp at h
 |x::xs,d::cs,_,0,c,⟨A1,A2,r1,r2,e⟩,h=>by simp at h;subst h;exact⟨x,A1,rfl,r1,fun a m=>by rw[e];exact List.mem_append_left _ m⟩
 |x::xs,d::cs,_,n+1,c,⟨A1,A2,r1,r2,e⟩,h=>by
  obtain⟨y,B1,h1,h2,h3⟩:=zfC (n:=n) r2 (by simpa using h)
  exact⟨y,B1,by simpa using h1,h2,fun a m=>by rw[e];exact List.mem_append_right _ (h3 a m)⟩
 |[],_::_,_,_,_,h,_=>h.elim
 |_::_,[],_,_,_,h,_=>h.elim
theorem zli:∀{xs:List V} {cs:List Ch} {A:List Addr} {n:Nat} {ds es:List D} {l:Addr} {ys:List V},RepCs K G H xs cs A->A.Nodup->cs[n]? =some (.l ds)->xs[n]? =some (.ref l)->RepL K G ys es->RepCs K G (upd H l (.lst ys)) xs (cs.set n (.l es)) A
 |[],[],_,_,_,_,_,_,_,_,h,_,_=>by simp at h
 |x::xs,d::cs,A,0,ds,es,l,ys,⟨A1,A2,r1,r2,e⟩,nd,h,hx,r=>by
  simp at h hx;subst h hx
  obtain⟨l',zs,e1,e2,e3,rfl⟩:=r1
  cases e1
  rw[e]at nd
  refine⟨[l],A2,⟨l,ys,rfl,zas,r,rfl⟩,r2.move (Fz.refl G) fun a m=>zap fun z=>?_,e⟩
  subst z
  exact(List.nodup_append.mp nd).2.2 a (by simp) a m rfl
 |x::xs,d::cs,A,n+1,ds,es,l,ys,⟨A1,A2,r1,r2,e⟩,nd,h,hx,r=>by
  rw[e]at nd
  have nd':=List.nodup_append.mp nd
  have h':cs[n]? =some (.l ds):=by simpa using h
  have hx':xs[n]? =some (.ref l):=by simpa using hx
  obtain⟨y,B1,h1,⟨l',zs,e1,e2,e3,e4⟩,h3⟩:=zfC r2 h'
  rw[hx']at h1;cases h1;cases e1
  have lA:l∈A2:=h3 l (by rw[e4];simp)
  exact⟨A1,A2,r1.move (Fz.refl G) fun a m=>zap fun z=>by subst z;exact nd'.2.2 a m a lA rfl,zli r2 nd'.2.1 h' hx' r,e⟩
 |[],_::_,_,_,_,_,_,_,h,_,_,_,_=>h.elim
 |_::_,[],_,_,_,_,_,_,h,_,_,_,_=>h.elim
theorem zmz {Gz:Hp}(fg:Fz G Gz):∀{xs:List V} {dss:List (List D)} {A:List Addr},RepTb K G H xs dss A->(∀a∈A,Gz a=H a)->RepL K Gz xs (dss.map .lst)
 |[],[],_,_,_=>rfl
 |x::xs,ds::dss,_,⟨r,ys,A2,e1,e2,e3,e4,e5⟩,h=>⟨x,xs,rfl,⟨r,ys,e1,by rw[h r (by rw[e5];simp)];exact e2,e3.mono fg⟩,zmz fg e4 fun a m=>h a (by rw[e5];simp[m])⟩
 |[],_::_,_,h,_=>h.elim
 |_::_,[],_,h,_=>h.elim
theorem zg3 {Gz:Hp}(fg:Fz G Gz):∀{xs:List V} {cs:List Ch} {A:List Addr},RepCs K G H xs cs A->(∀a∈A,Gz a=H a)->RepL K Gz xs (cs.map Ch.D)
 |[],[],_,_,_=>rfl
 |x::xs,.d y::cs,_,⟨A1,A2,r1,r2,e⟩,h=>⟨x,xs,rfl,r1.1.mono fg,zg3 fg r2 fun a m=>h a (by rw[e];exact List.mem_append_right _ m)⟩
 |x::xs,.l ds::cs,_,⟨A1,A2,⟨l,ys,e1,e2,e3,e4⟩,r2,e⟩,h=>⟨x,xs,rfl,⟨l,ys,e1,by rw[h l (by rw[e,e4];simp)];exact e2,e3.mono fg⟩,zg3 fg r2 fun a m=>h a (by rw[e];exact List.mem_append_right _ m)⟩
 |x::xs,.t xss::cs,_,⟨A1,A2,⟨p,ys,A3,e1,e2,e3,e4⟩,r2,e⟩,h=>⟨x,xs,rfl,⟨p,ys,e1,by rw[h p (by rw[e,e4];simp)];exact e2,zmz fg e3 fun a m=>h a (by rw[e,e4];simp[m])⟩,zg3 fg r2 fun a m=>h a (by rw[e];exact List.mem_append_right _ m)⟩
 |[],_::_,_,h,_=>h.elim
 |_::_,[],_,h,_=>h.elim
theorem SI.chT2 (I:SI K B G H σ ρ){i:Nat}{t t':T}{v:V}{A A':List Addr}(e:ρ[i]? =some (.tre t))(hv:σ[i]? =some (some v))(r:RepT K G H v t A)(fz:Fz G H')(kp:∀b o,b∉A->H b=some o->H' b=some o)(th:∀b,H' b=none->H b=none)
  (r':RepT K G H' v t' A') (nd:A'.Nodup) (sub:∀a∈A',a∈A\/(G a=none/\B.H a=none/\Nw K G H σ ρ a)):SI K B G H' σ (ρ.set i (.tre t')):=by
 obtain⟨v1,A1,h1,h2,h3,h4⟩:=I.slot i _ e
 rw[hv]at h1;cases h1
 have:A1=A:=h2.det r fun _ _=>rfl
 subst this
 have h:=I.chg (i:=i) (ov:=some v) (s':= .tre t') (G':=G) (H':=H') fz (Fz.refl G) I.new (fun b o k1 k2=>kp b o (fun m=>by rw[(h4 b m).2]at k1;cases k1) (I.keep b o k1 k2)) (fun b k=>I.there b (th b k)) (fun j u a z ej w g ha=>?_) ⟨v,A',rfl,r',nd,fun a m=>?_⟩
 ·rwa[zkl hv]at h
 ·have na:a∉A1:=fun m=>I.dis j i u _ a z ej e w ⟨v,A1,hv,h2,m⟩
  obtain⟨x,hx⟩:=Option.ne_none_iff_exists'.mp ha
  refine⟨g,(kp a x na hx).trans hx.symm,fun w'=>?_⟩
  obtain⟨v2,A2,k1,k2,k3⟩:=w'
  cases k1
  rw[k2.det r' fun _ _=>rfl]at k3
  rcases sub a k3 with z|z
  ·exact na z
  ·exact z.2.2 j u ej w
 ·rcases sub a m with z|z
  ·exact h4 a z
  ·exact⟨z.1,z.2.1⟩
theorem nw_emp (I:SI K B G H σ ρ){i:Nat}{s:Sl}{a:Addr}(e:ρ[i]? =some s)(w:OwS K G H σ[i]? a s):Nw K G H σ (ρ.set i .emp) a:=fun j t ej w'=>by
 by_cases z:j=i
 ·subst z
  rw[List.getElem?_set,if_pos rfl]at ej
  split at ej
  ·cases ej;exact w'
  ·cases ej
 ·rw[List.getElem?_set_ne (Ne.symm z)]at ej
  exact I.dis j i t s a z ej e w' w
open Classical in
noncomputable def frA (G H:Hp)(A:List Addr):Hp:=fun b=>if b∈A then H b else G b
theorem zjh {G H:Hp}{A:List Addr}{b:Addr}(h:b∈A):frA G H A b=H b:=by unfold frA;rw[if_pos h]
theorem zkc {G H:Hp}{A:List Addr}{b:Addr}(h:b∉A):frA G H A b=G b:=by unfold frA;rw[if_neg h]
theorem zo6 {G H:Hp}{A:List Addr}(hA:∀a∈A,G a=none):Fz G (frA G H A):=fun b o e=>by
 rw[zkc fun m=>by rw[hA b m]at e;cases e];exact e
theorem SI.frzA (I:SI K B G H σ ρ){A:List Addr}(hA:∀a∈A,G a=none/\B.H a=none/\Nw K G H σ ρ a):SI K B (frA G H A) H σ ρ:=
 I.move (fun a u q=>by
  by_cases m:a∈A
  ·rw[zjh m]at q;exact q
  ·rw[zkc m]at q;exact I.fz a u q) (zo6 fun a m=>(hA a m).1) (fun b u q=>by
  by_cases m:b∈A
  ·exact .inr (hA b m).2.1
  ·rw[zkc m]at q;exact I.new b u q) I.keep I.there (fun i s a e w g _=>⟨by rw[zkc fun m=>(hA a m).2.2 i s e w];exact g,rfl⟩)
end
noncomputable def sTA (i j:Nat):MS:=fun ρ=>match ρ[i]?,ρ[j]? with
 |some (.tre (.lst cs)),some (.own ds)=>if cs.length<16777216 then some (.next,(ρ.set j .emp).set i (.tre (.lst (cs++[.l ds]))))else none
 |_,_=>none
noncomputable def sST (i:Nat)(F:List D->Option Sl)(ma:MA):MS:=fun ρ=>(ma ρ).bind fun p=>(F p.1).bind fun r=>match r with
 | .tre t=>some (.next,p.2.set i (.tre t))
 |_=>none
noncomputable abbrev MQ:=R->Option D
noncomputable def eTI (j:Nat)(mi mk:MQ):ME:=fun ρ=>(mi ρ).bind fun a=>(mk ρ).bind fun b=>match a,b,ρ[j]? with
 | .int n,.int m,some (.tre (.lst cs))=>(atI cs n).bind fun c=>match c with
  | .l ds=>(atI ds m).map fun d=>(d,ρ)
  |_=>none
 |_,_,_=>none
noncomputable def fzT (j:Nat)(ρ:R):R:=match ρ[j]? with
 |some (.tre (.lst cs))=>ρ.set j (.val (.lst (cs.map Ch.D)))
 |_=>ρ
section
variable {X:Cx} {x y:Str} {pos p' q' tpos:Pos}
variable {e:Expr} {es:List Expr} {ma:MA} {k k' n:Nat} {F:List D->Option Sl}
theorem ss_setT (i:Nat){z:Str}{p:Pos}(fd:FD X.prog X.w X.K X.mg X.base k z (spP X.K n F))(hr:Room k' X.A)(ha:SA X (e::es) ma)(hlen:∀ρ as ρ',ma ρ=some (as,ρ')->as.length=n)(hN:X.N.Nodup)(hk:autoParam (k<=k') zu1._auto_1)(hg:autoParam (Gl X z) zu2._auto_1)(hdb:autoParam ((z==("__debug__":Str))=false) zu1._auto_1)
    (he:autoParam (starEach (e::es) X.env=(false,eval e X.env)::starEach es X.env) zu2._auto_1) (hpl:autoParam ((backTo tpos (starEach es X.env)).any (·.1)=false) zu2._auto_1) (hi:autoParam (X.N[i]? =some x) zu2._auto_1) (hx:autoParam (Loc X.env.scope x) zu9._auto_1) (hs:autoParam (swapsWith (.Call (.Name z p) (e::es) [] tpos) (some (.Name x p')) pos.line X.env=pure false) zu2._auto_1)
    (hf:autoParam (X.fn x=true\/X.env.scope.names.lookup x=some .local) zu9._auto_1):SS X (.Assign [.Name x p'] (.Call (.Name z p) (e::es) [] tpos) pos) (sST i F ma):=by
  obtain⟨f,fdd,ps,G0,h1,h2,h3⟩:=fd.ex
  obtain⟨t,pa,sa⟩:=ha
  refine⟨_,zpo hN hi hx (zh7 G0 (hr.mono hk) hg h1 h2 h3 .nil zoN pa hdb he hpl) hs hf,fun B G H σ ρ fl ρ' E I hm kk=>?_⟩
  obtain⟨⟨as,ρ1⟩,e1,hm⟩:=zag hm
  obtain⟨r,e2,hm⟩:=zag hm
  refine sa B G H σ ρ as ρ1 _ I e1 fun G1 H1 vs I1 f1 r1=>?_
  show spP X.K n F (vs++[]) H1 _ E0
  rw[List.append_nil]
  refine⟨G1,as,r,e2,hlen ρ as ρ1 e1,I1.fz,r1,fun G2 H2 v f2 fz2 nw kp rr=>?_⟩
  have I2:=I1.grow f2 fz2 nw kp
  cases r with
  |tre t=>
    cases hm
    obtain⟨A,q1,q2,q3⟩:=rr
    exact kk G2 H2 _ (I2.setT q1 q2 fun a m=>⟨(q3 a m).1,I1.there a (q3 a m).2,I1.own_ne (q3 a m).2 nw kp⟩) (f1.trans f2)
  |_=>cases hm
variable {a b:Expr} {mi mk:MQ}
end
end M
namespace M
local macro_rules | `(tactic| ac_rfl) => `(tactic| first | exact M.nA (by decide) | exact M.nB (by decide) | exact M.nC (by decide) | exact M.nL (by assumption) | exact Nat.ne_of_lt (by assumption) | lia)
open L2 PySem PySem.Spec
open PyProof.Rows hiding St
open Sem (wp)
variable {a b u:Value} {Q E:Value->Shared->Prop} {i:Nat} {prog:Program} {w:World} {A:Around} {s:Shared} {tg:Expr} {K:W.Frag} {X:Cx} {p pos:Pos}
noncomputable abbrev zdS (h:Heap)(z TI TO:Addr)(f0:Value)(b:Bool):Prop:=h.get? z=some {cls:= .type "zip",data:= .fields #[f0,.bool b,.bool false,.ref TI,.ref TO]}
noncomputable def ZipAt (h:Heap)(z TI TO:Addr):Prop:=∃f0 b,zdS h z TI TO f0 b/\(f0= .none\/∃T:Nat,f0=rawInt T)
section
variable {prog:Program} {w:World} {A:Around} {E:Value->Shared->Prop} {s:Shared}
theorem zob {a:Addr}{Q:Option Obj->Shared->Prop}(h:Q (s.heap.get? a) s):wpAny (model prog w) A (loadIfAlive a) Q E s:=fun Γ p hΓ=>by
 show Sem.wp _ _ (Sem.loadIfAlive a Sem.pure) _ _ p s
 rw[Sem.wp_loadIfAlive]
 exact(wpAny_pure (M:=model prog w) (A:=A) (E:=E) h) Γ p hΓ
theorem zn6 {z TI TO:Addr}{f0:Value}{b:Bool}(hz:zdS s.heap z TI TO f0 b)(hf:f0= .none\/∃T:Nat,f0=rawInt T){Q:Bool->Shared->Prop}(h1:Q true s)
  (h2:∀h',zdS h' z TI TO f0 true->Heap.SameBut z s.heap h'->Q false {s with heap:=h'}):wpAny (model prog w) A (Builtin.SmallTypes.ownedTupleIsFree (.ref z)) Q E s:=by
 unfold Builtin.SmallTypes.ownedTupleIsFree
 refine wpAny_bind (wpAny_field hz rfl (x:=f0) rfl ?_)
 rcases hf with rfl|⟨T,rfl⟩
 ·exact wpAny_pure h1
 ·refine(?_:wpAny _ _ (loadIfAlive _>>=_) _ _ _)
  refine wpAny_bind (zob ?_)
  cases e:s.heap.get? (T:Int).toNat with
  |none=>exact wpAny_pure h1
  |some o=>
   refine(?_:wpAny _ _ (field (.ref z) 1>>=_) _ _ _)
   refine wpAny_bind (wpAny_field hz rfl (x:= .bool b) rfl ?_)
   cases b
   ·refine(?_:wpAny _ _ (setField (.ref z) 1 (.bool true)>>=_) _ _ _)
    exact wpAny_bind (wpAny_setField_rec hz (by simp) fun g1 z1 s1=>wpAny_pure (h2 g1 z1 s1))
   ·exact wpAny_pure (h2 s.heap hz ⟨rfl,fun _ _=>rfl⟩)
variable {N a1 a2:Nat} {n1 n2:Nat} {P1 P2:Nat->Value->Prop} {S1 S2:Nat->Heap->Prop}
theorem znl (D1:Draws prog w A N [N,a1] n1 P1 S1)(D2:Draws prog w A (N+1) [N+1,a2] n2 P2 S2)(l1:a1<N)(l2:a2<N)
  (hz':ZipAt s.heap (N+4) (N+2) (N+3)) (hTI:IsPair s.heap (N+2) (.ref N) (.ref (N+1))) (hTO:IsPair s.heap (N+3) a b) (h1:S1 i s.heap) (h2:S2 i s.heap) (i1:i<n1) (i2:i<n2)
  (k : ∀ x y h' tk, P1 i x -> P2 i y -> ZipAt h' (N + 4) (N + 2) (N + 3) -> (∃ a b, IsPair h' (N + 3) a b) -> S1 (i + 1) h' -> S2 (i + 1) h' -> IsPair h' s.heap.objs.size x y ->
   (∀c o,c≠N->c≠N+1->c≠N+3->c≠N+4->s.heap.get? c=some o->h'.get? c=some o)->Q (.ref s.heap.objs.size) {s with heap:=h',toks:=tk}):
  wpAny (model prog w) A (Builtin.«zip.__next__» ⟨[.ref (N+4)],[]⟩) (fun fin s'=>∃v,fin= .done (.ret v)/\Q v s') E s:=by
 obtain⟨f0,bb,hz,hf⟩:=hz'
 refine(?_:wpAny _ _ (field (.ref (N+4)) 2>>=_) _ _ _)
 refine wpAny_bind (wpAny_field hz rfl (x:= .bool false) rfl (?_:wpAny _ _ (field (.ref (N+4)) 3>>=_) _ _ _))
 refine wpAny_bind (wpAny_field hz rfl (x:= .ref (N+2)) rfl (wpAny_bind (wpAny_seqItems hTI rfl (?_:wpAny _ _ (Builtin.SmallTypes.ownedTupleIsFree (.ref (N+4))>>=_) _ _ _))))
 refine wpAny_bind (zn6 hz hf ?_ fun g0 z0 s0=>?_)
 ·simp only[if_true]
  refine wpAny_bind (wpAny_rule (wpAny_bind (wpAny_field hz rfl (x:= .ref (N+3)) rfl (wpAny_bind (wpAny_setField_rec hz (by simp) fun g1 z1 s1=>wpAny_bind ?_)))))
  replace z1:zdS g1 (N+4) (N+2) (N+3) .ellipsis bb:=z1
  simp only[List.zipIdx_cons,List.zipIdx_nil,List.forIn_cons,List.forIn_nil]
  refine wpAny_bind (wpAny_bind (wpAny_onRaise (?_:wpAny _ _ (Builtin.SmallTypes.nextOf (.ref N)>>=_) _ _ _)))
  have e1:S1 i g1:=D1.frame _ _ _ h1 fun b hb o e=>(s1.2 b (nin2 hb (by ac_rfl) (by ac_rfl))).trans e
  refine wpAny_bind (D1.item i _ _ _ i1 e1 fun x g2 t2 p1 f2 s2=>wpAny_pure ?_)
  have q2:IsPair g2 (N+3) a b:=(s2.2 _ (ne_ (by ac_rfl))).trans ((s1.2 _ (ne_ (by ac_rfl))).trans hTO)
  refine wpAny_bind (wpAny_seqItems q2 rfl (wpAny_bind (wpAny_updateSeq_pair q2 fun g3 q3 s3=>wpAny_bind (wpAny_letGo (wpAny_pure ?_)))))
  replace q3:IsPair g3 (N+3) x b:=q3
  refine wpAny_bind (wpAny_bind (wpAny_onRaise (?_:wpAny _ _ (Builtin.SmallTypes.nextOf (.ref (N+1))>>=_) _ _ _)))
  have e3:S2 i g3:=D2.frame _ _ _ h2 fun b hb o e=>(s3.2 b (nin2 hb (by ac_rfl) (by ac_rfl))).trans ((s2.2 b (nin2 hb (by ac_rfl) (by ac_rfl))).trans ((s1.2 b (nin2 hb (by ac_rfl) (by ac_rfl))).trans e))
  refine wpAny_bind (D2.item i _ _ _ i2 e3 fun y g4 t4 p2 f4 s4=>wpAny_pure ?_)
  have q4:IsPair g4 (N+3) x b:=(s4.2 _ (ne_ (by ac_rfl))).trans q3
  refine wpAny_bind (wpAny_seqItems q4 rfl (wpAny_bind (wpAny_updateSeq_pair q4 fun g5 q5 s5=>wpAny_bind (wpAny_letGo (wpAny_pure (wpAny_pure ?_))))))
  replace q5:IsPair g5 (N+3) x y:=q5
  have sz:g5.objs.size=s.heap.objs.size:=by rw[s5.1,s4.1,s3.1,s2.1,s1.1]
  have z5:zdS g5 (N+4) (N+2) (N+3) .ellipsis bb:=(s5.2 _ (ne_ (by ac_rfl))).trans ((s4.2 _ (ne_ (by ac_rfl))).trans ((s3.2 _ (ne_ (by ac_rfl))).trans ((s2.2 _ (ne_ (by ac_rfl))).trans z1)))
  have zl:(N+4:Nat)<g5.objs.size:=Heap.lt_size z5
  have k5:∀c o,c≠N->c≠N+1->c≠N+3->c≠N+4->s.heap.get? c=some o->g5.get? c=some o:=fun c o c1 c2 c3 c4 e=>(s5.2 c c3).trans ((s4.2 c c2).trans ((s3.2 c c3).trans ((s2.2 c c1).trans ((s1.2 c c4).trans e))))
  have f5:S1 (i+1) g5:=D1.frame _ _ _ f2 fun b hb o e=>(s5.2 b (nin2 hb (by ac_rfl) (by ac_rfl))).trans ((s4.2 b (nin2 hb (by ac_rfl) (by ac_rfl))).trans ((s3.2 b (nin2 hb (by ac_rfl) (by ac_rfl))).trans e))
  have f5':S2 (i+1) g5:=D2.frame _ _ _ f4 fun b hb o e=>(s5.2 b (nin2 hb (by ac_rfl) (by ac_rfl))).trans e
  refine wpAny_bind (wpAny_seqItems q5 rfl (wpAny_bind (wpAny_newTuple (?_:wpAny _ _ (Builtin.SmallTypes.ownedTupleHandOut (.ref (N+4)) (.ref g5.objs.size)>>=_) _ _ _))))
  refine wpAny_bind ?_
  unfold Builtin.SmallTypes.ownedTupleHandOut
  refine wpAny_bind (wpAny_setField_rec (show zdS (g5.push {cls:= .type "tuple",data:= .seq #[x,y]}) (N+4) (N+2) (N+3) .ellipsis bb from Heap.get?_push_of_some _ z5) (by simp) fun g7 z7 s7=>?_)
  replace z7:zdS g7 (N+4) (N+2) (N+3) (rawInt g5.objs.size) bb:=z7
  refine wpAny_setField_rec z7 (by simp) fun g8 z8 s8=>wpAny_pure ⟨_,rfl,?_⟩
  replace z8:zdS g8 (N+4) (N+2) (N+3) (rawInt g5.objs.size) false:=z8
  have up:∀c o,c≠N+4->g5.get? c=some o->g8.get? c=some o:=fun c o c1 e=>(s8.2 c c1).trans ((s7.2 c c1).trans (Heap.get?_push_of_some _ e))
  have T8:IsPair g8 g5.objs.size x y:=(s8.2 _ (ne_ (by ac_rfl))).trans ((s7.2 _ (ne_ (by ac_rfl))).trans (Heap.get?_push_size _ rfl))
  rw[sz]at z8 T8
  refine(?_:Q (.ref g5.objs.size) _)
  rw[sz]
  exact k x y g8 _ p1 p2 ⟨_,_,z8,.inr ⟨_,rfl⟩⟩ ⟨_,_,up _ _ (ne_ (by ac_rfl)) q5⟩ (D1.frame _ _ _ f5 fun b hb o e=>up b o (nin2 hb (by ac_rfl) (by ac_rfl)) e) (D2.frame _ _ _ f5' fun b hb o e=>up b o (nin2 hb (by ac_rfl) (by ac_rfl)) e) T8 fun c o c1 c2 c3 c4 e=>up c o c4 (k5 c o c1 c2 c3 c4 e)
 ·simp only[Bool.false_eq_true,if_false]
  simp only[List.forIn_toArray,List.forIn_cons,List.forIn_nil]
  have e0:S1 i g0:=D1.frame _ _ _ h1 fun b hb o e=>(s0.2 b (nin2 hb (by ac_rfl) (by ac_rfl))).trans e
  refine wpAny_bind (wpAny_bind (wpAny_bind (wpAny_holding (?_:wpAny _ _ (Builtin.SmallTypes.nextOf (.ref N)>>=_) _ _ _))))
  refine wpAny_bind (D1.item i _ _ _ i1 e0 fun x g2 t2 p1 f2 s2=>wpAny_pure (wpAny_pure ?_))
  refine wpAny_bind (wpAny_bind (wpAny_holding (?_:wpAny _ _ (Builtin.SmallTypes.nextOf (.ref (N+1))>>=_) _ _ _)))
  have e3:S2 i g2:=D2.frame _ _ _ h2 fun b hb o e=>(s2.2 b (nin2 hb (by ac_rfl) (by ac_rfl))).trans ((s0.2 b (nin2 hb (by ac_rfl) (by ac_rfl))).trans e)
  refine wpAny_bind (D2.item i _ _ _ i2 e3 fun y g4 t4 p2 f4 s4=>wpAny_pure (wpAny_pure (wpAny_pure ?_)))
  have sz:g4.objs.size=s.heap.objs.size:=by rw[s4.1,s2.1,s0.1]
  have z4:zdS g4 (N+4) (N+2) (N+3) f0 true:=(s4.2 _ (ne_ (by ac_rfl))).trans ((s2.2 _ (ne_ (by ac_rfl))).trans z0)
  have f4':S1 (i+1) g4:=D1.frame _ _ _ f2 fun b hb o e=>(s4.2 b (nin2 hb (by ac_rfl) (by ac_rfl))).trans e
  refine(?_:wpAny _ _ (newTuple [x,y]>>=_) _ _ _)
  refine wpAny_bind (wpAny_newTuple (wpAny_pure ⟨_,rfl,?_⟩))
  have k5:∀c o,c≠N->c≠N+1->c≠N+3->c≠N+4->s.heap.get? c=some o->g4.get? c=some o:=fun c o c1 c2 c3 c4 e=>(s4.2 c c2).trans ((s2.2 c c1).trans ((s0.2 c c4).trans e))
  have q4:IsPair g4 (N+3) a b:=(s4.2 _ (ne_ (by ac_rfl))).trans ((s2.2 _ (ne_ (by ac_rfl))).trans ((s0.2 _ (ne_ (by ac_rfl))).trans hTO))
  have T8:IsPair (g4.push {cls:= .type "tuple",data:= .seq #[x,y]}) g4.objs.size x y:=Heap.get?_push_size _ rfl
  rw[sz]at T8
  refine(?_:Q (.ref g4.objs.size) _)
  rw[sz]
  exact k x y _ _ p1 p2 ⟨_,_,Heap.get?_push_of_some _ z4,hf⟩ ⟨_,_,Heap.get?_push_of_some _ q4⟩ (D1.frame _ _ _ f4' fun b hb o e=>Heap.get?_push_of_some _ e) (D2.frame _ _ _ f4 fun b hb o e=>Heap.get?_push_of_some _ e) T8 fun c o c1 c2 c3 c4 e=>Heap.get?_push_of_some _ (k5 c o c1 c2 c3 c4 e)
theorem zo5 {Q:Fin->Shared->Prop}(D1:Draws prog w A N [N,a1] n1 P1 S1)(D2:Draws prog w A (N+1) [N+1,a2] n2 P2 S2)(l1:a1<N)(l2:a2<N)
  (hz':ZipAt s.heap (N+4) (N+2) (N+3)) (hTI:IsPair s.heap (N+2) (.ref N) (.ref (N+1))) (hTO:IsPair s.heap (N+3) a b) (h1:S1 i s.heap) (h2:S2 i s.heap) (hi:i=n1\/(i<n1/\i=n2))
  (k:∀h' e tk,(∀c o,c≠N->c≠N+1->c≠N+3->c≠N+4->s.heap.get? c=some o->h'.get? c=some o)->(∃o,h'.get? e=some o/\o.cls= .type "StopIteration")->E (.ref e) {s with heap:=h',toks:=tk}):
  wpAny (model prog w) A (Builtin.«zip.__next__» ⟨[.ref (N+4)],[]⟩) Q E s:=by
 obtain⟨f0,bb,hz,hf⟩:=hz'
 refine(?_:wpAny _ _ (field (.ref (N+4)) 2>>=_) _ _ _)
 refine wpAny_bind (wpAny_field hz rfl (x:= .bool false) rfl (?_:wpAny _ _ (field (.ref (N+4)) 3>>=_) _ _ _))
 refine wpAny_bind (wpAny_field hz rfl (x:= .ref (N+2)) rfl (wpAny_bind (wpAny_seqItems hTI rfl (?_:wpAny _ _ (Builtin.SmallTypes.ownedTupleIsFree (.ref (N+4))>>=_) _ _ _))))
 refine wpAny_bind (zn6 hz hf ?_ fun g0 z0 s0=>?_)
 ·simp only[if_true]
  refine wpAny_bind (wpAny_rule (wpAny_bind (wpAny_field hz rfl (x:= .ref (N+3)) rfl (wpAny_bind (wpAny_setField_rec hz (by simp) fun g1 z1 s1=>wpAny_bind ?_)))))
  replace z1:zdS g1 (N+4) (N+2) (N+3) .ellipsis bb:=z1
  simp only[List.zipIdx_cons,List.zipIdx_nil,List.forIn_cons,List.forIn_nil]
  refine wpAny_bind (wpAny_bind (wpAny_onRaise (?_:wpAny _ _ (Builtin.SmallTypes.nextOf (.ref N)>>=_) _ _ _)))
  have e1:S1 i g1:=D1.frame _ _ _ h1 fun b hb o e=>(s1.2 b (nin2 hb (by ac_rfl) (by ac_rfl))).trans e
  rcases hi with rfl|⟨i1,rfl⟩
  ·refine wpAny_bind (D1.done _ _ _ e1 fun g2 e x2 he=>?_)
   obtain⟨oe,hoe,hce⟩:=he
   have z2:zdS g2 (N+4) (N+2) (N+3) .ellipsis bb:=x2 _ _ (ne_ (by ac_rfl)) z1
   have hez:e≠N+4:=fun x=>by subst x;rw[z2]at hoe;cases hoe;simp at hce
   exact wpAny_setField_rec z2 (by simp) fun g3 _ s3=>k g3 e _ (fun c o c1 c2 c3 c4 x=>(s3.2 c c4).trans (x2 c o c1 ((s1.2 c c4).trans x))) ⟨oe,(s3.2 _ hez).trans hoe,hce⟩
  ·refine wpAny_bind (D1.item i _ _ _ i1 e1 fun x g2 t2 p1 f2 s2=>wpAny_pure ?_)
   have q2:IsPair g2 (N+3) a b:=(s2.2 _ (ne_ (by ac_rfl))).trans ((s1.2 _ (ne_ (by ac_rfl))).trans hTO)
   refine wpAny_bind (wpAny_seqItems q2 rfl (wpAny_bind (wpAny_updateSeq_pair q2 fun g3 q3 s3=>wpAny_bind (wpAny_letGo (wpAny_pure ?_)))))
   replace q3:IsPair g3 (N+3) x b:=q3
   refine wpAny_bind (wpAny_bind (wpAny_onRaise (?_:wpAny _ _ (Builtin.SmallTypes.nextOf (.ref (N+1))>>=_) _ _ _)))
   have e3:S2 i g3:=D2.frame _ _ _ h2 fun b hb o e=>(s3.2 b (nin2 hb (by ac_rfl) (by ac_rfl))).trans ((s2.2 b (nin2 hb (by ac_rfl) (by ac_rfl))).trans ((s1.2 b (nin2 hb (by ac_rfl) (by ac_rfl))).trans e))
   refine wpAny_bind (D2.done _ _ _ e3 fun g4 e x4 he=>?_)
   obtain⟨oe,hoe,hce⟩:=he
   have z3:zdS g3 (N+4) (N+2) (N+3) .ellipsis bb:=(s3.2 _ (ne_ (by ac_rfl))).trans ((s2.2 _ (ne_ (by ac_rfl))).trans z1)
   have z4:zdS g4 (N+4) (N+2) (N+3) .ellipsis bb:=x4 _ _ (ne_ (by ac_rfl)) z3
   have hez:e≠N+4:=fun x=>by subst x;rw[z4]at hoe;cases hoe;simp at hce
   exact wpAny_setField_rec z4 (by simp) fun g5 _ s5=>k g5 e _ (fun c o c1 c2 c3 c4 x=>(s5.2 c c4).trans (x4 c o c2 ((s3.2 c c3).trans ((s2.2 c c1).trans ((s1.2 c c4).trans x))))) ⟨oe,(s5.2 _ hez).trans hoe,hce⟩
 ·simp only[Bool.false_eq_true,if_false,List.forIn_toArray,List.forIn_cons,List.forIn_nil]
  have e0:S1 i g0:=D1.frame _ _ _ h1 fun b hb o e=>(s0.2 b (nin2 hb (by ac_rfl) (by ac_rfl))).trans e
  refine wpAny_bind (wpAny_bind (wpAny_bind (wpAny_holding (?_:wpAny _ _ (Builtin.SmallTypes.nextOf (.ref N)>>=_) _ _ _))))
  rcases hi with rfl|⟨i1,rfl⟩
  ·refine wpAny_bind (D1.done _ _ _ e0 fun g2 e x2 he=>?_)
   exact k g2 e _ (fun c o c1 c2 c3 c4 x=>x2 c o c1 ((s0.2 c c4).trans x)) he
  ·refine wpAny_bind (D1.item i _ _ _ i1 e0 fun x g2 t2 p1 f2 s2=>wpAny_pure (wpAny_pure ?_))
   refine wpAny_bind (wpAny_bind (wpAny_holding (?_:wpAny _ _ (Builtin.SmallTypes.nextOf (.ref (N+1))>>=_) _ _ _)))
   have e3:S2 i g2:=D2.frame _ _ _ h2 fun b hb o e=>(s2.2 b (nin2 hb (by ac_rfl) (by ac_rfl))).trans ((s0.2 b (nin2 hb (by ac_rfl) (by ac_rfl))).trans e)
   refine wpAny_bind (D2.done _ _ _ e3 fun g4 e x4 he=>?_)
   exact k g4 e _ (fun c o c1 c2 c3 c4 x=>x4 c o c2 ((s2.2 c c1).trans ((s0.2 c c4).trans x))) he
end
theorem ZipAt.at {h h':Heap}{z TI TO:Addr}(x:ZipAt h z TI TO)(e:∀o,h.get? z=some o->h'.get? z=some o):ZipAt h' z TI TO:=by
 obtain⟨f0,b,q,r⟩:=x
 exact⟨f0,b,e _ q,r⟩
theorem zly {z TI TO:Addr}(hz:ZipAt s.heap z TI TO)(h:Q (.ref z) s):wpAny (model prog w) A (pyIter (.ref z)) Q E s:=by
 obtain⟨f0,b,q,r⟩:=hz
 have hT:s.TypeIs (.ref z) "zip":=⟨_,q,rfl⟩
 exact wpAny_pyIter_slot hT F.slot_zip_iter (wpAny_call_entry F.slot_zip_iter hT F.entry_zip_iter (wpAny_pure ⟨.ref z,rfl,"zip",.builtin "zip.__next__",hT,F.slot_zip_next.lookup,h⟩) (F.args_zip_iter_1 (.ref z)))
theorem letGoZ {z TI TO:Addr}{Q:Unit->Shared->Prop}(hz:ZipAt s.heap z TI TO)(h1:Q () s)
  (h2:∀h',ZipAt h' z TI TO->Heap.SameBut z s.heap h'->Q () {s with heap:=h'}):wpAny (model prog w) A (letOwnedTupleGo tg (.ref z) u) Q E s:=by
 obtain⟨f0,b,q,r⟩:=hz
 have core:∀a:Addr,wpAny (model prog w) A (do
   let o<-load z
   match o.cls,o.data with
    |Value.type n,Data.fields vs=>
     if(["enumerate","zip","dict_itemiterator","dict_reverseitemiterator","odict_iterator","itertools.zip_longest","itertools.pairwise"].contains n&&vs[0]? ==some (rawInt ↑a))=true then do
      rule "for.unpacks-the-owned-tuple"
      updateField z 0 Value.none
     else pure ()
    |x,x_1=>pure ()) Q E s:=fun a=>by
  refine wpAny_bind (wpAny_load q ?_)
  dsimp only
  split
  ·refine wpAny_bind (wpAny_rule ?_)
   refine(?_:wpAny _ _ (setField (.ref z) 0 .none) _ _ _)
   exact wpAny_setField_rec q (by simp) fun g1 z1 s1=>h2 g1 ⟨_,_,z1,.inl rfl⟩ s1
  ·exact wpAny_pure h1
 unfold letOwnedTupleGo
 cases tg<;>first|exact wpAny_pure h1|(cases u<;>first|exact wpAny_pure h1|exact core _)
theorem zmZ {P:Program}{w:World}(t1:Bool)(a1:Nat)(t2:Bool)(a2:Nat)(n N:Nat)(l1:a1<N)(l2:a2<N):
  Turn P w K tg (Itz2 K t1 a1 t2 a2 n) ([N,N+1,N+2,N+3,N+4]:List Nat) (N+4:Nat)
   (fun i h=>i<=n/\ZipAt h (N+4:Nat) (N+2:Nat) (N+3:Nat)/\IsPair h (N+2:Nat) (.ref N) (.ref (N+1:Nat))/\(∃a b,IsPair h (N+3:Nat) a b)/\SrcIt t1 h N a1 i/\SrcIt t2 h (N+1:Nat) a2 i) where
 mem:=by simp
 obj:=fun i h st b hb=>by
  obtain⟨-,h4,h2,⟨a,c,h3⟩,h0,h1⟩:=st
  simp only[List.mem_cons,List.not_mem_nil,or_false]at hb
  rcases hb with rfl|rfl|rfl|rfl|rfl
  ·exact h0.obj
  ·exact h1.obj
  ·exact⟨_,h2,fun v z=>by cases z⟩
  ·exact⟨_,h3,fun v z=>by cases z⟩
  ·obtain⟨f0,bb,z4,-⟩:=h4
   exact⟨_,z4,fun v z=>by cases z⟩
 keep:=fun i h h' st k=>by
  obtain⟨hi,h4,h2,⟨a,c,h3⟩,h0,h1⟩:=st
  exact⟨hi,h4.at fun o e=>k _ (by simp) o e,k _ (by simp) _ h2,⟨a,c,k _ (by simp) _ h3⟩,h0.at fun o e=>k _ (by simp) o e,h1.at fun o e=>k _ (by simp) o e⟩
 item:=by
  intro X hP hw hK hc i pins s σ H E I hf st hg
  subst hP hw hK
  obtain⟨hi,h4,h2,⟨a,c,h3⟩,h0,h1⟩:=st
  obtain⟨hn,xs,ys,q1,q2,en⟩:=hg
  obtain⟨us,ru,hu,zu⟩:=q1.heap I
  obtain⟨ws,rw',hw',zw⟩:=q2.heap I
  have lu:=ru.length
  have lw:=rw'.length
  have D1:=zdU (prog:=X.prog) (w:=X.w) (A:=X.A.in1) (t:=t1) (I.ok.hd hc) N a1 (ne_ (by ac_rfl)) us.toArray
  have D2:=zdU (prog:=X.prog) (w:=X.w) (A:=X.A.in1) (t:=t2) (I.ok.hd hc) (N+1) a2 (ne_ (by ac_rfl)) ws.toArray
  have z4:=h4
  obtain⟨f0,bb,z4,-⟩:=z4
  have hT:s.TypeIs (.ref (N+4:Nat)) "zip":=⟨_,z4,rfl⟩
  unfold pyNext
  refine wpAny_bind (wpAny_attempt (wpAny_callSpecial?_slot (name:=Str.ofString "__next__") hT F.slot_zip_next (wpAny_call_entry F.slot_zip_next hT F.entry_zip_next
   (znl D1 D2 l1 l2 h4 h2 h3 ⟨h0,hu⟩ ⟨h1,hw'⟩ (by simp;lia) (by simp;lia) fun x y h' tk p1 p2 g4 g3 g0 g1 gT kk=>wpAny_pure ?_) (F.args_zip_next_1 _))))
  obtain⟨x1,hx1⟩:∃x1,xs[i]? =some x1:=⟨xs[i]'(by lia),List.getElem?_eq_getElem _⟩
  obtain⟨x2,hx2⟩:∃x2,ys[i]? =some x2:=⟨ys[i]'(by lia),List.getElem?_eq_getElem _⟩
  obtain⟨u1,hu1,r1⟩:=ru.get hx1
  obtain⟨u2,hu2,r2⟩:=rw'.get hx2
  have e1:u1=x:=by
   have:us[i]? =some x:=by simpa using p1
   rw[hu1]at this;cases this;rfl
  have e2:u2=y:=by
   have:ws[i]? =some y:=by simpa using p2
   rw[hu2]at this;cases this;rfl
  subst e1 e2
  refine⟨_,rfl,?_⟩
  have fin:∀h'',ZipAt h'' (N+4:Nat) (N+2:Nat) (N+3:Nat)->Heap.SameBut (N+4:Nat) h' h''->∃x H',L2.Inv X pins σ H' {s with heap:=h'',toks:=tk}/\RelV x (.ref s.heap.objs.size)/\(Itz2 X.K t1 a1 t2 a2 n).yld i H x H'/\(i+1<=n/\ZipAt h'' (N+4:Nat) (N+2:Nat) (N+3:Nat)/\IsPair h'' (N+2:Nat) (.ref N) (.ref (N+1:Nat))/\(∃a b,IsPair h'' (N+3:Nat) a b)/\SrcIt t1 h'' N a1 (i+1)/\SrcIt t2 h'' (N+1:Nat) a2 (i+1))/\∀b∈([N,N+1,N+2,N+3,N+4]:List Nat),H' b=none:=fun h'' z'' sb=>by
   have lz:N+4<s.heap.objs.size:=Heap.lt_size z4
   have kk':∀b o,b∉([N,N+1,N+2,N+3,N+4]:List Nat)->s.heap.get? b=some o->h''.get? b=some o:=fun b o hb e=>by
    obtain⟨c1,c2,c3,c4⟩:=nin4 hb
    exact(sb.2 b c4).trans (kk b o c1 c2 c3 c4 e)
   have I1:=zoX (t':=tk) (vs:=[x1,x2]) (its:=[u1,u2]) I kk' hf (fun b hb=>by
    have:b=N\/b=N+1\/b=N+2\/b=N+3\/b=N+4:=by simpa using hb
    exact Nat.lt_of_le_of_lt (show(b:Nat)<=N+4 by rcases this with h|h|h|h|h<;>rw[h]<;>simp) lz) ((sb.2 _ (ne_ (by ac_rfl))).trans gT) (by simp;rw[sizeLine_eq];decide) (.cons r1 (.cons r2 .nil))
   refine⟨.ref s.heap.objs.size,_,I1,rfl,⟨_,x1,x2,I.hok.fresh (Nat.le_refl _),rfl,rfl,fun xs' ys' b1 b2=>?_⟩,⟨hn,z'',(sb.2 _ (ne_ (by ac_rfl))).trans (kk _ _ (ne_ (by ac_rfl)) (ne_ (by ac_rfl)) (ne_ (by ac_rfl)) (ne_ (by ac_rfl)) h2),(let⟨a',b',e'⟩:=g3;⟨a',b',(sb.2 _ (ne_ (by ac_rfl))).trans e'⟩),SrcIt.at g0.1 fun o e=>(sb.2 _ (ne_ (by ac_rfl))).trans e,SrcIt.at g1.1 fun o e=>(sb.2 _ (ne_ (by ac_rfl))).trans e⟩,fun b hb=>?_⟩
   ·rw[SrcSq.inj I b1 q1,SrcSq.inj I b2 q2]
    exact⟨hx1,hx2⟩
   ·have:b=N\/b=N+1\/b=N+2\/b=N+3\/b=N+4:=by simpa using hb
    rw[zap (Nat.ne_of_lt (Nat.lt_of_le_of_lt (show(b:Nat)<=N+4 by rcases this with h|h|h|h|h<;>rw[h]<;>simp) lz))]
    exact(hf b hb).1
  exact letGoZ (s:={s with heap:=h',toks:=tk}) g4 (fin h' g4 ⟨rfl,fun _ _=>rfl⟩) fun h'' z'' sb=>fin h'' z'' sb
 done:=by
  intro X hP hw hK hc i pins s σ H E I hf st hg
  subst hP hw hK
  obtain⟨hi,h4,h2,⟨a,c,h3⟩,h0,h1⟩:=st
  obtain⟨hn,xs,ys,q1,q2,en⟩:=hg
  obtain⟨us,ru,hu,zu⟩:=q1.heap I
  obtain⟨ws,rw',hw',zw⟩:=q2.heap I
  have lu:=ru.length
  have lw:=rw'.length
  have D1:=zdU (prog:=X.prog) (w:=X.w) (A:=X.A.in1) (t:=t1) (I.ok.hd hc) N a1 (ne_ (by ac_rfl)) us.toArray
  have D2:=zdU (prog:=X.prog) (w:=X.w) (A:=X.A.in1) (t:=t2) (I.ok.hd hc) (N+1) a2 (ne_ (by ac_rfl)) ws.toArray
  have z4:=h4
  obtain⟨f0,bb,z4,-⟩:=z4
  have hT:s.TypeIs (.ref (N+4:Nat)) "zip":=⟨_,z4,rfl⟩
  unfold pyNext
  refine wpAny_bind (wpAny_attempt (wpAny_callSpecial?_slot (name:=Str.ofString "__next__") hT F.slot_zip_next (wpAny_call_entry F.slot_zip_next hT F.entry_zip_next
   (zo5 D1 D2 l1 l2 h4 h2 h3 ⟨h0,hu⟩ ⟨h1,hw'⟩ (by simp;lia) fun h' e tk kk he=>?_) (F.args_zip_next_1 _))))
  obtain⟨o,ho,hce⟩:=he
  refine wpAny_bind (wpAny_isInstance (T:="StopIteration") (b:=true) ⟨o,ho,hce⟩ isSubtype_stop (wpAny_pure ⟨rfl,zlF I (fun b o hb e=>?_) hf⟩))
  obtain⟨c1,c2,c3,c4⟩:=nin4 hb
  exact kk b o c1 c2 c3 c4 e
 self:=fun _ _ _ _ _ st h=>zly st.2.1 h
theorem pi_zip2N {a b:Expr}{ta:TA}(hg:Gl X "zip")(hm:X.mg "zip"=none)(ha:PA X [a,b] ta)(hs:autoParam (starEach [a,b] X.env=(false,eval a X.env)::starEach [b] X.env) zu2._auto_1)(hs2:autoParam ((backTo pos (starEach [b] X.env)).any (·.1)=false) zu2._auto_1):
  PI X tg (.Call (.Name "zip" p) [a,b] [] pos) (fun σ H R=>ta σ H fun vs H1=>∃t1 a1 xs t2 a2 ys,vs=[.ref a1,.ref a2]/\SrcSq t1 X.K H1 a1 xs/\SrcSq t2 X.K H1 a2 ys/\R (Itz2 X.K t1 a1 t2 a2 (min xs.length ys.length)) H1):=by
 intro pins s σ H R I h
 refine Call_ (zgK I hg hm boot_zip (PyProof.Rows.callWith_type1 (thn (ha pos pins s σ H _ I h) fun us s1 ⟨vs,H1,I1,r1,q1⟩=>?_) hs hs2))
 obtain⟨t1,a1,xs,t2,a2,ys,e,q1,q2,q⟩:=q1
 subst e
 cases r1 with
 |cons r rr=>
  cases rr with
  |cons r' rr=>
   cases rr
   cases r
   cases r'
   obtain⟨us,ru,hu,-⟩:=q1.heap I1
   obtain⟨ws,rw',hw',-⟩:=q2.heap I1
   refine zpj hu hw' fun h' g4 g2 g3 g0 g1 kk=>wpAny_pyIter_zip g4 ⟨_,_,_,_,H1,rfl,I1.kept (t':=s1.toks) kk,zmZ t1 a1 t2 a2 (min xs.length ys.length) s1.heap.objs.size hu.lt hw'.lt,⟨Nat.zero_le _,⟨_,_,g4,.inl rfl⟩,g2,⟨_,_,g3⟩,g0,g1⟩,fun b hb=>?_,q⟩
   have:b=s1.heap.objs.size\/b=s1.heap.objs.size+1\/b=s1.heap.objs.size+2\/b=s1.heap.objs.size+3\/b=s1.heap.objs.size+4:=by simpa using hb
   have le:s1.heap.objs.size<=b:=by rcases this with h|h|h|h|h<;>rw[h]<;>simp
   exact I1.fpOk le (I1.hok.fresh le)
theorem it_zip2N {a b:Expr}{ma:MA}(hm:X.mg "zip"=none)(ha:SA X [a,b] ma)(hg:autoParam (Gl X "zip") zu2._auto_1)(hs:autoParam (starEach [a,b] X.env=(false,eval a X.env)::starEach [b] X.env) zu2._auto_1)(hs2:autoParam ((backTo pos (starEach [b] X.env)).any (·.1)=false) zu2._auto_1):
  SIt X tg (.Call (.Name "zip" p) [a,b] [] pos) (iZ2 ma):=by
 obtain⟨t,pa,sa⟩:=ha
 refine⟨_,pi_zip2N hg hm pa hs hs2,fun B G H σ ρ ds ρ' Q I hm k=>?_⟩
 obtain⟨⟨es,ρ1⟩,e1,h2⟩:=zag hm
 dsimp only at h2
 refine sa B G H σ ρ es ρ1 _ I e1 fun G1 H1 vs I1 f1 r1=>?_
 split at h2
 ·obtain⟨xs,ex,h2⟩:=zag h2
  obtain⟨ys,ey,h2⟩:=zag h2
  cases h2
  obtain⟨x,y,rfl,rx,ry⟩:=r1.two
  obtain⟨t1,a1,us,rfl,s1,c1⟩:=zpz rx ex
  obtain⟨t2,a2,ws,rfl,s2,c2⟩:=zpz ry ey
  have n1:=c1.length
  have n2:=c2.length
  refine⟨t1,a1,us,t2,a2,ws,rfl,s1 _ I1.fz,s2 _ I1.fz,k _ G1 H1 I1 f1 ⟨fun H i f hi=>?_,fun H i x H' f y d e=>?_,fun H i f hi=>?_⟩⟩
  ·exact⟨by simp[zlZ]at hi;lia,us,ws,s1 _ f,s2 _ f,rfl⟩
  ·obtain⟨p,x1,x2,hp,eh,ex',q⟩:=y
   obtain⟨q1,q2⟩:=q us ws (s1 _ f) (s2 _ f)
   simp only[zlZ,List.getElem?_zipWith]at e
   split at e
   ·rename_i d1 d2 g1 g2
    cases e
    obtain⟨v1,b1,r1⟩:=c1.get g1
    obtain⟨v2,b2,r2⟩:=c2.get g2
    rw[q1]at b1;cases b1
    rw[q2]at b2;cases b2
    exact .inr ⟨p,_,_,hp,eh,ex',rfl,⟨_,_,rfl,r1,_,_,rfl,r2,rfl⟩⟩
   ·cases e
  ·exact⟨by simp[zlZ]at hi;lia,us,ws,s1 _ f,s2 _ f,rfl⟩
 ·cases h2
end M
namespace HT
open PySem PySem.Spec
theorem zk0 {prog:Program}{w:World}{A:Around}{E:Value->Shared->Prop}{s:Shared}{id:String}{b:Builtin}{args:List Value}{kw:List (Str×Value)}{Q:Value->Shared->Prop}
    (hk:builtinKind id=none) (hp:plainId id=true) (hb:entryFor table id=some b) (ha:argsOk id {pos:=args,kw:=kw})
    (hc : wpAny (model prog w) A.in1 (b { pos := args, kw := kw }) (fun fin s' =>
                match fin with
                |Fin.done f=>
                  match Except.ok f with
                  |Except.ok (Flow.ret v)=>Q v s'
                  |Except.ok a=>False
                  |Except.error e=>E e s'
                |Fin.again c'=>
                  c'.quiet=true/\
                    codeAny (model prog w) A c'
                      (fun r s' =>
                        match r with
                        |Except.ok (Flow.ret v)=>Q v s'
                        |Except.ok a=>False
                        |Except.error e=>E e s')
                      s') E s):wpAny (model prog w) A (call (.builtin id) args kw) Q E s:=by
  refine wpAny_call (codeAny_call_builtin hp hb ?_)
  have e:checkBuiltinCall id {pos:=args,kw:=kw}=pure ():=by
    unfold checkBuiltinCall
    simp only[hk]
    unfold argsOk at ha
    revert ha
    cases Manifest.signature? id with
    |none=>exact fun h=>h
    |some sg=>exact fun h=>h
  rw[e]
  exact wpAny_pure hc
end HT
namespace M
open L2 PySem PySem.Spec
open PyProof.Rows hiding St
theorem ndk {l:List Str}(h:autoParam (decide l.Nodup=true) zu10._auto_1):l.Nodup:=of_decide_eq_true h
theorem us_0 {p:List Value->Prop}(h:p []):∀us:List Value,us.length=0->p us:=fun us e=>by
 cases us with
 |nil=>exact h
 |cons=>cases e
theorem us_s {p:List Value->Prop}{n:Nat}(h:∀(a:Value) (us:List Value),us.length=n->p (a::us)):∀us:List Value,us.length=n+1->p us:=fun us e=>by
 cases us with
 |nil=>cases e
 |cons a us=>exact h a us (Nat.succ.inj e)
section
variable {P:Program} {w:World} {K:W.Frag} {mg:Str->Option Value} {base hp:Heap} {x:Str} {st:Stmt} {f:Addr}
noncomputable def FnAt (K:W.Frag)(x:Str)(st:Stmt):Prop:=∃f fd,W.nsIn K mainGlobals x=some (some (.ref f))/\Fun K x x st f fd
theorem FnAt.mk {oc:Value}{od an:Option Addr}{osl:Array (Option Value)}{kV doc pm cdv ct:Value}(a:W.nsIn K mainGlobals x=some (some (.ref f)))(l:K.lookup f=some ⟨oc,od,.func (W.fnOf x x (zfm st) (zb9 st) (zaB st) .none kV doc pm an cdv ct),osl⟩)
  (c:W.codeIn K cdv x=true) (k:W.keepIn K (.ref f)=true):FnAt K x st:=⟨f,_,a,fun_mk l c k⟩
noncomputable abbrev BindsAt (x:Str)(st:Stmt)(ps:List Str):Prop:=∀(kV doc pm:Value) (an:Option Addr) (cdv ct:Value) (us:List Value),us.length=ps.length->bindArgs (W.fnOf x x (zfm st) (zb9 st) (zaB st) .none kV doc pm an cdv ct) ⟨us,[]⟩=pure (ps.zip us)
theorem FnAt.law (h:FnAt K x st)(X:K.In hp)(G:hp.Ns mainGlobals mg)(hf:mg x=some (.ref f)):∃kV doc pm an cdv ct,Fun K x x st f (W.fnOf x x (zfm st) (zb9 st) (zaB st) .none kV doc pm an cdv ct):=by
 obtain⟨f',fd,a,T⟩:=h
 have e:=hf.symm.trans (W.mg_of X G a)
 cases e
 obtain⟨oc,od,kV,doc,pm,an,cdv,ct,osl,rfl,lk,hcd⟩:=id T.ex
 exact⟨kV,doc,pm,an,cdv,ct,T⟩
variable {N:List Str} {k n:Nat} {m:MS}
noncomputable abbrev Bd (P:Program)(w:World)(K:W.Frag)(mg:Str->Option Value)(base:Heap)(x:Str)(st:Stmt)(N:List Str)(k:Nat)(m:MS):Prop:=∀(f:Addr) (cdv:Value) (A:Around) (outer:List Env) (s:Shared) (H:Hp) (E:XK),Room k (A.deeper (PyProof.Rows.envOfC x (zaB st) s.heap.objs.size f cdv))->N.Nodup->SSs (cxOf CX0 P w K mg base N x (zaB st) f cdv A outer s H E).nox (zb9 st) m
structure DefOk (x:Str) (st:Stmt) (N:List Str) (n:Nat):Prop where
 sc:FnScope N (N.take n) (zaB st)
 len:(N.take n).length=n
 le:n<=N.length
 bs:BindsAt x st (N.take n)
theorem lawP {fd:FuncData}(F:Fun K x x st f fd)(b:Bd P w K mg base x st N k m)(d:DefOk x st N n:=by exact⟨⟨rfl,rfl,rfl,by decide+kernel,rfl,by decide+kernel,by decide+kernel⟩,rfl,by decide,fun _ _ _ _ _ _=>by repeat (first | exact us_0 rfl | refine us_s fun _ => ?_)⟩):FnOk P w K mg base CX0 (k+1) f fd (N.take n) (spP K n (fP N.length m)):=fnP_ok F d.sc d.len d.le fun cdv A outer s H E hr=>b _ cdv A outer s H E hr d.sc.nd
theorem fdP (X:K.In hp)(G:hp.Ns mainGlobals mg)(h:FnAt K x st)(b:Bd P w K mg base x st N k m)(d:DefOk x st N n:=by exact⟨⟨rfl,rfl,rfl,by decide+kernel,rfl,by decide+kernel,by decide+kernel⟩,rfl,by decide,fun _ _ _ _ _ _=>by repeat (first | exact us_0 rfl | refine us_s fun _ => ?_)⟩):FD P w K mg base (k+1) x (spP K n (fP N.length m)):=
 let⟨f,fd,a,T⟩:=h
 ⟨⟨f,fd,_,fnP_ok T d.sc d.len d.le fun cdv A outer s H E hr=>b _ cdv A outer s H E hr d.sc.nd,W.mg_of X G a,T.kp,T.binds d.bs⟩⟩
theorem fdM (X:K.In hp)(G:hp.Ns mainGlobals mg)(h:FnAt K x st)(b:Bd P w K mg base x st N k m)(d:DefOk x st N n:=by exact⟨⟨rfl,rfl,rfl,by decide+kernel,rfl,by decide+kernel,by decide+kernel⟩,rfl,by decide,fun _ _ _ _ _ _=>by repeat (first | exact us_0 rfl | refine us_s fun _ => ?_)⟩):FD P w K mg base (k+1) x (spM K n (fM N.length m)):=
 let⟨f,fd,a,T⟩:=h
 ⟨⟨f,fd,_,fnM_ok T d.sc d.len d.le fun cdv A outer s H E hr=>b _ cdv A outer s H E hr d.sc.nd,W.mg_of X G a,T.kp,T.binds d.bs⟩⟩
end
variable {P:Program} {w:World} {H G:Hp} {h:Heap} {a b:Addr} {o:Obj} {xs:List (List L2.Key×Addr×Value)} {ks:List (List Int)} {ys:List (List L2.Key×V)}
noncomputable def Sl.dit:Sl->Option (List (List Int)×List D)
 | .tre (.dit ks ds)=>some (ks,ds)
 | .val (.dit ks ds)=>some (ks,ds)
 |_=>none
noncomputable def keyT:D->Option (List Int)
 | .tup es=>zaG es
 |_=>none
noncomputable def sDPT (j:Nat)(mk me:ME):MS:=fun ρ=>(me ρ).bind fun p=>if(p.2[j]?.bind Sl.dit).isSome then(mk p.2).bind fun q=>(keyT q.1).bind fun k=>q.2[j]?.bind fun s=>match s.tree with
  |some (.dit ks ds)=>if ks.length<16777216 then some (.next,q.2.set j (s.putT (.dit (ptD ks ds k p.1).1 (ptD ks ds k p.1).2)))else none
  |_=>none else none
noncomputable def iDKT (j:Nat):MA:=fun ρ=>match ρ[j]? with
 |some (.val (.dit ks ds))=>some (ks.map fun k=> .tup (k.map .int),ρ)
 |_=>none
end M
namespace M
open L2 PySem PySem.Spec
open PyProof.Rows hiding St
noncomputable def fzDT (j:Nat)(ρ:R):R:=match ρ[j]? with
 |some (.tre (.dit ks ds))=>ρ.set j (.val (.dit ks ds))
 |_=>ρ
noncomputable def zo7 (F:List D->Option Sl)(ma:MA):ME:=fun ρ=>(ma ρ).bind fun p=>(F p.1).bind fun r=>match r with
 | .tre (.tup cs)=>some (.tup (cs.map Ch.D),p.2)
 |_=>none
noncomputable def fzU (j:Nat)(ρ:R):R:=match ρ[j]? with
 |some (.tre (.tup cs))=>ρ.set j (.val (.tup (cs.map Ch.D)))
 |_=>ρ
noncomputable def zmd (j:Nat)(m:MT):MT:=fun ρ=>match ρ[j]? with
 |some (.tre (.tup cs))=>(m (ρ.set j (.val (.tup (cs.map Ch.D))))).bind fun p=>if((ρ.set j .emp).zip p.2).all (fun q=>zia q.1 q.2)then some (p.1,ρ)else none
 |_=>none
noncomputable def sApP (j n:Nat)(d:D):MS:=fun ρ=>match ρ[j]? with
 |some (.tre (.tup cs))=>match cs[n]? with
  |some (.l ds)=>if ds.length<16777216 then some (.next,ρ.set j (.tre (.tup (cs.set n (.l (ds++[d]))))))else none
  |_=>none
 |_=>none
section
variable {X:Cx} {x y:Str} {pos p' q' tpos:Pos} {e:Expr} {es:List Expr} {ma:MA} {k k' n:Nat} {F:List D->Option Sl}
theorem se_callU {z:Str}{p:Pos}(fd:FD X.prog X.w X.K X.mg X.base k z (spP X.K n F))(hr:Room k' X.A)(ha:SA X (e::es) ma)(hlen:∀ρ as ρ',ma ρ=some (as,ρ')->as.length=n)(hk:autoParam (k<=k') zu1._auto_1)(hg:autoParam (Gl X z) zu2._auto_1)(hdb:autoParam ((z==("__debug__":Str))=false) zu1._auto_1)
  (he:autoParam (starEach (e::es) X.env=(false,eval e X.env)::starEach es X.env) zu2._auto_1) (hpl:autoParam ((backTo pos (starEach es X.env)).any (·.1)=false) zu2._auto_1):SE X (.Call (.Name z p) (e::es) [] pos) (zo7 F ma):=by
 obtain⟨f,fdd,ps,G0,h1,h2,h3⟩:=fd.ex
 obtain⟨t,pa,sa⟩:=ha
 refine⟨_,zh7 G0 (hr.mono hk) hg h1 h2 h3 .nil zoN pa hdb he hpl,fun B G H σ ρ d ρ' Q I hm kk=>?_⟩
 obtain⟨⟨as,ρ1⟩,e1,hm⟩:=zag hm
 obtain⟨r,e2,hm⟩:=zag hm
 refine sa B G H σ ρ as ρ1 _ I e1 fun G1 H1 vs I1 f1 r1=>?_
 show spP X.K n F (vs++[]) H1 Q E0
 rw[List.append_nil]
 refine⟨G1,as,r,e2,hlen ρ as ρ1 e1,I1.fz,r1,fun G2 H2 v f2 fz2 nw kp rr=>?_⟩
 have I2:=I1.grow f2 fz2 nw kp
 split at hm
 ·rename_i cs
  cases hm
  obtain⟨A,q1,q2,q3⟩:=rr
  have hA:∀a∈A,G2 a=none/\B.H a=none/\Nw X.K G2 H2 σ ρ1 a:=fun a m=>⟨(q3 a m).1,I1.there a (q3 a m).2,I1.own_ne (q3 a m).2 nw kp⟩
  obtain⟨p,xs,A',rfl,g1,g2,rfl⟩:=q1
  have fg:=zo6 (H:=H2) fun a m=>(hA a m).1
  exact kk (frA G2 H2 (p::A')) H2 _ (I2.frzA hA) (f1.trans (f2.trans fg)) ⟨p,xs,rfl,by rw[zjh (by simp)];exact g1,zg3 fg g2 fun a m=>zjh (by simp[m])⟩
 ·cases hm
theorem SI.frzU {K:W.Frag}{B:Bs}{G H:Hp}{σ:St}{ρ:R}(I:SI K B G H σ ρ){j:Nat}{cs:List Ch}(e:ρ[j]? =some (.tre (.tup cs))):∃v A,σ[j]? =some (some v)/\RepT K G H v (.tup cs) A/\SI K B (frA G H A) H σ (ρ.set j (.val (.tup (cs.map Ch.D))))/\Fz G (frA G H A):=by
 obtain⟨v,A,h1,h2,h3,h4⟩:=I.slot j _ e
 have h2':=h2
 obtain⟨p,xs,A',rfl,g1,g2,rfl⟩:=h2
 have I1:=I.emp j
 have hA:∀a∈p::A',G a=none/\B.H a=none/\Nw K G H σ (ρ.set j .emp) a:=fun a m=>⟨(h4 a m).1,(h4 a m).2,nw_emp I e ⟨_,_,h1,h2',m⟩⟩
 have fg:=zo6 (H:=H) fun a m=>(hA a m).1
 have I2:=(I1.frzA hA).set (i:=j) (v:= .ref p) (d:= .tup (cs.map Ch.D)) ⟨p,xs,rfl,by rw[zjh (by simp)];exact g1,zg3 fg g2 fun a m=>zjh (by simp[m])⟩
 rw[zkl h1,List.set_set]at I2
 exact⟨_,_,h1,h2',I2,fg⟩
theorem st_peekU {c:Expr}{m:MT}(j:Nat)(h:STt X c m):STt X c (zmd j m):=by
 obtain⟨t,pt,so⟩:=h
 refine⟨t,pt,fun B G H σ ρ b ρ' Q I hm k=>?_⟩
 unfold zmd at hm
 split at hm
 ·rename_i cs e
  obtain⟨⟨b',ρ1⟩,e1,e2⟩:=zag hm
  dsimp only at e2
  split at e2
  ·rename_i al
   cases e2
   obtain⟨v,A,k1,k2,I1,f1⟩:=I.frzU e
   refine so B _ H σ _ b ρ1 _ I1 e1 fun G' H' I2 f2=>?_
   have len1:ρ1.length=ρ.length:=by rw[<-I2.len,I.len]
   refine k G H' (I.move ((f1.trans f2).trans I2.fz) (Fz.refl G) I.new I2.keep I2.there fun i s a es w g hn=>⟨g,?_⟩) (Fz.refl G)
   by_cases hi:i=j
   ·subst hi
    rw[e]at es;cases es
    obtain⟨v2,A2,w1,w2,w3⟩:=w
    rw[k1]at w1;cases w1
    have w4:A2=A:=w2.det k2 fun _ _=>rfl
    subst w4
    obtain⟨o,ho⟩:=Option.ne_none_iff_exists'.mp hn
    rw[ho]
    exact I2.fz _ _ (f2 _ _ (by rw[zjh w3];exact ho))
   ·have q:=I.slot i s es
    have il:i<ρ.length:=(List.getElem?_eq_some_iff.mp es).1
    have es1:ρ1[i]? =some (ρ1[i]'(by lia)):=List.getElem?_eq_getElem _
    have lk:zia s (ρ1[i]'(by lia))=true:=by
     have:=List.all_eq_true.mp al (s,ρ1[i]'(by lia)) (by
      apply List.mem_of_getElem? (i:=i)
      rw[List.getElem?_zip_eq_some]
      exact⟨by rw[List.getElem?_set_ne (Ne.symm hi)];exact es,es1⟩)
     exact this
    have q1:=I2.slot i _ es1
    generalize ρ1[i]'(by lia)=s1 at lk q1
    cases s with
    |emp=>exact w.elim
    |two _ _=>exact w.elim
    |val d=>exact w.elim
    |tre _=>cases s1<;>cases lk
    |ptr _=>cases s1<;>cases lk
    |own d0=>
     cases s1 with
     |own d1=>
      obtain⟨ns,rfl,rfl⟩:=zkJ lk
      obtain⟨a1,xs1,m1,m2,m3,m4,m5⟩:=q1
      obtain⟨a0,xs0,n1,n2,n3,n4,n5⟩:=q
      cases n1.symm.trans (show σ[i]? =some (some (.ref a))from w)
      cases n1.symm.trans m1
      rw[m3,n3,RepL.ints_eq m4,RepL.ints_eq n4]
     |_=>cases lk
    |par d0=>
     cases s1 with
     |par d1=>
      obtain⟨ns,rfl,rfl⟩:=zkJ lk
      obtain⟨a1,xs1,m1,m2,m3,m4,m5⟩:=q1
      obtain⟨a0,xs0,n1,n2,n3,n4,n5⟩:=q
      cases n1.symm.trans (show σ[i]? =some (some (.ref a))from w)
      cases n1.symm.trans m1
      rw[m3,n3,RepL.ints_eq m4,RepL.ints_eq n4]
     |_=>cases lk
  ·cases e2
 ·cases hm
theorem ss_appP (j n:Nat){d:D}{me:ME}{apos cpos spos ipos:Pos}{j1}(hn:n<=8)(he:SE X e me)(hme:∀ρ,me ρ=some (d,ρ))(hN:autoParam (X.N[j]? =some y) zu2._auto_1)(hv:autoParam (Vis X.env.scope y) zu5._auto_1)(hd:autoParam ((y==("__debug__":Str))=false) zu1._auto_1)
  (hcd:autoParam ((y==("__classdict__":Str))=false) zu1._auto_1)
  (hbase:autoParam (attributeBase (.Subscript (.Name y p') (.Constant (.int n) j1 ipos) spos) "append" X.env (eval (.Subscript (.Name y p') (.Constant (.int n) j1 ipos) spos) X.env)=eval (.Subscript (.Name y p') (.Constant (.int n) j1 ipos) spos) X.env) zu2._auto_1)
  (hfew :autoParam (((backTo cpos (starEach [e] X.env)).all (fun x => !x.1) && (backToKw cpos (keywordEach [] X.env)).all (fun x => x.1.isSome)
   &&decide ([e].length+([]:List Keyword).length+(if([]:List Keyword).isEmpty then 0 else 1)<30))=true) zu2._auto_1)
  (hline:autoParam ((apos.endLine==cpos.line)=true) zu2._auto_1) (hs:autoParam (starEach [e] X.env=(false,eval e X.env)::starEach [] X.env) zu2._auto_1) (hsi:autoParam (zgF (.Constant (.int n) j1 ipos)) zu6._auto_1):
  SS X (.Expr (.Call (.Attribute (.Subscript (.Name y p') (.Constant (.int n) j1 ipos) spos) "append" apos) [e] [] cpos) pos) (sApP j n d):=by
 obtain⟨te,pe,se⟩:=he
 refine⟨_,zlM (zny PySem.F.plainAttrs_list PySem.F.slot_list_append PySem.F.type_list_append zic (znr ix_tup (zcX hN hv hd hcd) zkW hsi) (za7 pe zcQ hs) hbase hfew hline hs rfl) (by rfl),fun B G H σ ρ fl ρ' E I hm k=>?_⟩
 unfold sApP at hm
 split at hm
 ·rename_i cs e1
  split at hm
  ·rename_i ds e2
   split at hm
   ·rename_i hl
    cases hm
    obtain⟨v,A,h1,h2,h3,h4⟩:=I.slot j _ e1
    have h2':=h2
    obtain⟨p,xs,A',rfl,g1,g2,rfl⟩:=h2
    obtain⟨w,A1,j1,⟨l,ys,rfl,j2,j3,j4⟩,j5⟩:=zfC g2 e2
    have lA:l∈A':=j5 l (by rw[j4];simp)
    have nd:=List.nodup_cons.mp h3
    have at1:atI xs (n:Int)=some (.ref l):=by
     obtain⟨hlt,hx⟩:=List.getElem?_eq_some_iff.mp j1
     unfold atI ixN
     simp[hlt,hx]
    refine⟨.ref p,h1,p,xs,n,.ref l,rfl,rfl,SqT.of g1,at1,.inl ⟨rfl,_,SqL.of j2⟩,?_⟩
    have I0:SI X.K ⟨G,H,[]⟩ G H σ (List.replicate σ.length .emp):={
     fz:=I.fz,g0:=Fz.refl G,new:=fun b o q=> .inl (by rw[show(⟨G,H,[]⟩:Bs).G b=G b from rfl,q];simp),keep:=fun b o q _=>q,there:=fun b q=>q,len:=by simp,ob:=fun i b m=>by simp at m
     slot:=fun i s q=>by
      have:s= .emp:=(List.mem_replicate.mp (List.mem_of_getElem? q)).2
      subst this;trivial
     dis:=fun i j s t a _ q _ w=>by
      have:s= .emp:=(List.mem_replicate.mp (List.mem_of_getElem? q)).2
      subst this;exact w.elim}
    refine se _ G H σ _ d _ _ I0 (hme _) fun G1 H1 v1 J1 f1 r1=>?_
    have kp:Fz H H1:=fun b o q=>J1.keep b o q fun i m=>by simp at m
    have nw:∀b o,G1 b=some o->G b≠none\/H b=none:=fun b o q=>J1.new b o q
    have I1:=I.grow f1 J1.fz nw kp
    have kpA:∀a∈p::A',H1 a=H a:=fun a m=>by
     obtain⟨o,ho⟩:=Option.ne_none_iff_exists'.mp (h2'.here m)
     rw[ho];exact kp _ _ ho
    have h2n:=h2'.move f1 kpA
    refine⟨l,ys,v1,rfl,rfl,kp _ _ j2,by rw[j3.length,sizeLine_eq];exact hl,?_⟩
    have g2n:RepCs X.K G1 H1 xs cs A':=g2.move f1 fun a m=>kpA a (by simp[m])
    have rep:RepT X.K G1 (upd H1 l (.lst (ys++[v1]))) (.ref p) (.tup (cs.set n (.l (ds++[d])))) (p::A'):=
     ⟨p,xs,A',rfl,by rw[zap fun z=>nd.1 (by rw[z];exact lA)];exact kp _ _ g1,zli g2n nd.2 e2 j1 ((j3.mono f1).snoc r1),rfl⟩
    have gl:G1 l=none:=by
     obtain⟨v5,A5,q1,q2,q3,q4⟩:=I1.slot j _ e1
     rw[h1]at q1;cases q1
     have:A5=p::A':=q2.det h2n fun _ _=>rfl
     exact(q4 l (by rw[this];simp[lA])).1
    refine k G1 _ σ (I1.chT2 e1 h1 h2n (I1.fz.right gl _) (fun b o nb h=>by rw[zap (fun z=>nb (by rw[z];simp[lA]))];exact h) (fun b h=>?_) rep h3 fun a m=> .inl m) f1
    by_cases z:b=l
    ·subst z;rw[zas]at h;cases h
    ·rw[zap z]at h;exact h
   ·cases hm
  ·cases hm
 ·cases hm
end
noncomputable def turnT (g:D->R->Option R)(mt:MT)(mo:MO):D->R->Option (Option (List D)×R):=fun d ρ=>(g d ρ).bind fun ρ1=>(mt ρ1).bind fun p=>if p.1 then(mo p.2).bind fun q=>if zdD q.2 then some (some q.1,q.2)else none else if zdD p.2 then some (none,p.2)else none
noncomputable def rowsOf:List Ch->Option (List (List D))
 |[]=>some []
 | .l ds::cs=>(rowsOf cs).map (ds:: ·)
 |_=>none
noncomputable def zpt (ma:ME)(mo:MO):MS:=fun ρ=>(ma ρ).bind fun p=>(mo p.2).bind fun r=>some (.ret (.tre (.tup [.d p.1,.l r.1])),r.2)
noncomputable def oCpU (j n:Nat):MO:=fun ρ=>match ρ[j]? with
 |some (.tre (.tup cs))=>match cs[n]? with
  |some (.l ds)=>some (ds,ρ)
  |_=>none
 |_=>none
section
variable {X:Cx} {x y:Str} {pos p' q' tpos:Pos} {e:Expr} {n:Nat}
theorem ss_retUl {a:Expr}{m1:ME}{mo:MO}{nn:Nat}{pos2:Pos}(ha:SE X a m1)(ho:SO X e mo)
  (hs:autoParam (starEach [a,e] X.env=(false,eval a X.env)::starEach [e] X.env) zu2._auto_1)
  (hs2:autoParam (starEach [e] X.env=(false,eval e X.env)::starEach [] X.env) zu2._auto_1):
  SS X (.Return (some (.Tuple [a,e] nn pos2)) pos) (zpt m1 mo):=by
 obtain⟨ta,pa,sa⟩:=ha
 obtain⟨te,pe,so⟩:=ho
 refine⟨_,zmS (pe_tup (za7 pa (za7 pe zcQ hs2) hs)),fun B G H σ ρ fl ρ' E I hm k=>?_⟩
 obtain⟨⟨d1,ρ1⟩,e1,hm⟩:=zag hm
 obtain⟨⟨ds,ρ4⟩,e4,hm⟩:=zag hm
 cases hm
 refine sa B G H σ ρ d1 ρ1 _ I e1 fun G3 H3 v1 I3 f1 r1=>?_
 refine so B G3 H3 σ ρ1 ds ρ4 _ I3 e4 fun G4 H4 l xs I4 f4 g4 h4 r4 b4 _=>?_
 refine⟨by rw[sizeLine_eq];exact(by decide:(2:Nat)<=16777216),fun p hp=>?_⟩
 have lp:l≠p:=zax h4 hp
 refine k G4 _ σ _ (I4.allocO hp _) (f1.trans f4) ⟨[p,l],⟨p,_,[l],rfl,zas,⟨[],[l],⟨r1.mono f4,rfl⟩,⟨[l],[],⟨l,xs,rfl,by rw[zap lp];exact h4,r4,rfl⟩,rfl,rfl⟩,rfl⟩,rfl⟩,by simpa using lp.symm,fun a m=>?_⟩
 rcases List.mem_cons.mp m with rfl|m
 ·exact⟨I4.fz.free hp,I4.there a hp⟩
 ·have:a=l:=by simpa using m
  subst this
  exact⟨g4,b4⟩
theorem so_listU (j n:Nat){ipos spos pos2 pos4:Pos}{j1}(ml:X.mg "list"=none)
  (hNy:autoParam (X.N[j]? =some y) zu2._auto_1) (hv:autoParam (Vis X.env.scope y) zu5._auto_1) (hd:autoParam ((y==("__debug__":Str))=false) zu1._auto_1) (hcd:autoParam ((y==("__classdict__":Str))=false) zu1._auto_1)
  (hg:autoParam (Gl X "list") zu2._auto_1) (he:autoParam (starEach [.Subscript (.Name y p') (.Constant (.int n) j1 ipos) spos] X.env=(false,eval (.Subscript (.Name y p') (.Constant (.int n) j1 ipos) spos) X.env)::starEach [] X.env) zu2._auto_1) (hbt:autoParam (bootBuiltins "list"=some (.type "list")) zu7._auto_1) (hsi:autoParam (zgF (.Constant (.int n) j1 ipos)) zu6._auto_1):
  SO X (.Call (.Name "list" pos2) [.Subscript (.Name y p') (.Constant (.int n) j1 ipos) spos] [] pos4) (oCpU j n):=by
 refine⟨_,zfo zhy hg ml hbt (za7 (znr ix_tup (zcX hNy hv hd hcd) zkW hsi) zcQ he) (by decide) (by decide) he rfl,fun B G H σ ρ ds' ρ' Q I hm k=>?_⟩
 unfold oCpU at hm
 split at hm
 ·rename_i cs e1
  obtain⟨v,A,h1,h2,h3,h4⟩:=I.slot j _ e1
  obtain⟨p,xs,A',rfl,g1,g2,rfl⟩:=h2
  have at1:∀{c:V},xs[n]? =some c->atI xs (n:Int)=some c:=fun{c} h=>by
   obtain⟨hlt,hx⟩:=List.getElem?_eq_some_iff.mp h
   unfold atI ixN
   simp[hlt,hx]
  split at hm
  ·rename_i ds e2
   cases hm
   obtain⟨w,A1,q1,⟨l,ys,rfl,q2,q3,-⟩,-⟩:=zfC g2 e2
   refine⟨.ref p,h1,p,xs,n,.ref l,rfl,rfl,SqT.of g1,at1 q1,?_⟩
   refine⟨l,ys,rfl,.inl (SqL.of q2),fun l' hl'=>?_⟩
   obtain⟨I2,g3,h3',b3,n3⟩:=I.newO hl' ys
   exact k G _ l' ys I2 (Fz.refl G) g3 h3' q3 b3 n3
  ·cases hm
 ·cases hm
end
noncomputable def znx (b c:Nat)(ρ:R):Bool:=match ρ[b]?,ρ[c]? with
 |some (.par _),some (.par _)=>zdD ((ρ.set b .emp).set c .emp)
 |_,_=>false
noncomputable def turnQ (b c:Nat)(g:D->R->Option R)(mt:MT)(me:ME):D->R->Option (Option D×R):=fun d ρ=>(g d ρ).bind fun ρ1=>(mt ρ1).bind fun p=>if p.1 then(me p.2).bind fun q=>if znx b c q.2 then some (some q.1,q.2)else none else if znx b c p.2 then some (none,p.2)else none
end M
namespace M
open PySem PySem.W
open PyProof.Rows (bubble mirror bubble_size bubble_perm mirror_size mirror_perm getElem?_bubble getElem?_mirror_all)
variable {cmp:Nat->Nat->(Bool->Shared->Prop)->Shared->Prop} {s:Shared} {a b i j n m k:Nat} {p q:Array Nat}
noncomputable def kGd (n:Nat)(lt:Nat->Nat->Bool){α:Type}:KasT α->(α->Prop)->Prop
 | .ret a,Q=>Q a
 | .ask i j k,Q=>i<n/\j<n/\kGd n lt (k (lt i j)) Q
noncomputable def kRun (lt:Nat->Nat->Bool){α:Type}:KasT α->α
 | .ret a=>a
 | .ask i j k=>kRun lt (k (lt i j))
section
variable {n:Nat} {lt:Nat->Nat->Bool} {α β:Type}
theorem zf0 {f:α->KasT β}{Q:β->Prop}:∀{t:KasT α},kGd n lt t (fun a=>kGd n lt (f a) Q)->kGd n lt (t.bind f) Q
 | .ret _,h=>h
 | .ask _ _ _,⟨h1,h2,h3⟩=>⟨h1,h2,zf0 h3⟩
theorem zco {Q Q':α->Prop}(q:∀a,Q a->Q' a):∀{t:KasT α},kGd n lt t Q->kGd n lt t Q'
 | .ret a,h=>q a h
 | .ask _ _ _,⟨h1,h2,h3⟩=>⟨h1,h2,zco q h3⟩
theorem zlT {Q:α->Prop}:∀{t:KasT α},kGd n lt t Q->Q (kRun lt t)
 | .ret _,h=>h
 | .ask i j k,⟨_,_,h3⟩=>zlT (t:=k (lt i j)) h3
theorem zn4 {Q0:α->Prop}{Q:α->Shared->Prop}(hc:∀i j C,i<n->j<n->C (lt i j) s->cmp i j C s):
  ∀{t:KasT α},kGd n lt t Q0->Q (kRun lt t) s->t.kasWp cmp Q s
 | .ret _,_,h=>h
 | .ask i j k,⟨h1,h2,h3⟩,h=>hc i j _ h1 h2 (zn4 (t:=k (lt i j)) hc h3 h)
end
structure Ord (lt:Nat->Nat->Bool):Prop where
 tr:∀a b c,lt b a=false->lt c b=false->lt c a=false
 as:∀a b,lt a b=true->lt b a=false
theorem Ord.rf {lt:Nat->Nat->Bool}(o:Ord lt)(a:Nat):lt a a=false:=by
 cases h:lt a a with
 |false=>rfl
 |true=>rw[o.as a a h]at h;cases h
theorem Ord.lt_le {lt:Nat->Nat->Bool}(o:Ord lt){a b c:Nat}(h:lt a b=true)(k:lt c b=false):lt a c=true:=by
 cases z:lt a c with
 |true=>rfl
 |false=>rw[o.tr b c a k z]at h;cases h
noncomputable def kv (p:Array Nat)(k:Nat):Nat:=p.getD k 0
theorem zoG (h:p[i]? =q[j]?):kv p i=kv q j:=by
 unfold kv
 rw[Array.getD_eq_getD_getElem?,Array.getD_eq_getD_getElem?,h]
structure Pm (n:Nat) (p:Array Nat):Prop where
 pm:p.toList.Perm (List.range n)
theorem Pm.size (h:Pm n p):p.size=n:=by
 have:=h.pm.length_eq
 rwa[Array.length_toList,List.length_range]at this
theorem Pm.lt (h:Pm n p)(hn:0<n)(k:Nat):kv p k<n:=by
 unfold kv
 by_cases hk:k<p.size
 ·have:p.getD k 0=p[k]:=by simp[Array.getD,hk]
  rw[this]
  exact List.mem_range.mp (h.pm.mem_iff.mp (Array.mem_toList_iff.mpr (Array.getElem_mem hk)))
 ·have:p.getD k 0=0:=by simp[Array.getD,hk]
  rw[this];exact hn
theorem Pm.bub (h:Pm n p)(a d:Nat):Pm n (bubble p a d):=⟨(Array.perm_iff_toList_perm.mp (bubble_perm p a d)).trans h.pm⟩
theorem Pm.rev (h:Pm n p)(i j:Nat):Pm n (kas_rev p i j):=⟨(Array.perm_iff_toList_perm.mp (mirror_perm p i j _)).trans h.pm⟩
theorem zoU {i j:Nat}(hj:j<=p.size)(k:Nat):kv (kas_rev p i j) k=if i<=k/\k<j then kv p (i+j-1-k)else kv p k:=by
 have h:=getElem?_mirror_all (i:=i) hj k
 split
 ·rename_i z;rw[if_pos z]at h;exact zoG h
 ·rename_i z;rw[if_neg z]at h;exact zoG h
theorem kv_bub {a d:Nat}(ha:a<p.size)(hd:d<=a)(k:Nat):kv (bubble p a d) k=if k=a-d then kv p a else if a-d<k/\k<=a then kv p (k-1)else kv p k:=by
 have h:=getElem?_bubble ha d hd k
 by_cases z:k=a-d
 ·rw[if_pos z]at h ⊢;exact zoG h
 ·rw[if_neg z]at h ⊢
  by_cases y:a-d<k/\k<=a
  ·rw[if_pos y]at h ⊢;exact zoG h
  ·rw[if_neg y]at h ⊢;exact zoG h
section
variable {n:Nat} {lt:Nat->Nat->Bool}
noncomputable def Up (lt:Nat->Nat->Bool)(p:Array Nat)(m:Nat):Prop:=∀i,0<i->i<m->lt (kv p i) (kv p (i-1))=false
noncomputable def Dn (lt:Nat->Nat->Bool)(p:Array Nat)(m:Nat):Prop:=∀i,0<i->i<m->lt (kv p (i-1)) (kv p i)=false
noncomputable def Eqv (lt:Nat->Nat->Bool)(a b:Nat):Prop:=lt a b=false/\lt b a=false
theorem Eqv.sy (h:Eqv lt a b):Eqv lt b a:=⟨h.2,h.1⟩
theorem Eqv.tr (o:Ord lt){a b c:Nat}(h:Eqv lt a b)(k:Eqv lt b c):Eqv lt a c:=⟨o.tr c b a k.1 h.1,o.tr a b c h.2 k.2⟩
theorem Up.le (o:Ord lt)(h:Up lt p m):∀{j i:Nat},i<=j->j<m->lt (kv p j) (kv p i)=false
 |0,i,h1,_=>by cases Nat.le_zero.mp h1;exact o.rf _
 |j+1,i,h1,h2=>by
  rcases Nat.lt_or_eq_of_le h1 with z|z
  ·exact o.tr _ _ _ (Up.le o h (by lia) (by lia)) (h (j+1) (by lia) h2)
  ·subst z;exact o.rf _
theorem Dn.eqv (o:Ord lt)(h:Dn lt p m)(e:∀k,Eqv lt (kv q k) (kv p k)):Dn lt q m:=fun i h1 h2=>
 o.tr _ _ _ (e i).2 (o.tr _ _ _ (h i h1 h2) (e (i-1)).1)
theorem zls (o:Ord lt)(hj:j<=p.size)(h:∀k,i<=k->k<j->Eqv lt (kv p k) (kv p (j-1)))(k:Nat):Eqv lt (kv (kas_rev p i j) k) (kv p k):=by
 rw[zoU hj]
 split
 ·rename_i z
  exact(h _ (by lia) (by lia)).tr o (h k z.1 z.2).sy
 ·exact⟨o.rf _,o.rf _⟩
theorem Dn.turn (h:Dn lt p m)(hm:m<=p.size):Up lt (kas_rev p 0 m) m:=fun i h1 h2=>by
 rw[zoU hm,zoU hm,if_pos ⟨by lia,h2⟩,if_pos ⟨by lia,by lia⟩]
 have:=h (0+m-1-(i-1)) (by lia) (by lia)
 rwa[show 0+m-1-(i-1)-1=0+m-1-i by lia]at this
theorem zn1 (hn:0<n)(hp:Pm n p):∀(f m:Nat),1<=m->Up lt p m->kGd n lt (kas_asc p f m) fun r=>m<=r/\r<=m+f/\Up lt p r/\(r<m+f->lt (kv p r) (kv p (r-1))=true)
 |0,m,_,h=>⟨Nat.le_refl _,Nat.le_refl _,h,fun z=>absurd z (Nat.lt_irrefl _)⟩
 |f+1,m,h1,h=>by
  refine⟨hp.lt hn m,hp.lt hn (m-1),?_⟩
  show kGd n lt (if lt (kv p m) (kv p (m-1))=true then _ else _) _
  split
  ·rename_i c
   exact⟨Nat.le_refl _,by lia,h,fun _=>c⟩
  ·rename_i c
   have c':lt (kv p m) (kv p (m-1))=false:=by simpa using c
   refine zco (fun r hr=>⟨by lia,by lia,hr.2.2.1,fun z=>hr.2.2.2 (by lia)⟩) (zn1 hn hp f (m+1) (by lia) fun i a b=>?_)
   rcases Nat.lt_or_eq_of_le (Nat.le_of_lt_succ b)with z|z
   ·exact h i a z
   ·subst z;exact c'
theorem zj5 (o:Ord lt)(hn:0<n):∀(f:Nat) (p:Array Nat) (m q:Nat),Pm n p->m+f<=n->q+1<=m->Dn lt p m->(∀k,m-(q+1)<=k->k<m->Eqv lt (kv p k) (kv p (m-1)))->
  kGd n lt (kas_desc f p m q) fun r=>Pm n r.1/\m<=r.2.1/\r.2.1<=m+f/\r.2.2+1<=r.2.1/\Dn lt r.1 r.2.1/\∀k,r.2.1-(r.2.2+1)<=k->k<r.2.1->Eqv lt (kv r.1 k) (kv r.1 (r.2.1-1))
 |0,p,m,q,hp,hm,hq,h,e=>⟨hp,Nat.le_refl _,Nat.le_refl _,hq,h,e⟩
 |f+1,p,m,q,hp,hm,hq,h,e=>by
  have more:∀{p':Array Nat},Dn lt p' m->lt (kv p' (m-1)) (kv p' m)=false->Dn lt p' (m+1):=fun h' c i a b=>by
   rcases Nat.lt_or_eq_of_le (Nat.le_of_lt_succ b)with z|z
   ·exact h' i a z
   ·subst z;exact c
  have one:∀{p':Array Nat} (k:Nat),m+1-(0+1)<=k->k<m+1->Eqv lt (kv p' k) (kv p' (m+1-1)):=fun k a b=>by
   obtain rfl:k=m:=by lia
   exact⟨o.rf _,o.rf _⟩
  refine⟨hp.lt hn m,hp.lt hn (m-1),?_⟩
  show kGd n lt (if lt (kv p m) (kv p (m-1))=true then(if q>0 then _ else _)else KasT.ask (kv p (m-1)) (kv p m) _) _
  split
  ·rename_i c
   have c2:=o.as _ _ c
   split
   ·have ev:=zls o (p:=p) (i:=m-(q+1)) (j:=m) (by rw[hp.size];lia) e
    have hl:lt (kv (kas_rev p (m-(q+1)) m) (m-1)) (kv (kas_rev p (m-(q+1)) m) m)=false:=o.tr _ _ _ (ev m).2 (o.tr _ _ _ c2 (ev (m-1)).1)
    exact zco (fun r hr=>⟨hr.1,by lia,by lia,hr.2.2.2.1,hr.2.2.2.2⟩) (zj5 o hn f _ (m+1) 0 (hp.rev _ _) (by lia) (by lia) (more (h.eqv o ev) hl) one)
   ·exact zco (fun r hr=>⟨hr.1,by lia,by lia,hr.2.2.2.1,hr.2.2.2.2⟩) (zj5 o hn f _ (m+1) 0 hp (by lia) (by lia) (more h c2) one)
  ·rename_i c
   have c':lt (kv p m) (kv p (m-1))=false:=by simpa using c
   refine⟨hp.lt hn (m-1),hp.lt hn m,?_⟩
   show kGd n lt (if lt (kv p (m-1)) (kv p m)=true then _ else _) _
   split
   ·exact⟨hp,Nat.le_refl _,Nat.le_add_right m (f+1),hq,h,e⟩
   ·rename_i d
    have d':lt (kv p (m-1)) (kv p m)=false:=by simpa using d
    refine zco (fun r hr=>⟨hr.1,by lia,by lia,hr.2.2.2.1,hr.2.2.2.2⟩) (zj5 o hn f p (m+1) (q+1) hp (by lia) (by lia) (more h d') fun k a b=>?_)
    rcases Nat.lt_or_eq_of_le (Nat.le_of_lt_succ b)with z|z
    ·exact(e k (by lia) z).tr o ⟨d',c'⟩
    ·subst z;exact⟨o.rf _,o.rf _⟩
noncomputable def Run (lt:Nat->Nat->Bool)(n:Nat)(r:Nat×Array Nat):Prop:=Pm n r.2/\1<=r.1/\r.1<=n/\Up lt r.2 r.1
theorem zmN (hn:0<n)(hp:Pm n p)(h1:1<=m)(h2:m<=n)(h:Dn lt p m):kGd n lt (kas_tail3 m n p) (Run lt n):=by
 refine zf0 (zco (fun r hr=>?_) (zn1 hn (hp.rev 0 m) (n-m) m h1 (h.turn (by rw[hp.size];exact h2))))
 exact⟨hp.rev 0 m,by lia,by lia,hr.2.2.1⟩
theorem zii (o:Ord lt)(hn:0<n){p:Array Nat}(hp:Pm n p)(h1:1<=m)(h2:m<n)(h:Dn lt p (m+1)):kGd n lt (kas_descPart m n p) (Run lt n):=by
 refine zf0 (zco (fun r hr=>?_) (zj5 o hn (n-(m+1)) p (m+1) 0 hp (by lia) (by lia) h fun k a b=>?_))
 ·obtain⟨a1,a2,a3,a4,a5,a6⟩:=hr
  split
  ·have ev:=zls o (p:=r.1) (i:=r.2.1-(r.2.2+1)) (j:=r.2.1) (by rw[a1.size];lia) a6
   exact zmN hn (a1.rev _ _) (by lia) (by lia) (a5.eqv o ev)
  ·exact zmN hn a1 (by lia) (by lia) a5
 ·obtain rfl:k=m:=by lia
  exact⟨o.rf _,o.rf _⟩
theorem gd_count (o:Ord lt)(hn:0<n){p:Array Nat}(hp:Pm n p):kGd n lt (kas_count n p) (Run lt n):=by
 refine zf0 (zco (fun m hm=>?_) (zn1 hn hp (n-1) 1 (Nat.le_refl _) fun i a b=>absurd a (by lia)))
 obtain⟨a1,a2,a3,a4⟩:=hm
 split
 ·exact⟨hp,a1,by lia,a3⟩
 ·rename_i ne
  have ne':m≠n:=by simpa using ne
  have c:=a4 (by lia)
  split
  ·refine⟨hp.lt hn 0,hp.lt hn (m-1),?_⟩
   show kGd n lt (if lt (kv p 0) (kv p (m-1))=true then _ else _) _
   split
   ·exact⟨hp,a1,by lia,a3⟩
   ·rename_i d
    have d':lt (kv p 0) (kv p (m-1))=false:=by simpa using d
    have eq:∀k,0<=k->k<m->Eqv lt (kv p k) (kv p (m-1)):=fun k _ hk=>⟨o.tr _ _ _ d' (a3.le o (Nat.zero_le k) hk)|>fun z=>?_,a3.le o (by lia) (by lia)⟩
    ·have ev:=zls o (p:=p) (i:=0) (j:=m) (by rw[hp.size];lia) eq
     refine zii o hn (hp.rev 0 m) a1 (by lia) fun i x y=>?_
     rcases Nat.lt_or_eq_of_le (Nat.le_of_lt_succ y)with z|z
     ·exact o.tr _ _ _ (ev i).2 (o.tr _ _ _ ((eq (i-1) (by lia) (by lia)).tr o (eq i (by lia) z).sy).1 (ev (i-1)).1)
     ·subst z;exact o.tr _ _ _ (ev i).2 (o.tr _ _ _ (o.as _ _ c) (ev (i-1)).1)
    ·exact o.tr _ _ _ d' (a3.le o (Nat.zero_le k) hk)
  ·obtain rfl:m=1:=by lia
   refine zii o hn hp (Nat.le_refl _) (by lia) fun i x y=>?_
   obtain rfl:i=1:=by lia
   exact o.as _ _ c
theorem zj0 (o:Ord lt)(hn:0<n)(hp:Pm n p)(hu:Up lt p k):∀(f l r:Nat),l<=r->r<=k->r-l<=f->(∀i,i<l->lt (kv p k) (kv p i)=false)->(∀i,r<=i->i<k->lt (kv p k) (kv p i)=true)->
  kGd n lt (kas_place p k f l r) fun x=>x<=k/\(∀i,i<x->lt (kv p k) (kv p i)=false)/\∀i,x<=i->i<k->lt (kv p k) (kv p i)=true
 |0,l,r,h1,h2,h3,h4,h5=>by
  obtain rfl:l=r:=by lia
  exact⟨h2,h4,h5⟩
 |f+1,l,r,h1,h2,h3,h4,h5=>by
  unfold kas_place
  split
  ·obtain rfl:l=r:=by lia
   exact⟨h2,h4,h5⟩
  ·rename_i ne
   refine⟨hp.lt hn k,hp.lt hn _,?_⟩
   show kGd n lt (if lt (kv p k) (kv p ((l+r)/2))=true then _ else _) _
   split
   ·rename_i c
    refine zj0 o hn hp hu f l _ (by lia) (by lia) (by lia) h4 fun i a b=>?_
    exact o.lt_le c (hu.le o a b)
   ·rename_i c
    have c':lt (kv p k) (kv p ((l+r)/2))=false:=by simpa using c
    refine zj0 o hn hp hu f _ r (by lia) h2 (by lia) (fun i a=>?_) h5
    exact o.tr _ _ _ (hu.le o (i:=i) (j:=(l+r)/2) (by lia) (by lia)) c'
theorem gd_bin (o:Ord lt)(hn:0<n):∀(f:Nat) (p:Array Nat) (k:Nat),k+f=n->1<=k->Pm n p->Up lt p k->kGd n lt (kas_bin f p k) fun q=>Pm n q/\Up lt q n
 |0,p,k,h1,_,hp,hu=>by
  obtain rfl:k=n:=by lia
  exact⟨hp,hu⟩
 |f+1,p,k,h1,hk,hp,hu=>by
  refine zf0 (zco (fun x hx=>?_) (zj0 o hn hp hu k 0 k (Nat.zero_le _) (Nat.le_refl _) (by lia) (fun i a=>absurd a (by lia)) fun i a b=>absurd a (by lia)))
  obtain⟨b1,b2,b3⟩:=hx
  have hs:k<p.size:=by rw[hp.size];lia
  refine gd_bin o hn f _ (k+1) (by lia) (by lia) (hp.bub _ _) fun i a b=>?_
  have e:k-(k-x)=x:=by lia
  rw[kv_bub hs (by lia),kv_bub hs (by lia),e]
  by_cases z:i=x
  ·rw[if_pos z,if_neg (by lia),if_neg (by lia)]
   exact b2 (i-1) (by lia)
  ·rw[if_neg z]
   by_cases y:x<i
   ·rw[if_pos ⟨y,by lia⟩]
    by_cases u:i-1=x
    ·rw[if_pos u,u];exact o.as _ _ (b3 x (Nat.le_refl _) (by lia))
    ·rw[if_neg u,if_pos ⟨by lia,by lia⟩];exact hu (i-1) (by lia) (by lia)
   ·rw[if_neg (fun q=>y q.1),if_neg (by lia),if_neg (by lia)];exact hu i a (by lia)
theorem zjL (o:Ord lt)(hn:0<n):kGd n lt (kas_sort n) fun q=>Pm n q/\Up lt q n:=by
 refine zf0 (zco (fun r hr=>?_) (gd_count o hn (p:=List.toArray (List.range n)) ⟨List.Perm.refl _⟩))
 obtain⟨a1,a2,a3,a4⟩:=hr
 split
 ·rw[show max r.1 1=r.1 by lia]
  exact gd_bin o hn _ _ _ (by lia) a2 a1 a4
 ·obtain e:r.1=n:=by lia
  rw[e]at a4
  exact⟨a1,a4⟩
end
noncomputable def srt (n:Nat)(lt:Nat->Nat->Bool):List Nat:=if n<2 then List.range n else(kRun lt (kas_sort n)).toList
theorem zdg {n:Nat}{lt:Nat->Nat->Bool}(o:Ord lt):(srt n lt).Perm (List.range n):=by
 unfold srt
 split
 ·exact List.Perm.refl _
 ·exact(zlT (zjL o (n:=n) (by lia))).1.pm
theorem srt_up {n:Nat}{lt:Nat->Nat->Bool}(o:Ord lt)(hij:i<=j)(ha:(srt n lt)[i]? =some a)(hb:(srt n lt)[j]? =some b):lt b a=false:=by
 unfold srt at ha hb
 split at ha
 ·rename_i h
  rw[if_pos h]at hb
  have h1:=(List.getElem?_eq_some_iff.mp hb).1
  rw[List.length_range]at h1
  obtain rfl:i=j:=by lia
  rw[ha]at hb;cases hb;exact o.rf _
 ·rename_i h
  rw[if_neg h]at hb
  obtain⟨p1,p2⟩:=zlT (zjL o (n:=n) (by lia))
  have e:∀{k c:Nat},(kRun lt (kas_sort n)).toList[k]? =some c->kv (kRun lt (kas_sort n)) k=c:=fun{k c} q=>by
   unfold kv
   rw[Array.getElem?_toList]at q
   rw[Array.getD_eq_getD_getElem?,q];rfl
  have h1:=(List.getElem?_eq_some_iff.mp hb).1
  rw[Array.length_toList,p1.size]at h1
  rw[<-e ha,<-e hb]
  exact p2.le o hij h1
end M
namespace HT
open PySem PySem.W
open PyProof.Rows (seqObj listItems_at listUpdate_at seqEpoch_at get?_update_seq size_push' sortedHeap sortedAll list_sort_plain arrOf failedOf general' keyKind' pairsOf collect_list)
noncomputable def outA (vs:List Value)(lt:Nat->Nat->Bool):List Value:=(M.srt vs.length lt).map fun i=>vs.getD i Value.none
theorem zjV {vs:List Value}{lt:Nat->Nat->Bool}(o:M.Ord lt):(outA vs lt).length=vs.length:=by
 unfold outA
 rw[List.length_map,(M.zdg o).length_eq,List.length_range]
theorem zjj (vs:List Value):(List.range vs.length).map (fun i=>vs.getD i Value.none)=vs:=by
 refine List.ext_getElem (by simp) fun i h1 h2=>?_
 rw[List.getElem_map,List.getElem_range,List.getD_eq_getElem?_getD,List.getElem?_eq_getElem h2]
 rfl
section
variable {prog:Program} {w:World} {A:Around} {E:Value->Shared->Prop} {s:Shared}
noncomputable def zop (prog:Program)(w:World)(A:Around)(ks:List Value)(lt:Nat->Nat->Bool)(s:Shared):Prop:=
 ∃κ,(∀(Q:PyProof.Rows.SortKind->Shared->Prop) (E:Value->Shared->Prop),Q κ s->wpAny (model prog w) A (keyKind' (List.toArray ks)) Q E s)/\∀i j C,i<ks.length->j<ks.length->C (lt i j) s->kas_ask prog w A κ ks i j C s
theorem zi8 {a:Addr}{vs:List Value}{n:Nat}{lt:Nat->Nat->Bool}{P:PySem.Fin->Shared->Prop}(o:M.Ord lt)(ho:s.heap.get? a=some (seqObj "list" vs.toArray n))(h64:vs.length<64)
  (hk:2<=vs.length->∀h',(∀b u,b≠a->s.heap.get? b=some u->h'.get? b=some u)->zop prog w A vs lt {s with heap:=h'})
  (h:P (.done (.ret .none)) {s with heap:=sortedHeap s.heap a vs (outA vs lt).toArray}):wpAny (model prog w) A (Builtin.«list.sort» ⟨[.ref a],[]⟩) P E s:=by
 rw[list_sort_plain]
 have ha:=Heap.lt_size ho
 have hsl:vs.length<=sizeLine:=by rw[sizeLine_eq];lia
 obtain⟨e1,g1⟩:∃c,(s.heap.update a (Obj.mapSeq fun _=> #[])).get? a=some (seqObj "list" #[] c):=⟨_,get?_update_seq ho fun _=> #[]⟩
 refine wpAny_bind (listItems_at ho rfl (wpAny_bind (listUpdate_at ho rfl (wpAny_bind (seqEpoch_at g1 rfl (wpAny_bind (wpAny_newTuple (wpAny_bind (wpAny_newList (wpAny_holding ?_) (Nat.zero_le _))) hsl)))) (by rw[List.size_toArray];exact hsl) (Nat.zero_le _))))
 generalize hH:((s.heap.update a (Obj.mapSeq fun _=>(#[]:Array Value))).push (seqObj "tuple" vs.toArray 0)).push (seqObj "list" #[] 0)=H3
 have g3:H3.get? a=some (seqObj "list" #[] e1):=by
  rw[<-hH];exact Heap.get?_push_of_some _ (Heap.get?_push_of_some _ g1)
 have k3:∀b u,b≠a->s.heap.get? b=some u->H3.get? b=some u:=fun b u z q=>by
  rw[<-hH];exact Heap.get?_push_of_some _ (Heap.get?_push_of_some _ ((Heap.get?_update_other _ _ (Ne.symm z)).trans q))
 show wpAny _ A _ P E {s with heap:=H3}
 dsimp only
 have fin:∀(st:PyProof.Rows.SortSt),(arrOf st).map (·.2)=(outA vs lt).toArray->failedOf st=none->wpAny (model prog w) A (do
   let sorted:=(arrOf st).map (·.2)
   let touched:=(<-seqEpoch a) !=e1
   Builtin.List.listUpdate (.ref a) fun _=>sorted
   if let some e:=failedOf st then rule "list.sort.comparison-raised";throw e
   if touched then rule "list.sort.modified";raiseError "ValueError" "list modified during sort"
   ret .none) P E {s with heap:=H3}:=fun st e f=>by
  dsimp only
  rw[e,f]
  refine wpAny_bind (seqEpoch_at g3 rfl (wpAny_bind (listUpdate_at g3 rfl ?_ (Nat.zero_le _) (by rw[List.size_toArray,zjV o];lia))))
  simp only[bne_self_eq_false,Bool.false_eq_true,if_false]
  refine wpAny_pure ?_
  rw[<-hH]
  exact h
 have hz:vs.toArray.size=vs.length:=List.size_toArray ..
 by_cases h2:vs.length<2
 ·simp only[if_pos (show vs.toArray.size<2 by rw[hz];exact h2)]
  refine wpAny_bind (wpAny_pure ?_)
  rw[StateT.run_pure]
  refine wpAny_bind (wpAny_pure (fin _ ?_ rfl))
  unfold outA M.srt
  rw[if_pos h2,zjj]
  show((vs.toArray.zip vs.toArray).map (·.2))=_
  apply Array.toList_inj.mp
  simp[List.map_snd_zip]
 ·simp only[if_neg (show ¬vs.toArray.size<2 by rw[hz];exact h2)]
  obtain⟨κ,a1,a2⟩:=hk (by lia) H3 k3
  refine wpAny_bind (a1 _ _ (wpAny_bind (wpAny_mono (kat_run (Q:=fun st s'=>s'={s with heap:=H3}/\(arrOf st).map (·.2)=(outA vs lt).toArray/\failedOf st=none) (G:=fun p s'=>s'={s with heap:=H3}/\p=M.kRun lt (kas_sort vs.length)) rfl (by lia) h64 (fun p st s' b1 b2 b3 b4=>⟨b4.1,?_,b3⟩) (M.zn4 (n:=vs.length) (lt:=lt) a2 (M.zjL o (by lia)) ⟨rfl,rfl⟩)) (fun r s' ⟨c1,c2,c3⟩=>?_) fun _ _ x=>x)))
  ·rw[kat_snds rfl b2,b4.2]
   unfold outA M.srt
   rw[if_neg h2]
  ·subst c1
   exact fin r.2 c2 c3
theorem sortedA {l:Addr}{vs:List Value}{lt:Nat->Nat->Bool}{Q:Value->Shared->Prop}(o:M.Ord lt)(hl:s.heap.IsList l vs.toArray)(h64:vs.length<64)
    (hk:2<=vs.length->∀h',(∀b u,s.heap.get? b=some u->h'.get? b=some u)->zop prog w A.in1.in1 vs lt {s with heap:=h'})
    (h:Q (.ref (s.heap.objs.size+1)) {s with heap:=sortedAll s.heap vs (outA vs lt).toArray}):wpAny (model prog w) A (call (.builtin "sorted") [.ref l]) Q E s:=by
  have hsl:vs.length<=sizeLine:=by rw[sizeLine_eq];lia
  have hsz:((s.heap.push (seqObj "list" #[] 0)).update s.heap.objs.size (Obj.mapSeq (· ++vs.toArray))).objs.size=s.heap.objs.size+1:=(Heap.size_update ..).trans (size_push' ..)
  refine Calls.call_function_entry PyProof.Rows.kind_sorted PyProof.Rows.plain_sorted PyProof.Rows.entry_sorted (PyProof.Rows.args_sorted1 _) (?_:wpAny _ _ (Builtin.«sorted» _) _ _ _)
  unfold Builtin.«sorted»
  refine wpAny_bind (m:=checkCount "sorted" 1 1 _) (wpAny_pure (wpAny_bind (collect_list hl (wpAny_bind (wpAny_newList ?_ hsl)) hsl)))
  have g:(((s.heap.push (seqObj "list" #[] 0)).update s.heap.objs.size (Obj.mapSeq (· ++vs.toArray))).push (seqObj "list" vs.toArray 0)).get? (s.heap.objs.size+1)=some (seqObj "list" vs.toArray 0):=hsz ▸ Heap.get?_push_size _ rfl
  show wpAny _ _ _ _ _ {s with heap:=((s.heap.push (seqObj "list" #[] 0)).update s.heap.objs.size (Obj.mapSeq (· ++vs.toArray))).push (seqObj "list" vs.toArray 0)}
  rw[hsz]
  refine wpAny_bind (wpAny_holding (wpAny_call_entry PyProof.Rows.slot_list_sort ⟨_,g,rfl⟩ PyProof.Rows.entry_list_sort (zi8 o g h64 (fun h2 h' k=>hk h2 h' fun b u q=>?_) ⟨_,rfl,wpAny_pure ⟨_,rfl,h⟩⟩) (PyProof.Rows.args_list_sort _)))
  have hlt:=Heap.lt_size q
  exact k b u (Nat.ne_of_lt (Nat.lt_succ_of_lt hlt)) (Heap.get?_push_of_some _ ((Heap.get?_update_other _ _ (Nat.ne_of_gt hlt)).trans (Heap.get?_push_of_some _ q)))
end
end HT
namespace HT
open PySem PySem.Spec PySem.W
open PyProof.Rows (IntsAre IsTup)
theorem lex_tr:∀a b c:List Int,ziQ b a=false->ziQ c b=false->ziQ c a=false
 |[],_,[],_,_=>rfl
 |[],_,_::_,_,_=>rfl
 |_::_,[],_,h,_=>by cases h
 |_::_,_::_,[],_,h=>by cases h
 |x::xs,y::ys,z::zs,h,k=>by
  rw[zdW]at h k ⊢
  by_cases e:y=x
  ·by_cases f:z=y
   ·rw[if_pos e]at h;rw[if_pos f]at k;rw[if_pos (f.trans e)];exact lex_tr xs ys zs h k
   ·rw[if_neg f]at k;subst e;rw[if_neg f];exact k
  ·rw[if_neg e]at h
   have h':=of_decide_eq_false h
   by_cases f:z=y
   ·rw[if_neg (by lia)];exact decide_eq_false (by lia)
   ·rw[if_neg f]at k
    have k':=of_decide_eq_false k
    rw[if_neg (by lia)];exact decide_eq_false (by lia)
theorem lex_as:∀a b:List Int,ziQ a b=true->ziQ b a=false
 |[],[],h=>by cases h
 |[],_::_,_=>rfl
 |_::_,[],h=>by cases h
 |x::xs,y::ys,h=>by
  rw[zdW]at h ⊢
  by_cases e:x=y
  ·rw[if_pos e]at h;rw[if_pos e.symm];exact lex_as xs ys h
  ·rw[if_neg e]at h
   have h':=of_decide_eq_true h
   rw[if_neg (by lia)];exact decide_eq_false (by lia)
noncomputable def zcd (nss:List (List Int))(i j:Nat):Bool:=ziQ (nss.getD i []) (nss.getD j [])
theorem zfF (nss:List (List Int)):M.Ord (zcd nss):=⟨fun _ _ _=>lex_tr _ _ _,fun _ _=>lex_as _ _⟩
section
variable {prog:Program} {w:World} {A:Around} {E:Value->Shared->Prop} {s:Shared}
theorem zbw {α:Type}{l:List α}{i:Nat}{x d:α}(h:l[i]? =some x):l.getD i d=x:=by rw[List.getD_eq_getElem?_getD,h];rfl
theorem zhm {ks:List Value}{ns:List Int}(hi:IntsAre ks ns)(h2:2<=ks.length):zop prog w A ks (zcd (ns.map fun n=>[n])) s:=by
 refine⟨PyProof.Rows.oneType',fun Q E h=>?_,fun i j C h1 h3 h=>?_⟩
 ·rw[PyProof.Rows.ksk_kind (kz:=ns) hi (by rw[List.size_toArray];exact h2)]
  exact wpAny_pure h
 ·obtain⟨n,t,e1,e2⟩:=hi.at i _ (List.getElem?_eq_getElem h1)
  obtain⟨m,u,f1,f2⟩:=hi.at j _ (List.getElem?_eq_getElem h3)
  unfold kas_ask
  rw[zbw (List.getElem?_eq_getElem h1),zbw (List.getElem?_eq_getElem h3),e1,f1]
  refine kat_lt_int ?_
  unfold zcd at h
  rw[zbw (x:=[n]) (by rw[List.getElem?_map,e2];rfl),zbw (x:=[m]) (by rw[List.getElem?_map,f2];rfl),zdW]at h
  by_cases z:n=m
  ·subst z;rw[if_pos rfl]at h;rw[decide_eq_false (Int.lt_irrefl n)];exact h
  ·rwa[if_neg z]at h
theorem zpp {b fin:Bool}{Q:Bool->Shared->Prop}:∀{xs ys:List Value} {ns ms:List Int} (i:Nat),IntsAre xs ns->IntsAre ys ms->fin=decide (ns.length<ms.length)->Q (ziQ ns ms) s->KatLex prog w A b fin Q (xs.zip ys) i s
 |_,_,_,_,i,.nil,.nil,e,h=>by subst e;exact h
 |_,_,_,_,i,.nil,.cons _ _ _,e,h=>by subst e;exact h
 |_,_,_,_,i,.cons _ _ _,.nil,e,h=>by subst e;exact h
 |_,_,_,_,i,.cons n t hx,.cons m u hy,e,h=>by
  refine kat_cons (wpAny_eqBool_int ?_)
  rw[zdW]at h
  by_cases z:n=m
  ·rw[if_pos z]at h
   rw[beq_iff_eq.mpr z]
   exact kat_yes (zpp (i+1) hx hy (by rw[e];simp) h)
  ·rw[if_neg z]at h
   rw[beq_eq_false_iff_ne.mpr z]
   refine kat_no ?_
   cases hb:(b&&i==0)with
   |true=>exact PyProof.Rows.oneLt_int h
   |false=>exact kat_one _ _ (PyProof.Rows.lt_int h)
noncomputable def znR (h:Heap)(ks:List Value)(nss:List (List Int)):Prop:=ks.length=nss.length/\∀(i:Nat) v ns,ks[i]? =some v->nss[i]? =some ns->∃a its,v= .ref a/\IsTup h a (List.toArray its)/\IntsAre its ns/\ns≠[]
theorem zoK {h:Heap}:∀{ks:List Value} {nss:List (List Int)},znR h ks nss->∃fs,KatTups h ks fs/\fs.length=ks.length/\∀v∈fs,∃n t,v=Value.int n t
 |[],nss,_=>⟨[],KatTups.nil,rfl,fun v hv=>absurd hv (by simp)⟩
 |k::ks,[],⟨h1,_⟩=>by simp at h1
 |k::ks,ns::nss,⟨h1,h2⟩=>by
  obtain⟨a,its,rfl,⟨o,ho,hc,n,hd⟩,hi,ne⟩:=h2 0 _ _ rfl rfl
  obtain⟨fs,g1,g2,g3⟩:=zoK (ks:=ks) (nss:=nss) ⟨by simpa using h1,fun i v ns e1 e2=>h2 (i+1) v ns (by simpa using e1) (by simpa using e2)⟩
  cases hi with
  |nil=>exact absurd rfl ne
  |cons m t hi=>
   refine⟨.int m t::fs,KatTups.cons ho hc hd rfl g1,by simp[g2],fun v hv=>?_⟩
   rcases List.mem_cons.mp hv with rfl|hv
   ·exact⟨m,t,rfl⟩
   ·exact g3 v hv
theorem znt {ks:List Value}{nss:List (List Int)}(ht:znR s.heap ks nss)(h2:2<=ks.length):zop prog w A ks (zcd nss) s:=by
 obtain⟨fs,g1,g2,g3⟩:=zoK ht
 refine⟨PyProof.Rows.tuples' true,fun Q E h=>?_,fun i j C h1 h3 h=>?_⟩
 ·refine kat_kind (T:= .type "int") g1 (by lia) (fun v hv=>?_) rfl h
  obtain⟨n,t,rfl⟩:=g3 v hv
  exact Looks.now
 ·have hl:=ht.1
  obtain⟨a,its,e1,⟨o,ho,hc,n,hd⟩,hi,_⟩:=ht.2 i _ _ (List.getElem?_eq_getElem h1) (List.getElem?_eq_getElem (by lia))
  obtain⟨b,its2,f1,⟨o2,ho2,hc2,n2,hd2⟩,hi2,_⟩:=ht.2 j _ _ (List.getElem?_eq_getElem h3) (List.getElem?_eq_getElem (by lia))
  unfold kas_ask
  rw[zbw (List.getElem?_eq_getElem h1),zbw (List.getElem?_eq_getElem h3),e1,f1]
  unfold zcd at h
  rw[zbw (List.getElem?_eq_getElem (l:=nss) (i:=i) (by lia)),zbw (List.getElem?_eq_getElem (l:=nss) (i:=j) (by lia))]at h
  refine kat_lt ho hd ho2 hd2 (zpp 0 hi hi2 ?_ h)
  rw[List.size_toArray,List.size_toArray,hi.length,hi2.length]
end
end HT
namespace M
open L2 PySem PySem.Spec
open PyProof.Rows hiding St
noncomputable def znh (ds:List D):Option (List (List Int)):=match zaG ds with
 |some ns=>some (ns.map fun n=>[n])
 |none=>(zoj ds).bind fun nss=>if nss.all fun ns=>!ns.isEmpty then some nss else none
noncomputable def srtD (nss:List (List Int))(ds:List D):List D:=(srt ds.length (HT.zcd nss)).map fun i=>ds.getD i .non
noncomputable def dSrt:List D->Option (List D)
 |[.lst ds]=>if ds.length<64 then(znh ds).map fun nss=>srtD nss ds else none
 |_=>none
noncomputable def KeyV (K:W.Frag)(H:Hp)(ys:List V)(nss:List (List Int)):Prop:=
 (∃ns:List Int,ys=ns.map V.int/\nss=ns.map fun n=>[n])\/∃as:List Addr,ys=as.map V.ref/\as.length=nss.length/\∀(i:Nat) a ns,as[i]? =some a->nss[i]? =some ns->SqT K H a (ns.map V.int)/\ns≠[]
noncomputable def srtV (nss:List (List Int))(ys:List V):List V:=(srt ys.length (HT.zcd nss)).map fun i=>ys.getD i .non
noncomputable def rSrt (K:W.Frag):List V->Hp->VK->Prop:=fun xs H Q=>∃(p:Addr) (ys:List V) (nss:List (List Int)),xs=[.ref p]/\SqL K H p ys/\ys.length<64/\KeyV K H ys nss/\∀l,H l=none->Q (.ref l) (upd H l (.lst (srtV nss ys)))
theorem zik {ys:List V}{its:List Value}(r:Vals ys its):∀ix:List Nat,Vals (ix.map fun i=>ys.getD i .non) (ix.map fun i=>its.getD i .none)
 |[]=> .nil
 |i::ix=>by
  refine .cons ?_ (zik r ix)
  dsimp only
  cases e:ys[i]? with
  |some y=>
   obtain⟨u,h1,h2⟩:=r.get e
   rw[HT.zbw e,HT.zbw h1];exact h2
  |none=>
   rw[List.getD_eq_getElem?_getD,List.getD_eq_getElem?_getD,e,r.none_of e];exact rfl
theorem zl0 {X:Cx}:zeb X (.builtin "sorted") (rSrt X.K):=by
 intro pins s σ H xs us Q I r h
 obtain⟨p,ys,nss,rfl,hq,h64,kv,q⟩:=h
 obtain⟨u,rfl,ru⟩:=zgP r
 cases ru
 obtain⟨its,rv,pl,hz⟩:=I.list hq
 have hl:=rv.length
 refine HT.sortedA (HT.zfF nss) pl.isList (by lia) (fun h2 h' k=>?_) ?_
 ·rcases kv with⟨ns,rfl,rfl⟩|⟨as,rfl,e1,e2⟩
  ·exact HT.zhm (zbI rv) h2
  ·refine HT.znt ⟨by rw[<-hl,List.length_map,e1],fun i v ns e3 e4=>?_⟩ h2
   obtain⟨a,ea,rfl⟩:=refs_get rv e3
   obtain⟨g1,g2⟩:=e2 i a ns ea e4
   have I':Inv X pins σ H {s with heap:=h'}:=I.kept k
   obtain⟨its2,r2,p2,_⟩:=I'.tuple g1
   exact⟨a,its2,rfl,p2,zbI r2,g2⟩
 ·obtain⟨e,he⟩:=PyProof.Rows.sortedAll_at s.heap its (HT.outA its (HT.zcd nss)).toArray
  refine⟨.ref (s.heap.objs.size+1),upd H (s.heap.objs.size+1) (.lst (srtV nss ys)),I.laid (t':=s.toks) (fun b u z=>PyProof.Rows.sortedAll_old z) (Nat.le_succ _) ?_,rfl,q _ (I.hok.fresh (Nat.le_succ _))⟩
  have r2:=zik rv (srt ys.length (HT.zcd nss))
  refine⟨?_,HT.outA its (HT.zcd nss),e,?_,he⟩
  ·unfold srtV
   rw[List.length_map,(zdg (HT.zfF nss)).length_eq,List.length_range];exact hz
  ·unfold HT.outA srtV
   rw[<-hl];exact r2
theorem RepL.picks {K:W.Frag}{G:Hp}{ys:List V}{ds:List D}(r:RepL K G ys ds):∀ix:List Nat,RepL K G (ix.map fun i=>ys.getD i .non) (ix.map fun i=>ds.getD i .non)
 |[]=> .nil
 |i::ix=>by
  refine .cons ?_ (RepL.picks r ix)
  dsimp only
  cases e:ds[i]? with
  |some y=>
   obtain⟨u,h1,h2⟩:=r.get e
   rw[HT.zbw e,HT.zbw h1];exact h2
  |none=>
   have e':ys[i]? =none:=by rw[List.getElem?_eq_none_iff]at e ⊢;rw[r.length];exact e
   rw[List.getD_eq_getElem?_getD,List.getD_eq_getElem?_getD,e,e'];exact rfl
theorem keyV_of {K:W.Frag}{G H:Hp}{ys:List V}{ds:List D}{nss:List (List Int)}(f:Fz G H)(r:RepL K G ys ds)(e:znh ds=some nss):KeyV K H ys nss:=by
 unfold znh at e
 split at e
 ·rename_i ns h
  cases e
  rw[zba h]at r
  exact .inl ⟨ns,RepL.ints_eq r,rfl⟩
 ·obtain⟨ms,e1,e⟩:=zag e
  split at e
  ·rename_i ha
   cases e
   obtain⟨as,rfl,hl,h⟩:=zki r e1
   refine .inr ⟨as,rfl,hl,fun i a ns h1 h2=>⟨SqT.of (f _ _ (h i a ns h1 h2)),fun z=>?_⟩⟩
   have:=List.all_eq_true.mp ha ns (List.mem_of_getElem? h2)
   rw[z]at this;cases this
  ·cases e
theorem zoc {X:Cx}{e:Expr}{ma:MA}{p pos:Pos}(ml:X.mg "sorted"=none)(ha:SA X [e] ma)(hg:autoParam (Gl X "sorted") zu2._auto_1)(he:autoParam (starEach [e] X.env=(false,eval e X.env)::starEach [] X.env) zu2._auto_1)(hb:autoParam (bootBuiltins "sorted"=some (.builtin "sorted")) zu7._auto_1):
  SO X (.Call (.Name "sorted" p) [e] [] pos) (oC dSrt ma):=by
 obtain⟨t,pa,sa⟩:=ha
 refine⟨_,zfW zl0 hg ml hb pa (by decide) (by decide) he rfl,fun B G H σ ρ ds ρ' Q I hm k=>?_⟩
 obtain⟨as,e1,e2⟩:=oC_inv hm
 refine sa B G H σ ρ as ρ' _ I e1 fun G1 H1 vs I1 f1 r1=>?_
 unfold dSrt at e2
 split at e2
 ·rename_i es
  split at e2
  ·rename_i h64
   obtain⟨nss,e3,rfl⟩:=zav e2
   obtain⟨x,rfl,ra⟩:=r1.one
   obtain⟨q,ys,rfl,hp,ry⟩:=I1.lst ra
   have hl:=ry.length
   refine⟨q,ys,nss,rfl,SqL.of hp,by lia,keyV_of I1.fz ry e3,fun l h0=>?_⟩
   obtain⟨I2,g2,h2,b2,n2⟩:=I1.newO h0 (srtV nss ys)
   refine k G1 _ l _ I2 f1 g2 h2 ?_ b2 n2
   unfold srtV srtD
   rw[hl];exact ry.picks _
  ·cases e2
 ·cases e2
noncomputable def sCut (i:Nat)(me ml mh:ME):MS:=fun ρ=>(me ρ).bind fun p=>if(p.2[i]?.bind Sl.items).isSome then(ml p.2).bind fun q=>(mh q.2).bind fun r=>r.2[i]?.bind fun s=>s.items.bind fun ds=>match p.1,q.1,r.1 with
 | .lst es,.int m,.int n=>if decide (0<=m)&&decide (m<=n)&&decide (n<=ds.length)&&decide (ds.length+es.length<=16777216)then some (.next,r.2.set i (s.put (ds.take m.toNat++es++ds.drop n.toNat)))else none
 |_,_,_=>none else none
end M
namespace HT
open PySem PySem.W
open PyProof.Rows (seqObj)
section
variable {prog:Program} {w:World} {A:Around} {E:Value->Shared->Prop} {s:Shared}
noncomputable def Iters (prog:Program)(w:World)(A:Around)(d S:Addr)(Pv:List Value->Prop)(s:Shared):Prop:=
 ∀(Q:Value->Shared->Prop) (E:Value->Shared->Prop),(∀I fp wr St (ord:List Value) h' dr,Walks prog w A I fp wr ord.length (fun i v=>ord[i]? =some v) St->(∀b∈wr,s.heap.objs.size<=b)->S∉fp->
  (∀b o,s.heap.get? b=some o->h'.get? b=some o)->St 0 h'->Pv ord->ord.length<=2^24->Q (.ref I) {s with heap:=h',drawn:=dr})->wpAny (model prog w) A (pyIter (.ref d)) Q E s
theorem zo8 {ord:List Value}{acc:Array Value}(it:ItemsOf (fun i v=>ord[i]? =some v) acc ord.length):acc.toList=ord:=by
 refine List.ext_getElem? fun i=>?_
 by_cases hi:i<ord.length
 ·have e:=it.2 i (acc[i]'(by rw[it.1];exact hi)) (by simp[it.1,hi])
  rw[e];simp[it.1,hi]
 ·rw[List.getElem?_eq_none (by simp[it.1];lia),List.getElem?_eq_none (by lia)]
theorem zlO {R:Result->Shared->Prop}{T:String}{d S:Addr}{res:Value}{c₀:Nat}{Pv:List Value->Prop}(hT:s.TypeIs (.ref d) T)
  (h1:(Value.type T==Value.type "list")=false) (h2:(Value.type T==Value.type "tuple")=false) (hS:s.heap.get? S=some {cls:= .type "list",data:= .seq #[] c₀}) (hd:S≠d) (hi:Iters prog w A.in1 d S Pv s)
  (hh:∀(s':Shared) (Q:Bool->Shared->Prop) (E:Value->Shared->Prop),s'.TypeIs (.ref d) T->Q false s'->wpAny (model prog w) A.in1 (Builtin.List.listLengthHint (.ref d)) Q E s')
  (hR:∀h' tk dr acc c,(∀b o,b≠S->s.heap.get? b=some o->h'.get? b=some o)->h'.get? S=some {cls:= .type "list",dict:=none,data:= .seq acc c,slots:= #[]}->Pv acc.toList->R (.ok (.ret res)) {s with heap:=h',toks:=tk,drawn:=dr}):
  wpAny (model prog w) A.in1 (Builtin.List.listExtendWith (.ref S) (.ref d) res)
   (fun fin s'=>match fin with| .done f=>R (.ok f) s'| .again c'=>c'.quiet=true/\codeAny (model prog w) A c' R s') (fun e s'=>R (.error e) s') s:=by
 unfold Builtin.List.listExtendWith
 refine wpAny_bind (wpAny_typeOf hT ?_)
 have h0:Builtin.List.listSameRef (.ref S) (.ref d)=false:=by simp[Builtin.List.listSameRef,hd]
 simp only[h0,h1,h2,Bool.or_false,Bool.false_eq_true,if_false]
 refine wpAny_bind (hi _ _ fun I fp wr St ord h' dr W hw hf k1 st pv hn=>?_)
 have key:∀(h:Heap) (c₁:Nat),St 0 h->(∀b o,b≠S->s.heap.get? b=some o->h.get? b=some o)->
   h.get? S=some {cls:= .type "list",data:= .seq #[] c₁}->codeAny (model prog w) A (.builtin "list.extend.loop" ⟨[.ref S,.ref I,res],[]⟩) R {s with heap:=h,drawn:=dr}:=by
  intro h c₁ st hk g
  refine codeAny_extend_loopS W.toS (by rw[sizeLine_eq];lia) S hf res ord.length 0 _ #[] c₁ rfl (Nat.zero_le _) st g (ItemsOf.nil _) fun s' acc' c' m g' it=>?_
  rw[Moved.eq_with m]
  refine hR s'.heap s'.toks dr acc' c' (fun b o z e=>m.heap b o (fun y=>?_) (hk b o z e)) g' (by rw[zo8 it];exact pv)
  rcases List.mem_cons.mp y with e'|y
  ·exact z e'
  ·exact absurd (Heap.lt_size e) (Nat.not_lt.mpr (hw b y))
 obtain⟨od,g,gc⟩:=hT
 refine wpAny_bind (wpAny_holding (hh _ _ _ ⟨od,k1 _ _ g,gc⟩ ?_))
 have g1:=k1 _ _ hS
 refine wpAny_ite_split (fun _=>?_) (fun _=>wpAny_pure ⟨plainId_quiet F.plain_extend_loop _,key _ c₀ st (fun b o _ e=>k1 b o e) g1⟩)
 refine wpAny_bind (wpAny_rule (wpAny_bind ?_))
 show wpAny _ _ (updateSeq S (·.push .none)>>=fun _=>updateSeq S (·.pop)) _ _ _
 refine wpAny_bind (wpAny_updateSeq g1 rfl ?_)
 have g2:=Heap.get?_update_self (Obj.mapSeq (·.push Value.none)) g1 rfl
 refine wpAny_updateSeq (hz:=by seq_fits) g2 rfl ?_
 have g3:=Heap.get?_update_self (Obj.mapSeq (·.pop)) g2 rfl
 refine wpAny_pure ⟨plainId_quiet F.plain_extend_loop _,key _ _ (W.frame _ _ _ st fun b hb o e=>?_) (fun b o z e=>?_) g3⟩
 ·have z:S≠b:=fun y=>hf (y ▸ hb)
  exact(Heap.get?_update_other _ _ z).trans ((Heap.get?_update_other _ _ z).trans e)
 ·exact(Heap.get?_update_other _ _ (Ne.symm z)).trans ((Heap.get?_update_other _ _ (Ne.symm z)).trans (k1 _ _ e))
theorem zoS {R:Result->Shared->Prop}{T:String}{d S:Addr}{Pv:List Value->Prop}(hT:s.TypeIs (.ref d) T)(h1:(Value.type T==Value.type "list")=false)(h2:(Value.type T==Value.type "tuple")=false)
  (hS:s.heap.get? S=some {cls:= .type "list",data:= .seq #[]}) (hd:S≠d) (hi:Iters prog w A.in1 d S Pv s)
  (hh:∀(s':Shared) (Q:Bool->Shared->Prop) (E:Value->Shared->Prop),s'.TypeIs (.ref d) T->Q false s'->wpAny (model prog w) A.in1 (Builtin.List.listLengthHint (.ref d)) Q E s')
  (hR:∀h' tk dr acc c,(∀b o,b≠S->s.heap.get? b=some o->h'.get? b=some o)->h'.get? S=some {cls:= .type "list",dict:=none,data:= .seq acc c,slots:= #[]}->Pv acc.toList->R (.ok (.ret (.ref S))) {s with heap:=h',toks:=tk,drawn:=dr}):
  codeAny (model prog w) A (.builtin "list.__iadd__" ⟨[.ref S,.ref d],[]⟩) R s:=by
 refine codeAny_builtin F.entry_list_iadd ?_
 rw[Around.under_plainId F.plain_list_iadd _]
 exact zlO (c₀:=0) hT h1 h2 hS hd hi hh hR
noncomputable def Gives (prog:Program)(w:World)(A:Around)(d:Addr)(P:List Value->Prop)(s:Shared):Prop:=
 ∀(Q:List Value->Shared->Prop) (E:Value->Shared->Prop),(∀h' tk dr vs,(∀b o,s.heap.get? b=some o->h'.get? b=some o)->s.heap.objs.size<=h'.objs.size->P vs->Q vs {s with heap:=h',toks:=tk,drawn:=dr})->wpAny (model prog w) A (collect (.ref d)) Q E s
theorem zm0 {T:String}{d:Addr}{Pv:List Value->Prop}(hT:s.TypeIs (.ref d) T)(h1:(Value.type T==Value.type "list")=false)(h2:(Value.type T==Value.type "tuple")=false)
  (hi:Iters prog w A.in1 d s.heap.objs.size Pv {s with heap:=s.heap.push {cls:= .type "list",data:= .seq #[]}})
  (hh:∀(s':Shared) (Q:Bool->Shared->Prop) (E:Value->Shared->Prop),s'.TypeIs (.ref d) T->Q false s'->wpAny (model prog w) A.in1 (Builtin.List.listLengthHint (.ref d)) Q E s'):Gives prog w A d Pv s:=by
 intro Q E hQ
 obtain⟨od,g1,gc⟩:=hT
 unfold collect
 refine wpAny_bind (wpAny_runValue (codeAny_builtin F.entry_proto_collect ?_))
 rw[Around.under_plainId F.plain_proto_collect _]
 show wpAny _ A.in1 (newList []>>=fun l=>again (.builtin "list.__iadd__" ⟨[l,.ref d],[]⟩)) _ _ s
 refine wpAny_bind (wpAny_newObj_type ?_)
 have g:(s.heap.push {cls:= .type "list",data:= .seq #[]}).get? s.heap.objs.size=some {cls:= .type "list",data:= .seq #[]}:=Heap.get?_push_size _ rfl
 have gd:=Heap.get?_push_of_some {cls:= .type "list",data:= .seq #[]} g1
 refine wpAny_pure ⟨plainId_quiet F.plain_list_iadd _,zoS (s:={s with heap:=s.heap.push {cls:= .type "list",data:= .seq #[]}}) (Pv:=Pv) ⟨od,gd,gc⟩ h1 h2 g (Nat.ne_of_gt (Heap.lt_size g1)) hi hh fun h' tk dr acc c k1 k2 e=>?_⟩
 show wpAny _ A (load s.heap.objs.size>>=_) _ _ _
 refine wpAny_bind (wpAny_load k2 ?_)
 exact wpAny_pure (hQ h' tk dr acc.toList (fun b o e=>k1 b o (Nat.ne_of_lt (Heap.lt_size e)) (Heap.get?_push_of_some _ e)) (Nat.le_of_lt (Heap.lt_size k2)) e)
theorem sortedW {d:Addr}{P:List Value->Prop}{lt:List Value->Nat->Nat->Bool}{Q:Value->Shared->Prop}(o:∀vs,P vs->M.Ord (lt vs))(hg:Gives prog w A.in1 d P s)(h64:∀vs,P vs->vs.length<64)
  (hk:∀vs,P vs->2<=vs.length->∀h' tk dr,(∀b u,s.heap.get? b=some u->h'.get? b=some u)->zop prog w A.in1.in1 vs (lt vs) {s with heap:=h',toks:=tk,drawn:=dr})
  (h:∀vs h' tk dr p n,P vs->(∀b u,s.heap.get? b=some u->h'.get? b=some u)->s.heap.objs.size<=p->h'.get? p=some (seqObj "list" (outA vs (lt vs)).toArray n)->Q (.ref p) {s with heap:=h',toks:=tk,drawn:=dr}):
  wpAny (model prog w) A (call (.builtin "sorted") [.ref d]) Q E s:=by
 refine Calls.call_function_entry PyProof.Rows.kind_sorted PyProof.Rows.plain_sorted PyProof.Rows.entry_sorted (PyProof.Rows.args_sorted1 _) (?_:wpAny _ _ (Builtin.«sorted» _) _ _ _)
 unfold Builtin.«sorted»
 refine wpAny_bind (m:=checkCount "sorted" 1 1 _) (wpAny_pure (wpAny_bind (hg _ _ fun h1 tk dr vs k1 kz pv=>wpAny_bind (wpAny_newList ?_ (by have:=h64 vs pv;rw[sizeLine_eq];lia)))))
 have g:(h1.push (seqObj "list" vs.toArray 0)).get? h1.objs.size=some (seqObj "list" vs.toArray 0):=Heap.get?_push_size _ rfl
 have k2:∀b u,s.heap.get? b=some u->(h1.push (seqObj "list" vs.toArray 0)).get? b=some u:=fun b u e=>Heap.get?_push_of_some _ (k1 b u e)
 have nb:∀b u,s.heap.get? b=some u->b≠h1.objs.size:=fun b u e=>Nat.ne_of_lt (Heap.lt_size (k1 b u e))
 show wpAny _ _ _ _ _ {s with heap:=h1.push (seqObj "list" vs.toArray 0),toks:=tk,drawn:=dr}
 refine wpAny_bind (wpAny_holding (wpAny_call_entry PyProof.Rows.slot_list_sort ⟨_,g,rfl⟩ PyProof.Rows.entry_list_sort (zi8 (o vs pv) g (h64 vs pv) (fun h2 h' k=>hk vs pv h2 h' tk dr fun b u q=>k b u (nb b u q) (k2 b u q)) ⟨_,rfl,wpAny_pure ⟨_,rfl,?_⟩⟩) (PyProof.Rows.args_list_sort _)))
 have g2:=PyProof.Rows.get?_update_seq g fun _=>(#[]:Array Value)
 have g3:=Heap.get?_push_of_some (seqObj "list" #[] 0) (Heap.get?_push_of_some (seqObj "tuple" vs.toArray 0) g2)
 refine h vs _ tk dr _ _ pv (fun b u e=>?_) ?_ (PyProof.Rows.get?_update_seq g3 fun _=>(outA vs (lt vs)).toArray)
 ·exact(Heap.get?_update_other _ _ (Ne.symm (nb b u e))).trans (Heap.get?_push_of_some _ (Heap.get?_push_of_some _ ((Heap.get?_update_other _ _ (Ne.symm (nb b u e))).trans (k2 b u e))))
 ·exact kz
end
end HT
namespace M
open L2 PySem PySem.Spec
open PyProof.Rows hiding St
theorem _root_.L2.Inv.dr {X:Cx}{pins:List (Addr×Obj)}{σ:List (Option V)}{H:Hp}{s:Shared}{d:Drawn}(I:Inv X pins σ H s):Inv X pins σ H {s with drawn:=d}:=⟨I.ok,I.os,I.bare,I.base,I.loc,I.cell,I.free,I.freeC,I.pin,I.hok,I.len⟩
end M
namespace HT
open PySem
variable {l:List Nat} {bt b:Bool} {t:SetTable} {h:Heap} {j:Nat} {k n:Int} {v:Value} {es:List (Int×Value)} {a:Addr} {o:Obj} {vs:List Int} {Q:Bool->Shared->Prop}
theorem zjX (up:l.Pairwise (· < ·))(j:Nat):∀(f lo hi:Nat),hi<=l.length->hi-lo<=f->lo<=hi->(∀i,i<lo->∀x,l[i]? =some x->x<j)->(∀i,hi<=i->∀x,l[i]? =some x->j<=x)->
    let p:=SetTable.below.go l.toArray j f lo hi
    p<=l.length/\(∀i,i<p->∀x,l[i]? =some x->x<j)/\(∀i,p<=i->∀x,l[i]? =some x->j<=x)
  |0,lo,hi,h1,h2,h3,h4,h5=>by
    have:lo=hi:=by lia
    subst this
    exact⟨h1,h4,h5⟩
  |f+1,lo,hi,h1,h2,h3,h4,h5=>by
    unfold SetTable.below.go
    by_cases h:lo<hi
    . rw[if_pos h]
      dsimp only
      have lt:(lo+hi)/2<l.length:=by lia
      have g:l.toArray.getD ((lo+hi)/2) j=l[(lo+hi)/2]:=by simp[Array.getD,lt]
      rw[g]
      have mono:∀a b:Nat,a<=b->∀x y:Nat,l[a]? =some x->l[b]? =some y->x<=y:=fun a b ab x y ex ey=>by
        obtain⟨ha,rfl⟩:=List.getElem?_eq_some_iff.mp ex
        obtain⟨hb,rfl⟩:=List.getElem?_eq_some_iff.mp ey
        by_cases z:a=b
        . subst z;exact Nat.le_refl _
        . exact Nat.le_of_lt (List.pairwise_iff_getElem.mp up a b ha hb (by lia))
      split
      . rename_i c
        refine zjX up j f _ _ h1 (by lia) (by lia) (fun i hi' x ex=>?_) h5
        have:=mono i ((lo+hi)/2) (by lia) x _ ex (List.getElem?_eq_getElem lt)
        lia
      . rename_i c
        refine zjX up j f _ _ (by lia) (by lia) (by lia) h4 (fun i hi' x ex=>?_)
        have:=mono ((lo+hi)/2) i (by lia) _ x (List.getElem?_eq_getElem lt) ex
        lia
    . rw[if_neg h]
      have:lo=hi:=by lia
      subst this
      exact⟨h1,h4,h5⟩
theorem zl7 (up:l.Pairwise (· < ·))(j:Nat):SetTable.below l.toArray j<=l.length/\(∀i,i<SetTable.below l.toArray j->∀x,l[i]? =some x->x<j)/\(∀i,SetTable.below l.toArray j<=i->∀x,l[i]? =some x->j<=x):=by
  have:=zjX up j l.toArray.size 0 l.toArray.size (by simp) (by lia) (Nat.zero_le _) (fun i hi=>absurd hi (Nat.not_lt_zero _)) (fun i hi x ex=>by
    obtain⟨ha,_⟩:=List.getElem?_eq_some_iff.mp ex
    simp at hi;lia)
  exact this
structure Ext (bt:Bool) (t:SetTable):Prop where
  led:t.led=!bt
  no:t.dummies= #[]
  up:t.place.toList.Pairwise (· < ·)
theorem zl8 (j:Nat):SetTable.has #[] j=false:=by unfold SetTable.has;simp
theorem Ext.slot (e:Ext bt t)(j:Nat):t.slot j≠ .dummy:=by
 unfold SetTable.slot
 rw[e.no,zl8]
 dsimp only
 split
 ·intro h;cases h
 ·simp
theorem Ext.go (e:Ext bt t)(ha:Nat->Int)(h:Int):∀(f:Nat) (p:SetTable.Probe) (j:Nat) (d:Option Nat),p.dummy=none->SetTable.probe.go t ha h f p=some (.empty j d)->d=none/\t.slot j= .empty
 |0,_,_,_,_,q=>by cases q
 |f+1,p,j,d,hp,q=>by
  unfold SetTable.probe.go at q
  split at q
  ·rename_i z
   cases q
   exact⟨hp,z⟩
  ·rename_i z
   exact absurd z (e.slot _)
  ·split at q
   ·cases q
   ·refine e.go ha h f _ j d ?_ q
    unfold SetTable.advance
    split<;>exact hp
theorem Ext.free (e:Ext bt t){h:Int}(q:t.freeSlot h=some (j,b)):t.slot j= .empty:=by
 unfold SetTable.freeSlot at q
 split at q
 ·rename_i j' d z
  obtain⟨rfl,y⟩:=e.go _ _ _ _ _ _ (by unfold SetTable.probeStart;rfl) z
  cases q
  exact y
 ·cases q
theorem Ext.put (e:Ext bt t)(q:t.slot j= .empty):Ext bt (t.put j).1:=by
 have b:=zl7 (l:=t.place.toList) e.up j
 have tl:t.place.toList.toArray=t.place:=by simp
 rw[tl]at b
 have ne:¬t.place[SetTable.below t.place j]? =some j:=fun z=>by
  unfold SetTable.slot at q
  dsimp only at q
  rw[if_pos (by rw[z];exact beq_self_eq_true _)]at q
  cases q
 unfold SetTable.put
 refine⟨e.led,?_,?_⟩
 ·dsimp only
  rw[e.no,zl8];rfl
 ·dsimp only
  rw[SetTable.toList_insertAt]
  have up:=e.up
  rw[<-List.take_append_drop (SetTable.below t.place j) t.place.toList,List.pairwise_append]at up
  rw[List.pairwise_append,List.pairwise_cons]
  refine⟨up.1,⟨fun x hx=>?_,up.2.1⟩,fun x hx y hy=>?_⟩
  ·obtain⟨i,hi⟩:=List.getElem?_of_mem hx
   rw[List.getElem?_drop]at hi
   have l:=b.2.2 _ (Nat.le_add_right _ i) x hi
   by_cases z:i=0
   ·subst z
    rw[Nat.add_zero,Array.getElem?_toList]at hi
    have:x≠j:=fun y=>ne (by rw[hi,y])
    lia
   ·have hb:SetTable.below t.place j<t.place.toList.length:=by
     obtain⟨ha,_⟩:=List.getElem?_eq_some_iff.mp hi
     lia
    have l0:=b.2.2 _ (Nat.le_refl _) _ (List.getElem?_eq_getElem hb)
    obtain⟨ha,rfl⟩:=List.getElem?_eq_some_iff.mp hi
    have:=List.pairwise_iff_getElem.mp e.up _ _ hb ha (by lia)
    lia
  ·obtain⟨i,hi⟩:=List.getElem?_of_mem hx
   rw[List.getElem?_take]at hi
   have l:x<j:=by
    split at hi
    ·exact b.2.1 i (by assumption) x hi
    ·cases hi
   rcases List.mem_cons.mp hy with rfl|hy
   ·exact l
   ·exact up.2.2 x hx y hy
theorem Ext.stand (e:Ext bt t)(n:Nat):Ext bt (t.standIn n):=by
  refine⟨e.led,rfl,?_⟩
  show(Array.range n).toList.Pairwise (· < ·)
  rw[Array.toList_range]
  exact List.pairwise_lt_range
theorem Ext.lay (e:Ext bt t)(es:Array (Int×Value))(h:Int)(x:Value):Ext bt (layNew t es h x).2.1:=by
 unfold layNew
 split
 ·rename_i j b q
  dsimp only
  have p:=e.put (e.free q)
  unfold SetTable.orStandIn
  split
  ·exact p
  ·exact p.stand _
 ·exact e.stand _
theorem Ext.relay (e:Ext bt t)(es:Array (Int×Value))(n:Nat):Ext bt (relayAll t es n).2.1:=by
 unfold relayAll
 split
 ·rename_i t' o q
  dsimp only
  split
  ·unfold SetTable.relaid SetTable.laid at q
   rw[Option.bind_eq_bind,Option.bind_eq_some_iff]at q
   obtain⟨ow,-,q⟩:=q
   cases q
   refine⟨e.led,rfl,?_⟩
   show(List.map _ _).Pairwise _
   rw[List.pairwise_map]
   refine List.Pairwise.filterMap _ (fun a b hab c hc d hd=>?_) (List.pairwise_lt_range (n:=_))
   obtain⟨u,-,rfl⟩:=Option.map_eq_some_iff.mp hc
   obtain⟨v,-,rfl⟩:=Option.map_eq_some_iff.mp hd
   exact hab
  ·exact e.stand _
 ·exact e.stand _
noncomputable def keyI:Value->Int
 | .int n _=>n
 |_=>0
noncomputable def SW (prog:Program)(w:World)(bt:Bool)(h:Heap)(a:Addr)(vs:List Int):Prop:=
 ∃o es ep t,h.get? a=some o/\o.ExactSet/\o.data= .set es ep t/\ElemsOf (intKind prog w) es.toList/\(es.toList.map fun e=>keyI e.2).Perm vs/\es.size<scanBound/\t.fits es.size=true/\Ext bt t
section
variable {prog:Program} {w:World} {A:Around} {E:Value->Shared->Prop} {s:Shared} {bt:Bool}
theorem is_key (h:(intKind prog w).is k v=true):keyI v=k:=by
 obtain⟨t,rfl⟩:=Value.isInt_shape (show Value.isInt k v=true from h);rfl
theorem zmv (h:ElemsOf (intKind prog w) es)(k:Int):(∃e∈es,(intKind prog w).is k e.2=true)↔(es.map fun e=>keyI e.2).any (· ==k)=true:=by
  rw[List.any_eq_true]
  constructor
  . rintro⟨e,he,q⟩
    exact⟨_,List.mem_map.mpr ⟨e,he,rfl⟩,by rw[is_key q];exact beq_self_eq_true _⟩
  . rintro⟨_,hx,q⟩
    obtain⟨e,he,rfl⟩:=List.mem_map.mp hx
    obtain⟨⟨k',q',-⟩,-⟩:=h e he
    refine⟨e,he,?_⟩
    rw[is_key q',beq_iff_eq]at q
    rw[<-q];exact q'
theorem SW.put {es es':Array (Int×Value)}{ep:Nat}{t t':SetTable}(ho:h.get? a=some o)(hx:o.ExactSet)(hd:o.data= .set es ep t)(he:ElemsOf (intKind prog w) es'.toList)
  (hp:(es'.toList.map fun e=>keyI e.2).Perm vs) (hb:es'.size<scanBound) (hf:t'.fits es'.size=true) (e:Ext bt t'):
  (h.update a (Obj.putSet es' t')).get? a=some {o with data:= .set es' (ep+1) t'}/\SW prog w bt (h.update a (Obj.putSet es' t')) a vs:=by
 have g:(h.update a (Obj.putSet es' t')).get? a=some {o with data:= .set es' (ep+1) t'}:=by
  have z:=Heap.get?_update_self (Obj.putSet es' t') ho (by rw[putSet_of es' t' hd];rfl)
  rwa[putSet_of es' t' hd]at z
 exact⟨g,_,es',ep+1,t',g,hx,rfl,he,hp,hb,hf,e⟩
open PyProof.Rows (step_dedup) in
theorem sadd_int {tk:Tok}(hS:SW prog w bt s.heap a vs)(room:vs.length+1<scanBound)
    (h:∀h' b,Heap.SameBut a s.heap h'->SW prog w bt h' a (step_dedup vs n)->Q b {s with heap:=h'}):wpAny (model prog w) A (setAddHashed a (.int n tk) ((intKind prog w).hash n)) Q E s:=by
  obtain⟨o,es,ep,t,ho,hx,hd,hel,hp,hb,hf,e⟩:=hS
  have hk:(intKind prog w).is n (.int n tk)=true:=intKind_is _ _ _ _
  have hn:es.size=vs.length:=by have:=hp.length_eq;simpa using this
  have any:(es.toList.map fun e=>keyI e.2).any (· ==n)=vs.any (· ==n):=by
    rw[Bool.eq_iff_iff,List.any_eq_true,List.any_eq_true]
    exact⟨fun⟨x,hx,q⟩=>⟨x,hp.mem_iff.mp hx,q⟩,fun⟨x,hx,q⟩=>⟨x,hp.mem_iff.mpr hx,q⟩⟩
  unfold setAddHashed setAddHashedIn
  refine wpAny_holding (wpAny_bind (wpAny_setState_of ho hd hf ?_))
  dsimp only
  rw[byScan_of rfl hb hel]
  simp only[↓reduceIte]
  unfold setAddByScan
  refine wpAny_bind (wpAny_bind (wpAny_rule (wpAny_bind (wpAny_setScan_of hk ho hd hf hel ?_))))
  cases hr:List.findIdx? (fun e=>(intKind prog w).is n e.2) es.toList with
  |some j=>
    dsimp only
    obtain⟨hj,q,_⟩:=List.findIdx?_eq_some_iff_getElem.mp hr
    have hv:vs.any (· ==n)=true:=by rw[<-any];exact(zmv hel n).mp ⟨_,List.getElem_mem hj,q⟩
    refine wpAny_pure (wpAny_pure ?_)
    have:=h s.heap false (Heap.SameBut.refl a s.heap) ⟨o,es,ep,t,ho,hx,hd,hel,by unfold step_dedup;rw[if_pos hv];exact hp,hb,hf,e⟩
    exact this
  |none=>
    dsimp only
    have hv:¬vs.any (· ==n)=true:=fun z=>by
      rw[<-any]at z
      obtain⟨y,hy,q⟩:=(zmv hel n).mpr z
      have:=List.findIdx?_eq_none_iff.mp hr y hy
      rw[q]at this;cases this
    have way:∀(b:Bool) {s₁:Shared} {Q':Unit->Shared->Prop},Q' () s₁->wpAny (model prog w) A (match b with|true=>rule "set.scan.the-table-gave-way"|false=>pure ()) Q' E s₁:=
      fun b s₁ Q' z=>by cases b<;>first|exact wpAny_pure z|exact wpAny_rule z
    have p1:=layNew_perm t es ((intKind prog w).hash n) (.int n tk)
    have f1:=layNew_fits t es ((intKind prog w).hash n) (.int n tk)
    have x1:=e.lay es ((intKind prog w).hash n) (.int n tk)
    generalize layNew t es ((intKind prog w).hash n) (.int n tk)=L at p1 f1 x1 ⊢
    obtain⟨es1,t1,wd,gv⟩:=L
    dsimp only at p1 f1 x1 ⊢
    rw[Array.toList_push]at p1
    have e1:ElemsOf (intKind prog w) es1.toList:=(hel.push hk rfl).perm p1
    have z1:es1.size=es.size+1:=by rw[<-Array.length_toList,p1.length_eq,List.length_append,Array.length_toList];rfl
    have b1:es1.size<scanBound:=by rw[z1,hn];exact room
    have k1:(es1.toList.map fun e=>keyI e.2).Perm (step_dedup vs n):=by
      unfold step_dedup
      rw[if_neg hv]
      refine(p1.map _).trans ?_
      rw[List.map_append]
      exact hp.append_right _
    refine wpAny_bind (way _ ?_)
    have fin:wpAny (model prog w) A (do
        storeSet a es1 t1
        if(!wd&&t1.tooFull)=true then do
            (match(relayAll t1 es1 (SetTable.grown es1.size)).2.2 with|true=>rule "set.scan.the-table-gave-way"|false=>pure ())
            storeSet a (relayAll t1 es1 (SetTable.grown es1.size)).1 (relayAll t1 es1 (SetTable.grown es1.size)).2.1
            pure (some true)
          else pure (some true)) (fun r s'=>wpAny (model prog w) A (match r with|some added=>pure added|none=>setAddHashedIn a (.int n tk) ((intKind prog w).hash n) 99999) Q E s') E s:=by
      refine wpAny_bind (wpAny_storeSet_of ho hd ?_ (fits_of_scanBound b1))
      obtain⟨g1,w1⟩:=SW.put (bt:=bt) ho hx hd e1 k1 b1 f1 x1
      have sb:=Heap.SameBut.update s.heap a (Obj.putSet es1 t1)
      split
      . have p2:=relayAll_perm t1 es1 (SetTable.grown es1.size)
        have f2:=relayAll_fits t1 es1 (SetTable.grown es1.size)
        have x2:=x1.relay es1 (SetTable.grown es1.size)
        generalize relayAll t1 es1 (SetTable.grown es1.size)=L2 at p2 f2 x2 ⊢
        obtain⟨es2,t2,gv2⟩:=L2
        dsimp only at p2 f2 x2 ⊢
        have z2:es2.size=es1.size:=by rw[<-Array.length_toList,p2.length_eq,Array.length_toList]
        have b2:es2.size<scanBound:=by rw[z2];exact b1
        refine wpAny_bind (way _ ?_)
        refine wpAny_bind (wpAny_storeSet_of g1 rfl ?_ (fits_of_scanBound b2))
        obtain⟨_,w2⟩:=SW.put (bt:=bt) g1 hx rfl (e1.perm p2) ((p2.map _).trans k1) b2 f2 x2
        exact wpAny_pure (wpAny_pure (h _ true (sb.trans (Heap.SameBut.update _ a _)) w2))
      . exact wpAny_pure (wpAny_pure (h _ true sb w1))
    split
    . refine wpAny_bind ?_
      rw[hashByValue_scannable 8 (x:= .int n tk) rfl]
      refine wpAny_pure ?_
      simp only[plainKind,↓reduceIte]
      exact fin
    . refine wpAny_bind (wpAny_pure ?_)
      simp only[↓reduceIte]
      exact fin
end
end HT
namespace HT
open PySem
open PyProof.Rows (firstMet firstMet_succ firstMet_length_le IntsAre)
section
variable {prog:Program} {w:World} {A:Around} {R:Result->Shared->Prop} {I:Addr} {fp wr:List Addr} {n:Nat} {P:Nat->Value->Prop} {St:Nat->Heap->Prop} {bt:Bool}
theorem SW.at {h h':Heap}{a:Addr}{vs:List Int}(x:SW prog w bt h a vs)(k:∀o,h.get? a=some o->h'.get? a=some o):SW prog w bt h' a vs:=let⟨o,es,ep,t,g,r⟩:=x;⟨o,es,ep,t,k _ g,r⟩
theorem zmB (W:Walks prog w A.in1 I fp wr n P St)(S:Addr)(hS:S∉fp)(val:Nat->Int)(hv:∀i v,P i v->∃t,v= .int (val i) t)(hb:n+1<scanBound):
  ∀(k i:Nat) (s:Shared),n-i=k->i<=n->St i s.heap->SW prog w bt s.heap S (firstMet val i)->
   (∀h' tk,(∀b o,b∉S::wr->s.heap.get? b=some o->h'.get? b=some o)->SW prog w bt h' S (firstMet val n)->R (.ok (.ret .none)) {s with heap:=h',toks:=tk})->
   codeAny (model prog w) A (.builtin "set.update.loop" ⟨[.ref S,.ref I],[]⟩) R s:=by
 have hw:S∉wr:=fun h=>hS (W.sub _ h)
 intro k
 induction k with
 |zero=>
  intro i s hk hi st sw hR
  have:i=n:=by lia
  subst this
  refine codeAny_builtin PyProof.Rows.F.entry_set_update_loop ?_
  rw[Around.under_plainId PyProof.Rows.F.plain_set_update_loop _]
  show wpAny _ A.in1 (pyNext (.ref I)>>=_) _ _ s
  refine wpAny_bind (W.done s _ _ st fun h' tk kp=>?_)
  exact wpAny_pure (hR h' tk (fun b o hb e=>kp b o (fun z=>hb (List.mem_cons_of_mem _ z)) e) (sw.at fun o e=>kp S o hw e))
 |succ k ih=>
  intro i s hk hi st sw hR
  have lt:i<n:=by lia
  refine codeAny_builtin PyProof.Rows.F.entry_set_update_loop ?_
  rw[Around.under_plainId PyProof.Rows.F.plain_set_update_loop _]
  show wpAny _ A.in1 (pyNext (.ref I)>>=_) _ _ s
  refine wpAny_bind (W.item i s _ _ lt st fun v h' tk pv st' kp=>?_)
  obtain⟨t,rfl⟩:=hv i v pv
  have sw':SW prog w bt h' S (firstMet val i):=sw.at fun o e=>kp S o hw e
  show wpAny _ A.in1 (holding [Value.int (val i) t] (setAdd S (.int (val i) t))>>=_) _ _ _
  refine wpAny_bind (wpAny_holding ?_)
  unfold setAdd
  refine wpAny_holding (wpAny_bind ((intKind prog w).pyHash (k:=val i) (intKind_is _ _ _ _) ?_))
  refine sadd_int (bt:=bt) (vs:=firstMet val i) sw' (by have:=firstMet_length_le val i;lia) fun h2 b sb sw2=>?_
  refine wpAny_pure ⟨plainId_quiet PyProof.Rows.F.plain_set_update_loop _,ih (i+1) _ (by lia) lt (W.frame _ _ _ st' fun b hb o e=>?_) (by rw[firstMet_succ];exact sw2) fun h3 tk3 kp3 sw3=>?_⟩
  ·rw[sb.2 b (fun z:b=S=>hS (z ▸ hb))];exact e
  ·refine hR h3 tk3 (fun b o hb e=>kp3 b o hb ?_) sw3
   show h2.get? b=some o
   rw[sb.2 b (fun z:b=S=>hb (z ▸ List.mem_cons_self))]
   exact kp b o (fun z=>hb (List.mem_cons_of_mem _ z)) e
end
section
variable {prog:Program} {w:World} {A:Around} {E:Value->Shared->Prop} {s:Shared}
theorem set_new (a:Value){Q₁:Value->Shared->Prop}
  (h:Q₁ (.ref s.heap.objs.size) {s with heap:=s.heap.push {cls:= .type "set",dict:=none,data:= .set #[] 0 (.fresh 0 0 !(w.params.followText "set-order"))}}):
  codeAny (model prog w) A (.call (.builtin "set.__new__") ⟨[.type "set",a],[]⟩) (wants Q₁ E) s:=by
 refine codeAny_of_tree ?_
 show wpAny _ A.in1 (do checkBuiltinCall "set.__new__" ⟨[.type "set",a],[]⟩;again (.builtin "set.__new__" ⟨[.type "set",a],[]⟩)) _ _ s
 refine wpAny_bind (wpAny_of_eq (F.newCall_set_1 a) (wpAny_pure ⟨plainId_quiet F.plain_set_new _,codeAny_builtin F.entry_set_new ?_⟩))
 rw[Around.under_plainId F.plain_set_new _]
 unfold Builtin.«set.__new__» Builtin.Frozenset.newClass
 have hsub:=sub_set_self
 obtain⟨hp,g,d,tk,os⟩:=s
 dsimp only
 wp_walk
 refine wpAny_askSetting (wpAny_pure ?_)
 dsimp only
 simp only[newObj]
 exact wpAny_bind (wpAny_alloc (wpAny_pure (wpAny_pure h)))
noncomputable def Made (prog:Program)(w:World)(s:Shared)(vs:List Int)(r:Value)(s2:Shared):Prop:=r= .none/\∃h' tk,s2={s with heap:=h',toks:=tk}/\SW prog w (w.params.followText "set-order") h' s.heap.objs.size vs/\(∀b o,b<s.heap.objs.size->s.heap.get? b=some o->h'.get? b=some o)
noncomputable def Inits (prog:Program)(w:World)(A:Around)(E:Value->Shared->Prop)(s:Shared)(l:Addr)(vs:List Int):Prop:=∀led:Bool,(!(w.params.followText "set-order"))=led->
 wpAny (model prog w) A.in1.in1 (Builtin.«set.__init__» ⟨[.ref s.heap.objs.size,.ref l],[]⟩) (fun fin s'=>match fin with| .done f=>wants (Made prog w s vs) E (.ok f) s'| .again c'=>c'.quiet=true/\codeAny (model prog w) A.in1 c' (wants (Made prog w s vs) E) s')
  (fun e s'=>wants (Made prog w s vs) E (.error e) s') {s with heap:=s.heap.push {cls:= .type "set",dict:=none,data:= .set #[] 0 (.fresh 0 0 led)}}
set_option maxHeartbeats 4000000 in
theorem zoC {l:Addr}{items:Array Value}{ns:List Int}(hh:A.handled=none)(hl:s.heap.IsList l items)(hi:IntsAre items.toList ns)(hb:items.size+1<scanBound):Inits prog w A E s l (firstMet (fun i=>ns.getD i 0) items.size):=by
 intro led hle
 have hS:(s.heap.push {cls:= .type "set",dict:=none,data:= .set #[] 0 (.fresh 0 0 led)}).get? s.heap.objs.size=some {cls:= .type "set",dict:=none,data:= .set #[] 0 (.fresh 0 0 led)}:=Heap.get?_push_size _ rfl
 have hT:Shared.TypeIs {s with heap:=s.heap.push {cls:= .type "set",dict:=none,data:= .set #[] 0 (.fresh 0 0 led)}} (.ref s.heap.objs.size) "set":=⟨_,hS,rfl⟩
 obtain⟨ol,hol,hcl,nl,hdl⟩:=hl
 obtain⟨ocls,odict,odata,oslots⟩:=ol
 simp only at hcl hdl
 subst hcl;subst hdl
 have hol':(s.heap.push {cls:= .type "set",dict:=none,data:= .set #[] 0 (.fresh 0 0 led)}).get? l=some {cls:= .type "list",dict:=odict,data:= .seq items nl,slots:=oslots}:=Heap.get?_push_of_some _ hol
 have q1:=F.sub_list_set
 have q2:=F.sub_list_frozenset
 have q3:(Value.type "list"==Value.type "dict")=false:=by decide
 have hl1:(s.heap.push {cls:= .type "set",dict:=none,data:= .set #[] 0 (.fresh 0 0 led)}).IsList l items:=⟨_,hol',rfl,nl,rfl⟩
 unfold Builtin.«set.__init__» noKeywords Builtin.Frozenset.updateFrom
 generalize hPI:pyIter=PI
 wp_walk
 subst hPI
 refine wpAny_pyIter_list hl1 (wpAny_bind (wpAny_runValue ?_))
 have lS:l<s.heap.objs.size:=Heap.lt_size hol
 have h3:A.in1.in1.in1.handled=none:=by simp[hh]
 have nI:l≠(s.heap.push {cls:= .type "set",dict:=none,data:= .set #[] 0 (.fresh 0 0 led)}).objs.size:=by
  rw[Heap.size_push];exact Nat.ne_of_lt (Nat.lt_succ_of_lt lS)
 have nf:s.heap.objs.size∉[(s.heap.push {cls:= .type "set",dict:=none,data:= .set #[] 0 (.fresh 0 0 led)}).objs.size,l]:=by
  rw[Heap.size_push]
  intro z
  rcases List.mem_cons.mp z with z|z
  ·exact absurd z (Nat.ne_of_lt (Nat.lt_succ_self _))
  ·exact absurd (List.mem_singleton.mp z) (Nat.ne_of_gt lS)
 have hval:∀(i:Nat) (v:Value),items[i]? =some v->∃t,v= .int ((fun i=>ns.getD i 0) i) t:=fun i v hv=>
  PyProof.Rows.IntsAre.int_at hi i v (by rw[Array.getElem?_toList];exact hv)
 refine zmB (bt:=w.params.followText "set-order") (Walks.list h3 _ l nI items) s.heap.objs.size nf (fun i=>ns.getD i 0) hval hb (items.size-0) 0 _ (by lia) (Nat.zero_le _)
  ⟨⟨_,Heap.get?_push_size _ rfl,rfl,rfl⟩,(hl1.push _)⟩ ?_ ?_
 ·exact⟨_,#[],0,_,Heap.get?_push_of_some _ hS,⟨rfl,rfl,rfl⟩,rfl,fun e he=>by simp at he,List.Perm.refl _,by decide,rfl,⟨hle.symm,rfl,List.Pairwise.nil⟩⟩
 ·intro h' tk kp sw
  refine wpAny_pure ?_
  show wpAny _ _ (ret Value.none) _ _ _
  refine wpAny_pure ⟨rfl,h',tk,rfl,sw,fun b o hb e=>kp b o (fun z=>?_) (Heap.get?_push_of_some _ (Heap.get?_push_of_some _ e))⟩
  rcases List.mem_cons.mp z with z|z
  ·exact absurd z (Nat.ne_of_lt hb)
  ·rw[List.mem_singleton,Heap.size_push]at z
   exact absurd z (Nat.ne_of_lt (Nat.lt_succ_of_lt hb))
set_option maxHeartbeats 4000000 in
theorem zo3 {l:Addr}{items:Array Value}{ns:List Int}(hh:A.handled=none)(hl:s.heap.IsTuple l items)(hi:IntsAre items.toList ns)(hb:items.size+1<scanBound):Inits prog w A E s l (firstMet (fun i=>ns.getD i 0) items.size):=by
 intro led hle
 have hS:(s.heap.push {cls:= .type "set",dict:=none,data:= .set #[] 0 (.fresh 0 0 led)}).get? s.heap.objs.size=some {cls:= .type "set",dict:=none,data:= .set #[] 0 (.fresh 0 0 led)}:=Heap.get?_push_size _ rfl
 have hT:Shared.TypeIs {s with heap:=s.heap.push {cls:= .type "set",dict:=none,data:= .set #[] 0 (.fresh 0 0 led)}} (.ref s.heap.objs.size) "set":=⟨_,hS,rfl⟩
 obtain⟨ol,hol,hcl,nl,hdl⟩:=hl
 obtain⟨ocls,odict,odata,oslots⟩:=ol
 simp only at hcl hdl
 subst hcl;subst hdl
 have hol':(s.heap.push {cls:= .type "set",dict:=none,data:= .set #[] 0 (.fresh 0 0 led)}).get? l=some {cls:= .type "tuple",dict:=odict,data:= .seq items nl,slots:=oslots}:=Heap.get?_push_of_some _ hol
 have q1:=F.sub_tuple_set
 have q2:=F.sub_tuple_frozenset
 have q3:(Value.type "tuple"==Value.type "dict")=false:=by decide
 have hl1:(s.heap.push {cls:= .type "set",dict:=none,data:= .set #[] 0 (.fresh 0 0 led)}).IsTuple l items:=⟨_,hol',rfl,nl,rfl⟩
 unfold Builtin.«set.__init__» noKeywords Builtin.Frozenset.updateFrom
 generalize hPI:pyIter=PI
 wp_walk
 subst hPI
 refine wpAny_pyIter_tuple hl1 (wpAny_bind (wpAny_runValue ?_))
 have lS:l<s.heap.objs.size:=Heap.lt_size hol
 have h3:A.in1.in1.in1.handled=none:=by simp[hh]
 have nI:l≠(s.heap.push {cls:= .type "set",dict:=none,data:= .set #[] 0 (.fresh 0 0 led)}).objs.size:=by
  rw[Heap.size_push];exact Nat.ne_of_lt (Nat.lt_succ_of_lt lS)
 have nf:s.heap.objs.size∉[(s.heap.push {cls:= .type "set",dict:=none,data:= .set #[] 0 (.fresh 0 0 led)}).objs.size,l]:=by
  rw[Heap.size_push]
  intro z
  rcases List.mem_cons.mp z with z|z
  ·exact absurd z (Nat.ne_of_lt (Nat.lt_succ_self _))
  ·exact absurd (List.mem_singleton.mp z) (Nat.ne_of_gt lS)
 have hval:∀(i:Nat) (v:Value),items[i]? =some v->∃t,v= .int ((fun i=>ns.getD i 0) i) t:=fun i v hv=>
  PyProof.Rows.IntsAre.int_at hi i v (by rw[Array.getElem?_toList];exact hv)
 refine zmB (bt:=w.params.followText "set-order") (Walks.tuple h3 _ l nI items) s.heap.objs.size nf (fun i=>ns.getD i 0) hval hb (items.size-0) 0 _ (by lia) (Nat.zero_le _)
  ⟨⟨_,Heap.get?_push_size _ rfl,rfl,rfl⟩,(let⟨o,e,r⟩:=hl1;⟨o,Heap.get?_push_of_some _ e,r⟩)⟩ ?_ ?_
 ·exact⟨_,#[],0,_,Heap.get?_push_of_some _ hS,⟨rfl,rfl,rfl⟩,rfl,fun e he=>by simp at he,List.Perm.refl _,by decide,rfl,⟨hle.symm,rfl,List.Pairwise.nil⟩⟩
 ·intro h' tk kp sw
  refine wpAny_pure ?_
  show wpAny _ _ (ret Value.none) _ _ _
  refine wpAny_pure ⟨rfl,h',tk,rfl,sw,fun b o hb e=>kp b o (fun z=>?_) (Heap.get?_push_of_some _ (Heap.get?_push_of_some _ e))⟩
  rcases List.mem_cons.mp z with z|z
  ·exact absurd z (Nat.ne_of_lt hb)
  ·rw[List.mem_singleton,Heap.size_push]at z
   exact absurd z (Nat.ne_of_lt (Nat.lt_succ_of_lt hb))
set_option maxHeartbeats 4000000 in
theorem zox {l:Addr}{vs:List Int}{Q:Value->Shared->Prop}(hinit:Inits prog w A E s l vs)
  (h : ∀ (h' : Heap) (tk : Nat), SW prog w (w.params.followText "set-order") h' s.heap.objs.size vs ->
   (∀b o,b<s.heap.objs.size->s.heap.get? b=some o->h'.get? b=some o)->Q (.ref s.heap.objs.size) {s with heap:=h',toks:=tk}):
  wpAny (model prog w) A (call (.type "set") [.ref l]) Q E s:=by
 obtain⟨c,tl,hmro⟩:=F.called_set.mro
 have hmade:=F.called_set.made
 have hsub:=F.called_set.sub
 refine wpAny_call (codeAny_of_tree ?_)
 show wpAny _ _ (callAny (.type "set") _) _ _ _
 refine wpAny_pure ⟨Code.quiet_builtin _ (by decide+kernel),codeAny_builtin F.entry_type_call ?_⟩
 rw[Around.under_plain (weight_type_call_type "set" [.ref l] []) rfl]
 have h1:=F.called_set.notType
 have h2:=F.called_set.canCreate
 have hct:=F.typeCall_set_1 (.ref l)
 repeat (any_goals (first|assumption|wp_step))
 generalize hle:(!(w.params.followText "set-order"))=led
 refine codeAny_mono (set_new (.ref l) (E:=E) (Q₁:=fun obj s₁=>obj= .ref s.heap.objs.size/\s₁={s with heap:=s.heap.push {cls:= .type "set",dict:=none,data:= .set #[] 0 (.fresh 0 0 led)}}) (by rw[hle];exact⟨rfl,rfl⟩)) fun r s₁ hr=>?_
 cases r with
 |error e=>exact hr
 |ok fl0=>
  cases fl0 with
  |ret obj=>
   obtain⟨rfl,rfl⟩:=hr
   have hS:(s.heap.push {cls:= .type "set",dict:=none,data:= .set #[] 0 (.fresh 0 0 led)}).get? s.heap.objs.size=some {cls:= .type "set",dict:=none,data:= .set #[] 0 (.fresh 0 0 led)}:=Heap.get?_push_size _ rfl
   have hT:Shared.TypeIs {s with heap:=s.heap.push {cls:= .type "set",dict:=none,data:= .set #[] 0 (.fresh 0 0 led)}} (.ref s.heap.objs.size) "set":=⟨_,hS,rfl⟩
   have hli:=F.called_set.init.lookup
   have hbi:=F.called_set.init.bind (.ref s.heap.objs.size)
   repeat (any_goals (first|assumption|wp_step))
   refine codeAny_mono (codeAny_call_builtin (R:=wants (Made prog w s vs) E) F.called_set.init.plain F.entry_set_init (check_set_init_1 hT ?_)) fun r2 s2 hr2=>?_
   ·exact hinit led hle
   ·cases r2 with
    |error e=>exact hr2
    |ok fl2=>
     cases fl2 with
     |ret r=>
      obtain⟨rfl,h',tk,rfl,sw,kp⟩:=hr2
      repeat (any_goals (first|assumption|wp_step))
      exact h _ _ sw kp
     |_=>exact hr2.elim
  |_=>exact hr.elim
end
end HT
namespace HT
open PySem
theorem zhr {α:Type}:∀{l:List α} {i:Nat} (h:i<l.length),(l[i]::l.eraseIdx i).Perm l
 |_::_,0,_=>List.Perm.refl _
 |a::l,i+1,h=>by
  have ih:=zhr (l:=l) (i:=i) (by simpa using h)
  exact(List.Perm.swap ..).trans (ih.cons a)
theorem zol {α:Type}(nx:Nat->Nat):∀(f k:Nat) (l:List α) (o:Array α),l.length<=f->(pickOrder.go nx f k l o).toList.Perm (o.toList++l)
 |0,k,l,o,h=>by
  have:l=[]:=List.length_eq_zero_iff.mp (by lia)
  subst this
  unfold pickOrder.go
  simp
 |f+1,k,l,o,h=>by
  unfold pickOrder.go
  split
  ·rename_i x e
   obtain⟨hi,rfl⟩:=List.getElem?_eq_some_iff.mp e
   refine(zol nx f (k+1) _ _ (by rw[List.length_eraseIdx_of_lt hi];lia)).trans ?_
   rw[Array.toList_push,List.append_assoc]
   refine List.Perm.append_left _ ?_
   exact zhr hi
  ·rename_i e
   have:l=[]:=by
    cases l with
    |nil=>rfl
    |cons a l=>
     rw[List.getElem?_eq_none_iff]at e
     have:=Nat.mod_lt (nx k) (show 0<(a::l).length by simp)
     lia
   subst this
   simp
theorem zoP {α:Type}(nx:Nat->Nat)(xs:Array α):(pickOrder nx xs).toList.Perm xs.toList:=by
 have:=zol nx xs.size 0 xs.toList #[] (by simp)
 simpa[pickOrder]using this
section
variable {prog:Program} {w:World} {A:Around} {E:Value->Shared->Prop} {s:Shared} {S:Addr} {o:Obj} {es:Array (Int×Value)} {ep:Nat} {t:SetTable}
theorem zkL {M:Model}{src:Source}{n:Nat}{Q:Nat->Shared->Prop}(hn:n≠0)(h:Q (M.w.draws src (s.drawn.get src)%n) {s with drawn:=s.drawn.bump src}):wpAny M A (choose src n) Q E s:=fun _ _ _=>⟨hn,h⟩
theorem zi9 {α:Type}:∀(n:Nat) (xs:List α) (s:Shared) (Q:List α->Shared->Prop),xs.length=n->(∀ys d,ys.Perm xs->Q ys {s with drawn:=d})->wpAny (model prog w) A (drawOrder n xs) Q E s
 |0,xs,s,Q,hl,h=>by
  have:xs=[]:=List.length_eq_zero_iff.mp hl
  subst this
  exact wpAny_pure (h [] s.drawn (List.Perm.refl _))
 |n+1,[],s,Q,hl,h=>by simp at hl
 |n+1,x::xs,s,Q,hl,h=>by
  unfold drawOrder
  refine wpAny_bind (zkL (by simp) ?_)
  have lt:(model prog w).w.draws .order (s.drawn.get .order)%(x::xs).length<(x::xs).length:=Nat.mod_lt _ (by simp)
  generalize (model prog w).w.draws .order (s.drawn.get .order)%(x::xs).length=i at lt
  rw[List.getElem?_eq_getElem lt]
  dsimp only
  refine wpAny_bind (zi9 n _ _ _ (by rw[List.length_eraseIdx_of_lt lt];simpa using hl) fun ys d p=>?_)
  exact wpAny_pure (h _ d ((p.cons _).trans (zhr lt)))
theorem zky {slot i:Nat}{Q:Option (Value×Nat)->Shared->Prop}(ho:s.heap.get? S=some o)(hd:o.data= .set es ep t)(hf:t.fits es.size=true)(bt:w.params.followText "set-order"=true)
  (h:Q (((pickOrder (w.params.setOrder S ep) es)[i]?).map fun e=>(e.2,slot)) s):wpAny (model prog w) A (setNext S slot i ep) Q E s:=by
 unfold setNext
 refine wpAny_bind (wpAny_setState_of ho hd hf ?_)
 refine wpAny_bind (m:=setsByText) (wpAny_bind (wpAny_askSetting (wpAny_pure ?_)))
 dsimp only
 rw[show(model prog w).w=w from rfl,bt]
 simp only[bne_self_eq_false,Bool.false_eq_true,↓reduceIte]
 refine wpAny_bind (m:=setWalk S) ?_
 unfold setWalk
 refine wpAny_bind (wpAny_setState_of ho hd hf ?_)
 refine wpAny_bind (m:=setsByText) (wpAny_bind (wpAny_askSetting (wpAny_pure ?_)))
 dsimp only
 rw[show(model prog w).w=w from rfl,bt]
 simp only[↓reduceIte]
 refine wpAny_bind (wpAny_askSetting ?_)
 exact wpAny_pure (wpAny_pure h)
theorem zmk {slot i ep':Nat}{Q:Option (Value×Nat)->Shared->Prop}(ho:s.heap.get? S=some o)(hd:o.data= .set es ep t)(hf:t.fits es.size=true)(bt:w.params.followText "set-order"=false)(pl:(!t.plain&&decide (es.size>1))=false)(le:t.led=true)
  (h : Q (match es[SetTable.below t.place slot]?, t.place[SetTable.below t.place slot]? with
  |some (_,x),some j=>some (x,j+1)
  |_,_=>none) s):wpAny (model prog w) A (setNext S slot i ep') Q E s:=by
 unfold setNext
 refine wpAny_bind (wpAny_setState_of ho hd hf ?_)
 refine wpAny_bind (m:=setsByText) (wpAny_bind (wpAny_askSetting (wpAny_pure ?_)))
 dsimp only
 rw[show(model prog w).w=w from rfl,bt]
 simp only[Bool.false_eq_true,↓reduceIte]
 show wpAny _ _ (if(!t.plain&&decide (es.size>1))=true then _ else _) _ _ _
 rw[pl]
 simp only[Bool.false_eq_true,↓reduceIte]
 show wpAny _ _ ((if(!t.led&&!es.isEmpty)=true then unsupported "set:maker-not-led" else pure ())>>=_) _ _ _
 rw[le]
 simp only[Bool.not_true,Bool.false_and,Bool.false_eq_true,↓reduceIte]
 exact wpAny_bind (wpAny_pure (wpAny_pure h))
theorem zmX {p:Nat}{Q:Value->Shared->Prop}(ho:s.heap.get? S=some o)(hd:o.data= .set es ep t)(hf:t.fits es.size=true)(hp:p<es.size)(h:Q es[p].2 s):wpAny (model prog w) A (setNextDrawn S p ep) Q E s:=by
 unfold setNextDrawn
 refine wpAny_bind (wpAny_setState_of ho hd hf ?_)
 dsimp only
 simp only[bne_self_eq_false,Bool.false_eq_true,↓reduceIte]
 rw[Array.getElem?_eq_getElem hp]
 exact wpAny_pure h
end
theorem si_slot:Slot "set_iterator" "__next__" "set_iterator.__next__":=
 .of (owner:="set_iterator") (n:="__next__") (by rw[typeLookup_type,builtinLookup_eq_fast];kernel_rfl) (by decide+kernel) (by decide+kernel) (by decide+kernel) (by first|exact .inl (by decide+kernel)|exact .inr (by decide+kernel)) (by rw[isSubtype_type];kernel_rfl)
theorem zhW:entryFor table "set_iterator.__next__"=some Builtin.«set_iterator.__next__»:=entryFor_of_tree (by kernel_rfl)
theorem zmD:Slot "set_iterator" "__iter__" "set_iterator.__iter__":=
 .of (owner:="set_iterator") (n:="__iter__") (by rw[typeLookup_type,builtinLookup_eq_fast];kernel_rfl) (by decide+kernel) (by decide+kernel) (by decide+kernel) (by first|exact .inl (by decide+kernel)|exact .inr (by decide+kernel)) (by rw[isSubtype_type];kernel_rfl)
theorem znu:entryFor table "set_iterator.__iter__"=some Builtin.«dict_keyiterator.__iter__»:=entryFor_alias (id':="dict_keyiterator.__iter__") (by kernel_rfl) rfl (by decide+kernel) (by kernel_rfl)
theorem s_entryI:entryFor table "set.__iter__"=some Builtin.«frozenset.__iter__»:=entryFor_alias (id':="frozenset.__iter__") (by kernel_rfl) rfl (by decide+kernel) (by kernel_rfl)
theorem zmt:Manifest.owners.lookup (String.ofList ['r','o','t','a','r','e','t','i','_','t','e','s'].reverse)=some Manifest.sig_set_iterator:=by kernel_rfl
theorem zjp (a:Value):argsOk "set_iterator.__next__" ⟨[a],[]⟩:=by
 unfold argsOk;rw[signature?_of (id:="set_iterator.__next__") (n:=['_','_','t','x','e','n','_','_']) (o:=['r','o','t','a','r','e','t','i','_','t','e','s']) (by kernel_rfl) zmt];kernel_rfl
theorem si_argsI (a:Value):argsOk "set_iterator.__iter__" ⟨[a],[]⟩:=by
 unfold argsOk;rw[signature?_of (id:="set_iterator.__iter__") (n:=['_','_','r','e','t','i','_','_']) (o:=['r','o','t','a','r','e','t','i','_','t','e','s']) (by kernel_rfl) zmt];kernel_rfl
noncomputable def SIt (h:Heap)(I S:Addr)(first:Value)(i n ep:Nat):Prop:=∃o,h.get? I=some o/\o.cls= .type "set_iterator"/\o.data= .fields #[first,.int i 0,.ref S,.int n 0,.int ep 0]
theorem SIt.typeIs {s:Shared}{I S:Addr}{first:Value}{i n ep:Nat}(x:SIt s.heap I S first i n ep):s.TypeIs (.ref I) "set_iterator":=let⟨o,h,c,_⟩:=x;⟨o,h,c⟩
theorem SIt.at {h h':Heap}{I S:Addr}{first:Value}{i n ep:Nat}(x:SIt h I S first i n ep)(e:∀o,h.get? I=some o->h'.get? I=some o):SIt h' I S first i n ep:=let⟨o,ho,r⟩:=x;⟨o,e _ ho,r⟩
section
variable {prog:Program} {w:World} {A:Around} {E:Value->Shared->Prop} {s:Shared} {I S:Addr} {o:Obj} {es:Array (Int×Value)} {ep i:Nat} {t:SetTable} {first:Value}
theorem zmF {h:Heap}{Q:Option Value->Shared->Prop}(hh:A.handled=none)(k:∀h',(∀b u,h.get? b=some u->h'.get? b=some u)->Q none {s with heap:=h'}):
  wpAny (model prog w) A.in1 (newExc (.type "StopIteration") []>>=fun e=>raiseNew (α:=Fin) e) (fun _ _=>False) (fun e s'=>wpAny (model prog w) A (isInstance e (.type "StopIteration")>>=fun b=>if b=true then pure none else throw e) Q E s') {s with heap:=h}:=by
 refine wpAny_bind ?_
 simp only[newExc,newTuple]
 refine wpAny_bind (wpAny_newObj_type ?_ (by size_fits))
 refine wpAny_bind (m:=firstArgMember _ _) (wpAny_of_eq (a:=Value.none) (by first|rfl|(simp only[firstArgMember];rfl)) ?_)
 refine wpAny_newObj_type ?_ (by size_fits)
 simp only[raiseNew]
 refine wpAny_bind (wpAny_handled ?_)
 rw[show A.in1.handled=none from hh]
 refine wpAny_bind (wpAny_pure (wpAny_throw ?_))
 refine wpAny_bind (wpAny_isInstance (b:=true) (T:="StopIteration") ⟨_,Heap.get?_push_size _ rfl,rfl⟩ isSubtype_stop ?_)
 exact wpAny_pure (k _ fun b u e=>Heap.get?_push_of_some _ (Heap.get?_push_of_some _ e))
theorem znv {slot nx:Nat}{x:Value}{Q:Option Value->Shared->Prop}(hit:SIt s.heap I S (.int slot 0) i es.size ep)(ho:s.heap.get? S=some o)(hd:o.data= .set es ep t)(hf:t.fits es.size=true)
  (hx:∀(Q':Option (Value×Nat)->Shared->Prop) (E':Value->Shared->Prop),Q' (some (x,nx)) s->wpAny (model prog w) A.in1 (setNext S slot i ep) Q' E' s)
  (k:∀h',SIt h' I S (.int nx 0) (i+1) es.size ep->Heap.SameBut I s.heap h'->Q (some x) {s with heap:=h'}):wpAny (model prog w) A (pyNext (.ref I)) Q E s:=by
 obtain⟨oi,q1,q2,q3⟩:=id hit
 unfold pyNext
 refine wpAny_bind (wpAny_attempt (wpAny_callSpecial?_slot (name:=Str.ofString "__next__") hit.typeIs si_slot (wpAny_call_entry si_slot hit.typeIs zhW ?_ (zjp _))))
 unfold Builtin.«set_iterator.__next__»
 refine wpAny_bind (m:=slotArgs "__next__" 0 _) (wpAny_pure ?_)
 refine wpAny_bind (wpAny_fieldsOf q1 q3 ?_)
 dsimp only
 refine wpAny_bind (wpAny_setEntries_of ho hd hf ?_)
 simp only[bne_self_eq_false,Bool.false_eq_true,if_false,Int.toNat_natCast]
 refine wpAny_bind (hx _ _ ?_)
 dsimp only
 refine wpAny_bind (wpAny_setField q1 q3 (by simp) ?_)
 have g1:=Heap.get?_update_self (Obj.mapFields (·.setIfInBounds 0 (rawInt (nx:Int)))) q1 (Obj.isFreed_of_fields (Obj.data_mapFields q3 _))
 have d1:=Obj.data_mapFields q3 (·.setIfInBounds 0 (rawInt (nx:Int)))
 refine wpAny_bind (wpAny_setField g1 d1 (by simp) ?_)
 have g2:=Heap.get?_update_self (Obj.mapFields (·.setIfInBounds 1 (rawInt ((i:Int)+1)))) g1 (Obj.isFreed_of_fields (Obj.data_mapFields d1 _))
 exact wpAny_pure ⟨_,rfl,wpAny_pure (k _ ⟨_,g2,(Obj.cls_mapFields ..).trans ((Obj.cls_mapFields ..).trans q2),by rw[Obj.data_mapFields d1];simp[rawInt]⟩ ((Heap.SameBut.update ..).trans (Heap.SameBut.update ..)))⟩
theorem si_end {slot:Nat}{Q:Option Value->Shared->Prop}(hh:A.handled=none)(hit:SIt s.heap I S (.int slot 0) i es.size ep)(ho:s.heap.get? S=some o)(hd:o.data= .set es ep t)(hf:t.fits es.size=true)
  (hx:∀(Q':Option (Value×Nat)->Shared->Prop) (E':Value->Shared->Prop),Q' none s->wpAny (model prog w) A.in1 (setNext S slot i ep) Q' E' s)
  (k:∀h',(∀b u,b≠I->s.heap.get? b=some u->h'.get? b=some u)->Q none {s with heap:=h'}):wpAny (model prog w) A (pyNext (.ref I)) Q E s:=by
 obtain⟨oi,q1,q2,q3⟩:=id hit
 unfold pyNext
 refine wpAny_bind (wpAny_attempt (wpAny_callSpecial?_slot (name:=Str.ofString "__next__") hit.typeIs si_slot (wpAny_call_entry si_slot hit.typeIs zhW ?_ (zjp _))))
 unfold Builtin.«set_iterator.__next__»
 refine wpAny_bind (m:=slotArgs "__next__" 0 _) (wpAny_pure ?_)
 refine wpAny_bind (wpAny_fieldsOf q1 q3 ?_)
 dsimp only
 refine wpAny_bind (wpAny_setEntries_of ho hd hf ?_)
 simp only[bne_self_eq_false,Bool.false_eq_true,if_false,Int.toNat_natCast]
 refine wpAny_bind (hx _ _ ?_)
 dsimp only
 refine wpAny_bind (wpAny_setField q1 q3 (by simp) ?_)
 refine wpAny_mono (zmF (Q:=Q) (E:=E) hh fun h' kp=>k h' fun b u z e=>kp b u ((Heap.get?_update_other _ _ (Ne.symm z)).trans e)) (fun _ _ z=>z.elim) (fun _ _ z=>z)
theorem sd_item {T:Addr}{ps:List Nat}{p:Nat}{Q:Option Value->Shared->Prop}(hit:SIt s.heap I S (.ref T) i es.size ep)(hT:s.heap.IsTuple T (ps.map fun(p:Nat)=>Value.int p 0).toArray)(ho:s.heap.get? S=some o)(hd:o.data= .set es ep t)(hf:t.fits es.size=true)
  (hi:ps[i]? =some p) (hp:p<es.size) (k:∀h',SIt h' I S (.ref T) (i+1) es.size ep->Heap.SameBut I s.heap h'->Q (some es[p].2) {s with heap:=h'}):wpAny (model prog w) A (pyNext (.ref I)) Q E s:=by
 obtain⟨oi,q1,q2,q3⟩:=id hit
 obtain⟨oT,t1,t2,n,t3⟩:=hT
 unfold pyNext
 refine wpAny_bind (wpAny_attempt (wpAny_callSpecial?_slot (name:=Str.ofString "__next__") hit.typeIs si_slot (wpAny_call_entry si_slot hit.typeIs zhW ?_ (zjp _))))
 unfold Builtin.«set_iterator.__next__»
 refine wpAny_bind (m:=slotArgs "__next__" 0 _) (wpAny_pure ?_)
 refine wpAny_bind (wpAny_fieldsOf q1 q3 ?_)
 dsimp only
 refine wpAny_bind (wpAny_setEntries_of ho hd hf ?_)
 simp only[bne_self_eq_false,Bool.false_eq_true,if_false,Int.toNat_natCast]
 unfold seqItems?
 dsimp only
 refine wpAny_bind (wpAny_bind (wpAny_load t1 ?_))
 rw[t3]
 refine wpAny_pure ?_
 dsimp only
 have e:(ps.map fun(p:Nat)=>Value.int p 0).toArray[i]? =some (.int p 0):=by simp[hi]
 rw[e]
 dsimp only
 refine wpAny_bind (zmX ho hd hf (by simpa using hp) ?_)
 refine wpAny_bind (wpAny_setField q1 q3 (by simp) ?_)
 have g1:=Heap.get?_update_self (Obj.mapFields (·.setIfInBounds 1 (rawInt ((i:Int)+1)))) q1 (Obj.isFreed_of_fields (Obj.data_mapFields q3 _))
 exact wpAny_pure ⟨_,rfl,wpAny_pure (k _ ⟨_,g1,(Obj.cls_mapFields ..).trans q2,by rw[Obj.data_mapFields q3];simp[rawInt]⟩ (Heap.SameBut.update ..))⟩
theorem sd_end {T:Addr}{ps:List Nat}{Q:Option Value->Shared->Prop}(hh:A.handled=none)(hit:SIt s.heap I S (.ref T) i es.size ep)(hT:s.heap.IsTuple T (ps.map fun(p:Nat)=>Value.int p 0).toArray)(ho:s.heap.get? S=some o)(hd:o.data= .set es ep t)(hf:t.fits es.size=true)
  (hi:ps.length<=i) (k:∀h',(∀b u,b≠I->s.heap.get? b=some u->h'.get? b=some u)->Q none {s with heap:=h'}):wpAny (model prog w) A (pyNext (.ref I)) Q E s:=by
 obtain⟨oi,q1,q2,q3⟩:=id hit
 obtain⟨oT,t1,t2,n,t3⟩:=hT
 unfold pyNext
 refine wpAny_bind (wpAny_attempt (wpAny_callSpecial?_slot (name:=Str.ofString "__next__") hit.typeIs si_slot (wpAny_call_entry si_slot hit.typeIs zhW ?_ (zjp _))))
 unfold Builtin.«set_iterator.__next__»
 refine wpAny_bind (m:=slotArgs "__next__" 0 _) (wpAny_pure ?_)
 refine wpAny_bind (wpAny_fieldsOf q1 q3 ?_)
 dsimp only
 refine wpAny_bind (wpAny_setEntries_of ho hd hf ?_)
 simp only[bne_self_eq_false,Bool.false_eq_true,if_false,Int.toNat_natCast]
 unfold seqItems?
 dsimp only
 refine wpAny_bind (wpAny_bind (wpAny_load t1 ?_))
 rw[t3]
 refine wpAny_pure ?_
 dsimp only
 have e:(ps.map fun(p:Nat)=>Value.int p 0).toArray[i]? =none:=by simp[hi]
 rw[e]
 dsimp only
 refine wpAny_bind (wpAny_setField q1 q3 (by simp) ?_)
 have g1:=Heap.get?_update_self (Obj.mapFields (·.setIfInBounds 0 (rawInt 0))) q1 (Obj.isFreed_of_fields (Obj.data_mapFields q3 _))
 refine wpAny_bind (wpAny_setField g1 (Obj.data_mapFields q3 _) (by simp) ?_)
 refine wpAny_mono (zmF (Q:=Q) (E:=E) hh fun h' kp=>k h' fun b u z e=>kp b u ((Heap.get?_update_other _ _ (Ne.symm z)).trans ((Heap.get?_update_other _ _ (Ne.symm z)).trans e))) (fun _ _ z=>z.elim) (fun _ _ z=>z)
theorem zlq {Q:Value->Shared->Prop}{n:Nat}(hit:SIt s.heap I S first i n ep)(h:Q (.ref I) s):wpAny (model prog w) A (pyIter (.ref I)) Q E s:=by
 refine wpAny_pyIter_slot hit.typeIs zmD (wpAny_call_entry zmD hit.typeIs znu ?_ (si_argsI _))
 show wpAny _ _ (ret (.ref I)) _ _ s
 exact wpAny_pure ⟨_,rfl,"set_iterator",_,hit.typeIs,si_slot.lookup,h⟩
end
end HT
namespace HT
open PySem
open PyProof.Rows (IntsAre)
theorem zjO:∀{l:List Value},(∀v∈l,∃n t,v= .int n t)->IntsAre l (l.map keyI)
 |[],_=> .nil
 |v::l,h=>by
  obtain⟨n,t,rfl⟩:=h v List.mem_cons_self
  exact .cons n t (zjO fun v hv=>h v (List.mem_cons_of_mem _ hv))
noncomputable def zcR (t:SetTable):Nat->Nat
 |0=>0
 |i+1=>t.place.getD i 0+1
theorem zi5 {bt:Bool}{t:SetTable}(e:Ext bt t){i:Nat}(hi:i<=t.place.size):SetTable.below t.place (zcR t i)=i:=by
 have b:=zl7 (l:=t.place.toList) e.up (zcR t i)
 rw[show t.place.toList.toArray=t.place by simp]at b
 obtain⟨b1,b2,b3⟩:=b
 rw[Array.length_toList]at b1
 have at':∀j,j<t.place.size->t.place.toList[j]? =some (t.place.getD j 0):=fun j hj=>by simp[Array.getD,hj]
 have up:∀a b,a<b->b<t.place.size->t.place.getD a 0<t.place.getD b 0:=fun a b ab hb=>by
  have:=List.pairwise_iff_getElem.mp e.up a b (by rw[Array.length_toList];lia) (by rw[Array.length_toList];lia) ab
  simpa[Array.getD,hb,show a<t.place.size by lia]using this
 cases i with
 |zero=>
  by_cases z:SetTable.below t.place (zcR t 0)=0
  ·exact z
  ·have:=b2 0 (by lia) _ (at' 0 (by lia))
   rw[show zcR t 0=0 from rfl]at this
   lia
 |succ i=>
  have h1:i<SetTable.below t.place (zcR t (i+1)):=by
   by_cases z:i<SetTable.below t.place (zcR t (i+1))
   ·exact z
   ·have:=b3 i (by lia) _ (at' i (by lia))
    rw[show zcR t (i+1)=t.place.getD i 0+1 from rfl]at this
    lia
  by_cases z:SetTable.below t.place (zcR t (i+1))=i+1
  ·exact z
  ·have l:=b2 (i+1) (by lia) _ (at' (i+1) (by lia))
   have u:=up i (i+1) (by lia) (by lia)
   rw[show zcR t (i+1)=t.place.getD i 0+1 from rfl]at l
   lia
section
variable {prog:Program} {w:World} {A:Around} {E:Value->Shared->Prop} {s:Shared} {S I:Addr} {o:Obj} {es:Array (Int×Value)} {ep:Nat} {t:SetTable}
theorem zkE (hf:t.fits es.size=true):t.place.size=es.size:=by
 simp only[SetTable.fits,Bool.and_eq_true,beq_iff_eq]at hf;exact hf.1
theorem zm7 (hh:A.handled=none)(hne:S≠I)(hd:o.data= .set es ep t)(hf:t.fits es.size=true)(bt:w.params.followText "set-order"=true):
  Walks prog w A I [I,S] [I] ((pickOrder (w.params.setOrder S ep) es).toList.map (·.2)).length (fun i v=>((pickOrder (w.params.setOrder S ep) es).toList.map (·.2))[i]? =some v) (fun i h=>SIt h I S (.int 0 0) i es.size ep/\h.get? S=some o) where
 sub:=fun b hb=>by simp at hb;simp[hb]
 frame:=fun _ _ _ st hk=>⟨st.1.at fun o e=>hk I (by simp) o e,hk S (by simp) _ st.2⟩
 item:=fun i s Q E hi st hQ=>by
  rw[List.length_map,Array.length_toList]at hi
  refine znv (slot:=0) (nx:=0) (x:=((pickOrder (w.params.setOrder S ep) es)[i]).2) st.1 st.2 hd hf (fun Q' E' q=>zky st.2 hd hf bt (by rw[Array.getElem?_eq_getElem hi];exact q)) fun h' k sb=>hQ _ h' s.toks (by simp[hi]) ⟨k,sb.extBut S _ hne st.2⟩ fun b o hb e=>sb.extBut b o (fun z=>hb (by simp[z])) e
 done:=fun s Q E st hQ=>si_end (slot:=0) hh st.1 st.2 hd hf (fun Q' E' q=>zky st.2 hd hf bt (by rw[List.length_map,Array.length_toList,Array.getElem?_eq_none (Nat.le_refl _)];exact q)) fun h' k=>hQ h' s.toks fun b o hb e=>k b o (fun z=>hb (by simp[z])) e
 self:=fun _ _ _ _ st hQ=>zlq st.1 hQ
theorem znD {b0:Bool}(hh:A.handled=none)(hne:S≠I)(hd:o.data= .set es ep t)(hf:t.fits es.size=true)(bt:w.params.followText "set-order"=false)(pl:(!t.plain&&decide (es.size>1))=false)(ex:Ext b0 t)(le:t.led=true):
  Walks prog w A I [I,S] [I] (es.toList.map (·.2)).length (fun i v=>(es.toList.map (·.2))[i]? =some v) (fun i h=>SIt h I S (.int (zcR t i) 0) i es.size ep/\h.get? S=some o) where
 sub:=fun b hb=>by simp at hb;simp[hb]
 frame:=fun _ _ _ st hk=>⟨st.1.at fun o e=>hk I (by simp) o e,hk S (by simp) _ st.2⟩
 item:=fun i s Q E hi st hQ=>by
  rw[List.length_map,Array.length_toList]at hi
  have hz:=zkE hf
  refine znv (slot:=zcR t i) (nx:=zcR t (i+1)) (x:=es[i].2) st.1 st.2 hd hf (fun Q' E' q=>zmk st.2 hd hf bt pl le (by
   rw[zi5 ex (by lia),Array.getElem?_eq_getElem hi,Array.getElem?_eq_getElem (by lia)]
   have:zcR t (i+1)=t.place[i]+1:=by unfold zcR;simp[Array.getD,show i<t.place.size by lia]
   rw[this]at q
   exact q)) fun h' k sb=>hQ _ h' s.toks (by simp[hi]) ⟨k,sb.extBut S _ hne st.2⟩ fun b o hb e=>sb.extBut b o (fun z=>hb (by simp[z])) e
 done:=fun s Q E st hQ=>si_end (slot:=zcR t (es.toList.map (·.2)).length) hh st.1 st.2 hd hf (fun Q' E' q=>zmk st.2 hd hf bt pl le (by
   have hz:=zkE hf
   rw[List.length_map,Array.length_toList,zi5 ex (by lia),Array.getElem?_eq_none (Nat.le_refl _)];exact q)) fun h' k=>hQ h' s.toks fun b o hb e=>k b o (fun z=>hb (by simp[z])) e
 self:=fun _ _ _ _ st hQ=>zlq st.1 hQ
theorem zl4 {T:Addr}{ps:List Nat}(hh:A.handled=none)(hne:S≠I)(hnt:T≠I)(hd:o.data= .set es ep t)(hf:t.fits es.size=true)(hp:ps.Perm (List.range es.size)):
  Walks prog w A I [I,S,T] [I] (ps.map fun p=>(es.getD p (0,.none)).2).length (fun i v=>(ps.map fun p=>(es.getD p (0,.none)).2)[i]? =some v) (fun i h=>SIt h I S (.ref T) i es.size ep/\h.get? S=some o/\h.IsTuple T (ps.map fun(p:Nat)=>Value.int p 0).toArray) where
 sub:=fun b hb=>by simp at hb;simp[hb]
 frame:=fun _ _ _ st hk=>⟨st.1.at fun o e=>hk I (by simp) o e,hk S (by simp) _ st.2.1,let⟨o,e,r⟩:=st.2.2;⟨o,hk T (by simp) _ e,r⟩⟩
 item:=fun i s Q E hi st hQ=>by
  rw[List.length_map]at hi
  have lt:ps[i]<es.size:=List.mem_range.mp (hp.mem_iff.mp (List.getElem_mem hi))
  refine sd_item (ps:=ps) (p:=ps[i]) st.1 st.2.2 st.2.1 hd hf (List.getElem?_eq_getElem hi) lt fun h' k sb=>hQ _ h' s.toks (by simp[hi,Array.getD,lt]) ⟨k,sb.extBut S _ hne st.2.1,let⟨o,e,r⟩:=st.2.2;⟨o,sb.extBut T _ hnt e,r⟩⟩ fun b o hb e=>sb.extBut b o (fun z=>hb (by simp[z])) e
 done:=fun s Q E st hQ=>sd_end (ps:=ps) hh st.1 st.2.2 st.2.1 hd hf (by rw[List.length_map];exact Nat.le_refl _) fun h' k=>hQ h' s.toks fun b o hb e=>k b o (fun z=>hb (by simp[z])) e
 self:=fun _ _ _ _ st hQ=>zlq st.1 hQ
theorem znf {l:List (Int×Value)}(h:ElemsOf (intKind prog w) l):∀v∈l.map (·.2),∃n t,v= .int n t:=fun v hv=>by
 obtain⟨e,he,rfl⟩:=List.mem_map.mp hv
 obtain⟨⟨k,q,-⟩,-⟩:=h e he
 obtain⟨t,e⟩:=Value.isInt_shape (show Value.isInt k e.2=true from q)
 exact⟨k,t,e⟩
noncomputable def OrdOf (vs:List Int)(ord:List Value):Prop:=∃ns,IntsAre ord ns/\ns.Perm vs
theorem zoe {vs:List Int}{l:List (Int×Value)}(h:ElemsOf (intKind prog w) l)(hp:(l.map fun e=>keyI e.2).Perm vs){ord:List Value}(ho:ord.Perm (l.map (·.2))):OrdOf vs ord:=
 ⟨ord.map keyI,zjO fun v hv=>znf h v (ho.mem_iff.mp hv),((ho.map keyI).trans (by rw[List.map_map];exact List.Perm.refl _)).trans hp⟩
theorem drawn_is {Q:Bool->Shared->Prop}(ho:s.heap.get? S=some o)(hd:o.data= .set es ep t)(hf:t.fits es.size=true)(h:Q (!(w.params.followText "set-order")&&(!t.plain&&decide (es.size>1))) s):wpAny (model prog w) A (setDrawn S) Q E s:=by
 unfold setDrawn
 refine wpAny_bind (wpAny_setState_of ho hd hf ?_)
 exact wpAny_bind (m:=setsByText) (wpAny_bind (wpAny_askSetting (wpAny_pure (wpAny_pure h))))
theorem znB {L:Addr}{vs:List Int}(hh:A.handled=none)(sw:SW prog w (w.params.followText "set-order") s.heap S vs)(hL:L≠S)(lL:L<s.heap.objs.size):Iters prog w A S L (OrdOf vs) s:=by
 obtain⟨o,es,ep,t,ho,hx,hd,hel,hp,hb,hf,ex⟩:=sw
 have lS:=Heap.lt_size ho
 have b24:es.size<=2^24:=by have:scanBound=4096:=rfl;lia
 intro Q E k
 have hT:s.TypeIs (.ref S) "set":=⟨o,ho,hx.1⟩
 refine wpAny_pyIter_slot hT F.slot_set_iter (wpAny_call_entry F.slot_set_iter hT s_entryI ?_ (F.args_set_iter_1 _))
 unfold Builtin.«frozenset.__iter__» Builtin.Frozenset.slot0 slotArgs
 simp only[List.isEmpty_nil,Bool.not_true,Bool.false_eq_true,↓reduceIte,bind_assoc,List.length_nil,bne_self_eq_false]
 unfold Builtin.Frozenset.addrOf Builtin.Frozenset.sizeOf
 refine wpAny_bind (wpAny_pure ?_)
 try dsimp only
 refine wpAny_bind (wpAny_pure ?_)
 refine wpAny_bind (wpAny_bind (wpAny_setEntries_of ho hd hf (wpAny_pure ?_)))
 refine wpAny_bind (drawn_is ho hd hf ?_)
 have two:∀(h0:Heap),h0.objs.size=s.heap.objs.size->L∉[s.heap.objs.size,S]:=fun h0 _ z=>by
  rcases List.mem_cons.mp z with z|z
  ·exact absurd z (Nat.ne_of_lt lL)
  ·exact hL (List.mem_singleton.mp z)
 by_cases c:(!w.params.followText "set-order"&&(!t.plain&&decide (es.size>1)))=true
 ·rw[if_pos c]
  refine wpAny_bind (zi9 _ _ _ _ (List.length_range ..) fun ps dr pp=>?_)
  have pl:ps.length=es.size:=by rw[pp.length_eq,List.length_range]
  refine wpAny_bind (wpAny_newTuple ?_ (by rw[List.length_map,pl,sizeLine_eq];lia))
  have g1:=Heap.get?_push_of_some (PyProof.Rows.seqObj "tuple" (ps.map fun(i:Nat)=>rawInt i).toArray 0) ho
  refine wpAny_bind (wpAny_setEpoch_of g1 hd hf ?_)
  refine wpAny_bind (wpAny_newObj_type (wpAny_pure ⟨_,rfl,"set_iterator",_,⟨_,Heap.get?_push_size _ rfl,rfl⟩,si_slot.lookup,?_⟩))
  have sz:(s.heap.push (PyProof.Rows.seqObj "tuple" (ps.map fun(i:Nat)=>rawInt i).toArray 0)).objs.size=s.heap.objs.size+1:=PyProof.Rows.size_push' ..
  refine k _ [_,S,s.heap.objs.size] [_] _ (ps.map fun p=>(es.getD p (0,.none)).2) _ dr (zl4 (T:=s.heap.objs.size) (I:=(s.heap.push (PyProof.Rows.seqObj "tuple" (ps.map fun(i:Nat)=>rawInt i).toArray 0)).objs.size) hh (by rw[sz];exact Nat.ne_of_lt (Nat.lt_succ_of_lt lS)) (by rw[sz];exact Nat.ne_of_lt (Nat.lt_succ_self _)) hd hf pp) (fun b hb=>by rw[List.mem_singleton.mp hb,sz];exact Nat.le_succ _) (fun z=>?_) (fun b u e=>Heap.get?_push_of_some _ (Heap.get?_push_of_some _ e))
   ⟨⟨_,Heap.get?_push_size _ rfl,rfl,by simp[rawInt]⟩,Heap.get?_push_of_some _ g1,⟨_,Heap.get?_push_of_some _ (Heap.get?_push_size _ rfl),rfl,0,by simp[PyProof.Rows.seqObj,rawInt]⟩⟩ (zoe hel hp ?_) (by rw[List.length_map,pl];exact b24)
  ·rw[sz]at z
   rcases List.mem_cons.mp z with z|z
   ·exact absurd z (Nat.ne_of_lt (Nat.lt_succ_of_lt lL))
   ·rcases List.mem_cons.mp z with z|z
    ·exact hL z
    ·exact absurd (List.mem_singleton.mp z) (Nat.ne_of_lt lL)
  ·refine(pp.map _).trans ?_
   have:(List.range es.size).map (fun p=>(es.getD p (0,.none)).2)=es.toList.map (·.2):=by
    refine List.ext_getElem? fun i=>?_
    by_cases hi:i<es.size
    ·simp[hi,Array.getD]
    ·simp[hi]
   rw[this]
 ·rw[if_neg c]
  refine wpAny_bind (wpAny_pure ?_)
  refine wpAny_bind (wpAny_setEpoch_of ho hd hf ?_)
  refine wpAny_bind (wpAny_newObj_type (wpAny_pure ⟨_,rfl,"set_iterator",_,⟨_,Heap.get?_push_size _ rfl,rfl⟩,si_slot.lookup,?_⟩))
  by_cases bt:w.params.followText "set-order"=true
  ·have pp:=zoP (w.params.setOrder S ep) es
   exact k _ [_,S] [_] _ _ _ s.drawn (zm7 hh (Nat.ne_of_lt lS) hd hf bt) (fun b hb=>by rw[List.mem_singleton.mp hb];exact Nat.le_refl _) (two s.heap rfl) (fun b u e=>Heap.get?_push_of_some _ e) ⟨⟨_,Heap.get?_push_size _ rfl,rfl,by simp[rawInt]⟩,Heap.get?_push_of_some _ ho⟩ (zoe hel hp (pp.map _)) (by rw[List.length_map,pp.length_eq,Array.length_toList];exact b24)
  ·have bt:w.params.followText "set-order"=false:=by simpa using bt
   rw[bt]at c
   have le:t.led=true:=by rw[ex.led,bt];rfl
   exact k _ [_,S] [_] _ _ _ s.drawn (znD hh (Nat.ne_of_lt lS) hd hf bt (by simpa using c) ex le) (fun b hb=>by rw[List.mem_singleton.mp hb];exact Nat.le_refl _) (two s.heap rfl) (fun b u e=>Heap.get?_push_of_some _ e) ⟨⟨_,Heap.get?_push_size _ rfl,rfl,by simp[rawInt,zcR]⟩,Heap.get?_push_of_some _ ho⟩ (zoe hel hp (List.Perm.refl _)) (by rw[List.length_map,Array.length_toList];exact b24)
end
end HT
namespace HT
open PySem
open PyProof.Rows (IntsAre step_dedup firstMet)
section
variable {prog:Program} {w:World} {A:Around} {E:Value->Shared->Prop} {s:Shared}
theorem hint_set {d:Addr}{Q:Bool->Shared->Prop}(hT:s.TypeIs (.ref d) "set")(h:Q false s):wpAny (model prog w) A (Builtin.List.listLengthHint (.ref d)) Q E s:=by
 unfold Builtin.List.listLengthHint
 refine wpAny_bind (wpAny_specialOf hT F.slot_set_len.lookup ?_)
 generalize hz:("set.__len__":String)=z
 wp_delta
 rw[show splitId z=some ("set","__len__")from by subst hz;decide+kernel]
 subst hz
 refine wpAny_bind (wpAny_isInstance (T:="set") (b:=true) hT (by rw[isSubtype_type];kernel_rfl) ?_)
 refine wpAny_ite_split (fun u=>absurd u (by decide)) (fun _=>?_)
 refine wpAny_ite_split (fun _=>?_) (fun u=>absurd (by decide+kernel) u)
 exact wpAny_bind (wpAny_typeOf hT (wpAny_pure h))
theorem zn3 {S:Addr}{vs:List Int}(hh:A.handled=none)(sw:SW prog w (w.params.followText "set-order") s.heap S vs):Gives prog w A S (OrdOf vs) s:=by
 obtain⟨o,es,ep,t,ho,hx,r⟩:=id sw
 refine zm0 (T:="set") ⟨o,ho,hx.1⟩ (by decide) (by decide) ?_ fun s' Q E hT q=>hint_set hT q
 refine znB (show A.in1.handled=none from hh) (sw.at fun o e=>Heap.get?_push_of_some _ e) (Nat.ne_of_gt (Heap.lt_size ho)) ?_
 rw[PyProof.Rows.size_push'];exact Nat.lt_succ_self _
end
noncomputable def insI (x:Int):List Int->List Int
 |[]=>[x]
 |y::l=>if x<y then x::y::l else if x=y then y::l else y::insI x l
noncomputable def usrt (ns:List Int):List Int:=ns.foldr insI []
theorem mem_insI {x z:Int}:∀{l:List Int},z∈insI x l↔z=x\/z∈l
 |[]=>by simp[insI]
 |y::l=>by
  unfold insI
  split
  ·simp
  ·split
   ·rename_i e;subst e;simp
   ·rw[List.mem_cons,mem_insI,List.mem_cons];grind
theorem zoV {x:Int}:∀{l:List Int},l.Pairwise (· < ·)->(insI x l).Pairwise (· < ·)
  |[],_=>by simp[insI]
  |y::l,h=>by
    have h':=List.pairwise_cons.mp h
    unfold insI
    split
    . rename_i c
      refine List.pairwise_cons.mpr ⟨fun z hz=>?_,h⟩
      rcases List.mem_cons.mp hz with rfl|hz
      . exact c
      . have:=h'.1 z hz;lia
    . split
      . exact h
      . refine List.pairwise_cons.mpr ⟨fun z hz=>?_,zoV h'.2⟩
        rcases mem_insI.mp hz with rfl|hz
        . lia
        . exact h'.1 z hz
theorem zgX {z:Int}:∀{ns:List Int},z∈usrt ns↔z∈ns
 |[]=>by simp[usrt]
 |n::ns=>by
  show z∈insI n (usrt ns)↔_
  rw[mem_insI,zgX,List.mem_cons]
theorem ziF:∀ns:List Int,(usrt ns).Pairwise (· < ·)
  |[]=>List.Pairwise.nil
  |n::ns=>zoV (ziF ns)
theorem eq_up:∀{l m:List Int},l.Pairwise (· < ·)->m.Pairwise (· < ·)->(∀z,z∈l↔z∈m)->l=m
  |[],[],_,_,_=>rfl
  |[],y::m,_,_,h=>absurd ((h y).mpr List.mem_cons_self) List.not_mem_nil
  |x::l,[],_,_,h=>absurd ((h x).mp List.mem_cons_self) List.not_mem_nil
  |x::l,y::m,hl,hm,h=>by
    have a:=List.pairwise_cons.mp hl
    have b:=List.pairwise_cons.mp hm
    have e:x=y:=by
      have h1:=List.mem_cons.mp ((h x).mp List.mem_cons_self)
      have h2:=List.mem_cons.mp ((h y).mpr List.mem_cons_self)
      rcases h1 with z|z
      . exact z
      . rcases h2 with y'|y'
        . exact y'.symm
        . have:=a.1 y y';have:=b.1 x z;lia
    subst e
    congr 1
    refine eq_up a.2 b.2 fun z=>?_
    have hz:=h z
    rw[List.mem_cons,List.mem_cons]at hz
    constructor
    . intro q
      have:=a.1 z q
      rcases hz.mp (.inr q)with e|e
      . lia
      . exact e
    . intro q
      have:=b.1 z q
      rcases hz.mpr (.inr q)with e|e
      . lia
      . exact e
theorem zgJ:∀(l acc:List Int),acc.Nodup->(l.foldl step_dedup acc).Nodup
 |[],acc,h=>h
 |x::l,acc,h=>by
  refine zgJ l _ ?_
  unfold step_dedup
  split
  ·exact h
  ·rename_i c
   rw[List.nodup_append]
   refine⟨h,by simp,fun a ha b hb e=>c ?_⟩
   rw[List.mem_singleton.mp hb]at e
   subst e
   exact List.any_eq_true.mpr ⟨a,ha,beq_self_eq_true _⟩
end HT
namespace M
open L2 PySem PySem.Spec
open PyProof.Rows hiding St
noncomputable def swO (P:Program)(w:World)(a:Addr)(vs:List Int):HO:= .ext fun h=>HT.SW P w (w.params.followText "set-order") h a vs
theorem swO_ok {P:Program}{w:World}{H:Hp}{h:Heap}{a:Addr}{vs:List Int}(x:HT.SW P w (w.params.followText "set-order") h a vs):ObjOk P w H h a (swO P w a vs):=
 ⟨x,let⟨o,_,_,_,e,_⟩:=x;⟨o,e⟩,fun _ _ z k=>z.at k⟩
noncomputable def rSet (X:Cx):List V->Hp->VK->Prop:=fun xs H Q=>∃(l:Addr) (ns:List Int),xs=[.ref l]/\(SqL X.K H l (ns.map V.int)\/SqT X.K H l (ns.map V.int))/\ns.length<4095/\∀p,H p=none->Q (.ref p) (upd H p (swO X.prog X.w p (ns.foldl step_dedup [])))
theorem zim (ns:List Int):firstMet (fun i=>ns.getD i 0) ns.length=ns.foldl step_dedup []:=by
 unfold firstMet
 congr 1
 refine List.ext_getElem? fun i=>?_
 by_cases h:i<ns.length
 ·simp[h]
 ·simp[h]
theorem zn8 {X:Cx}(hc:X.calm=true):zeb X (.type "set") (rSet X):=by
 intro pins s σ H xs us Q I r h
 obtain⟨l,ns,rfl,hq,hl,q⟩:=h
 obtain⟨u,rfl,rx⟩:=zgP r
 cases rx
 have ini:HT.Inits X.prog X.w X.A X.xe s l (ns.foldl step_dedup []):=by
  have sb:scanBound=4096:=rfl
  rcases hq with hq|hq
  ·obtain⟨its,r',pl,hz⟩:=I.list hq
   have hi:=zbI r'
   have:=HT.zoC (prog:=X.prog) (w:=X.w) (E:=X.xe) (I.ok.hd hc) pl.isList (ns:=ns) (by simpa using hi) (by rw[List.size_toArray,hi.length];lia)
   rwa[List.size_toArray,hi.length,zim]at this
  ·obtain⟨its,r',pl,hz⟩:=I.tuple hq
   have hi:=zbI r'
   have:=HT.zo3 (prog:=X.prog) (w:=X.w) (E:=X.xe) (I.ok.hd hc) pl (ns:=ns) (by simpa using hi) (by rw[List.size_toArray,hi.length];lia)
   rwa[List.size_toArray,hi.length,zim]at this
 refine HT.zox ini fun h' tk sw kp=>?_
 exact⟨.ref s.heap.objs.size,_,I.laid (t':=tk) (o:=swO X.prog X.w s.heap.objs.size (ns.foldl step_dedup [])) (fun b o e=>kp b o (Heap.lt_size e) e) (Nat.le_refl _) (swO_ok sw),rfl,q _ (I.hok.fresh (Nat.le_refl _))⟩
noncomputable def rSrtS (X:Cx):List V->Hp->VK->Prop:=fun xs H Q=>∃(p:Addr) (vs:List Int),xs=[.ref p]/\H p=some (swO X.prog X.w p vs)/\vs.Nodup/\vs.length<64/\∀l,H l=none->Q (.ref l) (upd H l (.lst ((HT.usrt vs).map V.int)))
theorem zd9:∀{vs:List Value} {ns:List Int},IntsAre vs ns->vs.map HT.keyI=ns
 |_,_,.nil=>rfl
 |_,_,.cons n t h=>by rw[List.map_cons,zd9 h];rfl
theorem zfl:∀{its:List Value} {ns:List Int},IntsAre its ns->Vals (ns.map V.int) its
 |_,_,.nil=> .nil
 |_,_,.cons n t h=> .cons ⟨t,rfl⟩ (zfl h)
theorem out_usrt {ord:List Value}{ns vs:List Int}(hi:IntsAre ord ns)(hp:ns.Perm vs)(nd:vs.Nodup):(HT.outA ord (HT.zcd (ns.map fun n=>[n]))).map HT.keyI=HT.usrt vs:=by
 have hl:ord.length=ns.length:=hi.length
 have o:=HT.zfF (ns.map fun n=>[n])
 have pm:=zdg (n:=ord.length) o
 have km:(HT.outA ord (HT.zcd (ns.map fun n=>[n]))).map HT.keyI=(srt ord.length (HT.zcd (ns.map fun n=>[n]))).map fun i=>ns.getD i 0:=by
  unfold HT.outA
  rw[List.map_map]
  refine List.map_congr_left fun i hi'=>?_
  have lt:i<ord.length:=List.mem_range.mp (pm.mem_iff.mp hi')
  rw[<-zd9 hi]
  simp[lt]
 rw[km]
 have pn:((srt ord.length (HT.zcd (ns.map fun n=>[n]))).map fun i=>ns.getD i 0).Perm ns:=by
  refine(pm.map _).trans ?_
  rw[hl]
  have:(List.range ns.length).map (fun i=>ns.getD i 0)=ns:=by
   refine List.ext_getElem? fun i=>?_
   by_cases h:i<ns.length
   ·simp[h]
   ·simp[h]
  rw[this]
 refine HT.eq_up ?_ (HT.ziF vs) fun z=>by rw[(pn.trans hp).mem_iff,HT.zgX]
 have nd2:=(pn.trans hp).nodup_iff.mpr nd
 rw[List.pairwise_iff_getElem]
 intro i j hi' hj ij
 have ne:=List.pairwise_iff_getElem.mp (List.nodup_iff_pairwise_ne.mp nd2) i j hi' hj ij
 rw[List.length_map]at hi' hj
 have up:=srt_up o (Nat.le_of_lt ij) (List.getElem?_eq_getElem hi') (List.getElem?_eq_getElem hj)
 rw[List.getElem_map,List.getElem_map]at ne ⊢
 have l1:(srt ord.length (HT.zcd (ns.map fun n=>[n])))[i]<ns.length:=by rw[<-hl];exact List.mem_range.mp (pm.mem_iff.mp (List.getElem_mem _))
 have l2:(srt ord.length (HT.zcd (ns.map fun n=>[n])))[j]<ns.length:=by rw[<-hl];exact List.mem_range.mp (pm.mem_iff.mp (List.getElem_mem _))
 generalize (srt ord.length (HT.zcd (ns.map fun n=>[n])))[i]=a at*
 generalize (srt ord.length (HT.zcd (ns.map fun n=>[n])))[j]=b at*
 unfold HT.zcd at up
 rw[HT.zbw (x:=[ns.getD b 0]) (by simp[l2]),HT.zbw (x:=[ns.getD a 0]) (by simp[l1]),HT.zdW]at up
 by_cases z:ns.getD b 0=ns.getD a 0
 ·exact absurd z.symm ne
 ·rw[if_neg z]at up
  have:=of_decide_eq_false up
  lia
theorem zkx {X:Cx}(hc:X.calm=true):zeb X (.builtin "sorted") (rSrtS X):=by
 intro pins s σ H xs us Q I r h
 obtain⟨p,vs,rfl,hp,nd,h64,q⟩:=h
 obtain⟨u,rfl,rx⟩:=zgP r
 cases rx
 have sw:HT.SW X.prog X.w (X.w.params.followText "set-order") s.heap p vs:=(show ObjOk X.prog X.w H s.heap p (swO X.prog X.w p vs)from I.hok p _ hp).1
 refine HT.sortedW (P:=HT.OrdOf vs) (lt:=fun ord=>HT.zcd ((ord.map HT.keyI).map fun n=>[n])) (fun _ _=>HT.zfF _) (HT.zn3 (I.ok.hd hc) sw) (fun ord ⟨ns,hi,pn⟩=>by rw[hi.length,pn.length_eq];exact h64) (fun ord ⟨ns,hi,pn⟩ h2 h' tk dr k=>?_) (fun ord h' tk dr l n ⟨ns,hi,pn⟩ k lz gl=>?_)
 ·rw[zd9 hi]
  exact HT.zhm hi h2
 ·rw[zd9 hi]at gl
  have iu:IntsAre (HT.outA ord (HT.zcd (ns.map fun n=>[n]))) (HT.usrt vs):=by
   rw[<-out_usrt hi pn nd]
   refine HT.zjO fun v hv=>?_
   unfold HT.outA at hv
   obtain⟨i,hi',rfl⟩:=List.mem_map.mp hv
   have lt:i<ord.length:=List.mem_range.mp ((zdg (HT.zfF _)).mem_iff.mp hi')
   obtain⟨t,e⟩:=hi.int_at i ord[i] (List.getElem?_eq_getElem lt)
   exact⟨_,t,by rw[HT.zbw (List.getElem?_eq_getElem lt)];exact e⟩
  refine⟨.ref l,upd H l (.lst ((HT.usrt vs).map V.int)),(I.laid (t':=tk) k lz ?_).dr,rfl,q _ (I.hok.fresh lz)⟩
  refine⟨?_,_,n,zfl iu,gl⟩
  rw[List.length_map,<-iu.length,HT.zjV (HT.zfF _),hi.length,pn.length_eq,sizeLine_eq];lia
noncomputable def oSrtS (m:ME):MO:=fun ρ=>(m ρ).bind fun p=>match p.1 with
 | .lst ds=>(zaG ds).bind fun ns=>if ns.length<64 then some ((HT.usrt ns).map .int,p.2)else none
 | .tup ds=>(zaG ds).bind fun ns=>if ns.length<64 then some ((HT.usrt ns).map .int,p.2)else none
 |_=>none
theorem zi7 (ns:List Int):HT.usrt (ns.foldl step_dedup [])=HT.usrt ns:=HT.eq_up (HT.ziF _) (HT.ziF _) fun z=>by
 rw[HT.zgX,HT.zgX]
 have:=firstMet_any (fun i=>ns.getD i 0) ns.length z
 rw[zim]at this
 have e:(List.range ns.length).map (fun i=>ns.getD i 0)=ns:=by
  refine List.ext_getElem? fun i=>?_
  by_cases h:i<ns.length
  ·simp[h]
  ·simp[h]
 rw[e,Bool.eq_iff_iff,List.any_eq_true,List.any_eq_true]at this
 simpa using this
theorem znq {X:Cx}{e:Expr}{m:ME}{p q pos pos':Pos}(hc:X.calm=true)(ml:X.mg "sorted"=none)(ms:X.mg "set"=none)(h:SE X e m)(hg:autoParam (Gl X "sorted") zu2._auto_1)(hg2:autoParam (Gl X "set") zu2._auto_1)
  (he:autoParam (starEach [Expr.Call (.Name "set" q) [e] [] pos'] X.env=(false,eval (.Call (.Name "set" q) [e] [] pos') X.env)::starEach [] X.env) zu2._auto_1) (he2:autoParam (starEach [e] X.env=(false,eval e X.env)::starEach [] X.env) zu2._auto_1) (hpl:autoParam ((backTo pos (starEach [] X.env)).any (·.1)=false) zu2._auto_1) (hpl2:autoParam ((backTo pos' (starEach [] X.env)).any (·.1)=false) zu2._auto_1)
  (hb:autoParam (bootBuiltins "sorted"=some (.builtin "sorted")) zu7._auto_1):SO X (.Call (.Name "sorted" p) [.Call (.Name "set" q) [e] [] pos'] [] pos) (oSrtS m):=by
 obtain⟨t,pe,so⟩:=h
 refine⟨_,zfW (zkx hc) hg ml hb (za7 (zfo (zn8 hc) hg2 ms zmW (za7 pe zcQ he2) (by decide) (by decide) he2 hpl2) zcQ he) (by decide) (by decide) he hpl,fun B G H σ ρ ds ρ' Q I hm k=>?_⟩
 obtain⟨⟨d1,ρ1⟩,e1,hm⟩:=zag hm
 refine so B G H σ ρ d1 ρ1 _ I e1 fun G1 H1 v I1 f1 r1=>?_
 match d1,hm with
 | .lst es,hm=>
  obtain⟨ns,e2,hm⟩:=zag hm
  split at hm
  ·rename_i h64
   cases hm
   cases zba e2
   obtain⟨a,xs,rfl,ha,rr⟩:=r1
   have ex:xs=ns.map V.int:=RepL.ints_eq rr
   subst ex
   refine⟨a,ns,rfl,.inl (SqL.of (I1.fz _ _ ha)),by lia,fun p hp=>⟨p,_,rfl,zas,HT.zgJ _ _ List.nodup_nil,?_,fun l h0=>?_⟩⟩
   ·have:=firstMet_length_le (fun i=>ns.getD i 0) ns.length
    rw[zim]at this;lia
   ·obtain⟨I2,g2,h2,b2,n2⟩:=(I1.allocO hp (swO X.prog X.w p (ns.foldl step_dedup []))).newO h0 ((HT.usrt (ns.foldl step_dedup [])).map V.int)
    refine k G1 _ l _ I2 f1 g2 h2 ?_ b2 n2
    rw[zi7];exact RepL.ints _
  ·cases hm
 | .tup es,hm=>
  obtain⟨ns,e2,hm⟩:=zag hm
  split at hm
  ·rename_i h64
   cases hm
   cases zba e2
   obtain⟨a,xs,rfl,ha,rr⟩:=r1
   have ex:xs=ns.map V.int:=RepL.ints_eq rr
   subst ex
   refine⟨a,ns,rfl,.inr (SqT.of (I1.fz _ _ ha)),by lia,fun p hp=>⟨p,_,rfl,zas,HT.zgJ _ _ List.nodup_nil,?_,fun l h0=>?_⟩⟩
   ·have:=firstMet_length_le (fun i=>ns.getD i 0) ns.length
    rw[zim]at this;lia
   ·obtain⟨I2,g2,h2,b2,n2⟩:=(I1.allocO hp (swO X.prog X.w p (ns.foldl step_dedup []))).newO h0 ((HT.usrt (ns.foldl step_dedup [])).map V.int)
    refine k G1 _ l _ I2 f1 g2 h2 ?_ b2 n2
    rw[zi7];exact RepL.ints _
  ·cases hm
end M
namespace M
open L2 PySem
noncomputable def znW (f g h:D->D->Option D)(a b c d:ME):ME:=fun ρ=>(a ρ).bind fun p=>(b p.2).bind fun q=>(f p.1 q.1).bind fun t=>match t with
 | .bl true=>(c q.2).bind fun r=>(g q.1 r.1).bind fun t'=>match t' with
  | .bl true=>(d r.2).bind fun s=>(h r.1 s.1).map fun x=>(x,s.2)
  | .bl false=>some (.bl false,r.2)
  |_=>none
 | .bl false=>some (.bl false,q.2)
 |_=>none
noncomputable def oMv (i:Nat):MO:=fun ρ=>match ρ[i]? with
 |some (.own ds)=>some (ds,ρ.set i .emp)
 |_=>none
theorem so_mv {X:Cx}(i:Nat){x:Str}{pos':Pos}(hN:autoParam (X.N[i]? =some x) zu2._auto_1)(hv:autoParam (Vis X.env.scope x) zu5._auto_1)(hd:autoParam ((x==("__debug__":Str))=false) zu1._auto_1)
  (hcd:autoParam ((x==("__classdict__":Str))=false) zu1._auto_1):SO X (.Name x pos') (oMv i):=by
 refine⟨_,zcX hN hv hd hcd,fun B G H σ ρ ds ρ' Q I hm k=>?_⟩
 unfold oMv at hm
 split at hm
 ·rename_i ds' e
  cases hm
  obtain⟨l,xs,h1,h2,h3,h4,h5⟩:=I.slot i _ e
  exact⟨.ref l,h1,k G H l xs (I.emp i) (Fz.refl G) h2 h3 h4 h5 (nw_emp I e (by first|exact h1|exact⟨_,h1,rfl⟩|(unfold OwS;exact h1)))⟩
 ·cases hm
end M
namespace M
open L2 PySem PySem.Spec
open PyProof.Rows hiding St
open Classical in
noncomputable abbrev MG:=R->Option (R×R)
end M
namespace M
open L2 PySem PySem.Spec
open PyProof.Rows hiding St
noncomputable def eItU (j n:Nat):ME:=fun ρ=>match ρ[j]? with
 |some (.tre (.tup cs))=>match cs[n]? with
  |some (.d y)=>some (y,ρ)
  |_=>none
 |_=>none
section
variable {X:Cx} {y:Str} {pos p':Pos}
theorem se_itU (j n:Nat){ipos:Pos}{j1}(hN:autoParam (X.N[j]? =some y) zu2._auto_1)(hv:autoParam (Vis X.env.scope y) zu5._auto_1)(hd:autoParam ((y==("__debug__":Str))=false) zu1._auto_1)
    (hcd:autoParam ((y==("__classdict__":Str))=false) zu1._auto_1) (hsi:autoParam (zgF (.Constant (.int n) j1 ipos)) zu6._auto_1):SE X (.Subscript (.Name y p') (.Constant (.int n) j1 ipos) pos) (eItU j n):=by
  refine⟨_,znr ix_tup (zcX hN hv hd hcd) zkW hsi,fun B G H σ ρ d ρ' Q I hm k=>?_⟩
  unfold eItU at hm
  split at hm
  . rename_i cs e1
    split at hm
    . rename_i z e2
      cases hm
      obtain⟨v,A,h1,h2,h3,h4⟩:=I.slot j _ e1
      obtain⟨p,xs,A',rfl,g1,g2,rfl⟩:=h2
      obtain⟨w,A1,q1,⟨q2,-⟩,-⟩:=zfC g2 e2
      have at1:atI xs (n:Int)=some w:=by
        obtain⟨hlt,hx⟩:=List.getElem?_eq_some_iff.mp q1
        unfold atI ixN
        simp[hlt,hx]
      exact⟨.ref p,h1,p,xs,n,w,rfl,rfl,SqT.of g1,at1,k G H w I (Fz.refl G) q2⟩
    . cases hm
  . cases hm
end
noncomputable abbrev MXG:=R->Option (Str×R)
end M
namespace L2
open PyProof.Rows PySem PySem.Spec
open PySem.W (tabObj CodeHd kla_fn kla_obj codeHdIn)
theorem tabP.det {K:W.Frag}{mg:Str->Option Value}{P P':Addr}{q q':Str}(h:tabP K mg P q)(h':tabP K mg P' q'):P=P'/\q=q':=by
 obtain⟨f,o,fd,c,oc,vs,a1,a2,a3,a4,a5,a6,a7,a8,rfl⟩:=h
 obtain⟨f',o',fd',c',oc',vs',b1,b2,b3,b4,b5,b6,b7,b8,rfl⟩:=h'
 rw[a1]at b1;cases b1
 rw[a2]at b2;cases b2
 rw[a3]at b3;cases b3
 rw[a4]at b4;cases b4
 rw[a5]at b5;cases b5
 rw[a6]at b6;cases b6
 rw[a7]at b7;cases b7
 exact⟨rfl,rfl⟩
theorem zpB {pos:Pos}{cv z:Value}{a b:Int}(l:List Value)(ht:TriplesOk l)(h:codeAmong pos (l++[rawInt a,rawInt b,z])=some cv):codeAmong pos l=some cv\/cv=z:=by
 fun_induction TriplesOk l with
 |case1=>
  right
  simp only[List.nil_append,rawInt,codeAmong]at h
  split at h
  ·cases h;rfl
  ·cases h
 |case2 _ _ _ _ _ r ih=>
  simp only[List.cons_append,codeAmong]at h ⊢
  split at h
  ·rename_i q;rw[if_pos q];exact .inl h
  ·rename_i q;rw[if_neg q];exact ih ht h
 |case3=>exact ht.elim
inductive Grows (H:Hp):Hp->Prop
 |refl:Grows H H
 |step {H1:Hp} {a:Addr} {o:HO}:Grows H H1->H1 a=none->Grows H (upd H1 a o)
theorem Grows.old {H H':Hp}(g:Grows H H'){b:Addr}{o:HO}(e:H b=some o):H' b=some o:=by
 induction g with
 |refl=>exact e
 |step g n ih=>rw[zap (zax ih n)];exact ih
structure LamAt (H:Hp) (f:Addr) (params:Arguments) (body:Expr) (scope:Scope) (clos:List (Str×Addr)) (q:Str):Prop where
 ex:∃fo u c' oc u2 vs t pm ctv,H f=some (.frz fo u)/\fo=kla_obj "<lambda>" q params body scope clos pm c' ctv/\H c'=some (.frz oc u2)/\oc.data= .fields vs/\vs[1]? =some (.str q t)
theorem LamAt.old {H H':Hp}{f:Addr}{params:Arguments}{body:Expr}{scope:Scope}{clos:List (Str×Addr)}{q:Str}(l:LamAt H f params body scope clos q)(k:∀b o u,H b=some (.frz o u)->H' b=some (.frz o u)):LamAt H' f params body scope clos q:=
 let⟨fo,u,c',oc,u2,vs,t,pm,ctv,a1,a2,a3,a4⟩:=l.ex
 ⟨fo,u,c',oc,u2,vs,t,pm,ctv,k _ _ _ a1,a2,k _ _ _ a3,a4⟩
theorem lam_make {X:Cx}{pins:List (Addr×Obj)}{σ:St}{H:Hp}{s:Shared}{params:Arguments}{body:Expr}{scope:Scope}{pos:Pos}{clos:List (Str×Addr)}{P c:Addr}{q:Str}{Q:Value->Shared->Prop}{E:Value->Shared->Prop}
  (I:Inv X pins σ H s) (hT:tabP X.K X.mg P q) (hc:X.env.code= .ref c) (hC:codeHdIn X.K c P=true) (hq:X.env.qual++"<lambda>"=q) (hcl:closureFor scope X.env=pure clos) (hdef:defaultsOf params X.env=([],[]))
  (h:∀f H' s',Grows H H'->Inv X pins σ H' s'->LamAt H' f params body scope clos q->Q (.ref f) s'):
  wpAny (model X.prog X.w) X.A (eval (.Lambda params body scope pos) X.env) Q E s:=by
 obtain⟨tk0,hP⟩:=I.tab P q hT
 obtain⟨q',tk,qs,z,e,tr,al⟩:=I.hok P _ hP
 have zz:q'=q:=by
  have:=congrArg (fun a=>a[0]?) z
  simp only[List.getElem?_toArray,List.getElem?_cons_zero,Option.some.injEq,Value.str.injEq]at this
  exact this.1.symm
 subst zz
 have C:CodeHd s.heap c P:=W.codeHd_of_K I.kIn hC
 have hgs:=I.mod.glob.keeps I.bk
 obtain⟨bm,ob,b1,b2,b3,b4,b5,b6⟩:=I.mod.bmain
 have b3':=I.bk _ _ b3
 have hgP:mainGlobals≠P:=fun w=>by
  obtain⟨o,es,ep,e1,hd,_⟩:=hgs
  rw[w,e]at e1;cases e1;cases hd
 have hbP:bm≠P:=fun w=>by rw[w,e]at b3';cases b3';cases b4
 have hbG:bm≠mainGlobals:=fun w=>by
  obtain⟨o,es,ep,e1,hd,_⟩:=hgs
  rw[<-w,b3']at e1;cases e1;rw[b6]at hd;cases hd
 have nP:∀b,H b=none->b≠P:=fun b n w=>by rw[w,hP]at n;cases n
 refine W.kla_eval hdef ?_
 rw[hq]
 cases hA:codeAmong pos qs.toList with
 |some cv=>
  obtain⟨c',oc,vs,t,rfl,⟨u,hc'⟩,hd,hv⟩:=al pos cv hA
  refine W.kla_makeFunctionHit (mg:=X.mg) hcl I.ok.glob hgs hc C e tr hA ⟨bm,ob,b1,b2,hbG,hbP,b3',b4,b5,b6⟩ fun ctv h' tk' hk hsz=>?_
  have nf:H h'.objs.size=none:=I.hok.fresh hsz
  refine h _ (upd H h'.objs.size (.frz _ (.own 0))) _ (.step .refl nf) (I.laid (t':=tk') (fun b u e=>Heap.get?_push_of_some _ (hk b u e)) hsz ⟨Heap.get?_push_size _ rfl,_,Heap.get?_push_size _ rfl⟩) ⟨_,_,c',oc,u,vs,t,_,ctv,zas,rfl,by rw[zap (zax hc' nf)];exact hc',hd,hv⟩
 |none=>
  refine W.kla_makeFunction (mg:=X.mg) hcl I.ok.glob hgs hc C e tr hA hgP ⟨bm,ob,b1,b2,hbG,hbP,b3',b4,b5,b6⟩ fun c' ctv h' tk' hx hge hlt hrec htb=>?_
  obtain⟨c2,oc,vs,t,e2,hoc,hd,hv⟩:=hrec
  cases e2
  have nc:H c'=none:=I.hok.fresh hge
  have sz':s.heap.objs.size<=h'.objs.size:=Nat.le_trans hge (Nat.le_of_lt hlt)
  have nf0:H h'.objs.size=none:=I.hok.fresh sz'
  have fc:h'.objs.size≠c':=Nat.ne_of_gt hlt
  have nf:(upd H c' (.frz oc (.own 0))) h'.objs.size=none:=by rw[zap fc];exact nf0
  have k1:∀(fo:Obj) b o,b≠P->s.heap.get? b=some o->(h'.push fo).get? b=some o:=fun fo b o nb e=>Heap.get?_push_of_some _ (hx b o nb e)
  have out:∀(fo:Obj) b,b<s.heap.objs.size->(upd (upd H c' (.frz oc (.own 0))) h'.objs.size (.frz fo (.own 0))) b=H b:=fun fo b hb=>by
   rw[zap (Nat.ne_of_lt (Nat.lt_of_lt_of_le hb sz')),zap (Nat.ne_of_lt (Nat.lt_of_lt_of_le hb hge))]
  have trk:∀b u,H b=some u->b<s.heap.objs.size:=fun b u e=>I.hok.lt e
  refine h _ (upd (upd H c' (.frz oc (.own 0))) h'.objs.size (.frz (kla_obj "<lambda>" q' params body scope clos ((X.mg "__name__").getD .none) c' ctv) (.own 0))) _ (.step (.step .refl nc) nf)
   (I.step (g' := s.gens) (d' := s.drawn) (t' := tk') (ch := []) (fun _ z => nomatch z) (fun b o _ _ _ e n => k1 _ b o (nP b n) e) (fun b o _ _ _ e n => ⟨o.slots, k1 _ b o (nP b n) e⟩) (fun b o _ e n => by rw [out _ b (Heap.lt_size e)]; exact n) (fun b o _ e => ?_)
    (fun b xs e=>by rw[out _ b (trk b _ e)];exact e) (fun b o u e=>by rw[out _ b (trk b _ e)];exact e) (fun b ps e=>by rw[out _ b (trk b _ e)];exact e) (fun m hm=>?_) (fun b u eb=>?_) I.bare)
   ⟨_,_,c',oc,_,vs,t,(X.mg "__name__").getD .none,ctv,zas,rfl,by rw[zap (Ne.symm fc)];exact zas,hd,hv⟩
  ·by_cases bP:b=P
   ·exact⟨_,by rw[bP];exact Heap.get?_push_of_some _ htb⟩
   ·exact⟨o,k1 _ b o bP e⟩
  ·obtain⟨o,es,ep,ho,r⟩:=hm
   exact⟨o,es,ep,k1 _ _ o (nP _ I.free) ho,r⟩
  ·by_cases bf:b=h'.objs.size
   ·subst bf;rw[zas]at eb;cases eb;exact⟨Heap.get?_push_size _ rfl,_,Heap.get?_push_size _ rfl⟩
   ·rw[zap bf]at eb
    by_cases bc:b=c'
    ·subst bc;rw[zas]at eb;cases eb;exact⟨Heap.get?_push_of_some _ hoc,_,Heap.get?_push_of_some _ hoc⟩
    ·rw[zap bc]at eb
     have ft:∀b o u,H b=some (.frz o u)->(upd (upd H c' (.frz oc (.own 0))) h'.objs.size (.frz (kla_obj "<lambda>" q' params body scope clos ((X.mg "__name__").getD .none) c' ctv) (.own 0))) b=some (.frz o u):=fun b o u e=>by rw[out _ b (trk b _ e)];exact e
     by_cases bP:b=P
     ·subst bP
      rw[hP]at eb;cases eb
      refine⟨q',tk0,_,rfl,Heap.get?_push_of_some _ htb,?_,fun pos' cv hcv=>?_⟩
      ·rw[Array.toList_append];exact TriplesOk_snoc _ _ _ _ tr
      ·rw[Array.toList_append]at hcv
       rcases zpB _ tr hcv with w|rfl
       ·obtain⟨c3,oc3,vs3,t3,e3,⟨u3,g3⟩,r3⟩:=al pos' cv w
        exact⟨c3,oc3,vs3,t3,e3,⟨u3,ft _ _ _ g3⟩,r3⟩
       ·exact⟨c',oc,vs,t,rfl,⟨_,by rw[zap (Ne.symm fc)];exact zas⟩,hd,hv⟩
     ·refine(I.hok b u eb).stay (fun c v hc q=>k1 _ c v ?_ q) (fun c e=>by rw[out _ c (trk c _ e)];exact e) (fun c xs e=>by rw[out _ c (trk c _ e)];exact e) ft
      rcases hc with rfl|hc
      ·exact bP
      ·intro w;rw[w,hP]at hc;cases hc
end L2
namespace M
open L2 PySem PySem.Spec
open PyProof.Rows hiding St
open PySem.W (kla_fn kla_obj envX)
noncomputable def cxL (X:Cx)(A:Around)(N:List Str)(q:Str)(scope:Scope)(f:Addr)(cd:Value)(clos:List (Str×Addr))(s:Shared)(H:Hp):Cx:=
 {X with A:=A.deeper (envX q scope s.heap.objs.size f cd clos),N:=N,s₀:=s,H₀:=H,env:=envX q scope s.heap.objs.size f cd clos,outer:=X.stack,stack:=envX q scope s.heap.objs.size f cd clos::X.stack,ex:=[],fn:=fun _=>false,calm:=true,pn:=[],xe:=fun _ _=>False}
structure LamSc (scope:Scope) (params:Arguments) (x y:Str):Prop where
 co:scope.isCoroutine=false
 gen:scope.isGenerator=false
 noc:∀z∈scope.names,z.2≠ .cell
 lx:scope.names.lookup x=some .local
 ly:scope.names.lookup y=some .free
 ne:x≠y
 bind:∀(q:Str) (body:Expr) (clos:List (Str×Addr)) (pm cd ctv u:Value),bindArgs (kla_fn "<lambda>" q params body scope clos pm cd ctv) ⟨[u],[]⟩=pure [(x,u)]
theorem lam_call {X:Cx}{A:Around}{k j:Nat}{pins:List (Addr×Obj)}{σ:St}{H:Hp}{s:Shared}{params:Arguments}{body:Expr}{scope:Scope}{q x y:Str}{f:Addr}{v vc:V}{u:Value}{Q:VK}
  (I:Inv X pins σ H s) (b:BlkOk X scope) (S:LamSc scope params x y) (hA:A.frames=some X.stack) (hr:Room (k+1) A) (L:LamAt H f params body scope (clOf scope X.env) q)
  (hj:X.N[j]? =some y) (hv:σ[j]? =some (some vc)) (rv:RelV v u)
  (ht:∀cd,∃t,PE (cxL X A [x,y] q scope f cd (clOf scope X.env) s H) body t/\t [some v,some vc] H Q):
  codeAny (model X.prog X.w) A (.call (.ref f) ⟨[u],[]⟩) (CR CX0 X.stack X.prog X.w H s Q E0) s:=by
 obtain⟨fo,u1,c',oc,u2,vs,tt,pm,ctv,a1,rfl,a3,a4,a5⟩:=L.ex
 obtain⟨g1,_⟩:=I.hok f _ a1
 obtain⟨g2,_⟩:=I.hok c' _ a3
 have my:(y,NameKind.free)∈scope.names:=zcc S.ly
 have hkind:=b.free _ my rfl
 obtain⟨m,hn,hloc'⟩:=I.loc
 have hvis:Vis X.env.scope y:=by
  rcases hkind with z|z
  ·exact .inr (.inl z)
  ·exact .inr (.inr z)
 obtain⟨uc,ruc,lk⟩:=hloc' j y vc hj hv hvis
 obtain⟨cc,ec,hcell⟩:∃c,X.env.cells.lookup y=some c/\s.heap.IsCell c (some uc):=by
  rcases lk with⟨z,_⟩|⟨_,c,ec,hc⟩
  ·exfalso
   rcases hkind with w|w<;>simp only at w<;>rw[z]at w<;>cases w
  ·exact⟨c,ec,hc⟩
 have ecl:(clOf scope X.env).lookup y=some cc:=by
  obtain⟨c2,e2⟩:=Option.isSome_iff_exists.mp (zcz (env:=X.env) (cs:=[]) (.inl my))
  have:=zcr I b e2
  rw[ec]at this;cases this;exact e2
 refine W.kla_callFunE hr.depth g1 rfl S.co S.gen rfl ⟨c',oc,vs,tt,rfl,g2,a4,a5⟩ ?_
 rw[S.bind]
 refine wpAny_pure (wpAny_newFunctionEnv S.noc (fun z hz=>by
  have:z=(x,u):=by simpa using hz
  subst this;exact S.lx) (fun h1 hns hsb=>?_) b.kind)
 have hk:∀b o,s.heap.get? b=some o->h1.get? b=some o:=fun b o e=>hsb.extBut b o (Nat.ne_of_lt (Heap.lt_size e)) (Heap.get?_push_of_some _ e)
 refine⟨I.nolimit.keeps hk,?_⟩
 show codeAny _ _ (.expr body (envX q scope s.heap.objs.size f (.ref c') (clOf scope X.env))) _ _
 obtain⟨t,pt,hq⟩:=ht (.ref c')
 have ok:(cxL X A [x,y] q scope f (.ref c') (clOf scope X.env) s H).Ok:=
  {mod:=I.ok.mod,kind:=b.kind,glob:=rfl,blt:=rfl,above:=Nat.le_refl _,
   inj:=fun x y c h1 h2=>I.ok.inj x y c (zcr I b h1) (zcr I b h2),
   has:=fun z hz=>by
    have hz:scope.names.lookup z=some .cell\/scope.names.lookup z=some .free:=hz
    rcases hz with w|w
    ·exact absurd rfl (S.noc _ (zcc w))
    ·exact Option.isSome_iff_exists.mp (zcz (env:=X.env) (cs:=[]) (.inl (zcc w))),
   cab:=fun _ _ h=>Bool.noConfusion h,
   hd:=fun _=>(hr.deeper _).hd,frames:=Around.frames_deeper hA,stk:= .inr ⟨rfl,rfl⟩,
   exf:=fun b z=>absurd (show b∈([]:List Addr)from z) (by simp),bs:=I.bs,bsz:=Nat.le_trans I.ok.bsz I.sz,
   noex:=fun b _ _ z=>absurd (show b∈([]:List Addr)from z) (by simp),exfs:=fun b z=>absurd (show b∈([]:List Addr)from z) (by simp),funs:=I.stack,frf:=⟨I.stkFree,I.tab⟩}
 have J:Inv (cxL X A [x,y] q scope f (.ref c') (clOf scope X.env) s H) [] [some v,some vc] H {s with heap:=h1,toks:=s.toks+1}:=by
  refine⟨ok,rfl,I.bare,Un.kept hk,⟨_,hns,fun i z w h1 h2 h3=>?_⟩,fun z c e=>?_,I.hok.fresh (Nat.le_refl _),fun z c e=>I.freeC z c (zcr I b e),fun p hp=>absurd (show p∈([]:List (Addr×Obj))from hp) (by simp),I.hok.kept hk,rfl⟩
  ·match i,h1,h2 with
   |0,h1,h2=>
    cases(show some x=some z from h1)
    cases(show some (some v)=some (some w)from h2)
    refine⟨u,rv,.inl ⟨S.lx,?_⟩⟩
    show List.lookup x [(x,u)]=some u
    simp
   |1,h1,h2=>
    cases(show some y=some z from h1)
    cases(show some (some vc)=some (some w)from h2)
    exact⟨uc,ruc,.inr ⟨.inr S.ly,cc,ecl,hcell.keeps hk⟩⟩
   |n+2,h1,h2=>exact absurd (show(none:Option Str)=some z from h1) (by simp)
  ·obtain⟨w,hw⟩:=I.cell z c (zcr I b e)
   exact⟨w,hw.keeps hk⟩
 refine W.kla_codeExpr (wpAny_mono (pt [] _ _ H Q J hq) (fun r s' h=>?_) fun _ _ z=>z.elim)
 obtain⟨w,H',J',rw',q'⟩:=h
 exact⟨w,H',J'.os,J'.bare,J'.base,J'.hok,rw',q'⟩
end M
namespace HT
open PySem PySem.Spec PySem.W
open PyProof.Rows (IntsAre seqObj listItems_at listUpdate_at seqEpoch_at get?_update_seq size_push' arrOf failedOf general' keyKind' SortSt ksk_tree ksk_rest ksk_end ksk_tail ksk_fold ksk_snoc collect_list)
section
variable {prog:Program} {w:World} {A:Around} {E:Value->Shared->Prop} {s:Shared}
noncomputable abbrev ltK (kz:List Int):Nat->Nat->Bool:=zcd (kz.map fun n=>[n])
theorem zpl {a kS:Addr}{keys vs:List Value}{kz:List Int}{e e1:Nat}{P:PySem.Fin->Shared->Prop}(hA:s.heap.get? a=some (seqObj "list" #[] e1))(hK:s.heap.get? kS=some (seqObj "list" keys.toArray e))(hka:kS≠a)(hk:IntsAre keys kz)(hl:keys.length=vs.length)(h64:vs.length<64)
  (h:P (.done (.ret .none)) {s with heap:=(s.heap.update kS (Obj.mapSeq fun _=>(#[]:Array Value))).update a (Obj.mapSeq fun _=>(outA vs (ltK kz)).toArray)}):wpAny (model prog w) A (ksk_end a false vs.toArray e1 (.ref kS) keys.toArray) P E s:=by
 have o:=zfF (kz.map fun n=>[n])
 have s1:=Heap.SameBut.update s.heap kS (Obj.mapSeq fun _=>(#[]:Array Value))
 have na1:(s.heap.update kS (Obj.mapSeq fun _=>(#[]:Array Value))).get? a=some (seqObj "list" #[] e1):=(s1.2 a hka.symm).trans hA
 have hz:vs.toArray.size=vs.length:=List.size_toArray ..
 have fin:∀(st:SortSt),(arrOf st).map (·.2)=(outA vs (ltK kz)).toArray->failedOf st=none->wpAny (model prog w) A (ksk_tail a false e1 (.ref kS) st) P E s:=fun st e2 f=>by
  unfold ksk_tail
  try dsimp only
  refine wpAny_bind (listUpdate_at hK rfl ?_ (by rw[List.size_toArray,sizeLine_eq];lia) (Nat.zero_le _))
  refine wpAny_bind (wpAny_letGo ?_)
  refine wpAny_bind (seqEpoch_at na1 rfl ?_)
  simp only[Bool.false_eq_true,if_false]
  rw[e2,f]
  refine wpAny_bind (listUpdate_at na1 rfl ?_ (Nat.zero_le _) (by rw[List.size_toArray,zjV o,sizeLine_eq];lia))
  simp only[bne_self_eq_false,Bool.false_eq_true,if_false]
  exact wpAny_pure h
 unfold ksk_end
 try dsimp only
 simp only[Bool.false_eq_true,if_false]
 by_cases h2:vs.length<2
 ·simp only[if_pos (show vs.toArray.size<2 by rw[hz];exact h2)]
  refine wpAny_bind (wpAny_pure ?_)
  rw[StateT.run_pure]
  refine wpAny_bind (wpAny_pure (fin _ ?_ rfl))
  unfold outA M.srt
  rw[if_pos h2,zjj]
  show((keys.toArray.zip vs.toArray).map (·.2))=_
  apply Array.toList_inj.mp
  simp[List.map_snd_zip,hl]
 ·simp only[if_neg (show ¬vs.toArray.size<2 by rw[hz];exact h2)]
  obtain⟨κ,a1,a2⟩:=zhm (prog:=prog) (w:=w) (A:=A) (s:=s) hk (by lia)
  refine wpAny_bind (a1 _ _ (wpAny_bind (wpAny_mono (kat_run (Q:=fun st s'=>s'=s/\(arrOf st).map (·.2)=(outA vs (ltK kz)).toArray/\failedOf st=none) (G:=fun p s'=>s'=s/\p=M.kRun (ltK kz) (kas_sort vs.length)) hl (by lia) h64 (fun p st s' b1 b2 b3 b4=>⟨b4.1,?_,b3⟩) (M.zn4 (n:=vs.length) (lt:=ltK kz) (fun i j C h1 h3 h=>a2 i j C (by lia) (by lia) h) (M.zjL o (by lia)) ⟨rfl,rfl⟩)) (fun r s' ⟨c1,c2,c3⟩=>?_) fun _ _ x=>x)))
  ·rw[kat_snds hl b2,b4.2]
   unfold outA M.srt
   rw[if_neg h2]
  ·subst c1
   exact fin r.2 c2 c3
end
end HT
namespace M
open L2 PySem PySem.Spec
open PyProof.Rows hiding St
section
variable {X:Cx} {pins:List (Addr×Obj)} {σ:St} {H:Hp} {s:Shared}
theorem track {h':Heap}{t':Nat}{a:Addr}{ys:List V}{its:List Value}{n:Nat}(I:Inv X pins σ H s)(hf:FpOk X pins H a)(hs:Heap.SameBut a s.heap h')(e:h'.get? a=some (seqObj "list" its.toArray n))(hv:Vals ys its)(hz:ys.length<=sizeLine):Inv X pins σ (upd H a (.lst ys)) {s with heap:=h',toks:=t'}:=by
 obtain⟨f0,f1,f2,f3,f4,f5⟩:=hf
 have k:∀b o,b≠a->s.heap.get? b=some o->h'.get? b=some o:=fun b o nb e=>hs.extBut b o nb e
 have nt:∀b u,H b=some u->b≠a:=fun b u e z=>by rw[z,f0]at e;cases e
 refine I.step (g':=s.gens) (d':=s.drawn) (ch:=[a]) (fun b hb=>?_) (fun b o _ _ hc e _=>k b o (fun z=>hc (by simp[z])) e) (fun b o _ _ hc e _=>⟨o.slots,k b o (fun z=>hc (by simp[z])) e⟩) (fun b o hc e n=>by rw[zap (fun z=>hc (by simp[z]))];exact n)
  (fun b o hc e=>⟨o,k b o (fun z=>hc (by simp[z])) e⟩) (fun b xs e=>by rw[zap (nt b _ e)];exact e) (fun b o u e=>by rw[zap (nt b _ e)];exact e) (fun b ps e=>by rw[zap (nt b _ e)];exact e) (fun m hm=>?_) (fun b u e2=>?_) I.bare
 ·have z:b=a:=by simpa using hb
  subst z
  exact⟨f3,f1,f4,f5⟩
 ·obtain⟨o,es,ep,ho,r⟩:=hm
  exact⟨o,es,ep,k _ o (Ne.symm f1) ho,r⟩
 ·by_cases z:b=a
  ·subst z
   rw[zas]at e2;cases e2
   exact⟨hz,its,n,hv,e⟩
  ·rw[zap z]at e2
   refine(I.hok b u e2).stay (fun c v hc q=>k c v ?_ q) (fun c q=>by rw[zap (nt c _ q)];exact q) (fun c xs q=>by rw[zap (nt c _ q)];exact q) fun c o u q=>by rw[zap (nt c _ q)];exact q
   rcases hc with rfl|hc
   ·exact z
   ·exact nt _ _ hc
noncomputable def Turns (X:Cx)(σ:St)(H:Hp)(f:Addr)(ys:List V)(kz:List Int):Prop:=∀(i:Nat) (v:V) (k:Int),ys[i]? =some v->kz[i]? =some k->∀(H':Hp) (pins':List (Addr×Obj)) (s':Shared) (u:Value),Grows H H'->Inv X pins' σ H' s'->RelV v u->
 codeAny (model X.prog X.w) X.A.in1.in1 (.call (.ref f) ⟨[u],[]⟩) (CR CX0 X.stack X.prog X.w H' s' (fun r H''=>r= .int k/\H''=H') E0) s'
theorem znH {xs:List V}{us:List Value}{v:V}{u:Value}(h:Vals xs us)(r:RelV v u):Vals (xs++[v]) (us++[u]):=h.append (.cons r .nil)
theorem sortK {f l:Addr}{ys:List V}{its:List Value}{kz:List Int}{Q:Value->Shared->Prop}{E:Value->Shared->Prop}(I:Inv X pins σ H s)(hl:s.heap.IsList l its.toArray)(rv:Vals ys its)(hlen:kz.length=ys.length)(h64:ys.length<64)(T:Turns X σ H f ys kz)
    (h:∀a kS s',H kS=none->(upd H kS (.lst [])) a=none->Inv X pins σ (upd (upd H kS (.lst [])) a (.lst ((srt ys.length (HT.ltK kz)).map fun i=>ys.getD i .non))) s'->Q (.ref a) s'):
    wpAny (model X.prog X.w) X.A (call (.builtin "sorted") [.ref l] [(Str.ofString "key",.ref f)]) Q E s:=by
  have hvl:=rv.length
  have hsl:its.length<=sizeLine:=by rw[sizeLine_eq];lia
  have o:=HT.zfF (kz.map fun n=>[n])
  refine call_function_entry_kw kind_sorted plain_sorted entry_sorted (ksk_s1 _ _) ?_
  unfold Builtin.«sorted»
  refine wpAny_bind (m:=checkCount "sorted" 1 1 _) (wpAny_pure ?_)
  refine wpAny_bind (collect_list hl ?_ hsl)
  refine wpAny_bind (wpAny_newList ?_ hsl)
  generalize hH1:(s.heap.push (seqObj "list" #[] 0)).update s.heap.objs.size (Obj.mapSeq (· ++its.toArray))=h1
  have sz1:h1.objs.size=s.heap.objs.size+1:=by rw[<-hH1,Heap.size_update,size_push']
  have k1:∀b o,s.heap.get? b=some o->h1.get? b=some o:=fun b o q=>by
    have hlt:b<s.heap.objs.size:=Heap.lt_size q
    rw[<-hH1,Heap.get?_update_ne _ _ _ _ (Nat.ne_of_lt hlt),Heap.get?_push_ne _ _ _ (Nat.ne_of_lt hlt)]
    exact q
  show wpAny _ _ _ _ _ {s with heap:=h1.push (seqObj "list" its.toArray 0)}
  have hoL:(h1.push (seqObj "list" its.toArray 0)).get? h1.objs.size=some (seqObj "list" its.toArray 0):=Heap.get?_push_size _ rfl
  generalize ha:h1.objs.size=a at hoL
  have as:s.heap.objs.size<=a:=by lia
  refine wpAny_bind (wpAny_holding (wpAny_call_entry_kw slot_list_sort ⟨_,hoL,rfl⟩ entry_list_sort ?_ (ksk_l1 _ _)))
  show wpAny (model X.prog X.w) X.A.in1.in1 (Builtin.«list.sort» ⟨[.ref a],[(Str.ofString "key",.ref f)]⟩) _ _ _
  rw[ksk_t1]
  unfold ksk_tree
  refine wpAny_bind (listItems_at hoL rfl ?_)
  refine wpAny_bind (listUpdate_at hoL rfl ?_ (by rw[List.size_toArray];exact hsl) (Nat.zero_le _))
  obtain⟨e1,g1⟩:∃c,((h1.push (seqObj "list" its.toArray 0)).update a (Obj.mapSeq fun _=>(#[]:Array Value))).get? a=some (seqObj "list" #[] c):=⟨_,get?_update_seq hoL fun _=> #[]⟩
  refine wpAny_bind (seqEpoch_at g1 rfl ?_)
  refine wpAny_bind (wpAny_newTuple ?_ hsl)
  refine wpAny_bind (wpAny_newList ?_ (Nat.zero_le _))
  refine wpAny_holding ?_
  generalize hH2:((h1.push (seqObj "list" its.toArray 0)).update a (Obj.mapSeq fun _=>(#[]:Array Value))).push (seqObj "tuple" its.toArray 0)=h2
  have k2:∀b o,s.heap.get? b=some o->h2.get? b=some o:=fun b o q=>by
    rw[<-hH2]
    exact Heap.get?_push_of_some _ ((Heap.get?_update_other _ _ (Nat.ne_of_gt (Nat.lt_of_lt_of_le (Heap.lt_size q) as))).trans (Heap.get?_push_of_some _ (k1 b o q)))
  have g2:h2.get? a=some (seqObj "list" #[] e1):=by rw[<-hH2];exact Heap.get?_push_of_some _ g1
  have al:a<h2.objs.size:=Heap.lt_size g2
  show wpAny _ _ (ksk_rest a (.ref f) false its.toArray e1 (.ref h2.objs.size)) _ _ {s with heap:=h2.push (seqObj "list" #[] 0)}
  have hka:h2.objs.size≠a:=Nat.ne_of_gt al
  have nK:H h2.objs.size=none:=I.hok.fresh (by lia)
  have nA:H a=none:=I.hok.fresh as
  have I1:Inv X pins σ (upd H h2.objs.size (.lst [])) {s with heap:=h2.push (seqObj "list" #[] 0),toks:=s.toks}:=
    I.laid (fun b u q=>Heap.get?_push_of_some _ (k2 b u q)) (by lia) ⟨Nat.zero_le _,[],0,.nil,Heap.get?_push_size _ rfl⟩
  generalize hkS:h2.objs.size=kS at*
  have fpA:∀ks:List V,FpOk X pins (upd H kS (.lst ks)) a:=fun ks=>I.fpOk as (by rw[zap (Ne.symm hka)];exact nA)
  have pinA:∀{ks:List V} {s':Shared},Inv X pins σ (upd H kS (.lst ks)) s'->s'.heap.get? a=some (seqObj "list" #[] e1)->Inv X (pins++[(a,seqObj "list" #[] e1)]) σ (upd H kS (.lst ks)) s':=fun{ks s'} J g=>J.pins_of fun p hp=>by
    rcases List.mem_append.mp hp with hp|hp
    . exact J.pin p (List.mem_append_right _ hp)
    . have z:p=(a,seqObj "list" #[] e1):=by simpa using hp
      subst z
      obtain⟨f0,f1,f2,_⟩:=fpA ks
      exact⟨g,f0,f1,f2,fun v z=>by cases z⟩
  unfold ksk_rest
  refine wpAny_bind (wpAny_rule ?_)
  first
    |rw[List.forIn_toArray]
    |(rw[<-Array.forIn_toList];simp only[List.toList_toArray])
    |rw[<-Array.forIn_toList]
  refine wpAny_bind (ksk_fold (fun i s'=>Inv X (pins++[(a,seqObj "list" #[] e1)]) σ (upd H kS (.lst ((kz.take i).map V.int))) s') its 0 _ (by
    refine pinA (ks:=[]) I1 ?_
    exact Heap.get?_push_of_some _ g2) ?step ?done)
  case step=>
    rintro j x s' hx J
    simp only[Nat.zero_add]at J ⊢
    have hj:j<its.length:=(List.getElem?_eq_some_iff.mp hx).1
    obtain⟨k,hkj⟩:∃k,kz[j]? =some k:=⟨_,List.getElem?_eq_getElem (by lia)⟩
    obtain⟨v,hvj,rvx⟩:∃v,ys[j]? =some v/\RelV v x:=by
      have hy:j<ys.length:=by lia
      obtain⟨u,e2,r2⟩:=rv.get (List.getElem?_eq_getElem hy)
      rw[hx]at e2;cases e2
      exact⟨_,List.getElem?_eq_getElem hy,r2⟩
    refine wpAny_bind (wpAny_attempt (wpAny_call (codeAny_mono (T j v k hvj hkj _ _ s' x (.step .refl nK) J rvx) fun r s'' hr=>?_)))
    cases r with
    |error e=>exact hr.elim
    |ok fl=>
      cases fl with
      |next=>exact hr.elim
      |brk=>exact hr.elim
      |cont=>exact hr.elim
      |ret u=>
        obtain⟨w,H'',J2,rw2,rfl,rfl⟩:=J.after hr
        obtain⟨t2,rfl⟩:∃t,u=Value.int k t:=rw2
        obtain⟨hz2,ks,n,vk,lk,gk⟩:=J2.lstM zas
        dsimp only
        have ek:kz.take (j+1)=kz.take j++[k]:=by rw[List.take_add_one,hkj];rfl
        have lz:ks.length<=64:=by
          rw[<-lk,List.length_map,List.length_take];lia
        refine wpAny_bind (listUpdate_at gk rfl ?_ (by rw[List.size_toArray,sizeLine_eq];lia) (by rw[Array.size_push,List.size_toArray,sizeLine_eq];lia))
        refine wpAny_pure ⟨rfl,?_⟩
        have J3:=J2.lset (t':=s''.toks) (ys:=(kz.take (j+1)).map V.int) (its':=ks++[Value.int k t2]) (f:=(·.push (Value.int k t2))) zas gk (by simp) (by rw[ek,List.map_append];exact znH vk ⟨t2,rfl⟩) (by rw[List.length_map,List.length_take,sizeLine_eq];lia)
        rw[zov]at J3
        exact J3
  case done=>
    intro s' J
    have e3:kz.take (0+its.length)=kz:=List.take_of_length_le (by lia)
    rw[e3]at J
    obtain⟨hz2,ks,n,vk,lk,gk⟩:=J.lstM zas
    have gA:s'.heap.get? a=some (seqObj "list" #[] e1):=(J.pin (a,seqObj "list" #[] e1) (List.mem_append_right _ (List.mem_append_right _ (by simp)))).1
    refine wpAny_bind (listItems_at gk rfl ?_)
    refine HT.zpl gA gk hka (zbI vk) (by rw[<-lk,List.length_map];lia) (by lia) ⟨_,rfl,wpAny_pure ⟨_,rfl,?_⟩⟩
    have J1:=J.unpinned
    have J2:=J1.lset (t':=s'.toks) (ys:=[]) (its':=[]) (f:=fun _=> #[]) zas gk rfl .nil (Nat.zero_le _)
    rw[zov]at J2
    have gA2:(s'.heap.update kS (Obj.mapSeq fun _=>(#[]:Array Value))).get? a=some (seqObj "list" #[] e1):=((Heap.SameBut.update s'.heap kS (Obj.mapSeq fun _=>(#[]:Array Value))).2 a (Ne.symm hka)).trans gA
    obtain⟨c2,hc2⟩:∃c,((s'.heap.update kS (Obj.mapSeq fun _=>(#[]:Array Value))).update a (Obj.mapSeq fun _=>(HT.outA its (HT.ltK kz)).toArray)).get? a=some (seqObj "list" (HT.outA its (HT.ltK kz)).toArray c):=⟨_,get?_update_seq gA2 fun _=>(HT.outA its (HT.ltK kz)).toArray⟩
    refine h a kS _ nK (by rw[zap (Ne.symm hka)];exact nA) (track (s:={s' with heap:=s'.heap.update kS (Obj.mapSeq fun _=>(#[]:Array Value))}) (t':=s'.toks) J2 (fpA []) (Heap.SameBut.update _ a _) hc2 ?_ ?_)
    . unfold HT.outA
      rw[<-hvl];exact zik rv _
    . rw[List.length_map,(zdg o).length_eq,List.length_range,sizeLine_eq];lia
end
end M
namespace L2
open PyProof.Rows PySem PySem.Spec
open PySem.W (tabObj CodeHd codeHdIn)
theorem lawL {P:Program}{w:World}{K:W.Frag}{mg mb:Str->Option Value}{CX:CXT}{k:Nat}{fa a P0:Addr}{q0:Str}{fd:FuncData}{x:Str}{sp:Sp}{s1:Shared}{vs:List Value}{ns:List Int}
    (KX:K.In s1.heap) (hns:s1.heap.Ns mainGlobals mg) (hb:s1.heap.Ns builtinsNs mb) (hbb:∀x:Str,x≠"__name__"->mb x=bootBuiltins x) (hlim:s1.heap.NoLimit) (hg:s1.gens= #[])
    (hbm:∃bm ob,mg "__builtins__"=some (.ref bm)/\bm≠builtinsNs/\s1.heap.get? bm=some ob/\ob.cls= .type "module"/\ob.dict=some builtinsNs/\ob.data= .plain)
    (hT:tabP K mg P0 q0) (hP:s1.heap.get? P0=some (tabObj #[])) (hPc:isCodeTable s1.heap P0)
    (ha:s1.heap.get? a=some {cls:= .type "list",data:= .seq vs.toArray}) (hi:IntsAre vs ns) (hl:ns.length<=sizeLine) (hr:Room k callerA)
    (F:∀base:Heap,K.In base->base.Ns mainGlobals mg->FnOk P w K mg base CX k fa fd [x] sp) (hbind:∀(s:Shared) (u:Value),BindsTo s fd ⟨[u],[]⟩ [(x,u)])
    (hsp:∀H:Hp,SqL K H a (ns.map V.int)->sp [.ref a] H (fun v _=>v= .bl true) fun _ _ _=>False)
    (hCX:∀H e s',CX [] H s1 (fun _ _ _=>False) e s'->False):
    codeAny (model P w) callerA (.call (.ref fa) ⟨[.ref a],[]⟩) (fun r s'=>r= .ok (.ret (.bool true))/\OldK s1.heap s'.heap/\s'.os=s1.os/\AllBare s'.gens) s1:=by
  have rv:=zfl hi
  have lenV:=hi.length
  have nPa:P0≠a:=fun z=>by rw[z,ha]at hP;cases hP
  have kP:K.lookup P0=none:=by obtain⟨_,_,_,_,_,_,_,_,_,_,_,_,_,h,_⟩:=hT;exact h
  have core:∀H:Hp,SqL K H a (ns.map V.int)->HOk P w H s1.heap->(∀b,H b≠none->b=a\/b=P0)->(H a≠none->K.lookup a=none)->(H a=none\/∃o xs,H a=some (.frz o (.lst xs)))->H P0=some (.tbl #[.str q0 0])->
      codeAny (model P w) callerA (.call (.ref fa) ⟨[.ref a],[]⟩) (fun r s'=>r= .ok (.ret (.bool true))/\OldK s1.heap s'.heap/\s'.os=s1.os/\AllBare s'.gens) s1:=by
    intro H hS hok hA hK hfr hPt
    have noA:∀{b:Addr} {o:Obj},s1.heap.get? b=some o->(∀its,o.data≠ .seq its 0)->(∀qs,o.data≠ .fields qs)->H b=none:=fun{b o} e d1 d2=>by
      cases q:H b with
      |none=>rfl
      |some u=>
        rcases hA b (by rw[q];simp)with z|z
        . subst z;rw[ha]at e;cases e;exact absurd rfl (d1 _)
        . subst z;rw[hP]at e;cases e;exact absurd rfl (d2 _)
    have nsK:∀{b:Addr} {m:Str->Option Value},s1.heap.Ns b m->(hidT s1.heap H).Ns b m:=fun{b m} ⟨o,es,ep,e,d,r⟩=>⟨o,es,ep,zkg e (noA e (fun its z=>by rw[d]at z;cases z) fun qs z=>by rw[d]at z;cases z),d,r⟩
    have hKb:K.In (hidT s1.heap H):=fun b o e=>zkg (KX b o e) (by
      cases q:H b with
      |none=>rfl
      |some u=>
        rcases hA b (by rw[q];simp)with z|z
        . subst z;rw[hK (by rw[q];simp)]at e;cases e
        . subst z;rw[kP]at e;cases e)
    have hM:Mod K mg (hidT s1.heap H):=⟨hKb,nsK hns,⟨mb,nsK hb,hbb⟩,let⟨mc,h1,h2⟩:=hlim;⟨mc,nsK h1,h2⟩,by
      obtain⟨bm,ob,b1,b2,b3,b4,b5,b6⟩:=hbm
      exact⟨bm,ob,b1,b2,zkg b3 (noA b3 (fun its z=>by rw[b6]at z;cases z) fun qs z=>by rw[b6]at z;cases z),b4,b5,b6⟩⟩
    have e0:Env0 P w K mg (hidT s1.heap H) callerA [] s1 H:=⟨rfl,hM,fun b o e=>of_hidT e,Nat.le_of_eq (znw _ _),trivial,⟨fun b hb=>absurd (show b∈([]:List Addr)from hb) (by simp),fun P q h=>by
      obtain⟨rfl,rfl⟩:=hT.det h
      exact⟨0,hPt⟩⟩,hok,.of_eq hg⟩
    refine codeAny_mono ((F _ hKb (nsK hns)).run callerA [] s1 H ⟨[.ref a],[]⟩ [.ref a] [.ref a] _ _ hr e0 (hbind s1 (.ref a)) (.cons rfl .nil) (hsp H hS)) fun r s' h=>?_
    cases r with
    |error e=>exact(hCX H e s' h).elim
    |ok fl=>
      cases fl with
      |next=>exact False.elim h
      |brk=>exact False.elim h
      |cont=>exact False.elim h
      |ret u=>
        obtain⟨v,H',os,bare,un,hok',r',q⟩:=h
        have q':v= .bl true:=q
        subst q'
        obtain rfl:u=Value.bool true:=r'
        obtain⟨q1,tk1,qs,z1,eP,_,_⟩:=hok' P0 _ (un.tbls P0 _ hPt)
        have keep:∀b o,b≠P0->s1.heap.get? b=some o->s'.heap.get? b=some o:=fun b o nb e=>by
          cases q:H b with
          |none=>exact un.keep b o e q (by intro z;exact absurd (show b∈([]:List Addr)from z) (by simp)) (by simp)
          |some u=>
            rcases hA b (by rw[q];simp)with z|z
            . subst z
              rcases hfr with w|⟨ob,xs,w⟩
              . rw[q]at w;cases w
              . have z2:=un.frzs b ob _ w
                obtain⟨e1,_⟩:=hok b _ w
                obtain⟨e2,_⟩:=hok' b _ z2
                rw[e]at e1;cases e1
                exact e2
            . exact absurd z nb
        refine⟨rfl,⟨fun b o e=>?_,fun b o e=>?_⟩,os,bare⟩
        . by_cases nb:b=P0
          . subst nb
            rw[hP]at e;cases e
            exact .inr (.inl ⟨hPc,rfl,#[],qs,rfl,by rw[eP];simp⟩)
          . exact .inl (keep b o nb e)
        . by_cases nb:b=P0
          . subst nb;exact⟨_,eP⟩
          . exact⟨o,keep b o nb e⟩
  have tblOk:∀H:Hp,ObjOk P w H s1.heap P0 (.tbl #[.str q0 0]):=fun H=>⟨q0,0,#[],rfl,hP,trivial,fun pos cv h=>by cases h⟩
  cases hk:K.lookup a with
  |some o=>
    have e:=KX a o hk
    rw[ha]at e
    cases e
    refine core (fun b=>if b=P0 then some (.tbl #[.str q0 0])else none) (.inr ⟨_,vs.toArray,_,hk,rfl,rfl,rfl,by rw[List.size_toArray,lenV];exact hl,by simpa using rv⟩) (fun b u z=>?_) (fun b z=>?_) (fun z=>absurd (if_neg (Ne.symm nPa)) z) (.inl (if_neg (Ne.symm nPa))) (if_pos rfl)
    . by_cases hb:b=P0
      . have z':=(if_pos hb).symm.trans z
        cases z';subst hb;exact tblOk _
      . have z':=(if_neg hb).symm.trans z
        cases z'
    . by_cases hb:b=P0
      . exact .inr hb
      . exact absurd (if_neg hb) z
  |none=>
    refine core (fun b=>if b=P0 then some (.tbl #[.str q0 0])else if b=a then some (.frz {cls:= .type "list",data:= .seq vs.toArray} (.lst (ns.map V.int)))else none) (.inl (.inr ⟨{cls:= .type "list",data:= .seq vs.toArray},(if_neg (Ne.symm nPa)).trans (if_pos rfl)⟩)) (fun b u z=>?_) (fun b z=>?_) (fun _=>hk) (.inr ⟨_,_,(if_neg (Ne.symm nPa)).trans (if_pos rfl)⟩) (if_pos rfl)
    . by_cases hb:b=P0
      . have z':=(if_pos hb).symm.trans z
        cases z';subst hb;exact tblOk _
      . have z':=(if_neg hb).symm.trans z
        by_cases hb2:b=a
        . have z2:=(if_pos hb2).symm.trans z'
          cases z2
          subst hb2
          exact⟨ha,by rw[List.length_map];exact hl,vs,_,rv,ha⟩
        . have z2:=(if_neg hb2).symm.trans z'
          cases z2
    . by_cases hb:b=P0
      . exact .inr hb
      . by_cases hb2:b=a
        . exact .inl hb2
        . exact absurd ((if_neg hb).trans (if_neg hb2)) z
theorem walkL {l:W.OpenLaw}{n k:Nat}{q:Program}{loose:List Str}{XP:(Str->Option Value)->Heap->Prop}{YP:World->Heap->Prop}{d:DefRec}{K:Params->W.Frag}{CX:World->CXT}{sp:World->Sp}{x:Str}{P0:Addr}
  (hn:l.most=some n) (hn2:n<=sizeLine) (hdf:d.params.defaults=[]) (hr:Room k callerA)
  (hY:∀(w:World) (h:Heap),YP w h->(K w.params).In h) (hZ:∀(w:World) (h:Heap),YP w h->h.get? P0=some (tabObj #[]))
  (hT:∀(w:World) (mg:Str->Option Value) (h:Heap),(K w.params).In h->h.Ns mainGlobals mg->∃q0 c,tabP (K w.params) mg P0 q0/\codeHdIn (K w.params) c P0=true)
  (F : ∀ (w : World) (mg : Str -> Option Value) (fa : Addr) (h : Heap), (K w.params).In h -> h.Ns mainGlobals mg -> mg d.name = some (.ref fa) ->
   ∃fd:FuncData,(∀(s:Shared) (u:Value),BindsTo s fd ⟨[u],[]⟩ [(x,u)])/\
    ∀base:Heap,(K w.params).In base->base.Ns mainGlobals mg->FnOk l.prog w (K w.params) mg base (CX w) k fa fd [x] (sp w))
  (hsp:∀(w:World) (H:Hp) (a:Addr) (ns:List Int),ns.length<=n->SqL (K w.params) H a (ns.map V.int)->sp w [.ref a] H (fun v _=>v= .bl true) fun _ _ _=>False)
  (hCX:∀(w:World) (H:Hp) (s:Shared) (e:Value) (s':Shared),CX w [] H s (fun _ _ _=>False) e s'->False):
  W.WalkO q loose XP YP l.row.toRowW d [] (fun f vs=>PySem.call f vs):=by
 refine Att.attach_call hn hdf fun w s0 s1 mg mb fa o pm cd doc a vs ns G Y ho hd hcd hmg hobj hints hlen hg=>?_
 have KX:=hY w _ Y
 obtain⟨fd,hb,hF⟩:=F w mg fa _ KX G.T.g hmg
 obtain⟨q0,c,t1,t2⟩:=hT w mg _ KX G.T.g
 obtain⟨oc,vs',_,_,_,_,_,_,_,e1,e2,e3,e4,_⟩:=W.codeHd_of_K KX t2
 exact lawL KX G.T.g G.T.b G.T.builtins G.T.nolimit hg G.T.bmain t1 (hZ w _ Y) ⟨c,oc,vs',e1,e2,e3,e4⟩ hobj hints (Nat.le_trans hlen hn2) hr hF hb (fun H hS=>hsp w H a ns hlen hS) fun H e s'=>hCX w H s1 e s'
end L2
namespace L2
open PySem
theorem Grows.trans {H H1 H2:Hp}(a:Grows H H1)(b:Grows H1 H2):Grows H H2:=by
 induction b with
 |refl=>exact a
 |step _ n ih=>exact .step ih n
theorem Grows.sql {K:W.Frag}{H H1:Hp}(g:Grows H H1){a:PySem.Addr}{xs:List V}(h:SqL K H a xs):SqL K H1 a xs:=by
 rcases h with(h|⟨o,h⟩)|h
 ·exact .inl (.inl (g.old h))
 ·exact .inl (.inr ⟨o,g.old h⟩)
 ·exact .inr h
end L2
namespace M
open L2 PySem PySem.Spec
open PyProof.Rows hiding St
open PySem.W (codeHdIn)
noncomputable def zhJ (c:D):List D->Option (List Int)
 |[]=>some []
 |d::ds=>match dIx c d with
  |some (.int k)=>(zhJ c ds).map (k:: ·)
  |_=>none
noncomputable def zpA (kz:List Int)(ds:List D):List D:=(srt ds.length (HT.ltK kz)).map fun i=>ds.getD i .non
noncomputable def oSrtK (j:Nat)(me:ME):MO:=fun ρ=>(me ρ).bind fun p=>match p.1,p.2[j]? with
 | .lst ds,some (.val c)=>if ds.length<64 then(zhJ c ds).map fun kz=>(zpA kz ds,p.2)else none
 |_,_=>none
theorem zmj {c:D}:∀{ds:List D} {kz:List Int},zhJ c ds=some kz->kz.length=ds.length/\∀(i:Nat) d k,ds[i]? =some d->kz[i]? =some k->dIx c d=some (.int k)
 |[],kz,h=>by cases h;exact⟨rfl,fun i d k e=>by simp at e⟩
 |d::ds,kz,h=>by
  unfold zhJ at h
  split at h
  ·rename_i k e
   obtain⟨ks,e1,rfl⟩:=zav h
   obtain⟨h1,h2⟩:=zmj e1
   refine⟨by simp[h1],fun i d' k' e2 e3=>?_⟩
   cases i with
   |zero=>simp at e2 e3;subst e2 e3;exact e
   |succ i=>exact h2 i d' k' (by simpa using e2) (by simpa using e3)
  ·cases h
theorem SI.grows {K:W.Frag}{B:Bs}{G H H':Hp}{σ:St}{ρ:R}(I:SI K B G H σ ρ)(g:Grows H H'):SI K B G H' σ ρ:=by
 induction g with
 |refl=>exact I
 |step _ n ih=>exact ih.allocO n _
noncomputable def tSrtK (X:Cx)(j:Nat)(ta:TA):TE:=fun σ H Q=>ta σ H fun vs H1=>∃l ys kz vc,vs=[.ref l]/\SqL X.K H1 l ys/\ys.length<64/\kz.length=ys.length/\σ[j]? =some (some vc)/\
 (∀(i:Nat) v k,ys[i]? =some v->kz[i]? =some k->∀H',Grows H1 H'->rIx X.K vc v H' fun r H''=>r= .int k/\H''=H')/\∀H2 a,Grows H1 H2->H2 a=none->Q (.ref a) (upd H2 a (.lst ((srt ys.length (HT.ltK kz)).map fun i=>ys.getD i .non)))
section
variable {X:Cx} {e:Expr} {params:Arguments} {scope:Scope} {x y:Str} {j k:Nat} {P c:Addr} {q:Str} {p p1 p2 sp lp kp pos:Pos}
theorem pe_srtK {ta:TA}(ml:X.mg "sorted"=none)(ha:PA X [e] ta)(b:BlkOk X scope)(S:LamSc scope params x y)(hr:Room (k+3) X.A)(hT:tabP X.K X.mg P q)(hc:X.env.code= .ref c)(hC:codeHdIn X.K c P=true)(hq:X.env.qual++"<lambda>"=q)(hdef:defaultsOf params X.env=([],[]))(hj:X.N[j]? =some y)
  (dx:(x==("__debug__":Str))=false) (cx:(x==("__classdict__":Str))=false) (dy:(y==("__debug__":Str))=false) (cy:(y==("__classdict__":Str))=false) (hg:Gl X "sorted") (h1:backTo pos (starEach [e] X.env)=(false,eval e X.env)::backTo pos (starEach [] X.env)) (h2:((backTo pos (starEach [e] X.env)).any fun x=>x.1)=false):
  PE X (.Call (.Name "sorted" p) [e] [⟨some "key",.Lambda params (.Subscript (.Name y p1) (.Name x p2) sp) scope lp,kp⟩] pos) (tSrtK X j ta):=by
 intro pins s σ H Q I h
 refine wpAny_Call_Name_kw (zgK I hg ml (show bootBuiltins "sorted"=some (.builtin "sorted") by decide+kernel) ?_)
 refine callWith_kw (thn (ha pos pins s σ H _ I h) fun us s1 ⟨vs,H1,I1,r,l,ys,kz,vc,ev,hq1,h64,hlen,hv,tn,fin⟩=>?_) h1 h2
 subst ev
 obtain⟨u,rfl,ru⟩:=zgP r
 cases ru
 refine kws_cons (lam_make I1 hT hc hC hq (zi6 (zg4 I1 b)) hdef fun f H' s2 gr I2 L=>kws_nil ?_)
 obtain⟨its,rv,pl,hz⟩:=I2.list (gr.sql hq1)
 refine sortK (f:=f) I2 pl.isList rv hlen h64 (fun i v kk e1 e2 H3 pins' s3 u g3 I3 ru=>?_) fun a kS s' n1 n2 J=>⟨.ref a,_,J,rfl,fin _ a (gr.trans (.step .refl n1)) n2⟩
 refine lam_call (k:=k) (x:=x) (y:=y) I3 b S I3.ok.frames hr.in1.in1 (L.old fun b o u e=>g3.old e) hj hv ru fun cd=>⟨_,znr zn7 (zcX (i:=1) rfl (.inr (.inr S.ly)) dy cy) (zcX (i:=0) rfl (.inl S.lx) dx cx) (fun _ _=>rfl),vc,rfl,v,rfl,tn i v kk e1 e2 H3 (gr.trans g3)⟩
theorem so_srtK (j:Nat){me:ME}(ml:X.mg "sorted"=none)(he:SE X e me)(hr:Room (k+3) X.A)(hT:tabP X.K X.mg P q)(hc:X.env.code= .ref c)(hC:codeHdIn X.K c P=true)(b:BlkOk X scope)(S:LamSc scope params x y)(hq:X.env.qual++"<lambda>"=q)(hdef:autoParam (defaultsOf params X.env=([],[])) zu2._auto_1)(hj:autoParam (X.N[j]? =some y) zu2._auto_1)
  (dx:autoParam ((x==("__debug__":Str))=false) zu1._auto_1) (cx:autoParam ((x==("__classdict__":Str))=false) zu1._auto_1) (dy:autoParam ((y==("__debug__":Str))=false) zu1._auto_1) (cy:autoParam ((y==("__classdict__":Str))=false) zu1._auto_1) (hg:autoParam (Gl X "sorted") zu2._auto_1) (hst:autoParam (starEach [e] X.env=(false,eval e X.env)::starEach [] X.env) zu2._auto_1) (h1:autoParam (backTo pos (starEach [e] X.env)=(false,eval e X.env)::backTo pos (starEach [] X.env)) zu2._auto_1) (h2:autoParam (((backTo pos (starEach [e] X.env)).any fun x=>x.1)=false) zu2._auto_1):
  SO X (.Call (.Name "sorted" p) [e] [⟨some "key",.Lambda params (.Subscript (.Name y p1) (.Name x p2) sp) scope lp,kp⟩] pos) (oSrtK j me):=by
 obtain⟨te,pe,se⟩:=he
 refine⟨_,pe_srtK ml (za7 pe zcQ hst) b S hr hT hc hC hq hdef hj dx cx dy cy hg h1 h2,fun B G H σ ρ ds ρ' Q I hm kk=>?_⟩
 obtain⟨⟨d,ρ1⟩,e1,hm⟩:=zag hm
 dsimp only at hm
 split at hm
 ·rename_i es c' ec
  split at hm
  ·rename_i h64
   obtain⟨kz,e2,hm⟩:=zav hm
   cases hm
   obtain⟨kl,kg⟩:=zmj e2
   show te σ H _
   refine se B G H σ ρ _ _ _ I e1 fun G1 H1 v I1 f1 r1=>?_
   obtain⟨l,ys,rfl,hp,ry⟩:=I1.lst r1
   obtain⟨vc,hvc,rc⟩:=I1.slot j _ ec
   have hl:=ry.length
   refine⟨l,ys,kz,vc,rfl,SqL.of hp,by lia,by lia,hvc,fun i v k e3 e4 H' g=>?_,fun H2 a g n=>?_⟩
   ·have I2:=I1.grows g
    obtain⟨d,e5⟩:∃d,es[i]? =some d:=⟨_,List.getElem?_eq_getElem (by have:=(List.getElem?_eq_some_iff.mp e3).1;lia)⟩
    obtain⟨w,e6,rd⟩:=ry.get e5
    rw[e3]at e6;cases e6
    exact zlI I2 (ReadD.of I2.fz rc) rd (kg i d k e5 e4) fun r rr=>⟨rr,rfl⟩
   ·obtain⟨I3,g2,h2,b2,n2⟩:=(I1.grows g).newO n ((srt ys.length (HT.ltK kz)).map fun i=>ys.getD i .non)
    refine kk G1 _ a _ I3 f1 g2 h2 ?_ b2 n2
    unfold zpA
    rw[hl];exact ry.picks _
  ·cases hm
 ·cases hm
end
section
variable {P:Program} {w:World} {K:W.Frag} {mg:Str->Option Value} {base hp:Heap} {x:Str} {st:Stmt} {f:Addr} {fd:FuncData} {N ps:List Str} {k n:Nat} {m:MS}
theorem fnP_okC {qual:Str}(F:Fun K x qual st f fd)(S:FnScope N ps (zaB st))(hn:ps.length=n)(hN:n<=N.length)
  (body:∀(A:Around) (outer:List Env) (s:Shared) (H:Hp) (E:XK),Room k (A.deeper (envOfC qual (zaB st) s.heap.objs.size f fd.code))->SSs (cxOf CX0 P w K mg base N qual (zaB st) f fd.code A outer s H E).nox (zb9 st) m):
  FnOk P w K mg base CX0 (k+1) f fd ps (spP K n (fP N.length m)):=by
 obtain⟨oc,od,kV,doc,pm,an,cdv,ct,osl,rfl,lk,hcd⟩:=F.ex
 refine fn_of lk hcd S (fun vs H Q E h=>?_) fun A outer s H vs Q E hr h=>?_
 ·obtain⟨G,ds,r,_,h2,_,h4,_⟩:=h
  rw[h4.length,h2,hn]
 ·obtain⟨G,ds,r,e1,h2,fz,h4,kk⟩:=h
  obtain⟨t,pt,so⟩:=body A outer s H E hr
  refine⟨t,pt.nox,?_⟩
  obtain⟨⟨fl,ρ'⟩,e2,e3⟩:=zag e1
  refine so ⟨G,H,[]⟩ G H (L2.start N vs) _ fl ρ' _ (SI.start fz h4 (by lia)) e2 ?_
  have fin:∀G' H' σ' v,SI K ⟨G,H,[]⟩ G' H' σ' ρ'->Fz G G'->ResF K G' H' H v r->Q v H':=fun G' H' σ' v I f rr=>kk G' H' v f I.fz I.new (fun b o e=>I.keep b o e (by simp)) rr
  cases fl with
  |next=>cases e3;exact fun G' H' σ' I f=>fin G' H' σ' .non I f rfl
  |brk=>cases e3
  |cont=>cases e3
  |ret r'=>
   cases e3
   refine fun G' H' σ' v I f rr=>fin G' H' σ' v I f ?_
   cases r with
   |val d=>exact rr
   |own ds=>exact rr
   |emp=>exact rr
   |two _ _=>exact rr
   |tre _=>exact rr
   |ptr _=>exact rr
   |par ds=>exact rr
noncomputable def HostAt (K:W.Frag)(x:Str)(P c:Addr):Prop:=∃f o fd,W.nsIn K mainGlobals x=some (some (.ref f))/\K.lookup f=some o/\o.data= .func fd/\fd.code= .ref c/\fd.qualname=x/\codeHdIn K c P=true/\K.lookup P=none
theorem code11 {c P:Addr}(h:codeHdIn K c P=true):∃oc vs,K.lookup c=some oc/\oc.data= .fields vs/\vs[11]? =some (.ref P):=by
 unfold codeHdIn at h
 split at h
 ·rename_i vs _ hk
  simp only[Bool.and_eq_true]at h
  obtain⟨⟨⟨⟨⟨e1,_⟩,_⟩,_⟩,_⟩,_⟩:=h
  split at e1
  ·rename_i P' h11
   have hP:P'=P:=beq_iff_eq.mp e1
   subst hP
   exact⟨_,vs,hk,rfl,h11⟩
  ·cases e1
 ·cases h
theorem fdPL {P0 c:Addr}(X:K.In hp)(G:hp.Ns mainGlobals mg)(h:FnAt K "cheapest_places" st)(hh:HostAt K "cheapest_places" P0 c)
    (b:tabP K mg P0 ("cheapest_places"++".<locals>."++"<lambda>")->codeHdIn K c P0=true->∀(f:Addr) (A:Around) (outer:List Env) (s:Shared) (H:Hp) (E:XK),Room k (A.deeper (PyProof.Rows.envOfC "cheapest_places" (zaB st) s.heap.objs.size f (.ref c)))->N.Nodup->SSs (cxOf CX0 P w K mg base N "cheapest_places" (zaB st) f (.ref c) A outer s H E).nox (zb9 st) m)
    (d:autoParam (DefOk "cheapest_places" st N n) zu11._auto_1):FD P w K mg base (k+1) "cheapest_places" (spP K n (fP N.length m)):=by
  obtain⟨f,fd,a,T⟩:=h
  obtain⟨f',o,fd',a1,a2,a3,a4,a5,a6,a7⟩:=hh
  rw[a]at a1;cases a1
  have e:fd=fd':=by
    obtain⟨oc,od,kV,doc,pm,an,cdv,ct,osl,rfl,lk,hcd⟩:=T.ex
    rw[lk]at a2;cases a2;cases a3;rfl
  subst e
  obtain⟨oc,vs,b1,b2,b3⟩:=code11 a6
  have tb:tabP K mg P0 ("cheapest_places"++".<locals>."++"<lambda>"):=⟨f,o,fd,c,oc,vs,W.mg_of X G a,a2,a3,a4,b1,b2,b3,a7,by rw[a5]⟩
  refine⟨⟨f,fd,_,fnP_okC T d.sc d.len d.le (fun A outer s H E hr=>?_),W.mg_of X G a,T.kp,T.binds d.bs⟩⟩
  rw[a4]at hr ⊢
  exact b tb a6 f A outer s H E hr d.sc.nd
end
end M
namespace M
open L2 PySem PySem.Spec
theorem HostAt.code {K:W.Frag}{x:Str}{P c:Addr}(h:HostAt K x P c):W.codeHdIn K c P=true:=by
 obtain⟨_,_,_,_,_,_,_,_,h,_⟩:=h
 exact h
theorem HostAt.tab {K:W.Frag}{P c:Addr}{hp:Heap}{mg:Str->Option Value}(h:HostAt K "cheapest_places" P c)(X:K.In hp)(G:hp.Ns mainGlobals mg):tabP K mg P ("cheapest_places"++".<locals>."++"<lambda>"):=by
 obtain⟨f,o,fd,a,a2,a3,a4,a5,a6,a7⟩:=h
 obtain⟨oc,vs,b1,b2,b3⟩:=code11 a6
 exact⟨f,o,fd,_,oc,vs,W.mg_of X G a,a2,a3,a4,b1,b2,b3,a7,by rw[a5]⟩
end M
namespace HT
open PySem PySem.Spec
open PyProof.Rows
noncomputable def GtOn (prog:Program)(w:World)(A:Around)(P:Nat->Value->Prop)(bt:Nat->Nat->Bool)(s₂:Shared)(wr:List Addr):Prop:=
 ∀i j vi vj h' tk (Q E:Value->Shared->Prop),P i vi->P j vj->(∀b o,b∉wr->s₂.heap.get? b=some o->h'.get? b=some o)->Q (.bool (bt i j)) {s₂ with heap:=h',toks:=tk}->
  wpAny (model prog w) A (richCompare .Gt vi vj) Q E {s₂ with heap:=h',toks:=tk}
theorem zh2:(toString "max"++toString ".loop":String)="max.loop":=by decide
section
variable {prog:Program} {w:World} {A:Around} {R:Result->Shared->Prop} {I:Addr} {fp wr:List Addr} {n:Nat} {P:Nat->Value->Prop} {St:Nat->Heap->Prop} {kw:List (Str×Value)}
theorem zpv (W:Walks prog w A.in1 I fp wr n P St)(bt:Nat->Nat->Bool)(s₂:Shared)(lt:GtOn prog w A.in1 P bt s₂ wr)(S:Addr)(hSf:S∉fp)(hS0:s₂.heap.get? S=none)
  (hR:∀v h' tk,P (argBest bt (n-1)) v->(∀b o,b∉wr->s₂.heap.get? b=some o->h'.get? b=some o)->R (.ok (.ret v)) {s₂ with heap:=h',toks:=tk}):
  ∀(k j:Nat) (h:Heap) (tk:Nat) (vb:Value) (c:Nat),n-(j+1)=k->j+1<=n->St (j+1) h->P (argBest bt j) vb->
  h.get? S=some {cls:= .type "list",dict:=none,data:= .seq #[vb,vb] c,slots:= #[]}->(∀b o,b∉wr->s₂.heap.get? b=some o->h.get? b=some o)->
  codeAny (model prog w) A (.builtin "max.loop" ⟨[.ref I,.none,.ref S],kw⟩) R {s₂ with heap:=h,toks:=tk}:=by
 have hSw:S∉wr:=fun z=>hSf (W.sub _ z)
 have neS:∀b o,s₂.heap.get? b=some o->S≠b:=fun b o e z=>by rw[<-z,hS0]at e;cases e
 intro k
 induction k with
 |zero=>
  intro j h tk vb c hk hj hst hPb hS hkp
  have hin:j+1=n:=by lia
  refine codeAny_builtin F.entry_max_loop ?_
  rw[Around.under_plainId F.plain_max_loop _]
  show wpAny _ A.in1 (seqItems? (.ref S)>>=_) _ _ _
  refine wpAny_bind (wpAny_seqItems hS rfl ?_)
  show wpAny _ A.in1 (tryCatch (pyNext (.ref I)) _>>=_) _ _ _
  refine wpAny_bind (wpAny_tryCatch (W.done _ _ _ (hin ▸ hst) fun h' tk' hk'=>?_))
  have hS':=hk' S _ hSw hS
  show wpAny _ A.in1 (updateSeq S (fun _=> #[])>>=_) _ _ _
  refine wpAny_bind ?_
  refine wpAny_updateSeq hS' rfl (wpAny_bind (wpAny_letGo (wpAny_pure ?_)))
  exact hR vb _ tk' (by rw[<-hin];exact hPb) fun b o hbw e=>(Heap.get?_update_other _ _ (neS b o e)).trans (hk' b o hbw (hkp b o hbw e))
 |succ k ih=>
  intro j h tk vb c hk hj hst hPb hS hkp
  have hlt:j+1<n:=by lia
  refine codeAny_builtin F.entry_max_loop ?_
  rw[Around.under_plainId F.plain_max_loop _]
  show wpAny _ A.in1 (seqItems? (.ref S)>>=_) _ _ _
  refine wpAny_bind (wpAny_seqItems hS rfl ?_)
  show wpAny _ A.in1 (tryCatch (pyNext (.ref I)) _>>=_) _ _ _
  refine wpAny_bind (wpAny_tryCatch (W.item (j+1) _ _ _ hlt hst fun v h' tk' hP hst' hk'=>?_))
  have hS':=hk' S _ hSw hS
  have hkp':∀b o,b∉wr->s₂.heap.get? b=some o->h'.get? b=some o:=fun b o hb e=>hk' b o hb (hkp b o hb e)
  show wpAny _ A.in1 (tryCatch (holding [v,v] (richCompare .Gt v vb>>=_)) _>>=_) _ _ _
  refine wpAny_bind (wpAny_tryCatch (wpAny_holding (wpAny_bind (lt (j+1) (argBest bt j) v vb h' tk' _ _ hP hPb hkp' ?_))))
  refine wpAny_bind (wpAny_holding (wpAny_truthy_bool ?_))
  refine wpAny_bind (wpAny_letGo (wpAny_pure ?_))
  cases hb:bt (j+1) (argBest bt j)with
  |true=>
   simp only[if_true]
   refine wpAny_bind ?_
   refine wpAny_updateSeq hS' rfl (wpAny_bind (wpAny_letGo ?_))
   rw[zh2]
   refine wpAny_pure ⟨plainId_quiet F.plain_max_loop _,ih (j+1) _ tk' v _ (by lia) hlt (W.frame _ _ _ hst' fun b hbf o e=>?_) (by simp only[argBest,hb,if_true];exact hP) (Heap.get?_update_self _ hS' rfl) fun b o hbw e=>?_⟩
   ·exact(Heap.get?_update_other _ _ (fun z:S=b=>hSf (by rw[z];exact hbf))).trans e
   ·exact(Heap.get?_update_other _ _ (neS b o e)).trans (hkp' b o hbw e)
  |false=>
   simp only[Bool.false_eq_true,if_false]
   refine wpAny_bind (wpAny_letGo ?_)
   rw[zh2]
   exact wpAny_pure ⟨plainId_quiet F.plain_max_loop _,ih (j+1) _ tk' vb c (by lia) hlt hst' (by simp only[argBest,hb,Bool.false_eq_true,if_false];exact hPb) hS' hkp'⟩
end
section
variable {prog:Program} {w:World} {A:Around} {E:Value->Shared->Prop} {s:Shared}
theorem zpC {x d:Value}{Q:Value->Shared->Prop}
  (h : wpAny (model prog w) A.in1 (pyIter x) (fun it s₂ => ∃ I fp wr n P St bt, it = .ref I /\ Walks prog w A.in1 I fp wr n P St /\ St 0 s₂.heap /\ (∀ b ∈ fp, b < s₂.heap.objs.size) /\ GtOn prog w A.in1 P bt s₂ wr /\
   (n=0->∀h' tk,(∀b o,b∉wr->s₂.heap.get? b=some o->h'.get? b=some o)->Q d {s₂ with heap:=h',toks:=tk})/\∀v h' tk,0<n->P (argBest bt (n-1)) v->(∀b o,b∉wr->s₂.heap.get? b=some o->h'.get? b=some o)->Q v {s₂ with heap:=h',toks:=tk}) E s):
  wpAny (model prog w) A (call (.builtin "max") [x] [(Str.ofString "default",d)]) Q E s:=by
 refine zk0 F.kind_max F.plain_max F.entry_max (show argsOk "max" ⟨[x],[(Str.ofString "default",d)]⟩from rfl) ?_
 show wpAny _ A.in1 (Builtin.Builtins.bindParams "max" ["key","default"] 0 ⟨[],[(Str.ofString "default",d)]⟩>>=_) _ _ s
 refine wpAny_bind (wpAny_of_eq (show Builtin.Builtins.bindParams "max" ["key","default"] 0 ⟨[],[(Str.ofString "default",d)]⟩=pure [none,some d]from rfl) ?_)
 refine wpAny_bind (wpAny_pure ?_)
 refine wpAny_bind (wpAny_mono h (fun it s₂ h₂=>?_) fun _ _ e=>e)
 obtain⟨I,fp,wr,n,P,St,bt,rfl,W,hst,hfp,lt,hz,hQ⟩:=h₂
 refine wpAny_bind (wpAny_newObj_type ?_)
 have hSf:s₂.heap.objs.size∉fp:=fun hm=>Nat.lt_irrefl _ (hfp _ hm)
 have hSw:s₂.heap.objs.size∉wr:=fun z=>hSf (W.sub _ z)
 have hS0:s₂.heap.get? s₂.heap.objs.size=none:=by
  cases q:s₂.heap.get? s₂.heap.objs.size with
  |none=>rfl
  |some o=>exact absurd (Heap.lt_size q) (Nat.lt_irrefl _)
 have neS:∀b o,s₂.heap.get? b=some o->s₂.heap.objs.size≠b:=fun b o e z=>by rw[<-z,hS0]at e;cases e
 rw[zh2]
 refine wpAny_pure ⟨plainId_quiet F.plain_max_loop _,codeAny_builtin F.entry_max_loop ?_⟩
 rw[Around.under_plainId F.plain_max_loop _]
 have hS:(s₂.heap.push {cls:= .type "list",data:= .seq #[]}).get? s₂.heap.objs.size=some {cls:= .type "list",data:= .seq #[]}:=Heap.get?_push_size _ rfl
 show wpAny _ A.in1 (seqItems? (.ref s₂.heap.objs.size)>>=_) _ _ _
 refine wpAny_bind (wpAny_seqItems hS rfl ?_)
 show wpAny _ A.in1 (tryCatch (pyNext (.ref I)) _>>=_) _ _ _
 rcases Nat.eq_zero_or_pos n with hn|hn
 ·have hst0:St n (s₂.heap.push {cls:= .type "list",data:= .seq #[]}):=by rw[hn];exact W.frame _ _ _ hst fun b _ o e=>Heap.get?_push_of_some _ e
  refine wpAny_bind (wpAny_tryCatch (W.done _ _ _ hst0 fun h' tk' hk'=>?_))
  refine(?_:wpAny _ _ (rule _>>=_) _ _ _)
  exact wpAny_bind (wpAny_rule (wpAny_pure (hz hn _ _ fun b o hb e=>hk' b o hb (Heap.get?_push_of_some _ e))))
 refine wpAny_bind (wpAny_tryCatch (W.item 0 _ _ _ hn (W.frame _ _ _ hst fun b _ o e=>Heap.get?_push_of_some _ e) fun v h' tk hP hst' hk'=>?_))
 have hS':=hk' _ _ hSw hS
 show wpAny _ A.in1 (updateSeq s₂.heap.objs.size (fun _=> #[v,v])>>=_) _ _ _
 refine wpAny_bind ?_
 refine wpAny_updateSeq hS' rfl ?_
 rw[zh2]
 refine wpAny_pure ⟨plainId_quiet F.plain_max_loop _,zpv W bt s₂ lt s₂.heap.objs.size hSf hS0 (fun v h' tk hp hk=>hQ v h' tk hn hp hk) _ 0 _ tk v _ rfl hn (W.frame _ _ _ hst' fun b hbf o e=>?_) hP (Heap.get?_update_self _ hS' rfl) fun b o hbw e=>?_⟩
 ·exact(Heap.get?_update_other _ _ (fun z:s₂.heap.objs.size=b=>hSf (by rw[z];exact hbf))).trans e
 ·exact(Heap.get?_update_other _ _ (neS b o e)).trans (hk' b o hbw (Heap.get?_push_of_some _ e))
end
end HT
namespace M
open L2 PySem PySem.Spec
open PyProof.Rows hiding St
noncomputable def zmh:List D->Option D
 |[.lst ds]=>(zaG ds).map fun ns=>if ns.isEmpty then .int 0 else .int (zd8 (fun i j=>decide (i>j)) ns)
 |_=>none
noncomputable def rMaxD0 (K:W.Frag):List V->Hp->VK->Prop:=fun xs H Q=>∃(p:Addr) (ns:List Int),xs=[.ref p]/\SqL K H p (ns.map V.int)/\Q (.int (if ns.isEmpty then 0 else zd8 (fun i j=>decide (i>j)) ns)) H
theorem znb {X:Cx}(hc:X.calm=true){pins:List (Addr×Obj)}{s:Shared}{σ:St}{H:Hp}{xs:List V}{us:List Value}{t:Tok}{Q:VK}(I:Inv X pins σ H s)(r:Vals xs us)(h:rMaxD0 X.K xs H Q):wpAny (model X.prog X.w) X.A (call (.builtin "max") us [(Str.ofString "default",.int 0 t)]) (EP X pins σ Q) X.xe s:=by
 obtain⟨p,ns,rfl,hq,q⟩:=h
 obtain⟨u,rfl,ru⟩:=zgP r
 cases ru
 refine HT.zpC (zg6 (A:=X.A.in1) (I.ok.hd hc) I (.inl hq) fun its s₂ St rv W st hfp fin=>?_)
 have hl:=rv.length
 rw[List.length_map]at hl
 refine⟨_,_,_,_,_,_,fun i j=>decide (ns.getD i 0>ns.getD j 0),rfl,W,st,hfp,fun i j vi vj h' tk Q' E' hi hj hk qq=>?_,fun hn h' tk hk=>?_,fun v h' tk hn hP hk=>?_⟩
 ·obtain⟨ti,rfl⟩:=zdc rv hi
  obtain⟨tj,rfl⟩:=zdc rv hj
  exact(PyProof.Rows.gt_int qq:wpAny (model X.prog X.w) X.A.in1 (compareOp .Gt _ _) Q' E' _)
 ·have z:ns=[]:=List.length_eq_zero_iff.mp (by lia)
  subst z
  exact⟨.int 0,H,fin h' tk hk,⟨t,rfl⟩,q⟩
 ·obtain⟨t,rfl⟩:=zdc rv hP
  have ne:ns.isEmpty=false:=by cases ns with
   |nil=>simp at hl;lia
   |cons _ _=>rfl
  rw[ne,if_neg (by decide)]at q
  refine⟨.int (zd8 _ ns),H,fin h' tk hk,⟨t,?_⟩,q⟩
  unfold zd8
  rw[hl]
theorem se_maxD0 {X:Cx}{e:Expr}{j1:Nat}{ma:MA}{p pos kp vp:Pos}(hc:X.calm=true)(ml:X.mg "max"=none)(ha:SA X [e] ma)(hg:autoParam (Gl X "max") zu2._auto_1)(h1:autoParam (backTo pos (starEach [e] X.env)=(false,eval e X.env)::backTo pos (starEach [] X.env)) zu2._auto_1)(h2:autoParam (((backTo pos (starEach [e] X.env)).any fun x=>x.1)=false) zu2._auto_1):
  SE X (.Call (.Name "max" p) [e] [⟨some "default",.Constant (.int 0) j1 vp,kp⟩] pos) (mC zmh ma):=by
 obtain⟨ta,pa,sa⟩:=ha
 refine⟨fun σ H Q=>ta σ H fun vs H1=>rMaxD0 X.K vs H1 Q,?_,fun B G H σ ρ d ρ' Q I hm k=>?_⟩
 ·intro pins s σ H Q I h
  refine wpAny_Call_Name_kw (zgK I hg ml (show bootBuiltins "max"=some (.builtin "max") by decide+kernel) ?_)
  refine callWith_kw (thn (pa pos pins s σ H _ I h) fun us s1 ⟨vs,H1,I1,r,q⟩=>?_) h1 h2
  refine kws_cons (thn (zkW (X:=X) pins s1 σ H1 (fun x H2=>x= .int 0/\H2=H1) I1 ⟨rfl,rfl⟩) fun u s2 ⟨x,H2,I2,r2,e1,e2⟩=>kws_nil ?_)
  subst e1 e2
  obtain⟨t,rfl⟩:∃t,u=Value.int 0 t:=r2
  exact znb hc I2 r q
 ·obtain⟨ds,e1,e2⟩:=mC_inv hm
  refine sa B G H σ ρ ds ρ' _ I e1 fun G1 H1 vs I1 f1 r1=>?_
  unfold zmh at e2
  split at e2
  ·rename_i es
   obtain⟨ns,e3,rfl⟩:=zav e2
   obtain⟨x,rfl,ra⟩:=r1.one
   obtain⟨q,ys,rfl,hp,ry⟩:=I1.lst ra
   rw[zba e3]at ry
   have:=RepL.ints_eq ry
   subst this
   refine⟨q,ns,rfl,SqL.of hp,k G1 H1 _ I1 f1 ?_⟩
   split<;>rfl
  ·cases e2
end M
namespace M
open PyProof.Rows PySem
open Builtin
theorem zkQ (l:Addr)(items:Array Value)(n:Nat)(dd:Option Addr)(sl:Array (Option Value))(k:Int)(t:Tok)(ns:List Int)(hi:IntsAre items.toList ns)(hk:k∈ns):
  Meets (Builtin.«tuple.index» ⟨[.ref l,.int k t],[]⟩) (fun _ R s=>s.heap.get? l=some {cls:= .type "tuple",dict:=dd,data:= .seq items n,slots:=sl}/\R (.ok (.ret (.int (ns.idxOf k:Nat) s.toks))) {s with toks:=s.toks+1}):=
 .of_wp fun prog w A R s h=>by
  obtain⟨hp,g,d,tk,os⟩:=s;obtain⟨hl,h⟩:=h
  unfold Builtin.«tuple.index»
  simp only[Std.Legacy.Range.forIn_eq_forIn_range']
  wp_walk using AutoSeq1.wpAny_loadPart' hl,wpAny_forIn_list _ (fun rest b s'=>b.1=none/\s'=⟨hp,g,d,tk,os⟩/\∃j,j<=ns.idxOf k/\rest=List.range' j (items.size-j)) _
  case turn=>
   rintro x rest b s ⟨hb,rfl,j,hj,e⟩
   have hil:ns.idxOf k<ns.length:=List.idxOf_lt_length_iff.mpr hk
   have hsz:items.size=ns.length:=by rw[<-hi.length];simp
   obtain⟨m,hm⟩:∃m,items.size-j=m+1:=⟨items.size-j-1,by lia⟩
   rw[hm,List.range'_succ]at e
   obtain⟨rfl,rfl⟩:=List.cons.inj e
   have hx:x<items.size:=by lia
   rw[Array.getElem?_eq_getElem hx]
   have q:=(eq_isInt k t hi items[x] (by simp)).at A.in1 ⟨hp,g,d,tk,os⟩
   have e2:isInt k items[x]=(ns[x]'(by lia)==k):=by
    have:=isInt_at k hi x (by simpa using hx) (by lia)
    simpa using this
   rw[e2]at q
   refine wpAny_bind (q prog w _ _ ?_)
   by_cases z:x=ns.idxOf k
   ·have e3:(ns[x]'(by lia)==k)=true:=by subst z;simpa using List.getElem_idxOf hil
    rw[e3]
    wp_walk
    refine⟨_,rfl,?_⟩
    rw[z]
    exact h
   ·rw[ne_of_lt_idxOf (show x<ns.idxOf k by lia) (by lia)]
    wp_walk
    exact⟨rfl,rfl,x+1,by lia,by rw[show items.size-(x+1)=m by lia]⟩
  case fin=>
   rintro b s ⟨hb,rfl,j,hj,e⟩
   have hil:ns.idxOf k<ns.length:=List.idxOf_lt_length_iff.mpr hk
   have hsz:items.size=ns.length:=by rw[<-hi.length];simp
   have:=congrArg List.length e
   simp at this
   lia
  case h=>
   refine⟨rfl,rfl,0,Nat.zero_le _,?_⟩
   simp[Std.Legacy.Range.size]
end M
namespace M
open L2 PySem PySem.Spec
open PyProof.Rows hiding St
noncomputable def zpe (K:W.Frag):V->List V->Hp->VK->Prop:=fun x vs H Q=>∃(l:Addr) (ns:List Int) (k:Int),x= .ref l/\vs=[.int k]/\SqT K H l (ns.map V.int)/\k∈ns/\Q (.int (ns.idxOf k:Nat)) H
theorem zpc {X:Cx}:MtR X "tuple.index" (zpe X.K):=by
 intro pins s σ H x vs v us Q I rx rv h
 obtain⟨l,ns,k,rfl,rfl,hq,hk,q⟩:=h
 cases rx
 obtain⟨u,rfl,t,rfl⟩:=rv.one
 obtain⟨its,r,p,hz⟩:=I.tuple hq
 obtain⟨⟨cls,dd,data,sl⟩,ho,hc,n,hd⟩:=id p
 simp only at hc hd
 subst hc hd
 exact call_meets PySem.F.slot_tuple_index ⟨_,ho,rfl⟩ PySem.F.entry_tuple_index (PySem.F.args_tuple_index_2 _ _) (zkQ l its.toArray n dd sl k t ns (by simpa using zbI r) hk) ⟨ho,⟨.int (ns.idxOf k:Nat),H,I.tok _,⟨_,rfl⟩,q⟩⟩
noncomputable def zjJ:D->D->Option D
 | .lst ds,.int k=>(zaG ds).bind fun ns=>if k∈ns then some (.int (ns.idxOf k:Nat))else none
 | .tup ds,.int k=>(zaG ds).bind fun ns=>if k∈ns then some (.int (ns.idxOf k:Nat))else none
 |_,_=>none
theorem pe_or {X:Cx}{e:Expr}{t u:TE}(h:PE X e t)(g:PE X e u):PE X e (fun σ H Q=>t σ H Q\/u σ H Q):=fun pins s σ H Q I h2=>by
 rcases h2 with h2|h2
 ·exact h pins s σ H Q I h2
 ·exact g pins s σ H Q I h2
noncomputable def tIdxT (K:W.Frag)(to:TE)(t:TA):TE:=fun σ H Q=>to σ H fun x H1=>(∃p xs,x= .ref p/\H1 p=some (.tup xs))/\t σ H1 fun xs H2=>zpe K x xs H2 Q
theorem zo1 {X:Cx}{o e:Expr}{to:TE}{t:TA}{apos cpos:Pos}(ho:PE X o to)(ha:PA X [e] t)
  (hbase:attributeBase o "index" X.env (eval o X.env)=eval o X.env)
  (hfew : ((backTo cpos (starEach [e] X.env)).all (fun x => !x.1) && (backToKw cpos (keywordEach [] X.env)).all (fun x => x.1.isSome)
   &&decide ([e].length+([]:List Keyword).length+(if([]:List Keyword).isEmpty then 0 else 1)<30))=true)
  (hline:(apos.endLine==cpos.line)=true) (hs:starEach [e] X.env=(false,eval e X.env)::starEach [] X.env):PE X (.Call (.Attribute o "index" apos) [e] [] cpos) (tIdxT X.K to t):=by
 intro pins s σ H Q I h
 refine wpAny_Call_method_late hbase hfew hline rfl (thn (ho pins s σ H _ I h) fun v s1 ⟨x,H1,I1,r1,⟨p,ys,e1,e2⟩,q1⟩=>?_)
 subst e1
 obtain rfl:v=Value.ref p:=r1
 obtain⟨z,its,r,ob,e3,c,n,d,dn⟩:=I1.hok p _ e2
 refine⟨"tuple","tuple.index",PySem.F.plainAttrs_tuple,PySem.F.slot_tuple_index,PySem.F.type_tuple_index,⟨ob,e3,c⟩,fun a ea=>by cases ea;exact⟨ob,e3,dn⟩,?_⟩
 have hA:=ha cpos pins s1 σ H1 _ I1 q1
 rw[hs]at hA ⊢
 refine Calls.callWith_builtin (by show(false||(backTo cpos (starEach [] X.env)).any (·.1))=false;rfl) (Calls.evalArgs_plain ?_)
 exact thn hA fun us s2 ⟨vs,H2,I2,r2,q2⟩=>zpc pins s2 σ H2 (.ref p) vs (.ref p) us Q I2 rfl r2 q2
theorem zpx {X:Cx}{o e:Expr}{mo me:ME}{apos cpos:Pos}(ho:SE X o mo)(he:SE X e me)
  (hbase:autoParam (attributeBase o "index" X.env (eval o X.env)=eval o X.env) zu2._auto_1)
  (hfew :autoParam (((backTo cpos (starEach [e] X.env)).all (fun x => !x.1) && (backToKw cpos (keywordEach [] X.env)).all (fun x => x.1.isSome)
   &&decide ([e].length+([]:List Keyword).length+(if([]:List Keyword).isEmpty then 0 else 1)<30))=true) zu2._auto_1)
  (hline:autoParam ((apos.endLine==cpos.line)=true) zu2._auto_1) (hs:autoParam (starEach [e] X.env=(false,eval e X.env)::starEach [] X.env) zu2._auto_1):SE X (.Call (.Attribute o "index" apos) [e] [] cpos) (m2 zjJ mo me):=by
 obtain⟨to,po,so⟩:=ho
 obtain⟨te,pe,se⟩:=he
 refine⟨_,pe_or (zny PySem.F.plainAttrs_list PySem.F.slot_list_index PySem.F.type_list_index zmP po (za7 pe zcQ hs) hbase hfew hline hs rfl) (zo1 po (za7 pe zcQ hs) hbase hfew hline hs),fun B G H σ ρ d ρ' Q I hm k=>?_⟩
 obtain⟨⟨d1,ρ1⟩,e1,hm⟩:=zag hm
 obtain⟨⟨d2,ρ2⟩,e2,hm⟩:=zag hm
 obtain⟨d3,e3,hm⟩:=zav hm
 cases hm
 cases d1 with
 |lst ds=>
  refine .inl (so B G H σ ρ _ ρ1 _ I e1 fun G1 H1 v I1 f1 r1=>?_)
  cases d2 with
  |int i=>
   obtain⟨ns,e4,e3⟩:=zag e3
   obtain⟨a,xs,rfl,ha,rr⟩:=r1
   refine⟨.inl ⟨rfl,xs,SqL.of (I1.fz _ _ ha)⟩,?_⟩
   refine se B G1 H1 σ ρ1 _ ρ2 _ I1 e2 fun G2 H2 u I2 f2 r2=>?_
   cases(show u=V.int i from r2)
   split at e3
   ·rename_i hk
    cases e3
    cases zba e4
    have rl:=rr.mono f2
    have ex:xs=ns.map V.int:=RepL.ints_eq rl
    subst ex
    exact⟨a,ns,i,rfl,rfl,SqL.of (I2.fz _ _ (f2 _ _ ha)),hk,k G2 H2 _ I2 (f1.trans f2) rfl⟩
   ·cases e3
  |_=>cases e3
 |tup ds=>
  refine .inr (so B G H σ ρ _ ρ1 _ I e1 fun G1 H1 v I1 f1 r1=>?_)
  cases d2 with
  |int i=>
   obtain⟨ns,e4,e3⟩:=zag e3
   obtain⟨a,xs,rfl,ha,rr⟩:=r1
   refine⟨⟨a,xs,rfl,I1.fz _ _ ha⟩,?_⟩
   refine se B G1 H1 σ ρ1 _ ρ2 _ I1 e2 fun G2 H2 u I2 f2 r2=>?_
   cases(show u=V.int i from r2)
   split at e3
   ·rename_i hk
    cases e3
    cases zba e4
    have rl:=rr.mono f2
    have ex:xs=ns.map V.int:=RepL.ints_eq rl
    subst ex
    exact⟨a,ns,i,rfl,rfl,SqT.of (I2.fz _ _ (f2 _ _ ha)),hk,k G2 H2 _ I2 (f1.trans f2) rfl⟩
   ·cases e3
  |_=>cases e3
 |_=>cases e3
end M
namespace HT
open L2 PyProof.Rows PySem PySem.Spec
section
variable {prog:Program} {w:World} {A:Around} {E:Value->Shared->Prop} {s:Shared}
theorem zoE {j n m:Nat}(hj:j<=n)(hm:0<m):Builtin.Slice.sliceAdjust (some (j:Int)) none (m:Int) (n:Int)=((j:Int),(n:Int)):=by
 unfold Builtin.Slice.sliceAdjust
 have h1:¬((m:Int)<0):=by lia
 have h2:¬((j:Int)<0):=by lia
 simp only[h1,h2,if_false]
 congr 1
 lia
theorem zif {sl:Addr}{vl vs:Value}{j n m:Nat}{Q:Int×Int×Nat->Shared->Prop}(hs:s.heap.IsSliceOf sl vl .none vs)(pl:IsPart vl (some (j:Int)))(ps:IsPart vs (some (m:Int)))(hj:j<=n)(hm:0<m)
  (h:Q ((j:Int),(m:Int),Builtin.Slice.slicePlaces (j:Int) (n:Int) (m:Int)) s):wpAny (model prog w) A (Builtin.Slice.sliceApplied (.ref sl) (pure (n:Int))) Q E s:=by
 obtain⟨os,hos,hcs,hds⟩:=id hs
 unfold Builtin.Slice.sliceApplied Builtin.Slice.sliceFields
 refine wpAny_bind (wpAny_bind (wpAny_field hos hds (x:=vl) rfl (wpAny_bind (wpAny_field hos hds (x:= .none) rfl (wpAny_bind (wpAny_field hos hds (x:=vs) rfl (wpAny_pure ?_)))))))
 refine wpAny_bind (zfX ps ?_)
 show wpAny _ _ (if((m:Int)==0)=true then _ else _) _ _ s
 rw[if_neg (by simp;lia)]
 refine wpAny_bind (zfX pl (wpAny_bind (slicePart_none (wpAny_bind (wpAny_pure ?_)))))
 show wpAny _ _ (match Builtin.Slice.sliceAdjust (some (j:Int)) none (m:Int) (n:Int)with|(lo,hi)=>pure (lo,(m:Int),Builtin.Slice.slicePlaces lo hi (m:Int))) _ _ s
 rw[zoE hj hm]
 exact wpAny_pure h
theorem pick_st (its:List Value){j m:Nat}(hj:j<=its.length)(hm:0<m):((List.range (Builtin.Slice.slicePlaces (j:Int) ((its.toArray.size:Nat):Int) (m:Int))).filterMap fun(i:Nat)=>its.toArray[((j:Int)+(i:Int)*(m:Int)).toNat]?).toArray=(M.zaJ its (some (j:Int)) none (some (m:Int))).toArray:=by
 congr 1
 unfold M.zaJ
 have hb:sliceBounds (some (j:Int)) none (some (m:Int)) its.length=((j:Int),(its.length:Int),(m:Int)):=by
  unfold sliceBounds
  have h1:(m:Int)>0:=by lia
  have h2:¬((j:Int)<0):=by lia
  simp only[Option.getD_some,h1,h2,if_true,if_false]
  congr 1
  lia
 rw[hb]
 unfold sliceRange Builtin.Slice.slicePlaces
 have h1:(m:Int)>0:=by lia
 simp only[h1,if_true,List.size_toArray]
 have hc:((its.length:Int)-j+m-1)/(m:Int)=((its.length:Int)-j-1)/(m:Int)+1:=by
  rw[show(its.length:Int)-j+m-1=(its.length:Int)-j-1+1*m by lia,Int.add_mul_ediv_right _ _ (by lia)]
 rw[hc,List.filterMap_map]
 congr 1
 funext i
 show its.toArray[_]? =its[_]?
 rw[List.getElem?_toArray,Int.mul_comm]
theorem zhR {t sl:Addr}{its:List Value}{vl vs:Value}{j m:Nat}{Q:Value->Shared->Prop}(ht:IsTup s.heap t its.toArray)(hs:s.heap.IsSliceOf sl vl .none vs)(pl:IsPart vl (some (j:Int)))(ps:IsPart vs (some (m:Int)))(hj:j<=its.length)(hm:2<=m)
  (h:Q (.ref s.heap.objs.size) {s with heap:=s.heap.push {cls:= .type "tuple",data:= .seq (M.zaJ its (some (j:Int)) none (some (m:Int))).toArray}})
  (hsz:(M.zaJ its (some (j:Int)) none (some (m:Int))).length<=sizeLine):wpAny (model prog w) A (getItem (.ref t) (.ref sl)) Q E s:=by
 have htake:sizeOk (.seq (M.zaJ its (some (j:Int)) none (some (m:Int))).toArray):=by
  show(M.zaJ its (some (j:Int)) none (some (m:Int))).toArray.size<=sizeLine
  simpa using hsz
 obtain⟨os,hos,hcs,hds⟩:=id hs
 have hTs:s.TypeIs (.ref sl) "slice":=⟨os,hos,hcs⟩
 unfold getItem
 try with_reducible refine wpAny_holding ?_
 first|refine wpAny_bind (wpAny_pure ?_)|skip
 refine wpAny_bind (wpAny_sequenceKey ht.typeIs (by decide) ?_)
 refine wpAny_bind (wpAny_callSpecial?_slot (name:=Str.ofString "__getitem__") ht.typeIs PyProof.Rows.slot_tuple_getitem
  (wpAny_call_entry PyProof.Rows.slot_tuple_getitem ht.typeIs entry_tuple_getitem ?_ (args_tuple_getitem _ _)))
 show wpAny _ _ (Builtin.Tuple.tupleItemsOf (.ref t)>>=_) _ _ s
 refine wpAny_bind (tupleItemsOf_ ht ?_)
 refine wpAny_bind (wpAny_typeOf hTs ?_)
 rw[if_pos (by decide)]
 refine wpAny_bind (zif hs pl ps (n:=its.toArray.size) (by simpa using hj) (by lia) ?_)
 have hno:¬(((j:Int)==0&&(m:Int)==1&&Builtin.Slice.slicePlaces (j:Int) ((its.toArray.size:Nat):Int) (m:Int)==its.toArray.size)=true):=by
  intro q
  rw[Bool.and_eq_true,Bool.and_eq_true]at q
  have:=q.1.2
  simp at this
  lia
 show wpAny _ _ (if((j:Int)==0&&(m:Int)==1&&Builtin.Slice.slicePlaces (j:Int) ((its.toArray.size:Nat):Int) (m:Int)==its.toArray.size)=true then _ else _) _ _ s
 rw[if_neg hno,pick_st its hj (by lia)]
 first
  |exact wpAny_bind (m:=Builtin.Tuple.tupleExact _) (wpAny_newObj_type (wpAny_pure ⟨_,rfl,wpAny_pure h⟩) htake)
  |exact wpAny_bind (m:=Builtin.Tuple.tupleExact _) (wpAny_newObj_type (wpAny_bind (wpAny_pure (wpAny_pure ⟨_,rfl,wpAny_pure h⟩))) htake)
  |exact wpAny_bind (wpAny_bind (m:=Builtin.Tuple.tupleExact _) (wpAny_newObj_type (wpAny_pure (wpAny_pure ⟨_,rfl,wpAny_pure h⟩)) htake))
  |exact wpAny_bind (wpAny_bind (m:=Builtin.Tuple.tupleExact _) (wpAny_newObj_type (wpAny_pure ⟨_,rfl,wpAny_pure h⟩) htake))
end
end HT
namespace M
open L2 PyProof.Rows PySem
section
variable {X:Cx} {e st:Expr} {lo hi:Option Expr} {te:TE} {tl th ts:TO} {p2 pos:Pos}
theorem pe_stT (he:PE X e te)(hl:PO X lo tl)(hu:PO X hi th)(hst:PO X (some st) ts):PE X (.Subscript e (.Slice lo hi (some st) p2) pos)
  (fun σ H Q=>te σ H fun x H1=>tl σ H1 fun l H2=>th σ H2 fun u H3=>ts σ H3 fun c H4=>∃(a:Addr) (xs:List V) (j m:Nat),l=some (j:Int)/\u=none/\c=some (m:Int)/\j<=xs.length/\2<=m/\x= .ref a/\SqT X.K H4 a xs/\∀p,H4 p=none->Q (.ref p) (upd H4 p (.tup (zaJ xs (some (j:Int)) none (some (m:Int)))))):=by
 intro pins s σ H Q I h
 refine Subscript_ (thn (he pins s σ H _ I h) fun v s1 ⟨x,H1,I1,r1,q1⟩=>?_)
 refine wpAny_Slice (thn (hl pins s1 σ H1 _ I1 q1) fun vl s2 ⟨l,H2,I2,pl,q2⟩=>thn (hu pins s2 σ H2 _ I2 q2) fun vu s3 ⟨u,H3,I3,pu,q3⟩=>thn (hst pins s3 σ H3 _ I3 q3) fun vs s4 ⟨c,H4,I4,pc,q4⟩=>?_)
 have I5:Inv X pins σ H4 {s4 with heap:=s4.heap.push {cls:= .type "slice",data:= .fields #[vl,vu,vs]}}:=I4.kept (t':=s4.toks) fun b ob q=>Heap.get?_push_of_some _ q
 obtain⟨a,xs,j,m,rfl,rfl,rfl,hj,hm,rfl,hx,q⟩:=q4
 cases r1
 cases pu
 obtain⟨its,r,ht,hz⟩:=I5.tuple hx
 have hlen:=r.length
 have e2:(zaJ xs (some (j:Int)) none (some (m:Int))).length=(zaJ its (some (j:Int)) none (some (m:Int))).length:=by
  unfold zaJ;rw[hlen];exact(picks r _).length
 have e3:=zhD hlen (some (j:Int)) none (some (m:Int))
 have hg:wpAny (model X.prog X.w) X.A (getItem (.ref a) (.ref s4.heap.objs.size)) (EP X pins σ Q) X.xe {s4 with heap:=s4.heap.push {cls:= .type "slice",data:= .fields #[vl,.none,vs]}}:=by
  refine HT.zhR ht (Heap.IsSliceOf.new ..) pl pc (by lia) hm ?_ (by lia)
  refine⟨.ref _,_,I5.laid (t':=s4.toks) (o:= .tup (zaJ xs (some (j:Int)) none (some (m:Int)))) (fun b ob q=>Heap.get?_push_of_some _ q) (Nat.le_refl _) ?_,rfl,q _ (I5.hok.fresh (Nat.le_refl _))⟩
  refine⟨by lia,zaJ its (some (j:Int)) none (some (m:Int)),?_,?_⟩
  ·unfold zaJ;rw[hlen];exact picks r _
  ·exact L2.IsTupD.new _ _
 show wpAny (model X.prog X.w) X.A (subscriptTail e (.Slice lo hi (some st) p2) (.ref a) (.ref s4.heap.objs.size)) (EP X pins σ Q) X.xe {s4 with heap:=s4.heap.push {cls:= .type "slice",data:= .fields #[vl,.none,vs]}}
 exact tail_any (ops:=[.ref a,.ref s4.heap.objs.size]) ht.typeIs slot_tuple_getitem.lookup hg (by with_unfolding_all rfl)
end
noncomputable def zl9 (d:D)(lo hi st:Option Int):Option D:=match d,lo,hi,st with
 | .tup ds,some l,none,some c=>if 0<=l/\l.toNat<=ds.length/\2<=c then some (.tup (zaJ ds (some l) none (some c)))else none
 |d,lo,hi,st=>zlH d lo hi st
noncomputable def zn0 (ma:ME)(ml mh ms:MP):ME:=fun ρ=>(ma ρ).bind fun p=>(ml p.2).bind fun q=>(mh q.2).bind fun r=>(ms r.2).bind fun t=>(zl9 p.1 q.1 r.1 t.1).map fun d=>(d,t.2)
theorem se_cutS2 {X:Cx}{e st:Expr}{lo hi:Option Expr}{ma:ME}{ml mh ms:MP}{pos p2:Pos}(he:SE X e ma)(hl:SPt X lo ml)(hu:SPt X hi mh)(hs:SPt X (some st) ms):SE X (.Subscript e (.Slice lo hi (some st) p2) pos) (zn0 ma ml mh ms):=by
 obtain⟨ta,pa,sa⟩:=he
 obtain⟨tl,pl,sl⟩:=hl
 obtain⟨th,ph,sh⟩:=hu
 obtain⟨tc,pc,sc⟩:=hs
 refine⟨_,pe_or (zi4 pa pl ph pc) (pe_stT pa pl ph pc),fun B G H σ ρ d ρ' Q I hm k=>?_⟩
 obtain⟨⟨x,ρ1⟩,e1,hm⟩:=zag hm
 obtain⟨⟨l,ρ2⟩,e2,hm⟩:=zag hm
 obtain⟨⟨u,ρ3⟩,e3,hm⟩:=zag hm
 obtain⟨⟨c,ρ4⟩,e4,hm⟩:=zag hm
 obtain⟨y,e5,e6⟩:=zav hm
 obtain⟨rfl,rfl⟩:=Prod.mk.inj e6
 dsimp only at e5
 match x,l,u,c,e1,e2,e3,e4,e5 with
 | .lst ds,l,u,c,e1,e2,e3,e4,e5=>
  refine .inl (sa B G H σ ρ _ ρ1 _ I e1 fun G1 H1 v I1 f1 r1=>sl B G1 H1 σ ρ1 l ρ2 _ I1 e2 fun G2 H2 I2 f2=>sh B G2 H2 σ ρ2 u ρ3 _ I2 e3 fun G3 H3 I3 f3=>sc B G3 H3 σ ρ3 c ρ4 _ I3 e4 fun G4 H4 I4 f4=>?_)
  have r3:=r1.mono (f2.trans (f3.trans f4))
  have e5:(if c=some 0 then none else some (D.lst (zaJ ds l u c)))=some y:=e5
  split at e5
  ·cases e5
  ·rename_i h0
   cases e5
   obtain⟨a,xs,rfl,ha,r⟩:=I4.lst r3
   refine⟨a,xs,rfl,SqL.of ha,h0,fun p hp=>?_⟩
   obtain⟨I5,f5,r5⟩:=I4.newL hp (r.pick l u c)
   exact k _ _ _ I5 (f1.trans (f2.trans (f3.trans (f4.trans f5)))) r5
 | .tup ds,some l,none,some c,e1,e2,e3,e4,e5=>
  refine .inr (sa B G H σ ρ _ ρ1 _ I e1 fun G1 H1 v I1 f1 r1=>sl B G1 H1 σ ρ1 (some l) ρ2 _ I1 e2 fun G2 H2 I2 f2=>sh B G2 H2 σ ρ2 none ρ3 _ I2 e3 fun G3 H3 I3 f3=>sc B G3 H3 σ ρ3 (some c) ρ4 _ I3 e4 fun G4 H4 I4 f4=>?_)
  have r3:=r1.mono (f2.trans (f3.trans f4))
  have e5:(if 0<=l/\l.toNat<=ds.length/\2<=c then some (D.tup (zaJ ds (some l) none (some c)))else none)=some y:=e5
  split at e5
  ·rename_i h0
   cases e5
   obtain⟨a,xs,rfl,ha,r⟩:=I4.tup r3
   have hl:=r.length
   have q1:l=((l.toNat:Nat):Int):=by lia
   have q2:c=((c.toNat:Nat):Int):=by lia
   refine⟨a,xs,l.toNat,c.toNat,by rw[<-q1],rfl,by rw[<-q2],by lia,by lia,rfl,SqT.of ha,fun p hp=>?_⟩
   rw[<-q1,<-q2]
   obtain⟨I5,f5,r5⟩:=I4.newT hp (r.pick (some l) none (some c))
   exact k _ _ _ I5 (f1.trans (f2.trans (f3.trans (f4.trans f5)))) r5
  ·cases e5
end M
namespace M
open L2 PySem
variable {c d x:D} {b:MS} {z:Bool} {Q:Fl×R->Prop} {a i n j N k:Nat} {f:D->R->Option (Option D×R)} {g:D->R->Option R} {mt:MT} {me m:ME} {ρ:R} {r:Sl} {h:List D->R->Option R} {ds xs ys:List D} {mi ma:MA} {t:Option Sl} {F:List D->Option Sl} {cap:List Nat} {I:R->Prop} {ns:List Int}
noncomputable abbrev Rt {α:Type}(_:α->Prop):Type:=Option α
noncomputable def OkQ {α:Type}(Q:α->Prop)(o:Rt Q):Prop:=∃a,o=some a/\Q a
noncomputable def Ok {α:Type}(o:Option α)(Q:α->Prop):Prop:=OkQ Q o
noncomputable abbrev RtS {α:Sort u}(_:α):Type:=Option Sl
section
variable {α β:Type} {o:Option α} {Q Q':α->Prop}
theorem ok_some {a:α}:OkQ Q (some a)=Q a:=propext ⟨fun⟨_,e,q⟩=>by cases e;exact q,fun q=>⟨a,rfl,q⟩⟩
theorem ok_none:OkQ Q (none:Option α)=False:=propext ⟨fun⟨_,e,_⟩=>(by cases e),False.elim⟩
theorem ok_bind {f:α->Option β}{Q:β->Prop}:OkQ Q (o.bind f)=OkQ (fun a=>OkQ Q (f a)) o:=by
 cases o with
 |none=>exact propext ⟨fun⟨_,e,_⟩=>(by cases e),fun⟨_,e,_⟩=>(by cases e)⟩
 |some a=>exact propext ⟨fun h=>⟨a,rfl,h⟩,fun⟨_,e,h⟩=>by cases e;exact h⟩
theorem ok_map {f:α->β}{Q:β->Prop}:OkQ Q (o.map f)=OkQ (fun a=>Q (f a)) o:=by
 cases o with
 |none=>exact propext ⟨fun⟨_,e,_⟩=>(by cases e),fun⟨_,e,_⟩=>(by cases e)⟩
 |some a=>exact propext ⟨fun h=>⟨a,rfl,ok_some.mp h⟩,fun⟨_,e,h⟩=>by cases e;exact ok_some.mpr h⟩
theorem zfR {c:Prop}[Decidable c]:OkQ Q (if c then o else none)=(c/\OkQ Q o):=by
 by_cases h:c
 ·rw[if_pos h];exact propext ⟨fun k=>⟨h,k⟩,fun k=>k.2⟩
 ·rw[if_neg h];exact propext ⟨fun k=>(ok_none.mp k).elim,fun k=>absurd k.1 h⟩
theorem ok_Q:Ok o Q=OkQ Q o:=rfl
noncomputable def gd {α:Type}(b:Bool)(o:Option α):Option α:=if b then o else none
theorem ok_gd {b:Bool}(h:b=true):OkQ Q (gd b o)=OkQ Q o:=by subst h;rfl
theorem Ok.mono (h:Ok o Q)(k:∀a,Q a->Q' a):Ok o Q':=by
 obtain⟨a,e,q⟩:=h;exact⟨a,e,k a q⟩
theorem zaF {Q':α->Prop}(h:∀a,Q a=Q' a):OkQ Q o=OkQ Q' o:=by rw[funext h]
end
section
variable {c:MT} {a b:MS} {ρ:R}
theorem zkw {α:Type}{o u:Option α}{Q:α->Prop}:OkQ Q (if z then o else u)=((z=true->OkQ Q o)/\(z=false->OkQ Q u)):=by cases z<;>simp
theorem ok_sIf:OkQ Q (sIf c a b ρ)=(OkQ (fun p=>(p.1=true->OkQ Q (a p.2))/\(p.1=false->OkQ Q (b p.2))) (c ρ)):=by
 unfold sIf;rw[ok_bind];exact zaF fun p=>zkw
theorem ok_eIf {a b:ME}{Q:D×R->Prop}:OkQ Q (eIf c a b ρ)=(OkQ (fun p=>(p.1=true->OkQ Q (a p.2))/\(p.1=false->OkQ Q (b p.2))) (c ρ)):=by
 unfold eIf;rw[ok_bind];exact zaF fun p=>zkw
theorem ok_tAnd {a b:MT}{Q:Bool×R->Prop}:OkQ Q (tAndM a b ρ)=(OkQ (fun p=>(p.1=true->OkQ Q (b p.2))/\(p.1=false->Q (false,p.2))) (a ρ)):=by
 unfold tAndM;rw[ok_bind];exact zaF fun p=>by rw[zkw,ok_some]
theorem ok_tOr {a b:MT}{Q:Bool×R->Prop}:OkQ Q (tOrM a b ρ)=(OkQ (fun p=>(p.1=true->Q (true,p.2))/\(p.1=false->OkQ Q (b p.2))) (a ρ)):=by
 unfold tOrM;rw[ok_bind];exact zaF fun p=>by rw[zkw,ok_some]
theorem ok_eAnd {a b:ME}{Q:D×R->Prop}:OkQ Q (eAnd a b ρ)=(OkQ (fun p=>∃z,p.1= .bl z/\(z=true->OkQ Q (b p.2))/\(z=false->Q (.bl false,p.2))) (a ρ)):=by
 unfold eAnd;rw[ok_bind]
 have:∀p:D×R,Ok (match p.1 with
  | .bl true=>b p.2
  | .bl false=>some (.bl false,p.2)
  |_=>none) Q↔∃z,p.1= .bl z/\(z=true->Ok (b p.2) Q)/\(z=false->Q (.bl false,p.2)):=by
  rintro⟨d,ρ⟩
  cases d with
  |bl z=>cases z<;>simp[ok_Q,ok_some]
  |_=>simp[ok_Q,ok_none]
 exact zaF fun p=>propext (this p)
theorem ok_eOr {a b:ME}{Q:D×R->Prop}:OkQ Q (eOr a b ρ)=(OkQ (fun p=>∃z,p.1= .bl z/\(z=true->Q (.bl true,p.2))/\(z=false->OkQ Q (b p.2))) (a ρ)):=by
 unfold eOr;rw[ok_bind]
 have:∀p:D×R,Ok (match p.1 with
  | .bl true=>some (.bl true,p.2)
  | .bl false=>b p.2
  |_=>none) Q↔∃z,p.1= .bl z/\(z=true->Q (.bl true,p.2))/\(z=false->Ok (b p.2) Q):=by
  rintro⟨d,ρ⟩
  cases d with
  |bl z=>cases z<;>simp[ok_Q,ok_some]
  |_=>simp[ok_Q,ok_none]
 exact zaF fun p=>propext (this p)
theorem ok_chain {f g:D->D->Option D}{a b c:ME}{Q:D×R->Prop}:OkQ Q (ziI f g a b c ρ)=(OkQ (fun p=>OkQ (fun q=>OkQ (fun t=>∃z,t= .bl z/\(z=true->OkQ (fun r=>OkQ (fun d=>Q (d,r.2)) (g q.1 r.1)) (c q.2))/\(z=false->Q (.bl false,q.2))) (f p.1 q.1)) (b p.2)) (a ρ)):=by
 unfold ziI;rw[ok_bind]
 have:∀(p q:D×R) (t:D),Ok (match t with
  | .bl true=>(c q.2).bind fun r=>(g q.1 r.1).map fun d=>(d,r.2)
  | .bl false=>some (.bl false,q.2)
  |_=>none) Q↔∃z,t= .bl z/\(z=true->Ok (c q.2) fun r=>Ok (g q.1 r.1) fun d=>Q (d,r.2))/\(z=false->Q (.bl false,q.2)):=by
  intro p q t
  cases t with
  |bl z=>
   cases z
   ·simp[ok_Q,ok_some]
   ·simp only[ok_Q,ok_bind,D.bl.injEq,exists_eq_left',forall_const,reduceCtorEq,false_implies,and_true]
    exact iff_of_eq (zaF fun r=>ok_map)
  |_=>simp[ok_Q,ok_none]
 exact zaF fun p=>by rw[ok_bind];exact zaF fun q=>by rw[ok_bind];exact zaF fun t=>propext (this p q t)
theorem ok_turnM {Q:Option D×R->Prop}:OkQ Q (zlA g mt me d ρ)=(OkQ (fun ρ1=>OkQ (fun p=>(p.1=true->OkQ (fun q=>zdD q.2=true/\Q (some q.1,q.2)) (me p.2))/\(p.1=false->zdD p.2=true/\Q (none,p.2))) (mt ρ1)) (g d ρ)):=by
 unfold zlA;rw[ok_bind];exact zaF fun ρ1=>by rw[ok_bind];exact zaF fun p=>by rw[zkw,ok_bind,zfR,ok_some];congr 1;exact propext (imp_congr Iff.rfl (iff_of_eq (zaF fun q=>by rw[zfR,ok_some])))
theorem ok_turnP {bk:Nat}{Q:Option D×R->Prop}:OkQ Q (znj bk g mt me d ρ)=(OkQ (fun ρ1=>OkQ (fun p=>(p.1=true->OkQ (fun q=>zlr bk q.2=true/\Q (some q.1,q.2)) (me p.2))/\(p.1=false->zlr bk p.2=true/\Q (none,p.2))) (mt ρ1)) (g d ρ)):=by
 unfold znj;rw[ok_bind];exact zaF fun ρ1=>by rw[ok_bind];exact zaF fun p=>by rw[zkw,ok_bind,zfR,ok_some];congr 1;exact propext (imp_congr Iff.rfl (iff_of_eq (zaF fun q=>by rw[zfR,ok_some])))
theorem zng (n:Nat):Int.natAbs (no_index (OfNat.ofNat n))=n:=rfl
end
section
theorem ok_sNext:OkQ Q (zbr ρ)=(Q (.next,ρ)):=ok_some
noncomputable def SeqK (b:MS)(Q:Fl×R->Prop)(p:Fl×R):Prop:=OkQ Q (match p.1 with
 | .next=>b p.2
 |f=>some (f,p.2))
theorem zps:SeqK b Q (.next,ρ)=(OkQ Q (b ρ)):=rfl
theorem seqK_ret:SeqK b Q (.ret r,ρ)=(Q (.ret r,ρ)):=ok_some
theorem seqK_brk:SeqK b Q (.brk,ρ)=(Q (.brk,ρ)):=ok_some
theorem zoI:SeqK b Q (.cont,ρ)=(Q (.cont,ρ)):=ok_some
theorem ok_sSeq {a b:MS}:OkQ Q (sSeq a b ρ)=(OkQ (SeqK b Q) (a ρ)):=ok_bind
theorem ok_sRet:OkQ Q (sRet m ρ)=(OkQ (fun p=>Q (.ret (.val p.1),p.2)) (m ρ)):=ok_map
theorem ok_sRetO {m:MO}:OkQ Q (zgZ m ρ)=(OkQ (fun p=>Q (.ret (.own p.1),p.2)) (m ρ)):=ok_map
theorem ok_sRetV:OkQ Q (ziO i ρ)=OkQ Q (match ρ[i]? with
 |some (.val d)=>some (.ret (.val d),ρ)
 |some (.own ds)=>some (.ret (.own ds),ρ.set i .emp)
 |_=>none):=rfl
theorem ok_gN {Q:R->Prop}:OkQ Q (gN i d ρ)=(Q (ρ.set i (.val d))):=ok_some
theorem ok_gsNil {ds:List D}{ρ:R}{Q:R->Prop}:OkQ Q (zcw ds ρ)=OkQ Q (match ds with
 |[]=>some ρ
 |_=>none):=rfl
theorem zn9 {Q:R->Prop}:OkQ Q (zar g h ds ρ)=OkQ Q (match ds with
 |d::ds=>(g d ρ).bind fun ρ1=>h ds ρ1
 |[]=>none):=rfl
theorem ok_gT {g:List D->R->Option R}{Q:R->Prop}:OkQ Q (gT n g d ρ)=OkQ Q (match d with
 | .tup ds=>if ds.length=n then g ds ρ else none
 |_=>none):=rfl
theorem ok_sAsg:OkQ Q (sAsg m g ρ)=(OkQ (fun p=>OkQ (fun ρ'=>Q (.next,ρ')) (g p.1 p.2)) (m ρ)):=ok_bind.trans (zaF fun _=>ok_map)
theorem ok_sSet:OkQ Q (sSet i m ρ)=(OkQ (fun p=>Q (.next,p.2.set i (.val p.1))) (m ρ)):=ok_map
theorem ok_sSetO {m:MO}:OkQ Q (zfy i m ρ)=(OkQ (fun p=>Q (.next,p.2.set i (.own p.1))) (m ρ)):=ok_map
theorem ok_sApp:OkQ Q (sApp i m ρ)=OkQ Q (gd ((ρ[i]?.bind Sl.items).isSome) ((m ρ).bind fun p=>p.2[i]?.bind fun s=>s.items.bind fun ds=>if ds.length<16777216 then some (.next,p.2.set i (s.put (ds++[p.1])))else none)):=rfl
theorem ok_sPut {mi me:ME}:OkQ Q (sPut j mi me ρ)=OkQ Q ((me ρ).bind fun p=>gd (hasV p.2 j) ((mi p.2).bind fun q=>match q.1 with
 | .int k=>q.2[j]?.bind fun s=>s.items.bind fun ds=>(ixN ds.length k).bind fun n=>some (.next,q.2.set j (s.put (ds.set n p.1)))
 |_=>none)):=rfl
theorem ok_eC {Q:D×R->Prop}:OkQ Q (eC d ρ)=(Q (d,ρ)):=ok_some
noncomputable def eVQ (Q:D×R->Prop)(s:RtS Q)(ρ:R)(i:Nat):Prop:=match s with
 |some (.val d)=>Q (d,ρ)
 |some (.own ds)=>Q (.lst ds,ρ.set i (.val (.lst ds)))
 |_=>False
theorem zil {Q:D×R->Prop}:eVQ Q (some (.val d)) ρ i=Q (d,ρ):=rfl
theorem eVQ_own {Q:D×R->Prop}:eVQ Q (some (.own ds)) ρ i=Q (.lst ds,ρ.set i (.val (.lst ds))):=rfl
theorem zis {Q:D×R->Prop}:OkQ Q (eVar i ρ)=eVQ Q ρ[i]? ρ i:=by
 unfold eVar eVQ
 cases ρ[i]? with
 |none=>exact ok_none
 |some s=>cases s<;>first|exact ok_some|exact ok_none
noncomputable def Vb (Q:D->D->Prop)(P:Prop)(s:RtS Q)(t:Option Sl):Prop:=match s,t with
 |some (.val x),some (.val y)=>Q x y
 |_,_=>P
theorem Vb_val {Q:D->D->Prop}{P:Prop}{x y:D}:Vb Q P (some (.val x)) (some (.val y))=Q x y:=rfl
theorem Vb_own {Q:D->D->Prop}{P:Prop}:Vb Q P (some (.own xs)) t=P:=rfl
theorem Vb_own2 {Q:D->D->Prop}{P:Prop}:Vb Q P (some (.val x)) (some (.own ys))=P:=rfl
noncomputable def Va (Q:D->Prop)(P:Prop)(s:RtS Q):Prop:=match s with
 |some (.val x)=>Q x
 |_=>P
theorem Va_val {Q:D->Prop}{P:Prop}:Va Q P (some (.val x))=Q x:=rfl
theorem Va_own {Q:D->Prop}{P:Prop}:Va Q P (some (.own xs))=P:=rfl
theorem ok_aNil {Q:List D×R->Prop}:OkQ Q (aNil ρ)=(Q ([],ρ)):=ok_some
theorem ok_aCons {r:MA}{Q:List D×R->Prop}:OkQ Q (zaf m r ρ)=(OkQ (fun p=>OkQ (fun q=>Q (p.1::q.1,q.2)) (r p.2)) (m ρ)):=ok_bind.trans (zaF fun _=>ok_map)
theorem ok_m2 {f:D->D->Option D}{ma mb:ME}{Q:D×R->Prop}:OkQ Q (m2 f ma mb ρ)=(OkQ (fun p=>OkQ (fun q=>OkQ (fun d=>Q (d,q.2)) (f p.1 q.1)) (mb p.2)) (ma ρ)):=ok_bind.trans (zaF fun _=>ok_bind.trans (zaF fun _=>ok_map))
theorem ok_m2VV {f:D->D->Option D}{a b:Nat}{Q:D×R->Prop}:OkQ Q (m2 f (eVar a) (eVar b) ρ)=Vb (fun x y=>OkQ (fun d=>Q (d,ρ)) (f x y)) (OkQ (fun p=>OkQ (fun q=>OkQ (fun d=>Q (d,q.2)) (f p.1 q.1)) (eVar b p.2)) (eVar a ρ)) ρ[a]? ρ[b]?:=by
 rw[ok_m2,Vb.eq_def]
 split
 ·rename_i x y h1 h2
  rw[zis,h1,zil,zis,h2,zil]
 ·rfl
theorem ok_m2VC {f:D->D->Option D}{Q:D×R->Prop}:OkQ Q (m2 f (eVar a) (eC c) ρ)=Va (fun x=>OkQ (fun d=>Q (d,ρ)) (f x c)) (OkQ (fun p=>OkQ (fun d=>Q (d,p.2)) (f p.1 c)) (eVar a ρ)) ρ[a]?:=by
 rw[ok_m2,Va.eq_def,show(fun p:D×R=>OkQ (fun q=>OkQ (fun d=>Q (d,q.2)) (f p.1 q.1)) (eC c p.2))=fun p=>OkQ (fun d=>Q (d,p.2)) (f p.1 c)from funext fun p=>ok_eC]
 split
 ·rename_i x h1
  rw[zis,h1,zil]
 ·rfl
theorem ok_m2CV {f:D->D->Option D}{Q:D×R->Prop}:OkQ Q (m2 f (eC c) (eVar a) ρ)=Va (fun x=>OkQ (fun d=>Q (d,ρ)) (f c x)) (OkQ (fun p=>OkQ (fun d=>Q (d,p.2)) (f c p.1)) (eVar a ρ)) ρ[a]?:=by
 rw[ok_m2,Va.eq_def,ok_eC]
 split
 ·rename_i x h1
  rw[zis,h1,zil]
 ·rfl
theorem ok_m1 {f:D->Option D}{ma:ME}{Q:D×R->Prop}:OkQ Q (m1 f ma ρ)=(OkQ (fun p=>OkQ (fun d=>Q (d,p.2)) (f p.1)) (ma ρ)):=ok_bind.trans (zaF fun _=>ok_map)
theorem ok_mC {f:List D->Option D}{Q:D×R->Prop}:OkQ Q (mC f ma ρ)=(OkQ (fun p=>OkQ (fun d=>Q (d,p.2)) (f p.1)) (ma ρ)):=ok_bind.trans (zaF fun _=>ok_map)
theorem ok_eIxV {mi:ME}{Q:D×R->Prop}:OkQ Q (eIxV j mi ρ)=OkQ Q (gd (hasV ρ j) ((mi ρ).bind fun p=>(p.2[j]?.bind Sl.read).bind fun d=>(dIx d p.1).map fun e=>(e,p.2))):=Eq.trans rfl rfl
noncomputable def ixR (s:Option Sl)(c:D):Option D:=match s with
 |some (.val d)=>dIx d c
 |some (.own ds)=>dIx (.lst ds) c
 |some (.par ds)=>dIx (.lst ds) c
 |_=>none
theorem ixR_val:ixR (some (.val d)) c=dIx d c:=rfl
theorem ixR_own:ixR (some (.own ds)) c=dIx (.lst ds) c:=rfl
theorem ixR_par:ixR (some (.par ds)) c=dIx (.lst ds) c:=rfl
theorem zmb:(if hasV ρ j then(ρ[j]?.bind Sl.read).bind fun d=>(dIx d c).map fun e=>(e,ρ)else none)=(ixR ρ[j]? c).map fun e=>(e,ρ):=by
 unfold hasV
 cases ρ[j]? with
 |none=>rfl
 |some s=>cases s<;>rfl
theorem ok_eIxC {Q:D×R->Prop}:OkQ Q (eIxV j (eC c) ρ)=OkQ (fun e=>Q (e,ρ)) (ixR ρ[j]? c):=by
 rw[show eIxV j (eC c) ρ=(ixR ρ[j]? c).map fun e=>(e,ρ)from zmb,ok_map]
theorem ok_eIxE {Q:D×R->Prop}:OkQ Q (eIxV j (eVar i) ρ)=Va (fun c=>OkQ (fun e=>Q (e,ρ)) (ixR ρ[j]? c)) (OkQ Q (gd (hasV ρ j) ((eVar i ρ).bind fun p=>(p.2[j]?.bind Sl.read).bind fun d=>(dIx d p.1).map fun e=>(e,p.2)))) ρ[i]?:=by
 rw[Va.eq_def]
 split
 ·rename_i x h1
  rw[show eIxV j (eVar i) ρ=(ixR ρ[j]? x).map fun e=>(e,ρ) by
   rw[<-zmb];unfold eIxV;rw[show eVar i ρ=some (x,ρ) by unfold eVar;rw[h1]];rfl,ok_map]
 ·rfl
theorem ok_eLenV {Q:D×R->Prop}:OkQ Q (zcG j ρ)=OkQ Q ((ρ[j]?.bind Sl.read).bind fun d=>(dLen [d]).map fun e=>(e,ρ)):=rfl
theorem ok_oC {f:List D->Option (List D)}{Q:List D×R->Prop}:OkQ Q (oC f ma ρ)=(OkQ (fun p=>OkQ (fun d=>Q (d,p.2)) (f p.1)) (ma ρ)):=ok_bind.trans (zaF fun _=>ok_map)
theorem ok_eTup {Q:D×R->Prop}:OkQ Q (eTup ma ρ)=(OkQ (fun p=>p.1.length<=16777216/\Q (.tup p.1,p.2)) (ma ρ)):=ok_bind.trans (zaF fun _=>by rw[zfR,ok_some])
theorem ok_oLst {Q:List D×R->Prop}:OkQ Q (oLst ma ρ)=(OkQ (fun p=>p.1.length<=16777216/\Q (p.1,p.2)) (ma ρ)):=ok_bind.trans (zaF fun _=>by rw[zfR,ok_some])
theorem ok_tTru {ma:ME}{Q:Bool×R->Prop}:OkQ Q (tTru ma ρ)=(OkQ (fun p=>OkQ (fun b=>Q (b,p.2)) (dTru p.1)) (ma ρ)):=ok_bind.trans (zaF fun _=>ok_map)
theorem ok_tNotM {a:MT}{Q:Bool×R->Prop}:OkQ Q (zdR a ρ)=(OkQ (fun p=>Q (!p.1,p.2)) (a ρ)):=ok_map
theorem ok_eCall {Q:D×R->Prop}:OkQ Q (zaR F ma ρ)=OkQ Q ((ma ρ).bind fun p=>(F p.1).bind fun r=>match r with
 | .val d=>some (d,p.2)
 | .own ds=>some (.lst ds,p.2)
 |_=>none):=rfl
theorem ok_oCall {Q:List D×R->Prop}:OkQ Q (zkC F ma ρ)=OkQ Q ((ma ρ).bind fun p=>(F p.1).bind fun r=>match r with
 | .own ds=>some (ds,p.2)
 |_=>none):=rfl
theorem znS {F:List D->List D->Option (Sl×List D)}{Q:D×R->Prop}:OkQ Q (zaZ F j ma ρ)=OkQ Q (gd ((ρ[j]?.bind Sl.items).isSome) ((ma ρ).bind fun p=>p.2[j]?.bind fun s=>s.items.bind fun cs=>(F cs p.1).bind fun r=>match r.1 with
 | .val d=>some (d,p.2.set j (s.put r.2))
 | .own ds=>some (.lst ds,p.2.set j (s.put r.2))
 |_=>none)):=rfl
theorem ok_iR2L {Q:List D×R->Prop}:OkQ Q (iR2L ma ρ)=OkQ Q ((ma ρ).bind fun p=>match p.1 with
 |[.int i,.int j]=>some (zgl i (j-i).toNat,p.2)
 |_=>none):=rfl
theorem ok_eFz {m:MO}{Q:D×R->Prop}:OkQ Q (eFz m ρ)=(OkQ (fun p=>Q (.lst p.1,p.2)) (m ρ)):=ok_map
theorem ok_eCut {ma:ME}{ml mh:MP}{Q:D×R->Prop}:OkQ Q (eCut ma ml mh ρ)=OkQ Q ((ma ρ).bind fun p=>(ml p.2).bind fun q=>(mh q.2).bind fun r=>(dCut p.1 q.1 r.1).map fun d=>(d,r.2)):=rfl
theorem ok_pNo {Q:Option Int×R->Prop}:OkQ Q (pNo ρ)=(Q (none,ρ)):=ok_some
theorem ok_pSome {Q:Option Int×R->Prop}:OkQ Q (zcC m ρ)=OkQ Q ((m ρ).bind fun p=>match p.1 with
 | .int i=>some (some i,p.2)
 |_=>none):=rfl
theorem ok_iSeq {Q:List D×R->Prop}:OkQ Q (iSeq m ρ)=(OkQ (fun p=>OkQ (fun ds=>Q (ds,p.2)) (za4 [p.1])) (m ρ)):=ok_bind.trans (zaF fun _=>ok_map)
theorem ok_iR1 {Q:List D×R->Prop}:OkQ Q (iR1 ma ρ)=OkQ Q ((ma ρ).bind fun p=>match p.1 with
 |[.int j]=>if zdo j then some (zgl 0 j.toNat,p.2)else none
 |_=>none):=rfl
theorem ok_sFor {mb:MS}:OkQ Q (sFor mi g mb ρ)=(OkQ (fun p=>OkQ Q (forM (fun d ρ=>(g d ρ).bind fun ρ'=>mb ρ') p.1 p.2)) (mi ρ)):=ok_bind
theorem ok_oLC {t:Nat}{Q:List D×R->Prop}:OkQ Q (oLC cap t mi g mt me ρ)=OkQ Q ((mi ρ).bind fun p=>if p.1.length<=16777216 then(zeq (zlA g mt me) p.1 (capR cap t (fzL cap p.2))).map fun q=>(q.1,fzL cap p.2)else none):=rfl
theorem ok_tTrue {Q:Bool×R->Prop}:OkQ Q (zbd ρ)=(Q (true,ρ)):=ok_some
theorem ok_eIsI {T:String}{ma:ME}{Q:D×R->Prop}:OkQ Q (eIsI T ma ρ)=OkQ Q ((ma ρ).bind fun p=>if okT T&&eIsI.noS1 p.1 then some (.bl (isI T p.1),p.2)else none):=rfl
theorem ok_sAugI {g:Int->Int->Int}:OkQ Q (zm8 i g me ρ)=OkQ Q (match ρ[i]? with
 |some (.val (.int a))=>(me ρ).bind fun p=>match p.1 with
  | .int b=>some (.next,p.2.set i (.val (.int (g a b))))
  |_=>none
 |_=>none):=rfl
theorem ok_eCutS {ma:ME}{ml mh ms:MP}{Q:D×R->Prop}:OkQ Q (zm9 ma ml mh ms ρ)=OkQ Q ((ma ρ).bind fun p=>(ml p.2).bind fun q=>(mh q.2).bind fun r=>(ms r.2).bind fun t=>(zlH p.1 q.1 r.1 t.1).map fun d=>(d,t.2)):=rfl
theorem ok_iR3 {Q:List D×R->Prop}:OkQ Q (iR3 ma ρ)=OkQ Q ((ma ρ).bind fun p=>match p.1 with
 |[.int i,.int j,.int k]=>if zdo i&&zdo j&&decide (0<k)&&decide (k<1073741824)then some (zl1 i k (cntS i j k),p.2)else none
 |_=>none):=rfl
theorem ok_oRep {ma mb:ME}{Q:List D×R->Prop}:OkQ Q (oRep ma mb ρ)=OkQ Q ((ma ρ).bind fun p=>(mb p.2).bind fun q=>match p.1,q.1 with
 | .lst xs,.int k=>if zdo k&&decide (xs.length*k.toNat<=16777216)then some ((List.replicate k.toNat xs).flatten,q.2)else none
 |_,_=>none):=rfl
theorem ok_iZ2 {Q:List D×R->Prop}:OkQ Q (iZ2 ma ρ)=OkQ Q ((ma ρ).bind fun p=>match p.1 with
 |[a,b]=>(za4 [a]).bind fun xs=>(za4 [b]).bind fun ys=>some (zlZ xs ys,p.2)
 |_=>none):=rfl
theorem ok_iEn {Q:List D×R->Prop}:OkQ Q (iEn ma ρ)=OkQ Q ((ma ρ).bind fun p=>(za4 p.1).map fun xs=>(zlp xs,p.2)):=rfl
theorem ok_oLCM {t b w:Nat}{Q:List D×R->Prop}:OkQ Q (oLCM cap t b w mi g mt me ρ)=OkQ Q ((mi ρ).bind fun p=>if p.1.length<=16777216 then
    ((fzL (cap.filter (· !=w)) p.2)[w]?).bind fun s=>s.items.bind fun cs=>(zeq (znj b g mt me) p.1 ((capR cap t (fzL (cap.filter (· !=w)) p.2)).set b (.par cs))).map fun q=>(q.1,(fzL (cap.filter (· !=w)) p.2).set w (s.put (zoD b q.2)))
  else none):=rfl
noncomputable def zko:Nat->List D->R
 |N,[]=>List.replicate N .emp
 |N,d::ds=> .val d::zko (N-1) ds
theorem zi2 {d:D}:zko N (d::ds)= .val d::zko (N-1) ds:=rfl
theorem zpb:zko N []=List.replicate N .emp:=rfl
theorem zh4:∀(N:Nat) (ds:List D),ds.map .val++List.replicate (N-ds.length) .emp=zko N ds
 |_,[]=>rfl
 |N,d::ds=>by rw[zi2,<-zh4 (N-1) ds,List.map_cons,List.length_cons,Nat.sub_sub,Nat.add_comm 1];rfl
theorem zpu {α β:Type}{f:α->β}{a:α}{l:List α}:(a::l).map f=f a::l.map f:=rfl
theorem map_nilR {α β:Type}{f:α->β}:[].map f=[]:=rfl
theorem ok_fP {m:MS}{Q:Sl->Prop}:OkQ Q (fP N m ds)=OkQ Q ((m (zko N ds)).bind fun p=>match p.1 with
 | .ret r=>some r
 | .next=>some (.val .non)
 |_=>none):=by rw[<-zh4];rfl
theorem ok_fM {m:MS}{cs:List D}{Q:Sl×List D->Prop}:OkQ Q (fM N m cs ds)=OkQ Q ((m (.par cs::zko (N-1) ds)).bind fun p=>match p.1,(p.2[0]?:Option Sl)with
 |Fl.ret r,some (Sl.par out)=>some (r,out)
 |Fl.next,some (Sl.par out)=>some (.val .non,out)
 |_,_=>none):=by rw[<-zh4,Nat.sub_sub,Nat.add_comm 1];rfl
end
noncomputable def Turn (I:R->Prop)(Q:Fl×R->Prop)(p:Fl×R):Prop:=match p.1 with
 | .next=>I p.2
 | .cont=>I p.2
 | .brk=>Q (.next,p.2)
 | .ret r=>Q (.ret r,p.2)
theorem zph:Turn I Q (.next,ρ)=(I ρ):=rfl
theorem zpG:Turn I Q (.cont,ρ)=(I ρ):=rfl
theorem turn_brk:Turn I Q (.brk,ρ)=(Q (.next,ρ)):=rfl
theorem turn_ret:Turn I Q (.ret r,ρ)=(Q (.ret r,ρ)):=rfl
theorem zoO {α:Type}{f:D->R->Option (Fl×R)}(enc:α->D)(I:Nat->R->Prop):∀(l:List α) (b:Nat) (ρ:R),I b ρ->
  (∀i a ρ,l[i]? =some a->I (b+i) ρ->Ok (f (enc a) ρ) (Turn (I (b+i+1)) Q))->(∀ρ,I (b+l.length) ρ->Q (.next,ρ))->Ok (forM f (l.map enc) ρ) Q
 |[],b,ρ,h0,_,hq=>ok_some.mpr (hq ρ h0)
 |a::l,b,ρ,h0,hs,hq=>by
  obtain⟨p,e,t⟩:=hs 0 a ρ rfl h0
  obtain⟨fl,ρ1⟩:=p
  have go:∀ρ1,I (b+1) ρ1->Ok (forM f (l.map enc) ρ1) Q:=fun ρ1 h1=>zoO enc I l (b+1) ρ1 h1 (fun i a' ρ' hi hp=>by
   have:=hs (i+1) a' ρ' (by simpa using hi) (by rw[show b+(i+1)=b+1+i by lia];exact hp)
   rw[show b+(i+1)+1=b+1+i+1 by lia]at this
   exact this) (fun ρ h=>hq ρ (by rw[List.length_cons,show b+(l.length+1)=b+1+l.length by lia];exact h))
  have e':forM f ((a::l).map enc) ρ=(f (enc a) ρ).bind fun p=>match p.1 with
   | .next=>forM f (l.map enc) p.2
   | .cont=>forM f (l.map enc) p.2
   | .brk=>some (.next,p.2)
   | .ret r=>some (.ret r,p.2):=rfl
  rw[e',e]
  cases fl with
  |next=>exact go ρ1 t
  |cont=>exact go ρ1 t
  |brk=>exact ok_some.mpr t
  |ret r=>exact ok_some.mpr t
theorem zml {α:Type}{f:D->R->Option (Fl×R)}{enc:α->D}{l:List α}(I:Nat->R->Prop)(h0:I 0 ρ)
  (hs:∀i a ρ,l[i]? =some a->I i ρ->Ok (f (enc a) ρ) (Turn (I (i+1)) Q)) (hq:∀ρ,I l.length ρ->Q (.next,ρ)):Ok (forM f (l.map enc) ρ) Q:=
 zoO enc I l 0 ρ h0 (fun i a ρ hi h=>by rw[Nat.zero_add]at h ⊢;exact hs i a ρ hi h) (fun ρ h=>hq ρ (by rw[Nat.zero_add]at h;exact h))
theorem zkN {α:Type}(enc:α->D){Q:List D×R->Prop}(I:Nat->List D->R->Prop):∀(l:List α) (b:Nat) (acc:List D) (ρ:R),I b acc ρ->
  (∀i a acc ρ,l[i]? =some a->I (b+i) acc ρ->Ok (f (enc a) ρ) fun p=>I (b+i+1) (acc++p.1.toList) p.2)->(∀ds ρ,I (b+l.length) (acc++ds) ρ->Q (ds,ρ))->Ok (zeq f (l.map enc) ρ) Q
 |[],b,acc,ρ,h0,_,hq=>ok_some.mpr (hq [] ρ (by rw[List.append_nil];exact h0))
 |a::l,b,acc,ρ,h0,hs,hq=>by
  obtain⟨p,e,t⟩:=hs 0 a acc ρ rfl h0
  have go:=zkN enc (Q:=fun q=>Q (p.1.toList++q.1,q.2)) I l (b+1) (acc++p.1.toList) p.2 t (fun i a' acc' ρ' hi hp=>by
   have:=hs (i+1) a' acc' ρ' (by simpa using hi) (by rw[show b+(i+1)=b+1+i by lia];exact hp)
   rw[show b+(i+1)+1=b+1+i+1 by lia]at this
   exact this) (fun ds ρ h=>hq _ ρ (by rw[List.length_cons,show b+(l.length+1)=b+1+l.length by lia,<-List.append_assoc];exact h))
  have e':zeq f ((a::l).map enc) ρ=(f (enc a) ρ).bind fun p=>(zeq f (l.map enc) p.2).map fun q=>(p.1.toList++q.1,q.2):=rfl
  rw[e',e]
  exact ok_map.mpr go
theorem zmI {α:Type}{enc:α->D}{l:List α}{Q:List D×R->Prop}(I:Nat->List D->R->Prop)(h0:I 0 [] ρ)
  (hs:∀i a acc ρ,l[i]? =some a->I i acc ρ->Ok (f (enc a) ρ) fun p=>I (i+1) (acc++p.1.toList) p.2) (hq:∀ds ρ,I l.length ds ρ->Q (ds,ρ)):Ok (zeq f (l.map enc) ρ) Q:=
 zkN enc I l 0 [] ρ h0 (fun i a acc ρ hi h=>by rw[Nat.zero_add]at h ⊢;exact hs i a acc ρ hi h) (fun ds ρ h=>hq ds ρ (by rw[Nat.zero_add]at h;exact h))
theorem zjB {α:Type}{enc:α->D}{l:List α}{Q:List D×R->Prop}(P:R->Prop)(g:α->Option D)(h0:P ρ)
  (hs:∀a ρ,a∈l->P ρ->Ok (f (enc a) ρ) fun p=>p.1=g a/\P p.2) (hq:∀ρ,P ρ->Q (l.filterMap g,ρ)):Ok (zeq f (l.map enc) ρ) Q:=
 zmI (fun i ds ρ=>ds=(l.take i).filterMap g/\P ρ) ⟨rfl,h0⟩ (fun i a acc ρ hi ⟨e,p⟩=>by
  refine(hs a ρ (List.mem_of_getElem? hi) p).mono fun r h=>⟨?_,h.2⟩
  obtain⟨h1,h2⟩:=List.getElem?_eq_some_iff.mp hi
  rw[h.1,e,List.take_add_one,hi,List.filterMap_append]
  cases q:g a<;>simp[q]) (fun ds ρ ⟨e,p⟩=>by rw[List.take_length]at e;rw[e];exact hq ρ p)
theorem zdI {α:Type}{enc:α->D}{l:List α}{Q:List D×R->Prop}(P:R->Prop)(g:α->D)(h0:P ρ)
  (hs:∀a ρ,a∈l->P ρ->Ok (f (enc a) ρ) fun p=>p.1=some (g a)/\P p.2) (hq:∀ρ,P ρ->Q (l.map g,ρ)):Ok (zeq f (l.map enc) ρ) Q:=
 zjB P (fun a=>some (g a)) h0 hs (fun ρ p=>by rw[<-Function.comp_def some g,List.filterMap_eq_map];exact hq ρ p)
theorem dEq_int (i j:Int):dEq (.int i) (.int j)=some (.bl (i==j)):=by
 unfold dEq
 rw[show noS (.int i)=true from rfl,show noS (.int j)=true from rfl,show depth (.int i)=0 from rfl]
 rfl
theorem dNe_int (i j:Int):dNe (.int i) (.int j)=some (.bl (i !=j)):=by
 unfold dNe
 rw[show noS (.int i)=true from rfl,show noS (.int j)=true from rfl,show depth (.int i)=0 from rfl]
 rfl
theorem atI_n {α:Type}(xs:List α)(i:Nat):atI xs (i:Int)=xs[i]?:=by
 unfold atI ixN
 rw[if_pos (by lia)]
 by_cases h:i<xs.length
 ·rw[if_pos (by lia)];simp
 ·rw[if_neg (by lia)];simp[List.getElem?_eq_none (by lia:xs.length<=i)]
theorem atI_lit {α:Type}(xs:List α)(n:Nat):atI xs (no_index (@OfNat.ofNat Int n _))=xs[n]?:=atI_n xs n
theorem atI_n1 {α:Type}(xs:List α)(i:Nat):atI xs ((i:Int)+1)=xs[i+1]?:=atI_n xs (i+1)
theorem ixN_n (n i:Nat):ixN n (i:Int)=if i<n then some i else none:=by
 unfold ixN
 rw[if_pos (by lia)]
 by_cases h:i<n
 ·rw[if_pos (by lia),if_pos h];simp
 ·rw[if_neg (by lia),if_neg h]
theorem ixN_lit (n i:Nat):ixN n (no_index (@OfNat.ofNat Int i _))=if i<n then some i else none:=ixN_n n i
theorem zdB {i j:Int}(h:i.natAbs<18446744073709551616):zni i j=true:=by
 unfold zni
 have:decide (i.natAbs<2^64)=true:=decide_eq_true h
 rw[this];rfl
theorem zaw {j:Int}(h1: -1000000000000<=j)(h2:j<=1000000000000):zdo j=true:=by
 unfold zdo;rw[decide_eq_true h1,decide_eq_true h2];rfl
noncomputable def wL (n:Nat)(f:Nat->D):List D:=(List.range n).map f
noncomputable abbrev wI (n:Nat)(f:Nat->Int):List D:=wL n fun i=> .int (f i)
theorem zaI (n:Nat)(f:Nat->D):(wL n f).length=n:=by simp[wL]
theorem zat (f:Nat->D)(h:i<n):(wL n f)[i]? =some (f i):=by simp[wL,h]
theorem zgy (n:Nat)(f:Nat->D):wL (n+1) f=wL n f++[f n]:=by simp[wL,List.range_succ]
theorem zdu {f g:Nat->D}(h:∀i,i<n->f i=g i):wL n f=wL n g:=List.map_congr_left fun i hi=>h i (List.mem_range.mp hi)
theorem wL_snoc (n:Nat)(f:Nat->D)(x:D):wL n f++[x]=wL (n+1) fun j=>if j<n then f j else x:=by
 rw[zgy];congr 1
 ·exact zdu fun i hi=>by rw[if_pos hi]
 ·rw[if_neg (by lia)]
theorem wL_set (f:Nat->D)(x:D)(h:i<n):(wL n f).set i x=wL n fun j=>if j=i then x else f j:=by
 apply List.ext_getElem?
 intro j
 by_cases hj:j<n
 ·rw[zat _ hj,List.getElem?_set]
  by_cases e:i=j
  ·subst e;simp[zaI,h]
  ·simp[e,zat _ hj,Ne.symm e]
 ·rw[List.getElem?_eq_none (by simp[zaI];lia),List.getElem?_eq_none (by simp[zaI];lia)]
theorem zlN (n:Nat)(f:Nat->D):zlp (wL n f)=wL n fun i=> .tup [.int (i:Nat),f i]:=by
 apply List.ext_getElem?
 intro j
 unfold zlp
 by_cases hj:j<n
 ·rw[List.getElem?_zipWith,zat _ hj,zat _ hj]
  simp[zaI,hj]
 ·rw[List.getElem?_eq_none (by simp[zaI];lia),List.getElem?_eq_none (by simp[zaI];lia)]
theorem zip2D_w (n:Nat)(f g:Nat->D):zlZ (wL n f) (wL n g)=wL n fun i=> .tup [f i,g i]:=by
 apply List.ext_getElem?
 intro j
 unfold zlZ
 by_cases hj:j<n
 ·rw[List.getElem?_zipWith,zat _ hj,zat _ hj,zat _ hj]
 ·rw[List.getElem?_eq_none (by simp[zaI];lia),List.getElem?_eq_none (by simp[zaI];lia)]
theorem zfZ {α:Type}(xs:List α)(i:Nat):cutD xs none (some (i:Int))=xs.take i:=by
 unfold cutD
 rw[HT.zjN,HT.zkd,Nat.sub_zero,List.drop_zero]
 by_cases h:i<=xs.length
 ·rw[Nat.min_eq_left h]
 ·rw[Nat.min_eq_right (by lia),List.take_of_length_le (Nat.le_refl _),List.take_of_length_le (by lia)]
theorem zhe {α:Type}(xs:List α)(i:Nat):cutD xs (some (i:Int)) none=xs.drop i:=by
 unfold cutD
 rw[HT.zjN,HT.zkd]
 by_cases h:i<=xs.length
 ·rw[Nat.min_eq_left h,List.take_of_length_le (by simp)]
 ·rw[Nat.min_eq_right (by lia),List.drop_of_length_le (Nat.le_refl _),List.drop_of_length_le (by lia)];simp
theorem zby:∀(l:List Int),zaG (l.map .int)=some l
 |[]=>rfl
 |i::l=>by simp[zaG,zby l]
theorem zin (bt:Nat->Nat->Bool):∀n,argBest bt n<=n
 |0=>Nat.le_refl 0
 |n+1=>by
  have:=zin bt n
  unfold argBest
  split<;>lia
theorem ziw (lt:Int->Int->Bool)(h:ns≠[]):zd8 lt ns∈ns:=by
 unfold zd8
 have hl:0<ns.length:=List.length_pos_iff.mpr h
 have:=zin (fun i j=>lt (ns.getD i 0) (ns.getD j 0)) (ns.length-1)
 generalize argBest (fun i j=>lt (ns.getD i 0) (ns.getD j 0)) (ns.length-1)=k at*
 rw[List.getD_eq_getElem?_getD,List.getElem?_eq_getElem (by lia)]
 exact List.getElem_mem _
theorem zje (lt:Int->Int->Bool)(h:ns≠[]):zoz lt [.lst (ns.map .int)]=some (.int (zd8 lt ns)):=by
 have hne:ns.isEmpty=false:=by cases ns with|nil=>exact absurd rfl h|cons=>rfl
 simp only[zoz,za4,Option.bind_some,zby,hne]
 rfl
mutual
theorem zjQ:∀(d:D),noS d=true->eqB d d=true
 | .non,_=>rfl
 | .bl b,_=>by simp[eqB]
 | .int i,_=>by simp[eqB]
 | .str s,_=>by simp[eqB]
 | .lst ds,h=>by simp only[eqB];exact zh5 ds (by simpa[noS]using h)
 | .tup ds,h=>by simp only[eqB];exact zh5 ds (by simpa[noS]using h)
 | .scr _,h=>by simp[noS]at h
 | .exc _,h=>by simp[noS]at h
theorem zh5:∀(ds:List D),noSL ds=true->eqBL ds ds=true
 |[],_=>rfl
 |d::ds,h=>by
  simp only[noSL,Bool.and_eq_true]at h
  simp only[eqBL,Bool.and_eq_true]
  exact⟨zjQ d h.1,zh5 ds h.2⟩
end
theorem dEq_same (h:noS d=true)(k:depth d<=50):dEq d d=some (.bl true):=by simp[dEq,h,k,zjQ d h]
theorem dNe_same (h:noS d=true)(k:depth d<=50):dNe d d=some (.bl false):=by simp[dNe,h,k,zjQ d h]
theorem zlY:∀{ds:List D},(∀d∈ds,noS d=true)->noSL ds=true
 |[],_=>rfl
 |d::ds,h=>by simp only[noSL,Bool.and_eq_true];exact⟨h d List.mem_cons_self,zlY fun e he=>h e (List.mem_cons_of_mem _ he)⟩
theorem ziA:∀{ds:List D},(∀d∈ds,depth d<=k)->zgr ds<=k
 |[],_=>Nat.zero_le _
 |d::ds,h=>by simp only[zgr];exact Nat.max_le.mpr ⟨h d List.mem_cons_self,ziA fun e he=>h e (List.mem_cons_of_mem _ he)⟩
noncomputable def Pl (k:Nat)(d:D):Prop:=noS d=true/\depth d<=k
theorem zfs (k:Nat)(i:Int):Pl k (.int i):=⟨rfl,Nat.zero_le _⟩
theorem zlg (h:∀d∈ds,Pl k d):Pl (k+1) (.lst ds):=⟨by simp only[noS];exact zlY fun d hd=>(h d hd).1,by simp only[depth];exact Nat.succ_le_succ (ziA fun d hd=>(h d hd).2)⟩
theorem zh9 (h:∀d∈ds,Pl k d):Pl (k+1) (.tup ds):=⟨by simp only[noS];exact zlY fun d hd=>(h d hd).1,by simp only[depth];exact Nat.succ_le_succ (ziA fun d hd=>(h d hd).2)⟩
theorem pl_w {f:Nat->D}(h:∀i,Pl k (f i)):∀d∈wL n f,Pl k d:=fun d hd=>by
 obtain⟨i,_,rfl⟩:=List.mem_map.mp hd;exact h i
theorem Pl.mono {k m:Nat}(h:Pl k d)(l:k<=m):Pl m d:=⟨h.1,Nat.le_trans h.2 l⟩
theorem Pl.eq (h:Pl k d)(l:k<=50):dEq d d=some (.bl true):=dEq_same h.1 (Nat.le_trans h.2 l)
theorem Pl.ne (h:Pl k d)(l:k<=50):dNe d d=some (.bl false):=dNe_same h.1 (Nat.le_trans h.2 l)
theorem rangeD_w (n:Nat):zgl 0 n=wL n fun i=> .int (i:Nat):=by unfold zgl wL;simp only[Int.zero_add]
section
variable {n:Nat} {e:Nat->D} {ρ:R}
theorem zdH {f:D->R->Option (Fl×R)}(I:Nat->R->Prop)(h0:I 0 ρ)
  (hs:∀i ρ,i<n->I i ρ->Ok (f (e i) ρ) (Turn (I (i+1)) Q)) (hq:∀ρ,I n ρ->Q (.next,ρ)):Ok (forM f (wL n e) ρ) Q:=
 zml (enc:=e) (l:=List.range n) I h0 (fun i a ρ hi h=>by
  obtain⟨h1,h2⟩:=List.getElem?_eq_some_iff.mp hi
  have:a=i:=by simpa using h2.symm
  subst this
  exact hs a ρ (by simpa using h1) h) (fun ρ h=>hq ρ (by simpa using h))
variable {f:D->R->Option (Option D×R)} {Q:List D×R->Prop}
theorem znG (I:Nat->List D->R->Prop)(h0:I 0 [] ρ)
  (hs:∀i acc ρ,i<n->I i acc ρ->Ok (f (e i) ρ) fun p=>I (i+1) (acc++p.1.toList) p.2) (hq:∀ds ρ,I n ds ρ->Q (ds,ρ)):Ok (zeq f (wL n e) ρ) Q:=
 zmI (enc:=e) (l:=List.range n) I h0 (fun i a acc ρ hi h=>by
  obtain⟨h1,h2⟩:=List.getElem?_eq_some_iff.mp hi
  have:a=i:=by simpa using h2.symm
  subst this
  exact hs a acc ρ (by simpa using h1) h) (fun ds ρ h=>hq ds ρ (by simpa using h))
theorem zhf (P:R->Prop)(g:Nat->Option D)(h0:P ρ)
  (hs:∀i ρ,i<n->P ρ->Ok (f (e i) ρ) fun p=>p.1=g i/\P p.2) (hq:∀ρ,P ρ->Q ((List.range n).filterMap g,ρ)):Ok (zeq f (wL n e) ρ) Q:=
 zjB (enc:=e) (l:=List.range n) P g h0 (fun a ρ ha hp=>hs a ρ (List.mem_range.mp ha) hp) hq
theorem zaD (P:R->Prop)(g:Nat->D)(h0:P ρ)
  (hs:∀i ρ,i<n->P ρ->Ok (f (e i) ρ) fun p=>p.1=some (g i)/\P p.2) (hq:∀ρ,P ρ->Q (wL n g,ρ)):Ok (zeq f (wL n e) ρ) Q:=
 zdI (enc:=e) (l:=List.range n) P g h0 (fun a ρ ha hp=>hs a ρ (List.mem_range.mp ha) hp) hq
end
theorem zod (a b c:Int):([b,c]:List Int).contains a=(a==b||a==c):=by simp[List.contains_cons];rfl
end M
namespace M
theorem zj2 (n:Nat)(f:Nat->Int)(x:Int):wI n f++[.int x]=wI (n+1) fun j=>if j<n then f j else x:=by
 rw[wI,wL_snoc];exact zdu fun j _=>by dsimp only;split<;>rfl
theorem zos {j:Int}(h0:0<j)(h1:j<2^250):divOk j=true:=by
 have h:j.natAbs.log2<9000:=by
  have:j.natAbs.log2<250:=(Nat.log2_lt (by lia)).mpr (by lia)
  lia
 unfold divOk;rw[decide_eq_true h0,decide_eq_true h];rfl
theorem znK {n i:Nat}(f:Nat->Int)(x:Int)(h:i<n):(wI n f).set i (.int x)=wI n fun j=>if j=i then x else f j:=by
 rw[wI,wL_set _ _ h];exact zdu fun j _=>by dsimp only;split<;>rfl
theorem isN_non:isN .non=true:=rfl
theorem isN_int (i:Int):isN (.int i)=false:=rfl
theorem isN_bl (b:Bool):isN (.bl b)=false:=rfl
theorem isN_str (s:PySem.Str):isN (.str s)=false:=rfl
theorem isN_lst (ds:List D):isN (.lst ds)=false:=rfl
theorem isN_tup (ds:List D):isN (.tup ds)=false:=rfl
end M
namespace M
open L2 PySem
theorem dItems_l (ds:List D):za4 [.lst ds]=some ds:=rfl
theorem dItems_t (ds:List D):za4 [.tup ds]=some ds:=rfl
theorem dItems_s (ns:List Int):za4 [.scr ns]=some (ns.map .int):=rfl
theorem dLen_l (ds:List D):dLen [.lst ds]=some (.int ds.length):=rfl
theorem zoF (ds:List D):dLen [.tup ds]=some (.int ds.length):=rfl
theorem dLen_s (ns:List Int):dLen [.scr ns]=some (.int ns.length):=rfl
theorem dTuple_l (ds:List D):zcx [.lst ds]=some (.tup ds):=rfl
theorem dTuple_t (ds:List D):zcx [.tup ds]=some (.tup ds):=rfl
theorem dTuple_s (ns:List Int):zcx [.scr ns]=some (.tup (ns.map .int)):=rfl
theorem dCut_l (ds:List D)(a b:Option Int):dCut (.lst ds) a b=some (.lst (cutD ds a b)):=rfl
theorem dCut_t (ds:List D)(a b:Option Int):dCut (.tup ds) a b=some (.tup (cutD ds a b)):=rfl
theorem dCut_s (ns:List Int)(a b:Option Int):dCut (.scr ns) a b=some (.lst ((cutD ns a b).map .int)):=rfl
theorem dIx_l (ds:List D)(i:Int):dIx (.lst ds) (.int i)=atI ds i:=rfl
theorem dIx_t (ds:List D)(i:Int):dIx (.tup ds) (.int i)=atI ds i:=rfl
theorem dIx_s (ns:List Int)(i:Int):dIx (.scr ns) (.int i)=(atI ns i).map .int:=rfl
theorem dEq_str (a b:Str):dEq (.str a) (.str b)=some (.bl (a==b)):=by
 unfold dEq
 rw[show noS (.str a)=true from rfl,show noS (.str b)=true from rfl,show depth (.str a)=0 from rfl]
 rfl
theorem zip3D_w (n:Nat)(f g h:Nat->D):zip3D (wL n f) (wL n g) (wL n h)=wL n fun i=> .tup [f i,g i,h i]:=by
 apply List.ext_getElem?
 intro j
 unfold zip3D
 by_cases hj:j<n
 ·have e:(List.zip (wL n g) (wL n h))[j]? =some (g j,h j):=by
   rw[List.getElem?_zip_eq_some];exact⟨zat g hj,zat h hj⟩
  rw[List.getElem?_zipWith,e,zat _ hj,zat _ hj]
 ·rw[List.getElem?_eq_none (by simp[zaI];lia),List.getElem?_eq_none (by simp[zaI];lia)]
theorem zih (n:Nat)(b:Nat->Bool):zcH (wL n fun i=> .bl (b i))=some ((List.range n).map b):=by
 have:∀l:List Nat,zcH (l.map fun i=>D.bl (b i))=some (l.map b):=by
  intro l
  induction l with
  |nil=>rfl
  |cons a l ih=>simp[zcH,ih]
 exact this _
theorem ok_sExt {i:Nat}{m:ME}{ρ:R}{Q:Fl×R->Prop}:OkQ Q (sExt i m ρ)=OkQ Q (gd ((ρ[i]?.bind Sl.items).isSome) ((m ρ).bind fun p=>p.2[i]?.bind fun s=>s.items.bind fun ds=>match p.1 with
 | .lst es=>if ds.length+es.length<=16777216 then some (.next,p.2.set i (s.put (ds++es)))else none
 |_=>none)):=rfl
theorem eqV_int (a b:Int):eqV (.int a) (.int b)=(b==a):=by
 show(a==b)=(b==a)
 by_cases h:a=b
 ·subst h;rfl
 ·rw[beq_eq_false_iff_ne.mpr h,beq_eq_false_iff_ne.mpr fun e=>h e.symm]
theorem zjl:∀(l:List Int),zm4 (l.map D.int)=some (l.map V.int)
 |[]=>rfl
 |i::l=>by simp[zm4,flV,zjl l]
theorem zmg (a:Int):∀(l:List Int),inV (.int a) (l.map V.int)=l.contains a
 |[]=>rfl
 |i::l=>by
  have:=zmg a l
  unfold inV at this ⊢
  rw[List.map_cons,List.any_cons,this,eqV_int,List.contains_cons]
theorem zcM {j n m i:Nat}(hm:0<m):i<cntS (j:Int) (n:Int) (m:Int)↔j+i*m<n:=by
 unfold cntS
 by_cases h:(j:Int)<(n:Int)
 ·rw[if_pos h]
  have e:((n:Int)-(j:Int)-1)/(m:Int)=(((n-j-1)/m:Nat):Int):=by
   rw[Int.natCast_ediv];congr 1;lia
  have e2:∀q:Nat,((q:Int)+1).toNat=q+1:=fun q=>by lia
  rw[e,e2,Nat.lt_succ_iff,Nat.le_div_iff_mul_le hm]
  lia
 ·rw[if_neg h]
  constructor
  ·intro h;lia
  ·intro h;lia
theorem zo0 {α β:Type}{h:α->Option β}{g:α->β}:∀(l:List α),(∀a∈l,h a=some (g a))->l.filterMap h=l.map g
 |[],_=>rfl
 |a::l,e=>by rw[List.filterMap_cons,e a List.mem_cons_self,List.map_cons,zo0 l fun b hb=>e b (List.mem_cons_of_mem _ hb)]
theorem zks {n j m:Nat}(f:Nat->D)(hm:0<m)(hj:j<n):zaJ (wL n f) (some (j:Int)) none (some (m:Int))=wL (cntS (j:Int) (n:Int) (m:Int)) fun i=>f (j+i*m):=by
 have hb:sliceBounds (some (j:Int)) none (some (m:Int)) n=((j:Int),(n:Int),(m:Int)):=by
  have:(m:Int)>0:=by lia
  simp[sliceBounds,this]
  lia
 unfold zaJ
 rw[zaI,hb]
 unfold sliceRange
 have h1:(m:Int)>0:=by lia
 have h2:(j:Int)<(n:Int):=by lia
 simp only[h1,h2,if_true]
 have ec:(((n:Int)-(j:Int)+(m:Int)-1)/(m:Int)).toNat=cntS (j:Int) (n:Int) (m:Int):=by
  unfold cntS
  rw[if_pos h2,show((n:Int)-(j:Int)+(m:Int)-1)=((n:Int)-(j:Int)-1)+(m:Int) by lia,Int.add_ediv_of_dvd_right (Int.dvd_refl _),Int.ediv_self (by lia)]
 rw[ec]
 rw[List.filterMap_map]
 apply zo0
 intro i hi
 have hi:j+i*m<n:=(zcM hm).mp (List.mem_range.mp hi)
 have ht:((j:Int)+(m:Int)*(i:Int)).toNat=j+i*m:=by
  rw[show((j:Int)+(m:Int)*(i:Int))=((j+i*m:Nat):Int) by push_cast;rw[Int.mul_comm]];lia
 simp only[Function.comp_def,ht]
 exact zat f hi
noncomputable def sumR:Nat->(Nat->Int)->Int
 |0,_=>0
 |n+1,f=>sumR n f+f n
theorem zcl {f g:Nat->Int}:∀{n:Nat},(∀i,i<n->f i=g i)->sumR n f=sumR n g
 |0,_=>rfl
 |n+1,h=>by rw[sumR,sumR,zcl fun i hi=>h i (by lia),h n (by lia)]
theorem zie {f g:Nat->Int}:∀{n:Nat},(∀i,i<n->f i<=g i)->sumR n f<=sumR n g
 |0,_=>Int.le_refl _
 |n+1,h=>by
  have h1:=zie (n:=n) fun i hi=>h i (by lia)
  have h2:=h n (by lia)
  simp only[sumR];lia
theorem zf1 (f:Nat->Int)(a:Nat):∀b,sumR (a+b) f=sumR a f+sumR b fun i=>f (a+i)
 |0=>by simp[sumR]
 |b+1=>by rw[show a+(b+1)=a+b+1 by lia,sumR,sumR,zf1 f a b];lia
theorem zbb (f:Nat->Int):∀n,((List.range n).map f).sum=sumR n f
 |0=>rfl
 |n+1=>by simp[List.range_succ,zbb f n,sumR]
theorem zbv (n:Nat)(f:Nat->Int):zaG (wI n f)=some ((List.range n).map f):=by
 have:wI n f=((List.range n).map f).map .int:=by simp[wL,List.map_map,Function.comp_def]
 rw[this,zby]
theorem cut_w {n a b:Nat}(f:Nat->D)(h:a+b<=n):cutD (wL n f) (some (a:Int)) (some ((a:Int)+(b:Int)))=wL b fun i=>f (a+i):=by
 have e:cutD (wL n f) (some (a:Int)) (some ((a:Int)+(b:Int)))=((wL n f).drop a).take b:=by
  unfold cutD
  rw[HT.zjN,show((a:Int)+(b:Int))=((a+b:Nat):Int) by lia,HT.zjN,zaI]
  rw[Nat.min_eq_left h,Nat.min_eq_left (by lia:a<=n),Nat.add_sub_cancel_left]
 rw[e]
 apply List.ext_getElem?
 intro j
 by_cases hj:j<b
 ·rw[List.getElem?_take_of_lt hj,List.getElem?_drop,zat _ (by lia),zat _ hj]
 ·rw[List.getElem?_eq_none (by simp[zaI];lia),List.getElem?_eq_none (by rw[zaI];lia)]
theorem zdp (v:Nat->Int):∀n i,i<=n->v i<=v (argBest (fun i j=>decide (v i>v j)) n)
 |0,i,h=>by rw[show i=0 by lia];exact Int.le_refl _
 |n+1,i,h=>by
  simp only[argBest]
  by_cases c:v (n+1)>v (argBest (fun i j=>decide (v i>v j)) n)
  ·rw[if_pos (decide_eq_true c)]
   by_cases e:i=n+1
   ·rw[e];exact Int.le_refl _
   ·have:=zdp v n i (by lia);lia
  ·rw[if_neg (by simpa using c)]
   by_cases e:i=n+1
   ·rw[e];lia
   ·exact zdp v n i (by lia)
theorem zfv (v:Nat->Int):∀n i,i<=n->v (argBest (fun i j=>decide (v i<v j)) n)<=v i
 |0,i,h=>by rw[show i=0 by lia];exact Int.le_refl _
 |n+1,i,h=>by
  simp only[argBest]
  by_cases c:v (n+1)<v (argBest (fun i j=>decide (v i<v j)) n)
  ·rw[if_pos (decide_eq_true c)]
   by_cases e:i=n+1
   ·rw[e];exact Int.le_refl _
   ·have:=zfv v n i (by lia);lia
  ·rw[if_neg (by simpa using c)]
   by_cases e:i=n+1
   ·rw[e];lia
   ·exact zfv v n i (by lia)
theorem zmG (g:Nat->Int){c i:Nat}(h:i<c):((List.range c).map g).getD i 0=g i:=by
 rw[List.getD_eq_getElem?_getD];simp[h]
theorem max_w (g:Nat->Int){c:Nat}(hc:0<c):∃v,ziX [.lst (wI c g)]=some (.int v)/\(∃i,i<c/\g i=v)/\∀i,i<c->g i<=v:=by
 have hne:(List.range c).map g≠[]:=fun h=>by have:=congrArg List.length h;simp at this;lia
 have e1:wI c g=((List.range c).map g).map .int:=by simp[wL,List.map_map,Function.comp_def]
 refine⟨_,by rw[e1];exact zje _ hne,?_,?_⟩
 ·obtain⟨i,hi,e⟩:=List.mem_map.mp (ziw (fun i j=>decide (i>j)) hne)
  exact⟨i,List.mem_range.mp hi,e⟩
 ·intro i hi
  have:=zdp (fun i=>((List.range c).map g).getD i 0) (c-1) i (by lia)
  rw[zmG g hi]at this
  unfold zd8
  rw[List.length_map,List.length_range]
  exact this
theorem min_w (g:Nat->Int){c:Nat}(hc:0<c):∃v,zfA [.lst (wI c g)]=some (.int v)/\(∃i,i<c/\g i=v)/\∀i,i<c->v<=g i:=by
 have hne:(List.range c).map g≠[]:=fun h=>by have:=congrArg List.length h;simp at this;lia
 have e1:wI c g=((List.range c).map g).map .int:=by simp[wL,List.map_map,Function.comp_def]
 refine⟨_,by rw[e1];exact zje _ hne,?_,?_⟩
 ·obtain⟨i,hi,e⟩:=List.mem_map.mp (ziw (fun i j=>decide (i<j)) hne)
  exact⟨i,List.mem_range.mp hi,e⟩
 ·intro i hi
  have:=zfv (fun i=>((List.range c).map g).getD i 0) (c-1) i (by lia)
  rw[zmG g hi]at this
  unfold zd8
  rw[List.length_map,List.length_range]
  exact this
theorem max_pick (f:Nat->Int){n m j:Nat}(hm:0<m)(hj:j<m)(hn:m<=n):∃v,ziX [.lst (zaJ (wI n f) (some (j:Int)) none (some (m:Int)))]=some (.int v)/\(∃p,p<n/\p%m=j/\f p=v)/\∀p,p<n->p%m=j->f p<=v:=by
 rw[wI,zks _ hm (by lia)]
 obtain⟨v,e,⟨i,hi,ei⟩,h⟩:=max_w (fun i=>f (j+i*m)) (c:=cntS (j:Int) (n:Int) (m:Int)) ((zcM hm).mpr (by lia))
 refine⟨v,e,⟨j+i*m,(zcM hm).mp hi,by rw[Nat.add_mul_mod_self_right,Nat.mod_eq_of_lt hj],ei⟩,fun p hp hpm=>?_⟩
 have e2:j+p/m*m=p:=by have:=Nat.mod_add_div p m;rw[Nat.mul_comm];lia
 have:=h (p/m) ((zcM hm).mpr (by lia))
 rw[e2]at this
 exact this
theorem zme (f:Nat->Int){n m j:Nat}(hm:0<m)(hj:j<m)(hn:m<=n):∃v,zfA [.lst (zaJ (wI n f) (some (j:Int)) none (some (m:Int)))]=some (.int v)/\(∃p,p<n/\p%m=j/\f p=v)/\∀p,p<n->p%m=j->v<=f p:=by
 rw[wI,zks _ hm (by lia)]
 obtain⟨v,e,⟨i,hi,ei⟩,h⟩:=min_w (fun i=>f (j+i*m)) (c:=cntS (j:Int) (n:Int) (m:Int)) ((zcM hm).mpr (by lia))
 refine⟨v,e,⟨j+i*m,(zcM hm).mp hi,by rw[Nat.add_mul_mod_self_right,Nat.mod_eq_of_lt hj],ei⟩,fun p hp hpm=>?_⟩
 have e2:j+p/m*m=p:=by have:=Nat.mod_add_div p m;rw[Nat.mul_comm];lia
 have:=h (p/m) ((zcM hm).mpr (by lia))
 rw[e2]at this
 exact this
theorem zjo (f:Nat->Int){n m j:Nat}(hm:0<m)(hj:j<m){v:Int}(h:∃p,p<n/\p%m=j/\f p=v):∃i:Nat,ziH (.lst (zaJ (wI n f) (some (j:Int)) none (some (m:Int)))) (.int v)=some (.int i)/\j+i*m<n/\f (j+i*m)=v:=by
 obtain⟨p,hp,hpm,hv⟩:=h
 have hjn:j<n:=by have:=Nat.mod_le p m;lia
 rw[wI,zks _ hm hjn]
 have e2:j+p/m*m=p:=by have:=Nat.mod_add_div p m;rw[Nat.mul_comm];lia
 have hc:p/m<cntS (j:Int) (n:Int) (m:Int):=(zcM hm).mpr (by lia)
 have mem:v∈(List.range (cntS (j:Int) (n:Int) (m:Int))).map fun i=>f (j+i*m):=List.mem_map.mpr ⟨p/m,List.mem_range.mpr hc,by rw[e2];exact hv⟩
 have e3:zaG (wL (cntS (j:Int) (n:Int) (m:Int)) fun i=>D.int (f (j+i*m)))=some ((List.range (cntS (j:Int) (n:Int) (m:Int))).map fun i=>f (j+i*m)):=zbv _ fun i=>f (j+i*m)
 have hl:=List.idxOf_lt_length_iff.mpr mem
 have hg:=List.getElem_idxOf hl
 refine⟨List.idxOf v ((List.range (cntS (j:Int) (n:Int) (m:Int))).map fun i=>f (j+i*m)),by simp only[ziH,e3,Option.bind_some,mem,if_true],?_,?_⟩
 ·exact(zcM hm).mp (by simpa using hl)
 ·rw[List.getElem_map,List.getElem_range]at hg
  exact hg
end M
namespace M
open L2 PySem
open PyProof.Rows (step_dedup firstMet)
theorem zne {m:ME}{ρ:R}{Q:D×R->Prop}:OkQ Q (zlC m ρ)=OkQ Q ((m ρ).bind fun p=>match p.1 with
 | .lst ds=>(zaG ds).bind fun ns=>if ns.length<4095 then some (.int (zdn ns:Nat),p.2)else none
 |_=>none):=rfl
theorem zkD {k:Int}:∀(l acc:List Int),k∈l.foldl step_dedup acc↔k∈acc\/k∈l
 |[],acc=>by simp
 |x::l,acc=>by
  rw[List.foldl_cons,zkD l]
  unfold step_dedup
  by_cases c:(acc.any fun y=>y==x)=true
  ·rw[if_pos c]
   have:x∈acc:=by simpa using c
   constructor
   ·rintro(h|h)
    ·exact .inl h
    ·exact .inr (List.mem_cons_of_mem _ h)
   ·rintro(h|h)
    ·exact .inl h
    ·rcases List.mem_cons.mp h with rfl|h
     ·exact .inl this
     ·exact .inr h
  ·rw[if_neg c,List.mem_append,List.mem_singleton,List.mem_cons,or_assoc]
theorem zmA:∀(l acc:List Int),acc.Nodup->(l.foldl step_dedup acc).Nodup
 |[],acc,h=>h
 |x::l,acc,h=>by
  rw[List.foldl_cons]
  refine zmA l _ ?_
  unfold step_dedup
  by_cases c:(acc.any fun y=>y==x)=true
  ·rw[if_pos c];exact h
  ·rw[if_neg c]
   have:x∉acc:=fun z=>c (by simpa using z)
   exact List.nodup_append.mpr ⟨h,by simp,fun a ha b hb e=>this (by rw[List.mem_singleton.mp hb]at e;exact e ▸ ha)⟩
theorem map_getD (ns:List Int):(List.range ns.length).map (fun i=>ns.getD i 0)=ns:=by
 apply List.ext_getElem?
 intro i
 by_cases h:i<ns.length
 ·simp[h]
 ·rw[List.getElem?_eq_none (by simp;lia),List.getElem?_eq_none (by lia)]
theorem zlo (ns:List Int):∃l:List Int,zdn ns=l.length/\l.Nodup/\∀k,k∈l↔k∈ns:=by
 refine⟨ns.foldl step_dedup [],?_,zmA ns [] List.nodup_nil,fun k=>by rw[zkD];simp⟩
 unfold zdn firstMet
 rw[map_getD]
end M
namespace M
open L2 PySem
variable {Q:List D×R->Prop} {N n i j:Nat} {ds:List D} {F:List D->Option Sl} {ma:MA} {d:D} {g:D->R->Option R} {mt:MT} {me:ME} {ρ:R}
theorem inL (j:Int)(ns:List Int):dIn (.int j) (.lst (ns.map .int))=some (.bl (ns.contains j)):=by
 show((zm4 (ns.map D.int)).map fun xs=>D.bl (inV (.int j) xs))=_
 rw[zjl]
 show some (D.bl (inV (.int j) (ns.map V.int)))=_
 rw[zmg]
theorem like_par (ns:List Int):zia (.par (ns.map .int)) (.par (ns.map .int))=true:=by
 show(match zaG (ns.map D.int),zaG (ns.map D.int)with
  |some a,some b=>a==b
  |_,_=>false)=true
 rw[zby];exact beq_self_eq_true ns
theorem like_own (ns:List Int):zia (.own (ns.map .int)) (.own (ns.map .int))=true:=like_par ns
theorem zmU (d:D)(s:Sl):zia (.val d) s=true:=by cases s<;>rfl
theorem zmy (s:Sl):zia .emp s=true:=by cases s<;>rfl
section
variable {j:Nat} {mk me:ME} {ρ:R}
theorem ok_tDI {neg:Bool}{Q:Bool×R->Prop}:OkQ Q (tDI j neg mk ρ)=(OkQ (fun p=>OkQ Q (match p.1 with
 | .int k=>(p.2[j]?.bind Sl.dic).map fun q=>(((lkD q.1 q.2 k).isSome !=neg),p.2)
 |_=>none)) (mk ρ)):=ok_bind
theorem ok_sUnT {is:List Nat}{Q:Fl×R->Prop}:OkQ Q (sUnT j is ρ)=OkQ Q (match ρ[j]? with
 |some (.tre (.lst cs))=>if cs.length=is.length then some (.next,putCs is cs (ρ.set j .emp))else none
 |_=>none):=rfl
theorem ok_cOwn {r:MP'}{Q:List Ch×R->Prop}:OkQ Q (cOwn j r ρ)=OkQ Q (match ρ[j]? with
 |some (.own ds)=>(r (ρ.set j .emp)).map fun q=>(.l ds::q.1,q.2)
 |_=>none):=rfl
theorem ok_fMT {m:MS}{cs:List D}{t:T}{Q:Sl×List D->Prop}:OkQ Q (fMT N m cs t ds)=OkQ Q ((m (.par cs:: .tre t::zko (N-2) ds)).bind fun p=>match p.1,(p.2[0]?:Option Sl)with
 |Fl.ret r,some (Sl.par out)=>some (r,out)
 |Fl.next,some (Sl.par out)=>some (.val .non,out)
 |_,_=>none):=by rw[<-zh4,Nat.sub_sub,Nat.add_comm 2];rfl
theorem ok_sST {Q:Fl×R->Prop}:OkQ Q (sST j F ma ρ)=OkQ Q ((ma ρ).bind fun p=>(F p.1).bind fun r=>match r with
 | .tre t=>some (.next,p.2.set j (.tre t))
 |_=>none):=rfl
theorem ok_eTI {mi mq:MQ}{Q:D×R->Prop}:OkQ Q (eTI j mi mq ρ)=OkQ Q ((mi ρ).bind fun a=>(mq ρ).bind fun b=>match a,b,ρ[j]? with
 | .int n,.int m,some (.tre (.lst cs))=>(atI cs n).bind fun c=>match c with
  | .l ds=>(atI ds m).map fun d=>(d,ρ)
  |_=>none
 |_,_,_=>none):=rfl
theorem ok_iDKT:OkQ Q (iDKT j ρ)=OkQ Q (match ρ[j]? with
 |some (.val (.dit ks ds))=>some (ks.map fun k=> .tup (k.map .int),ρ)
 |_=>none):=rfl
theorem znL {Q:D×R->Prop}:OkQ Q (zo7 F ma ρ)=OkQ Q ((ma ρ).bind fun p=>(F p.1).bind fun r=>match r with
 | .tre (.tup cs)=>some (.tup (cs.map Ch.D),p.2)
 |_=>none):=rfl
theorem zpL {m:MT}{Q:Bool×R->Prop}:OkQ Q (zmd j m ρ)=OkQ Q (match ρ[j]? with
 |some (.tre (.tup cs))=>(m (ρ.set j (.val (.tup (cs.map Ch.D))))).bind fun p=>if((ρ.set j .emp).zip p.2).all (fun q=>zia q.1 q.2)then some (p.1,ρ)else none
 |_=>none):=rfl
theorem ok_sApP {Q:Fl×R->Prop}:OkQ Q (sApP j n d ρ)=OkQ Q (match ρ[j]? with
 |some (.tre (.tup cs))=>match cs[n]? with
  |some (.l ds)=>if ds.length<16777216 then some (.next,ρ.set j (.tre (.tup (cs.set n (.l (ds++[d]))))))else none
  |_=>none
 |_=>none):=rfl
theorem ok_turnT {mo:MO}{Q:Option (List D)×R->Prop}:OkQ Q (turnT g mt mo d ρ)=(OkQ (fun ρ1=>OkQ (fun p=>(p.1=true->OkQ (fun q=>zdD q.2=true/\Q (some q.1,q.2)) (mo p.2))/\(p.1=false->zdD p.2=true/\Q (none,p.2))) (mt ρ1)) (g d ρ)):=by
 unfold turnT;rw[ok_bind];exact zaF fun ρ1=>by rw[ok_bind];exact zaF fun p=>by rw[zkw,ok_bind,zfR,ok_some];congr 1;exact propext (imp_congr Iff.rfl (iff_of_eq (zaF fun q=>by rw[zfR,ok_some])))
theorem znz {ma:ME}{mo:MO}{Q:Fl×R->Prop}:OkQ Q (zpt ma mo ρ)=OkQ Q ((ma ρ).bind fun p=>(mo p.2).bind fun r=>some (.ret (.tre (.tup [.d p.1,.l r.1])),r.2)):=rfl
theorem ok_oCpU:OkQ Q (oCpU j n ρ)=OkQ Q (match ρ[j]? with
 |some (.tre (.tup cs))=>match cs[n]? with
  |some (.l ds)=>some (ds,ρ)
  |_=>none
 |_=>none):=rfl
theorem ok_turnQ {b c:Nat}{Q:Option D×R->Prop}:OkQ Q (turnQ b c g mt me d ρ)=(OkQ (fun ρ1=>OkQ (fun p=>(p.1=true->OkQ (fun q=>znx b c q.2=true/\Q (some q.1,q.2)) (me p.2))/\(p.1=false->znx b c p.2=true/\Q (none,p.2))) (mt ρ1)) (g d ρ)):=by
 unfold turnQ;rw[ok_bind];exact zaF fun ρ1=>by rw[ok_bind];exact zaF fun p=>by rw[zkw,ok_bind,zfR,ok_some];congr 1;exact propext (imp_congr Iff.rfl (iff_of_eq (zaF fun q=>by rw[zfR,ok_some])))
theorem ok_sCut {me ml mh:ME}{Q:Fl×R->Prop}:OkQ Q (sCut i me ml mh ρ)=OkQ Q ((me ρ).bind fun p=>gd ((p.2[i]?.bind Sl.items).isSome) ((ml p.2).bind fun q=>(mh q.2).bind fun r=>r.2[i]?.bind fun s=>s.items.bind fun ds=>match p.1,q.1,r.1 with
 | .lst es,.int m,.int n=>if decide (0<=m)&&decide (m<=n)&&decide (n<=ds.length)&&decide (ds.length+es.length<=16777216)then some (.next,r.2.set i (s.put (ds.take m.toNat++es++ds.drop n.toNat)))else none
 |_,_,_=>none)):=rfl
theorem ok_oSrtS {m:ME}:OkQ Q (oSrtS m ρ)=OkQ Q ((m ρ).bind fun p=>match p.1 with
 | .lst ds=>(zaG ds).bind fun ns=>if ns.length<64 then some ((HT.usrt ns).map .int,p.2)else none
 | .tup ds=>(zaG ds).bind fun ns=>if ns.length<64 then some ((HT.usrt ns).map .int,p.2)else none
 |_=>none):=rfl
theorem zoy {f g h:D->D->Option D}{a b c d:ME}{Q:D×R->Prop}:OkQ Q (znW f g h a b c d ρ)=(OkQ (fun p=>OkQ (fun q=>OkQ (fun t=>∃z,t= .bl z/\(z=true->OkQ (fun r=>OkQ (fun t'=>∃z',t'= .bl z'/\(z'=true->OkQ (fun s=>OkQ (fun x=>Q (x,s.2)) (h r.1 s.1)) (d r.2))/\(z'=false->Q (.bl false,r.2))) (g q.1 r.1)) (c q.2))/\(z=false->Q (.bl false,q.2))) (f p.1 q.1)) (b p.2)) (a ρ)):=by
 unfold znW
 rw[ok_bind]
 refine zaF fun p=>?_
 rw[ok_bind]
 refine zaF fun q=>?_
 rw[ok_bind]
 refine zaF fun t=>?_
 cases t with
 |bl z=>
  cases z
  ·simp[ok_some]
  ·simp only[D.bl.injEq,exists_eq_left',forall_const,Bool.true_eq_false,false_implies,and_true]
   rw[ok_bind]
   refine zaF fun r=>?_
   rw[ok_bind]
   refine zaF fun t'=>?_
   cases t' with
   |bl z=>
    cases z
    ·simp[ok_some]
    ·simp only[D.bl.injEq,exists_eq_left',forall_const,Bool.true_eq_false,false_implies,and_true]
     rw[ok_bind]
     exact zaF fun s=>ok_map
   |_=>simp[ok_none]
 |_=>simp[ok_none]
theorem ok_oMv:OkQ Q (oMv j ρ)=OkQ Q (match ρ[j]? with
 |some (.own ds)=>some (ds,ρ.set j .emp)
 |_=>none):=rfl
theorem ok_eItU {Q:D×R->Prop}:OkQ Q (eItU j n ρ)=OkQ Q (match ρ[j]? with
 |some (.tre (.tup cs))=>match cs[n]? with
  |some (.d y)=>some (y,ρ)
  |_=>none
 |_=>none):=rfl
end
section
theorem zpF {ma:ME}{ml mh ms:MP}{Q:D×R->Prop}:OkQ Q (zn0 ma ml mh ms ρ)=OkQ Q ((ma ρ).bind fun p=>(ml p.2).bind fun q=>(mh q.2).bind fun r=>(ms r.2).bind fun t=>(zl9 p.1 q.1 r.1 t.1).map fun d=>(d,t.2)):=rfl
theorem ok_oSrtK:OkQ Q (oSrtK j me ρ)=OkQ Q ((me ρ).bind fun p=>match p.1,p.2[j]? with
 | .lst ds,some (.val c)=>if ds.length<64 then(zhJ c ds).map fun kz=>(zpA kz ds,p.2)else none
 |_,_=>none):=rfl
end
end M
local macro_rules | `(tactic| simp! only [$ls,*]) => do
  let f (d : Bool) (n : String) : Lean.MacroM (Lean.TSyntax `Lean.Parser.Tactic.simpLemma) := let i := Lean.mkIdent n.toName; if d then `(Lean.Parser.Tactic.simpLemma| ↓$i:term) else `(Lean.Parser.Tactic.simpLemma| $i:term)
  let a ← ("M.ok_Q M.ok_sIf M.ok_eIf M.ok_tAnd M.ok_tOr M.ok_eAnd M.ok_eOr M.ok_chain M.zoy M.ok_turnM M.ok_turnP M.ok_turnQ M.ok_bind M.ok_map M.ok_gd M.zfR M.ok_some M.ok_sNext M.ok_sSeq M.ok_sRet M.ok_sRetO M.ok_sRetV M.ok_gN M.ok_gsNil M.zn9 M.ok_gT M.ok_sAsg M.ok_sSet M.ok_sSetO M.ok_sApp M.ok_sPut M.ok_eC M.zis M.ok_aNil M.ok_aCons M.ok_m1 M.ok_mC M.ok_eLenV M.ok_oC M.ok_eTup M.ok_oLst M.ok_tTru M.ok_tNotM M.ok_eCall M.ok_oCall M.znS M.ok_eFz M.ok_eCut M.ok_pNo M.ok_pSome M.ok_iSeq M.ok_iR1 M.ok_sFor M.ok_oLC M.ok_tTrue M.ok_eIsI M.ok_fP M.ok_fM M.ok_sAugI M.ok_eCutS M.ok_iR3 M.ok_oRep M.ok_iZ2 M.ok_iEn M.ok_oLCM M.ok_sExt M.zne M.ok_fMT M.ok_sST M.znL M.zpL M.ok_sApP M.ok_turnT M.znz M.ok_oCpU M.ok_oSrtS M.ok_oSrtK M.zpF M.ok_oMv M.ok_eItU M.ok_eIxC M.ok_eIxE M.ok_m2VV M.ok_m2VC M.ok_m2CV".splitOn " ").toArray.mapM (f true)
  let b ← ("M.ok_m2 M.ok_eIxV M.dI2 M.dSub M.dDiv M.dMod M.dPow M.dLt M.dLe M.dGt M.dNeg M.dMul M.dAdd M.dTru M.dNot M.Sl.read M.Sl.items M.Sl.put M.hasV M.zdD M.fz1 M.fzL M.capS M.capR M.eIsI.noS1 M.okT M.isI M.d2I M.dSum M.dAll M.ziX M.zfA M.zlX M.zlr M.zoD M.fzD M.putCs M.Ch.sl M.Sl.dic M.Sl.dit M.Sl.tree M.Sl.putT M.Sl.dit M.fzT M.Ch.D M.fzDT M.fzU M.rowsOf M.znx M.zps M.seqK_ret M.seqK_brk M.zoI M.zph M.zpG M.turn_brk M.turn_ret List.getElem?_cons_zero List.getElem?_cons_succ List.set_cons_zero List.set_cons_succ Option.bind_some Option.isSome_some Option.map_some if_true M.zpu M.map_nilR M.zi2 M.zpb M.ixR_val M.ixR_own M.ixR_par M.zil M.eVQ_own M.Vb_val M.Vb_own M.Vb_own2 M.Va_val M.Va_own List.replicate_succ List.replicate_zero List.length_cons List.length_nil List.cons_append List.nil_append List.all_cons List.all_nil Bool.and_true Bool.true_and Bool.and_self Bool.true_eq_false Bool.false_eq_true if_false M.dEq_int M.dNe_int List.length_map List.length_append M.atI_n M.atI_lit M.ixN_n M.ixN_lit M.atI_n1 M.ok_none M.dItems_l M.dItems_t M.dItems_s M.dLen_l M.zoF M.dLen_s M.dTuple_l M.dTuple_t M.dTuple_s M.dCut_l M.dCut_t M.dCut_s M.dIx_l M.dIx_t M.dIx_s M.dEq_str M.zip3D_w M.isN_non M.isN_int M.isN_bl M.isN_str M.isN_lst M.isN_tup beq_self_eq_true Bool.not_true Bool.not_false M.zby Int.toNat_natCast M.rangeD_w M.zaI decide_eq_true_eq Bool.and_eq_true true_and and_true Nat.reduceAdd Nat.reduceLeDiff Int.reduceLT Int.reduceLE Int.reduceNeg Nat.reduceSub Int.reducePow Int.reduceMul Int.reduceAdd Int.reduceSub Int.reduceMod Int.reduceDiv Nat.reduceLT Nat.reduceBNe Nat.reduceEqDiff List.filter_cons List.filter_nil bne_self_eq_false Int.reduceToNat Nat.reducePow M.zng Int.reduceEq Int.reduceBEq Int.reduceBNe Nat.reduceMod decide_true decide_false beq_iff_eq beq_eq_false_iff_ne bne_iff_ne bne_eq_false_iff_eq decide_eq_false_iff_not Int.not_le Int.not_lt ne_eq forall_const true_implies false_implies reduceCtorEq imp_self implies_true M.D.bl.injEq exists_eq_left' Bool.not_true Bool.not_false".splitOn " ").toArray.mapM (f false)
  `(tactic| simp only [$a,*, $b,*, $ls,*])
namespace Prf
open L2 M PySem
noncomputable def top (i:Nat):Stmt:=PySem.Challenge.pw_tellsum_k24_cheapest_places_told.main.body.getD i (.Pass ⟨0,0,0,0⟩)
structure BN (K:W.Frag) (mg:Str->Option Value):Prop where
 all':mg "all"=none
 bool':mg "bool"=none
 enumerate':mg "enumerate"=none
 int':mg "int"=none
 isinstance':mg "isinstance"=none
 len':mg "len"=none
 list':mg "list"=none
 max':mg "max"=none
 min':mg "min"=none
 range':mg "range"=none
 set':mg "set"=none
 sorted':mg "sorted"=none
 sum':mg "sum"=none
 tuple':mg "tuple"=none
 zip':mg "zip"=none
section
variable {P:Program} {w:World} {K:W.Frag} {mg:Str->Option Value} {base hp:Heap} {f:Addr} {fd:FuncData} (X:K.In hp) (G:hp.Ns mainGlobals mg) (bn:BN K mg)
include X G bn
abbrev zhd:Stmt:=top 5
def zfQ:ME:=
 (m2 dSub (eVar 0) (eVar 1))
def zfj:MO:=
 oLC [] 2 (iZ2 (zaf (eVar 0) (zaf (eVar 1) aNil))) (gT 2 (zar (gN 0) (zar (gN 1) zcw))) zbd zfQ
def zfH:MS:=
 (zgZ zfj)
def zbf:List D->Option Sl:=fP 2 zfH
theorem zjH (h:FnAt K "less_mores" zhd):FD P w K mg base 1 "less_mores" (spP K 2 zbf):=
 fdP (N:=["bounds","mores"]) (k:=0) (m:=zfH) X G h fun _ _ _ _ _ _ _ hr nd=>(zal (zcK (zbT [] 2 ["bound","more"] rfl (it_zip2N bn.zip' (zaa (zab 0) (zaa (zab 1) zae))) (fun C s H fp=>(zbe rfl (zam (zaj 0 ndk) (zam (zaj 1 ndk) zaL)))) (fun C s H fp=>zay) (fun C s H fp=>(zbG (zab 0) (zab 1))))))
abbrev zgQ:Stmt:=top 6
def zfV:ME:=
 (eTup (zaf (mC ziX (zaf (zm9 (eVar 0) (zcC (eVar 3)) pNo (zcC (eVar 1))) aNil)) (zaf (mC zfA (zaf (zm9 (eVar 2) (zcC (eVar 3)) pNo (zcC (eVar 1))) aNil)) aNil)))
def zfr:MO:=
 oLC [0,2,1] 1 (iR1 (zaf (eVar 2) aNil)) (gN 3) zbd zfV
def zfi:MS:=
 (zgZ zfr)
def zbi:List D->Option Sl:=fP 3 zfi
theorem zjR (h:FnAt K "head_spans" zgQ):FD P w K mg base 1 "head_spans" (spP K 3 zbi):=
 fdP (N:=["lows","highs","many"]) (k:=0) (m:=zfi) X G h fun _ _ _ _ _ _ _ hr nd=>(zal (zcK (zbT [0,2,1] 1 ["lows","many","highs","j"] rfl (zaN bn.range' (zaa (zab 2) zae)) (fun C s H fp=>(zaj 3 ndk)) (fun C s H fp=>zay) (fun C s H fp=>(za5 (zaa (zpy rfl bn.max' (zaa (zjS (zab 0) (zaM (zab 3)) ze6 (zaM (zab 1))) zae)) (zaa (zka rfl bn.min' (zaa (zjS (zab 2) (zaM (zab 3)) ze6 (zaM (zab 1))) zae)) zae)))))))
abbrev zfc:Stmt:=top 7
def zdZ:ME:=
 (m2 dAdd (eIxV 0 (m2 dMod (eVar 2) (eVar 1))) (eVar 3))
def zd4:MO:=
 oLC [0,2] 2 (iEn (zaf (eVar 1) aNil)) (gT 2 (zar (gN 2) (zar (gN 3) zcw))) zbd zdZ
def zdL:MS:=
 (sSeq (sSet 2 (zcG 0))
  (sRet (mC zcx (zaf (eFz zd4) aNil))))
def zbs:List D->Option Sl:=fP 3 zdL
theorem ziz (h:FnAt K "row_by_heads" zfc):FD P w K mg base 1 "row_by_heads" (spP K 2 zbs):=
 fdP (N:=["heads","mores","many"]) (k:=0) (m:=zdL) X G h fun _ _ _ _ _ _ _ hr nd=>(zad (zau 2 (zaO 0 bn.len') nd)
  (zal (zaz (zcs bn.tuple' (zaa (SO.se (zbT [0,2] 2 ["heads","many","place","more"] rfl (zeg bn.enumerate' (zaa (zab 1) zae)) (fun C s H fp=>(zbe rfl (zam (zaj 2 ndk) (zam (zaj 3 ndk) zaL)))) (fun C s H fp=>zay) (fun C s H fp=>(zaH (zak 0 (zeZ (zab 2) (zab 1))) (zab 3))))) zae)))))
abbrev ze0:Stmt:=top 8
def zdf:ME:=
 (m2 dAdd (eVar 3) (m2 dMul (eVar 0) (m2 ziH (zm9 (eVar 1) (zcC (eVar 3)) pNo (zcC (eVar 0))) (eIxV 2 (eVar 3)))))
def zdr:MO:=
 oLC [2,0,1] 1 (iR1 (zaf (eVar 2) aNil)) (gN 3) zbd zdf
def zc8:MS:=
 (sSeq (sSet 2 (zcG 1))
  (sRet (mC zcx (zaf (eFz zdr) aNil))))
def za3:List D->Option Sl:=fP 3 zc8
theorem zhS (h:FnAt K "places_asking" ze0):FD P w K mg base 1 "places_asking" (spP K 2 za3):=
 fdP (N:=["asks","ends","many"]) (k:=0) (m:=zc8) X G h fun _ _ _ _ _ _ _ hr nd=>(zad (zau 2 (zaO 1 bn.len') nd)
  (zal (zaz (zcs bn.tuple' (zaa (SO.se (zbT [2,0,1] 1 ["many","asks","ends","j"] rfl (zaN bn.range' (zaa (zab 2) zae)) (fun C s H fp=>(zaj 3 ndk)) (fun C s H fp=>zay) (fun C s H fp=>(zaH (zab 3) (zdV (zab 0) (se_index (zjS (zab 1) (zaM (zab 3)) ze6 (zaM (zab 0))) (zak 2 (zab 3)))))))) zae)))))
abbrev zgt:Stmt:=top 9
def ze1:ME:=
 (eVar 0)
def zeW:MO:=
 oLC [] 2 (iSeq (eVar 4)) (gT 2 (zar (gN 0) (zar (gN 1) zcw))) zbd ze1
def ze4:ME:=
 (eVar 1)
def zet:MO:=
 oLC [] 2 (iSeq (eVar 4)) (gT 2 (zar (gN 0) (zar (gN 1) zcw))) zbd ze4
def zeE:MS:=
 (sIf (tTru (m2 dGt (eIxV 5 (eVar 9)) (eIxV 6 (eVar 9))))
  (sRet (eTup (zaf (eC (.str "clash")) (zaf (eIxV 7 (eVar 9)) (zaf (eIxV 8 (eVar 9)) aNil)))))
  zbr)
def zev:MS:=
 sFor (iR1 (zaf (eVar 2) aNil)) (gN 9) zeE
def zeY:MS:=
 (sRet (eC .non))
def zeu:MS:=
 (sSeq (sIf (tTru (m2 dLt (mC dSum (zaf (eVar 6) aNil)) (eVar 3)))
  (sRet (eTup (zaf (eC (.str "high")) (zaf (eVar 8) aNil))))
  zbr)
  zeY)
def zee:MS:=
 (sSeq (sSet 4 (zaR zbi (zaf (eVar 0) (zaf (eVar 1) (zaf (eVar 2) aNil)))))
  (sSeq (sSet 5 (eFz zeW))
  (sSeq (sSet 6 (eFz zet))
  (sSeq (sSet 7 (zaR za3 (zaf (eVar 0) (zaf (eVar 5) aNil))))
  (sSeq (sSet 8 (zaR za3 (zaf (eVar 1) (zaf (eVar 6) aNil))))
  (sSeq zev
  (sSeq (sIf (tTru (m2 dGt (mC dSum (zaf (eVar 5) aNil)) (eVar 3)))
  (sRet (eTup (zaf (eC (.str "low")) (zaf (eVar 7) aNil))))
  zbr)
  zeu)))))))
def zbN:List D->Option Sl:=fP 10 zee
theorem ziN (zbl:FD P w K mg base 1 "head_spans" (spP K 3 zbi))(zbt:FD P w K mg base 1 "places_asking" (spP K 2 za3))(h:FnAt K "heads_paper" zgt):FD P w K mg base 2 "heads_paper" (spP K 4 zbN):=
 fdP (N:=["lows","highs","many","total","spans","low_ends","high_ends","low_places","high_places","j"]) (k:=1) (m:=zee) X G h fun _ _ _ _ _ _ _ hr nd=>(zad (zau 4 (zaq zbl hr (zaa (zab 0) (zaa (zab 1) (zaa (zab 2) zae))) (hlen:=(zac (zac (zac zai))))) nd)
  (zad (zct 5 [] 2 ["low", "high"] rfl (zaT (zab 4)) (fun C s H fp => (zbe rfl (zam (zaj 0 ndk) (zam (zaj 1 ndk) zaL)))) (fun C s H fp => zay) (fun C s H fp => (zab 0)) nd)
  (zad (zct 6 [] 2 ["low", "high"] rfl (zaT (zab 4)) (fun C s H fp => (zbe rfl (zam (zaj 0 ndk) (zam (zaj 1 ndk) zaL)))) (fun C s H fp => zay) (fun C s H fp => (zab 1)) nd)
  (zad (zau 7 (zaq zbt hr (zaa (zab 0) (zaa (zab 5) zae)) (hlen := (zac (zac zai)))) nd)
  (zad (zau 8 (zaq zbt hr (zaa (zab 1) (zaa (zab 6) zae)) (hlen := (zac (zac zai)))) nd)
  (zad (zd0 PassesOwn.never rfl (zaN bn.range' (zaa (zab 2) zae)) (zaj 9 nd)
  (zal (zbK (st_gt (zak 5 (zab 9)) (zak 6 (zab 9)))
  (zal (zaz (za5 (zaa zot (zaa (zak 7 (zab 9)) (zaa (zak 8 (zab 9)) zae))))))
  zaE)))
  (zad (zbK (st_gt (zeN rfl bn.sum' (zaa (zab 5) zae)) (zab 3))
  (zal (zaz (za5 (zaa zot (zaa (zab 7) zae)))))
  zaE)
  (zad (zbK (zpD (zeN rfl bn.sum' (zaa (zab 6) zae)) (zab 3))
  (zal (zaz (za5 (zaa zot (zaa (zab 8) zae)))))
  zaE)
  (zal (zaz se_non))))))))))
abbrev zeU:Stmt:=top 10
def zdq:ME:=
 (m2 dAdd (eVar 3) (eIxV 0 (m2 dMod (eVar 2) (eVar 1))))
def zdl:MO:=
 oLCM [4,1] 2 0 4 (iEn (zaf (eVar 0) aNil)) (gT 2 (zar (gN 2) (zar (gN 3) zcw))) zbd zdq
def zcY:MS:=
 (sSeq (zfy 4 (oRep (eFz (oLst (zaf (eC (.int 0)) aNil))) (eVar 1)))
  (sSeq (sPut 4 (eVar 2) (m1 dNeg (eC (.int 1))))
  (sSeq (sPut 4 (eVar 3) (eC (.int 1)))
  (sRet (mC zcx (zaf (eFz zdl) aNil))))))
def zbj:List D->Option Sl:=fP 5 zcY
theorem zhT (h:FnAt K "exchanged_row" zeU):FD P w K mg base 1 "exchanged_row" (spP K 4 zbj):=
 fdP (N:=["row","many","giver","taker","shifts"]) (k:=0) (m:=zcY) X G h fun _ _ _ _ _ _ _ hr nd=>(zad (zcg 4 (so_rep (SO.se (ze3 (zaa zah zae))) (zab 1)) nd)
  (zad (zjb 4 (zk8 zah) (zab 2))
  (zad (zjb 4 zah (zab 3))
  (zal (zaz (zcs bn.tuple' (zaa (SO.se (so_lcM [4,1] 2 0 4 ["shifts","many","place","number"] rfl (zeg bn.enumerate' (zaa (zab 0) zae)) (fun C s H fp=>(zbe rfl (zam (zaj 2 ndk) (zam (zaj 3 ndk) zaL)))) (fun C s H fp=>zay) (fun C s H fp=>(zaH (zab 3) (zak 0 (zeZ (zab 2) (zab 1))))))) zae)))))))
abbrev zf9:Stmt:=top 11
def zeB:ME:=
 (eVar 1)
def zeJ:MO:=
 oLC [] 2 (iSeq (eVar 0)) (gT 2 (zar (gN 0) (zar (gN 1) zcw))) zbd zeB
def zeR:MS:=
 (sSeq (zm8 4 (fun i j => i - j) (eVar 6))
  (sSeq (sSet 7 (mC (d2I max2) (zaf (eVar 5) (zaf (m2 dSub (eVar 3) (eVar 4)) aNil))))
  (sSeq (sApp 2 (eVar 7))
  (zm8 3 (fun i j=>i-j) (eVar 7)))))
def zeG:MS:=
 sFor (iSeq (eVar 0)) (gT 2 (zar (gN 5) (zar (gN 6) zcw))) zeR
def zek:MS:=
 (sSeq (zfy 2 (oLst aNil))
  (sSeq (sSet 3 (eVar 1))
  (sSeq (sSet 4 (mC dSum (zaf (eFz zeJ) aNil)))
  (sSeq zeG
  (ziO 2)))))
def zbS:List D->Option Sl:=fP 8 zek
theorem ziK (h:FnAt K "least_heads" zf9):FD P w K mg base 1 "least_heads" (spP K 2 zbS):=
 fdP (N:=["spans","total","heads","left","room","low","high","head"]) (k:=0) (m:=zek) X G h fun _ _ _ _ _ _ _ hr nd=>(zad (zcg 2 (ze3 zae) nd)
  (zad (zau 3 (zab 1) nd)
  (zad (zau 4 (zeN rfl bn.sum' (zaa (SO.se (zbT [] 2 ["low", "high"] rfl (zaT (zab 0)) (fun C s H fp => (zbe rfl (zam (zaj 0 ndk) (zam (zaj 1 ndk) zaL)))) (fun C s H fp => zay) (fun C s H fp => (zab 1)))) zae)) nd)
  (zad (zd0 PassesOwn.never rfl (zaT (zab 0)) (zbe rfl (zam (zaj 5 nd) (zam (zaj 6 nd) zaL)))
  (zad (zlk 4 (zab 6) nd)
  (zad (zau 7 (zhs rfl bn.max' (zaa (zab 5) (zaa (zbG (zab 3) (zab 4)) zae))) nd)
  (zad (zg5 2 (zab 7))
  (zal (zlk 3 (zab 7) nd))))))
  (zal (zgI 2))))))
abbrev zgn:Stmt:=top 12
def zeX:ME:=
 (eVar 0)
def zeD:MO:=
 oLC [] 2 (iSeq (eVar 0)) (gT 2 (zar (gN 0) (zar (gN 1) zcw))) zbd zeX
def zeO:ME:=
 (eVar 1)
def zeT:MO:=
 oLC [] 2 (iSeq (eVar 0)) (gT 2 (zar (gN 0) (zar (gN 1) zcw))) zbd zeO
def zeP:ME:=
 (eTup (zaf (mC (d2I max2) (zaf (eVar 2) (zaf (m2 dSub (eVar 3) (eVar 0)) aNil))) (zaf (mC (d2I min2) (zaf (eVar 3) (zaf (m2 dAdd (eVar 2) (eVar 1)) aNil))) aNil)))
def zey:MO:=
 oLC [3,2] 2 (iSeq (eVar 0)) (gT 2 (zar (gN 2) (zar (gN 3) zcw))) zbd zeP
def zem:MS:=
 (sSeq (sSet 2 (m2 dSub (eVar 1) (mC dSum (zaf (eFz zeD) aNil))))
  (sSeq (sSet 3 (m2 dSub (mC dSum (zaf (eFz zeT) aNil)) (eVar 1)))
  (zgZ zey)))
def zbP:List D->Option Sl:=fP 4 zem
theorem zi0 (h:FnAt K "head_ranges" zgn):FD P w K mg base 1 "head_ranges" (spP K 2 zbP):=
 fdP (N:=["spans","total","over","under"]) (k:=0) (m:=zem) X G h fun _ _ _ _ _ _ _ hr nd=>(zad (zau 2 (zbG (zab 1) (zeN rfl bn.sum' (zaa (SO.se (zbT [] 2 ["low","high"] rfl (zaT (zab 0)) (fun C s H fp=>(zbe rfl (zam (zaj 0 ndk) (zam (zaj 1 ndk) zaL)))) (fun C s H fp=>zay) (fun C s H fp=>(zab 0)))) zae))) nd)
  (zad (zau 3 (zbG (zeN rfl bn.sum' (zaa (SO.se (zbT [] 2 ["low", "high"] rfl (zaT (zab 0)) (fun C s H fp => (zbe rfl (zam (zaj 0 ndk) (zam (zaj 1 ndk) zaL)))) (fun C s H fp => zay) (fun C s H fp => (zab 1)))) zae)) (zab 1)) nd)
  (zal (zcK (zbT [3,2] 2 ["under","over","low","high"] rfl (zaT (zab 0)) (fun C s H fp=>(zbe rfl (zam (zaj 2 ndk) (zam (zaj 3 ndk) zaL)))) (fun C s H fp=>zay) (fun C s H fp=>(za5 (zaa (zhs rfl bn.max' (zaa (zab 2) (zaa (zbG (zab 3) (zab 0)) zae))) (zaa (zjW rfl bn.min' (zaa (zab 3) (zaa (zaH (zab 2) (zab 1)) zae))) zae)))))))))
abbrev zh6:Stmt:=top 14
def zhb:MS:=
 (sApp 2 (m2 dSub (m2 dAdd (eIxV 2 (eVar 3)) (eIxV 1 (m2 dAdd (eVar 3) (eC (.int 1))))) (eIxV 1 (eVar 3))))
def zgV:MS:=
 sFor (iR1 (zaf (m2 dSub (zcG 1) (eC (.int 1))) aNil)) (gN 3) zhb
def zhw:MS:=
 (sSeq (sSet 1 (eIxV 0 (eC (.int 1))))
  (sSeq (zfy 2 (oRep (eFz (oLst (zaf (eC (.int 0)) aNil))) (eIxV 0 (eC (.int 0)))))
  (sSeq zgV
  (ziO 2))))
def zbn:List D->Option Sl:=fP 4 zhw
theorem zlS (h:FnAt K "mores_of" zh6):FD P w K mg base 1 "mores_of" (spP K 1 zbn):=
 fdP (N:=["line","sums","mores","i"]) (k:=0) (m:=zhw) X G h fun _ _ _ _ _ _ _ hr nd=>(zad (zau 1 (zak 0 zah) nd)
  (zad (zcg 2 (so_rep (SO.se (ze3 (zaa zah zae))) (zak 0 zah)) nd)
  (zad (zd0 PassesOwn.never rfl (zaN bn.range' (zaa (zbG (zaO 1 bn.len') zah) zae)) (zaj 3 nd)
  (zal (zg5 2 (zbG (zaH (zak 2 (zab 3)) (zak 1 (zaH (zab 3) zah))) (zak 1 (zab 3))))))
  (zal (zgI 2)))))
abbrev zit:Stmt:=top 15
def zhi:MS:=
 (zgZ (zkC zbf (zaf (eIxV 0 (eC (.int 2))) (zaf (zaR zbn (zaf (eVar 0) aNil)) aNil))))
def zce:List D->Option Sl:=fP 1 zhi
theorem zlK (zbk:FD P w K mg base 1 "less_mores" (spP K 2 zbf))(za6:FD P w K mg base 1 "mores_of" (spP K 1 zbn))(h:FnAt K "low_asks" zit):FD P w K mg base 2 "low_asks" (spP K 1 zce):=
 fdP (N:=["line"]) (k:=1) (m:=zhi) X G h fun _ _ _ _ _ _ _ hr nd=>(zal (zcK (zhq zbk hr (zaa (zak 0 zah) (zaa (zaq za6 hr (zaa (zab 0) zae) (hlen:=(zac zai))) zae)) (hlen:=(zac (zac zai))))))
abbrev zhI:Stmt:=top 16
def zgD:MS:=
 (zgZ (zkC zbf (zaf (eIxV 0 (eC (.int 3))) (zaf (zaR zbn (zaf (eVar 0) aNil)) aNil))))
def zbA:List D->Option Sl:=fP 1 zgD
theorem zk1 (zbk:FD P w K mg base 1 "less_mores" (spP K 2 zbf))(za6:FD P w K mg base 1 "mores_of" (spP K 1 zbn))(h:FnAt K "high_asks" zhI):FD P w K mg base 2 "high_asks" (spP K 1 zbA):=
 fdP (N:=["line"]) (k:=1) (m:=zgD) X G h fun _ _ _ _ _ _ _ hr nd=>(zal (zcK (zhq zbk hr (zaa (zak 0 zah) (zaa (zaq za6 hr (zaa (zab 0) zae) (hlen:=(zac zai))) zae)) (hlen:=(zac (zac zai))))))
abbrev zgT:Stmt:=top 17
def zfz:MS:=
 (zgZ (zkC zbi (zaf (zaR zce (zaf (eVar 0) aNil)) (zaf (zaR zbA (zaf (eVar 0) aNil)) (zaf (eIxV 0 (eC (.int 0))) aNil)))))
def zcy:List D->Option Sl:=fP 1 zfz
theorem zjs (zbl:FD P w K mg base 1 "head_spans" (spP K 3 zbi))(zbH:FD P w K mg base 2 "high_asks" (spP K 1 zbA))(zcm:FD P w K mg base 2 "low_asks" (spP K 1 zce))(h:FnAt K "rest_spans" zgT):FD P w K mg base 3 "rest_spans" (spP K 1 zcy):=
 fdP (N:=["line"]) (k:=2) (m:=zfz) X G h fun _ _ _ _ _ _ _ hr nd=>(zal (zcK (zhq zbl hr (zaa (zaq zcm hr (zaa (zab 0) zae) (hlen:=(zac zai))) (zaa (zaq zbH hr (zaa (zab 0) zae) (hlen:=(zac zai))) (zaa (zak 0 zah) zae))) (hlen:=(zac (zac (zac zai)))))))
abbrev zkn:Stmt:=top 18
def zjz:MS:=
 (sRet (zaR zbs (zaf (eVar 1) (zaf (zaR zbn (zaf (eVar 0) aNil)) aNil))))
def zgY:List D->Option Sl:=fP 2 zjz
theorem znX (za6:FD P w K mg base 1 "mores_of" (spP K 1 zbn))(zc2:FD P w K mg base 1 "row_by_heads" (spP K 2 zbs))(h:FnAt K "row_of" zkn):FD P w K mg base 2 "row_of" (spP K 2 zgY):=
 fdP (N:=["line","heads"]) (k:=1) (m:=zjz) X G h fun _ _ _ _ _ _ _ hr nd=>(zal (zaz (zaq zc2 hr (zaa (zab 1) (zaa (zaq za6 hr (zaa (zab 0) zae) (hlen:=(zac zai))) zae)) (hlen:=(zac (zac zai))))))
abbrev zgM:Stmt:=top 19
def zfx:MS:=
 (sRet (zaR zbN (zaf (zaR zce (zaf (eVar 0) aNil)) (zaf (zaR zbA (zaf (eVar 0) aNil)) (zaf (eIxV 0 (eC (.int 0))) (zaf (m2 dIx (eIxV 0 (eC (.int 1))) (eC (.int 0))) aNil))))))
def zcB:List D->Option Sl:=fP 1 zfx
theorem zj3 (zdK:FD P w K mg base 2 "heads_paper" (spP K 4 zbN))(zbH:FD P w K mg base 2 "high_asks" (spP K 1 zbA))(zcm:FD P w K mg base 2 "low_asks" (spP K 1 zce))(h:FnAt K "line_paper" zgM):FD P w K mg base 3 "line_paper" (spP K 1 zcB):=
 fdP (N:=["line"]) (k:=2) (m:=zfx) X G h fun _ _ _ _ _ _ _ hr nd=>(zal (zaz (zaq zdK hr (zaa (zaq zcm hr (zaa (zab 0) zae) (hlen:=(zac zai))) (zaa (zaq zbH hr (zaa (zab 0) zae) (hlen:=(zac zai))) (zaa (zak 0 zah) (zaa (zbz (zak 0 zah) zah) zae)))) (hlen:=(zac (zac (zac (zac zai))))))))
abbrev zez:Stmt:=top 20
def zdt:MS:=
 (zgZ (zkC zcy (zaf (eVar 0) aNil)))
def zc1:MS:=
 (sSeq (sIf (tTru (m2 zlX (zaR zcB (zaf (eVar 0) aNil)) (eC .non)))
  (fun _=>none)
  zbr)
  zdt)
def zaP:List D->Option Sl:=fP 1 zc1
theorem zhU (zea:FD P w K mg base 3 "line_paper" (spP K 1 zcB))(zel:FD P w K mg base 3 "rest_spans" (spP K 1 zcy))(h:FnAt K "fitting_spans" zez):FD P w K mg base 4 "fitting_spans" (spP K 1 zaP):=
 fdP (N:=["line"]) (k:=3) (m:=zc1) X G h fun _ _ _ _ _ _ _ hr nd=>(zad (zbK (st_isNot (zaq zea hr (zaa (zab 0) zae) (hlen:=(zac zai))) se_non)
  (zal zmp)
  zaE)
  (zal (zcK (zhq zel hr (zaa (zab 0) zae) (hlen:=(zac zai))))))
abbrev zg0:Stmt:=top 22
def zfk:ME:=
 (m2 dEq (eVar 0) (eVar 1))
def zfb:MO:=
 oLC [] 2 (iSeq (zaR zbP (zaf (zaR zaP (zaf (eVar 0) aNil)) (zaf (m2 dIx (eIxV 0 (eC (.int 1))) (eC (.int 0))) aNil)))) (gT 2 (zar (gN 0) (zar (gN 1) zcw))) zbd zfk
def zfn:MS:=
 (zgZ zfb)
def zcu:List D->Option Sl:=fP 1 zfn
theorem zjx (zaU:FD P w K mg base 4 "fitting_spans" (spP K 1 zaP))(zdG:FD P w K mg base 1 "head_ranges" (spP K 2 zbP))(h:FnAt K "sure_rests" zg0):FD P w K mg base 5 "sure_rests" (spP K 1 zcu):=
 fdP (N:=["line"]) (k:=4) (m:=zfn) X G h fun _ _ _ _ _ _ _ hr nd=>(zal (zcK (zbT [] 2 ["low","high"] rfl (zaT (zaq zdG hr (zaa (zaq zaU hr (zaa (zab 0) zae) (hlen:=(zac zai))) (zaa (zbz (zak 0 zah) zah) zae)) (hlen:=(zac (zac zai))))) (fun C s H fp=>(zbe rfl (zam (zaj 0 ndk) (zam (zaj 1 ndk) zaL)))) (fun C s H fp=>zay) (fun C s H fp=>(se_eq hr.units (zab 0) (zab 1))))))
abbrev zg9:Stmt:=top 24
def zfw:ME:=
 (eVar 0)
def zfM:MT:=
 (zdR (tTru (eVar 1)))
def zfg:MO:=
 oLC [] 2 (iEn (zaf (zaR zcu (zaf (eVar 0) aNil)) aNil)) (gT 2 (zar (gN 0) (zar (gN 1) zcw))) zfM zfw
def zfd:MS:=
 (zgZ zfg)
def zcA:List D->Option Sl:=fP 1 zfd
theorem zj6 (zer:FD P w K mg base 5 "sure_rests" (spP K 1 zcu))(h:FnAt K "free_rests" zg9):FD P w K mg base 6 "free_rests" (spP K 1 zcA):=
 fdP (N:=["line"]) (k:=5) (m:=zfd) X G h fun _ _ _ _ _ _ _ hr nd=>(zal (zcK (zbT [] 2 ["j","sure"] rfl (zeg bn.enumerate' (zaa (zaq zer hr (zaa (zab 0) zae) (hlen:=(zac zai))) zae)) (fun C s H fp=>(zbe rfl (zam (zaj 0 ndk) (zam (zaj 1 ndk) zaL)))) (fun C s H fp=>(ziq (zcb (zaS (zab 1))))) (fun C s H fp=>(zab 0)))))
abbrev zib:Stmt:=top 25
def zhv:MS:=
 (sSeq (zfy 3 (zkC zaP (zaf (eVar 0) aNil)))
  (sSeq (sPut 3 (eVar 1) (eTup (zaf (m2 dIx (eIxV 3 (eVar 1)) (eC (.int 0))) (zaf (m2 dSub (m2 dIx (eIxV 3 (eVar 1)) (eC (.int 1))) (eC (.int 1))) aNil))))
  (sSeq (sPut 3 (eVar 2) (eTup (zaf (m2 dAdd (m2 dIx (eIxV 3 (eVar 2)) (eC (.int 0))) (eC (.int 1))) (zaf (m2 dIx (eIxV 3 (eVar 2)) (eC (.int 1))) aNil))))
  (sSeq (sSet 4 (zaR zgY (zaf (eVar 0) (zaf (zaR zbS (zaf (eVar 3) (zaf (m2 dIx (eIxV 0 (eC (.int 1))) (eC (.int 0))) aNil))) aNil))))
  (sRet (eTup (zaf (eVar 4) (zaf (zaR zbj (zaf (eVar 4) (zaf (eIxV 0 (eC (.int 0))) (zaf (eVar 2) (zaf (eVar 1) aNil))))) aNil))))))))
def zd2:List D->Option Sl:=fP 5 zhv
theorem zll (zcI:FD P w K mg base 1 "exchanged_row" (spP K 4 zbj))(zaU:FD P w K mg base 4 "fitting_spans" (spP K 1 zaP))(zdF:FD P w K mg base 1 "least_heads" (spP K 2 zbS))(ziB:FD P w K mg base 2 "row_of" (spP K 2 zgY))(h:FnAt K "two_rows" zib):FD P w K mg base 5 "two_rows" (spP K 3 zd2):=
 fdP (N:=["line","first","second","spans","row"]) (k:=4) (m:=zhv) X G h fun _ _ _ _ _ _ _ hr nd=>(zad (zcg 3 (zhq zaU hr (zaa (zab 0) zae) (hlen:=(zac zai))) nd)
  (zad (zjb 3 (za5 (zaa (zbz (zak 3 (zab 1)) zah) (zaa (zbG (zbz (zak 3 (zab 1)) zah) zah) zae))) (zab 1))
  (zad (zjb 3 (za5 (zaa (zaH (zbz (zak 3 (zab 2)) zah) zah) (zaa (zbz (zak 3 (zab 2)) zah) zae))) (zab 2))
  (zad (zau 4 (zaq ziB hr (zaa (zab 0) (zaa (zaq zdF hr (zaa (zab 3) (zaa (zbz (zak 0 zah) zah) zae)) (hlen := (zac (zac zai)))) zae)) (hlen := (zac (zac zai)))) nd)
  (zal (zaz (za5 (zaa (zab 4) (zaa (zaq zcI hr (zaa (zab 4) (zaa (zak 0 zah) (zaa (zab 2) (zaa (zab 1) zae)))) (hlen:=(zac (zac (zac (zac zai)))))) zae)))))))))
abbrev zgU:Stmt:=top 26
def zfS:MS:=
 (sApp 1 (eTup (zaf (eIxV 0 (eVar 2)) (zaf (eVar 3) aNil))))
def zfe:MS:=
 sFor (iSeq (eCut (eVar 0) (zcC (m2 dAdd (eVar 2) (eC (.int 1)))) pNo)) (gN 3) zfS
def ze9:MS:=
 zfe
def zff:MS:=
 sFor (iR1 (zaf (zcG 0) aNil)) (gN 2) ze9
def ze8:MS:=
 (sSeq (zfy 1 (oLst aNil))
  (sSeq zff
  (ziO 1)))
def zcF:List D->Option Sl:=fP 4 ze8
theorem zjC (h:FnAt K "rest_pairs" zgU):FD P w K mg base 1 "rest_pairs" (spP K 1 zcF):=
 fdP (N:=["rests","pairs","i","second"]) (k:=0) (m:=ze8) X G h fun _ _ _ _ _ _ _ hr nd=>(zad (zcg 1 (ze3 zae) nd)
  (zad (zd0 PassesOwn.never rfl (zaN bn.range' (zaa (zaO 0 bn.len') zae)) (zaj 2 nd)
  (zal (zd0 PassesOwn.never rfl (zaT (zd1 (zab 0) (zaM (zaH (zab 2) zah)) ze6)) (zaj 3 nd)
  (zal (zg5 1 (za5 (zaa (zak 0 (zab 2)) (zaa (zab 3) zae))))))))
  (zal (zgI 1))))
abbrev zdT:Stmt:=top 27
def zbu:MS:=
 (sSeq (sSet 3 (zn0 (eVar 0) (zcC (eVar 2)) pNo (zcC (eVar 1))))
  (sRet (m2 dAdd (eVar 2) (m2 dMul (eVar 1) (m2 zjJ (eVar 3) (mC zfA (zaf (eVar 3) aNil)))))))
def zaV:List D->Option Sl:=fP 4 zbu
theorem zho (h:FnAt K "cheapest_place" zdT):FD P w K mg base 1 "cheapest_place" (spP K 3 zaV):=
 fdP (N:=["costs","k","j","of_rest"]) (k:=0) (m:=zbu) X G h fun _ _ _ _ _ _ _ hr nd=>(zad (zau 3 (se_cutS2 (zab 0) (zaM (zab 2)) ze6 (zaM (zab 1))) nd)
  (zal (zaz (zaH (zab 2) (zdV (zab 1) (zpx (zab 3) (zka rfl bn.min' (zaa (zab 3) zae))))))))
abbrev zdh:Stmt:=top 28
def zcN:ME:=
 (zaR zaV (zaf (eVar 0) (zaf (eVar 1) (zaf (eVar 2) aNil))))
def zcS:MO:=
 oLC [0,1] 1 (iSeq (eVar 2)) (gN 2) zbd zcN
def zci:MS:=
 (sSeq (sSet 3 (eFz zcS))
  (sSeq (sSet 3 (eCut (eFz (oSrtK 0 (eVar 3))) pNo (zcC (m1 dNeg (eC (.int 1))))))
  (sRet (mC zcx (zaf (eFz (oC dSrt (zaf (eVar 3) aNil))) aNil)))))
def za1:List D->Option Sl:=fP 4 zci
theorem zhg (zck:FD P w K mg base 1 "cheapest_place" (spP K 3 zaV)){c0:Addr}(hh:HostAt K "cheapest_places" 173 c0)(h:FnAt K "cheapest_places" zdh):FD P w K mg base 4 "cheapest_places" (spP K 3 za1):=
 fdPL (N:=["costs","k","free","cheapest"]) (k:=3) (m:=zci) X G h hh fun tb hC _ _ _ _ _ _ hr nd=>(zad (zct 3 [0,1] 1 ["costs","k","j"] rfl (zaT (zab 2)) (fun C s H fp=>(zaj 2 ndk)) (fun C s H fp=>zay) (fun C s H fp=>(zaq zck hr (zaa (zab 0) (zaa (zab 1) (zaa (zab 2) zae))) (hlen:=(zac (zac (zac zai)))))) nd)
  (zad (zau 3 (zd1 (SO.se (so_srtK 0 bn.sorted' (zab 3) (k := 0) (hr.mono (by decide)) tb rfl hC (zkP rfl rfl) ⟨rfl, rfl, by decide, rfl, rfl, by decide, fun _ _ _ _ _ _ _ => rfl⟩ rfl)) ze6 (zaM (zk8 zah))) nd)
  (zal (zaz (zcs bn.tuple' (zaa (SO.se (zoc bn.sorted' (zaa (zab 3) zae))) zae))))))
abbrev zf8:Stmt:=top 29
def zeL:ME:=
 (m2 dAdd (eTup (zaf (eVar 1) (zaf (eVar 2) aNil))) (zaR zd2 (zaf (eVar 0) (zaf (eVar 1) (zaf (eVar 2) aNil)))))
def zeC:MO:=
 oLC [0] 2 (iSeq (zaR zcF (zaf (eVar 2) aNil))) (gT 2 (zar (gN 1) (zar (gN 2) zcw))) zbd zeL
def zeI:MS:=
 (sSeq (sSet 2 (zaR zcA (zaf (eVar 0) aNil)))
  (sSeq (zfy 3 zeC)
  (zpt (zaR za1 (zaf (eVar 1) (zaf (eIxV 0 (eC (.int 0))) (zaf (eVar 2) aNil)))) (oMv 3))))
def zeo:MS:=
 (sSeq (sIf (tTru (m2 dNe (zcG 1) (mC dLen (zaf (eIxV 0 (eC (.int 2))) aNil))))
  (fun _=>none)
  zbr)
  zeI)
def zbp:List D->Option Sl:=fP 4 zeo
theorem ziY (zbX:FD P w K mg base 4 "cheapest_places" (spP K 3 za1))(zd5:FD P w K mg base 6 "free_rests" (spP K 1 zcA))(zep:FD P w K mg base 1 "rest_pairs" (spP K 1 zcF))(zgH:FD P w K mg base 5 "two_rows" (spP K 3 zd2))(h:FnAt K "line_settle" zf8):FD P w K mg base 7 "line_settle" (spP K 2 zbp):=
 fdP (N:=["line","costs","free","pairs"]) (k:=6) (m:=zeo) X G h fun _ _ _ _ _ _ _ hr nd=>(zad (zbK (ziE hr.units (zaO 1 bn.len') (zow bn.len' (zaa (zak 0 zah) zae)))
  (zal zmp)
  zaE)
  (zad (zau 2 (zaq zd5 hr (zaa (zab 0) zae) (hlen := (zac zai))) nd)
  (zad (ss_setLC 3 [0] 2 ["line", "first", "second"] rfl (zaT (zaq zep hr (zaa (zab 2) zae) (hlen := (zac zai)))) (fun C s H fp => (zbe rfl (zam (zaj 1 ndk) (zam (zaj 2 ndk) zaL)))) (fun C s H fp => zay) (fun C s H fp => (zaH (za5 (zaa (zab 1) (zaa (zab 2) zae))) (zaq zgH hr (zaa (zab 0) (zaa (zab 1) (zaa (zab 2) zae))) (hlen := (zac (zac (zac zai))))))) nd)
  (zal (ss_retUl (zaq zbX hr (zaa (zab 1) (zaa (zak 0 zah) (zaa (zab 2) zae))) (hlen:=(zac (zac (zac zai))))) (so_mv 3))))))
abbrev zhA:Stmt:=top 31
def zdP:MS:=
 (zgZ (oLst (zaf (mC (d2I max2) (zaf (eC (.int 0)) (zaf (m2 dSub (eVar 2) (m2 dPow (eC (.int 10)) (eC (.int 18)))) aNil))) (zaf (m2 dMod (m2 dMul (m2 dAdd (m2 dAdd (m2 dMod (eVar 2) (eC (.int 2147483629))) (m2 dMul (eC (.int 7919)) (eVar 1))) (eC (.int 1))) (eC (.int 48271))) (eC (.int 2147483647))) aNil))))
def zgw:MS:=
 (sSeq (sSet 2 (eC (.int 0)))
  (sSeq (sIf (tTru (m2 dLt (eVar 1) (zcG 0)))
  (sSet 2 (m2 dMod (eIxV 0 (eVar 1)) (m2 dMul (m2 dMul (m2 dMul (m2 dPow (eC (.int 10)) (eC (.int 64))) (m2 dPow (eC (.int 10)) (eC (.int 64)))) (m2 dPow (eC (.int 10)) (eC (.int 64)))) (m2 dPow (eC (.int 10)) (eC (.int 64))))))
  zbr)
  zdP))
def zc5:List D->Option Sl:=fP 3 zgw
theorem zlh (h:FnAt K "_law_pool" zhA):FD P w K mg base 1 "_law_pool" (spP K 2 zc5):=
 fdP (N:=["script","k","cell"]) (k:=0) (m:=zgw) X G h fun _ _ _ _ _ _ _ hr nd=>(zad (zau 2 zah nd)
  (zad (zbK (zpD (zab 1) (zaO 0 bn.len'))
  (zal (zau 2 (zeZ (zak 0 (zab 1)) (zdV (zdV (zdV (zdY zah zah) (zdY zah zah)) (zdY zah zah)) (zdY zah zah))) nd))
  zaE)
  (zal (zcK (ze3 (zaa (zhs rfl bn.max' (zaa zah (zaa (zbG (zab 2) (zdY zah zah)) zae))) (zaa (zeZ (zdV (zaH (zaH (zeZ (zab 2) zah) (zdV zah (zab 1))) zah) zah) zah) zae)))))))
abbrev zhG:Stmt:=top 32
def zgk:MS:=
 (sSeq (sPut 0 (eC (.int 1)) (m2 dMod (m2 dAdd (m2 dMul (eIxV 0 (eC (.int 1))) (eC (.int 69621))) (eC (.int 12345))) (eC (.int 2147483647))))
  (sRet (m2 dMod (m2 dDiv (m2 dMod (m2 dMul (eIxV 0 (eC (.int 1))) (eIxV 0 (eC (.int 1)))) (eC (.int 2147483629))) (eC (.int 64))) (eVar 1))))
def zgz:MS:=
 (sSeq (sIf (tTru (m2 dGt (eIxV 0 (eC (.int 0))) (eC (.int 0))))
  (sSeq (sSet 2 (m2 dMod (eIxV 0 (eC (.int 0))) (eVar 1)))
  (sSeq (sPut 0 (eC (.int 0)) (m2 dDiv (eIxV 0 (eC (.int 0))) (eVar 1)))
  (ziO 2)))
  zbr)
  zgk)
def zao:List D->List D->Option (Sl×List D):=fM 3 zgz
theorem zkh (h:FnAt K "_law_pick" zhG):FD P w K mg base 1 "_law_pick" (spM K 2 zao):=
 fdM (N:=["pool","many","digit"]) (k:=0) (m:=zgz) X G h fun _ _ _ _ _ _ _ hr nd=>(zad (zbK (st_gt (zak 0 zah) zah)
  (zad (zau 2 (zeZ (zak 0 zah) (zab 1)) nd)
  (zad (zjb 0 (se_div (zak 0 zah) (zab 1)) zah)
  (zal (zgI 2))))
  zaE)
  (zad (zjb 0 (zeZ (zaH (zdV (zak 0 zah) zah) zah) zah) zah)
  (zal (zaz (zeZ (se_div (zeZ (zdV (zak 0 zah) (zak 0 zah)) zah) zah) (zab 1))))))
abbrev zhC:Stmt:=top 33
def zgq:MS:=
 (sRet (m2 dMul (zaZ zao 0 (zaf (eC (.int 9)) aNil)) (m2 dIx (eTup (zaf (eC (.int 1)) (zaf (m2 dPow (eC (.int 10)) (eC (.int 3))) (zaf (m2 dPow (eC (.int 10)) (eC (.int 20))) (zaf (m2 dPow (eC (.int 10)) (eC (.int 58))) aNil))))) (zaZ zao 0 (zaf (eC (.int 4)) aNil)))))
def zga:MS:=
 (sSeq (sIf (tTru (m2 dEq (eVar 1) (eC (.int 2))))
  (sRet (m2 dMul (zaZ zao 0 (zaf (eC (.int 2)) aNil)) (zaZ zao 0 (zaf (eC (.int 40)) aNil))))
  zbr)
  zgq)
def zgb:MS:=
 (sSeq (sIf (tTru (m2 dEq (eVar 1) (eC (.int 1))))
  (sRet (zaZ zao 0 (zaf (eC (.int 4)) aNil)))
  zbr)
  zga)
def zgE:MS:=
 (sSeq (sIf (tTru (m2 dEq (eVar 1) (eC (.int 0))))
  (sRet (zaZ zao 0 (zaf (eC (.int 2)) aNil)))
  zbr)
  zgb)
def zcn:List D->List D->Option (Sl×List D):=fM 2 zgE
theorem zkU (zan:FD P w K mg base 1 "_law_pick" (spM K 2 zao))(h:FnAt K "_law_wide" zhC):FD P w K mg base 2 "_law_wide" (spM K 2 zcn):=
 fdM (N:=["pool","way"]) (k:=1) (m:=zgE) X G h fun _ _ _ _ _ _ _ hr nd=>(zad (zbK (zkS hr.units (zab 1) zah)
  (zal (zaz (zaA 0 zan hr (zaa zah zae) (zcJ (zac zai)))))
  zaE)
  (zad (zbK (zkS hr.units (zab 1) zah)
  (zal (zaz (zaA 0 zan hr (zaa zah zae) (zcJ (zac zai)))))
  zaE)
  (zad (zbK (zkS hr.units (zab 1) zah)
  (zal (zaz (zdV (zaA 0 zan hr (zaa zah zae) (zcJ (zac zai))) (zaA 0 zan hr (zaa zah zae) (zcJ (zac zai))))))
  zaE)
  (zal (zaz (zdV (zaA 0 zan hr (zaa zah zae) (zcJ (zac zai))) (zbz (za5 (zaa zah (zaa (zdY zah zah) (zaa (zdY zah zah) (zaa (zdY zah zah) zae))))) (zaA 0 zan hr (zaa zah zae) (zcJ (zac zai))))))))))
abbrev zhM:Stmt:=top 34
def zdJ:ME:=
 (mC dSum (zaf (eCut (eVar 0) (zcC (eVar 2)) (zcC (m2 dAdd (eVar 2) (eVar 1)))) aNil))
def zdQ:MO:=
 oLC [0,1] 1 (iR1 (zaf (m2 dAdd (m2 dSub (zcG 0) (eVar 1)) (eC (.int 1))) aNil)) (gN 2) zbd zdJ
def zef:MS:=
 (sRet (mC zcx (zaf (eFz zdQ) aNil)))
def za9:List D->Option Sl:=fP 2 zef
theorem zlb (h:FnAt K "_law_sums" zhM):FD P w K mg base 1 "_law_sums" (spP K 2 za9):=
 fdP (N:=["row","k"]) (k:=0) (m:=zef) X G h fun _ _ _ _ _ _ _ hr nd=>(zal (zaz (zcs bn.tuple' (zaa (SO.se (zbT [0,1] 1 ["row","k","at"] rfl (zaN bn.range' (zaa (zaH (zbG (zaO 0 bn.len') (zab 1)) zah) zae)) (fun C s H fp=>(zaj 2 ndk)) (fun C s H fp=>zay) (fun C s H fp=>(zeN rfl bn.sum' (zaa (zd1 (zab 0) (zaM (zab 2)) (zaM (zaH (zab 2) (zab 1)))) zae))))) zae))))
abbrev zhz:Stmt:=top 35
def zgo:MS:=
 (sSeq (sSet 11 (m2 dMul (m2 dSub (zaZ zao 0 (zaf (eC (.int 13)) aNil)) (eC (.int 6))) (eVar 5)))
  (sSeq (sApp 7 (eVar 11))
  (sSeq (sApp 8 (m2 dSub (eVar 11) (zaZ zcn 0 (zaf (eVar 6) aNil))))
  (sApp 9 (m2 dAdd (eVar 11) (zaZ zcn 0 (zaf (eVar 6) aNil)))))))
def zgs:MS:=
 sFor (iR1 (zaf (eVar 4) aNil)) (gN 10) zgo
def zgx:MS:=
 (sSeq (sSet 3 (m2 dAdd (eC (.int 2)) (zaZ zao 0 (zaf (eC (.int 4)) aNil))))
  (sSeq (sSet 4 (mC (d2I min2) (zaf (eVar 1) (zaf (m2 dIx (eTup (zaf (eVar 3) (zaf (m2 dAdd (eVar 3) (zaZ zao 0 (zaf (eC (.int 4)) aNil))) (zaf (m2 dAdd (eVar 3) (zaZ zao 0 (zaf (m2 dAdd (m2 dSub (eVar 1) (eVar 3)) (eC (.int 1))) aNil))) (zaf (eVar 1) aNil))))) (zaZ zao 0 (zaf (eC (.int 4)) aNil))) aNil))))
  (sSeq (sSet 5 (m2 dIx (eTup (zaf (eC (.int 1)) (zaf (eC (.int 1)) (zaf (m2 dPow (eC (.int 10)) (eC (.int 57))) aNil)))) (zaZ zao 0 (zaf (eC (.int 3)) aNil))))
  (sSeq (sSet 6 (zaZ zao 0 (zaf (eVar 2) aNil)))
  (sSeq (zfy 7 (oLst aNil))
  (sSeq (zfy 8 (oLst aNil))
  (sSeq (zfy 9 (oLst aNil))
  (sSeq zgs
  (sRet (eTup (zaf (eVar 3) (zaf (zaR za9 (zaf (eVar 7) (zaf (eVar 3) aNil))) (zaf (mC zcx (zaf (eVar 8) aNil)) (zaf (mC zcx (zaf (eVar 9) aNil)) aNil))))))))))))))
def zc6:List D->List D->Option (Sl×List D):=fM 12 zgx
theorem zkk (zan:FD P w K mg base 1 "_law_pick" (spM K 2 zao))(zbE:FD P w K mg base 1 "_law_sums" (spP K 2 za9))(zds:FD P w K mg base 2 "_law_wide" (spM K 2 zcn))(h:FnAt K "_law_line" zhz):FD P w K mg base 3 "_law_line" (spM K 3 zc6):=
 fdM (N:=["pool","most","ways","k","many","great","way","row","least","greatest","place","number"]) (k:=2) (m:=zgx) X G h fun _ _ _ _ _ _ _ hr nd=>(zad (zau 3 (zaH zah (zaA 0 zan hr (zaa zah zae) (zcJ (zac zai)))) nd)
  (zad (zau 4 (zjW rfl bn.min' (zaa (zab 1) (zaa (zbz (za5 (zaa (zab 3) (zaa (zaH (zab 3) (zaA 0 zan hr (zaa zah zae) (zcJ (zac zai)))) (zaa (zaH (zab 3) (zaA 0 zan hr (zaa (zaH (zbG (zab 1) (zab 3)) zah) zae) (zcJ (zac zai)))) (zaa (zab 1) zae))))) (zaA 0 zan hr (zaa zah zae) (zcJ (zac zai)))) zae))) nd)
  (zad (zau 5 (zbz (za5 (zaa zah (zaa zah (zaa (zdY zah zah) zae)))) (zaA 0 zan hr (zaa zah zae) (zcJ (zac zai)))) nd)
  (zad (zau 6 (zaA 0 zan hr (zaa (zab 2) zae) (zcJ (zac zai))) nd)
  (zad (zcg 7 (ze3 zae) nd)
  (zad (zcg 8 (ze3 zae) nd)
  (zad (zcg 9 (ze3 zae) nd)
  (zad (zd0 PassesOwn.never rfl (zaN bn.range' (zaa (zab 4) zae)) (zaj 10 nd)
  (zad (zau 11 (zdV (zbG (zaA 0 zan hr (zaa zah zae) (zcJ (zac zai))) zah) (zab 5)) nd)
  (zad (zg5 7 (zab 11))
  (zad (zg5 8 (zbG (zab 11) (zaA 0 zds hr (zaa (zab 6) zae) (zcJ (zac zai)))))
  (zal (zg5 9 (zaH (zab 11) (zaA 0 zds hr (zaa (zab 6) zae) (zcJ (zac zai))))))))))
  (zal (zaz (za5 (zaa (zab 3) (zaa (zaq zbE hr (zaa (zab 7) (zaa (zab 3) zae)) (hlen:=(zac (zac zai)))) (zaa (zcs bn.tuple' (zaa (zab 8) zae)) (zaa (zcs bn.tuple' (zaa (zab 9) zae)) zae)))))))))))))))
abbrev zhH:Stmt:=top 36
def zf5:ME:=
 (m2 dAdd (eVar 1) (eVar 0))
def zf6:MO:=
 oLC [7] 1 (iSeq (eVar 3)) (gN 1) zbd zf5
def zgh:ME:=
 (m2 dAdd (eVar 1) (eVar 0))
def zgd:MO:=
 oLC [7] 1 (iSeq (eCut (eVar 3) (zcC (eVar 8)) pNo)) (gN 1) zbd zgh
def zdM:MS:=
 (sRet (eTup (zaf (eVar 2) (zaf (eVar 3) (zaf (eVar 4) (zaf (eVar 5) aNil))))))
def zdN:MS:=
 (sSeq (sIf (tTru (m2 dEq (eVar 6) (eC (.int 5))))
  (sSet 3 (m2 dAdd (eCut (eVar 3) pNo (zcC (eVar 8))) (mC zcx (zaf (eFz zgd) aNil))))
  zbr)
  zdM)
def zdz:MS:=
 (sSeq (sIf (tTru (m2 dEq (eVar 6) (eC (.int 4))))
  (sSet 5 (m2 dAdd (m2 dAdd (eCut (eVar 5) pNo (zcC (eVar 9))) (eTup (zaf (eIxV 4 (eVar 9)) aNil))) (eCut (eVar 5) (zcC (m2 dAdd (eVar 9) (eC (.int 1)))) pNo)))
  zbr)
  zdN)
def zdC:MS:=
 (sSeq (sIf (tTru (m2 dEq (eVar 6) (eC (.int 3))))
  (sSet 4 (m2 dAdd (m2 dAdd (eCut (eVar 4) pNo (zcC (eVar 9))) (eTup (zaf (eIxV 5 (eVar 9)) aNil))) (eCut (eVar 4) (zcC (m2 dAdd (eVar 9) (eC (.int 1)))) pNo)))
  zbr)
  zdz)
def zdy:MS:=
 (sSeq (sIf (tTru (m2 dEq (eVar 6) (eC (.int 2))))
  (sSet 3 (mC zcx (zaf (eFz zf6) aNil)))
  zbr)
  zdC)
def zgC:MS:=
 (sSeq (sAsg (eVar 1) (gT 4 (zar (gN 2) (zar (gN 3) (zar (gN 4) (zar (gN 5) zcw))))))
  (sSeq (sSet 6 (zaZ zao 0 (zaf (eC (.int 6)) aNil)))
  (sSeq (sSet 7 (m2 dIx (eTup (zaf (eC (.int 1)) (zaf (m1 dNeg (eC (.int 1))) (zaf (eC (.int 2)) (zaf (m1 dNeg (eC (.int 3))) (zaf (m2 dPow (eC (.int 10)) (eC (.int 58))) (zaf (m1 dNeg (m2 dPow (eC (.int 10)) (eC (.int 58)))) aNil))))))) (zaZ zao 0 (zaf (eC (.int 6)) aNil))))
  (sSeq (sSet 8 (zaZ zao 0 (zaf (zcG 3) aNil)))
  (sSeq (sSet 9 (zaZ zao 0 (zaf (zcG 4) aNil)))
  (sSeq (sIf (tTru (m2 dEq (eVar 6) (eC (.int 1))))
  (sSet 3 (m2 dAdd (m2 dAdd (eCut (eVar 3) pNo (zcC (eVar 8))) (eTup (zaf (m2 dAdd (eIxV 3 (eVar 8)) (eVar 7)) aNil))) (eCut (eVar 3) (zcC (m2 dAdd (eVar 8) (eC (.int 1)))) pNo)))
  zbr)
  zdy))))))
def zdb:List D->List D->Option (Sl×List D):=fM 10 zgC
theorem zkG (zan:FD P w K mg base 1 "_law_pick" (spM K 2 zao))(h:FnAt K "_law_bent" zhH):FD P w K mg base 2 "_law_bent" (spM K 2 zdb):=
 fdM (N:=["pool","line","k","sums","least","greatest","way","by","at","place"]) (k:=1) (m:=zgC) X G h fun _ _ _ _ _ _ _ hr nd=>(zad (zk4 (zab 1) (zbe rfl (zam (zaj 2 nd) (zam (zaj 3 nd) (zam (zaj 4 nd) (zam (zaj 5 nd) zaL))))))
  (zad (zau 6 (zaA 0 zan hr (zaa zah zae) (zcJ (zac zai))) nd)
  (zad (zau 7 (zbz (za5 (zaa zah (zaa (zk8 zah) (zaa zah (zaa (zk8 zah) (zaa (zdY zah zah) (zaa (zk8 (zdY zah zah)) zae))))))) (zaA 0 zan hr (zaa zah zae) (zcJ (zac zai)))) nd)
  (zad (zau 8 (zaA 0 zan hr (zaa (zaO 3 bn.len') zae) (zcJ (zac zai))) nd)
  (zad (zau 9 (zaA 0 zan hr (zaa (zaO 4 bn.len') zae) (zcJ (zac zai))) nd)
  (zad (zbK (zkS hr.units (zab 6) zah)
  (zal (zau 3 (zaH (zaH (zd1 (zab 3) ze6 (zaM (zab 8))) (za5 (zaa (zaH (zak 3 (zab 8)) (zab 7)) zae))) (zd1 (zab 3) (zaM (zaH (zab 8) zah)) ze6)) nd))
  zaE)
  (zad (zbK (zkS hr.units (zab 6) zah)
  (zal (zau 3 (zcs bn.tuple' (zaa (SO.se (zbT [7] 1 ["by","some"] rfl (zaT (zab 3)) (fun C s H fp=>(zaj 1 ndk)) (fun C s H fp=>zay) (fun C s H fp=>(zaH (zab 1) (zab 0))))) zae)) nd))
  zaE)
  (zad (zbK (zkS hr.units (zab 6) zah)
  (zal (zau 4 (zaH (zaH (zd1 (zab 4) ze6 (zaM (zab 9))) (za5 (zaa (zak 5 (zab 9)) zae))) (zd1 (zab 4) (zaM (zaH (zab 9) zah)) ze6)) nd))
  zaE)
  (zad (zbK (zkS hr.units (zab 6) zah)
  (zal (zau 5 (zaH (zaH (zd1 (zab 5) ze6 (zaM (zab 9))) (za5 (zaa (zak 4 (zab 9)) zae))) (zd1 (zab 5) (zaM (zaH (zab 9) zah)) ze6)) nd))
  zaE)
  (zad (zbK (zkS hr.units (zab 6) zah)
  (zal (zau 3 (zaH (zd1 (zab 3) ze6 (zaM (zab 8))) (zcs bn.tuple' (zaa (SO.se (zbT [7] 1 ["by","some"] rfl (zaT (zd1 (zab 3) (zaM (zab 8)) ze6)) (fun C s H fp=>(zaj 1 ndk)) (fun C s H fp=>zay) (fun C s H fp=>(zaH (zab 1) (zab 0))))) zae))) nd))
  zaE)
  (zal (zaz (za5 (zaa (zab 2) (zaa (zab 3) (zaa (zab 4) (zaa (zab 5) zae)))))))))))))))))
abbrev zg8:Stmt:=top 37
def zfO:MS:=
 (sSet 7 (m2 dSub (m2 dAdd (eVar 7) (eIxV 2 (m2 dAdd (eVar 8) (eC (.int 1))))) (eIxV 2 (eVar 8))))
def zfE:MS:=
 sFor (iR3 (zaf (m2 dMod (eVar 6) (eVar 1)) (zaf (eVar 6) (zaf (eVar 1) aNil)))) (gN 8) zfO
def zfP:MS:=
 (sSeq (sSet 7 (eC (.int 0)))
  (sSeq zfE
  (sApp 5 (eVar 7))))
def zfG:MS:=
 sFor (iR1 (zaf (zcG 3) aNil)) (gN 6) zfP
def zfp:MS:=
 (sSeq (sAsg (eVar 0) (gT 4 (zar (gN 1) (zar (gN 2) (zar (gN 3) (zar (gN 4) zcw))))))
  (sSeq (zfy 5 (oLst aNil))
  (sSeq zfG
  (ziO 5))))
def zcE:List D->Option Sl:=fP 9 zfp
theorem zkf (h:FnAt K "_law_mores" zg8):FD P w K mg base 1 "_law_mores" (spP K 1 zcE):=
 fdP (N:=["line","k","sums","least","greatest","found","place","more","at"]) (k:=0) (m:=zfp) X G h fun _ _ _ _ _ _ _ hr nd=>(zad (zk4 (zab 0) (zbe rfl (zam (zaj 1 nd) (zam (zaj 2 nd) (zam (zaj 3 nd) (zam (zaj 4 nd) zaL))))))
  (zad (zcg 5 (ze3 zae) nd)
  (zad (zd0 PassesOwn.never rfl (zaN bn.range' (zaa (zaO 3 bn.len') zae)) (zaj 6 nd)
  (zad (zau 7 zah nd)
  (zad (zd0 PassesOwn.never rfl (ziC bn.range' (zaa (zeZ (zab 6) (zab 1)) (zaa (zab 6) (zaa (zab 1) zae)))) (zaj 8 nd)
  (zal (zau 7 (zbG (zaH (zab 7) (zak 2 (zaH (zab 8) zah))) (zak 2 (zab 8))) nd)))
  (zal (zg5 5 (zab 7))))))
  (zal (zgI 5)))))
abbrev zha:Stmt:=top 38
def zc0:ME:=
 (m2 dSub (eIxV 0 (eVar 2)) (eIxV 1 (eVar 2)))
def zfK:MO:=
 oLC [3,5] 1 (iR3 (zaf (eVar 7) (zaf (zcG 3) (zaf (eVar 1) aNil)))) (gN 2) zbd zc0
def zir:ME:=
 (m2 dSub (eIxV 0 (eVar 2)) (eIxV 1 (eVar 2)))
def zfu:MO:=
 oLC [4,5] 1 (iR3 (zaf (eVar 7) (zaf (zcG 3) (zaf (eVar 1) aNil)))) (gN 2) zbd zir
def zfD:MS:=
 (sSeq (sSet 8 (eFz zfK))
  (sSeq (sSet 9 (eFz zfu))
  (sApp 6 (eTup (zaf (mC ziX (zaf (eVar 8) aNil)) (zaf (mC zfA (zaf (eVar 9) aNil)) aNil))))))
def zfN:MS:=
 sFor (iR1 (zaf (eVar 1) aNil)) (gN 7) zfD
def zfJ:MS:=
 (sSeq (sAsg (eVar 0) (gT 4 (zar (gN 1) (zar (gN 2) (zar (gN 3) (zar (gN 4) zcw))))))
  (sSeq (sSet 5 (zaR zcE (zaf (eVar 0) aNil)))
  (sSeq (zfy 6 (oLst aNil))
  (sSeq zfN
  (ziO 6)))))
def zbg:List D->Option Sl:=fP 10 zfJ
theorem zjE (zen:FD P w K mg base 1 "_law_mores" (spP K 1 zcE))(h:FnAt K "_law_spans" zha):FD P w K mg base 2 "_law_spans" (spP K 1 zbg):=
 fdP (N:=["line","k","sums","least","greatest","mores","found","rest","lows","highs"]) (k:=1) (m:=zfJ) X G h fun _ _ _ _ _ _ _ hr nd=>(zad (zk4 (zab 0) (zbe rfl (zam (zaj 1 nd) (zam (zaj 2 nd) (zam (zaj 3 nd) (zam (zaj 4 nd) zaL))))))
  (zad (zau 5 (zaq zen hr (zaa (zab 0) zae) (hlen := (zac zai))) nd)
  (zad (zcg 6 (ze3 zae) nd)
  (zad (zd0 PassesOwn.never rfl (zaN bn.range' (zaa (zab 1) zae)) (zaj 7 nd)
  (zad (zct 8 [3, 5] 1 ["least", "mores", "place"] rfl (ziC bn.range' (zaa (zab 7) (zaa (zaO 3 bn.len') (zaa (zab 1) zae)))) (fun C s H fp => (zaj 2 ndk)) (fun C s H fp => zay) (fun C s H fp => (zbG (zak 0 (zab 2)) (zak 1 (zab 2)))) nd)
  (zad (zct 9 [4, 5] 1 ["greatest", "mores", "place"] rfl (ziC bn.range' (zaa (zab 7) (zaa (zaO 3 bn.len') (zaa (zab 1) zae)))) (fun C s H fp => (zaj 2 ndk)) (fun C s H fp => zay) (fun C s H fp => (zbG (zak 0 (zab 2)) (zak 1 (zab 2)))) nd)
  (zal (zg5 6 (za5 (zaa (zpy rfl bn.max' (zaa (zab 8) zae)) (zaa (zka rfl bn.min' (zaa (zab 9) zae)) zae))))))))
  (zal (zgI 6))))))
abbrev zgv:Stmt:=top 39
def zes:ME:=
 (ziI dLe dLe (eIxV 0 (eVar 3)) (eIxV 1 (eVar 3)) (eIxV 2 (eVar 3)))
def ze2:MO:=
 oLC [4,1,5] 1 (iR1 (zaf (zcG 1) aNil)) (gN 3) zbd zes
def zeH:MS:=
 (sRet (m2 dEq (zaR za9 (zaf (eVar 1) (zaf (eVar 2) aNil))) (eVar 3)))
def zeQ:MS:=
 (sSeq (sIf (zdR (tTru (mC (dAll fun bs => bs.all id) (zaf (eFz ze2) aNil))))
  (sRet (eC (.bl false)))
  zbr)
  zeH)
def zec:MS:=
 (sSeq (sAsg (eVar 0) (gT 4 (zar (gN 2) (zar (gN 3) (zar (gN 4) (zar (gN 5) zcw))))))
  (sSeq (sIf (tTru (m2 dNe (zcG 1) (zcG 4)))
  (sRet (eC (.bl false)))
  zbr)
  zeQ))
def zbo:List D->Option Sl:=fP 6 zec
theorem ziR (zbE:FD P w K mg base 1 "_law_sums" (spP K 2 za9))(h:FnAt K "_law_is_fit" zgv):FD P w K mg base 2 "_law_is_fit" (spP K 2 zbo):=
 fdP (N:=["line","row","k","sums","least","greatest"]) (k:=1) (m:=zec) X G h fun _ _ _ _ _ _ _ hr nd=>(zad (zk4 (zab 0) (zbe rfl (zam (zaj 2 nd) (zam (zaj 3 nd) (zam (zaj 4 nd) (zam (zaj 5 nd) zaL))))))
  (zad (zbK (ziE hr.units (zaO 1 bn.len') (zaO 4 bn.len'))
  (zal (zaz zf3))
  zaE)
  (zad (zbK (zcb (zaS (zi3 rfl bn.all' (zaa (SO.se (zbT [4, 1, 5] 1 ["least", "row", "greatest", "place"] rfl (zaN bn.range' (zaa (zaO 1 bn.len') zae)) (fun C s H fp => (zaj 3 ndk)) (fun C s H fp => zay) (fun C s H fp => (zjZ zm6 zm6 zhh zhh (zak 0 (zab 3)) (zak 1 (zab 3)) (zak 2 (zab 3)))))) zae))))
  (zal (zaz zf3))
  zaE)
  (zal (zaz (se_eq hr.units (zaq zbE hr (zaa (zab 1) (zaa (zab 2) zae)) (hlen:=(zac (zac zai)))) (zab 3)))))))
abbrev zew:Stmt:=top 40
def zdk:ME:=
 (m2 dLe (eVar 0) (eVar 1))
def zdm:MO:=
 oLC [] 2 (iSeq (eVar 1)) (gT 2 (zar (gN 0) (zar (gN 1) zcw))) zbd zdk
def zdx:ME:=
 (eVar 0)
def zdw:MO:=
 oLC [] 2 (iSeq (eVar 1)) (gT 2 (zar (gN 0) (zar (gN 1) zcw))) zbd zdx
def zdd:ME:=
 (eVar 1)
def zdj:MO:=
 oLC [] 2 (iSeq (eVar 1)) (gT 2 (zar (gN 0) (zar (gN 1) zcw))) zbd zdd
def zde:MS:=
 (sRet (ziI dLe dLe (mC dSum (zaf (eFz zdw) aNil)) (m2 dIx (eIxV 0 (eC (.int 1))) (eC (.int 0))) (mC dSum (zaf (eFz zdj) aNil))))
def zcZ:MS:=
 (sSeq (sSet 1 (zaR zbg (zaf (eVar 0) aNil)))
  (sSeq (sIf (zdR (tTru (mC (dAll fun bs => bs.all id) (zaf (eFz zdm) aNil))))
  (sRet (eC (.bl false)))
  zbr)
  zde))
def zaQ:List D->Option Sl:=fP 2 zcZ
theorem zhQ (zbm:FD P w K mg base 2 "_law_spans" (spP K 1 zbg))(h:FnAt K "_law_some_fit" zew):FD P w K mg base 3 "_law_some_fit" (spP K 1 zaQ):=
 fdP (N:=["line","spans"]) (k:=2) (m:=zcZ) X G h fun _ _ _ _ _ _ _ hr nd=>(zad (zau 1 (zaq zbm hr (zaa (zab 0) zae) (hlen:=(zac zai))) nd)
  (zad (zbK (zcb (zaS (zi3 rfl bn.all' (zaa (SO.se (zbT [] 2 ["low", "high"] rfl (zaT (zab 1)) (fun C s H fp => (zbe rfl (zam (zaj 0 ndk) (zam (zaj 1 ndk) zaL)))) (fun C s H fp => zay) (fun C s H fp => (se_le (zab 0) (zab 1))))) zae))))
  (zal (zaz zf3))
  zaE)
  (zal (zaz (zjZ zm6 zm6 zhh zhh (zeN rfl bn.sum' (zaa (SO.se (zbT [] 2 ["low","high"] rfl (zaT (zab 1)) (fun C s H fp=>(zbe rfl (zam (zaj 0 ndk) (zam (zaj 1 ndk) zaL)))) (fun C s H fp=>zay) (fun C s H fp=>(zab 0)))) zae)) (zbz (zak 0 zah) zah) (zeN rfl bn.sum' (zaa (SO.se (zbT [] 2 ["low","high"] rfl (zaT (zab 1)) (fun C s H fp=>(zbe rfl (zam (zaj 0 ndk) (zam (zaj 1 ndk) zaL)))) (fun C s H fp=>zay) (fun C s H fp=>(zab 1)))) zae)))))))
abbrev zhN:Stmt:=top 41
def zf4:ME:=
 (eVar 0)
def zgc:MO:=
 oLC [] 2 (iSeq (eVar 1)) (gT 2 (zar (gN 0) (zar (gN 1) zcw))) zbd zf4
def zge:ME:=
 (eVar 1)
def zgf:MO:=
 oLC [] 2 (iSeq (eVar 1)) (gT 2 (zar (gN 0) (zar (gN 1) zcw))) zbd zge
def zgj:ME:=
 (eTup (zaf (mC (d2I max2) (zaf (eVar 3) (zaf (m2 dAdd (m2 dSub (eVar 0) (eVar 1)) (eVar 4)) aNil))) (zaf (mC (d2I min2) (zaf (eVar 4) (zaf (m2 dAdd (m2 dSub (eVar 0) (eVar 2)) (eVar 3)) aNil))) aNil)))
def zgu:MO:=
 oLC [4,3,2] 2 (iSeq (eVar 1)) (gT 2 (zar (gN 3) (zar (gN 4) zcw))) zbd zgj
def zgA:MS:=
 (sSeq (sSet 1 (zaR zbg (zaf (eVar 0) aNil)))
  (sSeq (sSet 2 (mC dSum (zaf (eFz zgc) aNil)))
  (sSeq (sSet 3 (mC dSum (zaf (eFz zgf) aNil)))
  (sSeq (sSet 4 (m2 dIx (eIxV 0 (eC (.int 1))) (eC (.int 0))))
  (zgZ zgu)))))
def zc9:List D->Option Sl:=fP 5 zgA
theorem zk9 (zbm:FD P w K mg base 2 "_law_spans" (spP K 1 zbg))(h:FnAt K "_law_ends" zhN):FD P w K mg base 3 "_law_ends" (spP K 1 zc9):=
 fdP (N:=["line","spans","lows","highs","total"]) (k:=2) (m:=zgA) X G h fun _ _ _ _ _ _ _ hr nd=>(zad (zau 1 (zaq zbm hr (zaa (zab 0) zae) (hlen:=(zac zai))) nd)
  (zad (zau 2 (zeN rfl bn.sum' (zaa (SO.se (zbT [] 2 ["low", "high"] rfl (zaT (zab 1)) (fun C s H fp => (zbe rfl (zam (zaj 0 ndk) (zam (zaj 1 ndk) zaL)))) (fun C s H fp => zay) (fun C s H fp => (zab 0)))) zae)) nd)
  (zad (zau 3 (zeN rfl bn.sum' (zaa (SO.se (zbT [] 2 ["low", "high"] rfl (zaT (zab 1)) (fun C s H fp => (zbe rfl (zam (zaj 0 ndk) (zam (zaj 1 ndk) zaL)))) (fun C s H fp => zay) (fun C s H fp => (zab 1)))) zae)) nd)
  (zad (zau 4 (zbz (zak 0 zah) zah) nd)
  (zal (zcK (zbT [4,3,2] 2 ["total","highs","lows","low","high"] rfl (zaT (zab 1)) (fun C s H fp=>(zbe rfl (zam (zaj 3 ndk) (zam (zaj 4 ndk) zaL)))) (fun C s H fp=>zay) (fun C s H fp=>(za5 (zaa (zhs rfl bn.max' (zaa (zab 3) (zaa (zaH (zbG (zab 0) (zab 1)) (zab 4)) zae))) (zaa (zjW rfl bn.min' (zaa (zab 4) (zaa (zaH (zbG (zab 0) (zab 2)) (zab 3)) zae))) zae)))))))))))
abbrev zgR:Stmt:=top 42
def zhx:MS:=
 (sRet (eAnd (eIsI "int" (eVar 0)) (m1 dNot (eIsI "bool" (eVar 0)))))
def zdv:List D->Option Sl:=fP 1 zhx
theorem zkb (h:FnAt K "_law_whole" zgR):FD P w K mg base 1 "_law_whole" (spP K 1 zdv):=
 fdP (N:=["thing"]) (k:=0) (m:=zhx) X G h fun _ _ _ _ _ _ _ hr nd=>(zal (zaz (se_and (zjf "int" bn.isinstance' bn.int' (by decide+kernel) (zab 0)) (se_one (se_not (zjf "bool" bn.isinstance' bn.bool' (by decide+kernel) (zab 0)))))))
abbrev zgg:Stmt:=top 43
def zeF:ME:=
 (zaR zdv (zaf (eVar 0) aNil))
def zeK:MO:=
 oLC [] 1 (iSeq (eVar 0)) (gN 0) zbd zeF
def zd6:MS:=
 (sRet (eAnd (eIsI "tuple" (eVar 0)) (mC (dAll fun bs=>bs.all id) (zaf (eFz zeK) aNil))))
def zaY:List D->Option Sl:=fP 1 zd6
theorem ziP (zd7:FD P w K mg base 1 "_law_whole" (spP K 1 zdv))(h:FnAt K "_law_is_row" zgg):FD P w K mg base 2 "_law_is_row" (spP K 1 zaY):=
 fdP (N:=["thing"]) (k:=1) (m:=zd6) X G h fun _ _ _ _ _ _ _ hr nd=>(zal (zaz (se_and (zjf "tuple" bn.isinstance' bn.tuple' (by decide+kernel) (zab 0)) (se_one (zi3 rfl bn.all' (zaa (SO.se (zbT [] 1 ["number"] rfl (zaT (zab 0)) (fun C s H fp=>(zaj 0 ndk)) (fun C s H fp=>zay) (fun C s H fp=>(zaq zd7 hr (zaa (zab 0) zae) (hlen:=(zac zai)))))) zae))))))
abbrev zhE:Stmt:=top 44
def zgi:ME:=
 (eVar 1)
def zgm:MT:=
 (tTru (m2 dLt (m2 dIx (eIxV 0 (eVar 1)) (eC (.int 0))) (m2 dIx (eIxV 0 (eVar 1)) (eC (.int 1)))))
def zf7:MO:=
 oLC [1] 1 (iR1 (zaf (eIxV 0 (eC (.int 0))) aNil)) (gN 1) zgm zgi
def zgG:MS:=
 (sSeq (sSet 1 (zaR zc9 (zaf (eVar 0) aNil)))
  (zgZ zf7))
def zbx:List D->Option Sl:=fP 2 zgG
theorem zle (zfa:FD P w K mg base 3 "_law_ends" (spP K 1 zc9))(h:FnAt K "_law_free" zhE):FD P w K mg base 4 "_law_free" (spP K 1 zbx):=
 fdP (N:=["line","ends"]) (k:=3) (m:=zgG) X G h fun _ _ _ _ _ _ _ hr nd=>(zad (zau 1 (zaq zfa hr (zaa (zab 0) zae) (hlen:=(zac zai))) nd)
  (zal (zcK (zbT [1] 1 ["ends","rest"] rfl (zaN bn.range' (zaa (zak 0 zah) zae)) (fun C s H fp=>(zaj 1 ndk)) (fun C s H fp=>(ziq (zpD (zbz (zak 0 (zab 1)) zah) (zbz (zak 0 (zab 1)) zah)))) (fun C s H fp=>(zab 1))))))
abbrev zdX:Stmt:=top 45
def zc7:ME:=
 (eVar 2)
def zcV:MT:=
 (tTru (m2 dNe (eIxV 0 (eVar 2)) (eIxV 1 (eVar 2))))
def zc3:MO:=
 oLC [1,2] 1 (iR1 (zaf (zcG 1) aNil)) (gN 2) zcV zc7
def zcW:ME:=
 (eVar 3)
def zc4:MT:=
 (tTru (m2 dIn (m2 dMod (eVar 3) (eIxV 0 (eC (.int 0)))) (eTup (zaf (eVar 1) (zaf (eVar 2) aNil)))))
def zcU:MO:=
 oLC [0,3,4] 1 (iR1 (zaf (zcG 1) aNil)) (gN 3) zc4 zcW
def zda:MS:=
 (sSeq (sSet 5 (eFz zc3))
  (sRet (m2 dEq (eVar 5) (eFz zcU))))
def zcL:MS:=
 (sSeq (sIf (tOrM (zdR (tTru (zaR zbo (zaf (eVar 0) (zaf (eVar 1) aNil))))) (zdR (tTru (zaR zbo (zaf (eVar 0) (zaf (eVar 2) aNil))))))
  (sRet (eC (.bl false)))
  zbr)
  zda)
def zaW:List D->Option Sl:=fP 6 zcL
theorem zhu (zcp:FD P w K mg base 2 "_law_is_fit" (spP K 2 zbo))(h:FnAt K "_law_two_right" zdX):FD P w K mg base 3 "_law_two_right" (spP K 5 zaW):=
 fdP (N:=["line","one","other","j","l","unlike"]) (k:=2) (m:=zcL) X G h fun _ _ _ _ _ _ _ hr nd=>(zad (zbK (STw.st (zhO (zcb (zaS (zaq zcp hr (zaa (zab 0) (zaa (zab 1) zae)) (hlen:=(zac (zac zai)))))) (zij (zcb (zaS (zaq zcp hr (zaa (zab 0) (zaa (zab 2) zae)) (hlen:=(zac (zac zai)))))))))
  (zal (zaz zf3))
  zaE)
  (zad (zct 5 [1, 2] 1 ["one", "other", "place"] rfl (zaN bn.range' (zaa (zaO 1 bn.len') zae)) (fun C s H fp => (zaj 2 ndk)) (fun C s H fp => (ziq (ziE hr.units (zak 0 (zab 2)) (zak 1 (zab 2))))) (fun C s H fp => (zab 2)) nd)
  (zal (zaz (se_eq hr.units (zab 5) (SO.se (zbT [0,3,4] 1 ["line","j","l","place"] rfl (zaN bn.range' (zaa (zaO 1 bn.len') zae)) (fun C s H fp=>(zaj 3 ndk)) (fun C s H fp=>(ziq (st_in (zeZ (zab 3) (zak 0 zah)) (za5 (zaa (zab 1) (zaa (zab 2) zae)))))) (fun C s H fp=>(zab 3)))))))))
abbrev zgN:Stmt:=top 46
def zfB:MS:=
 (sSeq (sSet 5 (zaZ zao 0 (zaf (eC (.int 4)) aNil)))
  (sSeq (sSet 6 (eTup (zaf (eVar 5) (zaf (eC (.int 0)) (zaf (eC (.int 1)) (zaf (m2 dMul (zaZ zao 0 (zaf (m2 dPow (eC (.int 10)) (eC (.int 6))) aNil)) (m2 dPow (eC (.int 10)) (eC (.int 50)))) aNil))))))
  (sApp 3 (eIxV 6 (eVar 2)))))
def zfU:MS:=
 sFor (iR1 (zaf (eVar 1) aNil)) (gN 4) zfB
def ze7:MS:=
 (sSeq (sSet 2 (zaZ zao 0 (zaf (eC (.int 4)) aNil)))
  (sSeq (zfy 3 (oLst aNil))
  (sSeq zfU
  (ziO 3))))
def zcD:List D->List D->Option (Sl×List D):=fM 7 ze7
theorem zjP (zan:FD P w K mg base 1 "_law_pick" (spM K 2 zao))(h:FnAt K "_law_costs" zgN):FD P w K mg base 2 "_law_costs" (spM K 2 zcD):=
 fdM (N:=["pool","many","way","found","place","cost","some"]) (k:=1) (m:=ze7) X G h fun _ _ _ _ _ _ _ hr nd=>(zad (zau 2 (zaA 0 zan hr (zaa zah zae) (zcJ (zac zai))) nd)
  (zad (zcg 3 (ze3 zae) nd)
  (zad (zd0 PassesOwn.never rfl (zaN bn.range' (zaa (zab 1) zae)) (zaj 4 nd)
  (zad (zau 5 (zaA 0 zan hr (zaa zah zae) (zcJ (zac zai))) nd)
  (zad (zau 6 (za5 (zaa (zab 5) (zaa zah (zaa zah (zaa (zdV (zaA 0 zan hr (zaa (zdY zah zah) zae) (zcJ (zac zai))) (zdY zah zah)) zae))))) nd)
  (zal (zg5 3 (zak 6 (zab 2)))))))
  (zal (zgI 3)))))
abbrev zdi:Stmt:=top 47
def zcO:ME:=
 (mC zfA (zaf (zm9 (eVar 0) (zcC (eVar 2)) pNo (zcC (eIxV 1 (eC (.int 0))))) aNil))
def zcP:MO:=
 oLC [1,0] 1 (iSeq (zaR zbx (zaf (eVar 0) aNil))) (gN 2) zbd zcO
def zcf:MS:=
 (sSeq (sSet 2 (eFz zcP))
  (sRet (m2 dSub (mC dSum (zaf (eVar 2) aNil)) (mC zmh (zaf (eVar 2) aNil)))))
def za2:List D->Option Sl:=fP 3 zcf
theorem zhc (zbD:FD P w K mg base 4 "_law_free" (spP K 1 zbx))(h:FnAt K "_law_least_cost" zdi):FD P w K mg base 5 "_law_least_cost" (spP K 2 za2):=
 fdP (N:=["line","costs","cheapest"]) (k:=4) (m:=zcf) X G h fun _ _ _ _ _ _ _ hr nd=>(zad (zct 2 [1,0] 1 ["costs","line","rest"] rfl (zaT (zaq zbD hr (zaa (zab 0) zae) (hlen:=(zac zai)))) (fun C s H fp=>(zaj 2 ndk)) (fun C s H fp=>zay) (fun C s H fp=>(zka rfl bn.min' (zaa (zjS (zab 0) (zaM (zab 2)) ze6 (zaM (zak 1 zah))) zae))) nd)
  (zal (zaz (zbG (zeN rfl bn.sum' (zaa (zab 2) zae)) (se_maxD0 rfl bn.max' (zaa (zab 2) zae))))))
abbrev zcv:Stmt:=top 48
def zb7:ME:=
 (ziI dLe dLt (eC (.int 0)) (eVar 1) (mC dLen (zaf (eIxV 0 (eC (.int 2))) aNil)))
def zbY:MO:=
 oLC [0] 1 (iSeq (eVar 3)) (gN 1) zbd zb7
def zbO:ME:=
 (m2 dMod (eVar 1) (eIxV 0 (eC (.int 0))))
def zb0:MO:=
 oLC [0] 1 (iSeq (eVar 3)) (gN 1) zbd zbO
def zca:ME:=
 (m2 dIn (eVar 1) (eVar 0))
def zb5:MO:=
 oLC [5] 1 (iSeq (eVar 6)) (gN 1) zbd zca
def zbQ:ME:=
 (eIxV 0 (eVar 1))
def zbZ:MO:=
 oLC [1] 1 (iSeq (eVar 3)) (gN 1) zbd zbQ
def zbV:ME:=
 (eTup (zaf (eVar 0) (zaf (eVar 1) aNil)))
def zbL:MT:=
 (tTru (m2 dLt (eVar 0) (eVar 1)))
def zbR:MO:=
 oLC [8] 1 (iSeq (eVar 5)) (gN 1) zbL zbV
def zb6:MS:=
 (sExt 7 (eFz zbR))
def zbW:MS:=
 sFor (iSeq (eVar 5)) (gN 8) zb6
def zb2:ME:=
 (eCut (eVar 0) pNo (zcC (eC (.int 2))))
def zbM:MO:=
 oLC [] 1 (iSeq (eVar 4)) (gN 0) zbd zb2
def zb1:ME:=
 (zaR zaW (zaf (eVar 0) (zaf (eIxV 1 (eC (.int 2))) (zaf (eIxV 1 (eC (.int 3))) (zaf (eIxV 1 (eC (.int 0))) (zaf (eIxV 1 (eC (.int 1))) aNil))))))
def zb4:MO:=
 oLC [0] 1 (iSeq (eVar 4)) (gN 1) zbd zb1
def zb8:MS:=
 (sRet (mC (dAll fun bs=>bs.all id) (zaf (eFz zb4) aNil)))
def zbB:MS:=
 (sSeq (zfy 7 (oLst aNil))
  (sSeq zbW
  (sSeq (sIf (tTru (m2 dNe (eFz zbM) (eVar 7)))
  (sRet (eC (.bl false)))
  zbr)
  zb8)))
def zbC:MS:=
 (sSeq (sIf (tTru (m2 dNe (mC dSum (zaf (eFz zbZ) aNil)) (zaR za2 (zaf (eVar 0) (zaf (eVar 1) aNil)))))
  (sRet (eC (.bl false)))
  zbr)
  zbB)
def zbF:MS:=
 (sSeq (sIf (zdR (tTru (mC (dAll fun bs => bs.all id) (zaf (eFz zb5) aNil))))
  (sRet (eC (.bl false)))
  zbr)
  zbC)
def zbJ:MS:=
 (sSeq (sSet 6 (eFz zb0))
  (sSeq (sIf (tOrM (tTru (m2 dNe (eFz (oSrtS (eVar 3))) (eFz (oC za4 (zaf (eVar 3) aNil))))) (tOrM (tTru (m2 dLt (zlC (eVar 6)) (zcG 6))) (tTru (m2 dNe (zcG 3) (mC (d2I max2) (zaf (eC (.int 0)) (zaf (m2 dSub (zcG 5) (eC (.int 1))) aNil)))))))
  (sRet (eC (.bl false)))
  zbr)
  zbF))
def zbq:MS:=
 (sSeq (sAsg (eVar 2) (gT 2 (zar (gN 3) (zar (gN 4) zcw))))
  (sSeq (sSet 5 (zaR zbx (zaf (eVar 0) aNil)))
  (sSeq (sIf (tOrM (zdR (tTru (zaR zaQ (zaf (eVar 0) aNil)))) (zdR (tTru (mC (dAll fun bs => bs.all id) (zaf (eFz zbY) aNil)))))
  (sRet (eC (.bl false)))
  zbr)
  zbJ)))
def zaK:List D->Option Sl:=fP 9 zbq
theorem zft (zbD:FD P w K mg base 4 "_law_free" (spP K 1 zbx))(zb3:FD P w K mg base 5 "_law_least_cost" (spP K 2 za2))(zaX:FD P w K mg base 3 "_law_some_fit" (spP K 1 zaQ))(zch:FD P w K mg base 3 "_law_two_right" (spP K 5 zaW))(h:FnAt K "_law_settled_right" zcv):FD P w K mg base 6 "_law_settled_right" (spP K 3 zaK):=
 fdP (N:=["line","costs","told","places","pairs","free","rests","wanted","j"]) (k:=5) (m:=zbq) X G h fun _ _ _ _ _ _ _ hr nd=>(zad (zk4 (zab 2) (zbe rfl (zam (zaj 3 nd) (zam (zaj 4 nd) zaL))))
  (zad (zau 5 (zaq zbD hr (zaa (zab 0) zae) (hlen := (zac zai))) nd)
  (zad (zbK (STw.st (zhO (zcb (zaS (zaq zaX hr (zaa (zab 0) zae) (hlen := (zac zai))))) (zij (zcb (zaS (zi3 rfl bn.all' (zaa (SO.se (zbT [0] 1 ["line", "place"] rfl (zaT (zab 3)) (fun C s H fp => (zaj 1 ndk)) (fun C s H fp => zay) (fun C s H fp => (zjZ zm6 op_lt zhh zhh zah (zab 1) (zow bn.len' (zaa (zak 0 zah) zae)))))) zae)))))))
  (zal (zaz zf3))
  zaE)
  (zad (zct 6 [0] 1 ["line", "place"] rfl (zaT (zab 3)) (fun C s H fp => (zaj 1 ndk)) (fun C s H fp => zay) (fun C s H fp => (zeZ (zab 1) (zak 0 zah))) nd)
  (zad (zbK (STw.st (zhO (ziE hr.units (SO.se (znq rfl bn.sorted' bn.set' (zab 3))) (SO.se (zoW bn.list' (zaa (zab 3) zae)))) (zhO (zpD (znA rfl bn.len' bn.set' (zab 6)) (zaO 6 bn.len')) (zij (ziE hr.units (zaO 3 bn.len') (zhs rfl bn.max' (zaa zah (zaa (zbG (zaO 5 bn.len') zah) zae))))))))
  (zal (zaz zf3))
  zaE)
  (zad (zbK (zcb (zaS (zi3 rfl bn.all' (zaa (SO.se (zbT [5] 1 ["free", "rest"] rfl (zaT (zab 6)) (fun C s H fp => (zaj 1 ndk)) (fun C s H fp => zay) (fun C s H fp => (se_in (zab 1) (zab 0))))) zae))))
  (zal (zaz zf3))
  zaE)
  (zad (zbK (ziE hr.units (zeN rfl bn.sum' (zaa (SO.se (zbT [1] 1 ["costs", "place"] rfl (zaT (zab 3)) (fun C s H fp => (zaj 1 ndk)) (fun C s H fp => zay) (fun C s H fp => (zak 0 (zab 1))))) zae)) (zaq zb3 hr (zaa (zab 0) (zaa (zab 1) zae)) (hlen := (zac (zac zai)))))
  (zal (zaz zf3))
  zaE)
  (zad (zcg 7 (ze3 zae) nd)
  (zad (zd0 PassesOwn.never rfl (zaT (zab 5)) (zaj 8 nd)
  (zal (ss_ext 7 (SO.se (zbT [8] 1 ["j","l"] rfl (zaT (zab 5)) (fun C s H fp=>(zaj 1 ndk)) (fun C s H fp=>(ziq (zpD (zab 0) (zab 1)))) (fun C s H fp=>(za5 (zaa (zab 0) (zaa (zab 1) zae)))))))))
  (zad (zbK (ziE hr.units (SO.se (zbT [] 1 ["pair"] rfl (zaT (zab 4)) (fun C s H fp => (zaj 0 ndk)) (fun C s H fp => zay) (fun C s H fp => (zd1 (zab 0) ze6 (zaM zah))))) (zab 7))
  (zal (zaz zf3))
  zaE)
  (zal (zaz (zi3 rfl bn.all' (zaa (SO.se (zbT [0] 1 ["line","pair"] rfl (zaT (zab 4)) (fun C s H fp=>(zaj 1 ndk)) (fun C s H fp=>zay) (fun C s H fp=>(zaq zch hr (zaa (zab 0) (zaa (zak 1 zah) (zaa (zak 1 zah) (zaa (zak 1 zah) (zaa (zak 1 zah) zae))))) (hlen:=(zac (zac (zac (zac (zac zai)))))))))) zae))))))))))))))
abbrev zgp:Stmt:=top 49
def zex:MS:=
 (sIf (tOrM (zdR (tTru (zaR zaY (zaf (eIxV 1 (eC (.int 2))) aNil)))) (zdR (tTru (zaR zaY (zaf (eIxV 1 (eC (.int 3))) aNil)))))
  (sRet (eC (.bl false)))
  zbr)
def zeM:MS:=
 (sSeq (sIf (tOrM (zdR (tTru (eIsI "tuple" (eVar 1)))) (tOrM (tTru (m2 dNe (zcG 1) (eC (.int 4)))) (zdR (tTru (zaR zaY (zaf (eCut (eVar 1) pNo (zcC (eC (.int 2)))) aNil))))))
  (sRet (eC (.bl false)))
  zbr)
  zex)
def zeA:MS:=
 sFor (iSeq (eIxV 0 (eC (.int 1)))) (gN 1) zeM
def zeV:MS:=
 (sSeq zeA
  (sRet (eC (.bl true))))
def zed:MS:=
 (sSeq (sIf (tOrM (zdR (tTru (eIsI "tuple" (eVar 0)))) (tOrM (tTru (m2 dNe (zcG 0) (eC (.int 2)))) (tOrM (zdR (tTru (zaR zaY (zaf (eIxV 0 (eC (.int 0))) aNil)))) (zdR (tTru (eIsI "list" (eIxV 0 (eC (.int 1)))))))))
  (sRet (eC (.bl false)))
  zbr)
  zeV)
def zbU:List D->Option Sl:=fP 2 zed
theorem ziU (zbc:FD P w K mg base 2 "_law_is_row" (spP K 1 zaY))(h:FnAt K "_law_formed" zgp):FD P w K mg base 3 "_law_formed" (spP K 1 zbU):=
 fdP (N:=["told","pair"]) (k:=2) (m:=zed) X G h fun _ _ _ _ _ _ _ hr nd=>(zad (zbK (STw.st (zhO (zcb (zaS (zjf "tuple" bn.isinstance' bn.tuple' (by decide+kernel) (zab 0)))) (zhO (ziE hr.units (zaO 0 bn.len') zah) (zhO (zcb (zaS (zaq zbc hr (zaa (zak 0 zah) zae) (hlen:=(zac zai))))) (zij (zcb (zaS (zjf "list" bn.isinstance' bn.list' (by decide+kernel) (zak 0 zah)))))))))
  (zal (zaz zf3))
  zaE)
  (zad (zd0 PassesOwn.never rfl (zaT (zak 0 zah)) (zaj 1 nd)
  (zad (zbK (STw.st (zhO (zcb (zaS (zjf "tuple" bn.isinstance' bn.tuple' (by decide +kernel) (zab 1)))) (zhO (ziE hr.units (zaO 1 bn.len') zah) (zij (zcb (zaS (zaq zbc hr (zaa (zd1 (zab 1) ze6 (zaM zah)) zae) (hlen := (zac zai)))))))))
  (zal (zaz zf3))
  zaE)
  (zal (zbK (STw.st (zhO (zcb (zaS (zaq zbc hr (zaa (zak 1 zah) zae) (hlen := (zac zai))))) (zij (zcb (zaS (zaq zbc hr (zaa (zak 1 zah) zae) (hlen := (zac zai))))))))
  (zal (zaz zf3))
  zaE))))
  (zal (zaz zf3))))
abbrev zkO:Stmt:=top 50
def zmQ:MS:=
 (sSeq (sSet 8 (eTup (zaf (eItU 7 0) (zaf (eFz (oCpU 7 1)) aNil))))
  (sSeq (sApP 7 1 (.tup []))
  (sIf (tTru (m2 dNe (zo7 zbp (zaf (eVar 4) (zaf (mC zcx (zaf (eVar 5) aNil)) aNil))) (eVar 8)))
  (sRet (eC (.bl false)))
  zbr)))
def zjy:MS:=
 (sSeq (sSet 5 (zaZ zcD 2 (zaf (mC dLen (zaf (eIxV 4 (eC (.int 2))) aNil)) aNil)))
  (sSeq (sSet 6 (eFz (oC za4 (zaf (eVar 5) aNil))))
  (sSeq (sST 7 zbp (zaf (eVar 4) (zaf (eVar 6) aNil)))
  (sSeq (sIf (zmd 7 (tOrM (zdR (tTru (zaR zbU (zaf (eVar 7) aNil)))) (tOrM (tTru (m2 dNe (eVar 6) (eVar 5))) (zdR (tTru (zaR zaK (zaf (eVar 4) (zaf (eVar 5) (zaf (eVar 7) aNil)))))))))
  (sRet (eC (.bl false)))
  zbr)
  zmQ))))
def zmf:MS:=
 (sSeq (zfy 2 (zkC zc5 (zaf (eVar 0) (zaf (eVar 1) aNil))))
  (sSeq (sSet 3 (zaZ zc6 2 (zaf (eC (.int 24)) (zaf (eC (.int 4)) aNil))))
  (sSeq (sSet 4 (zaZ zdb 2 (zaf (eVar 3) aNil)))
  (sSeq (sIf (zdR (tTru (zaR zaQ (zaf (eVar 4) aNil))))
  (sSet 4 (eVar 3))
  zbr)
  zjy))))
def zmT:MS:=
 sFor (iR1 (zaf (mC (d2I max2) (zaf (eC (.int 1)) (zaf (mC (d2I min2) (zaf (zcG 0) (zaf (eC (.int 8)) aNil))) aNil))) aNil)) (gN 1) zmf
def m_law:MS:=
 (sSeq zmT
  (sRet (eC (.bl true))))
def zkA:List D->Option Sl:=fP 9 m_law
theorem ok_law (zfq:FD P w K mg base 2 "_law_bent" (spM K 2 zdb))(zeh:FD P w K mg base 2 "_law_costs" (spM K 2 zcD))(zdE:FD P w K mg base 3 "_law_formed" (spP K 1 zbU))(zfL:FD P w K mg base 3 "_law_line" (spM K 3 zc6))(zfh:FD P w K mg base 1 "_law_pool" (spP K 2 zc5))(zbh:FD P w K mg base 6 "_law_settled_right" (spP K 3 zaK))(zaX:FD P w K mg base 3 "_law_some_fit" (spP K 1 zaQ))(zcq:FD P w K mg base 7 "line_settle" (spP K 2 zbp))(F:Fun K "law" "law" zkO f fd):FnOk P w K mg base CX0 8 f fd ["script"] (spP K 1 zkA):=
 lawP (N:=["script","k","pool","drawn","line","costs","handed","told","kept"]) (k:=7) (n:=1) (m:=m_law) F fun _ _ _ _ _ _ _ hr nd=>(zad (zd0 PassesOwn.never rfl (zaN bn.range' (zaa (zhs rfl bn.max' (zaa zah (zaa (zjW rfl bn.min' (zaa (zaO 0 bn.len') (zaa zah zae))) zae))) zae)) (zaj 1 nd)
  (zad (zcg 2 (zhq zfh hr (zaa (zab 0) (zaa (zab 1) zae)) (hlen := (zac (zac zai)))) nd)
  (zad (zau 3 (zaA 2 zfL hr (zaa zah (zaa zah zae)) (zcJ (zac (zac zai)))) nd)
  (zad (zau 4 (zaA 2 zfq hr (zaa (zab 3) zae) (zcJ (zac zai))) nd)
  (zad (zbK (zcb (zaS (zaq zaX hr (zaa (zab 4) zae) (hlen := (zac zai)))))
  (zal (zau 4 (zab 3) nd))
  zaE)
  (zad (zau 5 (zaA 2 zeh hr (zaa (zow bn.len' (zaa (zak 4 zah) zae)) zae) (zcJ (zac zai))) nd)
  (zad (zau 6 (SO.se (zoW bn.list' (zaa (zab 5) zae))) nd)
  (zad (ss_setT 7 zcq hr (zaa (zab 4) (zaa (zab 6) zae)) (zac (zac zai)) nd)
  (zad (zbK (st_peekU 7 (STw.st (zhO (zcb (zaS (zaq zdE hr (zaa (zab 7) zae) (hlen := (zac zai))))) (zhO (ziE hr.units (zab 6) (zab 5)) (zij (zcb (zaS (zaq zbh hr (zaa (zab 4) (zaa (zab 5) (zaa (zab 7) zae))) (hlen := (zac (zac (zac zai))))))))))))
  (zal (zaz zf3))
  zaE)
  (zad (zau 8 (za5 (zaa (se_itU 7 0) (zaa (SO.se (so_listU 7 1 bn.list')) zae))) nd)
  (zad (ss_appP 7 1 (d := (.tup [])) (by decide) (za5 zae) (fun _ => rfl))
  (zal (zbK (ziE hr.units (se_callU zcq hr (zaa (zab 4) (zaa (zcs bn.tuple' (zaa (zab 5) zae)) zae)) (zac (zac zai))) (zab 8))
  (zal (zaz zf3))
  zaE)))))))))))))
  (zal (zaz zf3)))
end
set_option maxHeartbeats 0 in
theorem all_mk {l:W.OpenLaw}{w:World}{K:W.Frag}{h:Heap}{mg:Str->Option Value}{fa:Addr}(X:K.In h)(G:h.Ns mainGlobals mg)(hfa:mg "law"=some (.ref fa))
  (h1:FnAt K "less_mores" zhd)
  (h2:FnAt K "head_spans" zgQ)
  (h3:FnAt K "row_by_heads" zfc)
  (h4:FnAt K "places_asking" ze0)
  (h5:FnAt K "heads_paper" zgt)
  (h6:FnAt K "exchanged_row" zeU)
  (h7:FnAt K "least_heads" zf9)
  (h8:FnAt K "head_ranges" zgn)
  (h9:FnAt K "mores_of" zh6)
  (h10:FnAt K "low_asks" zit)
  (h11:FnAt K "high_asks" zhI)
  (h12:FnAt K "rest_spans" zgT)
  (h13:FnAt K "row_of" zkn)
  (h14:FnAt K "line_paper" zgM)
  (h15:FnAt K "fitting_spans" zez)
  (h16:FnAt K "sure_rests" zg0)
  (h17:FnAt K "free_rests" zg9)
  (h18:FnAt K "two_rows" zib)
  (h19:FnAt K "rest_pairs" zgU)
  (h20:FnAt K "cheapest_place" zdT)
  (h21:FnAt K "cheapest_places" zdh)
  (h22:FnAt K "line_settle" zf8)
  (h23:FnAt K "_law_pool" zhA)
  (h24:FnAt K "_law_pick" zhG)
  (h25:FnAt K "_law_wide" zhC)
  (h26:FnAt K "_law_sums" zhM)
  (h27:FnAt K "_law_line" zhz)
  (h28:FnAt K "_law_bent" zhH)
  (h29:FnAt K "_law_mores" zg8)
  (h30:FnAt K "_law_spans" zha)
  (h31:FnAt K "_law_is_fit" zgv)
  (h32:FnAt K "_law_some_fit" zew)
  (h33:FnAt K "_law_ends" zhN)
  (h34:FnAt K "_law_whole" zgR)
  (h35:FnAt K "_law_is_row" zgg)
  (h36:FnAt K "_law_free" zhE)
  (h37:FnAt K "_law_two_right" zdX)
  (h38:FnAt K "_law_costs" zgN)
  (h39:FnAt K "_law_least_cost" zdi)
  (h40:FnAt K "_law_settled_right" zcv)
  (h41:FnAt K "_law_formed" zgp)
  (h42:FnAt K "law" zkO)
  {c0:Addr} (hh:HostAt K "cheapest_places" 173 c0) (z0:W.nsIn K mainGlobals "all"=some none) (z1:W.nsIn K mainGlobals "bool"=some none) (z2:W.nsIn K mainGlobals "enumerate"=some none) (z3:W.nsIn K mainGlobals "int"=some none) (z4:W.nsIn K mainGlobals "isinstance"=some none) (z5:W.nsIn K mainGlobals "len"=some none) (z6:W.nsIn K mainGlobals "list"=some none) (z7:W.nsIn K mainGlobals "max"=some none) (z8:W.nsIn K mainGlobals "min"=some none) (z9:W.nsIn K mainGlobals "range"=some none) (z10:W.nsIn K mainGlobals "set"=some none) (z11:W.nsIn K mainGlobals "sorted"=some none) (z12:W.nsIn K mainGlobals "sum"=some none) (z13:W.nsIn K mainGlobals "tuple"=some none) (z14:W.nsIn K mainGlobals "zip"=some none):
  ∃fd:FuncData,(∀(s:Shared) (v:Value),BindsTo s fd ⟨[v],[]⟩ [("script",v)])/\∀base:Heap,K.In base->base.Ns mainGlobals mg->FnOk l.prog w K mg base CX0 8 fa fd ["script"] (spP K 1 zkA):=by
 have bn:BN K mg:=⟨W.mg_none_of X G z0,W.mg_none_of X G z1,W.mg_none_of X G z2,W.mg_none_of X G z3,W.mg_none_of X G z4,W.mg_none_of X G z5,W.mg_none_of X G z6,W.mg_none_of X G z7,W.mg_none_of X G z8,W.mg_none_of X G z9,W.mg_none_of X G z10,W.mg_none_of X G z11,W.mg_none_of X G z12,W.mg_none_of X G z13,W.mg_none_of X G z14⟩
 obtain⟨a,b,c,d,e,f,T⟩:=h42.law X G hfa
 refine⟨W.fnOf "law" "law" (zfm zkO) (zb9 zkO) (zaB zkO) .none a b c d e f,fun s v=> .of_eq rfl,fun base _ _=>?_⟩
 have zbk:=zjH (P:=l.prog) (w:=w) (base:=base) X G bn h1
 have zbl:=zjR (P:=l.prog) (w:=w) (base:=base) X G bn h2
 have zc2:=ziz (P:=l.prog) (w:=w) (base:=base) X G bn h3
 have zbt:=zhS (P:=l.prog) (w:=w) (base:=base) X G bn h4
 have zdK:=ziN (P:=l.prog) (w:=w) (base:=base) X G bn zbl zbt h5
 have zcI:=zhT (P:=l.prog) (w:=w) (base:=base) X G bn h6
 have zdF:=ziK (P:=l.prog) (w:=w) (base:=base) X G bn h7
 have zdG:=zi0 (P:=l.prog) (w:=w) (base:=base) X G bn h8
 have za6:=zlS (P:=l.prog) (w:=w) (base:=base) X G bn h9
 have zcm:=zlK (P:=l.prog) (w:=w) (base:=base) X G bn zbk za6 h10
 have zbH:=zk1 (P:=l.prog) (w:=w) (base:=base) X G bn zbk za6 h11
 have zel:=zjs (P:=l.prog) (w:=w) (base:=base) X G bn zbl zbH zcm h12
 have ziB:=znX (P:=l.prog) (w:=w) (base:=base) X G bn za6 zc2 h13
 have zea:=zj3 (P:=l.prog) (w:=w) (base:=base) X G bn zdK zbH zcm h14
 have zaU:=zhU (P:=l.prog) (w:=w) (base:=base) X G bn zea zel h15
 have zer:=zjx (P:=l.prog) (w:=w) (base:=base) X G bn zaU zdG h16
 have zd5:=zj6 (P:=l.prog) (w:=w) (base:=base) X G bn zer h17
 have zgH:=zll (P:=l.prog) (w:=w) (base:=base) X G bn zcI zaU zdF ziB h18
 have zep:=zjC (P:=l.prog) (w:=w) (base:=base) X G bn h19
 have zck:=zho (P:=l.prog) (w:=w) (base:=base) X G bn h20
 have zbX:=zhg (P:=l.prog) (w:=w) (base:=base) X G bn zck hh h21
 have zcq:=ziY (P:=l.prog) (w:=w) (base:=base) X G bn zbX zd5 zep zgH h22
 have zfh:=zlh (P:=l.prog) (w:=w) (base:=base) X G bn h23
 have zan:=zkh (P:=l.prog) (w:=w) (base:=base) X G bn h24
 have zds:=zkU (P:=l.prog) (w:=w) (base:=base) X G bn zan h25
 have zbE:=zlb (P:=l.prog) (w:=w) (base:=base) X G bn h26
 have zfL:=zkk (P:=l.prog) (w:=w) (base:=base) X G bn zan zbE zds h27
 have zfq:=zkG (P:=l.prog) (w:=w) (base:=base) X G bn zan h28
 have zen:=zkf (P:=l.prog) (w:=w) (base:=base) X G bn h29
 have zbm:=zjE (P:=l.prog) (w:=w) (base:=base) X G bn zen h30
 have zcp:=ziR (P:=l.prog) (w:=w) (base:=base) X G bn zbE h31
 have zaX:=zhQ (P:=l.prog) (w:=w) (base:=base) X G bn zbm h32
 have zfa:=zk9 (P:=l.prog) (w:=w) (base:=base) X G bn zbm h33
 have zd7:=zkb (P:=l.prog) (w:=w) (base:=base) X G bn h34
 have zbc:=ziP (P:=l.prog) (w:=w) (base:=base) X G bn zd7 h35
 have zbD:=zle (P:=l.prog) (w:=w) (base:=base) X G bn zfa h36
 have zch:=zhu (P:=l.prog) (w:=w) (base:=base) X G bn zcp h37
 have zeh:=zjP (P:=l.prog) (w:=w) (base:=base) X G bn zan h38
 have zb3:=zhc (P:=l.prog) (w:=w) (base:=base) X G bn zbD h39
 have zbh:=zft (P:=l.prog) (w:=w) (base:=base) X G bn zbD zb3 zaX zch h40
 have zdE:=ziU (P:=l.prog) (w:=w) (base:=base) X G bn zbc h41
 exact ok_law X G bn zfq zeh zdE zfL zfh zbh zaX zcq T
theorem walk {l:W.OpenLaw}{q:Program}{loose:List Str}{XP:(Str->Option Value)->Heap->Prop}{YP:World->Heap->Prop}{d:DefRec}{K:Params->W.Frag}{c0:Addr}(hn:l.most=some 63)(hdf:d.params.defaults=[])
  (hm:∀ns:List Int,ns.length<=63->zkA [.scr ns]=some (.val (.bl true)))
  (hY:∀(w:World) (h:Heap),YP w h->(K w.params).In h)
  (hZ:∀(w:World) (h:Heap),YP w h->h.get? 173=some (W.tabObj #[])) (hh:∀w:World,HostAt (K w.params) "cheapest_places" 173 c0)
  (F : ∀ (w : World) (mg : Str -> Option Value) (fa : Addr) (h : Heap), (K w.params).In h -> h.Ns mainGlobals mg -> mg d.name = some (.ref fa) ->
   ∃fd:FuncData,(∀(s:Shared) (u:Value),BindsTo s fd ⟨[u],[]⟩ [("script",u)])/\∀base:Heap,(K w.params).In base->base.Ns mainGlobals mg->FnOk l.prog w (K w.params) mg base CX0 8 fa fd ["script"] (spP (K w.params) 1 zkA)):
  W.WalkO q loose XP YP l.row.toRowW d [] (fun f vs=>PySem.call f vs):=
 L2.walkL (n:=63) (k:=8) (x:="script") (CX:=fun _=>CX0) (sp:=fun w=>spP (K w.params) 1 zkA) hn (by decide) hdf ⟨rfl,by decide,by decide,rfl⟩ hY hZ (fun w mg h X G=>⟨_,c0,(hh w).tab X G,(hh w).code⟩) F
  (fun w H a ns hl hS=>⟨H,[.scr ns],.val (.bl true),hm ns hl,rfl,Fz.refl H,.cons ⟨a,rfl,hS⟩ .nil,fun _ _ _ _ _ _ _ rr=>rr⟩) fun _ _ _ _ _ z=>z
end Prf
set_option exponentiation.threshold 5000
namespace Prf
open L2 M PySem
variable {n m j k p s i a b:Nat} {f g lo hi e S L G r h c:Nat->Int} {t:Int} {ds:List D} {F:List Nat} {x:Nat×Nat} {C:D} {ns:List Int} {Q:Fl×R->Prop}
theorem rep_w (n:Nat)(x:D):(List.replicate n [x]).flatten=wL n fun _=>x:=by
 induction n with
 |zero=>rfl
 |succ n ih=>rw[List.replicate_succ',List.flatten_append,ih,zgy];rfl
theorem zpa (a b:Nat->Int)(hn:n<=1000):Ok (zbf [.tup (wI n a),.lst (wI n b)]) fun x=>x= .own (wI n fun p=>a p-b p):=by
 simp! only[↓zbf,↓zfH,↓zfj,zip2D_w]
 refine⟨by lia,zaD (fun ρ=>∃s s',ρ=[s,s']) (fun p=> .int (a p-b p)) ⟨_,_,rfl⟩ ?_ ?_⟩
 ·rintro i _ hi ⟨s,s',rfl⟩
  simp! only[↓zfQ]
  exact⟨_,_,rfl⟩
 ·rintro _ ⟨_,_,rfl⟩
  simp! only[]
structure Span (f g:Nat->Int) (n m:Nat) (lo hi:Nat->Int):Prop where
 lm:∀j,j<m->∃p,p<n/\p%m=j/\f p=lo j
 lg:∀p,p<n->f p<=lo (p%m)
 hm:∀j,j<m->∃p,p<n/\p%m=j/\g p=hi j
 hg:∀p,p<n->hi (p%m)<=g p
def zcj (m:Nat)(lo hi:Nat->Int):List D:=wL m fun j=> .tup [.int (lo j),.int (hi j)]
theorem zjT (f g:Nat->Int){n m:Nat}(hm:0<m)(hn:m<=n):∃lo hi:Nat->Int,Span f g n m lo hi/\∀j,j<m->ziX [.lst (zaJ (wI n f) (some (j:Int)) none (some (m:Int)))]=some (.int (lo j))/\zfA [.lst (zaJ (wI n g) (some (j:Int)) none (some (m:Int)))]=some (.int (hi j)):=by
 have h1:∀j,∃v,j<m->ziX [.lst (zaJ (wI n f) (some (j:Int)) none (some (m:Int)))]=some (.int v)/\(∃p,p<n/\p%m=j/\f p=v)/\∀p,p<n->p%m=j->f p<=v:=fun j=>by
  by_cases hj:j<m
  ·obtain⟨v,h⟩:=max_pick f hm hj hn;exact⟨v,fun _=>h⟩
  ·exact⟨0,fun h=>absurd h hj⟩
 have h2:∀j,∃v,j<m->zfA [.lst (zaJ (wI n g) (some (j:Int)) none (some (m:Int)))]=some (.int v)/\(∃p,p<n/\p%m=j/\g p=v)/\∀p,p<n->p%m=j->v<=g p:=fun j=>by
  by_cases hj:j<m
  ·obtain⟨v,h⟩:=zme g hm hj hn;exact⟨v,fun _=>h⟩
  ·exact⟨0,fun h=>absurd h hj⟩
 refine⟨fun j=>(h1 j).choose,fun j=>(h2 j).choose,⟨fun j hj=>((h1 j).choose_spec hj).2.1,fun p hp=>((h1 (p%m)).choose_spec (Nat.mod_lt _ hm)).2.2 p hp rfl,fun j hj=>((h2 j).choose_spec hj).2.1,fun p hp=>((h2 (p%m)).choose_spec (Nat.mod_lt _ hm)).2.2 p hp rfl⟩,fun j hj=>⟨((h1 j).choose_spec hj).1,((h2 j).choose_spec hj).1⟩⟩
theorem zg1 {lo hi lo' hi':Nat->Int}(s:Span f g n m lo hi)(t:Span f g n m lo' hi')(hj:j<m):lo j=lo' j/\hi j=hi' j:=by
 obtain⟨p,h1,h2,h3⟩:=s.lm j hj
 obtain⟨p',h1',h2',h3'⟩:=t.lm j hj
 obtain⟨q,k1,k2,k3⟩:=s.hm j hj
 obtain⟨q',k1',k2',k3'⟩:=t.hm j hj
 have a1:=s.lg p' h1'
 have a2:=t.lg p h1
 have a3:=s.hg q' k1'
 have a4:=t.hg q k1
 rw[h2']at a1;rw[h2]at a2;rw[k2']at a3;rw[k2]at a4
 lia
theorem zmw (hm:0<m)(hn:m<=n)(h24:n<=1000)(sp:Span f g n m lo hi):Ok (zbi [.lst (wI n f),.lst (wI n g),.int m]) fun x=>x= .own (zcj m lo hi):=by
 obtain⟨lo',hi',sp',e⟩:=zjT f g hm hn
 have el:zcj m lo' hi'=zcj m lo hi:=zdu fun j hj=>by rw[(zg1 sp' sp hj).1,(zg1 sp' sp hj).2]
 rw[<-el]
 simp! only[↓zbi,↓zfi,↓zfr]
 refine⟨zaw (by lia) (by lia),by lia,zaD (fun ρ=>∃s,ρ=[.val (.lst (wI n f)),.val (.int m),.val (.lst (wI n g)),s]) (fun j=> .tup [.int (lo' j),.int (hi' j)]) ⟨_,rfl⟩ ?_ ?_⟩
 ·rintro j _ hj ⟨s,rfl⟩
  have hk0:¬(some (m:Int)=some 0):=by intro h;have:=Option.some.inj h;lia
  obtain⟨e1,e2⟩:=e j hj
  unfold ziX at e1
  unfold zfA at e2
  simp! only[↓zfV,zlH,hk0,e1,e2]
  exact⟨_,rfl⟩
 ·rintro _ ⟨s,rfl⟩
  simp! only[]
  rfl
theorem zkH (hm:0<m)(hmn:m<=n)(h24:n<=1000)(he:∀j,j<m->∃p,p<n/\p%m=j/\f p=e j):
  Ok (za3 [.lst (wI n f),.lst (wI m e)]) fun x=>∃pl:Nat->Nat,(∀j,j<m->pl j<n/\pl j%m=j/\f (pl j)=e j)/\x= .val (.tup (wI m fun j=>(pl j:Nat))):=by
 have h1:∀j,∃i:Nat,j<m->ziH (.lst (zaJ (wI n f) (some (j:Int)) none (some (m:Int)))) (.int (e j))=some (.int i)/\j+i*m<n/\f (j+i*m)=e j:=fun j=>by
  by_cases hj:j<m
  ·obtain⟨i,h⟩:=zjo f hm hj (he j hj);exact⟨i,fun _=>h⟩
  ·exact⟨0,fun h=>absurd h hj⟩
 have hk0:¬(some (m:Int)=some 0):=by intro h;have:=Option.some.inj h;lia
 simp! only[↓za3,↓zc8,↓zdr]
 refine⟨zaw (by lia) (by lia),by lia,zaD (fun ρ=>∃s,ρ=[.val (.int m),.val (.lst (wI n f)),.val (.lst (wI m e)),s]) (fun j=> .int ((j+(h1 j).choose*m:Nat):Int)) ⟨_,rfl⟩ ?_ ?_⟩
 ·rintro j _ hj ⟨s,rfl⟩
  obtain⟨e1,-,-⟩:=(h1 j).choose_spec hj
  generalize (h1 j).choose=i at*
  have ee:(j:Int)+(m:Int)*(i:Int)=((j+i*m:Nat):Int):=by push_cast;rw[Int.mul_comm]
  simp! only[↓zdf,zlH,hk0,e1,zat _ hj,ee]
  exact⟨zdB (by lia),_,rfl⟩
 ·rintro _ ⟨s,rfl⟩
  simp! only[]
  exact⟨_,fun j hj=>⟨((h1 j).choose_spec hj).2.1,by rw[Nat.add_mul_mod_self_right,Nat.mod_eq_of_lt hj],((h1 j).choose_spec hj).2.2⟩,rfl⟩
structure Room' (m:Nat) (lo hi:Nat->Int) (t:Int):Prop where
 le:∀j,j<m->lo j<=hi j
 low:sumR m lo<=t
 high:t<=sumR m hi
def Paper (f g:Nat->Int)(n m:Nat)(t:Int)(d:D):Prop:=
 (∃a b:Nat,a<n/\b<n/\a%m=b%m/\f a>g b/\d= .tup [.str "clash",.int a,.int b])\/
 (∃pl:Nat->Nat,(∀j,j<m->pl j<n/\pl j%m=j)/\sumR m (fun j=>f (pl j))>t/\d= .tup [.str "low",.tup (wI m fun j=>(pl j:Nat))])\/
 (∃pl:Nat->Nat,(∀j,j<m->pl j<n/\pl j%m=j)/\sumR m (fun j=>g (pl j))<t/\d= .tup [.str "high",.tup (wI m fun j=>(pl j:Nat))])
theorem paper_ok (hm:0<m)(hn:m<=n)(h24:n<=1000)(t:Int)(sp:Span f g n m lo hi):
  Ok (zbN [.lst (wI n f),.lst (wI n g),.int m,.int t]) fun x=>(Room' m lo hi t/\x= .val .non)\/(¬Room' m lo hi t/\∃d,Paper f g n m t d/\x= .val d):=by
 simp! only[↓zbN,↓zee]
 refine(zmw hm hn h24 sp).mono ?_
 rintro _ rfl
 simp! only[↓zeW,zcj]
 refine⟨by lia,zaD (fun ρ=>∃s s',ρ=[s,s']) (fun j=> .int (lo j)) ⟨_,_,rfl⟩ ?_ ?_⟩
 ·rintro j _ hj ⟨s,s',rfl⟩
  simp! only[↓ze1]
  exact⟨_,_,rfl⟩
 rintro _ ⟨_,_,rfl⟩
 simp! only[↓zet]
 refine⟨by lia,zaD (fun ρ=>∃s s',ρ=[s,s']) (fun j=> .int (hi j)) ⟨_,_,rfl⟩ ?_ ?_⟩
 ·rintro j _ hj ⟨s,s',rfl⟩
  simp! only[↓ze4]
  exact⟨_,_,rfl⟩
 rintro _ ⟨_,_,rfl⟩
 simp! only[]
 refine(zkH hm hn h24 sp.lm).mono ?_
 rintro _ ⟨pl,hpl,rfl⟩
 simp! only[]
 refine(zkH hm hn h24 sp.hm).mono ?_
 rintro _ ⟨ph,hph,rfl⟩
 simp! only[↓zev]
 refine⟨zaw (by lia) (by lia),zdH (fun i ρ=>(∀j,j<i->lo j<=hi j)/\∃s,ρ=[.val (.lst (wI n f)),.val (.lst (wI n g)),.val (.int m),.val (.int t),.val (.lst (zcj m lo hi)),.val (.lst (wI m lo)),.val (.lst (wI m hi)),.val (.tup (wI m fun j=>(pl j:Nat))),.val (.tup (wI m fun j=>(ph j:Nat))),s]) ⟨fun _ h=>by lia,_,rfl⟩ ?_ ?_⟩
 ·rintro j _ hj ⟨hb,s,rfl⟩
  simp! only[↓zeE,zat _ hj]
  refine⟨fun h=> .inr ⟨fun r=>by have:=r.le j hj;lia,_,.inl ⟨pl j,ph j,(hpl j hj).1,(hph j hj).1,by rw[(hpl j hj).2.1,(hph j hj).2.1],by rw[(hpl j hj).2.2,(hph j hj).2.2];exact h,rfl⟩,rfl⟩,fun h=>⟨fun j' hj'=>?_,_,rfl⟩⟩
  by_cases e:j'=j
  ·subst e;lia
  ·exact hb j' (by lia)
 rintro _ ⟨hb,s,rfl⟩
 have el:sumR m (fun j=>f (pl j))=sumR m lo:=zcl fun j hj=>(hpl j hj).2.2
 have eh:sumR m (fun j=>g (ph j))=sumR m hi:=zcl fun j hj=>(hph j hj).2.2
 simp! only[zbv,zbb]
 refine⟨fun h=> .inr ⟨fun r=>by have:=r.low;lia,_,.inr (.inl ⟨pl,fun j hj=>⟨(hpl j hj).1,(hpl j hj).2.1⟩,by lia,rfl⟩),rfl⟩,fun h1=>?_⟩
 simp! only[↓zeu,zbv,zbb]
 refine⟨fun h=> .inr ⟨fun r=>by have:=r.high;lia,_,.inr (.inr ⟨ph,fun j hj=>⟨(hph j hj).1,(hph j hj).2.1⟩,by lia,rfl⟩),rfl⟩,fun h2=>?_⟩
 simp! only[↓zeY]
 exact .inl ⟨hb,by lia,by lia⟩
def left (lo hi:Nat->Int)(m:Nat)(t:Int):Nat->Int
 |0=>t
 |j+1=>left lo hi m t j-max2 (lo j) (left lo hi m t j-(sumR m hi-sumR (j+1) hi))
def hd (lo hi:Nat->Int)(m:Nat)(t:Int)(j:Nat):Int:=max2 (lo j) (left lo hi m t j-(sumR m hi-sumR (j+1) hi))
theorem zi1 (lo hi:Nat->Int)(t:Int)(hm:m<=1000):Ok (zbS [.lst (zcj m lo hi),.int t]) fun x=>x= .own (wI m (hd lo hi m t)):=by
 simp! only[↓zbS,↓zek,↓zeJ,zcj]
 refine⟨by lia,zaD (fun ρ=>∃s s',ρ=[s,s']) (fun j=> .int (hi j)) ⟨_,_,rfl⟩ ?_ ?_⟩
 ·rintro j _ hj ⟨s,s',rfl⟩
  simp! only[↓zeB]
  exact⟨_,_,rfl⟩
 rintro _ ⟨_,_,rfl⟩
 simp! only[zbv,zbb,↓zeG]
 refine zdH (fun i ρ=>∃s5 s6 s7,ρ=[.val (.lst (zcj m lo hi)),.val (.int t),.own (wI i (hd lo hi m t)),.val (.int (left lo hi m t i)),.val (.int (sumR m hi-sumR i hi)),s5,s6,s7]) ⟨_,_,_,by rw[show sumR 0 hi=0 from rfl,Int.sub_zero];rfl⟩ ?_ ?_
 ·rintro j _ hj ⟨s5,s6,s7,rfl⟩
  simp! only[↓zeR]
  have e:sumR m hi-sumR j hi-hi j=sumR m hi-sumR (j+1) hi:=by simp only[sumR];lia
  rw[e]
  exact⟨by lia,_,_,_,by rw[show wI (j+1) (hd lo hi m t)=_ from zgy _ _];rfl⟩
 ·rintro _ ⟨s5,s6,s7,rfl⟩
  simp! only[]
theorem zlU (lo hi:Nat->Int)(m:Nat)(t:Int):∀j,left lo hi m t j=t-sumR j (hd lo hi m t)
 |0=>by simp[left,sumR]
 |j+1=>by rw[sumR,left,zlU lo hi m t j,hd,zlU lo hi m t j];lia
theorem zio (a b:Int):(max2 a b=a\/max2 a b=b)/\a<=max2 a b/\b<=max2 a b:=by unfold max2;split<;>lia
theorem zln (r:Room' m lo hi t):∀j,j<=m->sumR m lo-sumR j lo<=left lo hi m t j/\left lo hi m t j<=sumR m hi-sumR j hi
 |0,_=>by have:=r.low;have:=r.high;simp[left,sumR];lia
 |j+1,h=>by
  have ih:=zln r j (by lia)
  have hj:=r.le j (by lia)
  obtain⟨c,c1,c2⟩:=zio (lo j) (left lo hi m t j-(sumR m hi-sumR (j+1) hi))
  have e:left lo hi m t (j+1)=left lo hi m t j-max2 (lo j) (left lo hi m t j-(sumR m hi-sumR (j+1) hi)):=rfl
  rw[e]
  have key:sumR m lo-sumR (j+1) lo<=sumR m hi-sumR (j+1) hi:=by
   obtain⟨b,rfl⟩:∃b,m=j+1+b:=⟨m-(j+1),by lia⟩
   rw[zf1 lo (j+1) b,zf1 hi (j+1) b]
   have:=zie (f:=fun i=>lo (j+1+i)) (g:=fun i=>hi (j+1+i)) (n:=b) fun i hi'=>r.le _ (by lia)
   lia
  simp only[sumR]at*
  rcases c with c|c<;>rw[c]at c1 c2 ⊢ <;>lia
theorem hd_in (r:Room' m lo hi t)(hj:j<m):lo j<=hd lo hi m t j/\hd lo hi m t j<=hi j:=by
 have h:=zln r j (by lia)
 have hjj:=r.le j hj
 obtain⟨c,c1,c2⟩:=zio (lo j) (left lo hi m t j-(sumR m hi-sumR (j+1) hi))
 unfold hd
 simp only[sumR]at*
 rcases c with c|c<;>rw[c]at c1 c2 ⊢ <;>lia
theorem zpn (r:Room' m lo hi t):sumR m (hd lo hi m t)=t:=by
 have h:=zln r m (Nat.le_refl _)
 have e:=zlU lo hi m t m
 lia
theorem zlG (hm:0<m)(h24:n<=1000)(h mo:Nat->Int):Ok (zbs [.lst (wI m h),.lst (wI n mo)]) fun x=>x= .val (.tup (wI n fun p=>h (p%m)+mo p)):=by
 simp! only[↓zbs,↓zdL,↓zd4,zlN]
 refine⟨by lia,zaD (fun ρ=>∃s s',ρ=[.val (.lst (wI m h)),.val (.int m),s,s']) (fun p=> .int (h (p%m)+mo p)) ⟨_,_,rfl⟩ ?_ ?_⟩
 ·rintro p _ hp ⟨s,s',rfl⟩
  have e:(p:Int)%(m:Int)=((p%m:Nat):Int):=by push_cast;rfl
  simp! only[↓zdZ,e,zat _ (Nat.mod_lt p hm)]
  exact⟨by lia,_,_,rfl⟩
 ·rintro _ ⟨_,_,rfl⟩
  simp! only[]
def zaC (k s n:Nat)(S L G:Nat->Int):D:= .tup [.int k,.tup (wI s S),.tup (wI n L),.tup (wI n G)]
structure Dim (k s n:Nat):Prop where
 k2:2<=k
 k5:k<=5
 kn:k<=n
 n24:n<=24
 s:n+1=s+k
def mo (k:Nat)(S:Nat->Int)(p:Nat):Int:=sumR (p/k) fun i=>S (p%k+i*k+1)-S (p%k+i*k)
theorem zoH (S:Nat->Int)(h:p<k):mo k S p=0:=by unfold mo;rw[Nat.div_eq_of_lt h];rfl
theorem zlL (hk:0<k)(S:Nat->Int)(p:Nat):mo k S (p+k)=mo k S p+S (p+1)-S p:=by
 unfold mo
 rw[Nat.add_div_right _ hk,Nat.add_mod_right,sumR]
 have e:p%k+p/k*k=p:=by have:=Nat.mod_add_div p k;rw[Nat.mul_comm];lia
 rw[e];lia
theorem zj7 (d:Dim k s n)(S L G:Nat->Int):Ok (zbn [zaC k s n S L G]) fun x=>x= .own (wI n (mo k S)):=by
 obtain⟨k2,k5,kn,n24,hs⟩:=d
 simp! only[↓zbn,↓zhw,↓zgV,zaC,rep_w]
 rw[show((s:Int)-1).toNat=s-1 by lia]
 refine⟨⟨zaw (by lia) (by lia),by lia⟩,zaw (by lia) (by lia),zdH (fun i ρ=>∃s3,ρ=[.val (zaC k s n S L G),.val (.tup (wI s S)),.own (wI (k+i) (mo k S)),s3]) ⟨.emp,?_⟩ ?_ ?_⟩
 ·rw[Nat.add_zero,show wI k (mo k S)=wL k (fun _=> .int 0)from zdu fun p hp=>by rw[zoH S hp]];rfl
 ·rintro i _ hi ⟨s3,rfl⟩
  simp! only[↓zhb,zat _ (show i<k+i by lia),zat _ (show i+1<s by lia),zat _ (show i<s by lia)]
  exact⟨by lia,_,by rw[show k+(i+1)=k+i+1 by lia,show wI (k+i+1) (mo k S)=_ from zgy _ _,show mo k S (k+i)=mo k S i+S (i+1)-S i by rw[Nat.add_comm k i];exact zlL (by lia) S i]⟩
 ·rintro _ ⟨s3,rfl⟩
  rw[show k+(s-1)=n by lia]
  simp! only[]
abbrev ask (k:Nat)(S B:Nat->Int)(p:Nat):Int:=B p-mo k S p
theorem low_ok (d:Dim k s n)(S L G:Nat->Int):Ok (zce [zaC k s n S L G]) fun x=>x= .own (wI n (ask k S L)):=by
 have n24:=d.n24
 simp! only[↓zce,↓zhi,zaC]
 refine(zj7 d S L G).mono ?_
 rintro _ rfl
 simp! only[]
 refine(zpa L (mo k S) (by lia)).mono ?_
 rintro _ rfl
 simp! only[]
theorem zoM (d:Dim k s n)(S L G:Nat->Int):Ok (zbA [zaC k s n S L G]) fun x=>x= .own (wI n (ask k S G)):=by
 have n24:=d.n24
 simp! only[↓zbA,↓zgD,zaC]
 refine(zj7 d S L G).mono ?_
 rintro _ rfl
 simp! only[]
 refine(zpa G (mo k S) (by lia)).mono ?_
 rintro _ rfl
 simp! only[]
abbrev zej (k n:Nat)(S L G lo hi:Nat->Int):Prop:=Span (ask k S L) (ask k S G) n k lo hi
theorem zjM (d:Dim k s n)(sp:zej k n S L G lo hi):Ok (zcy [zaC k s n S L G]) fun x=>x= .own (zcj k lo hi):=by
 have n24:=d.n24
 have k2:=d.k2
 simp! only[↓zcy,↓zfz]
 refine(low_ok d S L G).mono ?_
 rintro _ rfl
 simp! only[]
 refine(zoM d S L G).mono ?_
 rintro _ rfl
 simp! only[zaC]
 refine(zmw (by lia) d.kn (by lia) sp).mono ?_
 rintro _ rfl
 simp! only[]
theorem znJ (d:Dim k s n)(S L G h:Nat->Int):Ok (zgY [zaC k s n S L G,.lst (wI k h)]) fun x=>x= .val (.tup (wI n fun p=>h (p%k)+mo k S p)):=by
 have n24:=d.n24
 have k2:=d.k2
 simp! only[↓zgY,↓zjz]
 refine(zj7 d S L G).mono ?_
 rintro _ rfl
 simp! only[]
 refine(zlG (by lia) (by lia) h (mo k S)).mono ?_
 rintro _ rfl
 simp! only[]
def win (k:Nat)(r:Nat->Int)(i:Nat):Int:=sumR k fun j=>r (i+j)
structure Fits (k s n:Nat) (S L G r:Nat->Int):Prop where
 low:∀p,p<n->L p<=r p
 high:∀p,p<n->r p<=G p
 sum:∀i,i<s->win k r i=S i
theorem zmL (k:Nat)(r:Nat->Int)(i:Nat):win k r (i+1)=win k r i+r (i+k)-r i:=by
 unfold win
 have h1:sumR (k+1) (fun j=>r (i+j))=sumR k (fun j=>r (i+j))+r (i+k):=rfl
 have h2:sumR (k+1) (fun j=>r (i+j))=r i+sumR k (fun j=>r (i+1+j)):=by
  rw[show k+1=1+k by lia,zf1]
  simp only[sumR,Nat.add_zero,Int.zero_add]
  congr 1
  exact zcl fun j _=>by rw[Nat.add_assoc]
 lia
theorem zkp (d:Dim k s n)(f:Fits k s n S L G r):∀p,p<n->r p=r (p%k)+mo k S p:=by
 intro p
 induction p using Nat.strongRecOn with
 |_ p ih=>
  intro hp
  by_cases h:p<k
  ·rw[zoH S h,Nat.mod_eq_of_lt h];lia
  ·obtain⟨q,rfl⟩:∃q,p=q+k:=⟨p-k,by lia⟩
   have h1:=ih q (by have:=d.k2;lia) (by lia)
   have h2:=f.sum q (by have:=d.s;lia)
   have h3:=f.sum (q+1) (by have:=d.s;lia)
   rw[zmL]at h3
   rw[zlL (by have:=d.k2;lia),Nat.add_mod_right]
   lia
theorem zpH (hk:0<k)(hs:n+1=s+k)(S h:Nat->Int)(h0:sumR k h=S 0):∀i,i<s->win k (fun p=>h (p%k)+mo k S p) i=S i
 |0,_=>by
  unfold win
  rw[<-h0]
  exact zcl fun j hj=>by dsimp only;rw[Nat.zero_add,Nat.mod_eq_of_lt hj,zoH S hj];lia
 |i+1,hi=>by
  have ih:=zpH hk hs S h h0 i (by lia)
  rw[zmL,ih,zlL hk,Nat.add_mod_right]
  lia
theorem fits_iff (d:Dim k s n)(sp:zej k n S L G lo hi)(f:Fits k s n S L G r):(∀j,j<k->lo j<=r j/\r j<=hi j)/\sumR k r=S 0:=by
 have k2:=d.k2
 have kn:=d.kn
 have hs:=d.s
 refine⟨fun j hj=>?_,?_⟩
 ·obtain⟨p,h1,h2,h3⟩:=sp.lm j hj
  obtain⟨q,g1,g2,g3⟩:=sp.hm j hj
  have e1:=zkp d f p h1
  have e2:=zkp d f q g1
  have b1:=f.low p h1
  have b2:=f.high q g1
  rw[h2]at e1;rw[g2]at e2
  unfold ask at h3 g3
  lia
 ·have:=f.sum 0 (by lia)
  rw[<-this]
  exact zcl fun j _=>by rw[Nat.zero_add]
theorem zl5 (d:Dim k s n)(sp:zej k n S L G lo hi)(hh:∀j,j<k->lo j<=h j/\h j<=hi j)(h0:sumR k h=S 0):Fits k s n S L G fun p=>h (p%k)+mo k S p:=by
 have k2:=d.k2
 refine⟨fun p hp=>?_,fun p hp=>?_,zpH (by lia) d.s S h h0⟩
 ·have h1:=sp.lg p hp
  have h2:=(hh (p%k) (Nat.mod_lt _ (by lia))).1
  unfold ask at h1;lia
 ·have h1:=sp.hg p hp
  have h2:=(hh (p%k) (Nat.mod_lt _ (by lia))).2
  unfold ask at h1;lia
theorem room_iff (d:Dim k s n)(sp:zej k n S L G lo hi):Room' k lo hi (S 0)↔∃r,Fits k s n S L G r:=by
 constructor
 ·intro rm
  exact⟨_,zl5 d sp (fun j hj=>hd_in rm hj) (zpn rm)⟩
 ·rintro⟨r,f⟩
  obtain⟨h1,h2⟩:=fits_iff d sp f
  refine⟨fun j hj=>Int.le_trans (h1 j hj).1 (h1 j hj).2,?_,?_⟩
  ·rw[<-h2];exact zie fun j hj=>(h1 j hj).1
  ·rw[<-h2];exact zie fun j hj=>(h1 j hj).2
def LPaper (k n:Nat)(S L G:Nat->Int)(d:D):Prop:=Paper (ask k S L) (ask k S G) n k (S 0) d
theorem zju (d:Dim k s n)(sp:zej k n S L G lo hi):Ok (zcB [zaC k s n S L G]) fun x=>(Room' k lo hi (S 0)/\x= .val .non)\/(¬Room' k lo hi (S 0)/\∃pd,LPaper k n S L G pd/\x= .val pd):=by
 have k2:=d.k2
 have kn:=d.kn
 have n24:=d.n24
 have hs:=d.s
 simp! only[↓zcB,↓zfx]
 refine(low_ok d S L G).mono ?_
 rintro _ rfl
 simp! only[]
 refine(zoM d S L G).mono ?_
 rintro _ rfl
 simp! only[zaC,zat _ (show 0<s by lia)]
 refine(paper_ok (by lia) kn (by lia) (S 0) sp).mono ?_
 rintro _ (⟨h,rfl⟩|⟨h,pd,hp,rfl⟩)
 ·simp! only[];exact .inl h
 ·simp! only[];exact .inr ⟨h,pd,hp,rfl⟩
theorem cnt_mod' {p k:Nat}(hk:0<k):cntS ((p%k:Nat):Int) (p:Int) (k:Int)=p/k:=by
 have key:∀i,i<cntS ((p%k:Nat):Int) (p:Int) (k:Int)↔i<p/k:=fun i=>by
  rw[zcM hk,Nat.lt_div_iff_mul_lt hk]
  have e:=Nat.mod_add_div p k
  have hm:=Nat.mod_lt p hk
  constructor
  ·intro h
   have h':i*k<p/k*k:=by rw[Nat.mul_comm (p/k)];lia
   have h2:i<p/k:=Nat.lt_of_mul_lt_mul_right h'
   have h3:(i+1)*k<=p/k*k:=Nat.mul_le_mul_right k h2
   rw[Nat.add_mul,Nat.one_mul,Nat.mul_comm (p/k)]at h3
   lia
  ·intro h
   lia
 have h1:=key (cntS ((p%k:Nat):Int) (p:Int) (k:Int))
 have h2:=key (p/k)
 lia
theorem zlz (lo st:Int)(n:Nat):zl1 lo st n=wL n fun i=> .int (lo+(i:Int)*st):=rfl
theorem zk5 (d:Dim k s n)(S L G:Nat->Int):Ok (zcE [zaC k s n S L G]) fun x=>x= .own (wI n (mo k S)):=by
 obtain⟨k2,k5,kn,n24,hs⟩:=d
 simp! only[↓zcE,↓zfp,↓zfG,zaC]
 refine⟨zaw (by lia) (by lia),zdH (fun i ρ=>∃s6 s7 s8,ρ=[.val (zaC k s n S L G),.val (.int k),.val (.tup (wI s S)),.val (.tup (wI n L)),.val (.tup (wI n G)),.own (wI i (mo k S)),s6,s7,s8]) ⟨_,_,_,rfl⟩ ?_ ?_⟩
 ·rintro p _ hp ⟨s6,s7,s8,rfl⟩
  have em:(p:Int)%(k:Int)=((p%k:Nat):Int):=by push_cast;rfl
  have hm:=Nat.mod_lt p (show 0<k by lia)
  simp! only[↓zfP,↓zfE,em,cnt_mod' (show 0<k by lia),zlz]
  refine⟨by lia,⟨⟨⟨zaw (by lia) (by lia),zaw (by lia) (by lia)⟩,by lia⟩,by lia⟩,zdH (fun i ρ=>∃s8,ρ=[.val (zaC k s n S L G),.val (.int k),.val (.tup (wI s S)),.val (.tup (wI n L)),.val (.tup (wI n G)),.own (wI p (mo k S)),.val (.int p),.val (.int (sumR i fun i=>S (p%k+i*k+1)-S (p%k+i*k))),s8]) ⟨_,rfl⟩ ?_ ?_⟩
  ·rintro i _ hi ⟨s8,rfl⟩
   have e1:((p%k:Nat):Int)+(i:Int)*(k:Int)=((p%k+i*k:Nat):Int):=by push_cast;rfl
   have hlt:p%k+i*k+1<s:=by
    have e:=Nat.mod_add_div p k
    have h3:(i+1)*k<=p/k*k:=Nat.mul_le_mul_right k hi
    rw[Nat.add_mul,Nat.one_mul,Nat.mul_comm (p/k)]at h3
    lia
   simp! only[↓zfO,e1,zat _ hlt,zat _ (show p%k+i*k<s by lia)]
   exact⟨_,by rw[sumR,Int.add_sub_assoc]⟩
  ·rintro _ ⟨s8,rfl⟩
   simp! only[]
   exact⟨by lia,_,_,_,by rw[show wI (p+1) (mo k S)=_ from zgy _ _];rfl⟩
 ·rintro _ ⟨s6,s7,s8,rfl⟩
  simp! only[]
theorem zhL {k s n:Nat}(d:Dim k s n)(sp:zej k n S L G lo hi):Ok (zbg [zaC k s n S L G]) fun x=>x= .own (zcj k lo hi):=by
 have k2:=d.k2
 have k5:=d.k5
 have kn:=d.kn
 have n24:=d.n24
 obtain⟨lo',hi',sp',e⟩:=zjT (ask k S L) (ask k S G) (show 0<k by lia) kn
 have el:zcj k lo' hi'=zcj k lo hi:=zdu fun j hj=>by rw[(zg1 sp' sp hj).1,(zg1 sp' sp hj).2]
 rw[<-el]
 simp! only[↓zbg,↓zfJ,zaC]
 refine(zk5 d S L G).mono ?_
 rintro _ rfl
 simp! only[↓zfN]
 refine⟨zaw (by lia) (by lia),zdH (fun i ρ=>∃s7 s8 s9,ρ=[.val (zaC k s n S L G),.val (.int k),.val (.tup (wI s S)),.val (.tup (wI n L)),.val (.tup (wI n G)),.val (.lst (wI n (mo k S))),.own (zcj i lo' hi'),s7,s8,s9]) ⟨_,_,_,rfl⟩ ?_ ?_⟩
 ·rintro j _ hj ⟨s7,s8,s9,rfl⟩
  obtain⟨e1,e2⟩:=e j hj
  rw[wI,zks _ (show 0<k by lia) (show j<n by lia)]at e1
  rw[wI,zks _ (show 0<k by lia) (show j<n by lia)]at e2
  have hc:cntS (j:Int) (n:Int) (k:Int)<=24:=by
   by_cases c:cntS (j:Int) (n:Int) (k:Int)<=24
   ·exact c
   ·have:=(zcM (j:=j) (n:=n) (show 0<k by lia)).mp (show 24<cntS (j:Int) (n:Int) (k:Int) by lia)
    lia
  have sub:∀(B:Nat->Int) (Q:List D×R->Prop),(∀ρ,Q (wL (cntS (j:Int) (n:Int) (k:Int)) (fun i=> .int (ask k S B (j+i*k))),ρ))->
    Ok (zeq (zlA (gN 2) zbd zc0) (wL (cntS (j:Int) (n:Int) (k:Int)) fun i=> .int ((j:Int)+(i:Int)*(k:Int))) [.val (.tup (wI n B)),.val (.lst (wI n (mo k S))),.emp]) Q:=fun B Q hQ=>by
   refine zaD (fun ρ=>∃z,ρ=[.val (.tup (wI n B)),.val (.lst (wI n (mo k S))),z]) (fun i=> .int (ask k S B (j+i*k))) ⟨_,rfl⟩ ?_ ?_
   ·rintro i _ hi ⟨z,rfl⟩
    have hlt:=(zcM (show 0<k by lia)).mp hi
    have e3:(j:Int)+(i:Int)*(k:Int)=((j+i*k:Nat):Int):=by push_cast;rfl
    simp! only[↓zc0,e3,zat _ hlt]
    exact⟨_,rfl⟩
   ·intro ρ _
    exact hQ ρ
  unfold ziX at e1
  unfold zfA at e2
  simp! only[↓zfD,↓zfK,zlz]
  refine⟨⟨⟨⟨zaw (by lia) (by lia),zaw (by lia) (by lia)⟩,by lia⟩,by lia⟩,by lia,sub L _ fun ρ=>?_⟩
  simp! only[↓zfu,zlz]
  refine⟨⟨⟨⟨zaw (by lia) (by lia),zaw (by lia) (by lia)⟩,by lia⟩,by lia⟩,by lia,sub G _ fun ρ=>?_⟩
  simp! only[e1,e2,zcj]
  exact⟨by lia,_,_,_,by rw[zgy]⟩
 ·rintro _ ⟨s7,s8,s9,rfl⟩
  simp! only[]
def Pool (ds:List D):Prop:=∃p q:Int,ds=[.int p,.int q]/\0<=q/\q<2147483647
theorem za0 (h:Pool ds){m:Int}(h0:0<m)(h1:m<2^250):Ok (zao ds [.int m]) fun r=>∃(i:Nat) (ds':List D),(i:Int)<m/\Pool ds'/\r=(.val (.int i),ds'):=by
 obtain⟨p,q,rfl,q0,q1⟩:=h
 simp! only[↓zao,↓zgz]
 refine⟨fun hp=>?_,fun hp=>?_⟩
 ·have m0:=Int.emod_nonneg p (Int.ne_of_gt h0)
  refine⟨h0,zos h0 h1,(p%m).toNat,[.int (p/m),.int q],?_,⟨_,_,rfl,q0,q1⟩,?_⟩
  ·have:=Int.emod_lt_of_pos p h0;lia
  ·rw[show(((p%m).toNat:Nat):Int)=p%m by lia]
 ·simp! only[↓zgk]
  have e1:0<=(q*69621+12345)%2147483647:=Int.emod_nonneg _ (by decide)
  have e2:(q*69621+12345)%2147483647<2147483647:=Int.emod_lt_of_pos _ (by decide)
  generalize (q*69621+12345)%2147483647=z at*
  have m0:=Int.emod_nonneg (z*z%2147483629/64) (Int.ne_of_gt h0)
  refine⟨zdB (by lia),zdB (by lia),by decide+kernel,h0,(z*z%2147483629/64%m).toNat,[.int p,.int z],?_,⟨_,_,rfl,e1,e2⟩,?_⟩
  ·have:=Int.emod_lt_of_pos (z*z%2147483629/64) h0;lia
  ·rw[show(((z*z%2147483629/64%m).toNat:Nat):Int)=z*z%2147483629/64%m by lia]
theorem pool_ok (ns:List Int)(k:Nat)(hk:k<64):Ok (zc5 [.scr ns,.int k]) fun r=>∃ds,Pool ds/\r= .own ds:=by
 have last:∀c:Int,Ok (zdP [.val (.scr ns),.val (.int k),.val (.int c)]) fun p=>∃ds a,Pool ds/\p=(.ret (.own ds),a):=fun c=>by
  simp! only[↓zdP]
  exact⟨zdB (by decide),zdB (by lia),_,_,⟨_,_,rfl,Int.emod_nonneg _ (by decide),Int.emod_lt_of_pos _ (by decide)⟩,rfl⟩
 simp! only[↓zc5,↓zgw]
 refine⟨fun h=>?_,fun h=>?_⟩
 ·rw[List.getElem?_eq_getElem (show k<ns.length by lia)]
  simp! only[]
  refine⟨by decide+kernel,by decide+kernel,by decide+kernel,(last _).mono ?_⟩
  rintro _ ⟨d,a,h,rfl⟩
  simp! only[]
  exact⟨_,h,rfl⟩
 ·refine(last _).mono ?_
  rintro _ ⟨d,a,h,rfl⟩
  simp! only[]
  exact⟨_,h,rfl⟩
theorem znZ (h:Pool ds)(way:Nat)(hw:way<4):Ok (zcn ds [.int way]) fun r=>∃(x:Int) (ds':List D),0<=x/\x<2^220/\Pool ds'/\r=(.val (.int x),ds'):=by
 simp! only[↓zcn,↓zgE]
 refine⟨fun e=>?_,fun e=>?_⟩
 ·refine(za0 h (m:=2) (by lia) (by lia)).mono ?_
  rintro _ ⟨x,d1,hx,h1,rfl⟩
  simp! only[]
  exact⟨_,_,by lia,by lia,h1,rfl⟩
 simp! only[↓zgb]
 refine⟨fun e=>?_,fun e=>?_⟩
 ·refine(za0 h (m:=4) (by lia) (by lia)).mono ?_
  rintro _ ⟨x,d1,hx,h1,rfl⟩
  simp! only[]
  exact⟨_,_,by lia,by lia,h1,rfl⟩
 simp! only[↓zga]
 refine⟨fun e=>?_,fun e=>?_⟩
 ·refine(za0 h (m:=2) (by lia) (by lia)).mono ?_
  rintro _ ⟨x,d1,hx,h1,rfl⟩
  simp! only[]
  refine(za0 h1 (m:=40) (by lia) (by lia)).mono ?_
  rintro _ ⟨y,d2,hy,h2,rfl⟩
  simp! only[]
  refine⟨zdB (by lia),_,_,Int.mul_nonneg (by lia) (by lia),?_,h2,rfl⟩
  have:=Int.mul_le_mul (a:=(x:Int)) (b:=(y:Int)) (c:=2) (d:=40) (by lia) (by lia) (by lia) (by lia)
  lia
 simp! only[↓zgq]
 refine(za0 h (m:=9) (by lia) (by lia)).mono ?_
 rintro _ ⟨x,d1,hx,h1,rfl⟩
 simp! only[]
 refine(za0 h1 (m:=4) (by lia) (by lia)).mono ?_
 rintro _ ⟨y,d2,hy,h2,rfl⟩
 have hy':∃z:Int,(0<=z/\z<=10000000000000000000000000000000000000000000000000000000000)/\[D.int 1,D.int 1000,D.int 100000000000000000000,D.int 10000000000000000000000000000000000000000000000000000000000][y]? =some (.int z):=by
  have:y=0\/y=1\/y=2\/y=3:=by lia
  rcases this with rfl|rfl|rfl|rfl<;>exact⟨_,by decide,rfl⟩
 obtain⟨z,hz,ez⟩:=hy'
 simp! only[ez]
 refine⟨zdB (by lia),_,_,Int.mul_nonneg (by lia) hz.1,?_,h2,rfl⟩
 have:=Int.mul_le_mul (a:=(x:Int)) (b:=z) (c:=9) (d:=10000000000000000000000000000000000000000000000000000000000) (by lia) hz.2 hz.1 (by lia)
 lia
theorem zlQ (n k:Nat)(r:Nat->Int)(hk:k<=n)(hn:n<=1000):Ok (za9 [.lst (wI n r),.int k]) fun x=>x= .val (.tup (wI (n+1-k) (win k r))):=by
 have hl:((n:Int)-(k:Int)+1).toNat=n+1-k:=by lia
 simp! only[↓za9,↓zef,↓zdQ,hl]
 refine⟨zaw (by lia) (by lia),by lia,zaD (fun ρ=>∃s,ρ=[.val (.lst (wI n r)),.val (.int k),s]) (fun i=> .int (win k r i)) ⟨_,rfl⟩ ?_ ?_⟩
 ·rintro i _ hi ⟨s,rfl⟩
  have hc:=cut_w (n:=n) (a:=i) (b:=k) (fun j=> .int (r j)) (by lia)
  simp! only[↓zdJ,hc,zbv,zbb]
  exact⟨rfl,_,rfl⟩
 ·rintro _ ⟨s,rfl⟩
  simp! only[]
structure LOk (k s n:Nat) (L G:Nat->Int):Prop where
 d:Dim k s n
 le:∀p,p<n->L p<=G p
 far:∀p,p<n->G p-L p<2^230
theorem line_ok (h:Pool ds)(most ways:Nat)(m5:5<=most)(m24:most<=24)(w1:1<=ways)(w4:ways<=4):
  Ok (zc6 ds [.int most,.int ways]) fun r=>∃(k s n:Nat) (S L G:Nat->Int) (ds':List D),Pool ds'/\LOk k s n L G/\(∃r,Fits k s n S L G r)/\n<=most/\r=(.val (zaC k s n S L G),ds'):=by
 simp! only[↓zc6,↓zgx]
 refine(za0 h (m:=4) (by lia) (by lia)).mono ?_
 rintro _ ⟨x,d1,hx,h1,rfl⟩
 simp! only[show(2:Int)+(x:Int)=((2+x:Nat):Int) by lia]
 generalize hk:2+x=k
 refine(za0 h1 (m:=4) (by lia) (by lia)).mono ?_
 rintro _ ⟨y,d2,hy,h2,rfl⟩
 simp! only[]
 refine(za0 h2 (m:=(most:Int)-k+1) (by lia) (by lia)).mono ?_
 rintro _ ⟨z,d3,hz,h3,rfl⟩
 simp! only[]
 refine(za0 h3 (m:=4) (by lia) (by lia)).mono ?_
 rintro _ ⟨w,d4,hw,h4,rfl⟩
 have hw':∃n:Nat,(k<=n/\n<=most)/\∃v:Int,[D.int k,D.int ((k:Int)+y),D.int ((k:Int)+z),D.int most][w]? =some (.int v)/\min2 most v=n:=by
  have:w=0\/w=1\/w=2\/w=3:=by lia
  rcases this with rfl|rfl|rfl|rfl
  ·exact⟨k,by lia,_,rfl,by unfold min2;split<;>lia⟩
  ·exact⟨min most (k+y),by lia,_,rfl,by unfold min2;split<;>lia⟩
  ·exact⟨min most (k+z),by lia,_,rfl,by unfold min2;split<;>lia⟩
  ·exact⟨most,by lia,_,rfl,by unfold min2;split<;>lia⟩
 obtain⟨n,hn,v,ev,en⟩:=hw'
 simp! only[ev,en]
 refine(za0 h4 (m:=3) (by lia) (by lia)).mono ?_
 rintro _ ⟨u,d5,hu,h5,rfl⟩
 have hu':∃z:Int,[D.int 1,D.int 1,D.int 1000000000000000000000000000000000000000000000000000000000][u]? =some (.int z):=by
  have:u=0\/u=1\/u=2:=by lia
  rcases this with rfl|rfl|rfl<;>exact⟨_,rfl⟩
 obtain⟨great,eg⟩:=hu'
 simp! only[eg]
 refine(za0 h5 (m:=(ways:Int)) (by lia) (by lia)).mono ?_
 rintro _ ⟨way,d6,hway,h6,rfl⟩
 simp! only[↓zgs]
 refine⟨zaw (by lia) (by lia),zdH (fun i ρ=>∃(ds':List D) (R L G:Nat->Int) (s10 s11:Sl),Pool ds'/\(∀p,p<i->L p<=R p/\R p<=G p/\R p-L p<2^220/\G p-R p<2^220)/\ρ=[.par ds',.val (.int most),.val (.int ways),.val (.int k),.val (.int n),.val (.int great),.val (.int way),.own (wI i R),.own (wI i L),.own (wI i G),s10,s11]) ⟨d6,fun _=>0,fun _=>0,fun _=>0,_,_,h6,fun _ h=>by lia,rfl⟩ ?_ ?_⟩
 ·rintro i _ hi ⟨d7,R,L,G,s10,s11,h7,b,rfl⟩
  simp! only[↓zgo]
  refine(za0 h7 (m:=13) (by lia) (by lia)).mono ?_
  rintro _ ⟨a,d8,ha,h8,rfl⟩
  simp! only[zj2]
  refine⟨zdB (by lia),by lia,?_⟩
  generalize ((a:Int)-6)*great=num
  refine(znZ h8 way (by lia)).mono ?_
  rintro _ ⟨lw,d9,l0,l1,h9,rfl⟩
  simp! only[zj2]
  refine⟨by lia,?_⟩
  refine(znZ h9 way (by lia)).mono ?_
  rintro _ ⟨hw,d10,g0,g1,h10,rfl⟩
  simp! only[zj2]
  refine⟨by lia,d10,_,_,_,_,_,h10,fun p hp=>?_,rfl⟩
  by_cases e:p<i
  ·simp only[e,if_true];exact b p e
  ·simp only[e,if_false];lia
 ·rintro _ ⟨d7,R,L,G,s10,s11,h7,b,rfl⟩
  simp! only[]
  refine(zlQ n k R hn.1 (by lia)).mono ?_
  rintro _ rfl
  simp! only[]
  refine⟨k,n+1-k,n,_,L,G,d7,h7,⟨⟨by lia,by lia,hn.1,by lia,by lia⟩,fun p hp=>?_,fun p hp=>?_⟩,⟨R,fun p hp=>(b p hp).1,fun p hp=>(b p hp).2.1,fun i _=>rfl⟩,hn.2,rfl⟩
  ·have:=b p hp;lia
  ·have:=b p hp;lia
theorem put_w (f:Nat->Int)(x:Int)(h:i<n):(wI n f).take i++[D.int x]++(wI n f).drop (i+1)=wI n fun j=>if j=i then x else f j:=by
 rw[<-znK f x h,List.set_eq_take_append_cons_drop]
 simp[zaI,h]
theorem drop_w (f:Nat->Int):(wI n f).drop i=wI (n-i) fun j=>f (i+j):=by
 apply List.ext_getElem?
 intro j
 rw[List.getElem?_drop]
 by_cases hj:i+j<n
 ·rw[zat _ hj,zat _ (by lia)]
 ·rw[List.getElem?_eq_none (by rw[zaI];lia),List.getElem?_eq_none (by rw[zaI];lia)]
theorem join_w (f g:Nat->Int)(h:i<=n):(wI n f).take i++(wI (n-i) fun j=>g (i+j))=wI n fun j=>if j<i then f j else g j:=by
 apply List.ext_getElem?
 intro j
 by_cases hj:j<i
 ·rw[List.getElem?_append_left (by rw[List.length_take,zaI];lia),List.getElem?_take_of_lt hj,zat _ (by lia),zat _ (by lia)];dsimp only;rw[if_pos hj]
 ·rw[List.getElem?_append_right (by rw[List.length_take,zaI];lia),List.length_take,zaI,Nat.min_eq_left h]
  by_cases hn:j<n
  ·rw[zat _ (by lia),zat _ hn];dsimp only;rw[if_neg hj,show i+(j-i)=j by lia]
  ·rw[List.getElem?_eq_none (by rw[zaI];lia),List.getElem?_eq_none (by rw[zaI];lia)]
section bent
variable {ds:List D} {k s n:Nat} {S L G:Nat->Int} {way at' pl:Nat} {by':Int} {d1:D} {Q:Fl×R->Prop}
theorem bent3 (h:Pool ds)(ok:LOk k s n L G)(hQ:∀(S L G:Nat->Int) (ds':List D) (a:List Sl),Pool ds'->LOk k s n L G->Q (.ret (.val (zaC k s n S L G)),.par ds'::a)):
  Ok (zdM [.par ds,.val d1,.val (.int k),.val (.tup (wI s S)),.val (.tup (wI n L)),.val (.tup (wI n G)),.val (.int way),.val (.int by'),.val (.int at'),.val (.int pl)]) Q:=by
 simp! only[↓zdM]
 exact hQ S L G ds _ h ok
theorem bent4 (h:Pool ds)(ok:LOk k s n L G)(hat:at'<s)(hpl:pl<n)(hQ:∀(S L G:Nat->Int) (ds':List D) (a:List Sl),Pool ds'->LOk k s n L G->Q (.ret (.val (zaC k s n S L G)),.par ds'::a)):
  Ok (zdN [.par ds,.val d1,.val (.int k),.val (.tup (wI s S)),.val (.tup (wI n L)),.val (.tup (wI n G)),.val (.int way),.val (.int by'),.val (.int at'),.val (.int pl)]) Q:=by
 have hs24:s<=24:=by have:=ok.d.s;have:=ok.d.n24;have:=ok.d.k2;lia
 simp! only[↓zdN]
 refine⟨fun _=>?_,fun _=>bent3 h ok hQ⟩
 simp! only[↓zgd,zfZ,zhe,drop_w]
 refine⟨by lia,zaD (fun ρ=>∃z,ρ=[.val (.int by'),z]) (fun i=> .int (S (at'+i)+by')) ⟨_,rfl⟩ ?_ ?_⟩
 ·rintro i _ hi ⟨z,rfl⟩
  simp! only[↓zgh]
  exact⟨_,rfl⟩
 ·rintro _ ⟨z,rfl⟩
  have e:=join_w S (fun j=>S j+by') (show at'<=s by lia)
  simp! only[zfZ,e,List.length_take]
  exact⟨by lia,bent3 h ok hQ⟩
theorem bent5 (h:Pool ds)(ok:LOk k s n L G)(hat:at'<s)(hpl:pl<n)(hQ:∀(S L G:Nat->Int) (ds':List D) (a:List Sl),Pool ds'->LOk k s n L G->Q (.ret (.val (zaC k s n S L G)),.par ds'::a)):
  Ok (zdz [.par ds,.val d1,.val (.int k),.val (.tup (wI s S)),.val (.tup (wI n L)),.val (.tup (wI n G)),.val (.int way),.val (.int by'),.val (.int at'),.val (.int pl)]) Q:=by
 have n24:=ok.d.n24
 simp! only[↓zdz]
 refine⟨fun _=>?_,fun _=>bent4 h ok hat hpl hQ⟩
 have c1:cutD (wI n G) (some ((pl:Int)+1)) none=(wI n G).drop (pl+1):=zhe _ (pl+1)
 simp! only[zfZ,c1,zat _ hpl,List.length_take,List.length_drop,put_w G (L pl) hpl]
 refine⟨by lia,by lia,bent4 h ⟨ok.d,fun p hp=>?_,fun p hp=>?_⟩ hat hpl hQ⟩
 ·have:=ok.le p hp;split<;>first|lia|(subst_vars;lia)
 ·have:=ok.far p hp;have:=ok.le p hp;split<;>first|lia|(subst_vars;lia)
theorem bent6 (h:Pool ds)(ok:LOk k s n L G)(hat:at'<s)(hpl:pl<n)(hQ:∀(S L G:Nat->Int) (ds':List D) (a:List Sl),Pool ds'->LOk k s n L G->Q (.ret (.val (zaC k s n S L G)),.par ds'::a)):
  Ok (zdC [.par ds,.val d1,.val (.int k),.val (.tup (wI s S)),.val (.tup (wI n L)),.val (.tup (wI n G)),.val (.int way),.val (.int by'),.val (.int at'),.val (.int pl)]) Q:=by
 have n24:=ok.d.n24
 simp! only[↓zdC]
 refine⟨fun _=>?_,fun _=>bent5 h ok hat hpl hQ⟩
 have c1:cutD (wI n L) (some ((pl:Int)+1)) none=(wI n L).drop (pl+1):=zhe _ (pl+1)
 simp! only[zfZ,c1,zat _ hpl,List.length_take,List.length_drop,put_w L (G pl) hpl]
 refine⟨by lia,by lia,bent5 h ⟨ok.d,fun p hp=>?_,fun p hp=>?_⟩ hat hpl hQ⟩
 ·have:=ok.le p hp;split<;>first|lia|(subst_vars;lia)
 ·have:=ok.far p hp;have:=ok.le p hp;split<;>first|lia|(subst_vars;lia)
theorem bent7 (h:Pool ds)(ok:LOk k s n L G)(hat:at'<s)(hpl:pl<n)(hQ:∀(S L G:Nat->Int) (ds':List D) (a:List Sl),Pool ds'->LOk k s n L G->Q (.ret (.val (zaC k s n S L G)),.par ds'::a)):
  Ok (zdy [.par ds,.val d1,.val (.int k),.val (.tup (wI s S)),.val (.tup (wI n L)),.val (.tup (wI n G)),.val (.int way),.val (.int by'),.val (.int at'),.val (.int pl)]) Q:=by
 have hs24:s<=24:=by have:=ok.d.s;have:=ok.d.n24;have:=ok.d.k2;lia
 simp! only[↓zdy]
 refine⟨fun _=>?_,fun _=>bent6 h ok hat hpl hQ⟩
 simp! only[↓zf6]
 refine⟨by lia,zaD (fun ρ=>∃z,ρ=[.val (.int by'),z]) (fun i=> .int (S i+by')) ⟨_,rfl⟩ ?_ ?_⟩
 ·rintro i _ hi ⟨z,rfl⟩
  simp! only[↓zf5]
  exact⟨_,rfl⟩
 ·rintro _ ⟨z,rfl⟩
  simp! only[]
  exact bent6 h ok hat hpl hQ
end bent
theorem bent_ok (h:Pool ds)(ok:LOk k s n L G):
  Ok (zdb ds [zaC k s n S L G]) fun r=>∃(S L G:Nat->Int) (ds':List D),Pool ds'/\LOk k s n L G/\r=(.val (zaC k s n S L G),ds'):=by
 have hs24:s<=24:=by have:=ok.d.s;have:=ok.d.n24;have:=ok.d.k2;lia
 have hs1:1<=s:=by have:=ok.d.s;have:=ok.d.kn;lia
 have n24:=ok.d.n24
 have n1:1<=n:=by have:=ok.d.k2;have:=ok.d.kn;lia
 simp! only[↓zdb,↓zgC,zaC]
 refine(za0 h (m:=6) (by lia) (by lia)).mono ?_
 rintro _ ⟨way,d2,hw,h2,rfl⟩
 simp! only[]
 refine(za0 h2 (m:=6) (by lia) (by lia)).mono ?_
 rintro _ ⟨y,d3,hy,h3,rfl⟩
 have hy':∃z:Int,[D.int 1,D.int (-1),D.int 2,D.int (-3),D.int 10000000000000000000000000000000000000000000000000000000000,D.int (-10000000000000000000000000000000000000000000000000000000000)][y]? =some (.int z):=by
  have:y=0\/y=1\/y=2\/y=3\/y=4\/y=5:=by lia
  rcases this with rfl|rfl|rfl|rfl|rfl|rfl<;>exact⟨_,rfl⟩
 obtain⟨by',ez⟩:=hy'
 simp! only[ez]
 refine(za0 h3 (m:=(s:Int)) (by lia) (by lia)).mono ?_
 rintro _ ⟨at',d4,hat,h4,rfl⟩
 simp! only[]
 refine(za0 h4 (m:=(n:Int)) (by lia) (by lia)).mono ?_
 rintro _ ⟨pl,d5,hpl,h5,rfl⟩
 have c1:cutD (wI s S) (some ((at':Int)+1)) none=(wI s S).drop (at'+1):=zhe _ (at'+1)
 simp! only[]
 refine⟨fun _=>?_,fun _=>bent7 h5 ok (by lia) (by lia) fun S L G d6 a h6 ok=>?_⟩
 ·simp! only[zfZ,c1,zat _ (show at'<s by lia),List.length_take,List.length_drop,put_w S _ (show at'<s by lia)]
  refine⟨by lia,by lia,bent7 h5 ok (by lia) (by lia) fun S L G d6 a h6 ok=>?_⟩
  simp! only[]
  exact⟨S,L,G,d6,h6,ok,rfl⟩
 ·simp! only[]
  exact⟨S,L,G,d6,h6,ok,rfl⟩
def rl (k:Nat)(lo hi:Nat->Int)(T:Int)(j:Nat):Int:=max2 (lo j) (hi j-(sumR k hi-T))
def rh (k:Nat)(lo hi:Nat->Int)(T:Int)(j:Nat):Int:=min2 (hi j) (lo j+(T-sumR k lo))
theorem zlm (a b:Int):(min2 a b=a\/min2 a b=b)/\min2 a b<=a/\min2 a b<=b:=by unfold min2;split<;>lia
theorem zh1 (hj:j<k){f g:Nat->Int}(h:∀i,i<k->i≠j->f i<=g i):sumR k f-f j<=sumR k g-g j:=by
 have h1:=zie (n:=k) (f:=fun i=>if i=j then 0 else f i) (g:=fun i=>if i=j then 0 else g i) fun i hi=>by
  split
  ·exact Int.le_refl _
  ·exact h i hi (by assumption)
 have h2:∀F:Nat->Int,∀m,j<m->sumR m (fun i=>if i=j then 0 else F i)=sumR m F-F j:=fun F m=>by
  have lowz:∀q,q<=j->sumR q (fun i=>if i=j then 0 else F i)=sumR q F:=fun q hq=>zcl fun i hi=>if_neg (by lia)
  induction m with
  |zero=>intro h;lia
  |succ m ih=>
   intro hm
   show sumR m (fun i=>if i=j then 0 else F i)+(if m=j then 0 else F m)=sumR m F+F m-F j
   by_cases e:m=j
   ·subst e;rw[if_pos rfl,lowz m (Nat.le_refl _)];lia
   ·rw[if_neg e,ih (by lia)];lia
 rw[h2 f k hj,h2 g k hj]at h1
 exact h1
theorem in_range {T:Int}(hh:∀j,j<k->lo j<=h j/\h j<=hi j)(hs:sumR k h=T)(hj:j<k):rl k lo hi T j<=h j/\h j<=rh k lo hi T j:=by
 have h1:=zh1 hj (f:=h) (g:=hi) fun i hi' _=>(hh i hi').2
 have h2:=zh1 hj (f:=lo) (g:=h) fun i hi' _=>(hh i hi').1
 have h3:=hh j hj
 have m1:=zio (lo j) (hi j-(sumR k hi-T))
 have m2:=zlm (hi j) (lo j+(T-sumR k lo))
 unfold rl rh
 lia
theorem zh0 (hj:j<k)(f:Nat->Int)(v:Int):sumR k (fun i=>if i=j then v else f i)=sumR k f-f j+v:=by
 have h1:=zh1 hj (f:=fun i=>if i=j then v else f i) (g:=f) fun i _ ne=>by rw[if_neg ne];exact Int.le_refl _
 have h2:=zh1 hj (g:=fun i=>if i=j then v else f i) (f:=f) fun i _ ne=>by rw[if_neg ne];exact Int.le_refl _
 simp only[if_true]at h1 h2
 lia
theorem range_le {lo hi:Nat->Int}{T:Int}(r:Room' k lo hi T)(hj:j<k):rl k lo hi T j<=rh k lo hi T j:=by
 have h:=in_range (lo:=lo) (hi:=hi) (h:=hd lo hi k T) (fun i hi'=>hd_in r hi') (zpn r) hj
 exact Int.le_trans h.1 h.2
theorem ziZ (k5:k<=5)(lo hi:Nat->Int)(T:Int):Ok (zbP [.lst (zcj k lo hi),.int T]) fun x=>x= .own (zcj k (rl k lo hi T) (rh k lo hi T)):=by
 simp! only[↓zbP,↓zem,↓zeD,zcj]
 refine⟨by lia,zaD (fun ρ=>∃s s',ρ=[s,s']) (fun j=> .int (lo j)) ⟨_,_,rfl⟩ ?_ ?_⟩
 ·rintro j _ hj ⟨s,s',rfl⟩
  simp! only[↓zeX]
  exact⟨_,_,rfl⟩
 rintro _ ⟨_,_,rfl⟩
 simp! only[zbv,zbb,↓zeT]
 refine⟨by lia,zaD (fun ρ=>∃s s',ρ=[s,s']) (fun j=> .int (hi j)) ⟨_,_,rfl⟩ ?_ ?_⟩
 ·rintro j _ hj ⟨s,s',rfl⟩
  simp! only[↓zeO]
  exact⟨_,_,rfl⟩
 rintro _ ⟨_,_,rfl⟩
 simp! only[zbv,zbb,↓zey]
 refine⟨by lia,zaD (fun ρ=>∃s s',ρ=[.val (.int (sumR k hi-T)),.val (.int (T-sumR k lo)),s,s']) (fun j=> .tup [.int (rl k lo hi T j),.int (rh k lo hi T j)]) ⟨_,_,rfl⟩ ?_ ?_⟩
 ·rintro j _ hj ⟨s,s',rfl⟩
  simp! only[↓zeP]
  exact⟨rfl,_,_,rfl⟩
 rintro _ ⟨_,_,rfl⟩
 simp! only[]
section
variable {k s n:Nat} {S L G lo hi:Nat->Int}
theorem zja (d:Dim k s n)(sp:zej k n S L G lo hi)(r:Room' k lo hi (S 0)):Ok (zaP [zaC k s n S L G]) fun x=>x= .own (zcj k lo hi):=by
 simp! only[↓zaP,↓zc1]
 refine(zju d sp).mono ?_
 rintro _ (⟨_,rfl⟩|⟨nr,_⟩)
 ·simp! only[↓zdt]
  refine(zjM d sp).mono ?_
  rintro _ rfl
  simp! only[]
 ·exact absurd r nr
theorem sure_ok (d:Dim k s n)(sp:zej k n S L G lo hi)(r:Room' k lo hi (S 0)):Ok (zcu [zaC k s n S L G]) fun x=>x= .own (wL k fun j=> .bl (decide (rl k lo hi (S 0) j=rh k lo hi (S 0) j))):=by
 have k5:=d.k5
 have s1:0<s:=by have:=d.s;have:=d.kn;lia
 simp! only[↓zcu,↓zfn,↓zfb]
 refine(zja d sp r).mono ?_
 rintro _ rfl
 simp! only[zaC,zat _ s1]
 refine(ziZ k5 lo hi (S 0)).mono ?_
 rintro _ rfl
 simp! only[zcj]
 refine⟨by lia,zaD (fun ρ=>∃s s',ρ=[s,s']) (fun j=> .bl (decide (rl k lo hi (S 0) j=rh k lo hi (S 0) j))) ⟨_,_,rfl⟩ ?_ ?_⟩
 ·rintro j _ hj ⟨s,s',rfl⟩
  simp! only[↓zfk]
  refine⟨?_,_,_,rfl⟩
  congr 2
 rintro _ ⟨_,_,rfl⟩
 simp! only[]
def zl3 (k:Nat)(p:Nat->Prop)[DecidablePred p]:List D:=(List.range k).filterMap fun j=>if p j then some (.int (j:Nat))else none
theorem free_ok (d:Dim k s n)(sp:zej k n S L G lo hi)(r:Room' k lo hi (S 0)):Ok (zcA [zaC k s n S L G]) fun x=>x= .own (zl3 k fun j=>rl k lo hi (S 0) j<rh k lo hi (S 0) j):=by
 have k5:=d.k5
 simp! only[↓zcA,↓zfd,↓zfg]
 refine(sure_ok d sp r).mono ?_
 rintro _ rfl
 simp! only[zlN]
 refine⟨by lia,zhf (fun ρ=>∃s s',ρ=[s,s']) (fun j=>if rl k lo hi (S 0) j<rh k lo hi (S 0) j then some (.int (j:Nat))else none) ⟨_,_,rfl⟩ ?_ ?_⟩
 ·rintro j _ hj ⟨s,s',rfl⟩
  have le:=range_le r hj
  simp! only[↓zfM,↓zfw]
  refine⟨fun h=>?_,fun h=>?_⟩
  ·have h:¬rl k lo hi (S 0) j=rh k lo hi (S 0) j:=by simpa using h
   rw[if_pos (by lia)];exact⟨rfl,_,_,rfl⟩
  ·have h:rl k lo hi (S 0) j=rh k lo hi (S 0) j:=by simpa using h
   rw[if_neg (by lia)];exact⟨rfl,_,_,rfl⟩
 rintro _ ⟨_,_,rfl⟩
 simp! only[]
 rfl
theorem ziJ (d:Dim k s n)(sp:zej k n S L G lo hi):Ok (zaQ [zaC k s n S L G]) fun x=>∃b,(b=true↔Room' k lo hi (S 0))/\x= .val (.bl b):=by
 have k5:=d.k5
 have s1:0<s:=by have:=d.s;have:=d.kn;lia
 simp! only[↓zaQ,↓zcZ]
 refine(zhL d sp).mono ?_
 rintro _ rfl
 simp! only[↓zdm,zcj]
 refine⟨by lia,zaD (fun ρ=>∃s s',ρ=[s,s']) (fun j=> .bl (decide (lo j<=hi j))) ⟨_,_,rfl⟩ ?_ ?_⟩
 ·rintro j _ hj ⟨s,s',rfl⟩
  simp! only[↓zdk]
  exact⟨_,_,rfl⟩
 rintro _ ⟨_,_,rfl⟩
 have all:((List.range k).map fun j=>decide (lo j<=hi j)).all id=true↔∀j,j<k->lo j<=hi j:=by simp
 have bl:zcH (wL k fun j=> .bl (decide (lo j<=hi j)))=some ((List.range k).map fun j=>decide (lo j<=hi j)):=zih _ _
 simp! only[bl]
 refine⟨fun h=>?_,fun h=>?_⟩
 ·refine⟨false,?_,rfl⟩
  constructor
  ·intro z;cases z
  ·intro r;exact absurd (all.mpr r.le) (by simpa using h)
 ·have le:=all.mp (by simpa using h)
  simp! only[↓zde,↓zdw]
  refine⟨by lia,zaD (fun ρ=>∃s s',ρ=[s,s']) (fun j=> .int (lo j)) ⟨_,_,rfl⟩ ?_ ?_⟩
  ·rintro j _ hj ⟨s,s',rfl⟩
   simp! only[↓zdx]
   exact⟨_,_,rfl⟩
  rintro _ ⟨_,_,rfl⟩
  simp! only[zaC,zat _ s1,zbv,zbb]
  refine⟨fun h1=>?_,fun h1=>?_⟩
  ·simp! only[↓zdj]
   refine⟨by lia,zaD (fun ρ=>∃s s',ρ=[s,s']) (fun j=> .int (hi j)) ⟨_,_,rfl⟩ ?_ ?_⟩
   ·rintro j _ hj ⟨s,s',rfl⟩
    simp! only[↓zdd]
    exact⟨_,_,rfl⟩
   rintro _ ⟨_,_,rfl⟩
   simp! only[zbv,zbb]
   refine⟨decide (S 0<=sumR k hi),?_,rfl⟩
   rw[decide_eq_true_eq]
   exact⟨fun z=>⟨le,h1,z⟩,fun r=>r.high⟩
  ·refine⟨false,?_,rfl⟩
   constructor
   ·intro z;cases z
   ·intro r;have:=r.low;lia
theorem ends_ok (d:Dim k s n)(sp:zej k n S L G lo hi):Ok (zc9 [zaC k s n S L G]) fun x=>x= .own (zcj k (rl k lo hi (S 0)) (rh k lo hi (S 0))):=by
 have k5:=d.k5
 have s1:0<s:=by have:=d.s;have:=d.kn;lia
 simp! only[↓zc9,↓zgA]
 refine(zhL d sp).mono ?_
 rintro _ rfl
 simp! only[↓zgc,zcj]
 refine⟨by lia,zaD (fun ρ=>∃s s',ρ=[s,s']) (fun j=> .int (lo j)) ⟨_,_,rfl⟩ ?_ ?_⟩
 ·rintro j _ hj ⟨s,s',rfl⟩
  simp! only[↓zf4]
  exact⟨_,_,rfl⟩
 rintro _ ⟨_,_,rfl⟩
 simp! only[zbv,zbb,↓zgf]
 refine⟨by lia,zaD (fun ρ=>∃s s',ρ=[s,s']) (fun j=> .int (hi j)) ⟨_,_,rfl⟩ ?_ ?_⟩
 ·rintro j _ hj ⟨s,s',rfl⟩
  simp! only[↓zge]
  exact⟨_,_,rfl⟩
 rintro _ ⟨_,_,rfl⟩
 simp! only[zbv,zbb,zaC,zat _ s1,↓zgu]
 refine⟨by lia,zaD (fun ρ=>∃s s',ρ=[.val (.int (S 0)),.val (.int (sumR k hi)),.val (.int (sumR k lo)),s,s']) (fun j=> .tup [.int (rl k lo hi (S 0) j),.int (rh k lo hi (S 0) j)]) ⟨_,_,rfl⟩ ?_ ?_⟩
 ·rintro j _ hj ⟨s,s',rfl⟩
  simp! only[↓zgj]
  refine⟨?_,_,_,rfl⟩
  unfold rl rh
  rw[show S 0-sumR k hi+hi j=hi j-(sumR k hi-S 0) by lia,show S 0-sumR k lo+lo j=lo j+(S 0-sumR k lo) by lia]
 rintro _ ⟨_,_,rfl⟩
 simp! only[]
theorem zj9:(["int","bool","tuple","list","str"]:List String).contains "tuple"=true:=by decide
theorem whole_ok (i:Int):Ok (zdv [.int i]) fun x=>x= .val (.bl true):=by
 exact⟨_,rfl,rfl⟩
theorem zh8 (d:Dim k s n)(sp:zej k n S L G lo hi):Ok (zbx [zaC k s n S L G]) fun x=>x= .own (zl3 k fun j=>rl k lo hi (S 0) j<rh k lo hi (S 0) j):=by
 have k5:=d.k5
 simp! only[↓zbx,↓zgG]
 refine(ends_ok d sp).mono ?_
 rintro _ rfl
 simp! only[↓zf7,zaC,zcj]
 refine⟨zaw (by lia) (by lia),by lia,zhf (fun ρ=>∃s',ρ=[.val (.lst (zcj k (rl k lo hi (S 0)) (rh k lo hi (S 0)))),s']) (fun j=>if rl k lo hi (S 0) j<rh k lo hi (S 0) j then some (.int (j:Nat))else none) ⟨_,rfl⟩ ?_ ?_⟩
 ·rintro j _ hj ⟨s',rfl⟩
  simp! only[↓zgm,↓zgi,zcj,zat _ hj]
  refine⟨fun h=>?_,fun h=>?_⟩
  ·rw[if_pos h];exact⟨rfl,_,rfl⟩
  ·rw[if_neg (by lia)];exact⟨rfl,_,rfl⟩
 rintro _ ⟨_,rfl⟩
 simp! only[]
 rfl
theorem put_wD (f:Nat->D)(x:D)(h:i<n):(wL n f).take i++[x]++(wL n f).drop (i+1)=wL n fun j=>if j=i then x else f j:=by
 apply List.ext_getElem?
 intro j
 by_cases hj:j<i
 ·rw[List.append_assoc,List.getElem?_append_left (by rw[List.length_take,zaI];lia),List.getElem?_take_of_lt hj,zat _ (by lia),zat _ (by lia),if_neg (by lia)]
 ·rw[List.append_assoc,List.getElem?_append_right (by rw[List.length_take,zaI];lia),List.length_take,zaI,Nat.min_eq_left (by lia)]
  by_cases e:j=i
  ·subst e;rw[Nat.sub_self,zat _ h];simp
  ·obtain⟨q,eq⟩:∃q,j-i=q+1:=⟨j-i-1,by lia⟩
   rw[eq]
   show((wL n f).drop (i+1))[q]? =_
   rw[List.getElem?_drop]
   by_cases hn:j<n
   ·rw[show i+1+q=j by lia,zat _ hn,zat _ hn,if_neg e]
   ·rw[List.getElem?_eq_none (by rw[zaI];lia),List.getElem?_eq_none (by rw[zaI];lia)]
end
theorem zkt (n k:Nat)(r:Nat->Int)(hk:k<=n)(hn:n<=1000):Ok (za9 [.tup (wI n r),.int k]) fun x=>x= .val (.tup (wI (n+1-k) (win k r))):=by
 have hl:((n:Int)-(k:Int)+1).toNat=n+1-k:=by lia
 simp! only[↓za9,↓zef,↓zdQ,hl]
 refine⟨zaw (by lia) (by lia),by lia,zaD (fun ρ=>∃s,ρ=[.val (.tup (wI n r)),.val (.int k),s]) (fun i=> .int (win k r i)) ⟨_,rfl⟩ ?_ ?_⟩
 ·rintro i _ hi ⟨s,rfl⟩
  have hc:=cut_w (n:=n) (a:=i) (b:=k) (fun j=> .int (r j)) (by lia)
  simp! only[↓zdJ,hc,zbv,zbb]
  exact⟨rfl,_,rfl⟩
 ·rintro _ ⟨s,rfl⟩
  simp! only[]
section
variable {k s n:Nat} {S L G lo hi:Nat->Int}
theorem zg7 (hn:n<=1000)(r:Nat->Int):Ok (zaY [.tup (wI n r)]) fun x=>x= .val (.bl true):=by
 simp! only[↓zaY,↓zd6,↓zeK,zj9]
 refine⟨by lia,zaD (fun ρ=>∃z,ρ=[z]) (fun _=> .bl true) ⟨_,rfl⟩ ?_ ?_⟩
 ·rintro j _ _ ⟨z,rfl⟩
  simp! only[↓zeF]
  refine(whole_ok _).mono ?_
  rintro _ rfl
  simp! only[]
  exact⟨_,rfl⟩
 ·rintro _ ⟨z,rfl⟩
  have al:((List.range n).map fun _=>true).all id=true:=by simp
  simp! only[zih n fun _=>true,al]
theorem zkV (d:Dim k s n)(f:Fits k s n S L G r):Ok (zbo [zaC k s n S L G,.tup (wI n r)]) fun x=>x= .val (.bl true):=by
 have n24:=d.n24
 have ds:=d.s
 have eq:dEq (.tup (wI s S)) (.tup (wI s S))=some (.bl true):=(show Pl 1 (.tup (wI s S))from zh9 (pl_w fun c=>zfs 0 _)).eq (by decide)
 simp! only[↓zbo,↓zec,zaC,↓zeQ,↓ze2]
 refine⟨zaw (by lia) (by lia),by lia,zaD (fun ρ=>∃z,ρ=[.val (.tup (wI n L)),.val (.tup (wI n r)),.val (.tup (wI n G)),z]) (fun p=> .bl true) ⟨_,rfl⟩ ?_ ?_⟩
 ·rintro p _ hp ⟨z,rfl⟩
  have h1:=f.low p hp
  have h2:=f.high p hp
  simp! only[↓zes,zat _ hp]
  exact⟨fun _=>⟨by rw[decide_eq_true h2],_,rfl⟩,fun z=>absurd h1 (by lia)⟩
 ·rintro _ ⟨z,rfl⟩
  have al:((List.range n).map fun _=>true).all id=true:=by simp
  simp! only[zih n fun _=>true,al,↓zeH]
  refine(zkt n k r d.kn (by lia)).mono ?_
  rintro _ rfl
  have e:wI (n+1-k) (win k r)=wI s S:=by
   rw[show n+1-k=s by lia]
   exact zdu fun i hi=>by rw[f.sum i hi]
  simp! only[e,eq]
end
def exch (many g t:Nat)(r:Nat->Int)(p:Nat):Int:=r p+if p%many=t then 1 else if p%many=g then-1 else 0
theorem zk6 {n many g t:Nat}(hn:n<=1000)(hm:many<=1000)(hg:g<many)(ht:t<many):
  Ok (zbj [.tup (wI n r),.int many,.int g,.int t]) fun x=>x= .val (.tup (wI n (exch many g t r))):=by
 simp! only[↓zbj,↓zcY,rep_w,hg,ht]
 rw[show(wL many fun _=>D.int 0)=wI many fun _=>0 from rfl,znK _ _ hg,znK _ _ ht]
 refine⟨⟨zaw (by lia) (by lia),by lia⟩,?_⟩
 simp! only[↓zdl,zlN]
 refine⟨ht,by lia,znG (fun i acc ρ=>acc=wI i (exch many g t r)/\∃s s',ρ=[.par (wI many fun j=>if j=t then(1:Int)else if j=g then-1 else 0),.val (.int many),s,s']) ⟨rfl,_,_,rfl⟩ ?_ ?_⟩
 ·rintro p _ _ hp ⟨rfl,s,s',rfl⟩
  have e:(p:Int)%(many:Int)=((p%many:Nat):Int):=by push_cast;rfl
  simp! only[↓zdq,e,zat _ (Nat.mod_lt p (show 0<many by lia))]
  exact⟨by lia,by rw[show wI (p+1) (exch many g t r)=_ from zgy _ _];rfl,_,_,rfl⟩
 ·rintro _ _ ⟨rfl,s,s',rfl⟩
  simp! only[]
section
variable {k s n:Nat} {S L G lo hi:Nat->Int}
def loB (lo:Nat->Int)(b:Nat)(i:Nat):Int:=if i=b then lo i+1 else lo i
def hiA (hi:Nat->Int)(a:Nat)(i:Nat):Int:=if i=a then hi i-1 else hi i
def hAB (k:Nat)(lo hi:Nat->Int)(T:Int)(a b:Nat):Nat->Int:=hd (loB lo b) (hiA hi a) k T
def rowA (k:Nat)(S lo hi:Nat->Int)(a b:Nat)(p:Nat):Int:=hAB k lo hi (S 0) a b (p%k)+mo k S p
def h2 (k:Nat)(S lo hi:Nat->Int)(a b:Nat)(j:Nat):Int:=if j=a then hAB k lo hi (S 0) a b a+1 else if j=b then hAB k lo hi (S 0) a b b-1 else hAB k lo hi (S 0) a b j
theorem room_AB (r:Room' k lo hi (S 0))(ha:a<k)(hb:b<k)(ne:a≠b)(fa:rl k lo hi (S 0) a<rh k lo hi (S 0) a)(fb:rl k lo hi (S 0) b<rh k lo hi (S 0) b):Room' k (loB lo b) (hiA hi a) (S 0):=by
 have a1:=zio (lo a) (hi a-(sumR k hi-S 0))
 have a2:=zlm (hi a) (lo a+(S 0-sumR k lo))
 have b1:=zio (lo b) (hi b-(sumR k hi-S 0))
 have b2:=zlm (hi b) (lo b+(S 0-sumR k lo))
 unfold rl rh at fa fb
 have el:loB lo b=fun i=>if i=b then lo b+1 else lo i:=funext fun i=>by unfold loB;split<;>simp_all
 have eh:hiA hi a=fun i=>if i=a then hi a-1 else hi i:=funext fun i=>by unfold hiA;split<;>simp_all
 refine⟨fun i hi'=>?_,?_,?_⟩
 ·have:=r.le i hi'
  unfold loB hiA
  by_cases e1:i=a
  ·subst e1;rw[if_neg ne,if_pos rfl];lia
  ·by_cases e2:i=b
   ·subst e2;rw[if_pos rfl,if_neg e1];lia
   ·rw[if_neg e2,if_neg e1];exact this
 ·rw[el,zh0 hb];lia
 ·rw[eh,zh0 ha];lia
theorem zoo (d:Dim k s n)(sp:zej k n S L G lo hi)(r:Room' k lo hi (S 0))(ha:a<k)(hb:b<k)(ne:a≠b)(fa:rl k lo hi (S 0) a<rh k lo hi (S 0) a)(fb:rl k lo hi (S 0) b<rh k lo hi (S 0) b):
  Fits k s n S L G (rowA k S lo hi a b)/\Fits k s n S L G (exch k b a (rowA k S lo hi a b)):=by
 have rm:=room_AB (S:=S) r ha hb ne fa fb
 have hin:∀j,j<k->loB lo b j<=hAB k lo hi (S 0) a b j/\hAB k lo hi (S 0) a b j<=hiA hi a j:=fun j hj=>hd_in rm hj
 have hs:sumR k (hAB k lo hi (S 0) a b)=S 0:=zpn rm
 refine⟨zl5 d sp (fun j hj=>?_) hs,?_⟩
 ·have:=hin j hj
  unfold loB hiA at this
  by_cases e1:j=a
  ·by_cases e2:j=b
   ·lia
   ·rw[if_neg e2,if_pos e1]at this;lia
  ·by_cases e2:j=b
   ·rw[if_pos e2,if_neg e1]at this;lia
   ·rw[if_neg e2,if_neg e1]at this;exact this
 ·have e:exch k b a (rowA k S lo hi a b)=fun p=>(h2 k S lo hi a b) (p%k)+mo k S p:=funext fun p=>by
   unfold h2
   show exch k b a (rowA k S lo hi a b) p=(fun j=>if j=a then hAB k lo hi (S 0) a b a+1 else if j=b then hAB k lo hi (S 0) a b b-1 else hAB k lo hi (S 0) a b j) (p%k)+mo k S p
   unfold exch rowA
   by_cases e1:p%k=a
   ·simp only[e1,if_true];lia
   ·by_cases e2:p%k=b
    ·rw[if_neg e1,if_pos e2];simp only[if_neg e1,if_pos e2];rw[e2];lia
    ·rw[if_neg e1,if_neg e2];simp only[if_neg e1,if_neg e2];lia
  rw[e]
  refine zl5 d sp (h:=h2 k S lo hi a b) (fun j hj=>?_) ?_
  ·have:=hin j hj
   unfold loB hiA at this
   unfold h2
   by_cases e1:j=a
   ·subst e1;rw[if_neg ne,if_pos rfl]at this;simp only[if_true];lia
   ·by_cases e2:j=b
    ·subst e2;rw[if_pos rfl,if_neg e1]at this;simp only[if_neg e1,if_true];lia
    ·rw[if_neg e2,if_neg e1]at this;simp only[if_neg e2,if_neg e1];exact this
  ·unfold h2
   rw[zh0 ha (fun j=>if j=b then hAB k lo hi (S 0) a b b-1 else hAB k lo hi (S 0) a b j),zh0 hb,if_neg ne,hs];lia
theorem set_wD (f:Nat->D)(x:D)(h:i<n):(wL n f).set i x=wL n fun j=>if j=i then x else f j:=by
 rw[<-put_wD f x h,List.set_eq_take_append_cons_drop,if_pos (by rw[zaI];exact h)]
 simp
theorem two_ok (d:Dim k s n)(sp:zej k n S L G lo hi)(r:Room' k lo hi (S 0))(ha:a<k)(hb:b<k)(ne:a≠b):
  Ok (zd2 [zaC k s n S L G,.int a,.int b]) fun x=>x= .val (.tup [.tup (wI n (rowA k S lo hi a b)),.tup (wI n (exch k b a (rowA k S lo hi a b)))]):=by
 have k5:=d.k5
 have n24:=d.n24
 have s1:0<s:=by have:=d.s;have:=d.kn;lia
 simp! only[↓zd2,↓zhv]
 refine(zja d sp r).mono ?_
 rintro _ rfl
 have e:(wL k fun j=>if j=b then D.tup [.int (lo b+1),.int (hi b)]else if j=a then .tup [.int (lo a),.int (hi a-1)]else .tup [.int (lo j),.int (hi j)])=zcj k (loB lo b) (hiA hi a):=zdu fun j hj=>by
  unfold loB hiA
  by_cases e1:j=b
  ·subst e1;simp only[if_true,if_neg (Ne.symm ne)]
  ·by_cases e2:j=a
   ·subst e2;simp only[if_neg e1,if_true]
   ·simp only[if_neg e1,if_neg e2]
 simp! only[zcj,zat _ ha,ha,set_wD _ _ ha,zat _ hb,hb,if_neg (Ne.symm ne),set_wD _ _ hb,zaC,zat _ s1]
 simp! only[e]
 refine(zi1 _ _ (S 0) (by lia)).mono ?_
 rintro _ rfl
 simp! only[]
 refine(znJ d S L G _).mono ?_
 rintro _ rfl
 simp! only[]
 refine(zk6 (n:=n) (many:=k) (g:=b) (t:=a) (by lia) (by lia) hb ha).mono ?_
 rintro _ rfl
 simp! only[]
 rfl
end
def nI (x:Nat):D:= .int x
def Flr (k:Nat)(lo hi:Nat->Int)(T:Int):List Nat:=(List.range k).filter fun j=>decide (rl k lo hi T j<rh k lo hi T j)
theorem ziG (k:Nat)(p:Nat->Prop)[DecidablePred p]:zl3 k p=((List.range k).filter fun j=>decide (p j)).map nI:=by
 unfold zl3
 induction List.range k with
 |nil=>rfl
 |cons a l ih=>
  by_cases h:p a
  ·rw[List.filterMap_cons,if_pos h,List.filter_cons,if_pos (decide_eq_true h),List.map_cons,<-ih];rfl
  ·rw[List.filterMap_cons,if_neg h,List.filter_cons,if_neg (by simpa using h),<-ih]
theorem zg2 {T:Int}(h:j∈Flr k lo hi T):j<k/\rl k lo hi T j<rh k lo hi T j:=by
 unfold Flr at h
 rw[List.mem_filter]at h
 exact⟨List.mem_range.mp h.1,of_decide_eq_true h.2⟩
theorem Fl_up (k:Nat)(lo hi:Nat->Int)(T:Int):(Flr k lo hi T).Pairwise (· < ·):=List.Pairwise.filter _ (List.pairwise_lt_range)
theorem zkz (k:Nat)(lo hi:Nat->Int)(T:Int):(Flr k lo hi T).length<=k:=Nat.le_trans (List.length_filter_le _ _) (by rw[List.length_range];exact Nat.le_refl _)
def prT (F:List Nat)(i:Nat):List (Nat×Nat):=((List.range i).map fun a=>(F.drop (a+1)).map fun b=>(F.getD a 0,b)).flatten
def pD (x:Nat×Nat):D:= .tup [.int x.1,.int x.2]
theorem zmi (F:List Nat)(i:Nat):prT F (i+1)=prT F i++(F.drop (i+1)).map fun b=>(F.getD i 0,b):=by
 unfold prT
 rw[List.range_succ,List.map_append,List.flatten_append]
 simp
theorem zpm (up:F.Pairwise (· < ·))(hi:i<=F.length)(h:x∈prT F i):x.1∈F/\x.2∈F/\x.1<x.2:=by
  unfold prT at h
  rw[List.mem_flatten]at h
  obtain⟨l,hl,hx⟩:=h
  rw[List.mem_map]at hl
  obtain⟨a,ha,rfl⟩:=hl
  rw[List.mem_map]at hx
  obtain⟨b,hb,rfl⟩:=hx
  have la:a<F.length:=by have:=List.mem_range.mp ha;lia
  have ea:F.getD a 0=F[a]:=by simp[List.getD,la]
  rw[ea]
  refine⟨List.getElem_mem la,List.mem_of_mem_drop hb,?_⟩
  obtain⟨m,hm,rfl⟩:=List.getElem_of_mem hb
  rw[List.getElem_drop]
  exact List.pairwise_iff_getElem.mp up a (a+1+m) la (by rw[List.length_drop]at hm;lia) (by lia)
theorem zlu (F:List Nat)(i:Nat):(prT F i).length<=i*F.length:=by
 induction i with
 |zero=>simp[prT]
 |succ i ih=>
  rw[zmi,List.length_append,List.length_map,List.length_drop,Nat.succ_mul]
  lia
theorem pairs_ok (F:List Nat)(f5:F.length<=5):Ok (zcF [.lst (F.map nI)]) fun x=>x= .own ((prT F F.length).map pD):=by
 simp! only[↓zcF,↓ze8,↓zff]
 refine⟨zaw (by lia) (by lia),zdH (fun i ρ=>∃s2 s3,ρ=[.val (.lst (F.map nI)),.own ((prT F i).map pD),s2,s3]) ⟨_,_,rfl⟩ ?_ ?_⟩
 ·rintro i _ hi ⟨s2,s3,rfl⟩
  have ei:((i:Int)+1)=((i+1:Nat):Int):=by lia
  have eg:(F.map nI)[i]? =some (.int ((F.getD i 0:Nat):Int)):=by
   rw[List.getElem?_map,List.getElem?_eq_getElem hi];simp[nI,List.getD,hi]
  simp! only[↓ze9,↓zfe,ei,zhe,<-List.map_drop]
  refine zml (enc:=nI) (l:=F.drop (i+1)) (fun j ρ=>∃s3,ρ=[.val (.lst (F.map nI)),.own ((prT F i++((F.drop (i+1)).take j).map fun b=>(F.getD i 0,b)).map pD),.val (.int i),s3]) ⟨s3,by simp⟩ ?_ ?_
  ·rintro j b _ hj ⟨s3,rfl⟩
   have pl:(prT F i).length<=25:=Nat.le_trans (zlu F i) (Nat.le_trans (Nat.mul_le_mul (show i<=5 by lia) f5) (by decide))
   simp! only[↓zfS,nI,eg]
   refine⟨by rw[List.length_take,List.length_drop];lia,.val (.int b),?_⟩
   rw[List.take_add_one,hj]
   simp[pD]
  ·rintro _ ⟨s3,rfl⟩
   rw[List.take_length,<-zmi]
   exact⟨_,_,rfl⟩
 ·rintro _ ⟨s2,s3,rfl⟩
  simp! only[]
def cpl (n k:Nat)(c:Nat->Int)(j:Nat):Nat:=match zfA [.lst (zaJ (wI n c) (some (j:Int)) none (some (k:Int)))]with
 |some v=>match ziH (.lst (zaJ (wI n c) (some (j:Int)) none (some (k:Int)))) v with
  |some (.int i)=>j+i.toNat*k
  |_=>0
 |_=>0
theorem zmo {n k j:Nat}(c:Nat->Int)(hk:0<k)(hj:j<k)(kn:k<=n):∃(v:Int) (i:Nat),zfA [.lst (zaJ (wI n c) (some (j:Int)) none (some (k:Int)))]=some (.int v)/\ziH (.lst (zaJ (wI n c) (some (j:Int)) none (some (k:Int)))) (.int v)=some (.int i)/\cpl n k c j=j+i*k/\j+i*k<n/\c (j+i*k)=v/\∀p,p<n->p%k=j->v<=c p:=by
 obtain⟨v,e1,e2,e3⟩:=zme c hk hj kn
 obtain⟨i,f1,f2,f3⟩:=zjo c hk hj e2
 refine⟨v,i,e1,f1,?_,f2,f3,e3⟩
 unfold cpl
 rw[e1]
 dsimp only
 rw[f1]
 simp
def ze5 (key:Nat->Int)(p:List Nat):List Nat:=(srt p.length (HT.zcd (p.map fun x=>[key x]))).map fun i=>p.getD i 0
theorem zcT (key:Nat->Int)(p:List Nat):(ze5 key p).Perm p:=by
 have pm:=zdg (n:=p.length) (HT.zfF (p.map fun x=>[key x]))
 have e:(List.range p.length).map (fun i=>p.getD i 0)=p:=by
  apply List.ext_getElem?
  intro i
  by_cases hi:i<p.length
  ·simp[hi]
  ·simp[hi]
 have:=pm.map fun i=>p.getD i 0
 rw[e]at this
 exact this
theorem zms (key:Nat->Int)(p:List Nat):(ze5 key p).Pairwise fun a b=>key a<=key b:=by
 have o:=HT.zfF (p.map fun x=>[key x])
 have pm:=zdg (n:=p.length) o
 unfold ze5
 rw[List.pairwise_iff_getElem]
 intro i j hi hj hij
 rw[List.length_map]at hi hj
 have up:=srt_up o (Nat.le_of_lt hij) (List.getElem?_eq_getElem hi) (List.getElem?_eq_getElem hj)
 have ra:=List.mem_range.mp (pm.mem_iff.mp (List.getElem_mem hi))
 have rb:=List.mem_range.mp (pm.mem_iff.mp (List.getElem_mem hj))
 simp only[List.getElem_map]
 generalize (srt p.length (HT.zcd (p.map fun x=>[key x])))[i]=a at up ra ⊢
 generalize (srt p.length (HT.zcd (p.map fun x=>[key x])))[j]=b at up rb ⊢
 unfold HT.zcd at up
 simp only[List.getD,List.getElem?_map,List.getElem?_eq_getElem ra,List.getElem?_eq_getElem rb,Option.map_some,Option.getD_some]at up ⊢
 change (if key p[b]=key p[a]then _ else decide (key p[b]<key p[a]))=false at up
 by_cases h:key p[b]=key p[a]
 ·lia
 ·rw[if_neg h,decide_eq_false_iff_not]at up
  lia
theorem zog (key:Nat->Int)(p:List Nat):(srt p.length (HT.zcd (p.map fun x=>[key x]))).map (fun i=>(p.map nI).getD i .non)=(ze5 key p).map nI:=by
 have pm:=zdg (n:=p.length) (HT.zfF (p.map fun x=>[key x]))
 unfold ze5
 rw[List.map_map]
 apply List.map_congr_left
 intro i hi
 have:=List.mem_range.mp (pm.mem_iff.mp hi)
 simp[this]
theorem zpf:∀p:List Nat,zaG (p.map nI)=some (p.map fun(x:Nat)=>(x:Int)):=fun p=>by
 have:p.map nI=(p.map fun(x:Nat)=>(x:Int)).map D.int:=by rw[List.map_map];rfl
 rw[this,zby]
theorem srtK_nI (key:Nat->Int)(p:List Nat):zpA (p.map key) (p.map nI)=(ze5 key p).map nI:=by
 unfold zpA
 rw[List.length_map,<-zog]
 unfold HT.ltK
 rw[List.map_map]
 rfl
theorem srt_nI (p:List Nat)(h:p.length<64):dSrt [.lst (p.map nI)]=some ((ze5 (fun(x:Nat)=>(x:Int)) p).map nI):=by
 unfold dSrt
 show(if(p.map nI).length<64 then Option.map (fun nss=>srtD nss (p.map nI)) (znh (p.map nI))else none)=_
 have ky:znh (p.map nI)=some (p.map fun(x:Nat)=>[(x:Int)]):=by
  unfold znh
  rw[zpf]
  show some _=_
  rw[List.map_map]
  rfl
 rw[List.length_map,if_pos h,ky]
 show some (srtD _ _)=_
 unfold srtD
 rw[List.length_map,zog]
def Cst (C:D)(n:Nat)(c:Nat->Int):Prop:=C= .lst (wI n c)\/C= .tup (wI n c)
theorem zoQ (h:Cst C n c):∀p:List Nat,(∀x∈p,x<n)->zhJ C (p.map nI)=some (p.map c)
 |[],_=>rfl
 |x::p,hp=>by
  have ih:=zoQ h p fun y hy=>hp y (List.mem_cons_of_mem _ hy)
  have hx:=hp x List.mem_cons_self
  have e:dIx C (nI x)=some (.int (c x)):=by
   rcases h with rfl|rfl
   ·simp! only[nI,zat _ hx]
   ·simp! only[nI,zat _ hx]
  show(match dIx C (nI x)with|some (.int k)=>(zhJ C (p.map nI)).map (k:: ·)|_=>none)=_
  rw[e]
  show(zhJ C (p.map nI)).map (c x:: ·)=_
  rw[ih]
  rfl
theorem place_ok (h:Cst C n c)(hk:2<=k)(hj:j<k)(kn:k<=n)(n24:n<=1000):Ok (zaV [C,.int k,.int j]) fun x=>x= .val (.int (cpl n k c j)):=by
 obtain⟨v,i,e1,e2,e3,e4,_,_⟩:=zmo c (by lia) hj kn
 have e2':zjJ (.lst (zaJ (wI n c) (some (j:Int)) none (some (k:Int)))) (.int v)=some (.int i):=e2
 have e1':zfA [.tup (zaJ (wI n c) (some (j:Int)) none (some (k:Int)))]=some (.int v):=e1
 have e2'':zjJ (.tup (zaJ (wI n c) (some (j:Int)) none (some (k:Int)))) (.int v)=some (.int i):=e2
 have hk0:¬(some (k:Int)=some 0):=by intro h;have:=Option.some.inj h;lia
 have ml:zni (k:Int) (i:Int)=true:=zdB (by lia)
 have fin:(j:Int)+(k:Int)*(i:Int)=((cpl n k c j:Nat):Int):=by rw[e3,Nat.mul_comm];push_cast;rfl
 have p1:zl9 (.lst (wI n c)) (some (j:Int)) none (some (k:Int))=some (.lst (zaJ (wI n c) (some (j:Int)) none (some (k:Int)))):=by
  show(if some (k:Int)=some 0 then none else some (D.lst (zaJ (wI n c) (some (j:Int)) none (some (k:Int)))))=_
  rw[if_neg hk0]
 have p2:zl9 (.tup (wI n c)) (some (j:Int)) none (some (k:Int))=some (.tup (zaJ (wI n c) (some (j:Int)) none (some (k:Int)))):=by
  show(if 0<=(j:Int)/\((j:Int)).toNat<=(wI n c).length/\2<=(k:Int)then some (D.tup (zaJ (wI n c) (some (j:Int)) none (some (k:Int))))else none)=_
  rw[if_pos (by rw[zaI];lia)]
 unfold zfA at e1 e1'
 rcases h with rfl|rfl
 ·simp! only[↓zaV,↓zbu,p1,e1,e2',fin]
  exact ml
 ·simp! only[↓zaV,↓zbu,p2,e1',e2'',fin]
  exact ml
def Lc (n k:Nat)(c:Nat->Int)(F:List Nat):List Nat:=F.map (cpl n k c)
def Tc (n k:Nat)(c:Nat->Int)(F:List Nat):List Nat:=ze5 (fun(x:Nat)=>(x:Int)) (ze5 c (Lc n k c F)).dropLast
theorem cut_last {α:Type}(xs:List α):cutD xs none (some (-1))=xs.dropLast:=by
 unfold cutD
 have:HT.sIx xs.length xs.length (some (-1))=xs.length-1:=by
  show(if(-1:Int)<0 then((-1:Int)+(xs.length:Int)).toNat else min (-1:Int).toNat xs.length)=xs.length-1
  rw[if_pos (by lia)]
  lia
 rw[this,HT.zkd,Nat.sub_zero,List.drop_zero,List.dropLast_eq_take]
theorem zpI (h:Cst C n c)(hk:2<=k)(k5:k<=5)(kn:k<=n)(n24:n<=1000)(hF:∀j∈F,j<k)(f5:F.length<=5):
  Ok (za1 [C,.int k,.lst (F.map nI)]) fun x=>x= .val (.tup ((Tc n k c F).map nI)):=by
 have cn:∀x∈Lc n k c F,x<n:=fun x hx=>by
  unfold Lc at hx
  rw[List.mem_map]at hx
  obtain⟨j,hj,rfl⟩:=hx
  obtain⟨v,i,_,_,e3,e4,_⟩:=zmo c (by lia) (hF j hj) kn
  lia
 simp! only[↓za1,↓zci,↓zcS]
 refine⟨by lia,zdI (enc:=nI) (fun ρ=>∃s,ρ=[.val C,.val (.int k),s]) (fun j=>nI (cpl n k c j)) ⟨_,rfl⟩ ?_ ?_⟩
 ·rintro j _ hj ⟨s,rfl⟩
  simp! only[↓zcN,nI]
  refine(place_ok h hk (hF j hj) kn n24).mono ?_
  rintro _ rfl
  simp! only[]
  exact⟨_,rfl⟩
 ·rintro _ ⟨s,rfl⟩
  have e:(F.map fun j=>nI (cpl n k c j))=(Lc n k c F).map nI:=by unfold Lc;rw[List.map_map];rfl
  rw[e]
  simp! only[zoQ h _ cn,srtK_nI,cut_last]
  have ll:(Lc n k c F).length<=5:=by unfold Lc;rw[List.length_map];exact f5
  have dl:(ze5 c (Lc n k c F)).dropLast.length<64:=by
   have:=(zcT c (Lc n k c F)).length_eq
   rw[List.length_dropLast]
   lia
  rw[<-List.map_dropLast]
  simp! only[srt_nI _ dl]
  exact⟨by lia,rfl⟩
section
variable {k s n:Nat} {S L G lo hi:Nat->Int}
def zkB (n k:Nat)(S lo hi:Nat->Int)(x:Nat×Nat):D:= .tup [.int x.1,.int x.2,.tup (wI n (rowA k S lo hi x.1 x.2)),.tup (wI n (exch k x.2 x.1 (rowA k S lo hi x.1 x.2)))]
def zgO (n k:Nat)(S lo hi:Nat->Int):List D:=(prT (Flr k lo hi (S 0)) (Flr k lo hi (S 0)).length).map (zkB n k S lo hi)
theorem zlc (d:Dim k s n)(sp:zej k n S L G lo hi)(r:Room' k lo hi (S 0))(h:Cst C n c):
  Ok (zbp [zaC k s n S L G,C]) fun x=>x= .tre (.tup [.d (.tup ((Tc n k c (Flr k lo hi (S 0))).map nI)),.l (zgO n k S lo hi)]):=by
 have k5:=d.k5
 have n24:=d.n24
 have kn:=d.kn
 have k2:=d.k2
 have f5:(Flr k lo hi (S 0)).length<=5:=Nat.le_trans (zkz k lo hi (S 0)) k5
 have lc:dLen [C]=some (.int n):=by
  rcases h with rfl|rfl
  ·simp only[dLen_l,zaI]
  ·simp only[zoF,zaI]
 have fF:zl3 k (fun j=>rl k lo hi (S 0) j<rh k lo hi (S 0) j)=(Flr k lo hi (S 0)).map nI:=ziG _ _
 simp! only[↓zbp,↓zeo,zaC,lc,↓zeI]
 refine(free_ok d sp r).mono ?_
 rintro _ rfl
 rw[fF]
 simp! only[↓zeC]
 refine(pairs_ok _ f5).mono ?_
 rintro _ rfl
 simp! only[]
 have pl:=zlu (Flr k lo hi (S 0)) (Flr k lo hi (S 0)).length
 have pl2:(Flr k lo hi (S 0)).length*(Flr k lo hi (S 0)).length<=5*5:=Nat.mul_le_mul f5 f5
 refine⟨by lia,zdI (enc:=pD) (fun ρ=>∃s1 s2,ρ=[.val (zaC k s n S L G),s1,s2]) (zkB n k S lo hi) ⟨_,_,rfl⟩ ?_ ?_⟩
 ·rintro⟨a,b⟩ _ hx ⟨s1,s2,rfl⟩
  obtain⟨ma,mb,ab⟩:=zpm (Fl_up k lo hi (S 0)) (Nat.le_refl _) hx
  simp! only[pD,↓zeL]
  refine(two_ok d sp r (zg2 ma).1 (zg2 mb).1 (Nat.ne_of_lt ab)).mono ?_
  rintro _ rfl
  simp! only[]
  exact⟨rfl,_,_,rfl⟩
 ·rintro _ ⟨s1,s2,rfl⟩
  simp! only[]
  refine(zpI h (by lia) k5 kn (by lia) (fun j hj=>(zg2 hj).1) f5).mono ?_
  rintro _ rfl
  simp! only[]
  rfl
end
theorem nI_w (x:List Nat):x.map nI=wI x.length fun i=>((x.getD i 0:Nat):Int):=by
 apply List.ext_getElem?
 intro i
 by_cases h:i<x.length
 ·rw[zat _ h,List.getElem?_map,List.getElem?_eq_getElem h]
  simp[nI,List.getD,h]
 ·rw[List.getElem?_eq_none (by rw[List.length_map];lia),List.getElem?_eq_none (by rw[zaI];lia)]
theorem zjt {α:Type}:∀l:List α,zcH (l.map fun _=> .bl true)=some (l.map fun _=>true)
 |[]=>rfl
 |_::l=>by
  show(zcH (l.map fun _=> .bl true)).map (true:: ·)=_
  rw[zjt l]
  rfl
theorem all_t {α:Type}(l:List α):(l.map fun _=>true).all id=true:=by simp
theorem best_max (h:ns≠[]):zd8 (fun i j=>decide (i>j)) ns∈ns/\∀x∈ns,x<=zd8 (fun i j=>decide (i>j)) ns:=by
 refine⟨ziw _ h,fun x hx=>?_⟩
 obtain⟨i,hi,rfl⟩:=List.getElem_of_mem hx
 have:=zdp (fun i=>ns.getD i 0) (ns.length-1) i (by lia)
 unfold zd8
 rw[show ns[i]=ns.getD i 0 by simp[List.getD,hi]]
 exact this
section
variable {n k:Nat} {c:Nat->Int} {F:List Nat}
theorem zoJ (hk:0<k)(kn:k<=n)(hj:j<k):cpl n k c j%k=j/\cpl n k c j<n:=by
 obtain⟨v,i,_,_,e3,e4,_⟩:=zmo c hk hj kn
 rw[e3,Nat.add_mul_mod_self_right,Nat.mod_eq_of_lt hj]
 exact⟨rfl,e4⟩
theorem Lc_mod (hk:0<k)(kn:k<=n)(hF:∀j∈F,j<k):(Lc n k c F).map (· %k)=F:=by
  unfold Lc
  rw[List.map_map]
  conv=>rhs;rw[<-List.map_id F]
  exact List.map_congr_left fun j hj=>(zoJ hk kn (hF j hj)).1
theorem Tc_perm:(Tc n k c F).Perm (ze5 c (Lc n k c F)).dropLast:=zcT _ _
theorem znM (hk:0<k)(kn:k<=n)(hF:∀j∈F,j<k)(nd:F.Nodup):((Tc n k c F).map (· %k)).Nodup:=by
  have h1:((ze5 c (Lc n k c F)).map (· %k)).Nodup:=by
    rw[((zcT c (Lc n k c F)).map (· %k)).nodup_iff,Lc_mod hk kn hF]
    exact nd
  rw[((Tc_perm (n:=n) (k:=k) (c:=c) (F:=F)).map (· %k)).nodup_iff]
  exact h1.sublist ((List.dropLast_sublist _).map _)
theorem Tc_up (hk:0<k)(kn:k<=n)(hF:∀j∈F,j<k)(nd:F.Nodup):((Tc n k c F).map fun(x:Nat)=>(x:Int)).Pairwise (· < ·):=by
  have h1:(Tc n k c F).Nodup:=(List.pairwise_map.mp (znM hk kn hF nd)).imp fun h e=>h (by rw[e])
  have h2:(Tc n k c F).Pairwise fun(a b:Nat)=>(a:Int)<=(b:Int):=zms _ _
  rw[List.pairwise_map]
  exact(h2.and h1).imp fun⟨h,h'⟩=>by lia
theorem Tc_mem {x:Nat}(h:x∈Tc n k c F):∃j∈F,x=cpl n k c j:=by
 have h1:=List.dropLast_sublist _|>.subset (Tc_perm.mem_iff.mp h)
 have h2:=(zcT c (Lc n k c F)).mem_iff.mp h1
 unfold Lc at h2
 obtain⟨j,hj,e⟩:=List.mem_map.mp h2
 exact⟨j,hj,e.symm⟩
theorem Tc_len:(Tc n k c F).length=F.length-1:=by
 rw[Tc_perm.length_eq,List.length_dropLast,(zcT c (Lc n k c F)).length_eq]
 unfold Lc
 rw[List.length_map]
theorem zmH {l m:List Int}(h:l.Perm m):l.sum=m.sum:=by
 induction h with
 |nil=>rfl
 |cons x _ ih=>simp[ih]
 |swap x y l=>simp;lia
 |trans _ _ a b=>exact a.trans b
def mx (ns:List Int):Int:=if ns.isEmpty then 0 else zd8 (fun i j=>decide (i>j)) ns
theorem Tc_sum:((Tc n k c F).map c).sum=((Lc n k c F).map c).sum-mx ((Lc n k c F).map c):=by
 have p1:=zcT c (Lc n k c F)
 have up:=zms c (Lc n k c F)
 rw[zmH (Tc_perm.map c),<-zmH (p1.map c)]
 by_cases h:ze5 c (Lc n k c F)=[]
 ·have:Lc n k c F=[]:=by rw[h]at p1;exact p1.nil_eq.symm ▸ rfl
  rw[h,this];rfl
 ·have hd:ze5 c (Lc n k c F)=(ze5 c (Lc n k c F)).dropLast++[(ze5 c (Lc n k c F)).getLast h]:=(List.dropLast_concat_getLast h).symm
  generalize (ze5 c (Lc n k c F)).dropLast=m at*
  generalize (ze5 c (Lc n k c F)).getLast h=z at*
  rw[hd]at up p1
  have ne:(Lc n k c F).map c≠[]:=by
   intro e
   have:=List.map_eq_nil_iff.mp e
   rw[this]at p1
   have:=p1.length_eq
   simp at this
  obtain⟨b1,b2⟩:=best_max ne
  have em:mx ((Lc n k c F).map c)=c z:=by
   have ee:((Lc n k c F).map c).isEmpty=false:=by
    cases hh:(Lc n k c F).map c with
    |nil=>exact absurd hh ne
    |cons=>rfl
   unfold mx
   rw[ee,if_neg (by decide)]
   obtain⟨y,hy,ey⟩:=List.mem_map.mp b1
   have h1:=b2 (c z) (List.mem_map_of_mem (p1.mem_iff.mp (by simp)))
   have h2:c y<=c z:=by
    have:=p1.mem_iff.mpr hy
    rw[List.mem_append,List.mem_singleton]at this
    rcases this with h|rfl
    ·exact(List.pairwise_append.mp up).2.2 y h z (by simp)
    ·exact Int.le_refl _
   lia
  rw[em,hd,List.map_append,List.sum_append]
  simp
end
def wn (F l:List Nat):List (Nat×Nat):=(l.map fun a=>(F.filter fun b=>decide (a<b)).map fun b=>(a,b)).flatten
theorem znI (up:F.Pairwise (· < ·))(hi:i<F.length):(F.filter fun b=>decide (F.getD i 0<b))=F.drop (i+1):=by
  have ea:F.getD i 0=F[i]:=by simp[List.getD,hi]
  have e:F=F.take (i+1)++F.drop (i+1):=(List.take_append_drop _ _).symm
  have p:=List.pairwise_iff_getElem.mp up
  rw[ea]
  generalize hv:F[i]=v
  conv=>lhs;rw[e]
  rw[List.filter_append,List.filter_eq_nil_iff.mpr,List.filter_eq_self.mpr,List.nil_append]
  . intro b hb
    obtain⟨m,hm,rfl⟩:=List.getElem_of_mem hb
    rw[List.getElem_drop]
    rw[List.length_drop]at hm
    rw[<-hv]
    exact decide_eq_true (p i (i+1+m) hi (by lia) (by lia))
  . intro b hb
    obtain⟨m,hm,rfl⟩:=List.getElem_of_mem hb
    rw[List.getElem_take]
    rw[List.length_take]at hm
    by_cases q:m=i
    . subst q;rw[hv];simp
    . have:=p m i (by lia) hi (by lia)
      simp;lia
theorem wn_eq (up:F.Pairwise (· < ·)):prT F F.length=wn F F:=by
  unfold prT wn
  have e:F.map (fun a=>(F.filter fun b=>decide (a<b)).map fun b=>(a,b))=(List.range F.length).map fun i=>(F.drop (i+1)).map fun b=>(F.getD i 0,b):=by
    apply List.ext_getElem?
    intro i
    by_cases h:i<F.length
    . have ea:F.getD i 0=F[i]:=by simp[List.getD,h]
      rw[List.getElem?_map,List.getElem?_map,List.getElem?_eq_getElem h,List.getElem?_range h]
      simp only[Option.map_some,<-ea,znI up h]
    . rw[List.getElem?_eq_none (by rw[List.length_map];lia),List.getElem?_eq_none (by rw[List.length_map,List.length_range];lia)]
  rw[e]
theorem costs_ok (h:Pool ds)(n:Nat)(n24:n<=24):Ok (zcD ds [.int n]) fun r=>∃(c:Nat->Int) (ds':List D),Pool ds'/\r=(.own (wI n c),ds'):=by
 simp! only[↓zcD,↓ze7]
 refine(za0 h (m:=4) (by lia) (by lia)).mono ?_
 rintro _ ⟨w,d1,hw,h1,rfl⟩
 simp! only[↓zfU]
 refine⟨zaw (by lia) (by lia),zdH (fun i ρ=>∃(ds':List D) (c:Nat->Int) (s4 s5 s6:Sl),Pool ds'/\ρ=[.par ds',.val (.int n),.val (.int w),.own (wI i c),s4,s5,s6]) ⟨d1,fun _=>0,_,_,_,h1,rfl⟩ ?_ ?_⟩
 ·rintro i _ hi ⟨d2,c,s4,s5,s6,h2,rfl⟩
  simp! only[↓zfB]
  refine(za0 h2 (m:=4) (by lia) (by lia)).mono ?_
  rintro _ ⟨x,d3,hx,h3,rfl⟩
  simp! only[]
  refine(za0 h3 (m:=1000000) (by lia) (by lia)).mono ?_
  rintro _ ⟨y,d4,hy,h4,rfl⟩
  simp! only[]
  have hv:∃v:Int,[D.int x,D.int 0,D.int 1,D.int ((y:Int)*100000000000000000000000000000000000000000000000000)][w]? =some (.int v):=by
   have:w=0\/w=1\/w=2\/w=3:=by lia
   rcases this with rfl|rfl|rfl|rfl<;>exact⟨_,rfl⟩
  obtain⟨v,ev⟩:=hv
  simp! only[ev,zj2]
  refine⟨zdB (by lia),by lia,d4,_,_,_,_,h4,rfl⟩
 ·rintro _ ⟨d2,c,s4,s5,s6,h2,rfl⟩
  simp! only[]
  exact⟨c,d2,h2,rfl⟩
section
variable {k s n:Nat} {S L G lo hi:Nat->Int} {c:Nat->Int}
theorem zhY {α:Type}(f:α->Int)(l:List α):zaG (l.map fun x=> .int (f x))=some (l.map f):=by
 have:l.map (fun x=>D.int (f x))=(l.map f).map D.int:=by rw[List.map_map];rfl
 rw[this,zby]
theorem zjA (d:Dim k s n)(sp:zej k n S L G lo hi):Ok (za2 [zaC k s n S L G,.lst (wI n c)]) fun x=>x= .val (.int (((Lc n k c (Flr k lo hi (S 0))).map c).sum-mx ((Lc n k c (Flr k lo hi (S 0))).map c))):=by
 have k5:=d.k5
 have k2:=d.k2
 have n24:=d.n24
 have f5:(Flr k lo hi (S 0)).length<=5:=Nat.le_trans (zkz k lo hi (S 0)) k5
 have fF:zl3 k (fun j=>rl k lo hi (S 0) j<rh k lo hi (S 0) j)=(Flr k lo hi (S 0)).map nI:=ziG _ _
 have hk0:¬(some (k:Int)=some 0):=by intro h;have:=Option.some.inj h;lia
 simp! only[↓za2,↓zcf,↓zcP]
 refine(zh8 d sp).mono ?_
 rintro _ rfl
 rw[fF]
 simp! only[]
 refine⟨by lia,zdI (enc:=nI) (fun ρ=>∃s1,ρ=[.val (.lst (wI n c)),.val (zaC k s n S L G),s1]) (fun j=> .int (c (cpl n k c j))) ⟨_,rfl⟩ ?_ ?_⟩
 ·rintro j _ hj ⟨s1,rfl⟩
  obtain⟨v,i,e1,_,e3,_,e5,_⟩:=zmo c (by lia) (zg2 hj).1 d.kn
  unfold zfA at e1
  simp! only[↓zcO,nI,zaC,zlH,hk0,e1]
  rw[e3,e5]
  exact⟨rfl,_,rfl⟩
 ·rintro _ ⟨s1,rfl⟩
  have e:(Flr k lo hi (S 0)).map (fun j=>c (cpl n k c j))=(Lc n k c (Flr k lo hi (S 0))).map c:=by unfold Lc;rw[List.map_map];rfl
  have em:zmh [.lst ((Flr k lo hi (S 0)).map fun j=> .int (c (cpl n k c j)))]=some (.int (mx ((Lc n k c (Flr k lo hi (S 0))).map c))):=by
   show(zaG ((Flr k lo hi (S 0)).map fun j=> .int (c (cpl n k c j)))).map _=_
   rw[zhY (fun j=>c (cpl n k c j)),e]
   unfold mx
   simp only[Option.map_some]
   split<;>rfl
  simp! only[zhY fun j=>c (cpl n k c j),em,e]
theorem zkr (d:Dim k s n){r1 r2:Nat->Int}(f1:Fits k s n S L G r1)(f2:Fits k s n S L G r2)(un:∀p,p<n->(r1 p≠r2 p↔p%k=a\/p%k=b)):
  Ok (zaW [zaC k s n S L G,.tup (wI n r1),.tup (wI n r2),.int a,.int b]) fun x=>x= .val (.bl true):=by
 have k5:=d.k5
 have k2:=d.k2
 have n24:=d.n24
 simp! only[↓zaW,↓zcL]
 refine(zkV d f1).mono ?_
 rintro _ rfl
 simp! only[]
 refine(zkV d f2).mono ?_
 rintro _ rfl
 simp! only[↓zda,↓zc3]
 refine⟨zaw (by lia) (by lia),by lia,zhf (fun ρ=>∃z,ρ=[.val (.tup (wI n r1)),.val (.tup (wI n r2)),z]) (fun p=>if p%k=a\/p%k=b then some (.int (p:Nat))else none) ⟨_,rfl⟩ ?_ ?_⟩
 ·rintro p _ hp ⟨z,rfl⟩
  simp! only[↓zcV,↓zc7,zat _ hp]
  refine⟨fun q=>?_,fun q=>?_⟩
  ·rw[if_pos ((un p hp).mp q)];exact⟨rfl,_,rfl⟩
  ·rw[if_neg fun t=>(un p hp).mpr t q];exact⟨rfl,_,rfl⟩
 ·rintro _ ⟨z,rfl⟩
  simp! only[↓zcU]
  refine⟨zaw (by lia) (by lia),by lia,zhf (fun ρ=>∃z,ρ=[.val (zaC k s n S L G),.val (.int a),.val (.int b),z]) (fun p=>if p%k=a\/p%k=b then some (.int (p:Nat))else none) ⟨_,rfl⟩ ?_ ?_⟩
  ·rintro p _ hp ⟨z,rfl⟩
   have e:(p:Int)%(k:Int)=((p%k:Nat):Int):=by push_cast;rfl
   have ei:dIn (.int ((p%k:Nat):Int)) (.tup [.int a,.int b])=some (.bl (decide (p%k=a\/p%k=b))):=by
    have h1:dIn (.int ((p%k:Nat):Int)) (.tup [.int a,.int b])=dIn (.int ((p%k:Nat):Int)) (.lst (([(a:Int),(b:Int)]:List Int).map .int)):=rfl
    rw[h1,inL,zod]
    congr 2
    by_cases q1:p%k=a<;>by_cases q2:p%k=b<;>simp[q1,q2,Int.natCast_inj]<;>lia
   simp! only[↓zc4,↓zcW,zaC,e,ei]
   refine⟨by lia,fun q=>?_,fun q=>?_⟩
   ·rw[if_pos q];exact⟨rfl,_,rfl⟩
   ·rw[if_neg q];exact⟨rfl,_,rfl⟩
  ·rintro _ ⟨z,rfl⟩
   have pl:Pl 1 (.lst ((List.range n).filterMap fun p=>if p%k=a\/p%k=b then some (D.int (p:Nat))else none)):=zlg fun x hx=>by
    obtain⟨p,_,e⟩:=List.mem_filterMap.mp hx
    by_cases q:p%k=a\/p%k=b
    ·rw[if_pos q]at e;cases e;exact zfs 0 _
    ·rw[if_neg q]at e;cases e
   simp! only[pl.eq (by decide)]
end
section
variable {k s n:Nat} {S L G lo hi:Nat->Int} {c:Nat->Int}
theorem zm5 (d:Dim k s n)(sp:zej k n S L G lo hi)(r:Room' k lo hi (S 0))(ha:a∈Flr k lo hi (S 0))(hb:b∈Flr k lo hi (S 0))(ab:a<b):
  Ok (zaW [zaC k s n S L G,.tup (wI n (rowA k S lo hi a b)),.tup (wI n (exch k b a (rowA k S lo hi a b))),.int a,.int b]) fun x=>x= .val (.bl true):=by
 obtain⟨f1,f2⟩:=zoo d sp r (zg2 ha).1 (zg2 hb).1 (Nat.ne_of_lt ab) (zg2 ha).2 (zg2 hb).2
 refine zkr d f1 f2 fun p _=>?_
 unfold exch
 by_cases q1:p%k=a
 ·rw[if_pos q1];lia
 ·rw[if_neg q1]
  by_cases q2:p%k=b
  ·rw[if_pos q2];lia
  ·rw[if_neg q2];lia
def zk3 (n k:Nat)(S lo hi c:Nat->Int):D:= .tup [.tup ((Tc n k c (Flr k lo hi (S 0))).map nI),.lst (zgO n k S lo hi)]
theorem zlj (k5:k<=5):(zgO n k S lo hi).length<=25:=by
 have f5:(Flr k lo hi (S 0)).length<=5:=Nat.le_trans (zkz k lo hi (S 0)) k5
 have pl:=zlu (Flr k lo hi (S 0)) (Flr k lo hi (S 0)).length
 have pl2:(Flr k lo hi (S 0)).length*(Flr k lo hi (S 0)).length<=5*5:=Nat.mul_le_mul f5 f5
 unfold zgO
 rw[List.length_map]
 lia
theorem cast2:((2:Nat):Int)=2:=rfl
theorem cast4:((4:Nat):Int)=4:=rfl
theorem cut2 (x y:D)(l:List D):cutD (x::y::l) none (some 2)=[x,y]:=zfZ (x::y::l) 2
theorem zn2:(["int","bool","tuple","list","str"]:List String).contains "list"=true:=by decide
theorem zpw (d:Dim k s n):Ok (zbU [zk3 n k S lo hi c]) fun x=>x= .val (.bl true):=by
 have k5:=d.k5
 have n24:=d.n24
 have f5:(Flr k lo hi (S 0)).length<=5:=Nat.le_trans (zkz k lo hi (S 0)) k5
 have tl:=Tc_len (n:=n) (k:=k) (c:=c) (F:=Flr k lo hi (S 0))
 simp! only[↓zbU,↓zed,zk3,cast2,zj9,zn2]
 rw[nI_w]
 refine(zg7 (n:=(Tc n k c (Flr k lo hi (S 0))).length) (by lia) _).mono ?_
 rintro _ rfl
 simp! only[zj9,zn2,↓zeV,↓zeA]
 unfold zgO
 refine zml (enc:=zkB n k S lo hi) (fun i ρ=>∃x y,ρ=[x,y]) ⟨_,_,rfl⟩ ?_ ?_
 ·rintro i ⟨a,b⟩ _ _ ⟨x,y,rfl⟩
  have e2:[D.int (a:Int),D.int (b:Int)]=wI 2 fun i=>if i=0 then(a:Int)else(b:Int):=rfl
  simp! only[zkB,↓zeM,zj9,cast4,cut2]
  rw[e2]
  refine(zg7 (n:=2) (by lia) _).mono ?_
  rintro _ rfl
  simp! only[↓zex]
  refine(zg7 (by lia) _).mono ?_
  rintro _ rfl
  simp! only[]
  refine(zg7 (by lia) _).mono ?_
  rintro _ rfl
  simp! only[]
  exact⟨_,_,rfl⟩
 ·rintro _ ⟨x,y,rfl⟩
  simp! only[]
end
section
variable {k s n:Nat} {S L G lo hi:Nat->Int} {c:Nat->Int}
theorem zlJ (h:ns.Nodup):zdn ns=ns.length:=by
 obtain⟨l,e,nd,hm⟩:=zlo ns
 rw[e]
 exact((List.perm_ext_iff_of_nodup nd h).mpr hm).length_eq
theorem pl_nI (p:List Nat):Pl 1 (.lst (p.map nI)):=zlg fun d hd=>by
 obtain⟨x,_,rfl⟩:=List.mem_map.mp hd
 exact zfs 0 _
theorem pl_pD (p:List (Nat×Nat)):Pl 2 (.lst (p.map pD)):=zlg fun d hd=>by
 obtain⟨x,_,rfl⟩:=List.mem_map.mp hd
 refine zh9 fun d hd=>?_
 simp only[List.mem_cons,List.not_mem_nil,or_false]at hd
 rcases hd with rfl|rfl
 ·exact zfs 0 _
 ·exact zfs 0 _
theorem wn_len (F:List Nat):∀l:List Nat,(wn F l).length<=l.length*F.length
 |[]=>by simp[wn]
 |a::l=>by
  have:=wn_len F l
  unfold wn at this ⊢
  rw[List.map_cons,List.flatten_cons,List.length_append,List.length_map,List.length_cons,Nat.succ_mul]
  have:=List.length_filter_le (fun b=>decide (a<b)) F
  lia
theorem wn_snoc (h:F[i]? =some a):wn F (F.take (i+1))=wn F (F.take i)++(F.filter fun b=>decide (a<b)).map fun b=>(a,b):=by
 unfold wn
 rw[List.take_add_one,h,List.map_append,List.flatten_append]
 simp
theorem fm_pD (F:List Nat)(a:Nat):(F.filterMap fun b=>if a<b then some (pD (a,b))else none)=((F.filter fun b=>decide (a<b)).map fun b=>(a,b)).map pD:=by
 induction F with
 |nil=>rfl
 |cons b l ih=>
  by_cases h:a<b
  ·rw[List.filterMap_cons,if_pos h,List.filter_cons,if_pos (decide_eq_true h),List.map_cons,List.map_cons,<-ih]
  ·rw[List.filterMap_cons,if_neg h,List.filter_cons,if_neg (by simpa using h),<-ih]
theorem znn (d:Dim k s n)(sp:zej k n S L G lo hi)(r:Room' k lo hi (S 0)):
  Ok (zaK [zaC k s n S L G,.lst (wI n c),zk3 n k S lo hi c]) fun x=>x= .val (.bl true):=by
 have k5:=d.k5
 have k2:=d.k2
 have n24:=d.n24
 have f5:(Flr k lo hi (S 0)).length<=5:=Nat.le_trans (zkz k lo hi (S 0)) k5
 have tl:=Tc_len (n:=n) (k:=k) (c:=c) (F:=Flr k lo hi (S 0))
 have fF:zl3 k (fun j=>rl k lo hi (S 0) j<rh k lo hi (S 0) j)=(Flr k lo hi (S 0)).map nI:=ziG _ _
 have hF:∀j∈Flr k lo hi (S 0),j<k:=fun j hj=>(zg2 hj).1
 have nd:(Flr k lo hi (S 0)).Nodup:=(Fl_up k lo hi (S 0)).imp Nat.ne_of_lt
 have tn:∀x∈Tc n k c (Flr k lo hi (S 0)),x<n/\x%k∈Flr k lo hi (S 0):=fun x hx=>by
  obtain⟨j,hj,rfl⟩:=Tc_mem hx
  obtain⟨e1,e2⟩:=zoJ (c:=c) (by lia) d.kn (hF j hj)
  exact⟨e2,by rw[e1];exact hj⟩
 have us:HT.usrt ((Tc n k c (Flr k lo hi (S 0))).map fun(x:Nat)=>(x:Int))=(Tc n k c (Flr k lo hi (S 0))).map fun(x:Nat)=>(x:Int):=
  HT.eq_up (HT.ziF _) (Tc_up (by lia) d.kn hF nd) fun z=>HT.zgX
 have mods:=znM (c:=c) (by lia) d.kn hF nd
 have sums:=Tc_sum (n:=n) (k:=k) (c:=c) (F:=Flr k lo hi (S 0))
 have inF:∀x,x∈Flr k lo hi (S 0)->dIn (.int (x:Nat)) (.lst ((Flr k lo hi (S 0)).map nI))=some (.bl true):=fun x hx=>by
  have:(Flr k lo hi (S 0)).map nI=((Flr k lo hi (S 0)).map fun(x:Nat)=>(x:Int)).map D.int:=by rw[List.map_map];rfl
  rw[this,inL]
  congr 2
  rw[List.contains_iff_mem]
  exact List.mem_map_of_mem (f:=fun(x:Nat)=>(x:Int)) hx
 have wq:=wn_eq (Fl_up k lo hi (S 0))
 generalize hT:Tc n k c (Flr k lo hi (S 0))=T at*
 simp! only[↓zaK,↓zbq,zk3,cast2,hT]
 refine(zh8 d sp).mono ?_
 rintro _ rfl
 rw[fF]
 simp! only[]
 refine(ziJ d sp).mono ?_
 rintro _ ⟨b,hb,rfl⟩
 rw[hb.mpr r]
 simp! only[↓zbY]
 refine⟨by lia,zdI (enc:=nI) (fun ρ=>∃z,ρ=[.val (zaC k s n S L G),z]) (fun _=> .bl true) ⟨_,rfl⟩ ?_ ?_⟩
 ·rintro x _ hx ⟨z,rfl⟩
  have:=(tn x hx).1
  simp! only[↓zb7,nI,zaC]
  exact⟨fun _=>⟨by rw[decide_eq_true (by lia)],_,rfl⟩,fun z=>absurd z (by lia)⟩
 rintro _ ⟨z,rfl⟩
 simp! only[zjt,all_t,↓zbJ,↓zb0]
 refine⟨by lia,zdI (enc:=nI) (fun ρ=>∃z,ρ=[.val (zaC k s n S L G),z]) (fun x=> .int ((x%k:Nat):Int)) ⟨_,rfl⟩ ?_ ?_⟩
 ·rintro x _ hx ⟨z,rfl⟩
  have e:(x:Int)%(k:Int)=((x%k:Nat):Int):=by push_cast;rfl
  simp! only[↓zbO,nI,zaC,e]
  exact⟨by lia,_,rfl⟩
 rintro _ ⟨z,rfl⟩
 have nIm:(T.map fun(x:Nat)=>(x:Int)).map D.int=T.map nI:=by rw[List.map_map];rfl
 have dst:zdn (T.map fun x=>((x%k:Nat):Int))=T.length:=by
  rw[zlJ,List.length_map]
  exact List.pairwise_map.mpr ((List.pairwise_map.mp mods).imp fun h e=>h (by lia))
 have mxl:max2 0 (((Flr k lo hi (S 0)).length:Int)-1)=(T.length:Int):=by unfold max2;split<;>lia
 simp! only[zpf,us,nIm,(pl_nI T).ne (by decide),zhY fun x=>((x%k:Nat):Int),dst,mxl]
 refine⟨by lia,by lia,fun h=>absurd h (by lia),fun _=>?_⟩
 simp! only[↓zbF,↓zb5]
 refine⟨by lia,zdI (enc:=fun(x:Nat)=>D.int ((x%k:Nat):Int)) (l:=T) (fun ρ=>∃z,ρ=[.val (.lst ((Flr k lo hi (S 0)).map nI)),z]) (fun _=> .bl true) ⟨_,rfl⟩ ?_ ?_⟩
 ·rintro x _ hx ⟨z,rfl⟩
  simp! only[↓zca,inF _ (tn x hx).2]
  exact⟨_,rfl⟩
 rintro _ ⟨z,rfl⟩
 simp! only[zjt,all_t,↓zbC,↓zbZ]
 refine⟨by lia,zdI (enc:=nI) (fun ρ=>∃z,ρ=[.val (.lst (wI n c)),z]) (fun x=> .int (c x)) ⟨_,rfl⟩ ?_ ?_⟩
 ·rintro x _ hx ⟨z,rfl⟩
  simp! only[↓zbQ,nI,zat _ (tn x hx).1]
  exact⟨_,rfl⟩
 rintro _ ⟨z,rfl⟩
 simp! only[zhY c]
 refine(zjA d sp).mono ?_
 rintro _ rfl
 rw[<-sums]
 simp! only[↓zbB,↓zbW]
 refine zml (enc:=nI) (fun i ρ=>∃z,ρ=[.val (zaC k s n S L G),.val (.lst (wI n c)),.val (.tup [.tup (T.map nI),.lst (zgO n k S lo hi)]),.val (.tup (T.map nI)),.val (.lst (zgO n k S lo hi)),.val (.lst ((Flr k lo hi (S 0)).map nI)),.val (.lst (T.map fun x=> .int ((x%k:Nat):Int))),.own ((wn (Flr k lo hi (S 0)) ((Flr k lo hi (S 0)).take i)).map pD),z]) ⟨_,rfl⟩ ?_ ?_
 ·rintro i a _ hit ⟨z,rfl⟩
  simp! only[↓zb6,↓zbR,nI]
  refine⟨by lia,zjB (enc:=nI) (fun ρ=>∃z,ρ=[.val (.int a),z]) (fun b=>if a<b then some (pD (a,b))else none) ⟨_,rfl⟩ ?_ ?_⟩
  ·rintro b _ _ ⟨z,rfl⟩
   simp! only[↓zbL,↓zbV,nI]
   refine⟨fun q=>?_,fun q=>?_⟩
   ·rw[if_pos (by lia)];exact⟨rfl,_,rfl⟩
   ·rw[if_neg (by lia)];exact⟨rfl,_,rfl⟩
  rintro _ ⟨z,rfl⟩
  have wl:=wn_len (Flr k lo hi (S 0)) ((Flr k lo hi (S 0)).take i)
  have wl2:((Flr k lo hi (S 0)).take i).length*(Flr k lo hi (S 0)).length<=5*5:=Nat.mul_le_mul (by rw[List.length_take];lia) f5
  have fl:=List.length_filter_le (fun b=>decide (a<b)) (Flr k lo hi (S 0))
  rw[fm_pD]
  simp! only[<-List.map_append,<-wn_snoc hit]
  exact⟨by lia,_,rfl⟩
 rintro _ ⟨z,rfl⟩
 rw[List.take_length,<-wq]
 have pl25:=zlj (n:=n) (S:=S) (lo:=lo) (hi:=hi) k5
 simp! only[↓zbM]
 refine⟨by lia,zdI (enc:=zkB n k S lo hi) (fun ρ=>∃z,ρ=[z]) pD ⟨_,rfl⟩ ?_ ?_⟩
 ·rintro⟨a,b⟩ _ _ ⟨z,rfl⟩
  simp! only[↓zb2,zkB,cut2]
  exact⟨rfl,_,rfl⟩
 rintro _ ⟨z,rfl⟩
 simp! only[(pl_pD _).ne (by decide),↓zb8,↓zb4]
 refine⟨by lia,zdI (enc:=zkB n k S lo hi) (fun ρ=>∃z,ρ=[.val (zaC k s n S L G),z]) (fun _=> .bl true) ⟨_,rfl⟩ ?_ ?_⟩
 ·rintro⟨a,b⟩ _ hx ⟨z,rfl⟩
  obtain⟨ma,mb,ab⟩:=zpm (Fl_up k lo hi (S 0)) (Nat.le_refl _) hx
  simp! only[↓zb1,zkB]
  refine(zm5 d sp r ma mb ab).mono ?_
  rintro _ rfl
  simp! only[]
  exact⟨_,rfl⟩
 rintro _ ⟨z,rfl⟩
 simp! only[zjt,all_t]
end
theorem pl_pairs (n k:Nat)(S lo hi:Nat->Int):Pl 3 (.lst (zgO n k S lo hi)):=zlg fun d hd=>by
 unfold zgO at hd
 obtain⟨x,_,rfl⟩:=List.mem_map.mp hd
 refine zh9 fun d hd=>?_
 simp only[List.mem_cons,List.not_mem_nil,or_false]at hd
 rcases hd with rfl|rfl|rfl|rfl
 ·exact(zfs 0 _).mono (by decide)
 ·exact(zfs 0 _).mono (by decide)
 ·exact zh9 (pl_w fun c=>zfs 0 _)
 ·exact zh9 (pl_w fun c=>zfs 0 _)
theorem pl_told (n k:Nat)(S lo hi c:Nat->Int):Pl 4 (zk3 n k S lo hi c):=zh9 fun d hd=>by
 simp only[List.mem_cons,List.not_mem_nil,or_false]at hd
 rcases hd with rfl|rfl
 ·exact (zh9 (k := 0) fun d hd => by
   obtain⟨x,_,rfl⟩:=List.mem_map.mp hd
   exact zfs 0 _).mono (by decide)
 ·exact pl_pairs n k S lo hi
theorem zpK {k s n:Nat}{S L G lo hi:Nat->Int}(d:Dim k s n)(sp:zej k n S L G lo hi)(r:Room' k lo hi (S 0))(hp:Pool ds)(d3:D)(a5 a6 a7 a8:Sl)(l8:zia a8 a8=true)(hQ:∀a2 a5 a6 a7 a8,zia a8 a8=true->Q (.next,[.val (.scr ns),.val (.int i),a2,.val d3,.val (zaC k s n S L G),a5,a6,a7,a8])):
  Ok (zjy [.val (.scr ns),.val (.int i),.own ds,.val d3,.val (zaC k s n S L G),a5,a6,a7,a8]) Q:=by
 have n24:=d.n24
 have k5:=d.k5
 have le:dLen [.tup (wI n L)]=some (.int n):=by simp only[zoF,zaI]
 simp! only[↓zjy,zaC,le]
 refine(costs_ok hp n n24).mono ?_
 rintro _ ⟨c,ds',hp',rfl⟩
 have nec:dNe (.lst (wI n c)) (.lst (wI n c))=some (.bl false):=(show Pl 1 (.lst (wI n c))from zlg (pl_w fun c=>zfs 0 _)).ne (by decide)
 simp! only[]
 refine(zlc d sp r (C:= .lst (wI n c)) (.inl rfl)).mono ?_
 rintro _ rfl
 simp! only[]
 refine(zpw (c:=c) (S:=S) (lo:=lo) (hi:=hi) d).mono ?_
 rintro _ rfl
 simp! only[nec]
 refine(znn d sp r).mono ?_
 rintro _ rfl
 simp! only[]
 refine⟨?_,?_⟩
 ·obtain⟨p,q,rfl,_⟩:=hp'
  have lo2:zia (.own [.int p,.int q]) (.own [.int p,.int q])=true:=like_own [p,q]
  simp only[List.zip_cons_cons,List.zip_nil_right,List.all_cons,List.all_nil,zmU,zmy,lo2,l8,Bool.and_true]
 ·have pl25:=zlj (n:=n) (S:=S) (lo:=lo) (hi:=hi) k5
  simp! only[↓zmQ]
  refine⟨by lia,?_⟩
  refine(zlc d sp r (C:= .tup (wI n c)) (.inr rfl)).mono ?_
  rintro _ rfl
  have ne:dNe (zk3 n k S lo hi c) (zk3 n k S lo hi c)=some (.bl false):=(pl_told n k S lo hi c).ne (by decide)
  unfold zk3 at ne
  simp! only[ne]
  exact hQ _ _ _ _ _ (zmU _ _)
theorem math (ns:List Int)(hl:ns.length<=63):zkA [.scr ns]=some (.val (.bl true)):=by
 have:Ok (zkA [.scr ns]) fun r=>r= .val (.bl true):=by
  have hm:∃m:Nat,m<=8/\max2 1 (min2 (ns.length:Int) 8)=(m:Int):=by
   unfold max2 min2
   exact⟨(if(if(8:Int)<(ns.length:Int)then 8 else(ns.length:Int))>1 then(if(8:Int)<(ns.length:Int)then 8 else(ns.length:Int))else 1).toNat,by split<;>split<;>lia,by split<;>split<;>lia⟩
  obtain⟨m,hm10,em⟩:=hm
  simp! only[↓zkA,↓m_law,↓zmT,em]
  refine⟨zaw (by lia) (by lia),zdH (fun i ρ=>∃a1 a2 a3 a4 a5 a6 a7 a8,zia a8 a8=true/\ρ=[.val (.scr ns),a1,a2,a3,a4,a5,a6,a7,a8]) ⟨_,_,_,_,_,_,_,_,zmy _,rfl⟩ ?_ ?_⟩
  ·rintro i _ hi ⟨a1,a2,a3,a4,a5,a6,a7,a8,l8,rfl⟩
   simp! only[↓zmf]
   refine(pool_ok ns i (by lia)).mono ?_
   rintro _ ⟨d1,h1,rfl⟩
   simp! only[]
   refine(line_ok h1 24 4 (by decide) (by decide) (by decide) (by decide)).mono ?_
   rintro _ ⟨k,s,n,S0,L0,G0,d2,h2,ok0,⟨r0,f0⟩,n10,rfl⟩
   simp! only[]
   refine(bent_ok h2 ok0).mono ?_
   rintro _ ⟨S,L,G,d3,h3,ok,rfl⟩
   obtain⟨lo,hi,sp,-⟩:=zjT (ask k S L) (ask k S G) (show 0<k by have:=ok.d.k2;lia) ok.d.kn
   simp! only[]
   refine(ziJ ok.d sp).mono ?_
   rintro _ ⟨b,hb,rfl⟩
   simp! only[]
   refine⟨fun h=>?_,fun h=>?_⟩
   ·obtain⟨lo0,hi0,sp0,-⟩:=zjT (ask k S0 L0) (ask k S0 G0) (show 0<k by have:=ok.d.k2;lia) ok.d.kn
    have r0:=(room_iff ok.d sp0).mpr ⟨r0,f0⟩
    exact zpK ok.d sp0 r0 h3 _ _ _ _ _ l8 fun a2 a5 a6 a7 a8 l8=>⟨_,_,_,_,_,_,_,_,l8,rfl⟩
   ·exact zpK ok.d sp (hb.mp (by simpa using h)) h3 _ _ _ _ _ l8 fun a2 a5 a6 a7 a8 l8=>⟨_,_,_,_,_,_,_,_,l8,rfl⟩
  ·rintro _ ⟨a1,a2,a3,a4,a5,a6,a7,a8,l8,rfl⟩
   simp! only[]
 obtain⟨_,e,rfl⟩:=this
 exact e
end Prf
def PySem.W.Fast.tw1849981099215348280:Nat:=0
def PySem.W.Fast.tw13096656324509754794:Nat:=0
def PySem.W.Fast.tw8831560078328308202:Nat:=0
def PySem.W.Fast.tw210376793828722124:Nat:=0
def PySem.W.Fast.tw4787628349648227467:Nat:=0
def PySem.W.Fast.tw13458897877004781926:Nat:=0
def PySem.W.Fast.tw456803640311984549:Nat:=0
def PySem.W.Fast.tw17021664359830750305:Nat:=0
def PySem.W.Fast.tw13985705272324479782:Nat:=0
def PySem.W.Fast.tw17363004276444788108:Nat:=0
def PySem.W.Fast.tw1979676159036548883:Nat:=0
def PySem.W.Fast.tw6732029456235935737:Nat:=0
def PySem.W.Fast.tw8114638177504017192:Nat:=0
def PySem.W.Fast.tw15222341766372666461:Nat:=0
def PySem.W.Fast.tw9020607782784392513:Nat:=0
def PySem.W.Fast.tw16047018033836036682:Nat:=0
def PySem.W.Fast.tw8113978958300463756:Nat:=0
def PySem.W.Fast.tw1489203846561361115:Nat:=0
def PySem.W.Fast.tw5669479613093467921:Nat:=0
def PySem.W.Fast.tw3109846444512911188:Nat:=0
def PySem.W.Fast.tw39634360303869067:Nat:=0
def PySem.W.Fast.tw5018757724143874148:Nat:=0
def PySem.W.Fast.tw11110520412223167900:Nat:=0
def PySem.W.Fast.tw4420404740635176310:Nat:=0
def PySem.W.Fast.tw13415093720719952130:Nat:=0
def PySem.W.Fast.tw1874993853288872478:Nat:=0
def PySem.W.Fast.tw13988268021400327422:Nat:=0
def PySem.W.Fast.tw7549612487476969061:Nat:=0
def PySem.W.Fast.tw14739147948090707581:Nat:=0
def PySem.W.Fast.tw2714584787887076750:Nat:=0
def PySem.W.Fast.tw849787125129986132:Nat:=0
def PySem.W.Fast.tw8984648465290074517:Nat:=0
def PySem.W.Fast.tw18233845355269618077:Nat:=0
def PySem.W.Fast.tw15340893565504759451:Nat:=0
def PySem.W.Fast.tw2246171935864897360:Nat:=0
def PySem.W.Fast.tw3366060933615325006:Nat:=0
def PySem.W.Fast.tw11969384337882542077:Nat:=0
def PySem.W.Fast.tw15095332505541099614:Nat:=0
def PySem.W.Fast.tw8394101203144383252:Nat:=0
def PySem.W.Fast.tw8335456896981535839:Nat:=0
def PySem.W.Fast.tw5565274205887842612:Nat:=0
def PySem.W.Fast.tw10080736076333782219:Nat:=0
def PySem.W.Fast.tw1785505624352516228:Nat:=0
def PySem.W.Fast.tw7321626993816231443:Nat:=0
def PySem.W.Fast.tw2011090756514326581:Nat:=0
def PySem.W.Fast.tw7845156796154877980:Nat:=0
def PySem.W.Fast.tw6505210857964246453:Nat:=0
def PySem.W.Fast.tw5812535058900111063:Nat:=0
def PySem.W.Fast.tw18311485567028692561:Nat:=0
def PySem.W.Fast.tw12043291032848483322:Nat:=0
def PySem.W.Fast.tw5647748653279701820:Nat:=0
def PySem.W.Fast.tw5735563099338334643:Nat:=0
def PySem.W.Fast.tw13353220118413454647:Nat:=0
def PySem.W.Fast.tw5294389151289591563:Nat:=0
def PySem.W.Fast.tw7590364605850976044:Nat:=0
def PySem.W.Fast.tw6437144325676589753:Nat:=0
def PySem.W.Fast.tw7772526645792222768:Nat:=0
def PySem.W.Fast.tw1568074916510049062:Nat:=0
def PySem.W.Fast.tw9365454129644771293:Nat:=0
def PySem.W.Fast.tw12946872599090029104:Nat:=0
def PySem.W.Fast.tw932338988579570550:Nat:=0
def PySem.W.Fast.tw3238926023551573501:Nat:=0
def PySem.W.Fast.tw1153849225844648168:Nat:=0
def PySem.W.Fast.tw13142750378963893487:Nat:=0
def PySem.W.Fast.tw10968166131902864339:Nat:=0
def PySem.W.Fast.tw3538049041996688433:Nat:=0
def PySem.W.Fast.tw9859331558586214469:Nat:=0
def PySem.W.Fast.tw8671002541627020597:Nat:=0
def PySem.W.Fast.tw9420016619425112645:Nat:=0
def PySem.W.Fast.tw16219901490887286469:Nat:=0
def PySem.W.Fast.tw7138461740387016875:Nat:=0
def PySem.W.Fast.tw7753230868881602708:Nat:=0
def PySem.W.Fast.tw11577406809679146129:Nat:=0
def PySem.W.Fast.tw4810483334247022644:Nat:=0
def PySem.W.Fast.tw2799562140429143352:Nat:=0
def PySem.W.Fast.tw5785846854721971500:Nat:=0
def PySem.W.Fast.tw630903362851730085:Nat:=0
def PySem.W.Fast.tw16356389213734758479:Nat:=0
def PySem.W.Fast.tw943672741688989990:Nat:=0
def PySem.W.Fast.tw11462355390407721876:Nat:=0
def PySem.W.Fast.tw14009443658173024620:Nat:=0
def PySem.W.Fast.tw3767039879732383170:Nat:=0
def PySem.W.Fast.tw12616018951383647922:Nat:=0
def PySem.W.Fast.tw18032651406817436636:Nat:=0
def PySem.W.Fast.tw12981894067117419808:Nat:=0
def PySem.W.Fast.tw14011959561849655678:Nat:=0
def PySem.W.Fast.tw16877596088189304709:Nat:=0
def PySem.W.Fast.tw15285948945562222507:Nat:=0
def PySem.W.Fast.tw16625399260551479951:Nat:=0
def PySem.W.Fast.tw10399115334272085297:Nat:=0
def PySem.W.Fast.tw10732971990337321549:Nat:=0
def PySem.W.Fast.tw18122276124181425664:Nat:=0
def PySem.W.Fast.tw7099749893227180570:Nat:=0
def PySem.W.Fast.tw12110325022952952935:Nat:=0
def PySem.W.Fast.tw556251345125772790:Nat:=0
def PySem.W.Fast.tw9758944184321064889:Nat:=0
def PySem.W.Fast.tw14407673223090965940:Nat:=0
def PySem.W.Fast.tw9437188194076576951:Nat:=0
def PySem.W.Fast.tw7171107006916380604:Nat:=0
def PySem.W.Fast.tw5779231244730334365:Nat:=0
def PySem.W.Fast.tw698472900571805871:Nat:=0
def PySem.W.Fast.tw3757445614866746129:Nat:=0
def PySem.W.Fast.tw5554310369000727947:Nat:=0
def PySem.W.Fast.tw15482716288124483002:Nat:=0
def PySem.W.Fast.tw8782575010658506372:Nat:=0
def PySem.W.Fast.tw4697079661317046804:Nat:=0
def PySem.W.Fast.tw15270645582751599036:Nat:=0
def PySem.W.Fast.tw13012113083800921992:Nat:=0
def PySem.W.Fast.tw6107184543454321738:Nat:=0
def PySem.W.Fast.tw6062451471240543168:Nat:=0
def PySem.W.Fast.tw3214159502800113310:Nat:=0
def PySem.W.Fast.tw12047641396111785826:Nat:=0
def PySem.W.Fast.tw13514056270769736708:Nat:=0
def PySem.W.Fast.tw12419984486572032422:Nat:=0
def PySem.W.Fast.tw4898920127156075059:Nat:=0
def PySem.W.Fast.tw6692011599164642266:Nat:=0
def PySem.W.Fast.tw5301579628885985128:Nat:=0
def PySem.W.Fast.tw10594299188897753853:Nat:=0
def PySem.W.Fast.tw17776231523783547524:Nat:=0
def PySem.W.Fast.tw5917124211771982580:Nat:=0
def PySem.W.Fast.tw6808712462920132224:Nat:=0
def PySem.W.Fast.tw6092243910979523336:Nat:=0
def PySem.W.Fast.tw7664406213029294294:Nat:=0
def PySem.W.Fast.tw5395719366466388876:Nat:=0
def PySem.W.Fast.tw13668411244705576149:Nat:=0
def PySem.W.Fast.tw16214422006925203127:Nat:=0
def PySem.W.Fast.tw765596235978941146:Nat:=0
def PySem.W.Fast.tw18178001997052912681:Nat:=0
def PySem.W.Fast.tw2120951241727256326:Nat:=0
def PySem.W.Fast.tw1480291501876250617:Nat:=0
def PySem.W.Fast.tw5156023912681388122:Nat:=0
def PySem.W.Fast.tw11670370404701375706:Nat:=0
def PySem.W.Fast.tw17386873991202569379:Nat:=0
def PySem.W.Fast.tw4362444374518304529:Nat:=0
def PySem.W.Fast.tw15196051194019461066:Nat:=0
def PySem.W.Fast.tw10869057000924079709:Nat:=0
def PySem.W.Fast.tw15786044880745497810:Nat:=0
def PySem.W.Fast.tw14767473533122869487:Nat:=0
def PySem.W.Fast.tw16227062816237865042:Nat:=0
def PySem.W.Fast.tw17117023718478640856:Nat:=0
def PySem.W.Fast.tw15008441910863870354:Nat:=0
def PySem.W.Fast.tw12156409975323731789:Nat:=0
def PySem.W.Fast.tw12587585902145869917:Nat:=0
def PySem.W.Fast.tw5449755831784306833:Nat:=0
def PySem.W.Fast.tw15944777423939077264:Nat:=0
def PySem.W.Fast.tw10995623279150450098:Nat:=0
def PySem.W.Fast.tw5430132677253757559:Nat:=0
def PySem.W.Fast.tw11654815694332116259:Nat:=0
def PySem.W.Fast.tw13711016933670717933:Nat:=0
def PySem.W.Fast.tw17139005967195152125:Nat:=0
def PySem.W.Fast.tw17903666930002825692:Nat:=0
def PySem.W.Fast.tw4575799772094975576:Nat:=0
def PySem.W.Fast.tw6088761059921910160:Nat:=0
def PySem.W.Fast.tw9819686106160953404:Nat:=0
def PySem.W.Fast.tw14286795385143897505:Nat:=0
def PySem.W.Fast.tw7671560453824207839:Nat:=0
def PySem.W.Fast.tw778028034080657181:Nat:=0
def PySem.W.Fast.tw7850964990499811490:Nat:=0
def PySem.W.Fast.tw9013269103393288763:Nat:=0
def PySem.W.Fast.tw16564645219789561631:Nat:=0
def PySem.W.Fast.tw9217737212862343486:Nat:=0
def PySem.W.Fast.tw5105446024539447835:Nat:=0
def PySem.W.Fast.tw18096980112837594705:Nat:=0
def PySem.W.Fast.tw9224058505414818431:Nat:=0
def PySem.W.Fast.tw17381946068485548753:Nat:=0
def PySem.W.Fast.tw458807306212317843:Nat:=0
def PySem.W.Fast.tw4070955160471583761:Nat:=0
def PySem.W.Fast.tw13079414147116793416:Nat:=0
def PySem.W.Fast.tw13975253150243769220:Nat:=0
def PySem.W.Fast.tw7779099019477106760:Nat:=0
open PyProof.Rows PySem PySem.W
set_option maxRecDepth 100000 in
set_option maxHeartbeats 0 in
theorem PySem.Challenge.cw_tellsum_k24_cheapest_places_told_holds : PySem.Challenge.rw_tellsum_k24_cheapest_places_told.Holds := by
  w_on; o_law; k_head; (case hw => w_witness2)
  k_fill
  refine Prf.walk (l := PySem.Challenge.rw_tellsum_k24_cheapest_places_told) rfl rfl Prf.math (fun w h Y => W.km_in_of Y) (fun w h Y => W.km_tabs_of Y _ (by decide)) (fun w => by exact ⟨_, _, _, by k_is, by k_is, rfl, rfl, rfl, by rfl, by rfl⟩) ?F
  case F =>
    intro w mg fa h KX G hmg
    refine' Prf.all_mk KX G hmg ?h1 ?h2 ?h3 ?h4 ?h5 ?h6 ?h7 ?h8 ?h9 ?h10 ?h11 ?h12 ?h13 ?h14 ?h15 ?h16 ?h17 ?h18 ?h19 ?h20 ?h21 ?h22 ?h23 ?h24 ?h25 ?h26 ?h27 ?h28 ?h29 ?h30 ?h31 ?h32 ?h33 ?h34 ?h35 ?h36 ?h37 ?h38 ?h39 ?h40 ?h41 ?h42 ?hh ?z0 ?z1 ?z2 ?z3 ?z4 ?z5 ?z6 ?z7 ?z8 ?z9 ?z10 ?z11 ?z12 ?z13 ?z14
    (case h1 | h2 | h3 | h4 | h5 | h6 | h7 | h8 | h9 | h10 | h11 | h12 | h13 | h14 | h15 | h16 | h17 | h18 | h19 | h20 | h21 | h22 | h23 | h24 | h25 | h26 | h27 | h28 | h29 | h30 | h31 | h32 | h33 | h34 | h35 | h36 | h37 | h38 | h39 | h40 | h41 | h42 =>
      refine' M.FnAt.mk ?a ?l ?c ?k
      (case a => k_is)
      (case l => k_is)
      (case c => k_is)
      (case k => k_is))
    (case hh => exact ⟨_, _, _, by k_is, by k_is, rfl, rfl, rfl, by rfl, by rfl⟩)
    (case z0 | z1 | z2 | z3 | z4 | z5 | z6 | z7 | z8 | z9 | z10 | z11 | z12 | z13 | z14 => k_is)
end
