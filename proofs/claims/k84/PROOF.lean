import PyProof.Rows.All
import Wide.All
import OpenK.AllK
import Wide.FinOn
import Lean
import PyProof.EqAt
import PyProof.EqKinds
import PyProof.TupleCall
import PyProof.Rows.Range3
import PyProof.ZipIter
import PyProof.Draws
import PyProof.EnumMake
import PyProof.Rows.FactsTup
import PyProof.LayNew
import PyProof.Rows.SeqMore2
import PyProof.Rows.RuleIs
import KE.KRevIter
import PyProof.P3In
import KE.KSortTup
import PyProof.Rows.SortWalk
import PyProof.Rows.SetFrom
import PySem.Challenge.RW_tellsum_k84_whole_books_of_a_line
set_option Elab.async false
set_option linter.all false
set_option bootstrap.genMatcherCode false
set_option compiler.extract_closed false
set_option maxRecDepth 100000
theorem zu0(h:True:=by first|exact .inl rfl|exact .inr rfl|assumption):True:=trivial
theorem zu1(h:True:=by decide):True:=trivial
theorem zu2(h:True:=by first|exact nobehind _ (by decide) (by decide)|rfl):True:=trivial
theorem zu3(h:True:=by rfl):True:=trivial
theorem zu4(h:True:=by intro _;rfl):True:=trivial
theorem zu5(h:True:=by with_unfolding_all rfl):True:=trivial
theorem zu6(h:True:=by first|exact Or.inl rfl|exact Or.inr (Or.inl rfl)|exact Or.inr (Or.inr rfl)):True:=trivial
theorem zu7(h:True:=by exact fun _ _=>rfl):True:=trivial
theorem zu8(h:True:=by decide+kernel):True:=trivial
theorem zu9(h:True:=by exact fun _=>rfl):True:=trivial
theorem zu10(h:True:=by first|exact Or.inl rfl|exact Or.inr rfl):True:=trivial
theorem zu11(h:True:=by kernel_rfl):True:=trivial
noncomputable section
namespace L2
open PyProof.Rows PySem PySem.Spec
variable {xs vs:List V} {us its:List Value} {x m qual:Str} {u cd:Value} {H:Hp} {a b it C dx:Addr} {o:HO} {w:World} {h:Heap} {g':Array GenState} {t' i j n:Nat} {d':Drawn} {ch fp:List Addr} {e c tg:Expr} {pins' pins:List (Addr×Obj)} {N ns ps:List Str} {A:Around} {E Q:Value->Shared->Prop} {v y:V} {X:Cx} {t te:TE} {s s':Shared} {pos:Pos} {σ:St} {op:CmpOp} {K:W.Frag} {f:Value->Value->Sem Value} {es:List Expr} {g:Int->Int->Int} {ta:TA} {p:Addr×Obj} {pl:Sem Bool} {body:List Stmt} {r:V->Hp->VK->Prop} {mA mg:Str->Option Value} {prog:Program} {outer:List Env} {fd:FuncData} {kindOf:Str->Option NameKind} {sc scope:Scope} {CX:CXT} {params:Arguments}
noncomputable abbrev Key:=Sum Int Str
noncomputable def zit:Key->Value->Bool
 | .inl k,v=>Value.isInt k v
 | .inr x,v=>Value.isStrOf x v
noncomputable def keyH (w:World):Key->Int
 | .inl k=>hashInt k
 | .inr x=>hashStr w x
theorem zaE:∀{k:Key} {v:Value},zit k v=true->(∃i t,k=Sum.inl i/\v=Value.int i t)\/(∃x t,k=Sum.inr x/\v=Value.str x t)
 | .inl i,v,h=>by
  obtain⟨t,e⟩:=Value.isInt_shape (k:=i) (v:=v) h
  exact .inl ⟨i,t,rfl,e⟩
 | .inr x,v,h=>by
  obtain⟨t,e⟩:=Value.isStrOf_shape (x:=x) (v:=v) h
  exact .inr ⟨x,t,rfl,e⟩
theorem zjt (i:Int)(t:Tok):zit (.inl i) (.int i t)=true:=by simp[zit,Value.isInt]
theorem zkE (x:Str)(t:Tok):zit (.inr x) (.str x t)=true:=by simp[zit,Value.isStrOf]
theorem key_ll (a b:Int):decide ((Sum.inl a:Key)=Sum.inl b)=(a==b):=by
 by_cases e:a=b
 ·subst e;simp
 ·have h:¬(Sum.inl a:Key)=Sum.inl b:=fun q=>e (Sum.inl.inj q)
  rw[decide_eq_false h]
  exact(beq_eq_false_iff_ne.mpr e).symm
theorem key_rr (a b:Str):decide ((Sum.inr a:Key)=Sum.inr b)=decide (a=b):=by
 by_cases e:a=b
 ·subst e;simp
 ·have h:¬(Sum.inr a:Key)=Sum.inr b:=fun q=>e (Sum.inr.inj q)
  rw[decide_eq_false h,decide_eq_false e]
theorem key_lr (a:Int)(b:Str):decide ((Sum.inl a:Key)=Sum.inr b)=false:=decide_eq_false (fun q=>nomatch q)
theorem key_rl (a:Str)(b:Int):decide ((Sum.inr a:Key)=Sum.inl b)=false:=decide_eq_false (fun q=>nomatch q)
noncomputable def zaU (prog:Program)(w:World):PySem.KeyKind prog w Key where
 is:=zit
 hash:=keyH w
 inj:=fun v a b ha hb=>by
  rcases zaE ha with⟨i,t,rfl,rfl⟩|⟨x,t,rfl,rfl⟩
  ·rcases zaE hb with⟨j,u,rfl,e⟩|⟨y,u,rfl,e⟩
   ·injection e with e1 _;rw[e1]
   ·exact nomatch e
  ·rcases zaE hb with⟨j,u,rfl,e⟩|⟨y,u,rfl,e⟩
   ·exact nomatch e
   ·injection e with e1 _;rw[e1]
 byValue:=fun k v h=>by
  rcases zaE h with⟨i,t,rfl,rfl⟩|⟨x,t,rfl,rfl⟩<;>rfl
 pyHash:=fun hv h=>by
  rcases zaE hv with⟨i,t,rfl,rfl⟩|⟨x,t,rfl,rfl⟩
  ·exact wpAny_pyHash_int h
  ·exact wpAny_pyHash_str h
 eqBool:=fun hu hv h=>by
  rcases zaE hu with⟨i,t,rfl,rfl⟩|⟨x,t,rfl,rfl⟩
  ·rcases zaE hv with⟨j,u,rfl,rfl⟩|⟨y,u,rfl,rfl⟩
   ·rw[key_ll]at h;exact wpAny_eqBool_int h
   ·rw[key_lr]at h;exact SeqAt.EqAt.int_str i t y u _ _ _ _ h
  ·rcases zaE hv with⟨j,u,rfl,rfl⟩|⟨y,u,rfl,rfl⟩
   ·rw[key_rl]at h;exact SeqAt.EqAt.str_int x t j u _ _ _ _ h
   ·rw[key_rr]at h;exact wpAny_eqBool_str h
 «strs»:=fun k x t v h=>by
  rcases zaE h with⟨i,u,rfl,e⟩|⟨y,u,rfl,e⟩
  ·exact nomatch e
  ·injection e with e1 _
   subst e1
   cases v<;>rfl
theorem zg5 (prog:Program)(w:World)(i:Int)(t:Tok):(zaU prog w).is (.inl i) (.int i t)=true:=zjt i t
theorem zgJ (prog:Program)(w:World)(x:Str)(t:Tok):(zaU prog w).is (.inr x) (.str x t)=true:=zkE x t
inductive V where
 |non|bl (b:Bool)|int (i:Int)|str (x:Str)|byt (b:Array UInt8)|flt (b:UInt64)|ref (a:Addr)|ty (n:String)
 deriving DecidableEq
noncomputable def RelV:V->Value->Prop
 | .non,u=>u=Value.none
 | .bl b,u=>u=Value.bool b
 | .int i,u=>∃t,u=Value.int i t
 | .str x,u=>∃t,u=Value.str x t
 | .byt b,u=>∃t,u=Value.bytes b t
 | .flt b,u=>∃t,u=Value.float b t
 | .ref a,u=>u=Value.ref a
 | .ty n,u=>u=Value.type n
noncomputable abbrev Vals:List V->List Value->Prop:=Paired RelV
theorem Vals.length (r:Vals xs us):xs.length=us.length:=Paired.length r
theorem Vals.get:∀{xs:List V} {us:List Value} {i:Nat} {x:V},Vals xs us->xs[i]? =some x->∃u,us[i]? =some u/\RelV x u
 |_,_,_,_,.nil,e=>by simp at e
 |_,_,0,_,.cons r _,e=>by simp at e;subst e;exact⟨_,rfl,r⟩
 |_,_,i+1,x,.cons _ t,e=>by
  obtain⟨u,h1,h2⟩:=Vals.get (i:=i) (x:=x) t (by simpa using e)
  exact⟨u,by simpa using h1,h2⟩
theorem Vals.set {x:V}(r:RelV x u):∀{xs:List V} {us:List Value} (i:Nat),Vals xs us->Vals (xs.set i x) (us.set i u)
 |_,_,_,.nil=> .nil
 |_,_,0,.cons _ t=> .cons r t
 |_,_,i+1,.cons q t=> .cons q (Vals.set r i t)
theorem Vals.append:∀{xs ys:List V} {us ws:List Value},Vals xs us->Vals ys ws->Vals (xs++ys) (us++ws)
 |_,_,_,_,.nil,s=>s
 |_,_,_,_,.cons r t,s=> .cons r (Vals.append t s)
theorem Vals.take:∀{xs:List V} {us:List Value} (n:Nat),Vals xs us->Vals (xs.take n) (us.take n)
 |_,_,0,_=> .nil
 |_,_,_+1,.nil=> .nil
 |_,_,n+1,.cons r t=> .cons r (Vals.take n t)
theorem Vals.drop:∀{xs:List V} {us:List Value} (n:Nat),Vals xs us->Vals (xs.drop n) (us.drop n)
 |_,_,0,r=>r
 |_,_,_+1,.nil=> .nil
 |_,_,n+1,.cons _ t=>Vals.drop n t
theorem Vals.none_of:∀{xs:List V} {us:List Value} {i:Nat},Vals xs us->xs[i]? =none->us[i]? =none:=fun{xs us i} r e=>by
 have h1:=r.length
 have h2:xs.length<=i:=List.getElem?_eq_none_iff.mp e
 exact List.getElem?_eq_none_iff.mpr (by lia)
noncomputable def RelO:Option V->Option Value->Prop
 |some v,some u=>RelV v u
 |none,none=>True
 |_,_=>False
noncomputable def KV {κ:Type}:List (κ×V)->List (κ×Value)->Prop:=Paired fun(p:κ×V) (q:κ×Value)=>p.1=q.1/\RelV p.2 q.2
noncomputable def kV:Key->V
 | .inl i=> .int i
 | .inr x=> .str x
inductive HO where
 /-- a list -/
 |lst (xs:List V)
 /-- a tuple (never changes) -/
 |tup (xs:List V)
 /-- a dict whose keys are ints and texts; one whose keys are tuples of ints and texts (the empty one is both) -/
 |dK (kvs:List (Key×V))|dT (kvs:List (List Key×V))
 /-- a set of ints: its members, its size -/
 |set (S:Int->Bool) (n:Nat)
 /-- an instance of the class at C, its dict at dx, its attributes -/
 |ins (C dx:Addr) (fs:List (Str×V))
 /-- the dict of the instance at x -/
 |own (x:Addr)
 /-- the dict of an exception -/
 |xd (fs:List (Str×V))
 /-- a bound method, f of x -/
 |met (f x:Addr)
 /-- a range object lo, lo + 1, .. below hi -/
 |rng (lo hi:Int)
 /-- a thing that is known to the object (the script; a dict while a loop walks it): read, never written while it is so -/
 |frz (o:Obj) (u:HO)
 /-- a code object's table -/
 |tbl (ps:Array Value)
 /-- any other thing, by what is true of its one object (a def of one's own: SetO a S n := HO.ext fun h => ..) -/
 |ext (φ:Heap->Prop)
noncomputable abbrev Hp:=Addr->Option HO
noncomputable def upd (H:Hp)(a:Addr)(o:HO):Hp:=fun b=>if b=a then some o else H b
theorem zaf:upd H a o a=some o:=by unfold upd;rw[if_pos rfl]
theorem zad (h:b≠a):upd H a o b=H b:=by unfold upd;rw[if_neg h]
theorem ne_of {o u:HO}(h:H a=some o)(h':H b=some u)(d:o≠u):a≠b:=by
 intro e;subst e;rw[h]at h';exact d (Option.some.inj h')
theorem zan (h:H a=some o)(h':H b=none):a≠b:=by
 intro e;subst e;rw[h]at h';cases h'
section
variable (P:Program) (w:World)
noncomputable def ObjOk (H:Hp)(h:Heap)(a:Addr):HO->Prop
 | .lst xs=>xs.length<=sizeLine/\∃(its:List Value) (n:Nat),Vals xs its/\h.get? a=some {cls:= .type "list",data:= .seq its.toArray n}
 | .tup xs=>xs.length<=sizeLine/\∃its:List Value,Vals xs its/\IsTup h a its.toArray
 | .dK kvs=>kvs.length<=sizeLine/\(a==sysModules)=false/\∃vs,KV kvs vs/\h.DictOf (zaU P w) a vs
 | .dT kvs=>kvs.length<=sizeLine/\(a==sysModules)=false/\∃xs:List (List Key×Addr×Value),
   Paired (fun(p:List Key×V) (q:List Key×Addr×Value)=>p.1=q.1/\H q.2.1=some (.tup (p.1.map kV))/\RelV p.2 q.2.2) kvs xs/\
   ∃o es ep,h.get? a=some o/\o.ExactDict/\o.data= .dict es ep/\es.toList=xs.map (entryOfKey (tupleKind (zaU P w)))/\(xs.map (·.1)).Nodup
 | .set S n=>h.SetOf (intKind P w) a S n
 | .ins C dx fs=>H dx=some (.own a)/\fs.length<=1000/\dx≠a/\h.get? a=some (W.instObj C dx)/\
   ∃mA,h.Ns1 dx mA/\(∀f,RelO (fs.lookup f) (mA f))/\PySem.Within mA (fs.map (·.1))
 | .own _=>∃o,h.get? a=some o
 | .xd fs=>∃mA,h.Ns1 a mA/\∀f,RelO (fs.lookup f) (mA f)
 | .rng lo hi=>∃t u v,h.get? a=some {cls:= .type "range",data:= .fields #[.int lo t,.int hi u,.int 1 v]}
 | .frz o u=>h.get? a=some o/\ObjOk H h a u
 | .tbl ps=>h.get? a=some {cls:= .none,data:= .fields ps}
 | .met f x=>h.get? a=some (W.methodObj (.ref f) (.ref x))
 | .ext φ=>φ h/\(∃o,h.get? a=some o)/\∀h1 h2:Heap,φ h1->(∀o,h1.get? a=some o->h2.get? a=some o)->φ h2
noncomputable def HOk (H:Hp)(h:Heap):Prop:=∀a o,H a=some o->ObjOk P w H h a o
end
section
variable {P:Program} {w:World} {H H':Hp} {h h':Heap} {a:Addr} {o:HO}
theorem ObjOk.lt (x:ObjOk P w H h a o):a<h.objs.size:=by
 cases o with
 |lst xs=>obtain⟨_,_,_,_,e⟩:=x;exact Heap.lt_size e
 |tup xs=>obtain⟨_,_,_,p⟩:=x;exact p.lt
 |dK kvs=>obtain⟨_,_,_,_,o,_,_,e,_⟩:=x;exact Heap.lt_size e
 |dT kvs=>obtain⟨_,_,_,_,o,_,_,e,_⟩:=x;exact Heap.lt_size e
 |set S n=>obtain⟨o,_,_,_,e,_⟩:=x;exact Heap.lt_size e
 |ins C dx fs=>obtain⟨_,_,_,e,_⟩:=x;exact Heap.lt_size e
 |own y=>obtain⟨_,e⟩:=x;exact Heap.lt_size e
 |xd fs=>obtain⟨_,⟨_,_,_,e,_⟩,_⟩:=x;exact Heap.lt_size e
 |rng lo hi=>obtain⟨_,_,_,e⟩:=x;exact Heap.lt_size e
 |frz ob u=>obtain⟨e,_⟩:=x;exact Heap.lt_size e
 |tbl ps=>exact Heap.lt_size (show h.get? a=some _ from x)
 |met f y=>exact Heap.lt_size (show h.get? a=some _ from x)
 |ext φ=>obtain⟨_,⟨_,e⟩,_⟩:=x;exact Heap.lt_size e
theorem Paired.mapP {α β:Type}{F G:α->β->Prop}:∀{l₁:List α} {l₂:List β},Paired F l₁ l₂->(∀a b,F a b->G a b)->Paired G l₁ l₂
 |_,_,.nil,_=> .nil
 |_,_,.cons r t,f=> .cons (f _ _ r) (Paired.mapP t f)
theorem ObjOk.stay (x:ObjOk P w H h a o)(k:∀b u,(b=a\/H b=some (.own a))->h.get? b=some u->h'.get? b=some u)
  (ho:∀b,H b=some (.own a)->H' b=some (.own a)) (ht:∀b xs,H b=some (.tup xs)->H' b=some (.tup xs)):ObjOk P w H' h' a o:=by
 induction o with
 |lst xs=>obtain⟨z,its,n,r,e⟩:=x;exact⟨z,its,n,r,k _ _ (.inl rfl) e⟩
 |tup xs=>obtain⟨z,its,r,ob,e,c⟩:=x;exact⟨z,its,r,ob,k _ _ (.inl rfl) e,c⟩
 |dK kvs=>obtain⟨z,y,vs,r,ob,es,ep,e,c⟩:=x;exact⟨z,y,vs,r,ob,es,ep,k _ _ (.inl rfl) e,c⟩
 |dT kvs=>
  obtain⟨z,y,xs,r,ob,es,ep,e,c⟩:=x
  exact⟨z,y,xs,Paired.mapP r fun p q z=>⟨z.1,ht _ _ z.2.1,z.2.2⟩,ob,es,ep,k _ _ (.inl rfl) e,c⟩
 |set S n=>obtain⟨ob,es,ep,t,e,c⟩:=x;exact⟨ob,es,ep,t,k _ _ (.inl rfl) e,c⟩
 |ins C dx fs=>
  obtain⟨d,z,ne,e,mA,⟨od,es,ep,e2,c⟩,r⟩:=x
  exact⟨ho _ d,z,ne,k _ _ (.inl rfl) e,mA,⟨od,es,ep,k _ _ (.inr d) e2,c⟩,r⟩
 |own y=>obtain⟨ob,e⟩:=x;exact⟨ob,k _ _ (.inl rfl) e⟩
 |xd fs=>obtain⟨mA,⟨od,es,ep,e,c⟩,r⟩:=x;exact⟨mA,⟨od,es,ep,k _ _ (.inl rfl) e,c⟩,r⟩
 |rng lo hi=>obtain⟨t,u,v,e⟩:=x;exact⟨t,u,v,k _ _ (.inl rfl) e⟩
 |frz ob u ih=>obtain⟨e,q⟩:=x;exact⟨k _ _ (.inl rfl) e,ih q⟩
 |tbl ps=>
  have e:h.get? a=some {cls:= .none,data:= .fields ps}:=x
  show h'.get? a=some {cls:= .none,data:= .fields ps}
  exact k a _ (.inl rfl) e
 |met f y=>
  have e:h.get? a=some (W.methodObj (.ref f) (.ref y)):=x
  show h'.get? a=some (W.methodObj (.ref f) (.ref y))
  exact k a _ (.inl rfl) e
 |ext φ=>obtain⟨p,⟨o,e⟩,st⟩:=x;exact⟨st _ _ p fun o q=>k _ _ (.inl rfl) q,⟨o,k _ _ (.inl rfl) e⟩,st⟩
theorem HOk.lt (x:HOk P w H h)(e:H a=some o):a<h.objs.size:=(x a o e).lt
theorem HOk.fresh (x:HOk P w H h)(e:h.objs.size<=a):H a=none:=by
 cases q:H a with
 |none=>rfl
 |some u=>exact absurd (Nat.lt_of_lt_of_le (x.lt q) e) (Nat.lt_irrefl _)
theorem HOk.kept (x:HOk P w H h)(k:∀b u,h.get? b=some u->h'.get? b=some u):HOk P w H h':=fun a o e=>
 (x a o e).stay (fun b u _ q=>k b u q) (fun _ q=>q) fun _ _ q=>q
theorem HOk.laid (x:HOk P w H h)(k:∀b u,h.get? b=some u->h'.get? b=some u)(hp:h.objs.size<=a)(new:ObjOk P w (upd H a o) h' a o):HOk P w (upd H a o) h':=fun b u e=>by
 have hn:=x.fresh hp
 by_cases hb:b=a
 ·subst hb;rw[zaf]at e;cases e;exact new
 ·rw[zad hb]at e
  exact(x b u e).stay (fun c v _ q=>k c v q) (fun c q=>by rw[zad (zan q hn)];exact q) fun c xs q=>by rw[zad (zan q hn)];exact q
end
noncomputable def Rd (H:Hp)(a:Addr)(u:HO):Prop:=H a=some u\/∃o,H a=some (.frz o u)
theorem Rd.ok {P:Program}{u:HO}(r:Rd H a u)(x:HOk P w H h):ObjOk P w H h a u:=by
 rcases r with r|⟨o,r⟩
 ·exact x a u r
 ·obtain⟨_,q⟩:=x a _ r
  exact q
noncomputable def Mut:Option HO->Prop
 |some (.lst _)=>True
 |some (.dK _)=>True
 |some (.dT _)=>True
 |some (.set _ _)=>True
 |some (.ins _ _ _)=>True
 |some (.ext _)=>True
 |_=>False
section
variable {P:Program} {w:World} {H:Hp} {h h':Heap} {x e:Addr} {o':HO}
theorem HOk.write (ok:HOk P w H h)(mu:Mut (H x))(he:e=x\/H e=some (.own x))(k:∀b u,b≠e->h.get? b=some u->h'.get? b=some u)(heo:∃u,h'.get? e=some u)
  (new:ObjOk P w (upd H x o') h' x o'):HOk P w (upd H x o') h':=fun b u q=>by
 have nown:∀c y,H c=some (.own y)->c≠x:=fun c y r z=>by subst z;rw[r]at mu;exact mu
 have ntup:∀c xs,H c=some (.tup xs)->c≠x:=fun c xs r z=>by subst z;rw[r]at mu;exact mu
 by_cases hb:b=x
 ·subst hb;rw[zaf]at q;cases q;exact new
 ·rw[zad hb]at q
  by_cases hbe:b=e
  ·have q':H b=some (.own x):=by
    rcases he with z|z
    ·exact absurd (hbe.trans z) hb
    ·rw[hbe];exact z
   rw[q]at q';cases q'
   obtain⟨v,hv⟩:=heo
   exact⟨v,by rw[hbe];exact hv⟩
  ·refine(ok b u q).stay (fun c v hc r=>k c v ?_ r) (fun c r=>by rw[zad (nown c b r)];exact r) fun c xs r=>by rw[zad (ntup c xs r)];exact r
   rcases hc with rfl|hc
   ·exact hbe
   ·rintro rfl
    rcases he with z|z
    ·exact nown c b hc z
    ·rw[hc]at z;cases z;exact hb rfl
end
structure Un (fs ex:List Addr) (H H':Hp) (h h':Heap):Prop where
 keep:∀b o,h.get? b=some o->H b=none->b∉fs->b∉ex->h'.get? b=some o
 slot:∀b o,h.get? b=some o->H b=none->b∈fs->b∉ex->∃sl,h'.get? b=some {o with slots:=sl}
 free:∀b o,h.get? b=some o->H b=none->b∉ex->H' b=none
 there:∀b o,h.get? b=some o->b∉ex->∃o',h'.get? b=some o'
 tups:∀b xs,H b=some (.tup xs)->H' b=some (.tup xs)
 frzs:∀b o u,H b=some (.frz o u)->H' b=some (.frz o u)
 tbls:∀b ps,H b=some (.tbl ps)->∃more,H' b=some (.tbl (ps++more))
section
variable {fs fs' ex ex':List Addr} {H H1 H2:Hp} {h h1 h2 h':Heap} {a x e:Addr} {o:HO}
theorem Un.any (u:Un fs ex H H1 h h1){ob:Obj}(q:h.get? b=some ob)(n:H b=none)(hx:b∉ex):∃sl,h1.get? b=some {ob with slots:=sl}:=by
 by_cases hb:b∈fs
 ·exact u.slot b ob q n hb hx
 ·exact⟨ob.slots,u.keep b ob q n hb hx⟩
theorem Un.kept (k:∀b u,h.get? b=some u->h'.get? b=some u):Un fs ex H H h h':=
 ⟨fun b ob q _ _ _=>k b ob q,fun b ob q _ _ _=>⟨ob.slots,k b ob q⟩,fun _ _ _ n _=>n,fun b ob q _=>⟨ob,k b ob q⟩,fun _ _ q=>q,fun _ _ _ q=>q,fun _ ps q=>⟨#[],by rw[q];simp⟩⟩
theorem Un.refl:Un fs ex H H h h:=Un.kept fun _ _ q=>q
theorem Un.laid (k:∀b u,h.get? b=some u->h'.get? b=some u)(hp:h.objs.size<=a)(hn:H a=none):Un fs ex H (upd H a o) h h' where
 keep:=fun b u q _ _ _=>k b u q
 slot:=fun b u q _ _ _=>⟨u.slots,k b u q⟩
 free:=fun b u q n _=>by rw[zad (Nat.ne_of_lt (Nat.lt_of_lt_of_le (Heap.lt_size q) hp))];exact n
 there:=fun b u q _=>⟨u,k b u q⟩
 tups:=fun b xs q=>by rw[zad (zan q hn)];exact q
 frzs:=fun b u xs q=>by rw[zad (zan q hn)];exact q
 tbls:=fun b ps q=>⟨#[],by rw[zad (zan q hn),q];simp⟩
theorem Un.write (mu:Mut (H x))(he:e=x\/H e=some (.own x))(k:∀b u,b≠e->h.get? b=some u->h'.get? b=some u)(heo:∃u,h'.get? e=some u):Un fs ex H (upd H x o) h h':=by
 have hx:∀b,H b=none->b≠x:=fun b n z=>by subst z;rw[n]at mu;exact mu
 have hb:∀b,H b=none->b≠e:=fun b n z=>by
  subst z
  rcases he with r|r
  ·exact hx b n r
  ·rw[n]at r;cases r
 have hm:∀b u,H b=some u->¬Mut (some u)->b≠x:=fun b u q nm z=>by subst z;rw[q]at mu;exact nm mu
 refine⟨fun b u q n _ _=>k b u (hb b n) q,fun b u q n _ _=>⟨u.slots,k b u (hb b n) q⟩,fun b u q n _=>by rw[zad (hx b n)];exact n,fun b u q _=>?_,
  fun b xs q=>by rw[zad (hm b _ q fun z=>z)];exact q,fun b u xs q=>by rw[zad (hm b _ q fun z=>z)];exact q,fun b ps q=>⟨#[],by rw[zad (hm b _ q fun z=>z),q];simp⟩⟩
 by_cases hbe:b=e
 ·subst hbe;exact heo
 ·exact⟨u,k b u hbe q⟩
end
noncomputable def trk (h:Heap)(H:Hp):List Addr:=(List.range h.objs.size).filter fun a=>(H a).isSome
noncomputable def hidT (h:Heap)(H:Hp):Heap:=W.hideAll h (trk h H)
theorem zjM (h:Heap)(H:Hp):(hidT h H).objs.size=h.objs.size:=W.hideAll_size _ _
theorem hidT_get {o:Obj}(e:h.get? b=some o)(n:H b=none):(hidT h H).get? b=some o:=
 W.hideAll_get _ e fun hm=>by
  have q:(H b).isSome=true:=(List.mem_filter.mp hm).2
  rw[n]at q;simp at q
theorem of_hidT {o:Obj}(e:(hidT h H).get? b=some o):h.get? b=some o/\H b=none:=by
 have e':h.get? b=some o:=W.of_hideAll (trk h H) e
 refine⟨e',?_⟩
 cases q:H b with
 |none=>rfl
 |some x=>
  have hm:b∈trk h H:=List.mem_filter.mpr ⟨List.mem_range.mpr (Heap.lt_size e'),by simp[q]⟩
  have z:(hidT h H).get? b=none:=W.hideAll_none (trk h H) hm
  rw[z]at e;cases e
noncomputable def allNews (g h:Heap)(L:Addr):List (Addr×Obj):=(List.range h.objs.size).filterMap fun a=>if a=L\/(g.get? a).isSome=true then none else(h.get? a).map fun o=>(a,o)
noncomputable def rest (g h:Heap)(L d:Addr):List (Addr×Obj):=(allNews g h L).filter fun p=>decide (p.1≠d)
structure Mod (K:W.Frag) (mg:Str->Option Value) (base:Heap):Prop where
 kin:K.In base
 glob:base.Ns mainGlobals mg
 blt:∃mb,base.Ns builtinsNs mb/\∀x:Str,x≠"__name__"->mb x=bootBuiltins x
 nolimit:base.NoLimit
structure Cx where
 prog:Program
 w:World
 K:W.Frag
 mg:Str->Option Value
 base:Heap
 A:Around
 N:List Str
 s₀:Shared
 H₀:Hp
 env:Env
 outer:List Env
 stack:List Env
 ex:List Addr
 fn:Str->Bool
 calm:Bool
 pn:List (Addr×Obj)
 xe:Value->Shared->Prop
noncomputable def frs (l:List Env):List Addr:=l.filterMap (·.frame)
noncomputable abbrev Cx.fs (X:Cx):List Addr:=frs X.outer
noncomputable def Vis (sc:Scope)(x:Str):Prop:=sc.names.lookup x=some .local\/sc.names.lookup x=some .cell\/sc.names.lookup x=some .free
noncomputable def Loc (sc:Scope)(x:Str):Prop:=sc.names.lookup x=some .local\/sc.names.lookup x=some .cell
noncomputable def Look (env:Env)(h:Heap)(m:Str->Option Value)(x:Str)(u:Value):Prop:=
 (env.kindOf x=some .local/\m x=some u)\/((env.kindOf x=some .cell\/env.kindOf x=some .free)/\∃c,env.cells.lookup x=some c/\h.IsCell c (some u))
structure Cx.Ok (X:Cx):Prop where
 mod:Mod X.K X.mg X.base
 kind:X.env.scope.kind= .function
 glob:X.env.globals=mainGlobals
 blt:X.env.builtins=builtinsNs
 above:X.s₀.heap.objs.size<=X.env.locals
 inj:∀x y c,X.env.cells.lookup x=some c->X.env.cells.lookup y=some c->x=y
 has:∀x,(X.env.kindOf x=some .cell\/X.env.kindOf x=some .free)->∃c,X.env.cells.lookup x=some c
 cab:∀x c,X.fn x=true->X.env.cells.lookup x=some c->X.s₀.heap.objs.size<=c
 hd:X.calm=true->X.A.handled=none
 frames:X.A.frames=some X.stack
 stk:X.stack=X.outer\/(X.stack=X.env::X.outer/\X.env.frame=some X.env.locals)
 exf:∀b∈X.ex,b≠X.env.locals/\∀x c,X.env.cells.lookup x=some c->c≠b
 bs:∀b o,X.base.get? b=some o->X.s₀.heap.get? b=some o/\X.H₀ b=none
 bsz:X.base.objs.size<=X.s₀.heap.objs.size
 noex:∀b o,X.base.get? b=some o->b∉X.ex
 exfs:∀b∈X.ex,b∉X.fs
 funs:X.s₀.heap.FunFrames X.base X.outer
 frf:∀b∈X.fs,X.H₀ b=none
structure Inv (X:Cx) (pins:List (Addr×Obj)) (σ:List (Option V)) (H:Hp) (s:Shared):Prop where
 ok:X.Ok
 os:s.os=X.s₀.os
 bare:AllBare s.gens
 base:Un X.fs X.ex X.H₀ H X.s₀.heap s.heap
 loc:∃m,s.heap.Ns X.env.locals m/\∀(i:Nat) (x:Str) (v:V),X.N[i]? =some x->σ[i]? =some (some v)->Vis X.env.scope x->∃u,RelV v u/\Look X.env s.heap m x u
 cell:∀x c,X.env.cells.lookup x=some c->∃v,s.heap.IsCell c v
 free:H X.env.locals=none
 freeC:∀x c,X.env.cells.lookup x=some c->H c=none
 pin:∀p∈X.pn++pins,s.heap.get? p.1=some p.2/\H p.1=none/\p.1≠X.env.locals/\p.1∉X.fs/\∀v,p.2.data≠ .cell v
 hok:HOk X.prog X.w H s.heap
 len:σ.length=X.N.length
section
variable {X:Cx} {pins:List (Addr×Obj)} {σ:List (Option V)} {H H':Hp} {s:Shared} {h':Heap}
theorem Cx.Ok.nofr (ok:X.Ok){o:Obj}(e:X.base.get? b=some o):b∉X.fs:=fun hb=>by
 have:=(ok.funs.mem hb).1
 rw[e]at this;cases this
theorem Inv.bs (I:Inv X pins σ H s):∀b o,X.base.get? b=some o->s.heap.get? b=some o/\H b=none:=fun b o e=>
 ⟨I.base.keep b o (I.ok.bs b o e).1 (I.ok.bs b o e).2 (I.ok.nofr e) (I.ok.noex b o e),I.base.free b o (I.ok.bs b o e).1 (I.ok.bs b o e).2 (I.ok.noex b o e)⟩
theorem Inv.bk (I:Inv X pins σ H s):∀b o,X.base.get? b=some o->s.heap.get? b=some o:=fun b o e=>(I.bs b o e).1
theorem Inv.mod (I:Inv X pins σ H s):Mod X.K X.mg X.base:=I.ok.mod
theorem Inv.kIn (I:Inv X pins σ H s):X.K.In s.heap:=I.ok.mod.kin.keeps I.bk
theorem Inv.lt (I:Inv X pins σ H s):X.env.locals<s.heap.objs.size:=let⟨_,hn,_⟩:=I.loc;hn.lt
theorem Inv.sz (I:Inv X pins σ H s):X.s₀.heap.objs.size<=s.heap.objs.size:=Nat.le_trans I.ok.above (Nat.le_of_lt I.lt)
theorem Inv.nofs (I:Inv X pins σ H s)(h:s.heap.objs.size<=a):a∉X.fs:=fun hb=>by
 obtain⟨_,o,ho,_⟩:=I.ok.funs.mem hb
 exact absurd (Nat.lt_of_lt_of_le (Heap.lt_size ho) (Nat.le_trans I.sz h)) (Nat.lt_irrefl _)
theorem Inv.cne (I:Inv X pins σ H s):∀x c,X.env.cells.lookup x=some c->c≠X.env.locals:=fun x c e z=>by
 obtain⟨v,o,ho,hd⟩:=I.cell x c e
 obtain⟨m,⟨o',es,ep,ho',hd',_⟩,_⟩:=I.loc
 rw[z,ho']at ho;cases ho;rw[hd']at hd;cases hd
theorem Inv.funs (I:Inv X pins σ H s):s.heap.FunFrames X.base X.outer:=by
 have all:∀(l:List Env),(∀b∈frs l,b∈X.fs)->X.s₀.heap.FunFrames X.base l->s.heap.FunFrames X.base l:=by
  intro l
  induction l with
  |nil=>intro _ _;trivial
  |cons env r ih=>
   intro hs hl
   obtain⟨hk,⟨L,o,hf,hn,ho,hd⟩,hr⟩:=hl
   have hL:L∈X.fs:=hs L (by unfold frs;rw[List.filterMap_cons,hf];exact List.mem_cons_self)
   obtain⟨sl,e⟩:=I.base.slot L o ho (I.ok.frf L hL) hL fun z=>I.ok.exfs L z hL
   exact⟨hk,⟨L,_,hf,hn,e,hd⟩,ih (fun b hb=>hs b (by unfold frs;rw[List.filterMap_cons,hf];exact List.mem_cons_of_mem _ hb)) hr⟩
 exact all X.outer (fun _ hb=>hb) I.ok.funs
theorem Inv.stack (I:Inv X pins σ H s):s.heap.FunFrames X.base X.stack:=by
 rcases I.ok.stk with e|⟨e,hf⟩
 ·rw[e];exact I.funs
 ·rw[e]
  obtain⟨m,hn,_⟩:=I.loc
  refine .cons (by rw[I.ok.kind];decide) hf hn ?_ I.funs
  exact Heap.get?_none_of_le (Nat.le_trans I.ok.bsz I.ok.above)
theorem Inv.stkSub (I:Inv X pins σ H s):∀b∈frs X.stack,b∈X.env.locals::X.fs:=fun b hb=>by
 rcases I.ok.stk with e|⟨e,hf⟩
 ·rw[e]at hb;exact List.mem_cons_of_mem _ hb
 ·rw[e]at hb
  unfold frs at hb
  rw[List.filterMap_cons,hf]at hb
  exact hb
theorem Inv.stkFree (I:Inv X pins σ H s):∀b∈frs X.stack,H b=none:=fun b hb=>by
 rcases List.mem_cons.mp (I.stkSub b hb)with e|hb
 ·rw[e];exact I.free
 ·obtain⟨_,o,ho,_⟩:=I.ok.funs.mem hb
  exact I.base.free b o ho (I.ok.frf b hb) fun z=>I.ok.exfs b z hb
theorem Inv.step (I:Inv X pins σ H s)
  (hch:∀b∈ch,(b∈X.ex\/X.s₀.heap.objs.size<=b)/\b≠X.env.locals/\(∀x c,X.env.cells.lookup x=some c->c≠b)/\∀p∈X.pn++pins,p.1≠b)
  (keep:∀b o,b≠X.env.locals->b∉X.fs->b∉ch->s.heap.get? b=some o->H b=none->h'.get? b=some o)
  (slot:∀b o,b≠X.env.locals->b∈X.fs->b∉ch->s.heap.get? b=some o->H b=none->∃sl,h'.get? b=some {o with slots:=sl}) (free:∀b o,b∉ch->s.heap.get? b=some o->H b=none->H' b=none)
  (there:∀b o,b∉ch->s.heap.get? b=some o->∃o',h'.get? b=some o')
  (tups:∀b xs,H b=some (.tup xs)->H' b=some (.tup xs)) (frzs:∀b o u,H b=some (.frz o u)->H' b=some (.frz o u)) (tbls:∀b ps,H b=some (.tbl ps)->∃more,H' b=some (.tbl (ps++more)))
  (ns:∀m,s.heap.Ns X.env.locals m->h'.Ns X.env.locals m) (hok:HOk X.prog X.w H' h') (hg:AllBare g'):
  Inv X pins σ H' {s with heap:=h',gens:=g',drawn:=d',toks:=t'}:=by
 have neL:∀b o,X.s₀.heap.get? b=some o->b≠X.env.locals:=fun b o e=>Nat.ne_of_lt (Nat.lt_of_lt_of_le (Heap.lt_size e) I.ok.above)
 have neC:∀b o,X.s₀.heap.get? b=some o->b∉X.ex->b∉ch:=fun b o e hx hb=>by
  rcases(hch b hb).1 with z|z
  ·exact hx z
  ·exact absurd (Nat.lt_of_lt_of_le (Heap.lt_size e) z) (Nat.lt_irrefl _)
 have cellK:∀x c,X.env.cells.lookup x=some c->∀v,s.heap.IsCell c v->h'.IsCell c v:=fun x c e v ⟨o,ho,hd⟩=>by
  have nch:c∉ch:=fun z=>(hch c z).2.2.1 x c e rfl
  by_cases hc:c∈X.fs
  ·obtain⟨sl,q⟩:=slot c o (I.cne x c e) hc nch ho (I.freeC x c e)
   exact⟨_,q,hd⟩
  ·exact⟨o,keep c o (I.cne x c e) hc nch ho (I.freeC x c e),hd⟩
 refine⟨I.ok,I.os,hg,⟨fun b o e n hb hx=>?_,fun b o e n hb hx=>?_,fun b o e n hx=>?_,fun b o e hx=>?_,fun b xs e=>tups b xs (I.base.tups b xs e),fun b o xs e=>frzs b o xs (I.base.frzs b o xs e),fun b ps e=>?_⟩,?_,fun x c e=>?_,?_,fun x c e=>?_,fun p hp=>?_,hok,I.len⟩
 ·exact keep b o (neL b o e) hb (neC b o e hx) (I.base.keep b o e n hb hx) (I.base.free b o e n hx)
 ·obtain⟨sl,e1⟩:=I.base.slot b o e n hb hx
  obtain⟨sl',e2⟩:=slot b _ (neL b o e) hb (neC b o e hx) e1 (I.base.free b o e n hx)
  exact⟨sl',e2⟩
 ·obtain⟨o',e1⟩:=I.base.there b o e hx
  exact free b o' (neC b o e hx) e1 (I.base.free b o e n hx)
 ·obtain⟨o',e1⟩:=I.base.there b o e hx
  exact there b o' (neC b o e hx) e1
 ·obtain⟨m1,e1⟩:=I.base.tbls b ps e
  obtain⟨m2,e2⟩:=tbls b _ e1
  exact⟨m1++m2,by rw[e2,Array.append_assoc]⟩
 ·obtain⟨m,hn,hl⟩:=I.loc
  refine⟨m,ns m hn,fun i x v e1 e2 e3=>?_⟩
  obtain⟨u,r,l⟩:=hl i x v e1 e2 e3
  refine⟨u,r,?_⟩
  rcases l with l|⟨k,c,e,z⟩
  ·exact .inl l
  ·exact .inr ⟨k,c,e,cellK x c e _ z⟩
 ·obtain⟨v,z⟩:=I.cell x c e
  exact⟨v,cellK x c e v z⟩
 ·obtain⟨m,⟨o,_,_,ho,_⟩,_⟩:=I.loc
  exact free _ o (fun z=>(hch _ z).2.1 rfl) ho I.free
 ·obtain⟨v,o,ho,hd⟩:=I.cell x c e
  exact free c o (fun z=>(hch c z).2.2.1 x c e rfl) ho (I.freeC x c e)
 ·obtain⟨e,n,ne,nf,d⟩:=I.pin p hp
  have nch:p.1∉ch:=fun z=>(hch p.1 z).2.2.2 p hp rfl
  exact⟨keep p.1 p.2 ne nf nch e n,free p.1 p.2 nch e n,ne,nf,d⟩
theorem Inv.un (I:Inv X pins σ H s)(u:Un X.fs [] H H' s.heap h')(hok:HOk X.prog X.w H' h'):Inv X pins σ H' {s with heap:=h',toks:=t'}:=by
  obtain⟨m,⟨o,es,ep,ho,r⟩,_⟩:=id I.loc
  obtain⟨sl,hL⟩:=u.any ho I.free (by simp)
  exact I.step (g':=s.gens) (d':=s.drawn) (ch:=[]) (fun _ z=>nomatch z) (fun b o _ hb _ e n=>u.keep b o e n hb (by simp)) (fun b o _ hb _ e n=>u.slot b o e n hb (by simp)) (fun b o _ e n=>u.free b o e n (by simp)) (fun b o _ e=>u.there b o e (by simp)) u.tups u.frzs u.tbls (fun m' hm=>by
    obtain⟨o',es',ep',ho',r'⟩:=hm
    rw[ho]at ho';cases ho'
    exact⟨_,es',ep',hL,r'⟩) hok I.bare
theorem Inv.call {ch:List Addr}(I:Inv X pins σ H s)(u:Un (frs X.stack) ch H H' s.heap h')(hok:HOk X.prog X.w H' h')(hg:AllBare g')
  (hch:∀b∈ch,(b∈X.ex\/X.s₀.heap.objs.size<=b)/\b≠X.env.locals/\(∀x c,X.env.cells.lookup x=some c->c≠b)/\∀p∈X.pn++pins,p.1≠b):
  Inv X pins σ H' {s with heap:=h',gens:=g',drawn:=d',toks:=t'}:=by
 obtain⟨m,⟨o,es,ep,ho,r⟩,_⟩:=id I.loc
 obtain⟨sl,hL⟩:=u.any ho I.free fun z=>(hch _ z).2.1 rfl
 exact I.step (ch:=ch) hch (fun b o hL hb hc e n=>u.keep b o e n (fun z=>(List.mem_cons.mp (I.stkSub b z)).elim hL hb) hc) (fun b o _ _ hc e n=>u.any e n hc) (fun b o hc e n=>u.free b o e n hc) (fun b o hc e=>u.there b o e hc) u.tups u.frzs u.tbls (fun m' hm=>by
  obtain⟨o',es',ep',ho',r'⟩:=hm
  rw[ho]at ho';cases ho'
  exact⟨_,es',ep',hL,r'⟩) hok hg
theorem Inv.turned (I:Inv X pins σ H s)(k:∀b o,b≠it->s.heap.get? b=some o->h'.get? b=some o)(hn:H it=none)(hL:it≠X.env.locals)
  (h1:it∈X.ex\/X.s₀.heap.objs.size<=it) (h2:∀x c,X.env.cells.lookup x=some c->c≠it) (h3:∀p∈X.pn++pins,p.1≠it):Inv X pins σ H {s with heap:=h',toks:=t'}:=by
 have nit:∀b u,H b=some u->b≠it:=fun b u e z=>by rw[z,hn]at e;cases e
 refine I.step (g':=s.gens) (d':=s.drawn) (ch:=[it]) (fun b hb=>?_) (fun b o _ _ hc e _=>k b o (fun z=>hc (by simp[z])) e) (fun b o _ _ hc e _=>⟨o.slots,k b o (fun z=>hc (by simp[z])) e⟩) (fun _ _ _ _ n=>n)
  (fun b o hc e=>⟨o,k b o (fun z=>hc (by simp[z])) e⟩) (fun _ _ e=>e) (fun _ _ _ e=>e) (fun b ps e=>⟨#[],by rw[e];simp⟩) (fun m hm=>?_) (fun b u e=>?_) I.bare
 ·have e:b=it:=by simpa using hb
  subst e
  exact⟨h1,hL,h2,h3⟩
 ·obtain⟨o,es,ep,ho,r⟩:=hm
  exact⟨o,es,ep,k _ o (Ne.symm hL) ho,r⟩
 ·refine(I.hok b u e).stay (fun c v hc q=>k c v ?_ q) (fun _ q=>q) fun _ _ q=>q
  rcases hc with z|z
  ·rw[z];exact nit b u e
  ·exact nit c _ z
theorem Inv.tok (I:Inv X pins σ H s)(t:Nat):Inv X pins σ H {s with toks:=t}:=I.un (h':=s.heap) (t':=t) Un.refl I.hok
theorem Inv.kept (I:Inv X pins σ H s)(k:∀b u,s.heap.get? b=some u->h'.get? b=some u):Inv X pins σ H {s with heap:=h',toks:=t'}:=I.un (Un.kept k) (I.hok.kept k)
theorem Inv.laid (I:Inv X pins σ H s)(k:∀b u,s.heap.get? b=some u->h'.get? b=some u)(hp:s.heap.objs.size<=a)(new:ObjOk X.prog X.w (upd H a o) h' a o):
  Inv X pins σ (upd H a o) {s with heap:=h',toks:=t'}:=I.un (Un.laid k hp (I.hok.fresh hp)) (I.hok.laid k hp new)
theorem Inv.write {x e:Addr}(I:Inv X pins σ H s)(mu:Mut (H x))(he:e=x\/H e=some (.own x))(k:∀b u,b≠e->s.heap.get? b=some u->h'.get? b=some u)(heo:∃u,h'.get? e=some u)
  (new:ObjOk X.prog X.w (upd H x o) h' x o):Inv X pins σ (upd H x o) {s with heap:=h',toks:=t'}:=I.un (Un.write mu he k heo) (I.hok.write mu he k heo new)
theorem Inv.pins_of (I:Inv X pins σ H s)(h:∀p∈pins',s.heap.get? p.1=some p.2/\H p.1=none/\p.1≠X.env.locals/\p.1∉X.fs/\∀v,p.2.data≠ .cell v):Inv X pins' σ H s:=
 ⟨I.ok,I.os,I.bare,I.base,I.loc,I.cell,I.free,I.freeC,fun p hp=>(List.mem_append.mp hp).elim (fun z=>I.pin p (List.mem_append_left _ z)) (h p),I.hok,I.len⟩
theorem zhE (hN:N.Nodup)(a:N[i]? =some x)(b:N[j]? =some x):i=j:=by
 obtain⟨h1,e1⟩:=List.getElem?_eq_some_iff.mp a
 obtain⟨h2,e2⟩:=List.getElem?_eq_some_iff.mp b
 exact(List.getElem_inj hN).mp (e1.trans e2.symm)
theorem zjw {M:Model}{Q:Unit->Shared->Prop}(I:Inv X pins σ H s)(hN:X.N.Nodup)(hi:X.N[i]? =some x)(hx:Loc X.env.scope x)(r:RelV v u)
    (h:∀s',Inv X pins (σ.set i (some v)) H s'->(∃a,Heap.SameBut a s.heap s'.heap/\(a=X.env.locals\/X.env.cells.lookup x=some a))->Q () s') (hf:autoParam (X.fn x=true\/X.env.scope.names.lookup x=some .local) zu0._auto_1):wpAny M A (storeName X.env x u) Q E s:=by
  obtain⟨m,hn,hl⟩:=id I.loc
  have hcls:(X.env.scope.kind== .class||(X.env.scope.kind== .module&&X.env.locals !=X.env.globals))=false:=by rw[I.ok.kind];rfl
  have hiσ:i<σ.length:=by rw[I.len];exact(List.getElem?_eq_some_iff.mp hi).1
  have cne:=I.cne
  have tracked:∀{a:Addr} {h':Heap},(∃o,s.heap.get? a=some o/\H a=none)->Heap.SameBut a s.heap h'->HOk X.prog X.w H h':=fun{a h'} ha hs b ob e=>by
    obtain⟨_,_,hfree⟩:=ha
    refine(I.hok b ob e).stay (fun c w' hc q=>(hs.2 c ?_).trans q) (fun _ q=>q) fun _ _ q=>q
    rintro rfl
    rcases hc with rfl|hc
    . rw[hfree]at e;cases e
    . rw[hfree]at hc;cases hc
  rcases hx with hk|hk
  . refine wpAny_storeName_local hk hn (fun h' hn' hs=>?_) hcls
    obtain⟨oL,_,_,hoL,_⟩:=id hn
    refine h _ ⟨I.ok,I.os,I.bare,⟨fun b o e n hb hx=>?_,fun b o e n hb hx=>?_,I.base.free,fun b o e hx=>?_,I.base.tups,I.base.frzs,I.base.tbls⟩,⟨_,hn',fun j y v' e1 e2 e3=>?_⟩,fun y c e=>?_,I.free,I.freeC,fun p hp=>?_,tracked ⟨oL,hoL,I.free⟩ hs,by simpa using I.len⟩ ⟨_,hs,.inl rfl⟩
    . exact(hs.2 b (Nat.ne_of_lt (Nat.lt_of_lt_of_le (Heap.lt_size e) I.ok.above))).trans (I.base.keep b o e n hb hx)
    . obtain⟨sl,e1⟩:=I.base.slot b o e n hb hx
      exact⟨sl,(hs.2 b (Nat.ne_of_lt (Nat.lt_of_lt_of_le (Heap.lt_size e) I.ok.above))).trans e1⟩
    . obtain⟨o',e1⟩:=I.base.there b o e hx
      exact⟨o',(hs.2 b (Nat.ne_of_lt (Nat.lt_of_lt_of_le (Heap.lt_size e) I.ok.above))).trans e1⟩
    . by_cases hj:j=i
      . subst hj
        rw[hi]at e1;cases e1
        rw[List.getElem?_set_self hiσ]at e2
        cases e2
        exact⟨u,r,.inl ⟨hk,by simp⟩⟩
      . rw[List.getElem?_set_ne (Ne.symm hj)]at e2
        obtain⟨u',r',q⟩:=hl j y v' e1 e2 e3
        refine⟨u',r',?_⟩
        rcases q with⟨k,e⟩|⟨k,c,e,z⟩
        . refine .inl ⟨k,?_⟩
          have:y≠x:=fun e=>hj (zhE hN e1 (e ▸ hi))
          simp[this,e]
        . exact .inr ⟨k,c,e,z.sameBut hs (cne y c e)⟩
    . obtain⟨w',z⟩:=I.cell y c e
      exact⟨w',z.sameBut hs (cne y c e)⟩
    . obtain⟨e,n,ne,nf,d⟩:=I.pin p hp
      exact⟨(hs.2 p.1 ne).trans e,n,ne,nf,d⟩
  . have hfn:X.fn x=true:=by
      rcases hf with z|z
      . exact z
      . rw[z]at hk;cases hk
    obtain⟨c,hc⟩:=I.ok.has x (.inl hk)
    obtain⟨w',z⟩:=I.cell x c hc
    refine wpAny_storeName_cell I.ok.kind hk hc z (fun h' hc' hs=>?_)
    obtain⟨oc,hoc,hocd⟩:=id z
    refine h {s with heap:=h'} ⟨I.ok,I.os,I.bare,⟨fun b o e n hb hx=>?_,fun b o e n hb hx=>?_,I.base.free,fun b o e hx=>?_,I.base.tups,I.base.frzs,I.base.tbls⟩,⟨m,hn.sameBut hs (Ne.symm (cne x c hc)),fun j y v' e1 e2 e3=>?_⟩,fun y c' e=>?_,I.free,I.freeC,fun p hp=>?_,tracked ⟨oc,hoc,I.freeC x c hc⟩ hs,by simpa using I.len⟩ ⟨c,hs,.inr hc⟩
    . exact(hs.2 b (Nat.ne_of_lt (Nat.lt_of_lt_of_le (Heap.lt_size e) (I.ok.cab x c hfn hc)))).trans (I.base.keep b o e n hb hx)
    . obtain⟨sl,e1⟩:=I.base.slot b o e n hb hx
      exact⟨sl,(hs.2 b (Nat.ne_of_lt (Nat.lt_of_lt_of_le (Heap.lt_size e) (I.ok.cab x c hfn hc)))).trans e1⟩
    . obtain⟨o',e1⟩:=I.base.there b o e hx
      exact⟨o',(hs.2 b (Nat.ne_of_lt (Nat.lt_of_lt_of_le (Heap.lt_size e) (I.ok.cab x c hfn hc)))).trans e1⟩
    . by_cases hj:j=i
      . subst hj
        rw[hi]at e1;cases e1
        rw[List.getElem?_set_self hiσ]at e2
        cases e2
        exact⟨u,r,.inr ⟨.inl hk,c,hc,hc'⟩⟩
      . rw[List.getElem?_set_ne (Ne.symm hj)]at e2
        obtain⟨u',r',q⟩:=hl j y v' e1 e2 e3
        refine⟨u',r',?_⟩
        rcases q with q|⟨k,c',e,z'⟩
        . exact .inl q
        . refine .inr ⟨k,c',e,z'.sameBut hs ?_⟩
          rintro rfl
          exact hj (zhE hN e1 (I.ok.inj _ _ _ e hc ▸ hi))
    . by_cases hcc:c'=c
      . subst hcc;exact⟨_,hc'⟩
      . obtain⟨w2,z2⟩:=I.cell y c' e
        exact⟨w2,z2.sameBut hs hcc⟩
    . obtain⟨e,n,ne,nf,d⟩:=I.pin p hp
      refine⟨(hs.2 p.1 ?_).trans e,n,ne,nf,d⟩
      intro q
      rw[q,hoc]at e
      have q':oc=p.2:=Option.some.inj e
      exact d w' (by rw[<-q'];exact hocd)
theorem zhk {M:Model}{Q:Unit->Shared->Prop}(I:Inv X pins σ H s)(hN:X.N.Nodup)(hi:X.N[i]? =some x)(hx:Loc X.env.scope x)(r:RelV v u)
  (h:∀s',Inv X pins (σ.set i (some v)) H s'->Q () s') (hf:autoParam (X.fn x=true\/X.env.scope.names.lookup x=some .local) zu0._auto_1):wpAny M A (storeName X.env x u) Q E s:=
 zjw I hN hi hx r (fun s' I' _=>h s' I') hf
end
noncomputable abbrev XK:=Value->Option Addr->Hp->Prop
noncomputable abbrev St:=List (Option V)
noncomputable abbrev VK:=V->Hp->Prop
noncomputable abbrev TE:=St->Hp->VK->Prop
noncomputable abbrev TT:=St->Hp->(Bool->Hp->Prop)->Prop
noncomputable abbrev TA:=St->Hp->(List V->Hp->Prop)->Prop
structure Ends where
 nx:St->Hp->Prop
 rt:VK
 bk:St->Hp->Prop:=fun _ _=>False
 ct:St->Hp->Prop:=fun _ _=>False
noncomputable abbrev TS:=Ends->St->Hp->Prop
noncomputable def EP (X:Cx)(pins:List (Addr×Obj))(σ:St)(Q:VK)(u:Value)(s':Shared):Prop:=∃v H',Inv X pins σ H' s'/\RelV v u/\Q v H'
noncomputable def TP (X:Cx)(pins:List (Addr×Obj))(σ:St)(Q:Bool->Hp->Prop)(b:Bool)(s':Shared):Prop:=∃H',Inv X pins σ H' s'/\Q b H'
noncomputable def AP (X:Cx)(pins:List (Addr×Obj))(σ:St)(Q:List V->Hp->Prop)(us:List Value)(s':Shared):Prop:=∃vs H',Inv X pins σ H' s'/\Vals vs us/\Q vs H'
noncomputable def SP (X:Cx)(pins:List (Addr×Obj))(D:Ends)(f:Flow)(s':Shared):Prop:=
 match f with
 | .next=>∃σ' H',Inv X pins σ' H' s'/\D.nx σ' H'
 | .brk=>∃σ' H',Inv X pins σ' H' s'/\D.bk σ' H'
 | .cont=>∃σ' H',Inv X pins σ' H' s'/\D.ct σ' H'
 | .ret u=>∃v σ' H',Inv X pins σ' H' s'/\RelV v u/\D.rt v H'
noncomputable def PE (X:Cx)(e:Expr)(t:TE):Prop:=
 ∀(pins:List (Addr×Obj)) (s:Shared) (σ:St) (H:Hp) (Q:VK),Inv X pins σ H s->t σ H Q->wpAny (model X.prog X.w) X.A (eval e X.env) (EP X pins σ Q) X.xe s
noncomputable def PT (X:Cx)(e:Expr)(t:TT):Prop:=
 ∀(pins:List (Addr×Obj)) (s:Shared) (σ:St) (H:Hp) (Q:Bool->Hp->Prop),Inv X pins σ H s->t σ H Q->wpAny (model X.prog X.w) X.A (isTrue e X.env (eval e X.env)) (TP X pins σ Q) X.xe s
noncomputable def PW (X:Cx)(e:Expr)(t:TT):Prop:=
 ∀(whole:Sem Value) (pins:List (Addr×Obj)) (s:Shared) (σ:St) (H:Hp) (Q:Bool->Hp->Prop),Inv X pins σ H s->t σ H Q->wpAny (model X.prog X.w) X.A (isTrue e X.env whole) (TP X pins σ Q) X.xe s
theorem PW.pt {t:TT}(h:PW X e t):PT X e t:=h _
noncomputable def PA (X:Cx)(es:List Expr)(t:TA):Prop:=
 ∀(pos:Pos) (pins:List (Addr×Obj)) (s:Shared) (σ:St) (H:Hp) (Q:List V->Hp->Prop),Inv X pins σ H s->t σ H Q->wpAny (model X.prog X.w) X.A (spliced (backTo pos (starEach es X.env))) (AP X pins σ Q) X.xe s
noncomputable def PS (X:Cx)(st:Stmt)(t:TS):Prop:=
 ∀(pins:List (Addr×Obj)) (s:Shared) (σ:St) (H:Hp) (D:Ends),Inv X pins σ H s->t D σ H->wpAny (model X.prog X.w) X.A (exec st X.env) (SP X pins D) X.xe s
noncomputable def PSs (X:Cx)(st:List Stmt)(t:TS):Prop:=
 ∀(pins:List (Addr×Obj)) (s:Shared) (σ:St) (H:Hp) (D:Ends),Inv X pins σ H s->t D σ H->wpAny (model X.prog X.w) X.A (execs st X.env) (SP X pins D) X.xe s
theorem thn {α:Type}{t:Sem α}{Q Q':α->Shared->Prop}{M:Model}(h:wpAny M A t Q E s)(hQ:∀a s,Q a s->Q' a s):wpAny M A t Q' E s:=wpAny_mono h hQ fun _ _ x=>x
section
variable {X:Cx}
noncomputable def tVar (i:Nat):TE:=fun σ H Q=>∃v,σ[i]? =some (some v)/\Q v H
noncomputable def tC (v:V):TE:=fun _ H Q=>Q v H
theorem zaH (hN:X.N[i]? =some x)(hv:Vis X.env.scope x)(hd:autoParam ((x==("__debug__":Str))=false) zu1._auto_1)(hcd:autoParam ((x==("__classdict__":Str))=false) zu1._auto_1):PE X (.Name x pos) (tVar i):=by
 intro pins s σ H Q I h
 obtain⟨v,e,h⟩:=h
 obtain⟨m,hn,hl⟩:=I.loc
 obtain⟨u,r,l⟩:=hl i x v hN e hv
 have fin:EP X pins σ Q u s:=⟨v,H,I,r,h⟩
 rcases l with⟨hk,hm⟩|⟨hk,c,hc,hcell⟩
 ·exact wpAny_Name (wpAny_loadName_local I.ok.kind hk hn hm fin) hd
 ·rcases hk with hk|hk
  ·exact wpAny_Name (wpAny_loadName_cell I.ok.kind hk hc hcell fin) hd
  ·exact wpAny_Name (wpAny_loadName_free I.ok.kind hk hc hcell fin hcd) hd
theorem pe_int {i j pos}:PE X (.Constant (.int i) j pos) (tC (.int i)):=fun _ _ _ H _ I h=>wpAny_Constant_int ⟨.int i,H,I.tok _,⟨_,rfl⟩,h⟩
theorem pe_bl {b j pos}:PE X (.Constant (.bool b) j pos) (tC (.bl b)):=fun _ _ _ H _ I h=>Constant_bool ⟨.bl b,H,I,rfl,h⟩
theorem zjf {j pos}:PE X (.Constant .none j pos) (tC .non):=fun _ _ _ H _ I h=>Constant_none ⟨.non,H,I,rfl,h⟩
theorem pe_str {x j pos}:PE X (.Constant (.str x) j pos) (tC (.str x)):=fun _ _ _ H _ I h=>Calls.Constant_str ⟨.str x,H,I.tok _,⟨_,rfl⟩,h⟩
noncomputable def Gl (X:Cx)(x:Str):Prop:=X.env.kindOf x=some .globalImplicit
theorem zgV (I:Inv X pins σ H s)(hg:Gl X x)(hm:X.mg x=some u)(h:Q u s)
  (hd:autoParam ((x==("__debug__":Str))=false) zu1._auto_1):wpAny (model X.prog X.w) X.A (eval (.Name x pos) X.env) Q E s:=
 Calls.Name_function_global I.ok.kind hg (Calls.loadGlobal_global (by rw[I.ok.glob];exact I.mod.glob.keeps I.bk) hm h) hd
theorem zeZ (I:Inv X pins σ H s)(hg:Gl X x)(hm:X.mg x=none)(hv:bootBuiltins x=some u)(h:Q u s)
  (hn:autoParam (x≠"__name__") zu1._auto_1) (hd:autoParam ((x==("__debug__":Str))=false) zu1._auto_1):wpAny (model X.prog X.w) X.A (eval (.Name x pos) X.env) Q E s:=by
 obtain⟨mb,h1,h2⟩:=I.mod.blt
 exact Calls.Name_function_global I.ok.kind hg (Calls.loadGlobal_builtin (by rw[I.ok.glob];exact I.mod.glob.keeps I.bk) hm (by rw[I.ok.blt];exact h1.keeps I.bk) ((h2 x hn).trans hv) h) hd
theorem pe_glob (hg:Gl X x)(hm:X.mg x=some u)(r:RelV v u)(hd:autoParam ((x==("__debug__":Str))=false) zu1._auto_1):PE X (.Name x pos) (tC v):=
 fun _ _ _ H _ I h=>zgV I hg hm ⟨v,H,I,r,h⟩ hd
variable {a b:Expr} {ta tb:TE} {pos:Pos}
noncomputable def PC (X:Cx)(op:CmpOp)(a b:Expr)(t:TE):Prop:=
 ∀(pins:List (Addr×Obj)) (s:Shared) (σ:St) (H:Hp) (Q:VK),Inv X pins σ H s->t σ H Q->
  wpAny (model X.prog X.w) X.A (eval a X.env) (fun v s₁=>wpAny (model X.prog X.w) X.A (eval b X.env) (fun u s₂=>wpAny (model X.prog X.w) X.A (compareOp op v u) (EP X pins σ Q) X.xe s₂) X.xe s₁) X.xe s
theorem nobehind (b:Expr)(h:op≠ .In)(h2:op≠ .NotIn):behindInMarks op b=false:=by
 have e1:(op==CmpOp.In)=false:=by cases op<;>first|rfl|exact absurd rfl h
 have e2:(op==CmpOp.NotIn)=false:=by cases op<;>first|rfl|exact absurd rfl h2
 cases b<;>simp[behindInMarks,e1,e2]
noncomputable def tIsN (ta:TE):TE:=fun σ H Q=>ta σ H fun x H1=>Q (.bl (decide (x= .non))) H1
noncomputable def tB (t:TE):TT:=fun σ H Q=>t σ H fun x H1=>∃c,x= .bl c/\Q c H1
theorem pt_cmp (h:PC X op a b t)(h1:autoParam (behindInMarks op b=false) zu2._auto_1):PT X (.Compare a [op] [b] pos) (tB t):=by
  intro pins s σ H Q I hw
  refine wpAny_isTrue_Compare1 (thn (h pins s σ H _ I hw) fun v s1 h1=>thn h1 fun u s2 h2=>thn h2 fun c s3 ⟨x,H1,I1,r1,q1⟩=>?_) h1
  obtain⟨d,rfl,q⟩:=q1
  cases r1
  exact wpAny_truthy_bool ⟨H1,I1,q⟩
variable {tA tB':TT} {rest:List Expr}
noncomputable def tAnd (t u:TT):TT:=fun σ H Q=>t σ H fun c H1=>if c=true then u σ H1 Q else Q false H1
noncomputable def tOr (t u:TT):TT:=fun σ H Q=>t σ H fun c H1=>if c=true then Q true H1 else u σ H1 Q
noncomputable def tNot (t:TT):TT:=fun σ H Q=>t σ H fun c H1=>Q (!c) H1
theorem pw_and1 (ha:PT X a tA):PW X (.BoolOp .And [a] pos) tA:=by
 intro wh pins s σ H Q I h
 refine isTrue_and (thn (ha pins s σ H Q I h) fun c s1 e=>?_)
 cases c with
 |true=>exact isTrue_and_nil e
 |false=>exact e
theorem pw_or1 (ha:PT X a tA):PW X (.BoolOp .Or [a] pos) tA:=by
 intro wh pins s σ H Q I h
 refine isTrue_or (thn (ha pins s σ H Q I h) fun c s1 e=>?_)
 cases c with
 |false=>exact isTrue_or_nil e
 |true=>exact e
theorem pw_and (ha:PT X a tA)(hb:PW X (.BoolOp .And (b::rest) pos) tB'):PW X (.BoolOp .And (a::b::rest) pos) (tAnd tA tB'):=by
 intro wh pins s σ H Q I h
 refine isTrue_and (thn (ha pins s σ H _ I h) fun c s1 ⟨H1,I1,q1⟩=>?_)
 cases c with
 |true=>exact hb wh pins s1 σ H1 Q I1 q1
 |false=>exact⟨H1,I1,q1⟩
theorem pw_or (ha:PT X a tA)(hb:PW X (.BoolOp .Or (b::rest) pos) tB'):PW X (.BoolOp .Or (a::b::rest) pos) (tOr tA tB'):=by
 intro wh pins s σ H Q I h
 refine isTrue_or (thn (ha pins s σ H _ I h) fun c s1 ⟨H1,I1,q1⟩=>?_)
 cases c with
 |true=>exact⟨H1,I1,q1⟩
 |false=>exact hb wh pins s1 σ H1 Q I1 q1
theorem pt_not (ha:PT X a tA):PT X (.UnaryOp .Not a pos) (tNot tA):=by
 intro pins s σ H Q I h
 exact isTrue_not (ha pins s σ H (fun c H1=>Q (!c) H1) I h)
noncomputable def tAndV (ta tb:TE):TE:=fun σ H Q=>ta σ H fun x H1=>∃c,x= .bl c/\if c=true then tb σ H1 Q else Q (.bl false) H1
theorem pe_one {op}(h:PE X a t):PE X (.BoolOp op [a] pos) t:=fun pins s σ H Q I hw=>BoolOp_one (h pins s σ H Q I hw)
theorem pe_and (ha:PE X a ta)(hb:PE X (.BoolOp .And (b::rest) pos) tb):PE X (.BoolOp .And (a::b::rest) pos) (tAndV ta tb):=by
 intro pins s σ H Q I h
 refine BoolOp_and (thn (ha pins s σ H _ I h) fun v s1 ⟨x,H1,I1,r1,q1⟩=>?_)
 obtain⟨c,rfl,q1⟩:=q1
 cases r1
 refine wpAny_truthy_bool ?_
 cases c with
 |true=>exact hb pins s1 σ H1 Q I1 q1
 |false=>exact⟨.bl false,H1,I1,rfl,q1⟩
noncomputable def tIf (t:TT)(ta tb:TE):TE:=fun σ H Q=>t σ H fun c H1=>if c=true then ta σ H1 Q else tb σ H1 Q
theorem pe_ifExp (hc:PT X c tA)(ha:PE X a ta)(hb:PE X b tb):PE X (.IfExp c a b pos) (tIf tA ta tb):=by
 intro pins s σ H Q I h
 refine wpAny_IfExp (thn (hc pins s σ H _ I h) fun d s1 ⟨H1,I1,q1⟩=>?_)
 cases d with
 |true=>exact ha pins s1 σ H1 Q I1 q1
 |false=>exact hb pins s1 σ H1 Q I1 q1
end
noncomputable def SqL (K:W.Frag)(H:Hp)(a:Addr)(xs:List V):Prop:=
 Rd H a (.lst xs)\/
  ∃(o:Obj) (its:Array Value) (n:Nat),K.lookup a=some o/\o.cls= .type "list"/\o.dict=none/\o.data= .seq its n/\its.size<=sizeLine/\Vals xs its.toList
noncomputable def SqT (K:W.Frag)(H:Hp)(a:Addr)(xs:List V):Prop:=
 Rd H a (.tup xs)\/
  ∃(o:Obj) (its:Array Value) (n:Nat),K.lookup a=some o/\o.cls= .type "tuple"/\o.data= .seq its n/\its.size<=sizeLine/\Vals xs its.toList
noncomputable def absV:Value->Option V
 | .none=>some .non
 | .bool b=>some (.bl b)
 | .int i _=>some (.int i)
 | .str x _=>some (.str x)
 | .bytes b _=>some (.byt b)
 | .float b _=>some (.flt b)
 | .ref a=>some (.ref a)
 | .type n=>some (.ty n)
 |_=>none
theorem RelV.abs {x:V}(r:RelV x u):absV u=some x:=by
 cases x with
 |non=>cases r;rfl
 |bl _=>cases r;rfl
 |int _=>obtain⟨t,rfl⟩:=r;rfl
 |str _=>obtain⟨t,rfl⟩:=r;rfl
 |byt _=>obtain⟨t,rfl⟩:=r;rfl
 |flt _=>obtain⟨t,rfl⟩:=r;rfl
 |ref _=>cases r;rfl
 |ty _=>cases r;rfl
theorem RelV.inj {x y:V}(r:RelV x u)(q:RelV y u):x=y:=Option.some.inj (r.abs.symm.trans q.abs)
theorem Vals.inj:∀{xs ys:List V} {us:List Value},Vals xs us->Vals ys us->xs=ys
 |_,_,_,.nil,.nil=>rfl
 |_,_,_,.cons r t,.cons r' t'=>by rw[r.inj r',Vals.inj t t']
section
variable {X:Cx} {pins:List (Addr×Obj)} {σ:St} {H:Hp} {s:Shared} {a:Addr} {xs ys:List V}
theorem SqL.of (h:H a=some (.lst xs)):SqL K H a xs:= .inl (.inl h)
theorem SqT.of (h:H a=some (.tup xs)):SqT K H a xs:= .inl (.inl h)
theorem Inv.list (I:Inv X pins σ H s)(h:SqL X.K H a xs):∃its:List Value,Vals xs its/\PlainL s.heap a its.toArray/\xs.length<=sizeLine:=by
 rcases h with h|⟨o,its,n,hk,hc,hd,hs,hz,r⟩
 ·obtain⟨z,its,n,r,e⟩:=h.ok I.hok
  exact⟨its,r,⟨_,n,e,rfl,rfl,rfl⟩,z⟩
 ·refine⟨its.toList,r,⟨o,n,I.kIn a o hk,hc,hd,by simpa using hs⟩,?_⟩
  have e:=r.length
  simp only[Array.length_toList]at e
  lia
theorem Inv.tuple (I:Inv X pins σ H s)(h:SqT X.K H a xs):∃its:List Value,Vals xs its/\IsTup s.heap a its.toArray/\xs.length<=sizeLine:=by
 rcases h with h|⟨o,its,n,hk,hc,hs,hz,r⟩
 ·obtain⟨z,its,r,p⟩:=h.ok I.hok
  exact⟨its,r,p,z⟩
 ·refine⟨its.toList,r,⟨o,I.kIn a o hk,hc,n,by simpa using hs⟩,?_⟩
  have e:=r.length
  simp only[Array.length_toList]at e
  lia
theorem Inv.list_inj (I:Inv X pins σ H s)(h:SqL X.K H a xs)(h':SqL X.K H a ys):xs=ys:=by
 obtain⟨its,r,⟨o,n,e,_,_,d⟩,_⟩:=I.list h
 obtain⟨its',r',⟨o',n',e',_,_,d'⟩,_⟩:=I.list h'
 rw[e]at e';cases e'
 rw[d]at d'
 injection d' with d1 _
 have:its=its':=by simpa using congrArg Array.toList d1
 subst this
 exact r.inj r'
theorem Inv.tuple_inj (I:Inv X pins σ H s)(h:SqT X.K H a xs)(h':SqT X.K H a ys):xs=ys:=by
 obtain⟨its,r,⟨o,e,_,n,d⟩,_⟩:=I.tuple h
 obtain⟨its',r',⟨o',e',_,n',d'⟩,_⟩:=I.tuple h'
 rw[e]at e';cases e'
 rw[d]at d'
 injection d' with d1 _
 have:its=its':=by simpa using congrArg Array.toList d1
 subst this
 exact r.inj r'
end
noncomputable abbrev Cx.wish (X:Cx)(E:Value->Shared->Prop):Cx:={X with xe:=E}
noncomputable abbrev Cx.nox (X:Cx):Cx:=X.wish fun _ _=>False
theorem Cx.Ok.wish (ok:X.Ok)(E:Value->Shared->Prop):(X.wish E).Ok:=
 ⟨ok.mod,ok.kind,ok.glob,ok.blt,ok.above,ok.inj,ok.has,ok.cab,ok.hd,ok.frames,ok.stk,ok.exf,ok.bs,ok.bsz,ok.noex,ok.exfs,ok.funs,ok.frf⟩
theorem Cx.Ok.unwish (ok:(X.wish E).Ok):X.Ok:=
 ⟨ok.mod,ok.kind,ok.glob,ok.blt,ok.above,ok.inj,ok.has,ok.cab,ok.hd,ok.frames,ok.stk,ok.exf,ok.bs,ok.bsz,ok.noex,ok.exfs,ok.funs,ok.frf⟩
section
variable {X:Cx} {pins:List (Addr×Obj)} {σ:St} {H:Hp} {s:Shared} {E:Value->Shared->Prop}
theorem Inv.wish (I:Inv X pins σ H s)(E:Value->Shared->Prop):Inv (X.wish E) pins σ H s:=⟨I.ok.wish E,I.os,I.bare,I.base,I.loc,I.cell,I.free,I.freeC,I.pin,I.hok,I.len⟩
theorem Inv.unwish (I:Inv (X.wish E) pins σ H s):Inv X pins σ H s:=⟨I.ok.unwish,I.os,I.bare,I.base,I.loc,I.cell,I.free,I.freeC,I.pin,I.hok,I.len⟩
theorem SP.unwish {D:Ends}{f:Flow}(h:SP (X.wish E) pins D f s'):SP X pins D f s':=by
 cases f with
 |next=>obtain⟨σ',H',I,q⟩:=h;exact⟨σ',H',I.unwish,q⟩
 |brk=>obtain⟨σ',H',I,q⟩:=h;exact⟨σ',H',I.unwish,q⟩
 |cont=>obtain⟨σ',H',I,q⟩:=h;exact⟨σ',H',I.unwish,q⟩
 |ret u=>obtain⟨v,σ',H',I,r,q⟩:=h;exact⟨v,σ',H',I.unwish,r,q⟩
theorem PSs.nox {st:List Stmt}{t:TS}(h:PSs X.nox st t):PSs X st t:=fun pins s σ H D I hw=>
 wpAny_mono (h pins s σ H D (I.wish _) hw) (fun _ _ q=>q.unwish) fun _ _ z=>False.elim z
end
section
variable {X:Cx} {st:Stmt} {rest:List Stmt} {t u:TS} {e:Expr} {te:TE} {pos:Pos}
noncomputable def tNext:TS:=fun D σ H=>D.nx σ H
noncomputable def tSeq (t u:TS):TS:=fun D σ H=>t {D with nx:=u D} σ H
theorem pss_nil:PSs X [] tNext:=fun _ _ σ H _ I h=>wpAny_execs_nil ⟨σ,H,I,h⟩
theorem zhv (h1:PS X st t)(h2:PSs X rest u):PSs X (st::rest) (tSeq t u):=by
 intro pins s σ H D I h
 refine wpAny_execs_cons (thn (h1 pins s σ H {D with nx:=u D} I h) fun f s1 q=>?_)
 cases f with
 |next=>
  obtain⟨σ',H',I',q⟩:=q
  exact h2 pins s1 σ' H' D I' q
 |ret v=>exact q
 |brk=>exact q
 |cont=>exact q
theorem zgF (h1:PS X st t):PSs X [st] t:=by
 intro pins s σ H D I h
 refine wpAny_execs_cons (thn (h1 pins s σ H D I h) fun f s1 q=>?_)
 cases f with
 |next=>exact wpAny_execs_nil q
 |ret v=>exact q
 |brk=>exact q
 |cont=>exact q
theorem Inv.quiet (I:Inv X pins σ H s):interactive X.env=false:=by simp[interactive,I.ok.kind]
noncomputable def tDrop (te:TE):TS:=fun D σ H=>te σ H fun _ H1=>D.nx σ H1
theorem zi7 (he:PE X e te)(hs:autoParam (swapsWith e none pos.line X.env=pure false) zu3._auto_1):PS X (.Expr e pos) (tDrop te):=by
 intro pins s σ H D I h
 exact wpAny_Expr_any (thn (he pins s σ H _ I h) fun v s1 ⟨x,H1,I1,r1,q1⟩=>⟨σ,H1,I1,q1⟩) I.quiet hs
noncomputable def tRet (te:TE):TS:=fun D σ H=>te σ H D.rt
theorem zeR (he:PE X e te):PS X (.Return (some e) pos) (tRet te):=by
 intro pins s σ H D I h
 exact wpAny_Return_some (thn (he pins s σ H _ I h) fun v s1 ⟨x,H1,I1,r1,q1⟩=>⟨x,σ,H1,I1,r1,q1⟩)
noncomputable def tIfS (c:TT)(t u:TS):TS:=fun D σ H=>c σ H fun b H1=>if b=true then t D σ H1 else u D σ H1
theorem ps_if {a b:List Stmt}{tc:TT}(hc:PT X c tc)(ha:PSs X a t)(hb:PSs X b u):PS X (.If c a b pos) (tIfS tc t u):=by
 intro pins s σ H D I h
 refine wpAny_If (thn (hc pins s σ H _ I h) fun d s1 ⟨H1,I1,q1⟩=>?_)
 cases d with
 |true=>exact ha pins s1 σ H1 D I1 q1
 |false=>exact hb pins s1 σ H1 D I1 q1
noncomputable def tNever:TS:=fun _ _ _=>False
theorem ps_never:PS X st tNever:=fun _ _ _ _ _ _ h=>h.elim
end
noncomputable abbrev TG:=V->St->Hp->(St->Hp->Prop)->Prop
noncomputable abbrev TGs:=List V->St->Hp->(St->Hp->Prop)->Prop
noncomputable def PG (X:Cx)(target:Expr)(t:TG):Prop:=
 ∀(pins:List (Addr×Obj)) (s:Shared) (σ:St) (H:Hp) (v:V) (u:Value) (Q:St->Hp->Prop),Inv X pins σ H s->RelV v u->t v σ H Q->
  wpAny (model X.prog X.w) X.A (assign target X.env u) (fun _ s'=>∃σ' H',Inv X pins σ' H' s'/\Q σ' H') X.xe s
noncomputable def PGs (X:Cx)(ts:List Expr)(t:TGs):Prop:=
 ∀(pins:List (Addr×Obj)) (s:Shared) (σ:St) (H:Hp) (vs:List V) (us:List Value) (Q:St->Hp->Prop),Inv X pins σ H s->Vals vs us->t vs σ H Q->
  wpAny (model X.prog X.w) X.A (assignInOrder ((assignEach ts X.env).map (·.2)) us) (fun _ s'=>∃σ' H',Inv X pins σ' H' s'/\Q σ' H') X.xe s
noncomputable abbrev TSet:=V->V->V->Hp->(Hp->Prop)->Prop
noncomputable def PSet (X:Cx)(t:TSet):Prop:=
 ∀(pins:List (Addr×Obj)) (s:Shared) (σ:St) (H:Hp) (o i v:V) (ov iv u:Value) (Q:Hp->Prop),Inv X pins σ H s->RelV o ov->RelV i iv->RelV v u->t o i v H Q->
  wpAny (model X.prog X.w) X.A (setItem ov iv u) (fun _ s'=>∃H',Inv X pins σ H' s'/\Q H') X.xe s
section
variable {X:Cx} {pos:Pos}
noncomputable def gName (i:Nat):TG:=fun v σ H Q=>Q (σ.set i (some v)) H
theorem zhd (hN:X.N.Nodup)(hi:X.N[i]? =some x)(hx:Loc X.env.scope x)(hf:autoParam (X.fn x=true\/X.env.scope.names.lookup x=some .local) zu0._auto_1):PG X (.Name x pos) (gName i):=by
  intro pins s σ H v u Q I r h
  exact wpAny_assign_Name (zhk I hN hi hx r (fun s' I'=>⟨_,H,I',h⟩) hf)
noncomputable def gNil:TGs:=fun vs σ H Q=>vs=[]/\Q σ H
noncomputable def gCons (t:TG)(u:TGs):TGs:=fun vs σ H Q=>∃v r,vs=v::r/\t v σ H fun σ' H'=>u r σ' H' Q
theorem pgs_nil:PGs X [] gNil:=by
 intro pins s σ H vs us Q I r h
 obtain⟨e,h⟩:=h
 subst e
 cases r
 exact assignInOrder_nil ⟨σ,H,I,h⟩
theorem pgs_cons {t:TG}{u:TGs}(h1:PG X e t)(h2:PGs X es u)
  (hs:autoParam ((assignEach (e::es) X.env).map (·.2)=assign e X.env::(assignEach es X.env).map (·.2)) zu3._auto_1):PGs X (e::es) (gCons t u):=by
 intro pins s σ H vs us Q I r h
 obtain⟨v,vr,e1,h⟩:=h
 subst e1
 cases r with
 |cons r rr=>
  rw[hs]
  refine assignInOrder_cons (thn (h1 pins s σ H _ _ _ I r h) fun _ s1 ⟨σ1,H1,I1,q1⟩=>?_)
  exact h2 pins s1 σ1 H1 _ _ Q I1 rr q1
noncomputable def gTup (K:W.Frag)(n:Nat)(t:TGs):TG:=fun v σ H Q=>∃a xs,v= .ref a/\SqT K H a xs/\xs.length=n/\t xs σ H Q
theorem pg_tup {k:Nat}{t:TGs}(hc:X.calm=true)(h:PGs X es t)
  (hn:autoParam ((assignEach es X.env).length=n) zu3._auto_1) (hst:autoParam ((assignEach es X.env).findIdx? (·.1)=none) zu3._auto_1):PG X (.Tuple es k pos) (gTup X.K n t):=by
 intro pins s σ H v u Q I r hw
 obtain⟨a,xs,e1,hq,hl,hw⟩:=hw
 subst e1
 cases r
 obtain⟨its,rv,ht,hz⟩:=I.tuple hq
 refine assign_Tuple_tuple (I.ok.hd hc) ht (by simp[hn,<-hl,rv.length]) hst fun h' hx=>?_
 have I1:Inv X pins σ H {s with heap:=h'}:=I.kept (t':=s.toks) fun b o e=>hx b o (Nat.ne_of_lt (Heap.lt_size e)) e
 exact h pins _ σ H xs _ Q I1 (by simpa using rv) hw
noncomputable def gSub (to ti:TE)(t:TSet):TG:=fun v σ H Q=>to σ H fun o H1=>ti σ H1 fun i H2=>t o i v H2 fun H3=>Q σ H3
theorem pg_sub {o i:Expr}{to ti:TE}{t:TSet}(ho:PE X o to)(hi:PE X i ti)(hs:PSet X t)
    (ha :autoParam (∀ v, assign (.Subscript o i pos) X.env v = (do
      let ov<-holding [v] (eval o X.env)
      let iv<-holding [v,ov] (eval i X.env)
      standAt pos
      holding [v,ov,iv] (setItem ov iv v)
      release [v,ov,iv] [])) zu4._auto_1):PG X (.Subscript o i pos) (gSub to ti t):=by
  intro pins s σ H v u Q I r h
  rw[ha]
  refine wpAny_bind (wpAny_holding (thn (ho pins s σ H _ I h) fun ov s1 ⟨x,H1,I1,r1,q1⟩=>?_))
  refine wpAny_bind (wpAny_holding (thn (hi pins s1 σ H1 _ I1 q1) fun iv s2 ⟨y,H2,I2,r2,q2⟩=>?_))
  refine wpAny_bind (wpAny_standAt (wpAny_bind (wpAny_holding (thn (hs pins s2 σ H2 x y v ov iv u _ I2 r1 r2 r q2) fun _ s3 ⟨H3,I3,q3⟩=>?_))))
  exact wpAny_release ⟨σ,H3,I3,q3⟩
noncomputable def tAsg (te:TE)(g:TG):TS:=fun D σ H=>te σ H fun x H1=>g x σ H1 D.nx
theorem ps_asg {g:TG}(he:PE X e te)(hg:PG X tg g)(hs:autoParam (swapsWithSole [tg] e pos.line X.env=pure false) zu3._auto_1)(hw:autoParam (swappedStores [tg] e X.env=pure none) zu3._auto_1)
  (h1:autoParam ((assignEach [tg] X.env).map (·.2)=[assign tg X.env]) zu3._auto_1):PS X (.Assign [tg] e pos) (tAsg te g):=by
 intro pins s σ H D I h
 refine wpAny_Assign_stores (thn (he pins s σ H _ I h) fun v s1 ⟨x,H1,I1,r1,q1⟩=>?_) hs hw
 rw[h1]
 exact thn (hg pins s1 σ H1 x v _ I1 r1 q1) fun _ s2 q=>q
theorem ze5 {pos':Pos}(hN:X.N.Nodup)(hi:X.N[i]? =some x)(hx:Loc X.env.scope x)(he:PE X e te)(hs:autoParam (swapsWith e (some (.Name x pos')) pos.line X.env=pure false) zu3._auto_1)(hf:autoParam (X.fn x=true\/X.env.scope.names.lookup x=some .local) zu0._auto_1):
  PS X (.Assign [.Name x pos'] e pos) (tAsg te (gName i)):=by
 intro pins s σ H D I h
 refine wpAny_Assign_Name (thn (he pins s σ H _ I h) fun v s1 ⟨y,H1,I1,r1,q1⟩=>?_) hs
 exact zhk I1 hN hi hx r1 (fun s2 I2=>⟨_,H1,I2,q1⟩) hf
end
structure It where
 go:Nat->Hp->Prop
 yld:Nat->Hp->V->Hp->Prop
 stop:Nat->Hp->Prop
noncomputable def FpOk (X:Cx)(pins:List (Addr×Obj))(H:Hp)(b:Addr):Prop:=
 H b=none/\b≠X.env.locals/\b∉X.fs/\(b∈X.ex\/X.s₀.heap.objs.size<=b)/\(∀x c,X.env.cells.lookup x=some c->c≠b)/\∀p∈X.pn++pins,p.1≠b
theorem Inv.fpOk {H H':Hp}(I:Inv X pins σ H s)(hb:s.heap.objs.size<=b)(hn:H' b=none):FpOk X pins H' b:=by
 refine⟨hn,Nat.ne_of_gt (Nat.lt_of_lt_of_le I.lt hb),I.nofs hb,.inr (Nat.le_trans I.sz hb),fun x c e z=>?_,fun p hp z=>?_⟩
 ·obtain⟨v,q⟩:=I.cell x c e
  exact absurd (Nat.lt_of_lt_of_le q.lt (by rw[z];exact hb)) (Nat.lt_irrefl _)
 ·exact absurd (Nat.lt_of_lt_of_le (Heap.lt_size (I.pin p hp).1) (by rw[z];exact hb)) (Nat.lt_irrefl _)
structure Turn (P:Program) (w:World) (K:W.Frag) (tg:Expr) (J:It) (fp:List Addr) (it:Addr) (tn:Nat->Heap->Prop):Prop where
 mem:it∈fp
 obj:∀i h,tn i h->∀b∈fp,∃o,h.get? b=some o/\∀v,o.data≠ .cell v
 keep:∀i h h',tn i h->(∀b∈fp,∀o,h.get? b=some o->h'.get? b=some o)->tn i h'
 item:∀(X:Cx),X.prog=P->X.w=w->X.K=K->X.calm=true->∀(i:Nat) (pins:List (Addr×Obj)) (s:Shared) (σ:St) (H:Hp) (E:Value->Shared->Prop),Inv X pins σ H s->(∀b∈fp,FpOk X pins H b)->tn i s.heap->J.go i H->
  wpAny (model P w) X.A (pyNext (.ref it)) (fun r s1=>∃u,r=some u/\
   wpAny (model P w) X.A (letOwnedTupleGo tg (.ref it) u) (fun _ s2=>∃x H',Inv X pins σ H' s2/\RelV x u/\J.yld i H x H'/\tn (i+1) s2.heap/\∀b∈fp,H' b=none) E s1) E s
 done:∀(X:Cx),X.prog=P->X.w=w->X.K=K->X.calm=true->∀(i:Nat) (pins:List (Addr×Obj)) (s:Shared) (σ:St) (H:Hp) (E:Value->Shared->Prop),Inv X pins σ H s->(∀b∈fp,FpOk X pins H b)->tn i s.heap->J.stop i H->
  wpAny (model P w) X.A (pyNext (.ref it)) (fun r s1=>r=none/\Inv X pins σ H s1) E s
 self:∀(A:Around) (i:Nat) (s:Shared) (Q:Value->Shared->Prop) (E:Value->Shared->Prop),tn i s.heap->Q (.ref it) s->wpAny (model P w) A (pyIter (.ref it)) Q E s
noncomputable abbrev TI:=St->Hp->(It->Hp->Prop)->Prop
noncomputable def PIE (X:Cx)(pins:List (Addr×Obj))(σ:St)(tg:Expr)(R:It->Hp->Prop)(itv:Value)(s2:Shared):Prop:=
 ∃(it:Addr) (fp:List Addr) (tn:Nat->Heap->Prop) (J:It) (H':Hp),itv= .ref it/\Inv X pins σ H' s2/\Turn X.prog X.w X.K tg J fp it tn/\tn 0 s2.heap/\(∀b∈fp,FpOk X pins H' b)/\R J H'
noncomputable def PI (X:Cx)(tg iter:Expr)(wi:TI):Prop:=
 ∀(pins:List (Addr×Obj)) (s:Shared) (σ:St) (H:Hp) (R:It->Hp->Prop),Inv X pins σ H s->wi σ H R->
  wpAny (model X.prog X.w) X.A (eval iter X.env) (fun v s1=>wpAny (model X.prog X.w) X.A (pyIter v) (PIE X pins σ tg R) X.xe s1) X.xe s
theorem go_of {M:Model}{o:Obj}{n:String}{vs:Array Value}{Q:Unit->Shared->Prop}(ho:s.heap.get? it=some o)(hc:o.cls= .type n)(hd:o.data= .fields vs)
    (hn:["enumerate","zip","dict_itemiterator","dict_reverseitemiterator","odict_iterator","itertools.zip_longest","itertools.pairwise"].contains n=false) (hQ:Q () s):wpAny M A (letOwnedTupleGo tg (.ref it) u) Q E s:=by
  unfold letOwnedTupleGo
  cases tg<;>first
    |exact wpAny_pure hQ
    | (cases u <;> first
        |exact wpAny_pure hQ
        | (refine wpAny_bind (wpAny_load ho ?_)
           rw[hc,hd]
           show wpAny M A (if(["enumerate","zip","dict_itemiterator","dict_reverseitemiterator","odict_iterator","itertools.zip_longest","itertools.pairwise"].contains n&&vs[0]? ==some (rawInt _))=true then _ else _) Q E s
           rw[if_neg (by intro h;rw[hn,Bool.false_and]at h;cases h)]
           exact wpAny_pure hQ))
noncomputable def Itl (K:W.Frag)(a:Addr):It:=
 ⟨fun i H=>∃xs x,SqL K H a xs/\xs[i]? =some x,fun i H x H'=>H'=H/\∀xs,SqL K H a xs->xs[i]? =some x,fun i H=>∃xs,SqL K H a xs/\xs.length<=i⟩
noncomputable def Itt (K:W.Frag)(a:Addr):It:=
 ⟨fun i H=>∃xs x,SqT K H a xs/\xs[i]? =some x,fun i H x H'=>H'=H/\∀xs,SqT K H a xs->xs[i]? =some x,fun i H=>∃xs,SqT K H a xs/\xs.length<=i⟩
noncomputable def Itr (lo:Int)(n:Nat):It:=⟨fun i _=>i<n,fun i H x H'=>H'=H/\x= .int (lo+i),fun i _=>n<=i⟩
theorem zjq {P:Program}(a it:Addr):Turn P w K tg (Itl K a) [it] it (fun i h=>h.IsListIter it a i) where
 mem:=by simp
 obj:=fun i h st b hb=>by
  have e:b=it:=by simpa using hb
  subst e
  obtain⟨o,e,c,d⟩:=st
  exact⟨o,e,fun v z=>by rw[d]at z;cases z⟩
 keep:=fun i h h' st k=>st.at fun o e=>k it (by simp) o e
 item:=by
  intro X hP hw hK hc i pins s σ H E I hf st hg
  subst hP hw hK
  obtain⟨xs,x,hq,hx⟩:=hg
  obtain⟨its,rv,p,hz⟩:=I.list hq
  obtain⟨u,hu,ru⟩:=rv.get hx
  obtain⟨f0,f1,f2,f3,f4,f5⟩:=hf it (by simp)
  refine wpAny_pyNext_list_item st p.isList (x:=u) (by simpa using hu) fun h' st' sb=>?_
  have I1:Inv X pins σ H {s with heap:=h'}:=I.turned (t':=s.toks) (fun b o hb e=>(sb.2 b hb).trans e) f0 f1 f3 f4 f5
  obtain⟨o,e,c,d⟩:=id st'
  exact⟨u,rfl,go_of (s:={s with heap:=h'}) e c d (by decide) ⟨x,H,I1,ru,⟨rfl,fun ys hy=>by rw[I.list_inj hy hq];exact hx⟩,st',fun b hb=>(hf b hb).1⟩⟩
 done:=by
  intro X hP hw hK hc i pins s σ H E I hf st hg
  subst hP hw hK
  obtain⟨xs,hq,hx⟩:=hg
  obtain⟨its,rv,p,hz⟩:=I.list hq
  obtain⟨f0,f1,f2,f3,f4,f5⟩:=hf it (by simp)
  have hl:=rv.length
  exact wpAny_pyNext_list_end (I.ok.hd hc) st p.isList (by simp;lia) fun h' eb=>⟨rfl,I.turned (t':=s.toks) (fun b o hb e=>eb b o hb e) f0 f1 f3 f4 f5⟩
 self:=fun _ _ _ _ _ st h=>wpAny_pyIter_listiter st h
theorem ziD {P:Program}(a it:Addr):Turn P w K tg (Itt K a) [it] it (fun i h=>h.IsTupleIter it a i) where
 mem:=by simp
 obj:=fun i h st b hb=>by
  have e:b=it:=by simpa using hb
  subst e
  obtain⟨o,e,c,d⟩:=st
  exact⟨o,e,fun v z=>by rw[d]at z;cases z⟩
 keep:=fun i h h' st k=>st.at fun o e=>k it (by simp) o e
 item:=by
  intro X hP hw hK hc i pins s σ H E I hf st hg
  subst hP hw hK
  obtain⟨xs,x,hq,hx⟩:=hg
  obtain⟨its,rv,p,hz⟩:=I.tuple hq
  obtain⟨u,hu,ru⟩:=rv.get hx
  obtain⟨f0,f1,f2,f3,f4,f5⟩:=hf it (by simp)
  refine wpAny_pyNext_tuple_item st (show s.heap.IsTuple a its.toArray from p) (x:=u) (by simpa using hu) fun h' st' sb=>?_
  have I1:Inv X pins σ H {s with heap:=h'}:=I.turned (t':=s.toks) (fun b o hb e=>(sb.2 b hb).trans e) f0 f1 f3 f4 f5
  obtain⟨o,e,c,d⟩:=id st'
  exact⟨u,rfl,go_of (s:={s with heap:=h'}) e c d (by decide) ⟨x,H,I1,ru,⟨rfl,fun ys hy=>by rw[I.tuple_inj hy hq];exact hx⟩,st',fun b hb=>(hf b hb).1⟩⟩
 done:=by
  intro X hP hw hK hc i pins s σ H E I hf st hg
  subst hP hw hK
  obtain⟨xs,hq,hx⟩:=hg
  obtain⟨its,rv,p,hz⟩:=I.tuple hq
  obtain⟨f0,f1,f2,f3,f4,f5⟩:=hf it (by simp)
  have hl:=rv.length
  exact wpAny_pyNext_tuple_end (I.ok.hd hc) st (show s.heap.IsTuple a its.toArray from p) (by simp;lia) fun h' eb=>⟨rfl,I.turned (t':=s.toks) (fun b o hb e=>eb b o hb e) f0 f1 f3 f4 f5⟩
 self:=fun _ _ _ _ _ st h=>wpAny_pyIter_tupleiter st h
theorem ziy {P:Program}{w:World}(it:Addr)(lo:Int)(n:Nat):Turn P w K tg (Itr lo n) [it] it (fun i h=>IsRangeIter h it (lo+(i:Nat)*1) ((n:Int)-(i:Nat)) 1) where
 mem:=by simp
 obj:=fun i h st b hb=>by
  have e:b=it:=by simpa using hb
  subst e
  exact⟨_,st,fun v z=>by
   have z':Data.fields _=Data.cell v:=z
   cases z'⟩
 keep:=fun i h h' st k=>k it (by simp) _ st
 item:=by
  intro X hP hw hK hc i pins s σ H E I hf st hg
  subst hP hw hK
  obtain⟨f0,f1,f2,f3,f4,f5⟩:=hf it (by simp)
  have W:=Walks.range (prog:=X.prog) (w:=X.w) (I.ok.hd hc) it lo 1 n
  refine W.item i s _ _ hg st fun v h' tk hv st' kk=>?_
  obtain⟨t,rfl⟩:=hv
  have I1:Inv X pins σ H {s with heap:=h',toks:=tk}:=I.turned (fun b o hb e=>kk b o (by simpa using hb) e) f0 f1 f3 f4 f5
  refine⟨_,rfl,go_of (s:={s with heap:=h',toks:=tk}) (n:="range_iterator") st' rfl rfl (by decide) ⟨.int (lo+i),H,I1,⟨t,?_⟩,⟨rfl,rfl⟩,st',fun b hb=>(hf b hb).1⟩⟩
  rw[Int.mul_one]
 done:=by
  intro X hP hw hK hc i pins s σ H E I hf st hg
  subst hP hw hK
  obtain⟨f0,f1,f2,f3,f4,f5⟩:=hf it (by simp)
  exact wpAny_pyNext_range_end (I.ok.hd hc) st (by have:n<=i:=hg;lia) fun h' eb=>⟨rfl,I.turned (t':=s.toks) (fun b o hb e=>eb b o hb e) f0 f1 f3 f4 f5⟩
 self:=fun _ _ _ _ _ st h=>wpAny_pyIter_rangeiter st h
section
variable {X:Cx} {tg:Expr}
theorem zh0 {R:It->Hp->Prop}{lo hi:Int}{t u v:Tok}{tk:Nat}(I:Inv X pins σ H s)(h1: -(2^62)<=lo)(h2:lo<2^62)(h3: -(2^62)<=hi)(h4:hi<2^62)
  (q:R (Itr lo (hi-lo).toNat) H):wpAny (model X.prog X.w) X.A (pyIter (.ref s.heap.objs.size)) (PIE X pins σ tg R) E {s with heap:=s.heap.push {cls:= .type "range",data:= .fields #[.int lo t,.int hi u,.int 1 v]},toks:=tk}:=by
 refine wpAny_pyIter_range (IsRange.new ..) (small_one h1 h2 h3 h4) ?_
 have I1:Inv X pins σ H {s with heap:=s.heap.push {cls:= .type "range",data:= .fields #[.int lo t,.int hi u,.int 1 v]},toks:=tk}:=I.kept fun b o e=>Heap.get?_push_of_some _ e
 refine⟨(s.heap.push {cls:= .type "range",data:= .fields #[.int lo t,.int hi u,.int 1 v]}).objs.size,[(s.heap.push {cls:= .type "range",data:= .fields #[.int lo t,.int hi u,.int 1 v]}).objs.size],_,_,H,rfl,
  I1.kept (t':=tk) fun b o e=>Heap.get?_push_of_some _ e,ziy _ lo (hi-lo).toNat,?_,fun b hb=>?_,q⟩
 ·have e1:lo+((0:Nat):Int)*1=lo:=by simp
  have e2:(((hi-lo).toNat:Nat):Int)-((0:Nat):Int)=Builtin.Range.rangeSize lo hi 1:=by rw[rangeSize_one];split<;>lia
  show IsRangeIter _ _ (lo+((0:Nat):Int)*1) ((((hi-lo).toNat:Nat):Int)-((0:Nat):Int)) 1
  rw[e1,e2]
  exact Heap.get?_push_size _ rfl
 ·have e:b=(s.heap.push {cls:= .type "range",data:= .fields #[.int lo t,.int hi u,.int 1 v]}).objs.size:=by simpa using hb
  subst e
  exact I1.fpOk (Nat.le_refl _) (I1.hok.fresh (Nat.le_refl _))
noncomputable def iRng1 (ta:TA):TI:=fun σ H R=>ta σ H fun vs H1=>∃j:Int,vs=[.int j]/\ -(2^62)<=j/\j<2^62/\R (Itr 0 j.toNat) H1
noncomputable def iRng2 (ta:TA):TI:=fun σ H R=>ta σ H fun vs H1=>∃i j:Int,vs=[.int i,.int j]/\(-(2^62)<=i/\i<2^62/\ -(2^62)<=j/\j<2^62)/\R (Itr i (j-i).toNat) H1
theorem zkC {a:Expr}{p pos:Pos}(hg:Gl X "range")(hm:X.mg "range"=none)(ha:PA X [a] ta)(hs:autoParam (starEach [a] X.env=[(false,eval a X.env)]) zu3._auto_1):PI X tg (.Call (.Name "range" p) [a] [] pos) (iRng1 ta):=by
 intro pins s σ H R I h
 refine Call_ (zeZ I hg hm boot_range (PyProof.Rows.callWith_type1 (thn (ha pos pins s σ H _ I h) fun us s1 ⟨vs,H1,I1,r1,q1⟩=>?_) hs rfl))
 obtain⟨j,e,q1,q2,q⟩:=q1
 subst e
 cases r1 with
 |cons r rr=>
  cases rr
  obtain⟨t,rfl⟩:=r
  exact call_range_1 (zh0 I1 (by lia) (by lia) q1 q2 (by simpa using q))
theorem zja {a b:Expr}{p pos:Pos}(hg:Gl X "range")(hm:X.mg "range"=none)(ha:PA X [a,b] ta)(hs:autoParam (starEach [a,b] X.env=[(false,eval a X.env),(false,eval b X.env)]) zu3._auto_1)(hs2:autoParam (starEach [b] X.env=[(false,eval b X.env)]) zu3._auto_1):
  PI X tg (.Call (.Name "range" p) [a,b] [] pos) (iRng2 ta):=by
 intro pins s σ H R I h
 refine Call_ (zeZ I hg hm boot_range (PyProof.Rows.callWith_type1 (thn (ha pos pins s σ H _ I h) fun us s1 ⟨vs,H1,I1,r1,q1⟩=>?_) (by rw[hs,hs2]) (by rw[hs2];rfl)))
 obtain⟨i,j,e,⟨q1,q2,q3,q4⟩,q⟩:=q1
 subst e
 cases r1 with
 |cons r rr=>
  cases rr with
  |cons r' rr=>
   cases rr
   obtain⟨t,rfl⟩:=r
   obtain⟨t',rfl⟩:=r'
   exact call_range_2 (zh0 I1 q1 q2 q3 q4 q)
noncomputable def tFor (wi:TI)(g:TG)(tb:TS):TS:=fun D σ H=>wi σ H fun J H1=>∃W:Nat->Nat->St->Hp->Prop,(∃m,W 0 m σ H1)/\∀i m σ H,W i m σ H->
 (J.stop i H/\D.nx σ H)\/(J.go i H/\∃N:St->Hp->Prop,(∀σ' H',N σ' H'->∃m',m'<m/\W (i+1) m' σ' H')/\∀x H',J.yld i H x H'->g x σ H' fun σ2 H2=>tb {D with nx:=N,ct:=N,bk:=D.nx} σ2 H2)
noncomputable def zf4 (fp:List Addr)(h:Heap):List (Addr×Obj):=fp.filterMap fun b=>(h.get? b).map fun o=>(b,o)
theorem zcP {o:Obj}(hb:b∈fp)(e:h.get? b=some o):(b,o)∈zf4 fp h:=List.mem_filterMap.mpr ⟨b,hb,by rw[e];rfl⟩
theorem zjo (hp:p∈zf4 fp h):p.1∈fp/\h.get? p.1=some p.2:=by
 obtain⟨b,hb,e⟩:=List.mem_filterMap.mp hp
 cases q:h.get? b with
 |none=>rw[q]at e;cases e
 |some o=>
  rw[q]at e
  have e':(b,o)=p:=Option.some.inj e
  subst e'
  exact⟨hb,q⟩
theorem Inv.pinned (I:Inv X pins σ H s)(hf:∀b∈fp,FpOk X pins H b)(ho:∀b∈fp,∃o,s.heap.get? b=some o/\∀v,o.data≠ .cell v):Inv X (pins++zf4 fp s.heap) σ H s:=
 I.pins_of fun p hp=>(List.mem_append.mp hp).elim (fun z=>I.pin p (List.mem_append_right _ z)) fun z=>by
  obtain⟨hb,e⟩:=zjo z
  obtain⟨f0,f1,f2,_⟩:=hf p.1 hb
  obtain⟨o,e',d⟩:=ho p.1 hb
  rw[e]at e';cases e'
  exact⟨e,f0,f1,f2,d⟩
theorem Inv.unpinned {pins pl:List (Addr×Obj)}(I:Inv X (pins++pl) σ H s):Inv X pins σ H s:=I.pins_of fun p hp=>I.pin p (List.mem_append_right _ (List.mem_append_left _ hp))
theorem ps_for {iter:Expr}{wi:TI}{g:TG}{tb:TS}(hp:PassesOwn (model X.prog X.w) X.A X.env X.xe)(hc:X.calm=true)(hi:PI X tg iter wi)(hg:PG X tg g)(hb:PSs X body tb)
    (hs:autoParam (∀x,foldedSetIterable iter X.env x=pure x) zu4._auto_1):PS X (.For tg iter body [] pos) (tFor wi g tb):=by
  intro pins s σ H D I h
  refine wpAny_For (thn (hi pins s σ H _ I h) fun v s1 h1=>thn h1 fun itv s2 h2=>?_) hs
  obtain⟨it,fp,tn,J,H2,e,I2,T,st2,f2,W,⟨m0,w0⟩,turn⟩:=h2
  subst e
  have stat:∀{H':Hp},(∀b∈fp,H' b=none)->∀b∈fp,FpOk X pins H' b:=fun hn b hb=>⟨hn b hb,(f2 b hb).2⟩
  refine codeAny_forLoop_any (fun n s'=>∃i σ' H',Inv X pins σ' H' s'/\tn i s'.heap/\(∀b∈fp,H' b=none)/\W i n σ' H') ?_ m0 ⟨0,σ,H2,I2,st2,fun b hb=>(f2 b hb).1,w0⟩
  rintro n s3 ⟨i,σ3,H3,I3,st3,fr3,w3⟩
  rcases turn i n σ3 H3 w3 with⟨stop,qn⟩|⟨go,N,hN,step⟩
  . refine wpAny_passesOwn hp (thn (T.done X rfl rfl rfl hc i pins s3 σ3 H3 X.xe I3 (stat fr3) st3 stop) fun r s4 ⟨hr,I4⟩=>?_)
    subst hr
    exact wpAny_execs_nil ⟨σ3,H3,I4,qn⟩
  . refine wpAny_passesOwn hp (thn (T.item X rfl rfl rfl hc i pins s3 σ3 H3 X.xe I3 (stat fr3) st3 go) fun r s4 ⟨u,hr,h4⟩=>?_)
    subst hr
    refine wpAny_passesOwn hp (thn h4 fun _ s5 ⟨x,H5,I5,r5,y5,st5,fr5⟩=>?_)
    have I5':=I5.pinned (stat fr5) (T.obj _ _ st5)
    refine wpAny_passesOwn hp (thn (hg _ s5 σ3 H5 x u _ I5' r5 (step x H5 y5)) fun _ s6 ⟨σ6,H6,I6,q6⟩=>?_)
    refine wpAny_passesOwn hp (thn (hb _ s6 σ6 H6 _ I6 q6) fun f s7 q7=>?_)
    have again:∀{σ7:St} {H7:Hp},Inv X (pins++zf4 fp s5.heap) σ7 H7 s7->N σ7 H7->∃m,m<n/\∃i σ' H',Inv X pins σ' H' s7/\tn i s7.heap/\(∀b∈fp,H' b=none)/\W i m σ' H':=fun{σ7 H7} I7 n7=>by
      obtain⟨m',hm,w7⟩:=hN σ7 H7 n7
      refine⟨m',hm,i+1,σ7,H7,I7.unpinned,T.keep _ _ _ st5 fun b hb o e=>(I7.pin (b,o) (List.mem_append_right _ (List.mem_append_right _ (zcP hb e)))).1,fun b hb=>?_,w7⟩
      obtain⟨o,e,d⟩:=T.obj _ _ st5 b hb
      exact(I7.pin (b,o) (List.mem_append_right _ (List.mem_append_right _ (zcP hb e)))).2.1
    cases f with
    |next=>obtain⟨σ7,H7,I7,n7⟩:=q7;exact again I7 n7
    |cont=>obtain⟨σ7,H7,I7,n7⟩:=q7;exact again I7 n7
    |brk=>obtain⟨σ7,H7,I7,q7⟩:=q7;exact⟨σ7,H7,I7.unpinned,q7⟩
    |ret v=>obtain⟨x7,σ7,H7,I7,r7,q7⟩:=q7;exact⟨x7,σ7,H7,I7.unpinned,r7,q7⟩
end
noncomputable abbrev R2:=V->V->Hp->VK->Prop
noncomputable def OpR (X:Cx)(f:Value->Value->Sem Value)(r:R2):Prop:=
 ∀(pins:List (Addr×Obj)) (s:Shared) (σ:St) (H:Hp) (x y:V) (v u:Value) (Q:VK),Inv X pins σ H s->RelV x v->RelV y u->r x y H Q->
  wpAny (model X.prog X.w) X.A (f v u) (EP X pins σ Q) X.xe s
noncomputable def UnR (X:Cx)(f:Value->Sem Value)(r:V->Hp->VK->Prop):Prop:=
 ∀(pins:List (Addr×Obj)) (s:Shared) (σ:St) (H:Hp) (x:V) (v:Value) (Q:VK),Inv X pins σ H s->RelV x v->r x H Q->
  wpAny (model X.prog X.w) X.A (f v) (EP X pins σ Q) X.xe s
noncomputable def zdT (X:Cx)(f:Value)(r:List V->Hp->VK->Prop):Prop:=
 ∀(pins:List (Addr×Obj)) (s:Shared) (σ:St) (H:Hp) (xs:List V) (us:List Value) (Q:VK),Inv X pins σ H s->Vals xs us->r xs H Q->
  wpAny (model X.prog X.w) X.A (call f us) (EP X pins σ Q) X.xe s
noncomputable def TruR (X:Cx)(r:V->Hp->(Bool->Hp->Prop)->Prop):Prop:=
 ∀(pins:List (Addr×Obj)) (s:Shared) (σ:St) (H:Hp) (x:V) (v:Value) (Q:Bool->Hp->Prop),Inv X pins σ H s->RelV x v->r x H Q->
  wpAny (model X.prog X.w) X.A (truthy v) (TP X pins σ Q) X.xe s
noncomputable def tOp (r:R2)(ta tb:TE):TE:=fun σ H Q=>ta σ H fun x H1=>tb σ H1 fun y H2=>r x y H2 Q
noncomputable def tUn (r:V->Hp->VK->Prop)(ta:TE):TE:=fun σ H Q=>ta σ H fun x H1=>r x H1 Q
noncomputable def rI (C:Int->Int->Prop)(g:Int->Int->V):R2:=fun x y H Q=>∃i j,x= .int i/\y= .int j/\C i j/\Q (g i j) H
noncomputable def rI0 (g:Int->Int->V):R2:=fun x y H Q=>∃i j,x= .int i/\y= .int j/\Q (g i j) H
noncomputable def rU (g:Int->V):V->Hp->VK->Prop:=fun x H Q=>∃i,x= .int i/\Q (g i) H
section
variable {X:Cx} {a b c:Expr} {ta tb tc:TE} {pos:Pos}
theorem binT (ha:PE X a ta)(hb:PE X b tb){R:V->V->Hp->Prop}(I:Inv X pins σ H s)
  (h:ta σ H fun x H1=>tb σ H1 fun y H2=>R x y H2) {Q:Value->Shared->Prop} {f:Value->Value->Sem Value}
  (hf:∀v u s2 x y H2,Inv X pins σ H2 s2->RelV x v->RelV y u->R x y H2->wpAny (model X.prog X.w) X.A (f v u) Q X.xe s2):
  wpAny (model X.prog X.w) X.A (eval a X.env) (fun v s₁=>wpAny (model X.prog X.w) X.A (eval b X.env) (fun u s₂=>wpAny (model X.prog X.w) X.A (f v u) Q X.xe s₂) X.xe s₁) X.xe s:=by
 refine thn (ha pins s σ H _ I h) fun v s1 ⟨x,H1,I1,r1,q1⟩=>?_
 refine thn (hb pins s1 σ H1 _ I1 q1) fun u s2 ⟨y,H2,I2,r2,q2⟩=>?_
 exact hf v u s2 x y H2 I2 r1 r2 q2
theorem pe_op {op:Operator}{r:R2}(ho:OpR X (binaryOp op) r)(ha:PE X a ta)(hb:PE X b tb):PE X (.BinOp a op b pos) (tOp r ta tb):=by
 intro pins s σ H Q I h
 exact wpAny_BinOp (binT ha hb I h fun v u s2 x y H2 I2 rx ry q=>ho pins s2 σ H2 x y v u Q I2 rx ry q)
theorem pe_un {op:UnaryOp}(ho:UnR X (unaryOp op) r)(ha:PE X a ta):PE X (.UnaryOp op a pos) (tUn r ta):=by
 intro pins s σ H Q I h
 exact UnaryOp_ (thn (ha pins s σ H _ I h) fun v s1 ⟨x,H1,I1,r1,q1⟩=>ho pins s1 σ H1 x v Q I1 r1 q1)
theorem opI {C:Int->Int->Prop}
  (rule:∀(i j:Int) (t u:Tok) (s:Shared) (Q:Value->Shared->Prop) (E:Value->Shared->Prop),C i j->Q (.int (g i j) s.toks) {s with toks:=s.toks+1}->wpAny (model X.prog X.w) X.A (f (.int i t) (.int j u)) Q E s):
  OpR X f (rI C fun i j=> .int (g i j)):=by
 intro pins s σ H x y v u Q I rx ry h
 obtain⟨i,j,rfl,rfl,hc,q⟩:=h
 obtain⟨t,rfl⟩:=rx
 obtain⟨t',rfl⟩:=ry
 exact rule i j t t' s _ _ hc ⟨.int (g i j),H,I.tok _,⟨_,rfl⟩,q⟩
theorem opI0
  (rule:∀(i j:Int) (t u:Tok) (s:Shared) (Q:Value->Shared->Prop) (E:Value->Shared->Prop),Q (.int (g i j) s.toks) {s with toks:=s.toks+1}->wpAny (model X.prog X.w) X.A (f (.int i t) (.int j u)) Q E s):
  OpR X f (rI0 fun i j=> .int (g i j)):=by
 intro pins s σ H x y v u Q I rx ry h
 obtain⟨i,j,rfl,rfl,q⟩:=h
 obtain⟨t,rfl⟩:=rx
 obtain⟨t',rfl⟩:=ry
 exact rule i j t t' s _ _ ⟨.int (g i j),H,I.tok _,⟨_,rfl⟩,q⟩
theorem opB0 {g:Int->Int->Bool}
  (rule:∀(i j:Int) (t u:Tok) (s:Shared) (Q:Value->Shared->Prop) (E:Value->Shared->Prop),Q (.bool (g i j)) s->wpAny (model X.prog X.w) X.A (f (.int i t) (.int j u)) Q E s):
  OpR X f (rI0 fun i j=> .bl (g i j)):=by
 intro pins s σ H x y v u Q I rx ry h
 obtain⟨i,j,rfl,rfl,q⟩:=h
 obtain⟨t,rfl⟩:=rx
 obtain⟨t',rfl⟩:=ry
 exact rule i j t t' s _ _ ⟨.bl (g i j),H,I,rfl,q⟩
noncomputable def CPow (i j:Int):Prop:=0<=j/\j<=1000000/\i.natAbs<2^64
theorem op_add:OpR X (binaryOp .Add) (rI0 fun i j=> .int (i+j)):=opI0 fun _ _ _ _ _ _ _ q=>add_int q
theorem op_sub:OpR X (binaryOp .Sub) (rI0 fun i j=> .int (i-j)):=opI0 fun _ _ _ _ _ _ _ q=>sub_int q
theorem op_mod:OpR X (binaryOp .Mod) (rI (fun _ j=>0<j) fun i j=> .int (i%j)):=opI fun i j _ _ _ _ _ hc q=>by
 have h1:(0:Int)<j:=hc
 exact mod_int' (by lia) (by rw[Int.fmod_eq_emod_of_nonneg i (by lia)];exact q)
theorem op_pow:OpR X (binaryOp .Pow) (rI CPow fun i j=> .int (i^j.toNat)):=opI fun _ _ _ _ _ _ _ hc q=>pow_int_small hc.1 hc.2.1 hc.2.2 q
theorem unI {f:Value->Sem Value}{g:Int->Int}
  (rule:∀(i:Int) (t:Tok) (s:Shared) (Q:Value->Shared->Prop) (E:Value->Shared->Prop),Q (.int (g i) s.toks) {s with toks:=s.toks+1}->wpAny (model X.prog X.w) X.A (f (.int i t)) Q E s):
  UnR X f (rU fun i=> .int (g i)):=by
 intro pins s σ H x v Q I rx h
 obtain⟨i,rfl,q⟩:=h
 obtain⟨t,rfl⟩:=rx
 exact rule i t s _ _ ⟨.int (g i),H,I.tok _,⟨_,rfl⟩,q⟩
theorem un_neg:UnR X (unaryOp .USub) (rU fun i=> .int (-i)):=unI fun _ _ _ _ _ q=>neg_int q
end
section
variable {X:Cx} {a b c:Expr} {ta tb tc:TE} {pos:Pos}
theorem fin_bl {Q:VK}{k k':Bool}(I:Inv X pins σ H s)(q:Q (.bl k) H)(e:k=k'):EP X pins σ Q (.bool k') s:=by
 subst e
 exact⟨.bl k,H,I,rfl,q⟩
theorem op_lt:OpR X (compareOp .Lt) (rI0 fun i j=> .bl (decide (i<j))):=opB0 fun _ _ _ _ _ _ _ q=>lt_int q
theorem zgE:OpR X (compareOp .LtE) (rI0 fun i j=> .bl (decide (i<=j))):=opB0 fun _ _ _ _ _ _ _ q=>le_int q
theorem op_ge:OpR X (compareOp .GtE) (rI0 fun i j=> .bl (decide (j<=i))):=opB0 fun _ _ _ _ _ _ _ q=>ge_int q
theorem op_isN:OpR X (compareOp .Is) (fun x y H Q=>y= .non/\Q (.bl (decide (x= .non))) H):=by
 intro pins s σ H x y v u Q I rx ry h
 obtain⟨rfl,q⟩:=h
 cases ry
 refine is_none_gen (fin_bl I q ?_)
 cases x<;>first
  |(cases rx;rfl)
  |(obtain⟨t,rfl⟩:=rx;rfl)
theorem OpR.or {r r':R2}(h:OpR X f r)(h':OpR X f r'):OpR X f (fun x y H Q=>r x y H Q\/r' x y H Q):=by
 intro pins s σ H x y v u Q I rx ry q
 rcases q with q|q
 ·exact h pins s σ H x y v u Q I rx ry q
 ·exact h' pins s σ H x y v u Q I rx ry q
theorem ze4 (b:Expr)(h:autoParam (op≠ .In) zu1._auto_1)(h2:autoParam (op≠ .NotIn) zu1._auto_1):behindInMarks op b=false:=by
 have e1:(op==CmpOp.In)=false:=by cases op<;>first|rfl|exact absurd rfl h
 have e2:(op==CmpOp.NotIn)=false:=by cases op<;>first|rfl|exact absurd rfl h2
 cases b<;>simp[behindInMarks,e1,e2]
theorem pe_cmpR {r:R2}(ho:OpR X (compareOp op) r)(ha:PE X a ta)(hb:PE X b tb)(hm:behindInMarks op b=false):PE X (.Compare a [op] [b] pos) (tOp r ta tb):=by
 intro pins s σ H Q I h
 exact wpAny_Compare1 (binT ha hb I h fun v u s2 x y H2 I2 rx ry q=>ho pins s2 σ H2 x y v u Q I2 rx ry q) hm
noncomputable def tTest (t:TE):TT:=fun σ H Q=>t σ H fun x H'=>∃k,x= .bl k/\Q k H'
theorem zgU {r:R2}(ho:OpR X (compareOp op) r)(ha:PE X a ta)(hb:PE X b tb)(hm:behindInMarks op b=false):PT X (.Compare a [op] [b] pos) (tTest (tOp r ta tb)):=by
 intro pins s σ H Q I h
 refine wpAny_isTrue_Compare1 (thn (ha pins s σ H _ I h) fun v s1 ⟨x,H1,I1,r1,q1⟩=>thn (hb pins s1 σ H1 _ I1 q1) fun u s2 ⟨y,H2,I2,r2,q2⟩=>
  thn (ho pins s2 σ H2 x y v u _ I2 r1 r2 q2) fun c s3 ⟨z,H3,I3,r3,k,e,q3⟩=>?_) hm
 subst e
 cases r3
 exact wpAny_truthy_bool ⟨H3,I3,q3⟩
noncomputable def tChain (r r':R2)(ta tb tc:TE):TE:=fun σ H Q=>ta σ H fun x H1=>tb σ H1 fun y H2=>r x y H2 fun z H3=>∃k,z= .bl k/\
 (if k=true then tc σ H3 fun w' H4=>r' y w' H4 Q else Q (.bl false) H3)
theorem pe_chain {op op':CmpOp}{r r':R2}(ho:OpR X (compareOp op) r)(ho':OpR X (compareOp op') r')(ha:PE X a ta)(hb:PE X b tb)(hc:PE X c tc)
  (hm:autoParam (lastMarks [op,op'] [b,c]=false) zu5._auto_1):PE X (.Compare a [op,op'] [b,c] pos) (tChain r r' ta tb tc):=by
 intro pins s σ H Q I h
 refine Compare_chain (thn (ha pins s σ H _ I h) fun v s1 ⟨x,H1,I1,r1,q1⟩=>chain_link (thn (hb pins s1 σ H1 _ I1 q1) fun u s2 ⟨y,H2,I2,r2,q2⟩=>
  thn (ho pins s2 σ H2 x y v u _ I2 r1 r2 q2) fun d s3 ⟨z,H3,I3,r3,k,e,q3⟩=>?_)) hm
 subst e
 cases r3
 refine wpAny_truthy_bool ?_
 cases k with
 |false=>exact ite_ff ⟨.bl false,H3,I3,rfl,q3⟩
 |true=>exact ite_tt (chain_last (thn (hc pins s3 σ H3 _ I3 q3) fun w' s4 ⟨z',H4,I4,r4,q4⟩=>ho' pins s4 σ H4 y z' u w' Q I4 r2 r4 q4))
noncomputable def TruV (K:W.Frag)(x:V)(H:Hp)(k:Bool):Prop:=
 match x with
 | .non=>k=false
 | .bl b=>k=b
 | .int i=>k=(i !=0)
 | .str y=>y.length<=sizeLine/\k=((y.length:Int) !=0)
 | .byt y=>y.size<=sizeLine/\k=((y.size:Int) !=0)
 | .ref p=>(∃xs,SqL K H p xs/\k=!xs.isEmpty)\/(∃xs,SqT K H p xs/\k=!xs.isEmpty)\/∃kvs,H p=some (.dK kvs)/\k=!kvs.isEmpty
 |_=>False
theorem zin {κ:Type}{kvs:List (κ×V)}{vs:List (κ×Value)}(r:KV kvs vs):(!vs.isEmpty)=!kvs.isEmpty:=by
 cases r<;>rfl
theorem ze9 (r:Vals xs its):(!its.toArray.isEmpty)=!xs.isEmpty:=by
 cases r<;>simp
theorem zfh:(sizeLine:Nat)<2^63:=by rw[sizeLine_eq];decide
theorem tru_ok:TruR X (fun x H Q=>∃k,TruV X.K x H k/\Q k H):=by
 intro pins s σ H x v Q I rx h
 obtain⟨k,e,q⟩:=h
 have hl:=zfh
 have hs:sizeLine=16777216:=sizeLine_eq
 cases x with
 |non=>
  cases rx
  have e':k=false:=e
  subst e'
  exact truthy_none ⟨H,I,q⟩
 |bl b=>
  cases rx
  have e':k=b:=e
  subst e'
  exact wpAny_truthy_bool ⟨H,I,q⟩
 |int i=>
  obtain⟨t,rfl⟩:=rx
  have e':k=(i !=0):=e
  subst e'
  exact PySem.P.truthy_int ⟨H,I,q⟩
 |str y=>
  obtain⟨t,rfl⟩:=rx
  obtain⟨hy,e'⟩:y.length<=sizeLine/\k=((y.length:Int) !=0):=e
  subst e'
  exact PySem.P.truthy_str (by lia) ⟨H,I.tok _,q⟩
 |byt y=>
  obtain⟨t,rfl⟩:=rx
  obtain⟨hy,e'⟩:y.size<=sizeLine/\k=((y.size:Int) !=0):=e
  subst e'
  exact W.truthy_bytes (by lia) ⟨H,I.tok _,q⟩
 |ref p=>
  cases rx
  have e':(∃xs,SqL X.K H p xs/\k=!xs.isEmpty)\/(∃xs,SqT X.K H p xs/\k=!xs.isEmpty)\/∃kvs,H p=some (.dK kvs)/\k=!kvs.isEmpty:=e
  rcases e' with⟨xs,hx,e'⟩|⟨xs,hx,e'⟩|⟨kvs,hx,e'⟩
  ·subst e'
   obtain⟨its,r,pl,hz⟩:=I.list hx
   have hlen:=r.length
   exact wpAny_truthy_list pl.isList (by simp only[List.size_toArray];lia) ⟨H,I.tok _,by rw[ze9 r];exact q⟩
  ·subst e'
   obtain⟨its,r,pl,hz⟩:=I.tuple hx
   have hlen:=r.length
   exact truthy_tuple pl (by simp only[List.size_toArray];lia) ⟨H,I.tok _,by rw[ze9 r];exact q⟩
  ·subst e'
   obtain⟨hz,hS,vs,r,m⟩:kvs.length<=sizeLine/\(p==sysModules)=false/\∃vs,KV kvs vs/\s.heap.DictOf (zaU X.prog X.w) p vs:=I.hok p _ hx
   have hlen:kvs.length=vs.length:=Paired.length r
   exact wpAny_truthy_dict hS m (by lia) ⟨H,I.tok _,by rw[zin r];exact q⟩
 |_=>exact(show False from e).elim
theorem pt_truth (ha:PE X a ta)(he:∀whole,isTrue a X.env whole=(do let v<-whole;standAt a.pos;holding [v] (truthy v))):
  PT X a (fun σ H Q=>ta σ H fun x H'=>∃k,TruV X.K x H' k/\Q k H'):=by
 intro pins s σ H Q I h
 exact isTrue_plain (thn (ha pins s σ H _ I h) fun v s1 ⟨x,H1,I1,r1,q1⟩=>tru_ok pins s1 σ H1 x v Q I1 r1 q1) (he _)
theorem ziB:OpR X (binaryOp .Add) (fun x y H Q=>∃i j,x= .str i/\y= .str j/\i.length+j.length<=sizeLine/\Q (.str (i++j)) H):=by
 intro pins s σ H x y v u Q I rx ry h
 obtain⟨i,j,rfl,rfl,hz,q⟩:=h
 obtain⟨t,rfl⟩:=rx
 obtain⟨t',rfl⟩:=ry
 exact add_str (fun t' tk=>⟨.str (i++j),H,I.tok _,⟨_,rfl⟩,q⟩) hz
theorem zgc {x:V}(r:Vals [x] us):∃u,us=[u]/\RelV x u:=by
 cases r with
 |cons r1 r2=>cases r2;exact⟨_,rfl,r1⟩
end
structure ObjM (h:Heap) (x dx C:Addr) (mA:Str->Option Value):Prop where
 obj:h.get? x=some (W.instObj C dx)
 ns:h.Ns1 dx mA
 ne:dx≠x
theorem ziX (n:h.Ns1 dx mA):∃od,h.get? dx=some od/\∀name,W.lookIn name od=some (mA name):=by
 obtain⟨o,es,ep,ho,hd,hk,_,hm⟩:=n
 refine⟨o,ho,fun name=>?_⟩
 have e:=hm name
 unfold nsFind findBy at e
 rw[<-Array.find?_toList]at e
 unfold W.lookIn
 rw[hd]
 dsimp only
 split
 ·rename_i y q
  rw[q]at e
  exact congrArg some e
 ·rename_i q
  rw[q]at e
  have a:es.toList.any (·.refKey)=false:=by
   rw[List.any_eq_false]
   intro y hy
   obtain⟨z,t,hkey⟩:=hk y (Array.mem_toList_iff.mp hy)
   simp[DictEntry.refKey,hkey]
  have a':¬es.toList.any (·.refKey)=true:=by rw[a];exact Bool.false_ne_true
  rw[if_neg a']
  exact congrArg some e
theorem ObjM.look {x dx C:Addr}(I:ObjM h x dx C mA):∃od,W.InstAt h x (W.instObj C dx) C (some od)/\∀name,W.lookIn name od=some (mA name):=
 let⟨od,ho,hl⟩:=ziX I.ns
 ⟨od,⟨I.obj,rfl,rfl,ho⟩,hl⟩
section
variable {prog:Program} {w:World} {A:Around} {E:Value->Shared->Prop} {s:Shared} {K:W.Frag} {x dx C f:Addr} {mA:Str->Option Value} {name:Str} {v:Value}
theorem get_map {expr:Bool}(X:K.In s.heap)(I:ObjM s.heap x dx C mA)(hg:W.plainGet K C name=true)(hh:W.hasDictIn K C=true)
  (ha:W.findIn K (.ref C) name=some none) (hv:mA name=some v) (hv':W.handedIn v=true) (h:Q v {s with toks:=s.toks+1}):
  wpAny (model prog w) A (getAttr (.ref x) name expr) Q E s:=by
 obtain⟨od,J,hl⟩:=I.look
 exact W.get_value X J (W.plainGet_of hg).1 (W.findObj_own hh ha rfl (by rw[hl,hv])) hv' h
theorem get_meth {Q:Value×List Value->Shared->Prop}(X:K.In s.heap)(I:ObjM s.heap x dx C mA)(hg:W.plainGet K C name=true)
  (hf:W.findIn K (.ref C) name=some (some (.ref f))) (ht:W.isFn K (.ref f)=true) (hv:mA name=none) (h:Q (.ref f,[.ref x]) s):
  wpAny (model prog w) A (getMethod (.ref x) name pl) Q E s:=by
 obtain⟨od,J,hl⟩:=I.look
 exact W.method_fn X J (W.plainGet_of hg).1 (W.plainGet_of hg).2 hf (beq_iff_eq.mp ht) (by show(W.lookIn name od).map (·.isSome)=some false;rw[hl,hv];rfl) h
theorem set_map {Q:Unit->Shared->Prop}(X:K.In s.heap)(I:ObjM s.heap x dx C mA)
  (hs:W.findIn K (.ref C) "__setattr__"=some (some (.builtin "object.__setattr__"))) (hp:W.plainOver K C=true) (ht:W.takerIn K C name=some none) (hh:W.hasDictIn K C=true)
  (hw:PySem.Within mA ns) (hsz:ns.length<=sizeLine)
  (h:∀h',ObjM h' x dx C (fun y=>if y=name then some v else mA y)->Heap.SameBut dx s.heap h'->Q () {s with heap:=h',toks:=s.toks+2}):
  wpAny (model prog w) A (setAttr (.ref x) name v) Q E s:=by
 obtain⟨od,J,hl⟩:=I.look
 refine W.set_plain X J hs (W.osa_open (s:={s with toks:=s.toks+1}) (r:=none) X J hp ht fun b=>?_)
 obtain⟨cd,hc,hd'⟩:=W.any_some hh
 have hx:s.heap.get? x=some ⟨.ref C,some dx,.plain,#[]⟩:=I.obj
 refine wpAny_bind (wpAny_pure (wpAny_bind (wpAny_bind (wpAny_loadPart hx (wpAny_bind (W.Looks.here (s:={s with toks:=s.toks+1}) (W.looks_clsIn X hc) ?_))))))
 rw[hd']
 refine wpAny_pure (a:=some dx) (wpAny_bind (wpAny_pure (wpAny_bind ?_)))
 refine wpAny_nsSet1 (s:={s with toks:=s.toks+1}) I.ns fun h' hn2 hs2=>?_
 obtain⟨oD,esD,epD,hoD,hdD,hcD⟩:=hn2.count (PySem.Within.cons name v hw)
 refine wpAny_bind (wpAny_lookBehind hoD (by rw[hdD];exact pastItsLine_dict (Nat.le_trans hcD (by rw[List.length_cons];lia))) ?_)
 exact wpAny_pure (h _ ⟨(hs2.2 _ (Ne.symm I.ne)).trans I.obj,hn2,I.ne⟩ hs2)
theorem make_map {R:Result->Shared->Prop}{vs:List Value}{kw:List (Str×Value)}(X:K.In s.heap)(hm:W.makesIn K C=true)
  (hi:W.findIn K (.ref C) "__init__"=some (some (.ref f))) (hf:W.typeIn K (.ref f)=some (.type "function"))
  (h : codeAny (model prog w) (A.under (.builtin "type.__call__" ⟨.ref C :: vs, kw⟩)) (.call (.ref f) ⟨.ref (s.heap.objs.size + 1) :: vs, kw⟩) (W.InitBack (s.heap.objs.size + 1) R)
   {s with heap:=(s.heap.push W.emptyDict).push (W.instObj C s.heap.objs.size)}):
  codeAny (model prog w) A (.call (.ref C) ⟨vs,kw⟩) R s:=by
 obtain⟨hh,g,d,t,os⟩:=s
 exact W.make_core (W.makes_of X hm) (W.looks_findIn X hi) (fun self=>W.bind_fn X self hf) (.inl rfl) h
end
noncomputable def putF (f:Str)(v:V):List (Str×V)->List (Str×V)
 |[]=>[(f,v)]
 |(g,x)::r=>if g=f then(g,v)::r else(g,x)::putF f v r
theorem zeH (f g:Str)(v:V):∀fs:List (Str×V),(putF f v fs).lookup g=if g=f then some v else fs.lookup g
 |[]=>by
  show List.lookup g [(f,v)]=_
  by_cases h:g=f
  ·have hb:(g==f)=true:=beq_iff_eq.mpr h
   simp only[List.lookup,hb,if_pos h]
  ·have hb:(g==f)=false:=beq_eq_false_iff_ne.mpr h
   simp only[List.lookup,hb,if_neg h]
 |(k,x)::r=>by
  have ih:=zeH f g v r
  rw[show putF f v ((k,x)::r)=(if k=f then(k,v)::r else(k,x)::putF f v r)from rfl]
  by_cases hk:k=f
  ·rw[if_pos hk]
   by_cases h:g=k
   ·have hb:(g==k)=true:=beq_iff_eq.mpr h
    simp only[List.lookup,hb,if_pos (h.trans hk)]
   ·have hb:(g==k)=false:=beq_eq_false_iff_ne.mpr h
    simp only[List.lookup,hb,if_neg (fun e:g=f=>h (e.trans hk.symm))]
  ·rw[if_neg hk]
   by_cases h:g=k
   ·have hb:(g==k)=true:=beq_iff_eq.mpr h
    simp only[List.lookup,hb,if_neg (fun e:g=f=>hk (h.symm.trans e))]
   ·have hb:(g==k)=false:=beq_eq_false_iff_ne.mpr h
    simp only[List.lookup,hb]
    exact ih
theorem zey (f:Str)(v:V):∀fs:List (Str×V),f∈(putF f v fs).map (·.1)/\∀g,g∈fs.map (·.1)->g∈(putF f v fs).map (·.1)
 |[]=>⟨by simp[putF],fun g h=>by simp at h⟩
 |(k,x)::r=>by
  obtain⟨i1,i2⟩:=zey f v r
  rw[show putF f v ((k,x)::r)=(if k=f then(k,v)::r else(k,x)::putF f v r)from rfl]
  by_cases hk:k=f
  ·rw[if_pos hk]
   subst hk
   exact⟨by simp,fun g h=>by simpa using h⟩
  ·rw[if_neg hk]
   refine⟨?_,fun g h=>?_⟩
   ·rw[List.map_cons]
    exact List.mem_cons_of_mem _ i1
   ·rw[List.map_cons]at h ⊢
    rcases List.mem_cons.mp h with e|e
    ·exact List.mem_cons.mpr (.inl e)
    ·exact List.mem_cons_of_mem _ (i2 g e)
theorem zeV (f:Str)(v:V):∀fs:List (Str×V),(putF f v fs).length<=fs.length+1
 |[]=>by simp[putF]
 |(k,x)::r=>by
  have ih:=zeV f v r
  rw[show putF f v ((k,x)::r)=(if k=f then(k,v)::r else(k,x)::putF f v r)from rfl]
  by_cases hk:k=f
  ·rw[if_pos hk,List.length_cons,List.length_cons];lia
  ·rw[if_neg hk,List.length_cons,List.length_cons];lia
theorem RelO.some_of {o:Option Value}(r:RelO (some v) o):∃u,o=some u/\RelV v u:=by
 cases o with
 |none=>exact(show False from r).elim
 |some u=>exact⟨u,rfl,r⟩
theorem RelO.none_of {o:Option Value}(r:RelO none o):o=none:=by
 cases o with
 |none=>rfl
 |some u=>exact(show False from r).elim
theorem zi5 (r:RelV v u):W.handedIn u=true:=by
 cases v with
 |non=>cases(show u=Value.none from r);rfl
 |bl b=>cases(show u=Value.bool b from r);rfl
 |int i=>obtain⟨t,e⟩:=(show ∃t,u=Value.int i t from r);cases e;rfl
 |str x=>obtain⟨t,e⟩:=(show ∃t,u=Value.str x t from r);cases e;rfl
 |byt b=>obtain⟨t,e⟩:=(show ∃t,u=Value.bytes b t from r);cases e;rfl
 |flt b=>obtain⟨t,e⟩:=(show ∃t,u=Value.float b t from r);cases e;rfl
 |ref a=>cases(show u=Value.ref a from r);rfl
 |ty n=>cases(show u=Value.type n from r);rfl
section
variable {P:Program} {w:World} {H H':Hp} {h h':Heap} {a C dx:Addr} {fs fs':List (Str×V)}
theorem zgD (hok:HOk P w H h)(e:H a=some (.ins C dx fs)):∃mA,ObjM h a dx C mA/\(∀f,RelO (fs.lookup f) (mA f))/\PySem.Within mA (fs.map (·.1))/\fs.length<=1000/\H dx=some (.own a):=by
 obtain⟨d,z,ne,ob,mA,n,r,q⟩:=(show ObjOk P w H h a (.ins C dx fs)from hok a _ e)
 exact⟨mA,⟨ob,n,ne⟩,r,q,z,d⟩
end
structure Cls (K:W.Frag) (C:Addr):Prop where
 pg:W.plainGet K C Str.empty=true
 hd:W.hasDictIn K C=true
 po:W.plainOver K C=true
 sa:W.findIn K (.ref C) "__setattr__"=some (some (.builtin "object.__setattr__"))
theorem Cls.get (c:Cls K C)(f:Str):W.plainGet K C f=true:=c.pg
noncomputable def NoAttr (K:W.Frag)(C:Addr)(f:Str):Prop:=W.findIn K (.ref C) f=some none
theorem NoAttr.taker {f:Str}(n:NoAttr K C f):W.takerIn K C f=some none:=by
 unfold W.takerIn
 rw[show W.findIn K (.ref C) f=some none from n]
 rfl
structure Meth (K:W.Frag) (C:Addr) (m:Str) (f:Addr):Prop where
 at_:W.findIn K (.ref C) m=some (some (.ref f))
 fn:W.isFn K (.ref f)=true
 kp:W.keepIn K (.ref f)=true
section
variable {X:Cx} {pins:List (Addr×Obj)} {σ:St} {H:Hp} {s:Shared} {a C dx:Addr} {fs:List (Str×V)} {f:Str} {v:V} {A:Around} {E:Value->Shared->Prop}
theorem ziu {b:Bool}(I:Inv X pins σ H s)(e:H a=some (.ins C dx fs))(c:Cls X.K C)(n:NoAttr X.K C f)(l:fs.lookup f=some v)
  (h:∀u s',Inv X pins σ H s'->RelV v u->Q u s'):wpAny (model X.prog X.w) A (getAttr (.ref a) f b) Q E s:=by
 obtain⟨mA,O,r,_,_,_⟩:=zgD I.hok e
 obtain⟨u,hu,ru⟩:=RelO.some_of (v:=v) (o:=mA f) (by rw[<-l];exact r f)
 exact get_map I.kIn O (c.get f) c.hd n hu (zi5 ru) (h u _ (I.tok _) ru)
theorem zfb {g:Addr}{Q:Value×List Value->Shared->Prop}(I:Inv X pins σ H s)(e:H a=some (.ins C dx fs))(c:Cls X.K C)(k:Meth X.K C m g)(l:fs.lookup m=none)
  (h:Q (.ref g,[.ref a]) s):wpAny (model X.prog X.w) A (getMethod (.ref a) m pl) Q E s:=by
 obtain⟨mA,O,r,_,_,_⟩:=zgD I.hok e
 have hn:mA m=none:=RelO.none_of (by rw[<-l];exact r m)
 exact get_meth I.kIn O (c.get m) k.at_ k.fn hn h
theorem ziE {Q:Unit->Shared->Prop}(I:Inv X pins σ H s)(e:H a=some (.ins C dx fs))(c:Cls X.K C)(n:NoAttr X.K C f)(hl:fs.length<1000)(ry:RelV y u)
  (h:∀s',Inv X pins σ (upd H a (.ins C dx (putF f y fs))) s'->Q () s'):wpAny (model X.prog X.w) A (setAttr (.ref a) f u) Q E s:=by
 obtain⟨mA,O,r,wi,_,ho⟩:=zgD I.hok e
 have hz:(fs.map (·.1)).length<=sizeLine:=by rw[List.length_map,sizeLine_eq];lia
 refine set_map I.kIn O c.sa c.po n.taker c.hd wi hz fun h' O' sb=>h _ ?_
 have hd:∃o,h'.get? dx=some o:=let⟨o,_,_,e',_⟩:=O'.ns;⟨o,e'⟩
 refine I.write (x:=a) (e:=dx) (by rw[e];exact True.intro) (.inr ho) (fun b q hb z=>(sb.2 b hb).trans z) hd ?_
 refine⟨by rw[zad O.ne];exact ho,?_,O.ne,O'.obj,_,O'.ns,fun g=>?_,fun g hg=>?_⟩
 ·have:=zeV f y fs;lia
 ·show RelO ((putF f y fs).lookup g) (if g=f then some u else mA g)
  rw[zeH]
  by_cases q:g=f
  ·rw[if_pos q,if_pos q];exact ry
  ·rw[if_neg q,if_neg q];exact r g
 ·by_cases q:g=f
  ·rw[q];exact(zey f y fs).1
  ·refine(zey f y fs).2 g (wi g fun z=>hg ?_)
   show(if g=f then some u else mA g)=none
   rw[if_neg q];exact z
theorem Inv.made (I:Inv X pins σ H s):Inv X pins σ (upd (upd H s.heap.objs.size (.own (s.heap.objs.size+1))) (s.heap.objs.size+1) (.ins C s.heap.objs.size []))
  {s with heap:=(s.heap.push W.emptyDict).push (W.instObj C s.heap.objs.size)}:=by
 have e1:(s.heap.push W.emptyDict).get? s.heap.objs.size=some W.emptyDict:=Heap.get?_push_size s.heap rfl
 have e2:((s.heap.push W.emptyDict).push (W.instObj C s.heap.objs.size)).get? (s.heap.objs.size+1)=some (W.instObj C s.heap.objs.size):=by
  have:=Heap.get?_push_size (s.heap.push W.emptyDict) (o:=W.instObj C s.heap.objs.size) rfl
  rwa[Heap.size_push]at this
 have e3:(s.heap.push W.emptyDict).Ns s.heap.objs.size (fun _=>none):=⟨W.emptyDict,#[],_,e1,rfl,(fun e he=>absurd he (by simp)),fun _=>rfl⟩
 have I1:=I.laid (a:=s.heap.objs.size) (o:= .own (s.heap.objs.size+1)) (h':=s.heap.push W.emptyDict) (t':=s.toks) (fun b u q=>Heap.get?_push_of_some _ q) (Nat.le_refl _) ⟨_,e1⟩
 refine I1.laid (a:=s.heap.objs.size+1) (o:= .ins C s.heap.objs.size []) (t':=s.toks) (fun b u q=>Heap.get?_push_of_some _ q) (Nat.le_of_eq (Heap.size_push _ _)) ?_
 have ne:s.heap.objs.size≠s.heap.objs.size+1:=Nat.ne_of_lt (Nat.lt_succ_self _)
 refine⟨by rw[zad ne,zaf],Nat.zero_le _,ne,e2,fun _=>none,(Heap.Ns1.of_empty e3).at fun o q=>Heap.get?_push_of_some _ q,fun _=>True.intro,fun y hy=>absurd rfl hy⟩
theorem attr_of {env:Env}{f:Str}(hb:attributeBase e f env (eval e env)=eval e env)
  (h:wpAny (model prog w) A (eval e env) (fun o s₁=>wpAny (model prog w) A (getAttr o f true) Q E s₁) E s):wpAny (model prog w) A (eval (.Attribute e f pos) env) Q E s:=
 Attribute_any_ h (by rw[arm_eval_Attribute,hb])
end
noncomputable def tFld (K:W.Frag)(ta:TE)(f:Str):TE:=fun σ H Q=>ta σ H fun x H1=>∃a C dx fs v,x= .ref a/\H1 a=some (.ins C dx fs)/\Cls K C/\NoAttr K C f/\fs.lookup f=some v/\Q v H1
noncomputable def sFld (K:W.Frag)(ta tv:TE)(f:Str):TS:=fun D σ H=>tv σ H fun y H1=>ta σ H1 fun x H2=>∃a C dx fs,x= .ref a/\H2 a=some (.ins C dx fs)/\Cls K C/\NoAttr K C f/\fs.length<1000/\
 D.nx σ (upd H2 a (.ins C dx (putF f y fs)))
section
variable {X:Cx} {o e value:Expr} {f:Str} {pos pos' tpos:Pos} {ta tv:TE}
theorem zgu (he:PE X e ta)(hb:attributeBase e f X.env (eval e X.env)=eval e X.env):PE X (.Attribute e f pos) (tFld X.K ta f):=by
 intro pins s σ H Q I h
 refine attr_of hb (thn (he pins s σ H _ I h) fun u s1 ⟨x,H1,I1,rx,a,C,dx,fs,v,ex,ea,c,n,l,q⟩=>?_)
 subst ex
 obtain rfl:u=Value.ref a:=rx
 exact ziu I1 ea c n l fun u' s2 I2 ru=>⟨v,H1,I2,ru,q⟩
theorem ps_fld (ha:PE X o ta)(hv:PE X value tv)(hs:swapsWith value (some (.Attribute o f pos')) pos.line X.env=pure false):PS X (.Assign [.Attribute o f pos'] value pos) (sFld X.K ta tv f):=by
 intro pins s σ H D I h
 refine plainObj_wpAny_Assign_Attribute (thn (hv pins s σ H _ I h) fun u s1 ⟨y,H1,I1,ry,q⟩=>thn (ha pins s1 σ H1 _ I1 q) fun ov s2 ⟨x,H2,I2,rx,a,C,dx,fs,ex,ea,c,n,l,q2⟩=>?_) hs
 subst ex
 obtain rfl:ov=Value.ref a:=rx
 exact ziE I2 ea c n l ry fun s3 I3=>⟨σ,_,I3,q2⟩
end
structure Room (k:Nat) (A:Around):Prop where
 hd:A.handled=none
 dp:A.depth+3*k+5<recursionLimit
 un:A.units+16*k+200<cLine
 gd:A.guards=some []
theorem Room.mono {j k:Nat}(r:Room k A)(h:j<=k):Room j A:=⟨r.hd,by have:=r.dp;lia,by have:=r.un;lia,r.gd⟩
theorem Room.deeper {k:Nat}(r:Room (k+1) A)(env:Env):Room k (A.deeper env):=
 ⟨r.hd,by have:=r.dp;show A.depth+1+3*k+5<_;lia,by have:=r.un;show A.units+3+16*k+200<_;lia,r.gd⟩
theorem zix {C:Addr}{kw:List (Str×Value)}:(A.under (.builtin "type.__call__" ⟨.ref C::us,kw⟩)).depth=A.depth+1:=by
 first|rfl|simp[Around.under,Code.weight,Code.isCreation,Code.isGuard,Code.isCaller,Code.frames,Code.isFrame,guardIds]
theorem ziz {C:Addr}{kw:List (Str×Value)}:(A.under (.builtin "type.__call__" ⟨.ref C::us,kw⟩)).units=A.units+1:=by
 first|rfl|simp[Around.under,Code.cUnits,Code.frames,Code.isFrame]
theorem zhb {C:Addr}{kw:List (Str×Value)}:(A.under (.builtin "type.__call__" ⟨.ref C::us,kw⟩)).guards=A.guards:=by
 first|rfl|simp[Around.under,Code.guards,Code.isGuard,guardIds,pushGuards]
theorem Room.make {k:Nat}(r:Room (k+1) A)(C:Addr)(us:List Value)(kw:List (Str×Value)):Room k (A.under (.builtin "type.__call__" ⟨.ref C::us,kw⟩)):=
 ⟨r.hd,by have:=r.dp;rw[zix];lia,by have:=r.un;rw[ziz];lia,by rw[zhb];exact r.gd⟩
theorem Room.depth {k:Nat}(r:Room k A):A.depth<recursionLimit:=by have:=r.dp;lia
theorem Room.units {k:Nat}(r:Room k A):A.units+64<cLine:=by have:=r.un;lia
noncomputable def tNil:TA:=fun _ H Q=>Q [] H
noncomputable def tCons (ta:TE)(tr:TA):TA:=fun σ H Q=>ta σ H fun x H1=>tr σ H1 fun xs H2=>Q (x::xs) H2
section
variable {X:Cx} {e:Expr} {es:List Expr} {te:TE} {t:TA} {pos:Pos}
theorem zbE:PA X [] tNil:=fun _ _ _ _ H Q I h=>Calls.spliced_nil ⟨[],H,I,.nil,h⟩
theorem zaB (ha:PE X e te)(hr:PA X es t)(hs:autoParam (starEach (e::es) X.env=(false,eval e X.env)::starEach es X.env) zu3._auto_1):PA X (e::es) (tCons te t):=by
 intro pos pins s σ H Q I h
 rw[hs]
 show wpAny _ _ (spliced ((false,eval e X.env)::backTo pos (starEach es X.env))) _ _ s
 refine Calls.spliced_cons (thn (ha pins s σ H _ I h) fun u s1 ⟨x,H1,I1,r1,q1⟩=>?_)
 exact thn (hr pos pins s1 σ H1 _ I1 q1) fun us s2 ⟨xs,H2,I2,r2,q2⟩=>⟨x::xs,H2,I2,.cons r1 r2,q2⟩
noncomputable def tTup (t:TA):TE:=fun σ H Q=>t σ H fun xs H1=>xs.length<=sizeLine/\∀p,H1 p=none->Q (.ref p) (upd H1 p (.tup xs))
noncomputable def tLst (t:TA):TE:=fun σ H Q=>t σ H fun xs H1=>xs.length<=sizeLine/\∀p,H1 p=none->Q (.ref p) (upd H1 p (.lst xs))
theorem zhj {x1}(h:PA X es t):PE X (.Tuple es x1 pos) (tTup t):=by
 intro pins s σ H Q I hq
 refine wpAny_Tuple_spliced (thn (h pos pins s σ H _ I hq) fun us s1 ⟨xs,H1,I1,r,z,q⟩=>⟨by rw[<-r.length];exact z,?_⟩)
 have hf:H1 s1.heap.objs.size=none:=I1.hok.fresh (Nat.le_refl _)
 refine⟨.ref s1.heap.objs.size,upd H1 s1.heap.objs.size (.tup xs),I1.laid (t':=s1.toks) (fun b u e=>Heap.get?_push_of_some _ e) (Nat.le_refl _) ?_,rfl,q _ hf⟩
 exact⟨z,us,r,⟨_,Heap.get?_push_size _ rfl,rfl,_,rfl⟩⟩
theorem pe_lst (h:PA X es t):PE X (.List es pos) (tLst t):=by
 intro pins s σ H Q I hq
 refine wpAny_List_spliced (thn (h pos pins s σ H _ I hq) fun us s1 ⟨xs,H1,I1,r,z,q⟩=>⟨by rw[<-r.length];exact z,?_⟩)
 have hf:H1 s1.heap.objs.size=none:=I1.hok.fresh (Nat.le_refl _)
 refine⟨.ref s1.heap.objs.size,upd H1 s1.heap.objs.size (.lst xs),I1.laid (t':=s1.toks) (fun b u e=>Heap.get?_push_of_some _ e) (Nat.le_refl _) ?_,rfl,q _ hf⟩
 exact⟨z,us,0,r,Heap.get?_push_size _ rfl⟩
end
noncomputable abbrev Sp:=List V->Hp->VK->XK->Prop
noncomputable abbrev CXT:=List Env->Hp->Shared->XK->Value->Shared->Prop
structure Env0 (P:Program) (w:World) (K:W.Frag) (mg:Str->Option Value) (base:Heap) (A:Around) (outer:List Env) (s:Shared) (H:Hp):Prop where
 frames:A.frames=some outer
 mod:Mod K mg base
 bs:∀b o,base.get? b=some o->s.heap.get? b=some o/\H b=none
 bsz:base.objs.size<=s.heap.objs.size
 funs:s.heap.FunFrames base outer
 frf:∀b∈frs outer,H b=none
 hok:HOk P w H s.heap
 bare:AllBare s.gens
noncomputable def CE (outer:List Env)(P:Program)(w:World)(H:Hp)(s:Shared)(Q:VK)(u:Value)(s':Shared):Prop:=
 ∃v H',s'.os=s.os/\AllBare s'.gens/\Un (frs outer) [] H H' s.heap s'.heap/\HOk P w H' s'.heap/\RelV v u/\Q v H'
noncomputable def CR (CX:CXT)(outer:List Env)(P:Program)(w:World)(H:Hp)(s:Shared)(Q:VK)(E:XK)(r:Result)(s':Shared):Prop:=
 match r with
 | .ok (.ret u)=>CE outer P w H s Q u s'
 | .ok _=>False
 | .error e=>CX outer H s E e s'
structure FnOk (P:Program) (w:World) (K:W.Frag) (mg:Str->Option Value) (base:Heap) (CX:CXT) (k:Nat) (f:Addr) (fd:FuncData) (ps:List Str) (sp:Sp):Prop where
 len:∀vs H Q E,sp vs H Q E->vs.length=ps.length
 run:∀(A:Around) (outer:List Env) (s:Shared) (H:Hp) (args:Args) (us:List Value) (vs:List V) (Q:VK) (E:XK),Room k A->Env0 P w K mg base A outer s H->BindsTo s fd args (ps.zip us)->Vals vs us->sp vs H Q E->
  codeAny (model P w) A (.call (.ref f) args) (CR CX outer P w H s Q E) s
theorem Env0.make {P:Program}{base:Heap}(e:Env0 P w K mg base A outer s H)(C:Addr)(us:List Value)(kw:List (Str×Value)):
  Env0 P w K mg base (A.under (.builtin "type.__call__" ⟨.ref C::us,kw⟩)) outer s H:=⟨by first|exact e.frames|(simpa[Around.under,Code.envs,Code.isFrame,pushEnvs]using e.frames),e.mod,e.bs,e.bsz,e.funs,e.frf,e.hok,e.bare⟩
section
variable {X:Cx} {pins:List (Addr×Obj)} {σ:St} {H:Hp} {s s':Shared}
theorem Inv.env0 (I:Inv X pins σ H s):Env0 X.prog X.w X.K X.mg X.base X.A X.stack s H:=
 ⟨I.ok.frames,I.ok.mod,I.bs,Nat.le_trans I.ok.bsz I.sz,I.stack,I.stkFree,I.hok,I.bare⟩
theorem Inv.after {Q:VK}(I:Inv X pins σ H s)(h:CE X.stack X.prog X.w H s Q u s'):EP X pins σ Q u s':=by
 obtain⟨v,H',os,bare,un,hok,r,q⟩:=h
 obtain⟨hh,g,d,t,os'⟩:=s'
 obtain rfl:os'=s.os:=os
 exact⟨v,H',I.call (h':=hh) (g':=g) (d':=d) (t':=t) (ch:=[]) un hok bare (fun b z=>absurd z (by simp)),r,q⟩
end
noncomputable def tCall (sp:Sp)(dvs:List V)(E:XK)(t:TA):TE:=fun σ H Q=>t σ H fun vs H1=>sp (vs++dvs) H1 Q E
noncomputable def tMeth (C:Addr)(m:Str)(sp:Sp)(dvs:List V)(E:XK)(ta:TE)(t:TA):TE:=fun σ H Q=>ta σ H fun x H1=>∃a dx fs,x= .ref a/\H1 a=some (.ins C dx fs)/\fs.lookup m=none/\
 t σ H1 fun vs H2=>sp (x::(vs++dvs)) H2 Q E
noncomputable def tMake (C:Addr)(sp:Sp)(dvs:List V)(E:XK)(t:TA):TE:=fun σ H Q=>t σ H fun vs H1=>∀x dx,H1 x=none->H1 dx=none->dx≠x->
 sp (.ref x::(vs++dvs)) (upd (upd H1 dx (.own x)) x (.ins C dx [])) (fun v H2=>v= .non/\Q (.ref x) H2) E
noncomputable def Binds (K:W.Frag)(fd:FuncData)(ps:List Str)(ds:List Value):Prop:=
 ∀(s:Shared) (us:List Value),K.In s.heap->(us++ds).length=ps.length->BindsTo s fd ⟨us,[]⟩ (ps.zip (us++ds))
theorem Binds.all (h:∀us:List Value,us.length=ps.length->bindArgs fd ⟨us,[]⟩=pure (ps.zip us)):Binds K fd ps []:=fun s us _ hl=>by
 rw[List.append_nil]at hl ⊢
 exact .of_eq (h us hl)
noncomputable def zel (CX:CXT)(X:Cx)(E:XK):Prop:=∀(pins:List (Addr×Obj)) (σ:St) (H:Hp) (s:Shared) (e:Value) (s':Shared),Inv X pins σ H s->CX X.stack H s E e s'->X.xe e s'
section
variable {X:Cx} {CX:CXT} {k:Nat} {f C:Addr} {fd:FuncData} {ps:List Str} {sp:Sp} {dvs:List V} {ds:List Value} {E:XK} {x m:Str} {p pos apos:Pos} {e o:Expr} {es:List Expr} {ta:TE} {t:TA}
theorem zjA {Q:VK}(F:FnOk X.prog X.w X.K X.mg X.base CX k f fd ps sp)(hr:Room k X.A)(hb:Binds X.K fd ps ds)(hd:Vals dvs ds)(hx:zel CX X E)
  (I:Inv X pins σ H s) (r:Vals vs us) (h:sp (vs++dvs) H Q E):wpAny (model X.prog X.w) X.A (call (.ref f) us) (EP X pins σ Q) X.xe s:=by
 have r2:Vals (vs++dvs) (us++ds):=r.append hd
 have hl:(us++ds).length=ps.length:=by rw[<-r2.length];exact F.len _ _ _ _ h
 refine wpAny_call (codeAny_mono (F.run X.A X.stack s H ⟨us,[]⟩ (us++ds) (vs++dvs) Q E hr I.env0 (hb s us I.kIn hl) r2 h) fun r s' hq=>?_)
 cases r with
 |error e=>exact hx pins σ H s e s' I hq
 |ok fl=>
  cases fl with
  |ret u=>exact I.after hq
  |next=>exact False.elim hq
  |brk=>exact False.elim hq
  |cont=>exact False.elim hq
theorem zeC (F:FnOk X.prog X.w X.K X.mg X.base CX k f fd ps sp)(hr:Room k X.A)(hg:Gl X x)(hm:X.mg x=some (.ref f))(hk:W.keepIn X.K (.ref f)=true)(hb:Binds X.K fd ps ds)(hd:Vals dvs ds)(hx:zel CX X E)
  (ha:PA X (e::es) t) (hdb:autoParam ((x==("__debug__":Str))=false) zu1._auto_1) (he:autoParam (starEach (e::es) X.env=(false,eval e X.env)::starEach es X.env) zu3._auto_1) (hpl:autoParam ((backTo pos (starEach es X.env)).any (·.1)=false) zu3._auto_1):
  PE X (.Call (.Name x p) (e::es) [] pos) (tCall sp dvs E t):=by
 intro pins s σ H Q I h
 refine wpAny_Call_Name_kw (zgV I hg hm ?_ hdb)
 refine W.callWith_K (h₀:=X.base) I.ok.mod.kin hk (thn (ha pos pins s σ H _ I h) fun us s1 ⟨vs,H1,I1,r,q⟩=>⟨I1.kIn,?_⟩) he hpl
 exact zjA F hr hb hd hx I1 r q
theorem pe_meth {pl:Sem Bool}(he:PE X o ta)(c:Cls X.K C)(hm:Meth X.K C m f)(F:FnOk X.prog X.w X.K X.mg X.base CX k f fd ps sp)(hr:Room k X.A)(hb:Binds X.K fd ps ds)(hd:Vals dvs ds)(hx:zel CX X E)(ha:PA X (e::es) t)
  (hst:autoParam (starEach (e::es) X.env=(false,eval e X.env)::starEach es X.env) zu3._auto_1) (hpl:autoParam ((backTo pos (starEach es X.env)).any (·.1)=false) zu3._auto_1)
  (ht :autoParam (eval (.Call (.Attribute o m apos) (e :: es) [] pos) X.env = (do
   let ov<-eval o X.env
   standAt apos.atName
   let(f,first)<-holding [ov] (getMethod ov m pl)
   callWith pos f first (backTo pos (starEach (e::es) X.env)) (backToKw pos (keywordEach [] X.env)))) zu3._auto_1):
  PE X (.Call (.Attribute o m apos) (e::es) [] pos) (tMeth C m sp dvs E ta t):=by
 intro pins s σ H Q I h
 refine W.methodCall_KW (pl:=pl) (thn (he pins s σ H _ I h) fun u s1 ⟨x,H1,I1,rx,a,dx,fs,ex,ea,l,q⟩=>?_) ht
 subst ex
 obtain rfl:u=Value.ref a:=rx
 refine zfb I1 ea c hm l ?_
 refine W.callWith_K (first:=[.ref a]) (h₀:=X.base) I.ok.mod.kin hm.kp (thn (ha pos pins s1 σ H1 _ I1 q) fun us s2 ⟨vs,H2,I2,r,q2⟩=>⟨I2.kIn,?_⟩) hst hpl
 exact zjA (us:= .ref a::us) (vs:= .ref a::vs) F hr hb hd hx I2 (.cons rfl r) q2
theorem pe_meth0 {pl:Sem Bool}(he:PE X o ta)(c:Cls X.K C)(hm:Meth X.K C m f)(F:FnOk X.prog X.w X.K X.mg X.base CX k f fd ps sp)(hr:Room k X.A)(hb:Binds X.K fd ps ds)(hd:Vals dvs ds)(hx:zel CX X E)
  (ht :autoParam (eval (.Call (.Attribute o m apos) [] [] pos) X.env = (do
   let ov<-eval o X.env
   standAt apos.atName
   let(f,first)<-holding [ov] (getMethod ov m pl)
   callWith pos f first (backTo pos (starEach [] X.env)) (backToKw pos (keywordEach [] X.env)))) zu3._auto_1):
  PE X (.Call (.Attribute o m apos) [] [] pos) (tMeth C m sp dvs E ta tNil):=by
 intro pins s σ H Q I h
 refine W.methodCall_KW (pl:=pl) (thn (he pins s σ H _ I h) fun u s1 ⟨x,H1,I1,rx,a,dx,fs,ex,ea,l,q⟩=>?_) ht
 subst ex
 obtain rfl:u=Value.ref a:=rx
 refine zfb I1 ea c hm l ?_
 exact W.callWith_K0 (first:=[.ref a]) I1.kIn hm.kp (zjA (us:=[.ref a]) (vs:=[.ref a]) F hr hb hd hx I1 (.cons rfl .nil) q)
structure Mk (K:W.Frag) (C f:Addr):Prop where
 makes:W.makesIn K C=true
 init:W.findIn K (.ref C) "__init__"=some (some (.ref f))
 fn:W.isFn K (.ref f)=true
 kp:W.keepIn K (.ref C)=true
theorem run_make {Q:VK}(M:Mk X.K C f)(F:FnOk X.prog X.w X.K X.mg X.base CX k f fd ps sp)(hr:Room (k+1) X.A)(hb:Binds X.K fd ps ds)(hd:Vals dvs ds)
  (hx:zel CX X E) (I:Inv X pins σ H s) (r:Vals vs us)
  (h:∀x dx,H x=none->H dx=none->dx≠x->sp (.ref x::(vs++dvs)) (upd (upd H dx (.own x)) x (.ins C dx [])) (fun v H2=>v= .non/\Q (.ref x) H2) E):
  wpAny (model X.prog X.w) X.A (call (.ref C) us) (EP X pins σ Q) X.xe s:=by
 have hq:=h (s.heap.objs.size+1) s.heap.objs.size (I.hok.fresh (Nat.le_succ _)) (I.hok.fresh (Nat.le_refl _)) (Nat.ne_of_lt (Nat.lt_succ_self _))
 have I2:=Inv.made (C:=C) I
 have r2:Vals (V.ref (s.heap.objs.size+1)::(vs++dvs)) (Value.ref (s.heap.objs.size+1)::(us++ds)):= .cons rfl (r.append hd)
 have hl:(Value.ref (s.heap.objs.size+1)::us++ds).length=ps.length:=by
  have e:=r2.length
  rw[F.len _ _ _ _ hq]at e
  exact e.symm
 refine wpAny_call (make_map (f:=f) I.kIn M.makes M.init (beq_iff_eq.mp M.fn) (codeAny_mono (F.run _ X.stack _ _ ⟨Value.ref (s.heap.objs.size+1)::us,[]⟩ (Value.ref (s.heap.objs.size+1)::(us++ds)) _ _ E (hr.make C us [])
  (I2.env0.make C us []) (hb _ (Value.ref (s.heap.objs.size+1)::us) I2.kIn hl) r2 hq) fun r s' hq'=>?_))
 cases r with
 |error e=>exact hx pins σ _ _ e s' I2 hq'
 |ok fl=>
  cases fl with
  |ret u=>
   obtain⟨v,H',I3,rv,ev,q3⟩:=I2.after hq'
   subst ev
   exact⟨rv,⟨V.ref (s.heap.objs.size+1),H',I3,rfl,q3⟩⟩
  |next=>exact False.elim hq'
  |brk=>exact False.elim hq'
  |cont=>exact False.elim hq'
theorem pe_make (M:Mk X.K C f)(F:FnOk X.prog X.w X.K X.mg X.base CX k f fd ps sp)(hr:Room (k+1) X.A)(hg:Gl X x)(hm:X.mg x=some (.ref C))(hb:Binds X.K fd ps ds)(hd:Vals dvs ds)(hx:zel CX X E)
  (ha:PA X (e::es) t) (hdb:autoParam ((x==("__debug__":Str))=false) zu1._auto_1) (he:autoParam (starEach (e::es) X.env=(false,eval e X.env)::starEach es X.env) zu3._auto_1) (hpl:autoParam ((backTo pos (starEach es X.env)).any (·.1)=false) zu3._auto_1):
  PE X (.Call (.Name x p) (e::es) [] pos) (tMake C sp dvs E t):=by
 intro pins s σ H Q I h
 refine wpAny_Call_Name_kw (zgV I hg hm ?_ hdb)
 refine W.callWith_K (h₀:=X.base) I.ok.mod.kin M.kp (thn (ha pos pins s σ H _ I h) fun us s1 ⟨vs,H1,I1,r,q⟩=>⟨I1.kIn,?_⟩) he hpl
 exact run_make M F hr hb hd hx I1 r q
end
structure FnScope (N P:List Str) (sc:Scope):Prop where
 kind:sc.kind= .function
 co:sc.isCoroutine=false
 gen:sc.isGenerator=false
 nd:N.Nodup
 pre:N.take P.length=P
 par:∀x∈P,sc.names.lookup x=some .local\/sc.names.lookup x=some .cell
 nofree:∀y∈sc.names,y.2≠ .free
theorem zfU:∀{binds:List (Str×Value)} {m:Str->Option Value},(∀v,(x,v)∉binds)->bindL kindOf binds m x=m x
 |[],_,_=>rfl
 |(n,v)::r,m,h=>by
  unfold bindL
  rw[zfU fun w hw=>h w (List.mem_cons_of_mem _ hw)]
  split
  ·have:x≠n:=by rintro rfl;exact h v List.mem_cons_self
   simp[this]
  ·rfl
theorem zfS:∀{binds:List (Str×Value)} {m:Str->Option Value},(∀v,(x,v)∉binds)->bindC kindOf binds m x=m x
 |[],_,_=>rfl
 |(n,v)::r,m,h=>by
  unfold bindC
  rw[zfS fun w hw=>h w (List.mem_cons_of_mem _ hw)]
  split
  ·rfl
  ·have:x≠n:=by rintro rfl;exact h v List.mem_cons_self
   simp[this]
theorem zfM {v:Value}:∀{P:List Str} {vs:List Value} {i:Nat} {m:Str->Option Value},P.Nodup->P[i]? =some x->vs[i]? =some v->kindOf x=some .local->
  bindL kindOf (P.zip vs) m x=some v
 |[],_,_,_,_,h,_,_=>by simp at h
 |_::_,[],_,_,_,_,h,_=>by simp at h
 |p::P,w::vs,0,m,nd,h1,h2,hk=>by
  simp at h1 h2;subst h1;subst h2
  show bindL kindOf ((p,w)::P.zip vs) m p=_
  unfold bindL
  rw[zfU fun v hv=>(List.nodup_cons.mp nd).1 (List.of_mem_zip hv).1,if_pos hk]
  simp
 |p::P,w::vs,i+1,m,nd,h1,h2,hk=>by
  show bindL kindOf ((p,w)::P.zip vs) m x=_
  unfold bindL
  exact zfM (i:=i) (List.nodup_cons.mp nd).2 (by simpa using h1) (by simpa using h2) hk
theorem zfT {v:Value}:∀{P:List Str} {vs:List Value} {i:Nat} {m:Str->Option Value},P.Nodup->P[i]? =some x->vs[i]? =some v->kindOf x≠some .local->
  bindC kindOf (P.zip vs) m x=some v
 |[],_,_,_,_,h,_,_=>by simp at h
 |_::_,[],_,_,_,_,h,_=>by simp at h
 |p::P,w::vs,0,m,nd,h1,h2,hk=>by
  simp at h1 h2;subst h1;subst h2
  show bindC kindOf ((p,w)::P.zip vs) m p=_
  unfold bindC
  rw[zfS fun v hv=>(List.nodup_cons.mp nd).1 (List.of_mem_zip hv).1,if_neg hk]
  simp
 |p::P,w::vs,i+1,m,nd,h1,h2,hk=>by
  show bindC kindOf ((p,w)::P.zip vs) m x=_
  unfold bindC
  exact zfT (i:=i) (List.nodup_cons.mp nd).2 (by simpa using h1) (by simpa using h2) hk
noncomputable def start (N:List Str)(vs:List V):St:=vs.map some++List.replicate (N.length-vs.length) none
noncomputable def cxOf (CX:CXT)(P:Program)(w:World)(K:W.Frag)(mg:Str->Option Value)(base:Heap)(N:List Str)(qual:Str)(scope:Scope)(f:Addr)(cd:Value)(A:Around)(outer:List Env)(s:Shared)(H:Hp)(E:XK):Cx where
 prog:=P
 w:=w
 K:=K
 mg:=mg
 base:=base
 A:=A.deeper (envOfC qual scope s.heap.objs.size f cd)
 N:=N
 s₀:=s
 H₀:=H
 env:=envOfC qual scope s.heap.objs.size f cd
 outer:=outer
 stack:=envOfC qual scope s.heap.objs.size f cd::outer
 ex:=[]
 calm:=true
 fn:=fun _=>true
 pn:=[]
 xe:=fun e s'=>wpAny (model P w) (A.deeper (envOfC qual scope s.heap.objs.size f cd)) (leaving (envOfC qual scope s.heap.objs.size f cd) e) (fun _ s''=>CX outer H s E e s'') (fun e' s''=>CX outer H s E e' s'') s'
theorem zh5 (h:sc.names.lookup x=some .cell):∃c,(cellsFrom n sc.names []).lookup x=some c:=by
 have q:=W.cellsFrom_some sc.names n [] (.inl h)
 exact Option.isSome_iff_exists.mp q
theorem zj4 {P:Program}{base:Heap}{f:Addr}{s s1:Shared}{E:XK}
  (S:FnScope N ps scope) (hd:A.handled=none) (e0:Env0 P w K mg base A outer s H) (hl:vs.length=ps.length) (r:Vals vs us)
  (x:InCallC s s.heap.objs.size (bindL (envOfC qual scope s.heap.objs.size f cd).kindOf (ps.zip us) fun _=>none) (cellsFrom (s.heap.objs.size+1) scope.names []) (bindC (envOfC qual scope s.heap.objs.size f cd).kindOf (ps.zip us) fun _=>none) s1):
  Inv (cxOf CX P w K mg base N qual scope f cd A outer s H E) [] (start N vs) H s1:=by
 have hpl:ps.length<=N.length:=by have:=congrArg List.length S.pre;rw[List.length_take]at this;lia
 obtain⟨h1,tk,rfl,hk⟩:=x.done
 have noA:∀b:Addr,b∉(cxOf CX P w K mg base N qual scope f cd A outer s H E).ex:=fun b z=>absurd (show b∈([]:List Addr)from z) (by simp)
 refine⟨⟨e0.mod,S.kind,rfl,rfl,Nat.le_refl _,fun y z c h1 h2=>?_,fun y hy=>?_,fun y c _ h=>?_,fun _=>hd,Around.frames_deeper e0.frames,.inr ⟨rfl,rfl⟩,fun b z=>absurd z (noA b),e0.bs,e0.bsz,fun b _ _=>noA b,fun b z=>absurd z (noA b),e0.funs,e0.frf⟩,
  rfl,e0.bare,Un.kept hk,⟨_,x.toInCall.ns,fun i y v h1 h2 h3=>?_⟩,fun y c h=>⟨_,x.cell y c h⟩,e0.hok.fresh (Nat.le_refl _),fun y c h=>?_,fun p hp=>absurd (show p∈([]:List (Addr×Obj))from hp) (by simp),e0.hok.kept hk,?_⟩
 ·exact name_of_addr x.apart (PySem.mem_of_lookup h1) (PySem.mem_of_lookup h2)
 ·have hy:scope.names.lookup y=some .cell\/scope.names.lookup y=some .free:=hy
  rcases hy with hy|hy
  ·exact zh5 hy
  ·exact absurd rfl (S.nofree _ (PySem.mem_of_lookup hy))
 ·exact Nat.le_of_lt (x.above y c (PySem.mem_of_lookup h))
 ·have hi:i<vs.length:=by
   unfold start at h2
   by_cases hi:i<vs.length
   ·exact hi
   ·rw[List.getElem?_append_right (by simpa using hi)]at h2
    rw[List.getElem?_replicate]at h2
    split at h2<;>cases h2
  have ha:vs[i]? =some v:=by
   unfold start at h2
   rw[List.getElem?_append_left (by simpa using hi),List.getElem?_map]at h2
   cases e:vs[i]? with
   |none=>rw[e]at h2;cases h2
   |some a=>rw[e]at h2;cases h2;rfl
  obtain⟨u,hu,rv⟩:=r.get ha
  have hp:ps[i]? =some y:=by
   rw[<-S.pre,List.getElem?_take_of_lt (by lia)];exact h1
  have ndP:ps.Nodup:=by rw[<-S.pre];exact S.nd.sublist (List.take_sublist _ _)
  refine⟨u,rv,?_⟩
  rcases S.par y (List.mem_of_getElem? hp)with k|k
  ·exact .inl ⟨k,zfM ndP hp hu k⟩
  ·obtain⟨c,e⟩:=zh5 (n:=s.heap.objs.size+1) k
   refine .inr ⟨.inl k,c,e,?_⟩
   have q:=x.cell y c e
   rw[zfT ndP hp hu (by show scope.names.lookup y≠_;rw[k];decide)]at q
   exact q
 ·exact e0.hok.fresh (Nat.le_of_lt (x.above y c (PySem.mem_of_lookup h)))
 ·unfold start
  show _=N.length
  rw[List.length_append,List.length_map,List.length_replicate]
  lia
theorem fn_of {P:Program}{base:Heap}{k:Nat}{f:Addr}{name qual:Str}{dV kV doc pm cdv ct oc:Value}{an od:Option Addr}
  {osl:Array (Option Value)} {N ps:List Str} {sp:Sp} (lk:K.lookup f=some ⟨oc,od,.func (W.fnOf name qual params body scope dV kV doc pm an cdv ct),osl⟩) (hcd:W.codeIn K cdv qual=true) (S:FnScope N ps scope)
  (len:∀vs H Q E,sp vs H Q E->vs.length=ps.length)
  (hbody : ∀ (A : Around) (outer : List Env) (s : Shared) (H : Hp) (vs : List V) (Q : VK) (E : XK), Room k (A.deeper (envOfC qual scope s.heap.objs.size f cdv)) -> sp vs H Q E ->
   ∃t,PSs (cxOf CX P w K mg base N qual scope f cdv A outer s H E) body t/\t {nx:=fun _ H'=>Q .non H',rt:=Q} (start N vs) H):
  FnOk P w K mg base CX (k+1) f (W.fnOf name qual params body scope dV kV doc pm an cdv ct) ps sp:=by
 refine⟨len,fun A outer s H args us vs Q E hr e0 hb r hsp=>?_⟩
 have hl:=len _ _ _ _ hsp
 have KX:K.In s.heap:=e0.mod.kin.keeps fun b o e=>(e0.bs b o e).1
 have lim:s.heap.NoLimit:=e0.mod.nolimit.keeps fun b o e=>(e0.bs b o e).1
 have hkind:∀y∈ps.zip us,scope.names.lookup y.1=some .local\/(scope.names.lookup y.1=some .cell/\((cellsFrom (s.heap.objs.size+1) scope.names []).lookup y.1).isSome=true):=fun⟨n,v⟩ hy=>by
  rcases S.par n (List.of_mem_zip hy).1 with q|q
  ·exact .inl q
  ·exact .inr ⟨q,W.cellsFrom_some _ _ _ (.inl q)⟩
 refine codeAny_call_function hr.depth (KX _ _ lk) rfl S.co S.gen rfl (W.codeRec_of KX hcd) (hb _ _ _ _ ?_)
 refine wpAny_newFunctionEnv_cells S.kind hkind fun env he s1 x=>?_
 subst he
 refine⟨lim.keeps x.toInCall.keep,codeAny_func ?_⟩
 obtain⟨t,ht,hq⟩:=hbody A outer s H vs Q E (hr.deeper _) hsp
 have I:Inv (cxOf CX P w K mg base N qual scope f cdv A outer s H E) [] (start N vs) H s1:=zj4 S hr.hd e0 hl r x
 refine wpAny_mono (ht [] s1 (start N vs) H _ I hq) (fun fl s' hs=>?_) fun e s' hs=>hs
 have fin:∀{σ':St} {H':Hp} {v:V} {u:Value},Inv (cxOf CX P w K mg base N qual scope f cdv A outer s H E) [] σ' H' s'->RelV v u->Q v H'->CE outer P w H s Q u s':=
  fun{σ' H' v u} J rv q=>⟨v,H',J.os,J.bare,J.base,J.hok,rv,q⟩
 cases fl with
 |ret u=>
  obtain⟨v,σ',H',J,rv,q⟩:=hs
  exact fin J rv q
 |next=>
  obtain⟨σ',H',J,q⟩:=hs
  exact fin (v:=V.non) (u:=Value.none) J rfl q
 |brk=>
  obtain⟨_,_,_,q⟩:=hs
  exact False.elim q
 |cont=>
  obtain⟨_,_,_,q⟩:=hs
  exact False.elim q
section
variable {X:Cx} {x:Str} {p pos:Pos} {e:Expr} {es:List Expr} {t:TA} {id T:String} {r:List V->Hp->VK->Prop}
noncomputable def tCB (r:List V->Hp->VK->Prop)(t:TA):TE:=fun σ H Q=>t σ H fun vs H1=>r vs H1 Q
theorem zed (hc:zdT X (.builtin id) r)(hg:Gl X x)(hm:X.mg x=none)(hv:bootBuiltins x=some (.builtin id))(ha:PA X (e::es) t)(hn:autoParam (x≠"__name__") zu1._auto_1)(hdb:autoParam ((x==("__debug__":Str))=false) zu1._auto_1)
  (he:autoParam (starEach (e::es) X.env=(false,eval e X.env)::starEach es X.env) zu3._auto_1) (hpl:autoParam ((backTo pos (starEach es X.env)).any (·.1)=false) zu3._auto_1):PE X (.Call (.Name x p) (e::es) [] pos) (tCB r t):=by
 intro pins s σ H Q I h
 refine wpAny_Call_Name_kw (zeZ I hg hm hv ?_ hn hdb)
 exact PyProof.Rows.callWith_builtin1 (thn (ha pos pins s σ H _ I h) fun us s1 ⟨vs,H1,I1,r1,q1⟩=>hc pins s1 σ H1 vs us Q I1 r1 q1) he hpl
theorem zcs (hc:zdT X (.type T) r)(hg:Gl X x)(hm:X.mg x=none)(hv:bootBuiltins x=some (.type T))(ha:PA X (e::es) t)(hn:autoParam (x≠"__name__") zu1._auto_1)(hdb:autoParam ((x==("__debug__":Str))=false) zu1._auto_1)
  (he:autoParam (starEach (e::es) X.env=(false,eval e X.env)::starEach es X.env) zu3._auto_1) (hpl:autoParam ((backTo pos (starEach es X.env)).any (·.1)=false) zu3._auto_1):PE X (.Call (.Name x p) (e::es) [] pos) (tCB r t):=by
 intro pins s σ H Q I h
 refine wpAny_Call_Name_kw (zeZ I hg hm hv ?_ hn hdb)
 exact PyProof.Rows.callWith_type1 (thn (ha pos pins s σ H _ I h) fun us s1 ⟨vs,H1,I1,r1,q1⟩=>hc pins s1 σ H1 vs us Q I1 r1 q1) he hpl
end
end L2
namespace HT
open PyProof.Rows PySem
noncomputable def zeY:List Int->List Int->Bool
 |[],[]=>false
 |[],_::_=>true
 |_::_,[]=>false
 |x::xs,y::ys=>if x=y then zeY xs ys else decide (x<y)
theorem zcN (x y:Int)(xs ys:List Int):zeY (x::xs) (y::ys)=if x=y then zeY xs ys else decide (x<y):=rfl
section
variable {prog:Program} {w:World} {A:Around} {E:Value->Shared->Prop} {s:Shared}
theorem cat_tup {t b:Addr}{vs ws:List Value}{Q:Value->Shared->Prop}(ht:IsTup s.heap t vs.toArray)(hb:IsTup s.heap b ws.toArray)(hv:vs≠[])
  (h1:ws=[]->Q (.ref t) s) (h2:ws≠[]->Q (.ref s.heap.objs.size) {s with heap:=s.heap.push {cls:= .type "tuple",data:= .seq (vs++ws).toArray}})
  (hsz:vs.length+ws.length<=sizeLine):wpAny (model prog w) A (binaryOp .Add (.ref t) (.ref b)) Q E s:=by
 obtain⟨⟨cls,dd,data,sl⟩,ho,hc,n,hd⟩:=id ht
 obtain⟨⟨cls2,dd2,data2,sl2⟩,ho2,hc2,n2,hd2⟩:=id hb
 simp only at hc hd hc2 hd2
 subst hc hd hc2 hd2
 have e:vs.toArray++ws.toArray=(vs++ws).toArray:=by simp
 by_cases hw:ws=[]
 ·exact concat_meets ⟨_,ho,rfl⟩ ⟨_,ho2,rfl⟩ noFill_tuple_add seq_tuple_add PySem.F.slot_tuple_add PySem.F.entry_tuple_add (PySem.F.args_tuple_add_2 _ _)
   (tuple_addW1 t b vs.toArray ws.toArray n n2 dd dd2 sl sl2 (by simpa using hv) (by simp[hw])) ⟨ho,ho2,h1 hw⟩
 ·refine concat_meets ⟨_,ho,rfl⟩ ⟨_,ho2,rfl⟩ noFill_tuple_add seq_tuple_add PySem.F.slot_tuple_add PySem.F.entry_tuple_add (PySem.F.args_tuple_add_2 _ _)
   (tuple_addW2 t b vs.toArray ws.toArray n n2 dd dd2 sl sl2 (by simpa using hv) (by simpa using hw) (by rw[List.size_toArray,List.size_toArray];exact hsz)) ⟨ho,ho2,?_⟩
  rw[e]
  exact h2 hw
noncomputable def sIx (n d:Nat):Option Int->Nat
 |none=>d
 |some v=>if v<0 then(v+(n:Int)).toNat else min v.toNat n
theorem sIx_none (n d:Nat):sIx n d none=d:=rfl
theorem zeQ (n d k:Nat):sIx n d (some (k:Int))=min k n:=by
 show(if(k:Int)<0 then((k:Int)+(n:Int)).toNat else min (k:Int).toNat n)=min k n
 rw[if_neg (by lia),Int.toNat_natCast]
theorem sIx_le (n d:Nat)(hd:d<=n)(o:Option Int):sIx n d o<=n:=by
 cases o with
 |none=>exact hd
 |some v=>
  show(if v<0 then(v+(n:Int)).toNat else min v.toNat n)<=n
  by_cases hv:v<0
  ·rw[if_pos hv];lia
  ·rw[if_neg hv];exact Nat.min_le_right _ _
theorem zj7 (v:Int)(n d:Nat):(if v<0 then max (v+(n:Int)) 0 else min v (n:Int))=((sIx n d (some v):Nat):Int):=by
 show(if v<0 then max (v+(n:Int)) 0 else min v (n:Int))=(((if v<0 then(v+(n:Int)).toNat else min v.toNat n):Nat):Int)
 by_cases hv:v<0
 ·simp only[if_pos hv];lia
 ·simp only[if_neg hv];lia
theorem ziq (lo hi:Option Int)(n:Nat):Builtin.Slice.sliceAdjust lo hi 1 (n:Int)=(((sIx n 0 lo:Nat):Int),((sIx n n hi:Nat):Int)):=by
 have h1:¬((1:Int)<0):=by lia
 unfold Builtin.Slice.sliceAdjust
 simp only[h1,if_false]
 refine Prod.ext ?_ ?_
 ·cases lo with
  |none=>rfl
  |some v=>exact zj7 v n 0
 ·cases hi with
  |none=>rfl
  |some v=>exact zj7 v n n
theorem ziL (i j:Nat):Builtin.Slice.slicePlaces (i:Int) (j:Int) 1=j-i:=by
 unfold Builtin.Slice.slicePlaces
 have h1:(1:Int)>0:=by lia
 simp only[h1,if_true,Int.ediv_one]
 split<;>lia
theorem zfg {v:Value}{o:Option Int}{Q:Option Int->Shared->Prop}(p:IsPart v o)(h:Q o s):wpAny (model prog w) A (Builtin.Slice.slicePartIndex v) Q E s:=by
 cases p with
 |none=>exact slicePart_none h
 |int i t=>exact slicePart_int h
theorem zck {sl:Addr}{vl vu:Value}{lo hi:Option Int}{n:Nat}{Q:Int×Int×Nat->Shared->Prop}(hs:s.heap.IsSliceOf sl vl vu .none)(pl:IsPart vl lo)(pu:IsPart vu hi)
  (h:Q (((sIx n 0 lo:Nat):Int),1,sIx n n hi-sIx n 0 lo) s):wpAny (model prog w) A (Builtin.Slice.sliceApplied (.ref sl) (pure (n:Int))) Q E s:=by
 obtain⟨os,hos,hcs,hds⟩:=id hs
 unfold Builtin.Slice.sliceApplied Builtin.Slice.sliceFields
 refine wpAny_bind (wpAny_bind (wpAny_field hos hds (x:=vl) rfl (wpAny_bind (wpAny_field hos hds (x:=vu) rfl (wpAny_bind (wpAny_field hos hds (x:= .none) rfl (wpAny_pure ?_)))))))
 refine wpAny_bind (slicePart_none ?_)
 show wpAny _ _ (if((1:Int)==0)=true then _ else _) _ _ s
 rw[if_neg (by decide)]
 refine wpAny_bind (zfg pl (wpAny_bind (zfg pu (wpAny_bind (wpAny_pure ?_)))))
 show wpAny _ _ (match Builtin.Slice.sliceAdjust lo hi 1 (n:Int)with|(lo,hi)=>pure (lo,(1:Int),Builtin.Slice.slicePlaces lo hi 1)) _ _ s
 rw[ziq lo hi n]
 show wpAny _ _ (pure (((sIx n 0 lo:Nat):Int),(1:Int),Builtin.Slice.slicePlaces ((sIx n 0 lo:Nat):Int) ((sIx n n hi:Nat):Int) 1)) _ _ s
 rw[ziL]
 exact wpAny_pure h
theorem pick_gen (xs:Array Value)(i k:Nat):((List.range k).filterMap fun(m:Nat)=>xs[((i:Int)+(m:Int)*1).toNat]?).toArray=((xs.toList.drop i).take k).toArray:=by
 have e:(fun(m:Nat)=>xs[((i:Int)+(m:Int)*1).toNat]?)=fun m=>xs[i+m]?:=by
  funext m
  have:((i:Int)+(m:Int)*1).toNat=i+m:=by lia
  rw[this]
 rw[e]
 have:=pick_run xs i k
 rw[List.filterMap_map]at this
 have e2:((fun x=>xs[x]?) ∘ fun x=>i+x)=fun m=>xs[i+m]?:=rfl
 rw[e2]at this
 rw[this]
theorem zdR {t sl:Addr}{items:Array Value}{vl vu:Value}{lo hi:Option Int}{Q:Value->Shared->Prop}(ht:IsTup s.heap t items)(hs:s.heap.IsSliceOf sl vl vu .none)(pl:IsPart vl lo)(pu:IsPart vu hi)
  (hw:¬(sIx items.size 0 lo=0/\sIx items.size items.size hi=items.size))
  (h:Q (.ref s.heap.objs.size) {s with heap:=s.heap.push {cls:= .type "tuple",data:= .seq ((items.toList.drop (sIx items.size 0 lo)).take (sIx items.size items.size hi-sIx items.size 0 lo)).toArray}})
  (hsz:items.size<=sizeLine):wpAny (model prog w) A (getItem (.ref t) (.ref sl)) Q E s:=by
 have htake:sizeOk (.seq ((items.toList.drop (sIx items.size 0 lo)).take (sIx items.size items.size hi-sIx items.size 0 lo)).toArray):=by
  show((items.toList.drop (sIx items.size 0 lo)).take (sIx items.size items.size hi-sIx items.size 0 lo)).toArray.size<=sizeLine
  rw[List.size_toArray,List.length_take,List.length_drop,Array.length_toList]
  lia
 have hj:sIx items.size items.size hi<=items.size:=sIx_le _ _ (Nat.le_refl _) hi
 obtain⟨os,hos,hcs,hds⟩:=id hs
 have hTs:s.TypeIs (.ref sl) "slice":=⟨os,hos,hcs⟩
 unfold getItem
 try with_reducible refine wpAny_holding ?_
 first|refine wpAny_bind (wpAny_pure ?_)|skip
 refine wpAny_bind (wpAny_sequenceKey ht.typeIs (by decide) ?_)
 refine wpAny_bind (wpAny_callSpecial?_slot (name:=Str.ofString "__getitem__") ht.typeIs PyProof.Rows.slot_tuple_getitem
  (wpAny_call_entry PyProof.Rows.slot_tuple_getitem ht.typeIs entry_tuple_getitem ?_ (args_tuple_getitem _ _)))
 show wpAny _ _ (Builtin.Tuple.tupleItemsOf (.ref t)>>=_) _ _ s
 refine wpAny_bind (tupleItemsOf_ ht ?_)
 refine wpAny_bind (wpAny_typeOf hTs ?_)
 rw[if_pos (by decide)]
 refine wpAny_bind (zck hs pl pu ?_)
 have hno:¬((((sIx items.size 0 lo:Nat):Int)==0&&(1:Int)==1&&(sIx items.size items.size hi-sIx items.size 0 lo)==items.size)=true):=by
  intro q
  rw[Bool.and_eq_true,Bool.and_eq_true]at q
  have q1:((sIx items.size 0 lo:Nat):Int)=0:=eq_of_beq q.1.1
  have q2:sIx items.size items.size hi-sIx items.size 0 lo=items.size:=eq_of_beq q.2
  exact hw ⟨by lia,by lia⟩
 show wpAny _ _ (if(((sIx items.size 0 lo:Nat):Int)==0&&(1:Int)==1&&(sIx items.size items.size hi-sIx items.size 0 lo)==items.size)=true then _ else _) _ _ s
 rw[if_neg hno,pick_gen]
 first
  |exact wpAny_bind (m:=Builtin.Tuple.tupleExact _) (wpAny_newObj_type (wpAny_pure ⟨_,rfl,wpAny_pure h⟩) htake)
  |exact wpAny_bind (m:=Builtin.Tuple.tupleExact _) (wpAny_newObj_type (wpAny_bind (wpAny_pure (wpAny_pure ⟨_,rfl,wpAny_pure h⟩))) htake)
  |exact wpAny_bind (wpAny_bind (m:=Builtin.Tuple.tupleExact _) (wpAny_newObj_type (wpAny_pure (wpAny_pure ⟨_,rfl,wpAny_pure h⟩)) htake))
  |exact wpAny_bind (wpAny_bind (m:=Builtin.Tuple.tupleExact _) (wpAny_newObj_type (wpAny_pure ⟨_,rfl,wpAny_pure h⟩) htake))
end
end HT
namespace L2
open PyProof.Rows PySem PySem.Spec
variable {ns:List Int} {r r':V->Option Int->Option Int->Hp->VK->Prop} {xs:List V} {us its its':List Value} {n j t':Nat} {i:Int} {pins:List (Addr×Obj)} {σ:St} {H:Hp} {s:Shared} {p:Addr} {f:Array Value->Array Value} {v:Value}
noncomputable abbrev TO:=St->Hp->(Option Int->Hp->Prop)->Prop
noncomputable def PO (X:Cx)(e:Option Expr)(t:TO):Prop:=
 ∀(pins:List (Addr×Obj)) (s:Shared) (σ:St) (H:Hp) (Q:Option Int->Hp->Prop),Inv X pins σ H s->t σ H Q->
  wpAny (model X.prog X.w) X.A (evalPart e X.env) (fun u s'=>∃o H',Inv X pins σ H' s'/\IsPart u o/\Q o H') X.xe s
noncomputable def tNoPart:TO:=fun _ H Q=>Q none H
noncomputable def tPart (t:TE):TO:=fun σ H Q=>t σ H fun x H1=>∃i,x= .int i/\Q (some i) H1
theorem zdP:∀{us:List Value},Vals (ns.map V.int) us->IntsAre us ns:=by
 induction ns with
 |nil=>intro us r;rw[List.map_nil]at r;cases r;exact .nil
 |cons n ns ih=>
  intro us r
  rw[List.map_cons]at r
  cases r with
  |cons r1 r2=>
   obtain⟨t,e⟩:=r1
   subst e
   exact .cons n t (ih r2)
section
variable {X:Cx} {e:Expr} {te:TE} {lo hi:Option Expr} {tl th:TO} {pos p2:Pos}
theorem po_none:PO X none tNoPart:=by
 intro pins s σ H Q I h
 rw[evalPart_none]
 exact wpAny_pure ⟨none,H,I,.none,h⟩
theorem po_some (h:PE X e te):PO X (some e) (tPart te):=by
 intro pins s σ H Q I hw
 rw[evalPart_some]
 refine thn (h pins s σ H _ I hw) fun u s1 ⟨x,H1,I1,r1,q1⟩=>?_
 obtain⟨i,rfl,q⟩:=q1
 obtain⟨t,rfl⟩:=r1
 exact⟨some i,H1,I1,.int i t,q⟩
noncomputable def SlR (X:Cx)(r:V->Option Int->Option Int->Hp->VK->Prop):Prop:=
 ∀(pins:List (Addr×Obj)) (s:Shared) (σ:St) (H:Hp) (x:V) (v vl vu:Value) (lo hi:Option Int) (sl:Addr) (Q:VK),Inv X pins σ H s->RelV x v->s.heap.IsSliceOf sl vl vu .none->IsPart vl lo->IsPart vu hi->r x lo hi H Q->
  ∃T id,typeLookup (.type T) "__getitem__"=pure (some (.builtin id))/\s.TypeIs v T/\wpAny (model X.prog X.w) X.A (getItem v (.ref sl)) (EP X pins σ Q) X.xe s
theorem SlR.or (h:SlR X r)(h':SlR X r'):SlR X (fun x lo hi H Q=>r x lo hi H Q\/r' x lo hi H Q):=by
 intro pins s σ H x v vl vu lo hi sl Q I rx hs pl pu q
 rcases q with q|q
 ·exact h pins s σ H x v vl vu lo hi sl Q I rx hs pl pu q
 ·exact h' pins s σ H x v vl vu lo hi sl Q I rx hs pl pu q
noncomputable def tSl (r:V->Option Int->Option Int->Hp->VK->Prop)(te:TE)(tl th:TO):TE:=fun σ H Q=>te σ H fun x H1=>tl σ H1 fun l H2=>th σ H2 fun u H3=>r x l u H3 Q
theorem pe_slice (hr:SlR X r)(he:PE X e te)(hl:PO X lo tl)(hu:PO X hi th):PE X (.Subscript e (.Slice lo hi none p2) pos) (tSl r te tl th):=by
 intro pins s σ H Q I h
 refine Subscript_ (thn (he pins s σ H _ I h) fun v s1 ⟨x,H1,I1,r1,q1⟩=>?_)
 refine wpAny_Slice (thn (hl pins s1 σ H1 _ I1 q1) fun vl s2 ⟨l,H2,I2,pl,q2⟩=>thn (hu pins s2 σ H2 _ I2 q2) fun vu s3 ⟨u,H3,I3,pu,q3⟩=>?_)
 rw[evalPart_none]
 refine wpAny_pure ?_
 have I4:Inv X pins σ H3 {s3 with heap:=s3.heap.push {cls:= .type "slice",data:= .fields #[vl,vu,.none]}}:=I3.kept (t':=s3.toks) fun b ob q=>Heap.get?_push_of_some _ q
 obtain⟨T,id,hT,ht,hg⟩:=hr pins {s3 with heap:=s3.heap.push {cls:= .type "slice",data:= .fields #[vl,vu,.none]}} σ H3 x v vl vu l u s3.heap.objs.size Q I4 r1 (Heap.IsSliceOf.new ..) pl pu q3
 show wpAny (model X.prog X.w) X.A (subscriptTail e (.Slice lo hi none p2) v (.ref s3.heap.objs.size)) (EP X pins σ Q) X.xe {s3 with heap:=s3.heap.push {cls:= .type "slice",data:= .fields #[vl,vu,.none]}}
 exact tail_any (ops:=[.ref s3.heap.objs.size,v]) ht hT hg (by with_unfolding_all rfl)
noncomputable def cutV (xs:List V)(lo hi:Option Int):List V:=(xs.drop (HT.sIx xs.length 0 lo)).take (HT.sIx xs.length xs.length hi-HT.sIx xs.length 0 lo)
theorem zeO (xs:List V)(lo hi:Option Int):(cutV xs lo hi).length<=xs.length:=by
 unfold cutV
 rw[List.length_take,List.length_drop]
 lia
noncomputable def rSlT (K:W.Frag):V->Option Int->Option Int->Hp->VK->Prop:=fun x lo hi H Q=>∃a xs,x= .ref a/\SqT K H a xs/\
 ¬(HT.sIx xs.length 0 lo=0/\HT.sIx xs.length xs.length hi=xs.length)/\∀p,H p=none->Q (.ref p) (upd H p (.tup (cutV xs lo hi)))
theorem sl_tup:SlR X (rSlT X.K):=by
 intro pins s σ H x v vl vu lo hi sl Q I rx hs pl pu h
 obtain⟨a,xs,rfl,hx,hw,q⟩:=h
 cases rx
 obtain⟨its,r,ht,hz⟩:=I.tuple hx
 have hlen:its.toArray.size=xs.length:=by rw[List.size_toArray];exact r.length.symm
 refine⟨"tuple",_,PyProof.Rows.slot_tuple_getitem.lookup,ht.typeIs,?_⟩
 refine HT.zdR ht hs pl pu (by rw[hlen];exact hw) ?_ (by rw[hlen];exact hz)
 rw[hlen]
 refine⟨.ref s.heap.objs.size,_,I.laid (t':=s.toks) (o:= .tup (cutV xs lo hi)) (fun b ob q=>Heap.get?_push_of_some _ q) (Nat.le_refl _) ?_,rfl,q _ (I.hok.fresh (Nat.le_refl _))⟩
 exact⟨Nat.le_trans (zeO xs lo hi) hz,_,(r.drop (HT.sIx xs.length 0 lo)).take (HT.sIx xs.length xs.length hi-HT.sIx xs.length 0 lo),IsTup.new _ _⟩
noncomputable def rCatT (K:W.Frag):R2:=fun x y H Q=>∃a b xs ys,x= .ref a/\y= .ref b/\SqT K H a xs/\SqT K H b ys/\xs≠[]/\xs.length+ys.length<=sizeLine/\
 (ys=[]->Q (.ref a) H)/\(ys≠[]->∀p,H p=none->Q (.ref p) (upd H p (.tup (xs++ys))))
theorem Vals.nil_iff (r:Vals xs us):us=[]↔xs=[]:=by
 cases r with
 |nil=>simp
 |cons _ _=>simp
theorem op_catT:OpR X (binaryOp .Add) (rCatT X.K):=by
 intro pins s σ H x y v u Q I rx ry h
 obtain⟨a,b,xs,ys,rfl,rfl,ha,hb,hx,hz,q1,q2⟩:=h
 cases rx
 cases ry
 obtain⟨its,r1,p1,_⟩:=I.tuple ha
 obtain⟨its2,r2,p2,_⟩:=I.tuple hb
 refine HT.cat_tup p1 p2 (fun z=>hx (r1.nil_iff.mp z)) (fun z=>⟨.ref a,H,I,rfl,q1 (r2.nil_iff.mp z)⟩) (fun z=>?_) (by rw[<-r1.length,<-r2.length];exact hz)
 refine⟨.ref s.heap.objs.size,_,I.laid (t':=s.toks) (o:= .tup (xs++ys)) (fun b ob q=>Heap.get?_push_of_some _ q) (Nat.le_refl _) ?_,rfl,q2 (fun w=>z (r2.nil_iff.mpr w)) _ (I.hok.fresh (Nat.le_refl _))⟩
 exact⟨by rw[List.length_append];exact hz,_,r1.append r2,IsTup.new _ _⟩
end
noncomputable def ixN (n:Nat)(i:Int):Option Nat:=if 0<=i then(if i<n then some i.toNat else none)else if-(n:Int)<=i then some (i+n).toNat else none
noncomputable def atI {α:Type}(xs:List α)(i:Int):Option α:=(ixN xs.length i).bind fun j=>xs[j]?
theorem zkI {n:Nat}(h:ixN n i=some j):seqIndex? i n=some j/\j<n/\ -(n:Int)<=i/\i<n:=by
 unfold ixN at h
 by_cases h0:0<=i
 ·rw[if_pos h0]at h
  by_cases h1:i<n
  ·rw[if_pos h1]at h
   have e:i.toNat=j:=Option.some.inj h
   exact⟨by rw[seqIndex_of h0 h1,e],by lia,by lia,h1⟩
  ·rw[if_neg h1]at h;cases h
 ·rw[if_neg h0]at h
  by_cases h1: -(n:Int)<=i
  ·rw[if_pos h1]at h
   have e:(i+n).toNat=j:=Option.some.inj h
   exact⟨by rw[seqIndex_neg (by lia) h1,e],by lia,h1,by lia⟩
  ·rw[if_neg h1]at h;cases h
theorem zgX {α:Type}{xs:List α}{v:α}(h:atI xs i=some v):∃j,seqIndex? i xs.length=some j/\xs[j]? =some v/\j<xs.length/\ -(xs.length:Int)<=i/\i<xs.length:=by
 unfold atI at h
 cases e:ixN xs.length i with
 |none=>rw[e]at h;cases h
 |some j=>
  rw[e]at h
  obtain⟨h1,h2,h3,h4⟩:=zkI e
  exact⟨j,h1,h,h2,h3,h4⟩
noncomputable def zfE (b:Expr):Prop:=∀o i,subscripted b false o i=operate [o,i] (getItem o i)
noncomputable def IxR (X:Cx)(r:R2):Prop:=
 ∀(value slice:Expr) (pins:List (Addr×Obj)) (s:Shared) (σ:St) (H:Hp) (x y:V) (v u:Value) (Q:VK),Inv X pins σ H s->RelV x v->RelV y u->r x y H Q->
  subscripted slice false v u=operate [v,u] (getItem v u)->wpAny (model X.prog X.w) X.A (subscriptTail value slice v u) (EP X pins σ Q) X.xe s
noncomputable def MtR (X:Cx)(id:String)(r:V->List V->Hp->VK->Prop):Prop:=
 ∀(pins:List (Addr×Obj)) (s:Shared) (σ:St) (H:Hp) (x:V) (xs:List V) (v:Value) (us:List Value) (Q:VK),Inv X pins σ H s->RelV x v->Vals xs us->r x xs H Q->
  wpAny (model X.prog X.w) X.A (call (.builtin id) (v::us)) (EP X pins σ Q) X.xe s
section
variable {X:Cx} {a b:Expr} {ta tb:TE} {pos:Pos}
theorem IxR.or {r r':R2}(h:IxR X r)(h':IxR X r'):IxR X (fun x y H Q=>r x y H Q\/r' x y H Q):=by
 intro value slice pins s σ H x y v u Q I rx ry q hs
 rcases q with q|q
 ·exact h value slice pins s σ H x y v u Q I rx ry q hs
 ·exact h' value slice pins s σ H x y v u Q I rx ry q hs
theorem pe_ix {r:R2}(hr:IxR X r)(ha:PE X a ta)(hb:PE X b tb)(hs:zfE b):PE X (.Subscript a b pos) (tOp r ta tb):=by
 intro pins s σ H Q I h
 exact Subscript_ (binT ha hb I h fun v u s2 x y H2 I2 rx ry q=>hr a b pins s2 σ H2 x y v u Q I2 rx ry q (hs _ _))
noncomputable def rIxL (K:W.Frag):R2:=fun x y H Q=>∃p xs i v,x= .ref p/\y= .int i/\SqL K H p xs/\atI xs i=some v/\Q v H
noncomputable def rIxT (K:W.Frag):R2:=fun x y H Q=>∃p xs i v,x= .ref p/\y= .int i/\SqT K H p xs/\atI xs i=some v/\Q v H
noncomputable def rIxS:R2:=fun x y H Q=>∃z i c,x= .str z/\y= .int i/\z.length<=sizeLine/\atI z.cps.toList i=some c/\Q (.str ⟨#[c]⟩) H
theorem ix_list:IxR X (rIxL X.K):=by
 intro value slice pins s σ H x y v u Q I rx ry h hs
 obtain⟨p,xs,i,z,rfl,rfl,hq,he,q⟩:=h
 cases rx
 obtain⟨t,rfl⟩:=ry
 obtain⟨its,r,pl,hz⟩:=I.list hq
 obtain⟨j,h1,h2,h3,h4,h5⟩:=zgX he
 obtain⟨w,ew,rw'⟩:=r.get h2
 have hl:=r.length
 have hn:=zfh
 have fin:EP X pins σ Q w s:=⟨z,H,I,rw',q⟩
 by_cases h0:0<=i
 ·have hj:i.toNat=j:=by
   rw[seqIndex_of h0 h5]at h1
   exact Option.some.inj h1
  exact item_listR pl.isList h0 (by lia) (by rw[hj];simpa using ew) fin hs
 ·have hj:(i+(its.toArray.size:Int)).toNat=j:=by
   rw[seqIndex_neg (by lia) h4]at h1
   rw[List.size_toArray,<-hl]
   exact Option.some.inj h1
  exact subscriptTail_builtinR (x:=w) pl.isList.typeIs slot_list_getitem.lookup
   (wpAny_getItem_list_neg (Q:=fun r s'=>r=w/\EP X pins σ Q r s') pl.isList (by lia) (by rw[List.size_toArray]<;>lia) (by lia) (by rw[hj];simpa using ew) ⟨rfl,fin⟩) hs
theorem ix_tup:IxR X (rIxT X.K):=by
 intro value slice pins s σ H x y v u Q I rx ry h hs
 obtain⟨p,xs,i,z,rfl,rfl,hq,he,q⟩:=h
 cases rx
 obtain⟨t,rfl⟩:=ry
 obtain⟨its,r,pl,hz⟩:=I.tuple hq
 obtain⟨j,h1,h2,h3,h4,h5⟩:=zgX he
 obtain⟨w,ew,rw'⟩:=r.get h2
 have hl:=r.length
 have hn:=zfh
 have fin:EP X pins σ Q w s:=⟨z,H,I,rw',q⟩
 exact subscriptTail_builtinR (x:=w) pl.typeIs slot_tuple_getitem.lookup
  (getItem_tuple (j:=j) (Q:=fun r s'=>r=w/\EP X pins σ Q r s') pl (by lia) (by lia) (by rw[List.size_toArray,<-hl];exact h1) (by simpa using ew) ⟨rfl,fin⟩) hs
theorem ix_str:IxR X rIxS:=by
 intro value slice pins s σ H x y v u Q I rx ry h hs
 obtain⟨z,i,c,rfl,rfl,hz,he,q⟩:=h
 obtain⟨t,rfl⟩:=rx
 obtain⟨t',rfl⟩:=ry
 obtain⟨j,h1,h2,h3,h4,h5⟩:=zgX he
 have hl:z.cps.toList.length=z.length:=by simp[Str.length]
 rw[hl]at h1 h4 h5
 have hn:=zfh
 exact tail_any (typeIs_str s z t) slot_str_getitem.lookup (getItem_str (c:=c) (by
  have e1:decide (i< -(2^63:Int))=false:=decide_eq_false (by lia)
  have e2:decide (i>=2^63)=false:=decide_eq_false (by lia)
  rw[e1,e2,Bool.or_false]) (by rw[h1];simpa using h2) ⟨.str ⟨#[c]⟩,H,I.tok _,⟨_,rfl⟩,q⟩) hs
noncomputable def rIx (K:W.Frag):R2:=fun x y H Q=>rIxL K x y H Q\/rIxT K x y H Q\/rIxS x y H Q
theorem ix_seq:IxR X (rIx X.K):=ix_list.or (ix_tup.or ix_str)
theorem ziw (its:List Value)(n j:Nat)(u:Value):Obj.mapSeq (·.setIfInBounds j u) {cls:= .type "list",data:= .seq its.toArray n}={cls:= .type "list",data:= .seq (its.set j u).toArray n}:=by
 simp[Obj.mapSeq]
theorem Inv.lst (I:Inv X pins σ H s)(h:H p=some (.lst xs)):
  ∃(its:List Value) (n:Nat),Vals xs its/\s.heap.get? p=some {cls:= .type "list",data:= .seq its.toArray n}/\xs.length<=sizeLine:=by
 obtain⟨z,its,n,r,e⟩:=I.hok p _ h
 exact⟨its,n,r,e,z⟩
theorem Inv.lstUpd {xs ys:List V}{n n':Nat}{f:Obj->Obj}(I:Inv X pins σ H s)(h:H p=some (.lst xs))
  (ho:s.heap.get? p=some {cls:= .type "list",data:= .seq its.toArray n}) (hf:f {cls:= .type "list",data:= .seq its.toArray n}={cls:= .type "list",data:= .seq its'.toArray n'}) (r:Vals ys its') (hz:ys.length<=sizeLine) (t:Nat):
  Inv X pins σ (upd H p (.lst ys)) {s with heap:=s.heap.update p f,toks:=t}:=by
 have e:(s.heap.update p f).get? p=some {cls:= .type "list",data:= .seq its'.toArray n'}:=by
  rw[Heap.get?_update_self f ho (by rw[hf]<;>rfl),hf]
 refine I.write (x:=p) (e:=p) (by rw[h];trivial) (.inl rfl) (fun b u hb q=>(Heap.get?_update_other _ _ (Ne.symm hb)).trans q) ⟨_,e⟩ ?_
 exact⟨hz,its',n',r,e⟩
noncomputable def rSetL:V->V->V->Hp->(Hp->Prop)->Prop:=fun o i v H Q=>∃p xs k j,o= .ref p/\i= .int k/\H p=some (.lst xs)/\ixN xs.length k=some j/\Q (upd H p (.lst (xs.set j v)))
theorem set_list:PSet X rSetL:=by
 intro pins s σ H o i v ov iv u Q I ro ri rv h
 obtain⟨p,xs,k,j,rfl,rfl,hp,hj,q⟩:=h
 cases ro
 obtain⟨t,rfl⟩:=ri
 obtain⟨its,n,r,ho,hz⟩:=I.lst hp
 obtain⟨h1,h2,h3,h4⟩:=zkI hj
 have hl:=r.length
 have hn:=zfh
 have I':Inv X pins σ (upd H p (.lst (xs.set j v))) {s with heap:=s.heap.update p (Obj.mapSeq (·.setIfInBounds j u))}:=
  I.lstUpd hp ho (ziw its n j u) (r.set rv j) (by rw[List.length_set];exact hz) s.toks
 by_cases h0:0<=k
 ·have hk:k.toNat=j:=by
   rw[seqIndex_of h0 h4]at h1
   exact Option.some.inj h1
  exact W.ki_setAt ho h0 (by lia) (by rw[List.size_toArray,<-hl];exact h4) (by rw[hk];exact⟨_,I',q⟩)
 ·have hk:(k+(its.toArray.size:Int)).toNat=j:=by
   rw[seqIndex_neg (by lia) h3]at h1
   rw[List.size_toArray,<-hl]
   exact Option.some.inj h1
  exact W.ki_setBack ho (by lia) (by rw[List.size_toArray,<-hl];exact h3) (by lia) (by rw[hk];exact⟨_,I',q⟩)
theorem zgp (lo hi:Option Int)(n:Nat):(sliceBounds lo hi none n).1=((HT.sIx n 0 lo:Nat):Int)/\(sliceBounds lo hi none n).2.1=((HT.sIx n n hi:Nat):Int)/\(sliceBounds lo hi none n).2.2=1:=by
 refine⟨?_,?_,rfl⟩
 ·cases lo with
  |none=>simp[sliceBounds,HT.sIx]
  |some i=>
   simp only[sliceBounds,HT.sIx,Option.getD_none,show(1:Int)>0 by decide,if_true]
   by_cases h:i<0
   ·simp only[h,if_true]<;>lia
   ·simp only[h,if_false]<;>lia
 ·cases hi with
  |none=>simp[sliceBounds,HT.sIx]
  |some i=>
   simp only[sliceBounds,HT.sIx,Option.getD_none,show(1:Int)>0 by decide,if_true]
   by_cases h:i<0
   ·simp only[h,if_true]<;>lia
   ·simp only[h,if_false]<;>lia
theorem zft (its:List Value)(lo hi:Option Int):slicePick its.toArray lo hi none=((its.drop (HT.sIx its.length 0 lo)).take (HT.sIx its.length its.length hi-HT.sIx its.length 0 lo)).toArray:=by
 obtain⟨h1,h2,h3⟩:=zgp lo hi its.toArray.size
 unfold slicePick
 rw[h1,h2,h3]
 simp only[sliceRange_one,pick_run,List.size_toArray]<;>rfl
noncomputable def rSlL (K:W.Frag):V->Option Int->Option Int->Hp->VK->Prop:=fun x lo hi H Q=>∃a xs,x= .ref a/\SqL K H a xs/\∀p,H p=none->Q (.ref p) (upd H p (.lst (cutV xs lo hi)))
theorem sl_list:SlR X (rSlL X.K):=by
 intro pins s σ H x v vl vu lo hi sl Q I rx hs pl pu h
 obtain⟨a,xs,rfl,hx,q⟩:=h
 cases rx
 obtain⟨its,r,ht,hz⟩:=I.list hx
 have hlen:=r.length
 refine⟨"list",_,slot_list_getitem.lookup,ht.isList.typeIs,?_⟩
 refine wpAny_getItem_list_slice ht.isList hs pl pu .none (by simp) ?_ (by rw[List.size_toArray]<;>lia)
 rw[zft,<-hlen]
 refine⟨.ref s.heap.objs.size,_,I.laid (t':=s.toks) (o:= .lst (cutV xs lo hi)) (fun b ob q=>Heap.get?_push_of_some _ q) (Nat.le_refl _) ?_,rfl,q _ (I.hok.fresh (Nat.le_refl _))⟩
 exact⟨Nat.le_trans (zeO xs lo hi) hz,_,0,(r.drop (HT.sIx xs.length 0 lo)).take (HT.sIx xs.length xs.length hi-HT.sIx xs.length 0 lo),Heap.get?_push_size _ rfl⟩
theorem zd3:zdT X (.builtin "len") (fun xs H Q=>∃p ys,xs=[.ref p]/\(SqL X.K H p ys\/SqT X.K H p ys)/\Q (.int ys.length) H):=by
 intro pins s σ H xs us Q I r h
 obtain⟨p,ys,rfl,hq,q⟩:=h
 obtain⟨u,rfl,rx⟩:=zgc r
 cases rx
 have hn:=zfh
 rcases hq with hq|hq
 ·obtain⟨its,r',pl,hz⟩:=I.list hq
  have hlen:=r'.length
  exact Calls.call_len_list pl.isList (by simp only[List.size_toArray]<;>lia) ⟨.int ys.length,H,I.tok _,⟨s.toks+1,by rw[List.size_toArray,hlen]⟩,q⟩
 ·obtain⟨its,r',pl,hz⟩:=I.tuple hq
  have hlen:=r'.length
  exact len_tuple pl (by simp only[List.size_toArray]<;>lia) ⟨.int ys.length,H,I.tok _,⟨s.toks+1,by rw[List.size_toArray,hlen]⟩,q⟩
theorem zfr:zdT X (.type "tuple") (fun xs H Q=>∃p ys,xs=[.ref p]/\((SqL X.K H p ys/\∀l,H l=none->Q (.ref l) (upd H l (.tup ys)))\/(SqT X.K H p ys/\Q (.ref p) H))):=by
 intro pins s σ H xs us Q I r h
 obtain⟨p,ys,rfl,h⟩:=h
 obtain⟨u,rfl,rx⟩:=zgc r
 cases rx
 rcases h with⟨hq,q⟩|⟨hq,q⟩
 ·obtain⟨its,r',pl,hz⟩:=I.list hq
  have hlen:=r'.length
  refine call_tuple_list pl.isList (fun h' kp=>?_) (by simp only[List.size_toArray]<;>lia)
  have I1:Inv X pins σ H {s with heap:=h'}:=I.kept (t':=s.toks) kp
  have I2:Inv X pins σ (upd H h'.objs.size (.tup ys)) {s with heap:=h'.push {cls:= .type "tuple",data:= .seq its.toArray}}:=
   I1.laid (t':=s.toks) (fun b o e=>Heap.get?_push_of_some _ e) (Nat.le_refl _) (show ObjOk X.prog X.w _ _ _ (.tup ys)from⟨hz,its,r',IsTup.new _ _⟩)
  exact⟨.ref h'.objs.size,_,I2,rfl,q _ (I1.hok.fresh (Nat.le_refl _))⟩
 ·obtain⟨its,r',pl,hz⟩:=I.tuple hq
  exact call_tuple_same pl ⟨.ref p,H,I,rfl,q⟩
noncomputable def tyV (K:W.Frag)(T:String)(x:V)(H:Hp):Prop:=match x with
 | .str _=>T="str"
 | .int _=>T="int"
 | .ref p=>(T="list"/\∃xs,SqL K H p xs)\/(T="tuple"/\∃o,K.lookup p=some o/\o.cls= .type "tuple"/\o.dict=none)\/
   (T="dict"/\((∃kvs,H p=some (.dK kvs))\/∃kvs,H p=some (.dT kvs)))\/(T="set"/\∃S n,H p=some (.set S n))
 |_=>False
theorem tyV_is {T:String}{x:V}(I:Inv X pins σ H s)(r:RelV x v)(ty:tyV X.K T x H):
  s.TypeIs v T/\∀a,v= .ref a->∃ob,s.heap.get? a=some ob/\ob.dict=none:=by
 cases x with
 |str z=>
  obtain⟨t,rfl⟩:=r
  cases(show T="str" from ty)
  exact⟨typeIs_str s z t,fun _ e=>nomatch e⟩
 |int i=>
  obtain⟨t,rfl⟩:=r
  cases(show T="int" from ty)
  exact⟨typeIs_int s i t,fun _ e=>nomatch e⟩
 |ref p=>
  cases r
  rcases ty with⟨rfl,xs,hq⟩|⟨rfl,o,hk,hc,hd⟩|⟨rfl,hk⟩|⟨rfl,S,n,hk⟩
  ·obtain⟨its,_,pl,_⟩:=I.list hq
   refine⟨pl.isList.typeIs,fun a e=>?_⟩
   cases e
   obtain⟨o,n,e,c,hd,_⟩:=pl
   exact⟨o,e,hd⟩
  ·refine⟨⟨o,I.kIn p o hk,hc⟩,fun a e=>?_⟩
   cases e
   exact⟨o,I.kIn _ o hk,hd⟩
  ·have z:∃o,s.heap.get? p=some o/\o.ExactDict:=by
    rcases hk with⟨kvs,hk⟩|⟨kvs,hk⟩
    ·obtain⟨_,_,_,_,o,_,_,e,ex,_⟩:=I.hok p _ hk
     exact⟨o,e,ex⟩
    ·obtain⟨_,_,_,_,o,_,_,e,ex,_⟩:=I.hok p _ hk
     exact⟨o,e,ex⟩
   obtain⟨o,e,ex⟩:=z
   refine⟨⟨o,e,ex.1⟩,fun a e2=>?_⟩
   cases e2
   exact⟨o,e,ex.2.1⟩
  ·obtain⟨o,_,_,_,e,ex,_⟩:=I.hok p _ hk
   refine⟨⟨o,e,ex.1⟩,fun a e2=>?_⟩
   cases e2
   exact⟨o,e,ex.2.1⟩
 |_=>exact False.elim ty
noncomputable def tBM (K:W.Frag)(T:String)(r:V->List V->Hp->VK->Prop)(to:TE)(t:TA):TE:=fun σ H Q=>to σ H fun x H1=>tyV K T x H1/\t σ H1 fun xs H2=>r x xs H2 Q
variable {o e:Expr} {es:List Expr} {to:TE} {t:TA} {name:Str} {apos cpos:Pos} {T id:String} {r:V->List V->Hp->VK->Prop}
theorem pe_bm (pa:PlainAttrs T)(slot:Slot T name id)(hty:typeOf (.builtin id)=pure (.type "method_descriptor"))(hm:MtR X id r)(ho:PE X o to)(ha:PA X (e::es) t)
  (hbase:autoParam (attributeBase o name X.env (eval o X.env)=eval o X.env) zu3._auto_1)
  (hfew :autoParam (((backTo cpos (starEach (e :: es) X.env)).all (fun x => !x.1) && (backToKw cpos (keywordEach [] X.env)).all (fun x => x.1.isSome)
   &&decide ((e::es).length+([]:List Keyword).length+(if([]:List Keyword).isEmpty then 0 else 1)<30))=true) zu3._auto_1)
  (hline:autoParam ((apos.endLine==cpos.line)=true) zu3._auto_1) (hs:autoParam (starEach (e::es) X.env=(false,eval e X.env)::starEach es X.env) zu3._auto_1) (hplain:autoParam ((backTo cpos (starEach es X.env)).any (·.1)=false) zu3._auto_1):
  PE X (.Call (.Attribute o name apos) (e::es) [] cpos) (tBM X.K T r to t):=by
 intro pins s σ H Q I h
 refine wpAny_Call_method_late hbase hfew hline rfl (thn (ho pins s σ H _ I h) fun v s1 ⟨x,H1,I1,r1,ty,q1⟩=>?_)
 obtain⟨h1,h2⟩:=tyV_is I1 r1 ty
 refine⟨T,id,pa,slot,hty,h1,h2,?_⟩
 have hA:=ha cpos pins s1 σ H1 _ I1 q1
 rw[hs]at hA ⊢
 refine Calls.callWith_builtin (by show(false||(backTo cpos (starEach es X.env)).any (·.1))=false;rw[hplain]<;>rfl) (Calls.evalArgs_plain ?_)
 exact thn hA fun us s2 ⟨vs,H2,I2,r2,q2⟩=>hm pins s2 σ H2 x vs v us Q I2 r1 r2 q2
end
noncomputable def MtM (X:Cx)(id:String)(r:V->List V->Hp->VK->Prop):Prop:=
 ∀(pins:List (Addr×Obj)) (s:Shared) (σ:St) (H:Hp) (x:V) (xs:List V) (v:Value) (us:List Value) (Q:VK),Inv X pins σ H s->RelV x v->Vals xs us->r x xs H Q->
  wpAny (model X.prog X.w) X.A (call (.builtin id) (v::us)) (EP X pins σ Q) X.xe s
theorem Vals.one:∀{x:V} {us:List Value},Vals [x] us->∃u,us=[u]/\RelV x u
 |_,_,.cons r .nil=>⟨_,rfl,r⟩
theorem Vals.eraseIdx:∀{xs:List V} {us:List Value} (i:Nat),Vals xs us->Vals (xs.eraseIdx i) (us.eraseIdx i)
 |_,_,_,.nil=> .nil
 |_,_,0,.cons _ t=>t
 |_,_,i+1,.cons r t=> .cons r (Vals.eraseIdx i t)
theorem Vals.rep (h:Vals xs us):∀k:Nat,Vals (List.replicate k xs).flatten (List.replicate k us).flatten
 |0=> .nil
 |k+1=>by
  rw[List.replicate_succ,List.replicate_succ,List.flatten_cons,List.flatten_cons]
  exact Vals.append h (Vals.rep h k)
theorem zf2 {α:Type}:∀(l:List α) (i:Nat),(l.eraseIdx i).length<=l.length
 |[],_=>Nat.le_refl _
 |_::_,0=>Nat.le_succ _
 |_::r,i+1=>Nat.succ_le_succ (zf2 r i)
theorem zgg (its:List Value):∀(k:Nat) (acc:List Value),
  List.foldl (fun x1 x2=>x1++x2) acc.toArray (List.replicate k its.toArray)=(acc++(List.replicate k its).flatten).toArray
 |0,acc=>by simp
 |k+1,acc=>by
  have e:acc.toArray++its.toArray=(acc++its).toArray:=by simp
  have e2:(acc++its)++(List.replicate k its).flatten=acc++(List.replicate (k+1) its).flatten:=by
   rw[List.replicate_succ,List.flatten_cons,List.append_assoc]
  rw[<-e2,<-zgg its k (acc++its),<-e,List.replicate_succ,List.foldl_cons]
section
variable {X:Cx} {pins:List (Addr×Obj)} {σ:St} {H:Hp} {s:Shared} {l b:Addr} {xs ys zs:List V}
theorem Inv.lset (I:Inv X pins σ H s)(hH:H l=some (.lst xs))
  (e:s.heap.get? l=some {cls:= .type "list",data:= .seq its.toArray n}) (hf:f its.toArray=its'.toArray) (hv:Vals ys its') (hz:ys.length<=sizeLine):
  Inv X pins σ (upd H l (.lst ys)) {s with heap:=s.heap.update l (Obj.mapSeq f),toks:=t'}:=by
 have q:=PySem.IsL.update e f
 rw[hf]at q
 refine I.write (x:=l) (e:=l) (by rw[hH];exact trivial) (.inl rfl) (fun b' u hb hu=>(Heap.get?_update_other s.heap (Obj.mapSeq f) (Ne.symm hb)).trans hu) ⟨_,q⟩ ?_
 exact⟨hz,its',_,hv,q⟩
theorem Inv.lnew (I:Inv X pins σ H s)(hv:Vals ys its)(hz:ys.length<=sizeLine):
  Inv X pins σ (upd H s.heap.objs.size (.lst ys)) {s with heap:=s.heap.push {cls:= .type "list",data:= .seq its.toArray},toks:=t'}:=
 I.laid (fun _ _ q=>Heap.get?_push_of_some _ q) (Nat.le_refl _) ⟨hz,its,0,hv,Heap.get?_push_size _ rfl⟩
theorem Inv.fresh (I:Inv X pins σ H s):H s.heap.objs.size=none:=I.hok.fresh (Nat.le_refl _)
theorem Inv.lstM (I:Inv X pins σ H s)(hH:H l=some (.lst xs)):xs.length<=sizeLine/\∃(its:List Value) (n:Nat),Vals xs its/\xs.length=its.length/\s.heap.get? l=some {cls:= .type "list",data:= .seq its.toArray n}:=by
 obtain⟨z,its,n,r,e⟩:=I.hok l _ hH
 exact⟨z,its,n,r,r.length,e⟩
theorem notLongL (h:n<=sizeLine):Builtin.List.listTooLong n=false:=by
 unfold Builtin.List.listTooLong
 exact decide_eq_false (by lia)
end
section
variable {X:Cx}
noncomputable def rAppend:V->List V->Hp->VK->Prop:=fun x vs H Q=>∃l xs y,x= .ref l/\vs=[y]/\H l=some (.lst xs)/\xs.length<sizeLine/\Q .non (upd H l (.lst (xs++[y])))
theorem zf9:MtM X "list.append" rAppend:=by
 intro pins s σ H x vs v us Q I rx rv h
 obtain⟨l,xs,y,rfl,rfl,hH,hz,q⟩:=h
 cases rx
 obtain⟨u,rfl,ru⟩:=rv.one
 obtain⟨z,its,n,r,hl,e⟩:=I.lstM hH
 refine call_meets F.slot_list_append ⟨_,e,rfl⟩ F.entry_list_append (F.args_list_append_2 _ _) (PySem.list_append l its.toArray n u (by rw[List.size_toArray];lia)) ⟨e,?_⟩
 refine⟨.non,_,I.lset (its':=its++[u]) hH e (by simp) (r.append (.cons ru .nil)) ?_,rfl,q⟩
 rw[List.length_append,List.length_singleton]
 lia
noncomputable def rPopAt:V->List V->Hp->VK->Prop:=fun x vs H Q=>∃l xs i k y,x= .ref l/\vs=[.int i]/\H l=some (.lst xs)/\ -(2^63)<=i/\i<2^63/\seqIndex? i xs.length=some k/\xs[k]? =some y/\Q y (upd H l (.lst (xs.eraseIdx k)))
theorem mt_popAt:MtM X "list.pop" rPopAt:=by
 intro pins s σ H x vs v us Q I rx rv h
 obtain⟨l,xs,i,k,y,rfl,rfl,hH,h1,h2,hk,hy,q⟩:=h
 cases rx
 obtain⟨u,rfl,ru⟩:=rv.one
 obtain⟨t,rfl⟩:=ru
 obtain⟨z,its,n,r,hl,e⟩:=I.lstM hH
 obtain⟨w,hw,rw'⟩:=r.get hy
 refine call_meets F.slot_list_pop ⟨_,e,rfl⟩ F.entry_list_pop (F.args_list_pop_2 _ _)
  (MeetsSeq.list_pop_at l its.toArray n i t k w (fitsIndex_both h1 h2) (by rw[List.size_toArray,<-hl];exact hk) (by rw[<-Array.getElem?_toList];exact hw) (by rw[List.size_toArray];lia)) ⟨e,?_⟩
 refine⟨y,_,I.lset (its':=its.eraseIdx k) hH e ?_ (r.eraseIdx k) ?_,rw',q⟩
 ·show its.toArray.eraseIdxIfInBounds k=(its.eraseIdx k).toArray
  rw[List.eraseIdxIfInBounds_toArray]
 ·have:=zf2 xs k
  lia
noncomputable def rCat:R2:=fun x y H Q=>∃l b xs zs,x= .ref l/\y= .ref b/\H l=some (.lst xs)/\H b=some (.lst zs)/\xs.length+zs.length<=sizeLine/\∀p,H p=none->Q (.ref p) (upd H p (.lst (xs++zs)))
theorem op_cat:OpR X (binaryOp .Add) rCat:=by
 intro pins s σ H x y v u Q I rx ry h
 obtain⟨l,b,xs,zs,rfl,rfl,hH,hB,hz,q⟩:=h
 cases rx
 cases ry
 obtain⟨z,its,n,r,hl,e⟩:=I.lstM hH
 obtain⟨z2,its2,n2,r2,hl2,e2⟩:=I.lstM hB
 refine PySem.P.add_list e e2 ?_ (by rw[List.size_toArray,List.size_toArray];lia)
 have ea:its.toArray++its2.toArray=(its++its2).toArray:=by simp
 rw[ea]
 exact⟨.ref _,_,I.lnew (t':=s.toks) (r.append r2) (by rw[List.length_append];lia),rfl,q _ I.fresh⟩
noncomputable def rRep:R2:=fun x y H Q=>∃l k xs,x= .ref l/\y= .int k/\H l=some (.lst xs)/\ -(2^63)<=k/\k<2^63/\xs.length*k.toNat<=sizeLine/\
 ∀p,H p=none->Q (.ref p) (upd H p (.lst (List.replicate k.toNat xs).flatten))
theorem len_rep {α:Type}(xs:List α)(k:Nat):(List.replicate k xs).flatten.length=k*xs.length:=by
 induction k with
 |zero=>simp
 |succ k ih=>rw[List.replicate_succ,List.flatten_cons,List.length_append,ih,Nat.succ_mul,Nat.add_comm]
theorem op_rep:OpR X (binaryOp .Mult) rRep:=by
 intro pins s σ H x y v u Q I rx ry h
 obtain⟨l,k,xs,rfl,rfl,hH,h1,h2,hz,q⟩:=h
 cases rx
 obtain⟨t,rfl⟩:=ry
 obtain⟨z,its,n,r,hl,e⟩:=I.lstM hH
 have hlen:its.toArray.size*k.toNat<=sizeLine:=by rw[List.size_toArray,<-hl];exact hz
 have hcap:¬its.toArray.size*k.toNat>(2^63-1)/8:=by
  have:(sizeLine:Nat)<=(2^63-1)/8:=by decide
  lia
 have hfit:¬(!Builtin.List.listFitsIndex k)=true:=by
  rw[fitsIndex_both h1 h2]
  exact Bool.false_ne_true
 have hlong:¬Builtin.List.listTooLong (its.toArray.size*k.toNat)=true:=by
  rw[notLongL hlen]
  exact Bool.false_ne_true
 have hnew:List.foldl (fun x1 x2=>x1++x2) #[] (List.replicate (if its.toArray.isEmpty=true then 0 else k.toNat) its.toArray)=(List.replicate k.toNat its).flatten.toArray:=by
  have f0:∀m:Nat,List.foldl (fun x1 x2=>x1++x2) #[] (List.replicate m its.toArray)=(List.replicate m its).flatten.toArray:=fun m=>by
   have:=zgg its m []
   rw[List.nil_append]at this
   exact this
  rw[f0]
  cases its with
  |nil=>simp
  |cons a r'=>rw[if_neg (by simp)]
 refine wpAny_binaryOp_repeat_ref (T:="list") (U:="int") (by decide) ⟨_,e,rfl⟩ (fun s'=>typeIs_int s' k t) noFill_list_mul F.fills_int_mul F.slot_int_rmul repeat_list F.slot_int_index.lookup
  (call_meets F.slot_int_rmul (typeIs_int s k t) F.entry_int_rmul (F.args_int_rmul_2 _ _) (int___rmul___int_list k t l its.toArray n)
   ⟨e,rfl,⟨_,e,rfl⟩,call_meets F.slot_list_mul ⟨_,e,rfl⟩ F.entry_list_mul (F.args_list_mul_2 _ _) (AutoListH.list___mul___list_int_3 l its.toArray n k t hfit hcap hlong) ⟨e,?_⟩⟩)
 rw[hnew]
 exact⟨.ref _,_,I.lnew (t':=s.toks) (r.rep k.toNat) (by rw[len_rep,Nat.mul_comm];exact hz),rfl,q _ I.fresh⟩
end
end L2
namespace Att
open PyProof.Rows PySem PySem.Calls PySem.W
theorem zeJ {P:Params}{h:Heap}:∀(ns:List Int) (vs:List Value),WellAll P h vs (ns.map WData.int)->IntsAre vs ns:=by
 intro ns
 induction ns with
 |nil=>
  intro vs w
  rw[List.map_nil]at w
  cases w
  exact .nil
 |cons n ns ih=>
  intro vs w
  rw[List.map_cons]at w
  cases w with
  |cons a b=>
   cases a
   exact .cons _ _ (ih _ b)
theorem zkc {l:OpenLaw}{n:Nat}(hn:l.most=some n){P:Params}{h:Heap}{args:List WData}{vals:List Value}
  (hpre:l.row.toRowW.claim.pre args=true) (hwl:WellAll P h vals args):
  ∃a vs ns,vals=[Value.ref a]/\args=[WData.list (ns.map WData.int)]/\h.get? a=some {cls:= .type "list",data:= .seq vs.toArray}/\IntsAre vs ns/\ns.length<=n:=by
 have hsh:WShape.hasAll [] args [.list .int]=true:=(pre_splitW hpre).1
 have hc:l.pre.holds [] {args:=args}=true:=(pre_splitW hpre).2
 obtain⟨d,r,rfl,h1,h2⟩:=hasAllW_cons hsh
 obtain rfl:=hasAllW_nil h2
 obtain⟨xs,rfl,h3⟩:=hasW_list h1
 obtain⟨ns,rfl⟩:=items_int h3
 have hlen:ns.length<=n:=by
  unfold OpenLaw.pre at hc
  have h4:(WTm.not (.lt (.lit (.int (n:Int))) (.len (.arg 0)))).holds [] {args:=[.list (ns.map .int)]}=true:=by
   have h4:=(holds_andW hc).1
   rw[hn]at h4
   exact h4
  have h5:=condW_of h4 (w_not (w_lt w_lit (w_len_list (w_arg rfl))))
  rw[List.length_map]at h5
  refine Nat.le_of_not_lt fun q=>?_
  have q':(n:Int)<((ns.length:Nat):Int):=by lia
  first
   |(rw[decide_eq_true q']at h5;exact absurd h5 (by decide))
   |(simp at h5;lia)
 cases hwl with
 |cons w1 w2=>
  cases w2
  cases w1 with
  |list ho hall=>exact⟨_,_,ns,rfl,rfl,ho,zeJ ns _ hall,hlen⟩
theorem ziO (l:OpenLaw)(args:List WData):l.row.toRowW.claim.post args (.bool true) args=true:=
 postW_of (r:=l.row.toRowW) (X:=(true==true))
  (show WShape.has [] (.bool true) .bool=true by first|rfl|decide|simp[WShape.has,WShape.arms,WShape.armsAll])
  (show(WTm.eq .res (.lit (.bool true))).value [] {args:=args,res:=some (.bool true),after:=args}=some (.bool (true==true))from w_eq_bool (w_res rfl) w_lit) rfl
theorem attach_call {l:OpenLaw}{n:Nat}{q:Program}{loose:List Str}{XP:(Str->Option Value)->Heap->Prop}{YP:World->Heap->Prop}{d:DefRec}
  (hn:l.most=some n) (hdf:d.params.defaults=[])
  (call : ∀ (w : World) (s₀ s₁ : Shared) (mg mb : Str -> Option Value) (fa : Addr) (o : Obj) (pm cd doc : Value) (a : Addr) (vs : List Value) (ns : List Int),
   Ground q loose [] XP w s₀ mg mb s₁.heap->YP w s₁.heap->
   s₁.heap.get? fa=some o->o.data= .func (docDef d.name d.params d.body d.scope pm cd doc)->s₁.heap.CodeRec cd d.name->mg d.name=some (.ref fa)->
   s₁.heap.get? a=some {cls:= .type "list",data:= .seq vs.toArray}->IntsAre vs ns->ns.length<=n->s₁.gens= #[]->
   codeAny (model l.prog w) callerA (.call (.ref fa) ⟨[.ref a],[]⟩) (fun r s'=>r= .ok (.ret (.bool true))/\OldK s₁.heap s'.heap/\s'.os=s₁.os/\AllBare s'.gens) s₁):
  WalkO q loose XP YP l.row.toRowW d [] (fun f vs=>PySem.call f vs):=by
 intro w s₀ s₁ mg mb G Y fa o pm cd doc dV kV ho hd hcd hD hmg hg args vals as hpre hlay hrd hwl hlo
 obtain rfl:dV= .none:=Dflts.none hD hdf
 obtain rfl:kV= .none:=Dflts.noKw hD
 obtain⟨a,vs,ns,rfl,rfl,hobj,hints,hlen⟩:=zkc hn hpre hwl
 refine enter_call (codeAny_mono (call w s₀ s₁ mg mb fa o pm cd doc a vs ns G Y ho (fd_plain hd) hcd hmg hobj hints hlen hg) fun r s' hq=>?_)
 obtain⟨rfl,h2,h3,h4⟩:=hq
 exact⟨.inl ⟨.bool true,.bool true,[],rfl,fun _=>rfl,.bool true,ziO l _,fun _=>⟨List.Pairwise.nil,fun _ hm=>(nomatch hm)⟩⟩,h2,h3,h4⟩
end Att
namespace L2
open PyProof.Rows PySem PySem.Spec
variable {w:World} {K:W.Frag} {mg mb:Str->Option Value} {CX:World->CXT} {a f b:Addr} {fd:FuncData} {x qual:Str} {sp:Sp} {vs:List (Key×Value)} {ns:List Int} {l:W.OpenLaw} {q prog:Program} {loose ps:List Str} {XP:(Str->Option Value)->Heap->Prop} {YP:World->Heap->Prop} {d:DefRec} {X:Cx} {oc u:Value} {osl:Array (Option Value)} {pos:Pos} {H H':Hp} {xs:List (List Key×Addr×Value)} {o:Option V} {y:V} {kvs:List (List Key×V)} {ks keys:List (Option Expr)} {Q E:Value->Shared->Prop} {h':Heap} {A:Around} {s:Shared} {pins:List (Addr×Obj)} {trs:List (TE×TE)} {values:List Expr}
theorem zdr:∀{vs:List Value} {ns:List Int},IntsAre vs ns->Vals (ns.map V.int) vs
 |_,_,.nil=> .nil
 |_,_,.cons n t h=> .cons ⟨t,rfl⟩ (zdr h)
noncomputable def Only (H:Hp):Prop:=∀b,H b=none\/∃o xs,H b=some (.frz o (.lst xs))
theorem law_call {P:Program}{CX:CXT}{k:Nat}{fa a:Addr}{s₁:Shared}{vs:List Value}
  (KX:K.In s₁.heap) (hns:s₁.heap.Ns mainGlobals mg) (hb:s₁.heap.Ns builtinsNs mb) (hbb:∀x:Str,x≠"__name__"->mb x=bootBuiltins x) (hlim:s₁.heap.NoLimit) (hg:s₁.gens= #[])
  (ha:s₁.heap.get? a=some {cls:= .type "list",data:= .seq vs.toArray}) (hi:IntsAre vs ns) (hl:ns.length<=sizeLine) (hr:Room k callerA)
  (F:∀base:Heap,K.In base->base.Ns mainGlobals mg->FnOk P w K mg base CX k fa fd [x] sp) (hbind:∀(s:Shared) (u:Value),BindsTo s fd ⟨[u],[]⟩ [(x,u)])
  (hsp:∀H:Hp,Only H->SqL K H a (ns.map V.int)->sp [.ref a] H (fun v _=>v= .bl true) fun _ _ _=>False)
  (hCX:∀H e s',CX [] H s₁ (fun _ _ _=>False) e s'->False):
  codeAny (model P w) callerA (.call (.ref fa) ⟨[.ref a],[]⟩) (fun r s'=>r= .ok (.ret (.bool true))/\OldK s₁.heap s'.heap/\s'.os=s₁.os/\AllBare s'.gens) s₁:=by
 have rv:=zdr hi
 have lenV:=hi.length
 have core:∀H:Hp,Only H->SqL K H a (ns.map V.int)->HOk P w H s₁.heap->(∀b,H b≠none->b=a)->(H a≠none->K.lookup a=none)->
   codeAny (model P w) callerA (.call (.ref fa) ⟨[.ref a],[]⟩) (fun r s'=>r= .ok (.ret (.bool true))/\OldK s₁.heap s'.heap/\s'.os=s₁.os/\AllBare s'.gens) s₁:=by
  intro H hO hS hok hA hK
  have base_of:∀{b:Addr} {o:Obj},s₁.heap.get? b=some o->H b=none->(hidT s₁.heap H).get? b=some o:=fun e n=>hidT_get e n
  have noA:∀{b:Addr} {o:Obj} {es:Array DictEntry} {ep:Nat},s₁.heap.get? b=some o->o.data= .dict es ep->H b=none:=fun{b o es ep} e d=>by
   cases q:H b with
   |none=>rfl
   |some u=>
    have e':b=a:=hA b (by rw[q];simp)
    subst e'
    rw[ha]at e;cases e
    have d':Data.seq vs.toArray _=Data.dict es ep:=d
    cases d'
  have nsK:∀{b:Addr} {m:Str->Option Value},s₁.heap.Ns b m->(hidT s₁.heap H).Ns b m:=fun{b m} ⟨o,es,ep,e,d,r⟩=>⟨o,es,ep,base_of e (noA e d),d,r⟩
  have hKb:K.In (hidT s₁.heap H):=fun b o e=>base_of (KX b o e) (by
   cases q:H b with
   |none=>rfl
   |some u=>
    have e':b=a:=hA b (by rw[q];simp)
    subst e'
    rw[hK (by rw[q];simp)]at e;cases e)
  have hM:Mod K mg (hidT s₁.heap H):=⟨hKb,nsK hns,⟨mb,nsK hb,hbb⟩,let⟨mc,h1,h2⟩:=hlim;⟨mc,nsK h1,h2⟩⟩
  have e0:Env0 P w K mg (hidT s₁.heap H) callerA [] s₁ H:=⟨rfl,hM,fun b o e=>of_hidT e,Nat.le_of_eq (zjM _ _),trivial,fun b hb=>absurd (show b∈([]:List Addr)from hb) (by simp),hok,.of_eq hg⟩
  refine codeAny_mono ((F _ hKb (nsK hns)).run callerA [] s₁ H ⟨[.ref a],[]⟩ [.ref a] [.ref a] _ _ hr e0 (hbind s₁ (.ref a)) (.cons rfl .nil) (hsp H hO hS)) fun r s' h=>?_
  cases r with
  |error e=>exact(hCX H e s' h).elim
  |ok fl=>
   cases fl with
   |next=>exact False.elim h
   |brk=>exact False.elim h
   |cont=>exact False.elim h
   |ret u=>
    obtain⟨v,H',os,bare,un,hok',r',q⟩:=h
    have q':v= .bl true:=q
    subst q'
    obtain rfl:u=Value.bool true:=r'
    refine⟨rfl,OldK.of_keep fun b o e=>?_,os,bare⟩
    cases q:H b with
    |none=>exact un.keep b o e q (by intro z;exact absurd (show b∈([]:List Addr)from z) (by simp)) (by simp)
    |some u=>
     rcases hO b with z|⟨ob,xs,z⟩
     ·rw[q]at z;cases z
     ·have z2:=un.frzs b ob _ z
      obtain⟨e1,_⟩:=hok b _ z
      obtain⟨e2,_⟩:=hok' b _ z2
      rw[e]at e1;cases e1
      exact e2
 cases hk:K.lookup a with
 |some o=>
  have e:=KX a o hk
  rw[ha]at e
  cases e
  refine core (fun _=>none) (fun _=> .inl rfl) (.inr ⟨_,vs.toArray,_,hk,rfl,rfl,rfl,by rw[List.size_toArray,lenV];exact hl,by simpa using rv⟩) (fun b u z=>by have z':(none:Option HO)=some u:=z;cases z') (fun b z=>absurd rfl z) fun z=>absurd rfl z
 |none=>
  refine core (fun b=>if b=a then some (.frz {cls:= .type "list",data:= .seq vs.toArray} (.lst (ns.map V.int)))else none) (fun b=>?_) (.inl (.inr ⟨{cls:= .type "list",data:= .seq vs.toArray},if_pos rfl⟩)) (fun b u z=>?_) (fun b z=>?_) fun _=>hk
  ·by_cases hb:b=a
   ·exact .inr ⟨_,_,if_pos hb⟩
   ·exact .inl (if_neg hb)
  ·by_cases hb:b=a
   ·have z':=(if_pos hb).symm.trans z
    cases z'
    subst hb
    exact⟨ha,by rw[List.length_map];exact hl,vs,_,rv,ha⟩
   ·have z':=(if_neg hb).symm.trans z
    cases z'
  ·by_cases hb:b=a
   ·exact hb
   ·exact absurd (if_neg hb) z
theorem walk_of {n k:Nat}{K:Params->W.Frag}{sp:World->Sp}
  (hn:l.most=some n) (hn2:n<=sizeLine) (hdf:d.params.defaults=[]) (hr:Room k callerA)
  (hY:∀(w:World) (h:Heap),YP w h->(K w.params).In h)
  (F : ∀ (w : World) (mg : Str -> Option Value) (fa : Addr) (h : Heap), (K w.params).In h -> h.Ns mainGlobals mg -> mg d.name = some (.ref fa) ->
   ∃fd:FuncData,(∀(s:Shared) (u:Value),BindsTo s fd ⟨[u],[]⟩ [(x,u)])/\
    ∀base:Heap,(K w.params).In base->base.Ns mainGlobals mg->FnOk l.prog w (K w.params) mg base (CX w) k fa fd [x] (sp w))
  (hsp:∀(w:World) (H:Hp) (a:Addr) (ns:List Int),ns.length<=n->Only H->SqL (K w.params) H a (ns.map V.int)->sp w [.ref a] H (fun v _=>v= .bl true) fun _ _ _=>False)
  (hCX:∀(w:World) (H:Hp) (s:Shared) (e:Value) (s':Shared),CX w [] H s (fun _ _ _=>False) e s'->False):
  W.WalkO q loose XP YP l.row.toRowW d [] (fun f vs=>PySem.call f vs):=by
 refine Att.attach_call hn hdf fun w s₀ s₁ mg mb fa o pm cd doc a vs ns G Y ho hd hcd hmg hobj hints hlen hg=>?_
 have KX:=hY w _ Y
 obtain⟨fd,hb,hF⟩:=F w mg fa _ KX G.T.g hmg
 exact law_call KX G.T.g G.T.b G.T.builtins G.T.nolimit hg hobj hints (Nat.le_trans hlen hn2) hr hF hb (fun H hO hS=>hsp w H a ns hlen hO hS) fun H e s'=>hCX w H s₁ e s'
noncomputable def zce (s:Stmt)(j:Nat):Stmt:=match s with
 | .ClassDef _ _ _ body _ _ _ _ _ _ _=>body.getD j (.Pass ⟨0,0,0,0⟩)
 |_=> .Pass ⟨0,0,0,0⟩
noncomputable def zaV (s:Stmt):Arguments:=match s with
 | .FunctionDef _ a _ _ _ _ _ _ _ _=>a
 |_=>{posonlyargs:=[],args:=[],vararg:=none,kwonlyargs:=[],kw_defaults:=[],kwarg:=none,defaults:=[]}
noncomputable def zav (s:Stmt):List Stmt:=match s with
 | .FunctionDef _ _ b _ _ _ _ _ _ _=>b
 |_=>[]
noncomputable def zam (s:Stmt):Scope:=match s with
 | .FunctionDef _ _ _ _ _ _ sc _ _ _=>sc
 |_=>{kind:= .function,names:=[],isGenerator:=false,isCoroutine:=false}
noncomputable abbrev CX0:CXT:=fun _ _ _ _ _ _=>False
noncomputable abbrev E0:XK:=fun _ _ _=>False
theorem zgl:zel CX0 X E0:=fun _ _ _ _ _ _ _ h=>h.elim
structure Fun (K:W.Frag) (x qual:Str) (st:Stmt) (f:Addr) (fd:FuncData):Prop where
 ex:∃(oc:Value) (od:Option Addr) (kV doc pm:Value) (an:Option Addr) (cdv ct:Value) (osl:Array (Option Value)),
  fd=W.fnOf x qual (zaV st) (zav st) (zam st) .none kV doc pm an cdv ct/\K.lookup f=some ⟨oc,od,.func fd,osl⟩/\W.codeIn K cdv qual=true
 kp:W.keepIn K (.ref f)=true
section
variable {P:Program} {w:World} {K:W.Frag} {mg:Str->Option Value} {base:Heap}
theorem Fun.ok {st:Stmt}{N ps:List Str}{k:Nat}(F:Fun K x qual st f fd)(S:FnScope N ps (zam st))(len:∀vs H Q E,sp vs H Q E->vs.length=ps.length)
  (hbody : ∀ (cdv : Value) (A : Around) (outer : List Env) (s : Shared) (H : Hp) (vs : List V) (Q : VK) (E : XK), Room k (A.deeper (envOfC qual (zam st) s.heap.objs.size f cdv)) -> sp vs H Q E ->
   ∃t,PSs (cxOf CX0 P w K mg base N qual (zam st) f cdv A outer s H E).nox (zav st) t/\t {nx:=fun _ H'=>Q .non H',rt:=Q} (start N vs) H):FnOk P w K mg base CX0 (k+1) f fd ps sp:=by
 obtain⟨oc,od,kV,doc,pm,an,cdv,ct,osl,rfl,lk,hcd⟩:=F.ex
 refine fn_of lk hcd S len fun A outer s H vs Q E hr hsp=>?_
 obtain⟨t,h,q⟩:=hbody cdv A outer s H vs Q E hr hsp
 exact⟨t,h.nox,q⟩
theorem Fun.binds {st:Stmt}(F:Fun K x qual st f fd)
  (h:∀(kV doc pm:Value) (an:Option Addr) (cdv ct:Value) (us:List Value),us.length=ps.length->bindArgs (W.fnOf x qual (zaV st) (zav st) (zam st) .none kV doc pm an cdv ct) ⟨us,[]⟩=pure (ps.zip us)):Binds K fd ps []:=by
 obtain⟨oc,od,kV,doc,pm,an,cdv,ct,osl,rfl,lk,hcd⟩:=F.ex
 exact .all (h kV doc pm an cdv ct)
theorem zjI {st:Stmt}{od an:Option Addr}{kV doc pm cdv ct:Value}(l:K.lookup f=some ⟨oc,od,.func (W.fnOf x qual (zaV st) (zav st) (zam st) .none kV doc pm an cdv ct),osl⟩)
  (c:W.codeIn K cdv qual=true) (k:W.keepIn K (.ref f)=true):Fun K x qual st f (W.fnOf x qual (zaV st) (zav st) (zam st) .none kV doc pm an cdv ct):=⟨⟨oc,od,kV,doc,pm,an,cdv,ct,osl,rfl,l,c⟩,k⟩
end
section
variable {X:Cx}
theorem pv (i:Nat)(hN:autoParam (X.N[i]? =some x) zu3._auto_1)(hv:autoParam (Vis X.env.scope x) zu6._auto_1)(hd:autoParam ((x==("__debug__":Str))=false) zu1._auto_1)
  (hcd:autoParam ((x==("__classdict__":Str))=false) zu1._auto_1):PE X (.Name x pos) (tVar i):=zaH hN hv hd hcd
end
noncomputable def Same (H H':Hp):Prop:=∀b o,H b=some o->H' b=some o
theorem Same.seq {xs:List V}(e:Same H H')(h:SqL K H a xs):SqL K H' a xs:=by
 rcases h with(h|⟨o,h⟩)|h
 ·exact .inl (.inl (e _ _ h))
 ·exact .inl (.inr ⟨o,e _ _ h⟩)
 ·exact .inr h
section
variable {κ:Type} [DecidableEq κ]
noncomputable def valV (kvs:List (κ×V))(k:κ):Option V:=(kvs.find? fun kv=>decide (kv.1=k)).map (·.2)
noncomputable def putK (kvs:List (κ×V))(k:κ)(v:V):List (κ×V):=
 if(kvs.any fun kv=>decide (kv.1=k))=true then kvs.map (fun kv=>if kv.1=k then(kv.1,v)else kv)else kvs++[(k,v)]
theorem zef {p:κ×V}{r:List (κ×V)}{k:κ}(e:p.1=k):valV (p::r) k=some p.2:=by simp[valV,List.find?_cons,e]
theorem zdq {p:κ×V}{r:List (κ×V)}{k:κ}(e:¬p.1=k):valV (p::r) k=valV r k:=by simp[valV,List.find?_cons,e]
theorem zhI (k:κ):∀kvs:List (κ×V),(kvs.any fun kv=>decide (kv.1=k))=(valV kvs k).isSome
 |[]=>rfl
 |p::r=>by
  rw[List.any_cons]
  by_cases e:p.1=k
  ·simp only[zef e,decide_eq_true e,Bool.true_or,Option.isSome_some]
  ·rw[zdq e,decide_eq_false e,Bool.false_or];exact zhI k r
theorem zdh (kvs:List (κ×V))(k:κ)(v:V):(putK kvs k v).length<=kvs.length+1:=by
 unfold putK
 split
 ·rw[List.length_map];lia
 ·rw[List.length_append,List.length_cons,List.length_nil];lia
theorem RelO.isSome_eq {u:Option Value}(r:RelO o u):o.isSome=u.isSome:=by
 cases o with
 |none=>cases u with
  |none=>rfl
  |some _=>exact(show False from r).elim
 |some _=>cases u with
  |none=>exact(show False from r).elim
  |some _=>rfl
theorem KV.val {kvs:List (κ×V)}{vs:List (κ×Value)}(r:KV kvs vs)(k:κ):RelO (valV kvs k) (valueAt vs k):=by
 unfold KV at r
 induction r with
 |nil=>exact True.intro
 | @cons p q ps qs h t ih=>
  obtain⟨h1,h2⟩:=h
  by_cases e:p.1=k
  ·have e':q.1=k:=h1.symm.trans e
   have b:valueAt (q::qs) k=some q.2:=by simp[valueAt,List.find?_cons,e']
   rw[zef e,b];exact h2
  ·have e':¬q.1=k:=fun z=>e (h1.trans z)
   have b:valueAt (q::qs) k=valueAt qs k:=by simp[valueAt,List.find?_cons,e']
   rw[zdq e,b];exact ih
theorem KV.any {kvs:List (κ×V)}{vs:List (κ×Value)}(r:KV kvs vs)(k:κ):(kvs.any fun kv=>decide (kv.1=k))=vs.any fun kv=>decide (kv.1=k):=by
 unfold KV at r
 induction r with
 |nil=>rfl
 |cons h t ih=>rw[List.any_cons,List.any_cons,ih,h.1]
theorem KV.repl {kvs:List (κ×V)}{vs:List (κ×Value)}(r:KV kvs vs)(k:κ)(ry:RelV y u):
  KV (kvs.map fun kv=>if kv.1=k then(kv.1,y)else kv) (vs.map fun kv=>if kv.1=k then(kv.1,u)else kv):=by
 unfold KV at r ⊢
 induction r with
 |nil=>exact .nil
 | @cons p q ps qs h t ih=>
  rw[List.map_cons,List.map_cons]
  refine .cons ?_ ih
  obtain⟨h1,h2⟩:=h
  by_cases e:p.1=k
  ·rw[if_pos e,if_pos (h1.symm.trans e)];exact⟨h1,ry⟩
  ·rw[if_neg e,if_neg (fun z=>e (h1.trans z))];exact⟨h1,h2⟩
theorem KV.put {kvs:List (κ×V)}{vs:List (κ×Value)}(r:KV kvs vs)(k:κ)(ry:RelV y u):KV (putK kvs k y) (stored vs k u):=by
 unfold putK stored
 rw[r.any k]
 by_cases e:(vs.any fun kv=>decide (kv.1=k))=true
 ·rw[if_pos e,if_pos e];exact r.repl k ry
 ·rw[if_neg e,if_neg e];exact Paired.snoc r ⟨rfl,ry⟩
theorem KV.length {kvs:List (κ×V)}{vs:List (κ×Value)}(r:KV kvs vs):kvs.length=vs.length:=Paired.length r
end
theorem zik {P:Program}{k:Key}(r:RelV (kV k) u):(zaU P w).is k u=true:=by
 cases k with
 |inl i=>obtain⟨t,e⟩:=(show ∃t,u=Value.int i t from r);subst e;exact zg5 P w i t
 |inr x=>obtain⟨t,e⟩:=(show ∃t,u=Value.str x t from r);subst e;exact zgJ P w x t
theorem zfY {P:Program}:∀{ks:List Key} {us:List Value},Vals (ks.map kV) us->ItemsAre (zaU P w) ks us
 |[],_,r=>by rw[List.map_nil]at r;cases r;exact .nil
 |k::ks,_,r=>by
  rw[List.map_cons]at r
  cases r with
  |cons h t=>exact .cons (zik h) (zfY t)
noncomputable abbrev KT (H:Hp):List (List Key×V)->List (List Key×Addr×Value)->Prop:=Paired fun p q=>p.1=q.1/\H q.2.1=some (.tup (p.1.map kV))/\RelV p.2 q.2.2
theorem KT.val (r:KT H kvs xs)(k:List Key):RelO (valV kvs k) ((atKey xs k).map (·.2)):=by
 induction r with
 |nil=>exact True.intro
 | @cons p q ps qs h t ih=>
  obtain⟨h1,_,h2⟩:=h
  by_cases e:p.1=k
  ·have e':q.1=k:=h1.symm.trans e
   have b:atKey (q::qs) k=some q.2:=by simp[atKey,List.find?_cons,e']
   rw[zef e,b];exact h2
  ·have e':¬q.1=k:=fun z=>e (h1.trans z)
   have b:atKey (q::qs) k=atKey qs k:=by simp[atKey,List.find?_cons,e']
   rw[zdq e,b];exact ih
theorem KT.repl (r:KT H kvs xs)(k:List Key)(ry:RelV y u):
  KT H (kvs.map fun kv=>if kv.1=k then(kv.1,y)else kv) (xs.map (putAt k u)):=by
 induction r with
 |nil=>exact .nil
 | @cons p q ps qs h t ih=>
  rw[List.map_cons,List.map_cons]
  refine .cons ?_ ih
  obtain⟨h1,h2,h3⟩:=h
  unfold putAt
  by_cases e:p.1=k
  ·rw[if_pos e,if_pos (h1.symm.trans e)];exact⟨h1,h2,ry⟩
  ·rw[if_neg e,if_neg (fun z=>e (h1.trans z))];exact⟨h1,h2,h3⟩
theorem KT.put (r:KT H kvs xs)(k:List Key)(hb:H b=some (.tup (k.map kV)))(ry:RelV y u):
  KT H (putK kvs k y) (storedH xs k b u):=by
 have e:(kvs.any fun kv=>decide (kv.1=k))=(atKey xs k).isSome:=by
  rw[zhI,(r.val k).isSome_eq,Option.isSome_map]
 unfold putK storedH
 rw[e]
 by_cases q:(atKey xs k).isSome=true
 ·rw[if_pos q,if_pos q];exact r.repl k ry
 ·rw[if_neg q,if_neg q];exact Paired.snoc r ⟨rfl,hb,ry⟩
theorem KT.keeps (r:KT H kvs xs)(ht:∀b ys,H b=some (.tup ys)->H' b=some (.tup ys)):KT H' kvs xs:=
 Paired.mapP r fun _ _ z=>⟨z.1,ht _ _ z.2.1,z.2.2⟩
section
variable {P:Program} {w:World} {H:Hp} {h:Heap} {a:Addr}
theorem rd_of {u:HO}(ok:HOk P w H h)(e:Rd H a u):ObjOk P w H h a u:=e.ok ok
theorem zjb {kvs:List (Key×V)}(ok:HOk P w H h)(e:Rd H a (.dK kvs)):kvs.length<=sizeLine/\(a==sysModules)=false/\∃vs,KV kvs vs/\h.DictOf (zaU P w) a vs:=
 show ObjOk P w H h a (.dK kvs)from rd_of ok e
theorem dk_of {kvs:List (Key×V)}(ok:HOk P w H h)(e:H a=some (.dK kvs)):kvs.length<=sizeLine/\(a==sysModules)=false/\∃vs,KV kvs vs/\h.DictOf (zaU P w) a vs:=zjb ok (.inl e)
theorem zgs {ks:List Key}(ok:HOk P w H h)(e:H a=some (.tup (ks.map kV))):(tupleKind (zaU P w)).is h ks a:=by
 obtain⟨_,its,r,o,h1,h2,n,h3⟩:=(show ObjOk P w H h a (.tup (ks.map kV))from ok a _ e)
 exact⟨o,its.toArray,n,h1,h2,h3,by simpa using zfY r⟩
theorem zjZ (ok:HOk P w H h)(e:Rd H a (.dT kvs)):kvs.length<=sizeLine/\(a==sysModules)=false/\
  ∃xs,KT H kvs xs/\h.DictOfH (tupleKind (zaU P w)) a xs:=by
 obtain⟨z,y,xs,r,o,es,ep,h1,h2,h3,h4,h5⟩:=(show ObjOk P w H h a (.dT kvs)from rd_of ok e)
 refine⟨z,y,xs,r,o,es,ep,h1,h2,h3,h4,fun x hx=>?_,h5⟩
 have all:∀{l:List (List Key×V)} {m:List (List Key×Addr×Value)},KT H l m->∀x∈m,(tupleKind (zaU P w)).is h x.1 x.2.1:=by
  intro l m q
  induction q with
  |nil=>intro x hx;exact nomatch hx
  | @cons p q ps qs hq t ih=>
   intro x hx
   rcases List.mem_cons.mp hx with e|hx
   ·subst e
    exact zgs ok (by rw[<-hq.1];exact hq.2.1)
   ·exact ih x hx
 exact all r x hx
theorem dt_of (ok:HOk P w H h)(e:H a=some (.dT kvs)):kvs.length<=sizeLine/\(a==sysModules)=false/\
  ∃xs,KT H kvs xs/\h.DictOfH (tupleKind (zaU P w)) a xs:=zjZ ok (.inl e)
end
noncomputable def DGet (H:Hp)(a:Addr)(y:V)(r:Option V):Prop:=
 (∃kvs k,Rd H a (.dK kvs)/\y=kV k/\r=valV kvs k)\/∃kvs k b,Rd H a (.dT kvs)/\y= .ref b/\H b=some (.tup (k.map kV))/\r=valV kvs k
noncomputable def DPut (H:Hp)(a:Addr)(y v:V)(H':Hp):Prop:=
 (∃kvs k,H a=some (.dK kvs)/\y=kV k/\kvs.length<sizeLine/\H'=upd H a (.dK (putK kvs k v)))\/
 ∃kvs k b,H a=some (.dT kvs)/\y= .ref b/\H b=some (.tup (k.map kV))/\kvs.length<sizeLine/\H'=upd H a (.dT (putK kvs k v))
theorem DPut.k {kvs:List (Key×V)}{k:Key}{v:V}(e:H a=some (.dK kvs))(hl:kvs.length<sizeLine):DPut H a (kV k) v (upd H a (.dK (putK kvs k v))):= .inl ⟨kvs,k,e,rfl,hl,rfl⟩
section
variable {X:Cx} {pins:List (Addr×Obj)} {σ:St} {H:Hp} {s:Shared} {a:Addr} {y v:V} {u r:Value} {o:Option V} {A:Around} {E:Value->Shared->Prop}
theorem Inv.big (I:Inv X pins σ H s):sysModules<s.heap.objs.size:=by
 have h:mainGlobals<s.heap.objs.size:=(I.mod.glob.keeps I.bk).lt
 exact Nat.lt_trans (by decide) h
theorem zje (hu:A.units+1<cLine)(I:Inv X pins σ H s)(g:DGet H a y (some v))(ry:RelV y u)(h:∀w' s',Inv X pins σ H s'->RelV v w'->Q w' s'):
  wpAny (model X.prog X.w) A (getItem (.ref a) u) Q E s:=by
 rcases g with⟨kvs,k,e,ey,l⟩|⟨kvs,k,b,e,ey,eb,l⟩
 ·subst ey
  obtain⟨z,hd,vs,rel,dd⟩:=zjb I.hok e
  obtain⟨w',hw,rw'⟩:=RelO.some_of (v:=v) (o:=valueAt vs k) (by rw[l];exact rel.val k)
  exact wpAny_getItem_of (zik ry) dd.mapOf hw (h w' _ (I.tok _) rw')
 ·subst ey
  cases(show u=Value.ref b from ry)
  obtain⟨z,hd,xs,rel,dd⟩:=zjZ I.hok e
  obtain⟨w',hw,rw'⟩:=RelO.some_of (v:=v) (o:=(atKey xs k).map (·.2)) (by rw[l];exact rel.val k)
  obtain⟨p,hp,hp2⟩:=Option.map_eq_some_iff.mp hw
  refine wpAny_getItem_heap (tupleKind_room_in1 hu) (zgs I.hok eb) dd hp ?_
  rw[hp2]
  exact h w' _ (I.tok _) rw'
theorem d_in (hu:A.units+1<cLine)(I:Inv X pins σ H s)(g:DGet H a y o)(ry:RelV y u)(h:∀s',Inv X pins σ H s'->Q (.bool o.isSome) s'):
  wpAny (model X.prog X.w) A (compareOp .In u (.ref a)) Q E s:=by
 rcases g with⟨kvs,k,e,ey,l⟩|⟨kvs,k,b,e,ey,eb,l⟩
 ·subst ey
  obtain⟨z,hd,vs,rel,dd⟩:=zjb I.hok e
  refine wpAny_in_of (zik ry) hd dd.mapOf ?_
  rw[<-(rel.val k).isSome_eq,<-l]
  exact h _ (I.tok _)
 ·subst ey
  cases(show u=Value.ref b from ry)
  obtain⟨z,hd,xs,rel,dd⟩:=zjZ I.hok e
  refine wpAny_in_heap (tupleKind_room_in1 hu) (zgs I.hok eb) hd dd ?_
  have q:=(rel.val k).isSome_eq
  rw[Option.isSome_map]at q
  rw[<-q,<-l]
  exact h _ (I.tok _)
theorem d_notIn (hu:A.units+1<cLine)(I:Inv X pins σ H s)(g:DGet H a y o)(ry:RelV y u)(h:∀s',Inv X pins σ H s'->Q (.bool (!o.isSome)) s'):
  wpAny (model X.prog X.w) A (compareOp .NotIn u (.ref a)) Q E s:=by
 rcases g with⟨kvs,k,e,ey,l⟩|⟨kvs,k,b,e,ey,eb,l⟩
 ·subst ey
  obtain⟨z,hd,vs,rel,dd⟩:=zjb I.hok e
  refine wpAny_notIn_of (zik ry) hd dd.mapOf ?_
  rw[<-(rel.val k).isSome_eq,<-l]
  exact h _ (I.tok _)
 ·subst ey
  cases(show u=Value.ref b from ry)
  obtain⟨z,hd,xs,rel,dd⟩:=zjZ I.hok e
  refine wpAny_notIn_heap (tupleKind_room_in1 hu) (zgs I.hok eb) hd dd ?_
  have q:=(rel.val k).isSome_eq
  rw[Option.isSome_map]at q
  rw[<-q,<-l]
  exact h _ (I.tok _)
theorem zgK {t':Nat}{ob:HO}(I:Inv X pins σ H s)(mu:Mut (H a))(hs:Heap.SameBut a s.heap h')(he:∃q,h'.get? a=some q)(new:ObjOk X.prog X.w (upd H a ob) h' a ob):
  Inv X pins σ (upd H a ob) {s with heap:=h',toks:=t'}:=
 I.write (x:=a) (e:=a) mu (.inl rfl) (fun b q hb z=>(hs.2 b hb).trans z) he new
theorem dk_new {P:Program}{kvs:List (Key×V)}(z:kvs.length<=sizeLine)(hd:(a==sysModules)=false)(rel:KV kvs vs)(dd:h'.DictOf (zaU P w) a vs):
  ObjOk P w H' h' a (.dK kvs):=⟨z,hd,vs,rel,dd⟩
theorem zkB {Q:Unit->Shared->Prop}(hu:A.units+1<cLine)(I:Inv X pins σ H s)(g:DPut H a y v H')(ry:RelV y u)(rv:RelV v r)(h:∀s',Inv X pins σ H' s'->Q () s'):
  wpAny (model X.prog X.w) A (setItem (.ref a) u r) Q E s:=by
 rcases g with⟨kvs,k,e,ey,l,eH⟩|⟨kvs,k,b,e,ey,eb,l,eH⟩
 ·subst ey eH
  obtain⟨z,hd,vs,rel,dd⟩:=dk_of I.hok e
  have hz:vs.length<=sizeLine:=by rw[<-rel.length];exact z
  have hl:(putK kvs k v).length<=sizeLine:=by have:=zdh kvs k v;lia
  refine wpAny_setItem_pairs (hsz:=hz) (zik ry) dd fun h' dd' hs=>h _ ?_
  have he:∃q,h'.get? a=some q:=let⟨q,_,_,hq,_⟩:=dd';⟨q,hq⟩
  exact zgK I (by rw[e];exact True.intro) hs he (dk_new hl hd (rel.put k rv) dd')
 ·subst ey eH
  cases(show u=Value.ref b from ry)
  obtain⟨z,hd,xs,rel,dd⟩:=dt_of I.hok e
  have hz:xs.length<=sizeLine:=by rw[<-Paired.length rel];exact z
  have hl:(putK kvs k v).length<=sizeLine:=by have:=zdh kvs k v;lia
  refine wpAny_setItem_heap (hsz:=hz) (tupleKind_room_in1 hu) (zgs I.hok eb) dd fun h' dd' hs=>h _ ?_
  obtain⟨q,es,ep,hq,h2,h3,h4,_,h5⟩:=dd'
  refine zgK I (by rw[e];exact True.intro) hs ⟨q,hq⟩ ⟨hl,hd,_,(rel.put k eb rv).keeps fun c ys ec=>?_,q,es,ep,hq,h2,h3,h4,h5⟩
  rw[zad (ne_of ec e (fun z=>nomatch z))]
  exact ec
end
noncomputable def NoSl (i:Expr):Prop:=∀ov iv,subscripted i false ov iv=operate [ov,iv] (getItem ov iv)
theorem subD_of {env:Env}{value slice:Expr}{T id:String}
  (hl:typeLookup (.type T) "__getitem__"=pure (some (.builtin id))) (hs:NoSl slice)
  (h:wpAny (model prog w) A (eval value env) (fun o s₁=>wpAny (model prog w) A (eval slice env) (fun i s₂=>s₂.TypeIs o T/\wpAny (model prog w) A (getItem o i) Q E s₂) E s₁) E s):
  wpAny (model prog w) A (eval (.Subscript value slice pos) env) Q E s:=by
 refine Subscript_ (wpAny_mono h (fun o s₁ h₁=>wpAny_mono h₁ (fun i s₂ h₂=>?_) fun _ _ x=>x) fun _ _ x=>x)
 obtain⟨hT,h₂⟩:=h₂
 unfold subscriptTail
 refine wpAny_bind ?_
 rw[getitemInPython_of_ne hT.not_modules]
 refine wpAny_bind (wpAny_specialOf hT hl ?_)
 have fin:wpAny (model prog w) A (subscripted slice false o i) (fun r s₃=>wpAny (model prog w) A (letTemporaryGo value o r>>=fun _=>pure r) Q E s₃) E s₂:=by
  rw[hs o i]
  exact wpAny_operating (wpAny_mono h₂ (fun r s₃ h₃=>wpAny_bind (wpAny_letTemporaryGo (wpAny_pure h₃))) fun _ _ x=>x)
 first
  |exact wpAny_pure (wpAny_bind fin)
  |exact wpAny_bind (wpAny_pure (wpAny_bind fin))
  |exact wpAny_bind fin
theorem zgW {σ:St}(I:Inv X pins σ H s)(g:DGet H a y o):s.TypeIs (.ref a) "dict":=by
 rcases g with⟨kvs,k,e,_,_⟩|⟨kvs,k,b,e,_,_,_⟩
 ·obtain⟨_,_,vs,_,dd⟩:=zjb I.hok e
  exact dd.typeIs
 ·obtain⟨_,_,xs,_,dd⟩:=zjZ I.hok e
  exact dd.typeIs
noncomputable def tDGet (td ty:TE):TE:=fun σ H Q=>td σ H fun x H1=>ty σ H1 fun y H2=>∃a v,x= .ref a/\DGet H2 a y (some v)/\Q v H2
noncomputable def tDIn (ty td:TE):TE:=fun σ H Q=>ty σ H fun y H1=>td σ H1 fun x H2=>∃a o,x= .ref a/\DGet H2 a y o/\Q (.bl o.isSome) H2
noncomputable def tDNotIn (ty td:TE):TE:=fun σ H Q=>ty σ H fun y H1=>td σ H1 fun x H2=>∃a o,x= .ref a/\DGet H2 a y o/\Q (.bl (!o.isSome)) H2
noncomputable def sDPut (td ty tv:TE):TS:=fun D σ H=>tv σ H fun v H1=>td σ H1 fun x H2=>ty σ H2 fun y H3=>∃a H4,x= .ref a/\DPut H3 a y v H4/\D.nx σ H4
section
variable {X:Cx} {o i e value:Expr} {pos pos' tpos:Pos} {td ty tv:TE}
theorem pe_dget (hu:X.A.units+1<cLine)(ho:PE X o td)(hi:PE X i ty)(hs:NoSl i):PE X (.Subscript o i pos) (tDGet td ty):=by
 intro pins s σ H Q I h
 refine subD_of PySem.F.slot_dict_getitem.lookup hs (thn (ho pins s σ H _ I h) fun u s1 ⟨x,H1,I1,rx,q1⟩=>thn (hi pins s1 σ H1 _ I1 q1) fun iv s2 ⟨y,H2,I2,ry,a,v,ex,g,q2⟩=>?_)
 subst ex
 obtain rfl:u=Value.ref a:=rx
 exact⟨zgW I2 g,zje hu I2 g ry fun w' s3 I3 rw'=>⟨v,H2,I3,rw',q2⟩⟩
theorem pc_din (hu:X.A.units+1<cLine)(hi:PE X i ty)(ho:PE X o td):PC X .In i o (tDIn ty td):=by
 intro pins s σ H Q I h
 refine thn (hi pins s σ H _ I h) fun iv s1 ⟨y,H1,I1,ry,q1⟩=>thn (ho pins s1 σ H1 _ I1 q1) fun u s2 ⟨x,H2,I2,rx,a,ov,ex,g,q2⟩=>?_
 subst ex
 obtain rfl:u=Value.ref a:=rx
 exact d_in hu I2 g ry fun s3 I3=>⟨.bl ov.isSome,H2,I3,rfl,q2⟩
theorem zi2 (hu:X.A.units+1<cLine)(hi:PE X i ty)(ho:PE X o td):PC X .NotIn i o (tDNotIn ty td):=by
 intro pins s σ H Q I h
 refine thn (hi pins s σ H _ I h) fun iv s1 ⟨y,H1,I1,ry,q1⟩=>thn (ho pins s1 σ H1 _ I1 q1) fun u s2 ⟨x,H2,I2,rx,a,ov,ex,g,q2⟩=>?_
 subst ex
 obtain rfl:u=Value.ref a:=rx
 exact d_notIn hu I2 g ry fun s3 I3=>⟨.bl (!ov.isSome),H2,I3,rfl,q2⟩
theorem ps_dput (hu:X.A.units+1<cLine)(ho:PE X o td)(hi:PE X i ty)(hv:PE X value tv)(hs:swapsWith value (some (.Subscript o i pos')) pos.line X.env=pure false):
  PS X (.Assign [.Subscript o i pos'] value pos) (sDPut td ty tv):=by
 intro pins s σ H D I h
 refine wpAny_Assign_Subscript (thn (hv pins s σ H _ I h) fun r s1 ⟨v,H1,I1,rv,q1⟩=>thn (ho pins s1 σ H1 _ I1 q1) fun u s2 ⟨x,H2,I2,rx,q2⟩=>thn (hi pins s2 σ H2 _ I2 q2) fun iv s3 ⟨y,H3,I3,ry,a,H4,ex,g,q3⟩=>?_) hs
 subst ex
 obtain rfl:u=Value.ref a:=rx
 exact zkB hu I3 g ry rv fun s4 I4=>⟨σ,H4,I4,q3⟩
end
theorem dk_empty {P:Program}(h:Heap)(hb:sysModules<h.objs.size):ObjOk P w H (h.push {cls:= .type "dict",data:= .dict #[]}) h.objs.size (.dK []):=
 ⟨Nat.zero_le _,beq_eq_false_iff_ne.mpr (Ne.symm (Nat.ne_of_lt hb)),[],.nil,Heap.DictOf.new h⟩
noncomputable def zky:List (TE×TE)->St->Hp->(List (V×V)->Hp->Prop)->Prop
 |[],_,H,Q=>Q [] H
 |(tk,tv)::r,σ,H,Q=>tk σ H fun x H1=>tv σ H1 fun y H2=>zky r σ H2 fun ps H3=>Q ((x,y)::ps) H3
noncomputable abbrev VV:List (V×V)->List (Value×Value)->Prop:=Paired fun p q=>RelV p.1 q.1/\RelV p.2 q.2
noncomputable def PPs (X:Cx)(pos:Pos)(keys:List (Option Expr))(values:List Expr)(trs:List (TE×TE)):Prop:=
 ∀(pins:List (Addr×Obj)) (s:Shared) (σ:St) (H:Hp) (Q:List (V×V)->Hp->Prop),Inv X pins σ H s->zky trs σ H Q->
  wpAny (model X.prog X.w) X.A (evalPairs (pairTrees keys values X.env pos)) (fun vs s'=>∃ps H',Inv X pins σ H' s'/\VV ps vs/\Q ps H') X.xe s
theorem pps_nil:PPs X pos [] [] []:=fun pins s σ H Q I h=>pairTrees_nil_walk ⟨[],H,I,.nil,h⟩
theorem pps_cons {k v:Expr}{vs:List Expr}{tk tv:TE}(hk:PE X k tk)(hv:PE X v tv)(hr:PPs X pos ks vs trs):
  PPs X pos (some k::ks) (v::vs) ((tk,tv)::trs):=fun pins s σ H Q I h=>
 pairTrees_cons_walk (thn (hk pins s σ H _ I h) fun u s1 ⟨x,H1,I1,rx,q1⟩=>thn (hv pins s1 σ H1 _ I1 q1) fun w2 s2 ⟨y,H2,I2,ry,q2⟩=>
  thn (hr pins s2 σ H2 _ I2 q2) fun ws s3 ⟨ps,H3,I3,rel,q3⟩=>⟨(x,y)::ps,H3,I3,.cons ⟨rx,ry⟩ rel,q3⟩)
noncomputable def zgd (kvs more:List (Key×V)):List (Key×V):=more.foldl (fun acc kv=>putK acc kv.1 kv.2) kvs
theorem KV.merge:∀{more:List (Key×V)} {rs:List (Key×Value)} {kvs:List (Key×V)} {vs:List (Key×Value)},KV more rs->KV kvs vs->KV (zgd kvs more) (merged vs rs):=by
 intro more rs kvs vs r
 unfold KV at r
 induction r generalizing kvs vs with
 |nil=>intro q;exact q
 | @cons p q ps qs h t ih=>
  intro r0
  have e:KV (putK kvs p.1 p.2) (stored vs q.1 q.2):=by
   have:=r0.put p.1 h.2
   rw[<-h.1];exact this
  exact ih e
theorem zdH:∀(more kvs:List (Key×V)),(zgd kvs more).length<=kvs.length+more.length
 |[],kvs=>by show kvs.length<=kvs.length+0;lia
 |p::r,kvs=>by
  have h1:=zdH r (putK kvs p.1 p.2)
  have h2:=zdh kvs p.1 p.2
  show(zgd (putK kvs p.1 p.2) r).length<=_
  rw[List.length_cons];lia
theorem zfe {P:Program}{w:World}:∀{kvs:List (Key×V)} {ws:List (Value×Value)},VV (kvs.map fun kv=>(kV kv.1,kv.2)) ws->∃rs,Carries (zaU P w) ws rs/\KV kvs rs
 |[],_,r=>by rw[List.map_nil]at r;cases r;exact⟨[],True.intro,.nil⟩
 |p::kvs,_,r=>by
  rw[List.map_cons]at r
  cases r with
  | @cons a b as bs h t=>
   obtain⟨rs,c,q⟩:=zfe (P:=P) (w:=w) t
   obtain⟨b1,b2⟩:=b
   exact⟨(p.1,b2)::rs,⟨zik h.1,rfl,c⟩,.cons ⟨rfl,h.2⟩ q⟩
noncomputable def tDisp (trs:List (TE×TE)):TE:=fun σ H Q=>∀p,H p=none->zky trs σ (upd H p (.dK [])) fun ps H2=>H2 p=some (.dK [])/\∃kvs:List (Key×V),ps=kvs.map (fun kv=>(kV kv.1,kv.2))/\kvs.length<=15/\Q (.ref p) (upd H2 p (.dK (zgd [] kvs)))
theorem pe_disp (h:PPs X pos keys values trs)(hall:keys.all (·.isSome)=true)(hl:keys.length=values.length)(h0:keys≠[])
  (h15:keys.length<=15):PE X (.Dict keys values pos) (tDisp trs):=by
 intro pins s σ H Q I q
 have hn:=I.hok.fresh (Nat.le_refl s.heap.objs.size)
 have I1:=I.laid (a:=s.heap.objs.size) (o:= .dK []) (h':=s.heap.push {cls:= .type "dict",data:= .dict #[]}) (t':=s.toks) (fun _ _ q=>Heap.get?_push_of_some _ q) (Nat.le_refl _) (dk_empty s.heap I.big)
 refine wpAny_Dict_walk (knd:=zaU X.prog X.w) hall hl h0 h15 (thn (h pins _ σ _ _ I1 (q _ hn)) fun ws s2 ⟨ps,H2,I2,rel,e,kvs,ep,lk,q2⟩=>?_)
 subst ep
 obtain⟨rs,c,rk⟩:=zfe (P:=X.prog) (w:=X.w) rel
 obtain⟨z,hd,vs0,r0,dd⟩:=dk_of I2.hok e
 cases r0
 refine⟨rs,c,dd,fun h' dd' hs=>⟨.ref s.heap.objs.size,_,?_,rfl,q2⟩⟩
 have hz:(zgd [] kvs).length<=sizeLine:=by
  have h1:=zdH kvs []
  rw[List.length_nil]at h1
  rw[sizeLine_eq];lia
 have he:∃q,h'.get? s.heap.objs.size=some q:=let⟨q,_,_,hq,_⟩:=dd';⟨q,hq⟩
 exact zgK I2 (by rw[e];exact True.intro) hs he (dk_new hz hd (rk.merge .nil) dd')
end L2
namespace M
open L2 PySem
variable {G G' H:Hp} {a p l:Addr} {o:Obj} {xs ys:List V} {ks:List (List Int)} {A A':List Addr} {K:W.Frag} {x v:V} {d:D} {ds es:List D} {i:Nat} {c:Ch} {t:T} {ov:Option (Option V)} {s:Sl} {ρ ρ':R} {e:Expr} {b:Bool} {f:D->D->Option D} {ma:ME} {op:Operator} {r:V->Hp->VK->Prop} {g:D->Option D}
inductive D where
 |non|bl (b:Bool)|int (i:Int)|str (x:Str)|lst (ds:List D)|tup (ds:List D)|scr (ns:List Int)|exc (c:Str)|dic (ks:List Int) (ds:List D)|dit (ks:List (List Int)) (ds:List D)
noncomputable def ExcIs (a C:Addr)(h:Heap):Prop:=∃o,h.get? a=some o/\o.cls= .ref C
noncomputable def kI (n:Int):Key:=Sum.inl n
noncomputable def kn (a:Addr)(o:Obj):HO:= .ext (fun h=>h.get? a=some o)
noncomputable def hI:Key->Int
 | .inl k=>hashInt k
 | .inr _=>0
noncomputable def DtN (o:Obj)(xs:List (List Key×Addr×Value)):Prop:=o.ExactDict/\(∃es ep,o.data= .dict es ep/\es.toList=xs.map fun x=>⟨reduceHash (Builtin.Tuple.tupleHashOf (x.1.map hI)),.ref x.2.1,x.2.2⟩)/\(xs.map (·.1)).Nodup
structure DtI (G:Hp) (a:Addr) (o:Obj) (xs:List (List Key×Addr×Value)) (ks:List (List Int)) (ys:List (List Key×V)):Prop where
 sys:(a==sysModules)=false
 dn:DtN o xs
 len:ys.length<=sizeLine
 key:ys.map (·.1)=ks.map (·.map kI)
 kt:Paired (fun(p:List Key×V) (q:List Key×Addr×Value)=>p.1=q.1/\G q.2.1=some (.tup (p.1.map kV))/\RelV p.2 q.2.2) ys xs
mutual
noncomputable def RepD (K:W.Frag)(G:Hp)(v:V):D->Prop
 | .non=>v= .non
 | .bl b=>v= .bl b
 | .int i=>v= .int i
 | .str x=>v= .str x
 | .lst ds=>∃a xs,v= .ref a/\G a=some (.lst xs)/\RepL K G xs ds
 | .tup ds=>∃a xs,v= .ref a/\G a=some (.tup xs)/\RepL K G xs ds
 | .scr ns=>∃a,v= .ref a/\SqL K G a (ns.map V.int)
 | .exc c=>∃a C,v= .ref a/\W.nsIn K mainGlobals c=some (some (.ref C))/\G a=some (.ext (ExcIs a C))
 | .dic ks ds=>∃a ys,v= .ref a/\Rd G a (.dK ys)/\ys.map (·.1)=ks.map kI/\RepL K G (ys.map (·.2)) ds
 | .dit ks ds=>∃a ys o xs,v= .ref a/\G a=some (kn a o)/\DtI G a o xs ks ys/\RepL K G (ys.map (·.2)) ds
noncomputable def RepL (K:W.Frag)(G:Hp)(xs:List V):List D->Prop
 |[]=>xs=[]
 |d::ds=>∃x ys,xs=x::ys/\RepD K G x d/\RepL K G ys ds
end
noncomputable def Fz (G H:Hp):Prop:=∀a o,G a=some o->H a=some o
theorem DtI.mono {xs:List (List Key×Addr×Value)}{ys:List (List Key×V)}(d:DtI G a o xs ks ys)(h:Fz G G'):DtI G' a o xs ks ys:={d with kt:=Paired.mapP d.kt fun _ _ z=>⟨z.1,h _ _ z.2.1,z.2.2⟩}
theorem Fz.refl (G:Hp):Fz G G:=fun _ _ h=>h
theorem Fz.trans {A B C:Hp}(h:Fz A B)(k:Fz B C):Fz A C:=fun a o e=>k a o (h a o e)
theorem Fz.free (h:Fz G H)(e:H p=none):G p=none:=by
 cases q:G p with
 |none=>rfl
 |some o=>rw[h p o q]at e;cases e
theorem Fz.new (e:G p=none)(o:HO):Fz G (upd G p o):=fun a u q=>by
 rw[zad (zan q e)];exact q
theorem Fz.upd2 (h:Fz G H)(p:Addr)(o:HO):Fz (upd G p o) (upd H p o):=fun a u q=>by
 by_cases e:a=p
 ·subst e;rw[zaf]at q ⊢;exact q
 ·rw[zad e]at q ⊢;exact h a u q
theorem Fz.right (h:Fz G H)(e:G p=none)(o:HO):Fz G (upd H p o):=fun a u q=>by
 rw[zad (zan q e)];exact h a u q
theorem Fz.sql {G H:Hp}(h:Fz G H)(q:SqL K G a xs):SqL K H a xs:=Same.seq (H:=G) (H':=H) h q
mutual
theorem RepD.mono (h:Fz G G'):∀{v:V} {d:D},RepD K G v d->RepD K G' v d
 |_,.non,e=>e
 |_,.bl _,e=>e
 |_,.int _,e=>e
 |_,.str _,e=>e
 |_,.lst _,⟨a,xs,e,q,r⟩=>⟨a,xs,e,h a _ q,RepL.mono h r⟩
 |_,.tup _,⟨a,xs,e,q,r⟩=>⟨a,xs,e,h a _ q,RepL.mono h r⟩
 |_,.scr _,⟨a,e,q⟩=>⟨a,e,h.sql q⟩
 |_,.exc _,⟨a,C,e,n,q⟩=>⟨a,C,e,n,h a _ q⟩
 |_,.dic _ _,⟨a,ys,e,q,f,r⟩=>⟨a,ys,e,q.imp (h a _) fun⟨o,z⟩=>⟨o,h a _ z⟩,f,RepL.mono h r⟩
 |_,.dit _ _,⟨a,ys,o,xs,e,q,f,r⟩=>⟨a,ys,o,xs,e,h a _ q,f.mono h,RepL.mono h r⟩
theorem RepL.mono (h:Fz G G'):∀{xs:List V} {ds:List D},RepL K G xs ds->RepL K G' xs ds
 |_,[],e=>e
 |_,_::_,⟨x,ys,e,q,r⟩=>⟨x,ys,e,RepD.mono h q,RepL.mono h r⟩
end
section
variable {K:W.Frag} {G:Hp}
theorem RepL.nil:RepL K G [] []:=rfl
theorem RepL.cons {x:V}{d:D}(h:RepD K G x d)(t:RepL K G xs ds):RepL K G (x::xs) (d::ds):=⟨x,xs,rfl,h,t⟩
theorem RepL.length:∀{xs:List V} {ds:List D},RepL K G xs ds->xs.length=ds.length
 |_,[],e=>by cases e;rfl
 |_,_::_,⟨x,ys,e,_,r⟩=>by subst e;rw[List.length_cons,List.length_cons,RepL.length r]
theorem RepL.get:∀{xs:List V} {ds:List D} {i:Nat} {d:D},RepL K G xs ds->ds[i]? =some d->∃x,xs[i]? =some x/\RepD K G x d
 |_,[],_,_,_,h=>by simp at h
 |_,_::_,0,_,⟨x,ys,e,q,r⟩,h=>by subst e;simp at h;subst h;exact⟨x,rfl,q⟩
 |_,_::_,i+1,_,⟨x,ys,e,q,r⟩,h=>by
  subst e
  obtain⟨y,h1,h2⟩:=RepL.get (i:=i) r (by simpa using h)
  exact⟨y,by simpa using h1,h2⟩
theorem RepL.append:∀{xs ys:List V} {ds es:List D},RepL K G xs ds->RepL K G ys es->RepL K G (xs++ys) (ds++es)
 |_,_,[],_,e,r=>by cases e;exact r
 |_,_,_::_,_,⟨x,zs,e,q,r⟩,s=>by subst e;exact⟨x,zs++_,rfl,q,RepL.append r s⟩
theorem RepL.snoc (h:RepL K G xs ds)(q:RepD K G x d):RepL K G (xs++[x]) (ds++[d]):=h.append (.cons q .nil)
theorem RepL.take:∀{xs:List V} {ds:List D} (n:Nat),RepL K G xs ds->RepL K G (xs.take n) (ds.take n)
 |_,_,0,_=>by simp;exact .nil
 |_,[],n+1,e=>by cases e;exact .nil
 |_,_::_,n+1,⟨x,zs,e,q,r⟩=>by subst e;exact⟨x,zs.take n,rfl,q,RepL.take n r⟩
theorem RepL.drop:∀{xs:List V} {ds:List D} (n:Nat),RepL K G xs ds->RepL K G (xs.drop n) (ds.drop n)
 |_,_,0,r=>by simpa using r
 |_,[],n+1,e=>by cases e;exact .nil
 |_,_::_,n+1,⟨x,zs,e,q,r⟩=>by subst e;exact RepL.drop n r
theorem RepL.set:∀{xs:List V} {ds:List D} (i:Nat) {x:V} {d:D},RepL K G xs ds->RepD K G x d->RepL K G (xs.set i x) (ds.set i d)
 |_,[],_,_,_,e,_=>by cases e;exact .nil
 |_,_::_,0,_,_,⟨x,zs,e,q,r⟩,h=>by subst e;exact⟨_,zs,rfl,h,r⟩
 |_,_::_,i+1,_,_,⟨x,zs,e,q,r⟩,h=>by subst e;exact⟨x,_,rfl,q,RepL.set i r h⟩
theorem RepL.rep (h:RepL K G xs ds):∀k:Nat,RepL K G (List.replicate k xs).flatten (List.replicate k ds).flatten
 |0=> .nil
 |k+1=>by rw[List.replicate_succ,List.replicate_succ,List.flatten_cons,List.flatten_cons];exact h.append (RepL.rep h k)
theorem RepL.ints:∀(ns:List Int),RepL K G (ns.map V.int) (ns.map D.int)
 |[]=> .nil
 |n::ns=>⟨.int n,ns.map V.int,rfl,rfl,RepL.ints ns⟩
theorem RepL.ints_eq:∀{ns:List Int} {xs:List V},RepL K G xs (ns.map D.int)->xs=ns.map V.int
 |[],_,e=>e
 |n::ns,_,⟨x,ys,e,q,r⟩=>by subst e;cases(show x=V.int n from q);rw[RepL.ints_eq r];rfl
theorem RepL.at {i:Int}(h:RepL K G xs ds)(e:atI ds i=some d):∃x,atI xs i=some x/\RepD K G x d:=by
 unfold atI at e ⊢
 rw[h.length]
 cases q:ixN ds.length i with
 |none=>rw[q]at e;cases e
 |some j=>rw[q]at e;exact h.get e
end
inductive Ch where
 |d (x:D)|l (xs:List D)|t (xss:List (List D))
inductive T where
 |lst (cs:List Ch)|tup (cs:List Ch)|ins (c:Str) (fs:List (Str×Ch))|dic (ks:List Int) (ds:List D)|dit (ks:List (List Int)) (ds:List D)
inductive Sl where
 |emp|val (d:D)|own (ds:List D)|par (ds:List D)|two (ds es:List D)|tre (t:T)|ptr (t:T)
noncomputable abbrev R:=List Sl
noncomputable def Sl.items:Sl->Option (List D)
 | .own ds=>some ds
 | .par ds=>some ds
 |_=>none
structure Bs where
 G:Hp
 H:Hp
 O:List (Nat×Addr)
noncomputable def RepTb (K:W.Frag)(G H:Hp):List V->List (List D)->List Addr->Prop
 |[],[],A=>A=[]
 |x::xs,ds::dss,A=>∃r ys A2,x= .ref r/\H r=some (.lst ys)/\RepL K G ys ds/\RepTb K G H xs dss A2/\A=r::A2
 |_,_,_=>False
noncomputable def RepC (K:W.Frag)(G H:Hp)(x:V):Ch->List Addr->Prop
 | .d y,A=>RepD K G x y/\A=[]
 | .l ds,A=>∃l xs,x= .ref l/\H l=some (.lst xs)/\RepL K G xs ds/\A=[l]
 | .t xss,A=>∃p xs A',x= .ref p/\H p=some (.lst xs)/\RepTb K G H xs xss A'/\A=p::A'
noncomputable def RepCs (K:W.Frag)(G H:Hp):List V->List Ch->List Addr->Prop
 |[],[],A=>A=[]
 |x::xs,c::cs,A=>∃A1 A2,RepC K G H x c A1/\RepCs K G H xs cs A2/\A=A1++A2
 |_,_,_=>False
noncomputable def RepT (K:W.Frag)(G H:Hp)(v:V):T->List Addr->Prop
 | .lst cs,A=>∃p xs A',v= .ref p/\H p=some (.lst xs)/\RepCs K G H xs cs A'/\A=p::A'
 | .tup cs,A=>∃p xs A',v= .ref p/\H p=some (.tup xs)/\RepCs K G H xs cs A'/\A=p::A'
 | .ins c fs,A=>∃p C dx vs A',v= .ref p/\W.nsIn K mainGlobals c=some (some (.ref C))/\H p=some (.ins C dx vs)/\H dx=some (.own p)/\vs.map (·.1)=fs.map (·.1)/\RepCs K G H (vs.map (·.2)) (fs.map (·.2)) A'/\A=p::dx::A'
 | .dic ks ds,A=>∃p ys,v= .ref p/\H p=some (.dK ys)/\ys.map (·.1)=ks.map kI/\RepL K G (ys.map (·.2)) ds/\A=[p]
 | .dit ks ds,A=>∃p ys o xs,v= .ref p/\H p=some (kn p o)/\DtI G p o xs ks ys/\RepL K G (ys.map (·.2)) ds/\A=[p]
section
variable {K:W.Frag} {G G' H H':Hp}
theorem RepTb.move:∀{xs:List V} {dss:List (List D)} {A:List Addr},RepTb K G H xs dss A->Fz G G'->(∀a∈A,H' a=H a)->RepTb K G' H' xs dss A
 |[],[],_,h,_,_=>h
 |x::xs,ds::dss,A,⟨r,ys,A2,e1,e2,e3,e4,e5⟩,hg,hh=>⟨r,ys,A2,e1,by rw[hh r (by rw[e5];simp)];exact e2,e3.mono hg,e4.move hg fun a m=>hh a (by rw[e5];simp[m]),e5⟩
 |[],_::_,_,h,_,_=>h.elim
 |_::_,[],_,h,_,_=>h.elim
theorem RepTb.det:∀{xs:List V} {dss:List (List D)} {A A':List Addr},RepTb K G H xs dss A->RepTb K G' H' xs dss A'->A=A'
 |[],[],_,_,h,h'=>by rw[show _=[]from h,show _=[]from h']
 |x::xs,ds::dss,_,_,⟨r,ys,A2,e1,_,_,e4,e5⟩,⟨r',ys',A2',e1',_,_,e4',e5'⟩=>by
  rw[e1]at e1';cases e1'
  rw[e5,e5',e4.det e4']
 |[],_::_,_,_,h,_=>h.elim
 |_::_,[],_,_,h,_=>h.elim
theorem RepTb.here:∀{xs:List V} {dss:List (List D)} {A:List Addr},RepTb K G H xs dss A->∀{a:Addr},a∈A->∃xs,H a=some (.lst xs)
 |[],[],_,h,a,m=>by rw[show _=[]from h]at m;cases m
 |x::xs,ds::dss,_,⟨r,ys,A2,e1,e2,_,e4,e5⟩,a,m=>by
  rw[e5]at m
  rcases List.mem_cons.mp m with rfl|m
  ·exact⟨ys,e2⟩
  ·exact e4.here m
 |[],_::_,_,h,_,_=>h.elim
 |_::_,[],_,h,_,_=>h.elim
theorem RepC.move (h:RepC K G H x c A)(hg:Fz G G')(hh:∀a∈A,H' a=H a):RepC K G' H' x c A:=by
 cases c with
 |d y=>exact⟨h.1.mono hg,h.2⟩
 |l ds=>obtain⟨l,xs,e,q,r,rfl⟩:=h;exact⟨l,xs,e,by rw[hh l (by simp)];exact q,r.mono hg,rfl⟩
 |t xss=>obtain⟨p,xs,A',e,q,r,rfl⟩:=h;exact⟨p,xs,A',e,by rw[hh p (by simp)];exact q,r.move hg fun a m=>hh a (by simp[m]),rfl⟩
theorem RepCs.move:∀{xs:List V} {cs:List Ch} {A:List Addr},RepCs K G H xs cs A->Fz G G'->(∀a∈A,H' a=H a)->RepCs K G' H' xs cs A
 |[],[],_,h,_,_=>h
 |x::xs,c::cs,A,⟨A1,A2,h1,h2,e⟩,hg,hh=>⟨A1,A2,h1.move hg fun a m=>hh a (by rw[e];exact List.mem_append_left _ m),h2.move hg fun a m=>hh a (by rw[e];exact List.mem_append_right _ m),e⟩
 |[],_::_,_,h,_,_=>h.elim
 |_::_,[],_,h,_,_=>h.elim
theorem RepT.move (h:RepT K G H v t A)(hg:Fz G G')(hh:∀a∈A,H' a=H a):RepT K G' H' v t A:=by
 cases t with
 |lst cs=>obtain⟨p,xs,A',e,q,r,rfl⟩:=h;exact⟨p,xs,A',e,by rw[hh p (by simp)];exact q,r.move hg fun a m=>hh a (by simp[m]),rfl⟩
 |tup cs=>obtain⟨p,xs,A',e,q,r,rfl⟩:=h;exact⟨p,xs,A',e,by rw[hh p (by simp)];exact q,r.move hg fun a m=>hh a (by simp[m]),rfl⟩
 |ins c fs=>obtain⟨p,C,dx,vs,A',e,n,q,q2,f,r,rfl⟩:=h;exact⟨p,C,dx,vs,A',e,n,by rw[hh p (by simp)];exact q,by rw[hh dx (by simp)];exact q2,f,r.move hg fun a m=>hh a (by simp[m]),rfl⟩
 |dic ks ds=>obtain⟨p,ys,e,q,f,r,rfl⟩:=h;exact⟨p,ys,e,by rw[hh p (by simp)];exact q,f,r.mono hg,rfl⟩
 |dit ks ds=>obtain⟨p,ys,o,xs,e,q,f,r,rfl⟩:=h;exact⟨p,ys,o,xs,e,by rw[hh p (by simp)];exact q,f.mono hg,r.mono hg,rfl⟩
theorem RepC.det (h:RepC K G H x c A)(h':RepC K G' H' x c A')(hh:∀a∈A,H' a=H a):A=A':=by
 cases c with
 |d y=>rw[h.2,h'.2]
 |l ds=>obtain⟨l,xs,e,_,_,rfl⟩:=h;obtain⟨l',xs',e',_,_,rfl⟩:=h';rw[e]at e';cases e';rfl
 |t xss=>
  obtain⟨p,xs,B,e,q,r,rfl⟩:=h;obtain⟨p',xs',B',e',q',r',rfl⟩:=h'
  rw[e]at e';cases e'
  rw[hh p (by simp),q]at q';cases q'
  rw[r.det r']
theorem RepCs.det:∀{xs:List V} {cs:List Ch} {A A':List Addr},RepCs K G H xs cs A->RepCs K G' H' xs cs A'->(∀a∈A,H' a=H a)->A=A'
 |[],[],_,_,h,h',_=>by rw[show _=[]from h,show _=[]from h']
 |x::xs,c::cs,_,_,⟨A1,A2,h1,h2,e⟩,⟨B1,B2,k1,k2,e'⟩,hh=>by rw[e,e',h1.det k1 fun a m=>hh a (by rw[e];exact List.mem_append_left _ m),h2.det k2 fun a m=>hh a (by rw[e];exact List.mem_append_right _ m)]
 |[],_::_,_,_,h,_,_=>h.elim
 |_::_,[],_,_,h,_,_=>h.elim
theorem RepT.det (h:RepT K G H v t A)(h':RepT K G' H' v t A')(hh:∀a∈A,H' a=H a):A=A':=by
 cases t with
 |lst cs=>
  obtain⟨p,xs,B,e,q,r,rfl⟩:=h;obtain⟨p',xs',B',e',q',r',rfl⟩:=h'
  rw[e]at e';cases e'
  rw[hh p (by simp),q]at q';cases q'
  rw[r.det r' fun a m=>hh a (by simp[m])]
 |tup cs=>
  obtain⟨p,xs,B,e,q,r,rfl⟩:=h;obtain⟨p',xs',B',e',q',r',rfl⟩:=h'
  rw[e]at e';cases e'
  rw[hh p (by simp),q]at q';cases q'
  rw[r.det r' fun a m=>hh a (by simp[m])]
 |ins c fs=>
  obtain⟨p,C,dx,vs,B,e,n,q,q2,f,r,rfl⟩:=h;obtain⟨p',C',dx',vs',B',e',n',q',q2',f',r',rfl⟩:=h'
  rw[e]at e';cases e'
  rw[hh p (by simp),q]at q';cases q'
  rw[r.det r' fun a m=>hh a (by simp[m])]
 |dic ks ds=>obtain⟨p,ys,e,q,f,r,rfl⟩:=h;obtain⟨p',ys',e',q',f',r',rfl⟩:=h';rw[e]at e';cases e';rfl
 |dit ks ds=>obtain⟨p,ys,o,xs,e,q,f,r,rfl⟩:=h;obtain⟨p',ys',o',xs',e',q',f',r',rfl⟩:=h';rw[e]at e';cases e';rfl
theorem RepC.here (h:RepC K G H x c A)(m:a∈A):∃xs,H a=some (.lst xs):=by
 cases c with
 |d y=>rw[h.2]at m;cases m
 |l ds=>obtain⟨l,xs,_,q,_,rfl⟩:=h;simp at m;subst m;exact⟨xs,q⟩
 |t xss=>
  obtain⟨p,xs,A',_,q,r,rfl⟩:=h
  rcases List.mem_cons.mp m with rfl|m
  ·exact⟨xs,q⟩
  ·exact r.here m
theorem RepCs.here:∀{xs:List V} {cs:List Ch} {A:List Addr},RepCs K G H xs cs A->∀{a:Addr},a∈A->∃xs,H a=some (.lst xs)
 |[],[],_,h,a,m=>by rw[show _=[]from h]at m;cases m
 |x::xs,c::cs,_,⟨A1,A2,h1,h2,e⟩,a,m=>by
  rw[e]at m
  rcases List.mem_append.mp m with m|m
  ·exact h1.here m
  ·exact h2.here m
 |[],_::_,_,h,_,_=>h.elim
 |_::_,[],_,h,_,_=>h.elim
theorem RepT.here (h:RepT K G H v t A)(m:a∈A):H a≠none:=by
 cases t with
 |lst cs=>
  obtain⟨p,xs,B,e,q,r,rfl⟩:=h
  rcases List.mem_cons.mp m with rfl|m
  ·rw[q];simp
  ·obtain⟨ys,z⟩:=r.here m;rw[z];simp
 |tup cs=>
  obtain⟨p,xs,B,e,q,r,rfl⟩:=h
  rcases List.mem_cons.mp m with rfl|m
  ·rw[q];simp
  ·obtain⟨ys,z⟩:=r.here m;rw[z];simp
 |ins c fs=>
  obtain⟨p,C,dx,vs,B,e,n,q,q2,f,r,rfl⟩:=h
  rcases List.mem_cons.mp m with rfl|m
  ·rw[q];simp
  rcases List.mem_cons.mp m with rfl|m
  ·rw[q2];simp
  ·obtain⟨ys,z⟩:=r.here m;rw[z];simp
 |dic ks ds=>obtain⟨p,ys,e,q,f,r,rfl⟩:=h;simp at m;subst m;rw[q];simp
 |dit ks ds=>obtain⟨p,ys,o,xs,e,q,f,r,rfl⟩:=h;simp at m;subst m;rw[q];simp
end
noncomputable def SlotOk (K:W.Frag)(B:Bs)(G H:Hp)(i:Nat)(ov:Option (Option V)):Sl->Prop
 | .emp=>True
 | .two _ _=>True
 | .val d=>∃v,ov=some (some v)/\RepD K G v d
 | .own ds=>∃l xs,ov=some (some (.ref l))/\G l=none/\H l=some (.lst xs)/\RepL K G xs ds/\B.H l=none
 | .par ds=>∃l xs,ov=some (some (.ref l))/\G l=none/\H l=some (.lst xs)/\RepL K G xs ds/\(i,l)∈B.O
 | .tre t=>∃v A,ov=some (some v)/\RepT K G H v t A/\A.Nodup/\∀a∈A,G a=none/\B.H a=none
 | .ptr t=>∃v A,ov=some (some v)/\RepT K G H v t A/\(A.Nodup/\∃p,v= .ref p/\(i+4096,p)∈B.O)/\∀a∈A,G a=none/\(i,a)∈B.O
noncomputable def Wr (ρ:R)(i:Nat):Prop:=∃s ds,ρ[i]? =some s/\s.items=some ds
noncomputable def OwS (K:W.Frag)(G H:Hp)(ov:Option (Option V))(a:Addr):Sl->Prop
 | .own _=>ov=some (some (.ref a))
 | .par _=>ov=some (some (.ref a))
 | .tre t=>∃v A,ov=some (some v)/\RepT K G H v t A/\a∈A
 | .ptr t=>∃v A,ov=some (some v)/\RepT K G H v t A/\a∈A
 |_=>False
noncomputable def Nw (K:W.Frag)(G H:Hp)(σ:St)(ρ:R)(a:Addr):Prop:=∀(i:Nat) (s:Sl),ρ[i]? =some s->¬OwS K G H σ[i]? a s
structure SI (K:W.Frag) (B:Bs) (G H:Hp) (σ:St) (ρ:R):Prop where
 fz:Fz G H
 g0:Fz B.G G
 new:∀b o,G b=some o->B.G b≠none\/B.H b=none
 keep:∀b o,B.H b=some o->(∀i,(i,b)∉B.O)->H b=some o
 there:∀b,H b=none->B.H b=none
 len:σ.length=ρ.length
 ob:∀i b,(i,b)∈B.O->B.H b≠none
 slot:∀i s,ρ[i]? =some s->SlotOk K B G H i σ[i]? s
 dis:∀(i j:Nat) (s t:Sl) (a:Addr),i≠j->ρ[i]? =some s->ρ[j]? =some t->OwS K G H σ[i]? a s->¬OwS K G H σ[j]? a t
section
variable {K:W.Frag} {B:Bs} {G G' H H':Hp} {σ:St} {ρ:R}
theorem SlotOk.own (h:SlotOk K B G H i ov s)(w:OwS K G H ov a s):G a=none/\H a≠none/\(B.H a=none\/(i,a)∈B.O):=by
 cases s with
 |emp=>exact w.elim
 |two _ _=>exact w.elim
 |val d=>exact w.elim
 |own ds=>obtain⟨l,xs,e,g,k,r,n⟩:=h;rw[show ov=_ from w]at e;cases e;exact⟨g,by rw[k];simp,.inl n⟩
 |par ds=>obtain⟨l,xs,e,g,k,r,n⟩:=h;rw[show ov=_ from w]at e;cases e;exact⟨g,by rw[k];simp,.inr n⟩
 |tre t=>
  obtain⟨v,A,e,r,nd,f⟩:=h
  obtain⟨v',A',e',r',m⟩:=w
  rw[e]at e';cases e'
  rw[<-r.det r' fun _ _=>rfl]at m
  exact⟨(f a m).1,r.here m,.inl (f a m).2⟩
 |ptr t=>
  obtain⟨v,A,e,r,nd,f⟩:=h
  obtain⟨v',A',e',r',m⟩:=w
  rw[e]at e';cases e'
  rw[<-r.det r' fun _ _=>rfl]at m
  exact⟨(f a m).1,r.here m,.inr (f a m).2⟩
theorem SlotOk.mono (h:SlotOk K B G H i ov s)(hg:Fz G G')(hw:∀a,OwS K G H ov a s->G a=none->H a≠none->G' a=none/\H' a=H a):SlotOk K B G' H' i ov s:=by
 have ow:=fun a (w:OwS K G H ov a s)=>h.own w
 cases s with
 |emp=>trivial
 |two _ _=>trivial
 |val d=>obtain⟨v,e,r⟩:=h;exact⟨v,e,r.mono hg⟩
 |own ds=>
  obtain⟨l,xs,e,g,k,r,n⟩:=h
  obtain⟨h1,h2⟩:=hw l e g (by rw[k];simp)
  exact⟨l,xs,e,h1,h2.trans k,r.mono hg,n⟩
 |par ds=>
  obtain⟨l,xs,e,g,k,r,n⟩:=h
  obtain⟨h1,h2⟩:=hw l e g (by rw[k];simp)
  exact⟨l,xs,e,h1,h2.trans k,r.mono hg,n⟩
 |tre t=>
  obtain⟨v,A,e,r,nd,f⟩:=h
  have w:=fun a m=>hw a ⟨v,A,e,r,m⟩ (f a m).1 (r.here m)
  exact⟨v,A,e,r.move hg fun a m=>(w a m).2,nd,fun a m=>⟨(w a m).1,(f a m).2⟩⟩
 |ptr t=>
  obtain⟨v,A,e,r,nd,f⟩:=h
  have w:=fun a m=>hw a ⟨v,A,e,r,m⟩ (f a m).1 (r.here m)
  exact⟨v,A,e,r.move hg fun a m=>(w a m).2,nd,fun a m=>⟨(w a m).1,(f a m).2⟩⟩
theorem SlotOk.back (h:SlotOk K B G H i ov s)(hw:∀a,OwS K G H ov a s->G a=none->H a≠none->G' a=none/\H' a=H a)(w:OwS K G' H' ov a s):OwS K G H ov a s:=by
 cases s with
 |emp=>exact w
 |two _ _=>exact w
 |val d=>exact w
 |own ds=>exact w
 |par ds=>exact w
 |tre t=>
  obtain⟨v,A,e,r,nd,f⟩:=h
  obtain⟨v',A',e',r',m⟩:=w
  rw[e]at e';cases e'
  have q:=r.det r' fun a m=>(hw a ⟨v,A,e,r,m⟩ (f a m).1 (r.here m)).2
  subst q
  exact⟨v,A,e,r,m⟩
 |ptr t=>
  obtain⟨v,A,e,r,nd,f⟩:=h
  obtain⟨v',A',e',r',m⟩:=w
  rw[e]at e';cases e'
  have q:=r.det r' fun a m=>(hw a ⟨v,A,e,r,m⟩ (f a m).1 (r.here m)).2
  subst q
  exact⟨v,A,e,r,m⟩
theorem SI.move (I:SI K B G H σ ρ)(fz:Fz G' H')(fg:Fz G G')(new:∀b o,G' b=some o->B.G b≠none\/B.H b=none)(keep:∀b o,B.H b=some o->(∀i,(i,b)∉B.O)->H' b=some o)(there:∀b,H' b=none->B.H b=none)
  (ow:∀(i:Nat) (s:Sl) (a:Addr),ρ[i]? =some s->OwS K G H σ[i]? a s->G a=none->H a≠none->G' a=none/\H' a=H a):SI K B G' H' σ ρ where
 fz:=fz
 g0:=I.g0.trans fg
 new:=new
 keep:=keep
 there:=there
 len:=I.len
 ob:=I.ob
 slot:=fun i s e=>(I.slot i s e).mono fg fun a w g h=>ow i s a e w g h
 dis:=fun i j s t a n e1 e2 w1 w2=>I.dis i j s t a n e1 e2 ((I.slot i s e1).back (fun a w g h=>ow i s a e1 w g h) w1) ((I.slot j t e2).back (fun a w g h=>ow j t a e2 w g h) w2)
theorem SI.chg (I:SI K B G H σ ρ){ov:Option V}{s':Sl}(fz:Fz G' H')(fg:Fz G G')(new:∀b o,G' b=some o->B.G b≠none\/B.H b=none)(keep:∀b o,B.H b=some o->(∀i,(i,b)∉B.O)->H' b=some o)(there:∀b,H' b=none->B.H b=none)
  (ow:∀(j:Nat) (s:Sl) (a:Addr),j≠i->ρ[j]? =some s->OwS K G H σ[j]? a s->G a=none->H a≠none->G' a=none/\H' a=H a/\¬OwS K G' H' (some ov) a s') (sl:SlotOk K B G' H' i (some ov) s'):SI K B G' H' (σ.set i ov) (ρ.set i s'):=by
 have atI:∀{s},(ρ.set i s')[i]? =some s->s=s'/\(σ.set i ov)[i]? =some ov:=fun{s} e=>by
  rw[List.getElem?_set,if_pos rfl]at e ⊢
  split at e
  ·rename_i h;cases e;rw[if_pos (by rw[I.len];exact h)];exact⟨rfl,rfl⟩
  ·cases e
 have atJ:∀{j s},j≠i->(ρ.set i s')[j]? =some s->ρ[j]? =some s/\(σ.set i ov)[j]? =σ[j]?:=fun{j s} n e=>by
  rw[List.getElem?_set_ne (Ne.symm n)]at e ⊢
  exact⟨e,rfl⟩
 refine⟨fz,I.g0.trans fg,new,keep,there,by rw[List.length_set,List.length_set];exact I.len,I.ob,fun j s e=>?_,fun j k s t a n e1 e2 w1 w2=>?_⟩
 ·by_cases z:j=i
  ·subst z;obtain⟨rfl,q⟩:=atI e;rw[q];exact sl
  ·obtain⟨e1,q⟩:=atJ z e
   rw[q]
   exact(I.slot j s e1).mono fg fun a w g h=>⟨(ow j s a z e1 w g h).1,(ow j s a z e1 w g h).2.1⟩
 ·have one:∀j s,j≠i->(ρ.set i s')[j]? =some s->OwS K G' H' (σ.set i ov)[j]? a s->ρ[j]? =some s/\OwS K G H σ[j]? a s:=fun j s z e w=>by
   obtain⟨e1,q⟩:=atJ z e
   rw[q]at w
   exact⟨e1,(I.slot j s e1).back (fun a w g h=>⟨(ow j s a z e1 w g h).1,(ow j s a z e1 w g h).2.1⟩) w⟩
  by_cases z1:j=i
  ·subst z1
   obtain⟨rfl,q1⟩:=atI e1
   obtain⟨f2,w2⟩:=one k t (Ne.symm n) e2 w2
   obtain⟨o1,o2,_⟩:=(I.slot k t f2).own w2
   rw[q1]at w1
   exact(ow k t a (Ne.symm n) f2 w2 o1 o2).2.2 w1
  ·have p1:=one j s z1 e1 w1
   by_cases z2:k=i
   ·subst z2
    obtain⟨rfl,q2⟩:=atI e2
    obtain⟨o1,o2,_⟩:=(I.slot j s p1.1).own p1.2
    rw[q2]at w2
    exact(ow j s a z1 p1.1 p1.2 o1 o2).2.2 w2
   ·have p2:=one k t z2 e2 w2
    exact I.dis j k s t a n p1.1 p2.1 p1.2 p2.2
theorem SI.nw (I:SI K B G H σ ρ)(hp:H p=none):Nw K G H σ ρ p:=fun i s e w=>((I.slot i s e).own w).2.1 hp
theorem SI.nw_move (I:SI K B G H σ ρ)(n:Nw K G H σ ρ p)(ow:∀(i:Nat) (s:Sl) (a:Addr),ρ[i]? =some s->OwS K G H σ[i]? a s->G a=none->H a≠none->G' a=none/\H' a=H a):Nw K G' H' σ ρ p:=
 fun i s e w=>n i s e ((I.slot i s e).back (fun a w g h=>ow i s a e w g h) w)
theorem SI.allocF (I:SI K B G H σ ρ)(hp:H p=none)(o:HO):SI K B (upd G p o) (upd H p o) σ ρ:=
 I.move (I.fz.upd2 p o) (Fz.new (I.fz.free hp) o) (fun b u e=>by
  by_cases q:b=p
  ·subst q;exact .inr (I.there b hp)
  ·rw[zad q]at e;exact I.new b u e) (fun b u e n=>by
  have q:=I.keep b u e n
  rw[zad (zan q hp)];exact q) (fun b e=>by
  by_cases q:b=p
  ·subst q;rw[zaf]at e;cases e
  ·rw[zad q]at e;exact I.there b e) (fun i s a _ _ g h=>by
  have q:a≠p:=fun z=>h (by rw[z];exact hp)
  rw[zad q,zad q];exact⟨g,rfl⟩)
theorem SI.allocO (I:SI K B G H σ ρ)(hp:H p=none)(o:HO):SI K B G (upd H p o) σ ρ:=
 I.move (I.fz.right (I.fz.free hp) o) (Fz.refl G) I.new (fun b u e n=>by
  have q:=I.keep b u e n
  rw[zad (zan q hp)];exact q) (fun b e=>by
  by_cases q:b=p
  ·subst q;rw[zaf]at e;cases e
  ·rw[zad q]at e;exact I.there b e) (fun i s a _ _ g h=>by
  have q:a≠p:=fun z=>h (by rw[z];exact hp)
  rw[zad q];exact⟨g,rfl⟩)
theorem SI.frz (I:SI K B G H σ ρ){o:HO}(hl:H l=some o)(hB:B.H l=none)(hn:Nw K G H σ ρ l)(hg:G l=none):SI K B (upd G l o) H σ ρ:=
 I.move (fun a u q=>by
  by_cases e:a=l
  ·subst e;rw[zaf]at q;cases q;exact hl
  ·rw[zad e]at q;exact I.fz a u q) (Fz.new hg o) (fun b u e=>by
  by_cases q:b=l
  ·subst q;exact .inr hB
  ·rw[zad q]at e;exact I.new b u e) I.keep I.there (fun i s a e w g _=>by
  refine⟨?_,rfl⟩
  rw[zad (fun z=>?_)]
  ·exact g
  ·subst z;exact hn i s e w)
theorem SI.set (I:SI K B G H σ ρ)(h:RepD K G v d):SI K B G H (σ.set i (some v)) (ρ.set i (.val d)):=
 I.chg I.fz (Fz.refl G) I.new I.keep I.there (fun _ _ _ _ _ _ g _=>⟨g,rfl,id⟩) ⟨v,rfl,h⟩
theorem SI.setO (I:SI K B G H σ ρ)(hg:G l=none)(hl:H l=some (.lst xs))(h:RepL K G xs ds)(hB:B.H l=none)(hn:Nw K G H σ ρ l):
  SI K B G H (σ.set i (some (.ref l))) (ρ.set i (.own ds)):=
 I.chg I.fz (Fz.refl G) I.new I.keep I.there (fun j s a _ e w g _=>⟨g,rfl,fun z=>by cases(show some (some (V.ref l))=some (some (.ref a))from z);exact hn j s e w⟩) ⟨l,xs,rfl,hg,hl,h,hB⟩
theorem SI.wr (I:SI K B G H σ ρ)(e:ρ[i]? =some s)(q:s.items=some ds):∃l xs,σ[i]? =some (some (.ref l))/\G l=none/\H l=some (.lst xs)/\RepL K G xs ds:=by
 have h:=I.slot i s e
 cases s with
 |emp=>cases q
 |two _ _=>cases q
 |val d=>cases q
 |tre _=>cases q
 |ptr _=>cases q
 |own es=>cases q;obtain⟨l,xs,h1,h2,h3,h4,_⟩:=h;exact⟨l,xs,h1,h2,h3,h4⟩
 |par es=>cases q;obtain⟨l,xs,h1,h2,h3,h4,_⟩:=h;exact⟨l,xs,h1,h2,h3,h4⟩
noncomputable def Sl.put (s:Sl)(ds:List D):Sl:=match s with
 | .own _=> .own ds
 | .par _=> .par ds
 |s=>s
theorem zax (q:s.items=some ds):OwS K G H ov a s↔ov=some (some (.ref a)):=by
 cases s with
 |own _=>exact Iff.rfl
 |par _=>exact Iff.rfl
 |_=>cases q
theorem zdB (q:s.items=some ds)(es:List D):(s.put es).items=some es:=by
 cases s with
 |own _=>rfl
 |par _=>rfl
 |_=>cases q
theorem zej {α:Type}{l:List α}{x:α}(e:l[i]? =some x):l.set i x=l:=by
 obtain⟨h,rfl⟩:=List.getElem?_eq_some_iff.mp e
 exact List.set_getElem_self h
theorem SI.chgW (I:SI K B G H σ ρ){i:Nat}(e:ρ[i]? =some s)(q:s.items=some ds)(hl:σ[i]? =some (some (.ref l)))(fz:Fz G' H')(fg:Fz G G')(nw:∀b o,G' b=some o->G b≠none\/H b=none)
  (kp:∀b o,b≠l->H b=some o->H' b=some o) (gl:G' l=none) (hl':H' l=some (.lst ys)) (r:RepL K G' ys es):SI K B G' H' σ (ρ.set i (s.put es)):=by
 obtain⟨l',xs,e1,e2,e3,e4⟩:=I.wr e q
 rw[hl]at e1;cases e1
 have sl:=I.slot i s e
 have nb:∀b o,B.H b=some o->(∀i,(i,b)∉B.O)->b≠l:=fun b o h1 h2 z=>by
  subst z
  rcases(sl.own ((zax q).mpr hl)).2.2 with z|z
  ·rw[h1]at z;cases z
  ·exact h2 i z
 have h:=I.chg (i:=i) (ov:=some (.ref l)) (s':=s.put es) (G':=G') (H':=H') fz fg (fun b o k=>?_) (fun b o k1 k2=>kp b o (nb b o k1 k2) (I.keep b o k1 k2)) (fun b k=>?_) (fun j t a z ej w g ha=>?_) ?_
 ·rwa[zej hl]at h
 ·rcases nw b o k with h|h
  ·cases q2:G b with
   |none=>exact absurd q2 h
   |some u=>exact I.new b u q2
  ·exact .inr (I.there b h)
 ·refine I.there b ?_
  cases q2:H b with
  |none=>rfl
  |some u=>
   by_cases z:b=l
   ·subst z;rw[hl']at k;cases k
   ·rw[kp b u z q2]at k;cases k
 ·have na:a≠l:=fun w'=>by subst w';exact I.dis j i t s a z ej e w ((zax q).mpr hl)
  obtain⟨u,hu⟩:=Option.ne_none_iff_exists'.mp ha
  refine⟨?_,(kp a u na hu).trans hu.symm,fun z=>na ?_⟩
  ·cases q2:G' a with
   |none=>rfl
   |some u=>
    rcases nw a u q2 with z|z
    ·exact absurd g z
    ·exact absurd z ha
  ·cases(zax (zdB q es)).mp z;rfl
 ·cases s with
  |own es'=>obtain⟨l',xs',k1,k2,k3,k4,k5⟩:=sl;rw[hl]at k1;cases k1;exact⟨_,ys,rfl,gl,hl',r,k5⟩
  |par es'=>obtain⟨l',xs',k1,k2,k3,k4,k5⟩:=sl;rw[hl]at k1;cases k1;exact⟨_,ys,rfl,gl,hl',r,k5⟩
  |_=>cases q
theorem SI.write (I:SI K B G H σ ρ)(e:ρ[i]? =some s)(q:s.items=some ds)(hl:σ[i]? =some (some (.ref l)))(h:RepL K G ys es):
  SI K B G (upd H l (.lst ys)) σ (ρ.set i (s.put es)):=by
 obtain⟨l',xs,e1,e2,e3,e4⟩:=I.wr e q
 rw[hl]at e1;cases e1
 exact I.chgW e q hl (I.fz.right e2 _) (Fz.refl G) (fun b o k=> .inl (by rw[k];simp)) (fun b o z k=>by rw[zad z];exact k) e2 zaf h
theorem SI.freeze (I:SI K B G H σ ρ){i:Nat}(e:ρ[i]? =some (.own ds)):∃l xs,σ[i]? =some (some (.ref l))/\Fz G (upd G l (.lst xs))/\RepD K (upd G l (.lst xs)) (.ref l) (.lst ds)/\
  SI K B (upd G l (.lst xs)) H σ (ρ.set i (.val (.lst ds))):=by
 obtain⟨l,xs,h1,h2,h3,h4,h5⟩:=I.slot i _ e
 have fz:=Fz.new h2 (.lst xs)
 have rep:RepD K (upd G l (.lst xs)) (.ref l) (.lst ds):=⟨l,xs,rfl,zaf,h4.mono fz⟩
 refine⟨l,xs,h1,fz,rep,?_⟩
 have h:=I.chg (i:=i) (ov:=some (.ref l)) (s':= .val (.lst ds)) (G':=upd G l (.lst xs)) (H':=H) (fun a u q=>?_) fz (fun b u q=>?_) I.keep I.there (fun j t a z ej w g _=>⟨?_,rfl,id⟩) ⟨.ref l,rfl,rep⟩
 ·rwa[zej h1]at h
 ·by_cases z:a=l
  ·subst z;rw[zaf]at q;cases q;exact h3
  ·rw[zad z]at q;exact I.fz a u q
 ·by_cases z:b=l
  ·subst z;exact .inr h5
  ·rw[zad z]at q;exact I.new b u q
 ·rw[zad (fun q=>by subst q;exact I.dis j i t _ a z ej e w h1)];exact g
end
noncomputable abbrev ME:=R->Option (D×R)
noncomputable abbrev MO:=R->Option (List D×R)
noncomputable abbrev MT:=R->Option (Bool×R)
noncomputable abbrev MA:=R->Option (List D×R)
noncomputable def SE (X:Cx)(e:Expr)(m:ME):Prop:=
 ∃t,PE X e t/\∀B G H σ ρ d ρ' (Q:VK),SI X.K B G H σ ρ->m ρ=some (d,ρ')->(∀G' H' v,SI X.K B G' H' σ ρ'->Fz G G'->RepD X.K G' v d->Q v H')->t σ H Q
noncomputable def SO (X:Cx)(e:Expr)(m:MO):Prop:=
 ∃t,PE X e t/\∀B G H σ ρ ds ρ' (Q:VK),SI X.K B G H σ ρ->m ρ=some (ds,ρ')->
  (∀G' H' l xs,SI X.K B G' H' σ ρ'->Fz G G'->G' l=none->H' l=some (.lst xs)->RepL X.K G' xs ds->B.H l=none->Nw X.K G' H' σ ρ' l->Q (.ref l) H')->t σ H Q
noncomputable def STt (X:Cx)(e:Expr)(m:MT):Prop:=
 ∃t,PT X e t/\∀B G H σ ρ d ρ' (Q:Bool->Hp->Prop),SI X.K B G H σ ρ->m ρ=some (d,ρ')->(∀G' H',SI X.K B G' H' σ ρ'->Fz G G'->Q d H')->t σ H Q
noncomputable def SA (X:Cx)(es:List Expr)(m:MA):Prop:=
 ∃t,PA X es t/\∀B G H σ ρ ds ρ' (Q:List V->Hp->Prop),SI X.K B G H σ ρ->m ρ=some (ds,ρ')->(∀G' H' vs,SI X.K B G' H' σ ρ'->Fz G G'->RepL X.K G' vs ds->Q vs H')->t σ H Q
theorem zge {B:Bs}{σ:St}(I:SI K B G H σ ρ)(hg:G l=none)(hl:H l=some (.lst xs))(h:RepL K G xs ds)(hB:B.H l=none)(hn:Nw K G H σ ρ l):
  SI K B (upd G l (.lst xs)) H σ ρ/\Fz G (upd G l (.lst xs))/\RepD K (upd G l (.lst xs)) (.ref l) (.lst ds):=
 ⟨I.frz hl hB hn hg,Fz.new hg _,⟨l,xs,rfl,zaf,h.mono (Fz.new hg _)⟩⟩
noncomputable def eFz (m:MO):ME:=fun ρ=>(m ρ).map fun p=>(.lst p.1,p.2)
theorem SO.se {X:Cx}{m:MO}(h:SO X e m):SE X e (eFz m):=by
 obtain⟨t,p,s⟩:=h
 refine⟨t,p,fun B G H σ ρ d ρ' Q I hm k=>?_⟩
 unfold eFz at hm
 cases q:m ρ with
 |none=>rw[q]at hm;cases hm
 |some r=>
  obtain⟨ds,ρ1⟩:=r
  rw[q]at hm
  cases hm
  refine s B G H σ ρ ds _ Q I q fun G' H' l xs I' fz hg hl hr hB hn=>?_
  obtain⟨I2,f2,r2⟩:=zge I' hg hl hr hB hn
  exact k _ _ _ I2 (fz.trans f2) r2
noncomputable def eC (d:D):ME:=fun ρ=>some (d,ρ)
noncomputable def eVar (i:Nat):ME:=fun ρ=>match ρ[i]? with
 |some (.val d)=>some (d,ρ)
 |some (.own ds)=>some (.lst ds,ρ.set i (.val (.lst ds)))
 |_=>none
section
variable {X:Cx} {pos:Pos}
theorem zac (i:Nat){x:Str}(hN:autoParam (X.N[i]? =some x) zu3._auto_1)(hv:autoParam (Vis X.env.scope x) zu6._auto_1)(hd:autoParam ((x==("__debug__":Str))=false) zu1._auto_1)
  (hcd:autoParam ((x==("__classdict__":Str))=false) zu1._auto_1):SE X (.Name x pos) (eVar i):=by
 refine⟨_,zaH hN hv hd hcd,fun B G H σ ρ d ρ' Q I hm k=>?_⟩
 unfold eVar at hm
 cases e:ρ[i]? with
 |none=>rw[e]at hm;cases hm
 |some s=>
  rw[e]at hm
  cases s with
  |emp=>cases hm
  |two _ _=>cases hm
  |tre _=>cases hm
  |ptr _=>cases hm
  |par ds=>cases hm
  |val d'=>
   cases hm
   obtain⟨v,h1,h2⟩:=I.slot i _ e
   exact⟨v,h1,k G H v I (Fz.refl G) h2⟩
  |own ds=>
   cases hm
   obtain⟨l,xs,h1,f,r,I'⟩:=I.freeze e
   exact⟨.ref l,h1,k _ H _ I' f r⟩
theorem zai {i:Int}{j}:SE X (.Constant (.int i) j pos) (eC (.int i)):=⟨_,pe_int,fun B G H σ ρ d ρ' Q I hm k=>by cases hm;exact k G H _ I (Fz.refl G) rfl⟩
theorem zgk {j}:SE X (.Constant (.bool b) j pos) (eC (.bl b)):=⟨_,pe_bl,fun B G H σ ρ d ρ' Q I hm k=>by cases hm;exact k G H _ I (Fz.refl G) rfl⟩
theorem zhn {j}:SE X (.Constant .none j pos) (eC .non):=⟨_,zjf,fun B G H σ ρ d ρ' Q I hm k=>by cases hm;exact k G H _ I (Fz.refl G) rfl⟩
theorem zdw {x:Str}{j}:SE X (.Constant (.str x) j pos) (eC (.str x)):=⟨_,pe_str,fun B G H σ ρ d ρ' Q I hm k=>by cases hm;exact k G H _ I (Fz.refl G) rfl⟩
theorem se_globI {x:Str}{i:Int}{t:Tok}(hm:X.mg x=some (.int i t))(hg:autoParam (Gl X x) zu3._auto_1)(hd:autoParam ((x==("__debug__":Str))=false) zu1._auto_1):SE X (.Name x pos) (eC (.int i)):=
 ⟨_,pe_glob (v:= .int i) hg hm ⟨t,rfl⟩ hd,fun B G H σ ρ d ρ' Q I hm k=>by cases hm;exact k G H _ I (Fz.refl G) rfl⟩
end
noncomputable def aNil:MA:=fun ρ=>some ([],ρ)
noncomputable def zaj (m:ME)(r:MA):MA:=fun ρ=>(m ρ).bind fun p=>(r p.2).map fun q=>(p.1::q.1,q.2)
section
variable {X:Cx} {e:Expr} {es:List Expr} {m:ME} {r:MA}
theorem zal:SA X [] aNil:=⟨_,zbE,fun B G H σ ρ ds ρ' Q I hm k=>by cases hm;exact k G H [] I (Fz.refl G) .nil⟩
theorem zab (h:SE X e m)(hr:SA X es r)(hs:autoParam (starEach (e::es) X.env=(false,eval e X.env)::starEach es X.env) zu3._auto_1):SA X (e::es) (zaj m r):=by
 obtain⟨t,p,s⟩:=h
 obtain⟨u,q,z⟩:=hr
 refine⟨_,zaB p q hs,fun B G H σ ρ ds ρ' Q I hm k=>?_⟩
 unfold zaj at hm
 cases e1:m ρ with
 |none=>rw[e1]at hm;cases hm
 |some a=>
  obtain⟨d,ρ1⟩:=a
  rw[e1]at hm
  cases e2:r ρ1 with
  |none=>simp[e2]at hm
  |some b=>
   obtain⟨es',ρ2⟩:=b
   simp only[Option.bind_some,e2,Option.map_some,Option.some.injEq,Prod.mk.injEq]at hm
   obtain⟨rfl,rfl⟩:=hm
   exact s B G H σ ρ d ρ1 _ I e1 fun G1 H1 v I1 f1 r1=>z B G1 H1 σ ρ1 es' ρ2 _ I1 e2 fun G2 H2 vs I2 f2 r2=>k G2 H2 (v::vs) I2 (f1.trans f2) (.cons (r1.mono f2) r2)
end
noncomputable def V2 (X:Cx)(r:R2)(f:D->D->Option D):Prop:=∀B G H σ ρ x y a b d (Q:VK),SI X.K B G H σ ρ->RepD X.K G x a->RepD X.K G y b->f a b=some d->(∀G' H' v,SI X.K B G' H' σ ρ->Fz G G'->RepD X.K G' v d->Q v H')->r x y H Q
noncomputable def V1 (X:Cx)(r:V->Hp->VK->Prop)(f:D->Option D):Prop:=∀B G H σ ρ x a d (Q:VK),SI X.K B G H σ ρ->RepD X.K G x a->f a=some d->(∀G' H' v,SI X.K B G' H' σ ρ->Fz G G'->RepD X.K G' v d->Q v H')->r x H Q
noncomputable def VC (X:Cx)(r:List V->Hp->VK->Prop)(f:List D->Option D):Prop:=∀B G H σ ρ xs ds d (Q:VK),SI X.K B G H σ ρ->RepL X.K G xs ds->f ds=some d->(∀G' H' v,SI X.K B G' H' σ ρ->Fz G G'->RepD X.K G' v d->Q v H')->r xs H Q
noncomputable def m2 (f:D->D->Option D)(ma mb:ME):ME:=fun ρ=>(ma ρ).bind fun p=>(mb p.2).bind fun q=>(f p.1 q.1).map fun d=>(d,q.2)
noncomputable def m1 (f:D->Option D)(ma:ME):ME:=fun ρ=>(ma ρ).bind fun p=>(f p.1).map fun d=>(d,p.2)
noncomputable def mC (f:List D->Option D)(ma:MA):ME:=fun ρ=>(ma ρ).bind fun p=>(f p.1).map fun d=>(d,p.2)
theorem m2_inv {ma mb:ME}(h:m2 f ma mb ρ=some (d,ρ')):∃a ρ1 b,ma ρ=some (a,ρ1)/\mb ρ1=some (b,ρ')/\f a b=some d:=by
 unfold m2 at h
 cases e1:ma ρ with
 |none=>rw[e1]at h;cases h
 |some p=>
  obtain⟨a,ρ1⟩:=p
  rw[e1]at h
  cases e2:mb ρ1 with
  |none=>simp[e2]at h
  |some q=>
   obtain⟨b,ρ2⟩:=q
   simp only[Option.bind_some,e2]at h
   cases e3:f a b with
   |none=>rw[e3]at h;cases h
   |some c=>rw[e3]at h;cases h;exact⟨a,ρ1,b,rfl,e2,e3⟩
theorem m1_inv {f:D->Option D}(h:m1 f ma ρ=some (d,ρ')):∃a,ma ρ=some (a,ρ')/\f a=some d:=by
 unfold m1 at h
 cases e1:ma ρ with
 |none=>rw[e1]at h;cases h
 |some p=>
  obtain⟨a,ρ1⟩:=p
  rw[e1]at h
  simp only[Option.bind_some]at h
  cases e3:f a with
  |none=>rw[e3]at h;cases h
  |some c=>rw[e3]at h;cases h;exact⟨a,rfl,e3⟩
theorem mC_inv {f:List D->Option D}{ma:MA}(h:mC f ma ρ=some (d,ρ')):∃a,ma ρ=some (a,ρ')/\f a=some d:=by
 unfold mC at h
 cases e1:ma ρ with
 |none=>rw[e1]at h;cases h
 |some p=>
  obtain⟨a,ρ1⟩:=p
  rw[e1]at h
  simp only[Option.bind_some]at h
  cases e3:f a with
  |none=>rw[e3]at h;cases h
  |some c=>rw[e3]at h;cases h;exact⟨a,rfl,e3⟩
section
variable {X:Cx} {a b:Expr} {ma mb:ME} {pos:Pos} {f:D->D->Option D}
theorem zhS {r:R2}{ta tb:TE}(hv:V2 X r f)
  (sa:∀B G H σ ρ d ρ' (Q:VK),SI X.K B G H σ ρ->ma ρ=some (d,ρ')->(∀G' H' v,SI X.K B G' H' σ ρ'->Fz G G'->RepD X.K G' v d->Q v H')->ta σ H Q)
  (sb:∀B G H σ ρ d ρ' (Q:VK),SI X.K B G H σ ρ->mb ρ=some (d,ρ')->(∀G' H' v,SI X.K B G' H' σ ρ'->Fz G G'->RepD X.K G' v d->Q v H')->tb σ H Q):
  ∀B G H σ ρ d ρ' (Q:VK),SI X.K B G H σ ρ->m2 f ma mb ρ=some (d,ρ')->(∀G' H' v,SI X.K B G' H' σ ρ'->Fz G G'->RepD X.K G' v d->Q v H')->tOp r ta tb σ H Q:=by
 intro B G H σ ρ d ρ' Q I hm k
 obtain⟨x,ρ1,y,e1,e2,e3⟩:=m2_inv hm
 exact sa B G H σ ρ x ρ1 _ I e1 fun G1 H1 v I1 f1 r1=>sb B G1 H1 σ ρ1 y ρ' _ I1 e2 fun G2 H2 u I2 f2 r2=>
  hv B G2 H2 σ ρ' v u x y d Q I2 (r1.mono f2) r2 e3 fun G3 H3 z I3 f3 r3=>k G3 H3 z I3 (f1.trans (f2.trans f3)) r3
theorem ziG {r:R2}(ho:OpR X (binaryOp op) r)(hv:V2 X r f)(ha:SE X a ma)(hb:SE X b mb):SE X (.BinOp a op b pos) (m2 f ma mb):=by
 obtain⟨ta,pa,sa⟩:=ha
 obtain⟨tb,pb,sb⟩:=hb
 exact⟨_,pe_op ho pa pb,zhS hv sa sb⟩
theorem se_cmp {op:CmpOp}{r:R2}(ho:OpR X (compareOp op) r)(hv:V2 X r f)(ha:SE X a ma)(hb:SE X b mb)(hm:behindInMarks op b=false):SE X (.Compare a [op] [b] pos) (m2 f ma mb):=by
 obtain⟨ta,pa,sa⟩:=ha
 obtain⟨tb,pb,sb⟩:=hb
 exact⟨_,pe_cmpR ho pa pb hm,zhS hv sa sb⟩
theorem se_un {op:UnaryOp}(ho:UnR X (unaryOp op) r)(hv:V1 X r g)(ha:SE X a ma):SE X (.UnaryOp op a pos) (m1 g ma):=by
 obtain⟨ta,pa,sa⟩:=ha
 refine⟨_,pe_un ho pa,fun B G H σ ρ d ρ' Q I hm k=>?_⟩
 obtain⟨x,e1,e2⟩:=m1_inv hm
 exact sa B G H σ ρ x ρ' _ I e1 fun G1 H1 v I1 f1 r1=>hv B G1 H1 σ ρ' v x d Q I1 r1 e2 fun G2 H2 z I2 f2 r2=>k G2 H2 z I2 (f1.trans f2) r2
theorem se_ix {r:R2}(hr:IxR X r)(hv:V2 X r f)(ha:SE X a ma)(hb:SE X b mb)(hs:zfE b):SE X (.Subscript a b pos) (m2 f ma mb):=by
 obtain⟨ta,pa,sa⟩:=ha
 obtain⟨tb,pb,sb⟩:=hb
 exact⟨_,pe_ix hr pa pb hs,zhS hv sa sb⟩
end
section
variable {X:Cx} {x:Str} {p pos:Pos} {e:Expr} {es:List Expr} {ma:MA} {id T:String} {r:List V->Hp->VK->Prop} {f:List D->Option D}
theorem soundC {t:TA}(hv:VC X r f)(sa:∀B G H σ ρ ds ρ' (Q:List V->Hp->Prop),SI X.K B G H σ ρ->ma ρ=some (ds,ρ')->(∀G' H' vs,SI X.K B G' H' σ ρ'->Fz G G'->RepL X.K G' vs ds->Q vs H')->t σ H Q):
  ∀B G H σ ρ d ρ' (Q:VK),SI X.K B G H σ ρ->mC f ma ρ=some (d,ρ')->(∀G' H' v,SI X.K B G' H' σ ρ'->Fz G G'->RepD X.K G' v d->Q v H')->tCB r t σ H Q:=by
 intro B G H σ ρ d ρ' Q I hm k
 obtain⟨ds,e1,e2⟩:=mC_inv hm
 exact sa B G H σ ρ ds ρ' _ I e1 fun G1 H1 vs I1 f1 r1=>hv B G1 H1 σ ρ' vs ds d Q I1 r1 e2 fun G2 H2 z I2 f2 r2=>k G2 H2 z I2 (f1.trans f2) r2
theorem zhi (hc:zdT X (.builtin id) r)(hv:VC X r f)(hb:bootBuiltins x=some (.builtin id))(hm:X.mg x=none)(ha:SA X (e::es) ma)(hg:autoParam (Gl X x) zu3._auto_1)(hn:autoParam (x≠"__name__") zu1._auto_1)(hdb:autoParam ((x==("__debug__":Str))=false) zu1._auto_1)
  (he:autoParam (starEach (e::es) X.env=(false,eval e X.env)::starEach es X.env) zu3._auto_1) (hpl:autoParam ((backTo pos (starEach es X.env)).any (·.1)=false) zu3._auto_1):SE X (.Call (.Name x p) (e::es) [] pos) (mC f ma):=by
 obtain⟨t,pa,sa⟩:=ha
 exact⟨_,zed hc hg hm hb pa hn hdb he hpl,soundC hv sa⟩
theorem zjN (hc:zdT X (.type T) r)(hv:VC X r f)(hb:bootBuiltins x=some (.type T))(hm:X.mg x=none)(ha:SA X (e::es) ma)(hg:autoParam (Gl X x) zu3._auto_1)(hn:autoParam (x≠"__name__") zu1._auto_1)(hdb:autoParam ((x==("__debug__":Str))=false) zu1._auto_1)
  (he:autoParam (starEach (e::es) X.env=(false,eval e X.env)::starEach es X.env) zu3._auto_1) (hpl:autoParam ((backTo pos (starEach es X.env)).any (·.1)=false) zu3._auto_1):SE X (.Call (.Name x p) (e::es) [] pos) (mC f ma):=by
 obtain⟨t,pa,sa⟩:=ha
 exact⟨_,zcs hc hg hm hb pa hn hdb he hpl,soundC hv sa⟩
end
end M
namespace M
open L2 PySem PySem.Spec
open PyProof.Rows hiding St
variable {v:V} {ds:List D} {p c l:Addr} {xs vs ys:List V} {X:Cx} {C:Int->Int->Prop} {g:Int->Int->Bool} {a b e:Expr} {ma:MA} {pos pos':Pos} {i j n t:Nat} {mb:ME} {K:W.Frag} {G H H' G':Hp} {us its:List Value} {u:Value} {d:D} {B:Bs} {σ σc:St} {ρ ρ':R} {s:Sl} {x qual:Str} {Q E:Value->Shared->Prop} {f:D->D->Option D} {op:CmpOp} {m:MS} {mc:MT} {es ifs:List Expr} {h:List D->R->Option R} {body:List Stmt} {N ps:List Str} {fd:FuncData} {env:Env} {scope:Scope} {A:Around} {cl:List (Str×Addr)} {h':Heap} {prog:Program} {w:World} {use:Option (Value->Sem Unit)} {ov:Option (Option V)} {cap:List Nat} {wi:TI} {tg':Addr->Shared->Hp->List Addr->TG} {tt:Addr->Shared->Hp->List Addr->TT} {te:Addr->Shared->Hp->List Addr->TE} {ns:List Int}
section
variable {X:Cx} {K:W.Frag} {B:Bs} {G H:Hp} {σ:St} {ρ:R}
theorem SI.lst (I:SI K B G H σ ρ)(h:RepD K G v (.lst ds)):∃a xs,v= .ref a/\H a=some (.lst xs)/\RepL K G xs ds:=by
 obtain⟨a,xs,e,q,r⟩:=h
 exact⟨a,xs,e,I.fz a _ q,r⟩
theorem SI.tup (I:SI K B G H σ ρ)(h:RepD K G v (.tup ds)):∃a xs,v= .ref a/\H a=some (.tup xs)/\RepL K G xs ds:=by
 obtain⟨a,xs,e,q,r⟩:=h
 exact⟨a,xs,e,I.fz a _ q,r⟩
theorem SI.newT (I:SI K B G H σ ρ)(hp:H p=none)(h:RepL K G xs ds):SI K B (upd G p (.tup xs)) (upd H p (.tup xs)) σ ρ/\Fz G (upd G p (.tup xs))/\RepD K (upd G p (.tup xs)) (.ref p) (.tup ds):=
 ⟨I.allocF hp _,Fz.new (I.fz.free hp) _,⟨p,xs,rfl,zaf,h.mono (Fz.new (I.fz.free hp) _)⟩⟩
theorem SI.newL (I:SI K B G H σ ρ)(hp:H p=none)(h:RepL K G xs ds):SI K B (upd G p (.lst xs)) (upd H p (.lst xs)) σ ρ/\Fz G (upd G p (.lst xs))/\RepD K (upd G p (.lst xs)) (.ref p) (.lst ds):=
 ⟨I.allocF hp _,Fz.new (I.fz.free hp) _,⟨p,xs,rfl,zaf,h.mono (Fz.new (I.fz.free hp) _)⟩⟩
end
noncomputable def dI2 (c:Int->Int->Bool)(g:Int->Int->D):D->D->Option D
 | .int i,.int j=>if c i j then some (g i j)else none
 |_,_=>none
theorem zjW {c:Int->Int->Bool}{g:Int->Int->Int}(hc:∀i j,c i j=true->C i j):V2 X (rI C fun i j=> .int (g i j)) (dI2 c fun i j=> .int (g i j)):=by
 intro B G H σ ρ x y a b d Q I ra rb hf k
 cases a<;>cases b<;>simp only[dI2]at hf<;>try cases hf
 rename_i i j
 split at hf
 ·rename_i h
  cases hf
  exact⟨i,j,ra,rb,hc i j h,k G H _ I (Fz.refl G) rfl⟩
 ·cases hf
theorem v2_int0 {g:Int->Int->Int}:V2 X (rI0 fun i j=> .int (g i j)) (dI2 (fun _ _=>true) fun i j=> .int (g i j)):=by
 intro B G H σ ρ x y a b d Q I ra rb hf k
 cases a<;>cases b<;>simp only[dI2]at hf<;>try cases hf
 rename_i i j
 exact⟨i,j,ra,rb,k G H _ I (Fz.refl G) rfl⟩
theorem zc8:V2 X (rI0 fun i j=> .bl (g i j)) (dI2 (fun _ _=>true) fun i j=> .bl (g i j)):=by
 intro B G H σ ρ x y a b d Q I ra rb hf k
 cases a<;>cases b<;>simp only[dI2]at hf<;>try cases hf
 rename_i i j
 exact⟨i,j,ra,rb,k G H _ I (Fz.refl G) rfl⟩
noncomputable def dSub:D->D->Option D:=dI2 (fun _ _=>true) fun i j=> .int (i-j)
noncomputable def divOk (j:Int):Bool:=decide (0<j)&&decide (j.natAbs.log2<9000)
theorem op_fdivW:OpR X (binaryOp .FloorDiv) (rI (fun _ j=>0<j/\j.natAbs.log2<9000) fun i j=> .int (i/j)):=opI fun i j _ _ _ _ _ hc q=>by
 have h1:(0:Int)<j:=hc.1
 exact PyProof.Rows.floordiv_int (by lia) (by rw[Int.fdiv_eq_ediv_of_nonneg i (by lia)];exact q) (.inl (PyProof.noPylong_of_log2 hc.2))
noncomputable def dDiv:D->D->Option D:=dI2 (fun _ j=>divOk j) fun i j=> .int (i/j)
noncomputable def dMod:D->D->Option D:=dI2 (fun _ j=>decide (0<j)) fun i j=> .int (i%j)
noncomputable def dPow:D->D->Option D:=dI2 (fun i j=>decide (0<=j)&&decide (j<=1000000)&&decide (i.natAbs<2^64)) fun i j=> .int (i^j.toNat)
noncomputable def dLt:D->D->Option D:=dI2 (fun _ _=>true) fun i j=> .bl (decide (i<j))
noncomputable def dLe:D->D->Option D:=dI2 (fun _ _=>true) fun i j=> .bl (decide (i<=j))
noncomputable def dGe:D->D->Option D:=dI2 (fun _ _=>true) fun i j=> .bl (decide (j<=i))
section
variable {X:Cx} {a b:Expr} {ma mb:ME} {pos:Pos}
theorem zc2 (ha:SE X a ma)(hb:SE X b mb):SE X (.BinOp a .Sub b pos) (m2 dSub ma mb):=ziG op_sub v2_int0 ha hb
theorem zhz (ha:SE X a ma)(hb:SE X b mb):SE X (.BinOp a .FloorDiv b pos) (m2 dDiv ma mb):=ziG op_fdivW (zjW fun i j h=>by simpa[divOk]using h) ha hb
theorem zeT (ha:SE X a ma)(hb:SE X b mb):SE X (.BinOp a .Mod b pos) (m2 dMod ma mb):=ziG op_mod (zjW fun i j h=>by simpa using h) ha hb
theorem zd4 (ha:SE X a ma)(hb:SE X b mb):SE X (.BinOp a .Pow b pos) (m2 dPow ma mb):=ziG op_pow (zjW fun i j h=>by simp only[Bool.and_eq_true,decide_eq_true_eq]at h;exact⟨h.1.1,h.1.2,h.2⟩) ha hb
theorem se_le (ha:SE X a ma)(hb:SE X b mb):SE X (.Compare a [.LtE] [b] pos) (m2 dLe ma mb):=se_cmp zgE zc8 ha hb (ze4 _)
end
noncomputable def dNeg:D->Option D
 | .int i=>some (.int (-i))
 |_=>none
theorem se_neg {ma:ME}(ha:SE X a ma):SE X (.UnaryOp .USub a pos) (m1 dNeg ma):=
 se_un un_neg (fun B G H σ ρ x a d Q I ra hf k=>by
  cases a<;>simp only[dNeg]at hf<;>try cases hf
  exact⟨_,ra,k G H _ I (Fz.refl G) rfl⟩) ha
noncomputable def zgI (i j:Int):Bool:=(decide (i.natAbs<2^64)||decide (j.natAbs<2^64))||(decide (i.natAbs<2^4000)&&decide (j.natAbs<2^4000))
noncomputable def dMul:D->D->Option D
 | .int i,.int j=>if zgI i j then some (.int (i*j))else none
 | .lst ds,.int k=>if decide (-1000000<=k)&&decide (k<=1000000)&&decide (ds.length*k.toNat<=1000000)then some (.lst (List.replicate k.toNat ds).flatten)else none
 |_,_=>none
theorem ze6 {k:Int}(h:k.natAbs<2^4000):Builtin.Int.intBits k<=4000:=by
 unfold Builtin.Int.intBits
 split
 ·exact Nat.zero_le _
 ·have:k.natAbs.log2<4000:=by
   rcases Nat.eq_zero_or_pos k.natAbs with h0|hp
   ·rw[h0];decide
   ·exact(Nat.log2_lt (Nat.ne_of_gt hp)).mpr h
  lia
theorem mulOk_ok {i j:Int}(h:zgI i j=true):IntMulOk i j:=by
 unfold zgI at h
 simp only[Bool.or_eq_true,Bool.and_eq_true,decide_eq_true_eq]at h
 rcases h with(h|h)|⟨h1,h2⟩
 ·exact .of_left (intBits_le_64 (by lia) (by lia))
 ·exact .of_right (intBits_le_64 (by lia) (by lia))
 ·have b1:=ze6 h1
  have b2:=ze6 h2
  unfold IntMulOk
  intro z
  simp only[Bool.and_eq_true]at z
  have z2:=z.2
  unfold Builtin.Int.intTooBig at z2
  revert z2
  generalize Builtin.Int.intBits i=p at*
  generalize Builtin.Int.intBits j=q at*
  intro z2
  have z3:=of_decide_eq_true z2
  have hb:=bitsLine_eq
  lia
theorem op_mulG:OpR X (binaryOp .Mult) (rI IntMulOk fun i j=> .int (i*j)):=opI fun _ _ _ _ _ _ _ hc q=>mul_int q hc
theorem zcZ {ma mb:ME}(ha:SE X a ma)(hb:SE X b mb):SE X (.BinOp a .Mult b pos) (m2 dMul ma mb):=by
 refine ziG (op_mulG.or op_rep) (fun B G H σ ρ x y a b d Q I ra rb hf k=>?_) ha hb
 cases a<;>cases b<;>simp only[dMul]at hf<;>try cases hf
 ·rename_i i j
  split at hf
  ·rename_i h
   cases hf
   exact .inl ⟨i,j,ra,rb,mulOk_ok h,k G H _ I (Fz.refl G) rfl⟩
  ·cases hf
 ·rename_i ds j
  split at hf
  ·rename_i h
   cases hf
   simp only[Bool.and_eq_true,decide_eq_true_eq]at h
   obtain⟨a,xs,rfl,ha,r⟩:=I.lst ra
   have hl:=r.length
   refine .inr ⟨a,j,xs,rfl,rb,ha,by lia,by lia,by rw[hl,sizeLine_eq];lia,fun p hp=>?_⟩
   obtain⟨I2,f2,r2⟩:=I.newL hp (r.rep j.toNat)
   exact k _ _ _ I2 f2 r2
  ·cases hf
noncomputable def dAdd:D->D->Option D
 | .int i,.int j=>some (.int (i+j))
 | .tup a,.tup b=>if a.length+b.length<=16777216 then some (.tup (a++b))else none
 | .lst a,.lst b=>if a.length+b.length<=16777216 then some (.lst (a++b))else none
 | .str a,.str b=>if a.length+b.length<=16777216 then some (.str (a++b))else none
 |_,_=>none
theorem op_catT0:OpR X (binaryOp .Add) (fun x y H Q=>∃a b ys,x= .ref a/\y= .ref b/\SqT X.K H a []/\SqT X.K H b ys/\Q (.ref b) H):=by
 intro pins s σ H x y v u Q I rx ry h
 obtain⟨a,b,ys,rfl,rfl,ha,hb,q⟩:=h
 cases rx
 cases ry
 obtain⟨its,r1,p1,_⟩:=I.tuple ha
 obtain⟨its2,r2,p2,_⟩:=I.tuple hb
 obtain rfl:its=[]:=by cases r1;rfl
 obtain⟨⟨cls,dd,data,sl⟩,ho,hc,n,hd⟩:=id p1
 obtain⟨⟨cls2,dd2,data2,sl2⟩,ho2,hc2,n2,hd2⟩:=id p2
 simp only at hc hd hc2 hd2
 subst hc hd hc2 hd2
 exact concat_meets ⟨_,ho,rfl⟩ ⟨_,ho2,rfl⟩ noFill_tuple_add seq_tuple_add PySem.F.slot_tuple_add PySem.F.entry_tuple_add (PySem.F.args_tuple_add_2 _ _)
   (tuple_addW0 a b _ _ n n2 dd dd2 sl sl2 (by simp)) ⟨ho,ho2,⟨.ref b,H,I,rfl,q⟩⟩
theorem zaQ {ma mb:ME}(ha:SE X a ma)(hb:SE X b mb):SE X (.BinOp a .Add b pos) (m2 dAdd ma mb):=by
 refine ziG (op_add.or (op_catT.or (op_catT0.or (op_cat.or ziB)))) (fun B G H σ ρ x y a b d Q I ra rb hf k=>?_) ha hb
 cases a<;>cases b<;>simp only[dAdd]at hf<;>try cases hf
 ·exact .inl ⟨_,_,ra,rb,k G H _ I (Fz.refl G) rfl⟩
 ·rename_i i j
  split at hf
  ·rename_i h
   cases hf
   exact .inr (.inr (.inr (.inr ⟨i,j,ra,rb,by rw[sizeLine_eq];exact h,k G H _ I (Fz.refl G) rfl⟩)))
  ·cases hf
 ·rename_i as bs
  split at hf
  ·rename_i h
   cases hf
   obtain⟨a,xs,rfl,ha,r⟩:=I.lst ra
   obtain⟨b,ys,rfl,hb,r2⟩:=I.lst rb
   refine .inr (.inr (.inr (.inl ⟨a,b,xs,ys,rfl,rfl,ha,hb,by rw[r.length,r2.length,sizeLine_eq];exact h,fun p hp=>?_⟩)))
   obtain⟨I2,f2,r2⟩:=I.newL hp (r.append r2)
   exact k _ _ _ I2 f2 r2
  ·cases hf
 ·rename_i as bs
  split at hf
  ·rename_i h
   cases hf
   obtain⟨a,xs,rfl,ha,r⟩:=I.tup ra
   obtain⟨b,ys,rfl,hb,r2⟩:=I.tup rb
   by_cases z:xs=[]
   ·subst z
    have z':as=[]:=List.eq_nil_of_length_eq_zero r.length.symm
    subst z'
    exact .inr (.inr (.inl ⟨a,b,ys,rfl,rfl,SqT.of ha,SqT.of hb,k G H _ I (Fz.refl G) rb⟩))
   ·refine .inr (.inl ⟨a,b,xs,ys,rfl,rfl,SqT.of ha,SqT.of hb,z,by rw[r.length,r2.length,sizeLine_eq];exact h,fun w=>?_,fun w p hp=>?_⟩)
    ·subst w
     have w':bs=[]:=List.eq_nil_of_length_eq_zero r2.length.symm
     subst w'
     rw[List.append_nil]at k
     exact k G H _ I (Fz.refl G) ra
    ·obtain⟨I2,f2,r2⟩:=I.newT hp (r.append r2)
     exact k _ _ _ I2 f2 r2
  ·cases hf
mutual
noncomputable def noS:D->Bool
 | .scr _=>false
 | .exc _=>false
 | .dic _ _=>false
 | .dit _ _=>false
 | .lst ds=>noSL ds
 | .tup ds=>noSL ds
 |_=>true
noncomputable def noSL:List D->Bool
 |[]=>true
 |d::ds=>noS d&&noSL ds
end
mutual
noncomputable def eqB:D->D->Bool
 | .non,.non=>true
 | .bl a,.bl b=>a==b
 | .int a,.int b=>a==b
 | .str a,.str b=>a==b
 | .bl a,.int b=>(if a then 1 else 0)==b
 | .int a,.bl b=>a==(if b then 1 else 0)
 | .lst a,.lst b=>eqBL a b
 | .tup a,.tup b=>eqBL a b
 |_,_=>false
noncomputable def eqBL:List D->List D->Bool
 |[],[]=>true
 |a::as,b::bs=>eqB a b&&eqBL as bs
 |_,_=>false
end
theorem zdu:∀{as bs:List D},as.length≠bs.length->eqBL as bs=false
 |[],[],h=>absurd rfl h
 |[],_::_,_=>rfl
 |_::_,[],_=>rfl
 |a::as,b::bs,h=>by
  have:=zdu (as:=as) (bs:=bs) (fun e=>h (by simp[e]))
  simp[eqBL,this]
mutual
theorem zfw:∀d,noS d=true->eqB d d=true
 | .non,_=>rfl
 | .bl b,_=>by simp[eqB]
 | .int b,_=>by simp[eqB]
 | .str b,_=>by simp[eqB]
 | .lst ds,h=>by simp only[noS]at h;simp only[eqB];exact zeu ds h
 | .tup ds,h=>by simp only[noS]at h;simp only[eqB];exact zeu ds h
 | .scr _,h=>by simp[noS]at h
 | .exc _,h=>by simp[noS]at h
 |(.dic _ _),h=>by simp[noS]at h
 |(.dit _ _),h=>by simp[noS]at h
theorem zeu:∀ds,noSL ds=true->eqBL ds ds=true
 |[],_=>rfl
 |d::ds,h=>by
  simp only[noSL,Bool.and_eq_true]at h
  simp only[eqBL,Bool.and_eq_true]
  exact⟨zfw d h.1,zeu ds h.2⟩
end
mutual
noncomputable def depth:D->Nat
 | .lst ds=>zcY ds+1
 | .tup ds=>zcY ds+1
 |_=>0
noncomputable def zcY:List D->Nat
 |[]=>0
 |d::ds=>max (depth d) (zcY ds)
end
theorem zdV:∀{l:List D} {i:Nat} {d:D},l[i]? =some d->depth d<=zcY l
 |[],_,_,h=>by simp at h
 |c::l,0,d,h=>by simp at h;subst h;simp only[zcY];lia
 |c::l,i+1,d,h=>by
  have:=zdV (l:=l) (i:=i) (d:=d) (by simpa using h)
  simp only[zcY];lia
theorem zdC:∀{l:List D} {i:Nat} {d:D},l[i]? =some d->noSL l=true->noS d=true
 |[],_,_,h,_=>by simp at h
 |c::l,0,d,h,z=>by simp at h;subst h;simp only[noSL,Bool.and_eq_true]at z;exact z.1
 |c::l,i+1,d,h,z=>by simp only[noSL,Bool.and_eq_true]at z;exact zdC (l:=l) (i:=i) (by simpa using h) z.2
mutual
theorem RepD.inj:∀{a b:D} {x:V},noS a=true->noS b=true->RepD K G x a->RepD K G x b->a=b
 | .non,b,x,_,nb,ra,rb=>by
  cases(show x=V.non from ra)
  cases b<;>simp_all [RepD,noS]
 | .bl c,b,x,_,nb,ra,rb=>by
  cases(show x=V.bl c from ra)
  cases b<;>simp_all [RepD,noS]
 | .int c,b,x,_,nb,ra,rb=>by
  cases(show x=V.int c from ra)
  cases b<;>simp_all [RepD,noS]
 | .str c,b,x,_,nb,ra,rb=>by
  cases(show x=V.str c from ra)
  cases b<;>simp_all [RepD,noS]
 | .lst ds,b,x,na,nb,ra,rb=>by
  obtain⟨p,xs,rfl,q,r⟩:=ra
  cases b with
  |lst es=>
   obtain⟨p2,ys,e,q2,r2⟩:=rb
   cases e
   rw[q]at q2
   cases q2
   simp only[noS]at na nb
   rw[RepL.inj na nb r r2]
  |tup es=>
   obtain⟨p2,ys,e,q2,r2⟩:=rb
   cases e
   rw[q]at q2
   cases q2
  |scr _=>simp[noS]at nb
  |exc _=>simp[noS]at nb
  |dic _ _=>simp[noS]at nb
  |dit _ _=>simp[noS]at nb
  |non=>simp[RepD]at rb
  |bl _=>simp[RepD]at rb
  |int _=>simp[RepD]at rb
  |str _=>simp[RepD]at rb
 | .tup ds,b,x,na,nb,ra,rb=>by
  obtain⟨p,xs,rfl,q,r⟩:=ra
  cases b with
  |tup es=>
   obtain⟨p2,ys,e,q2,r2⟩:=rb
   cases e
   rw[q]at q2
   cases q2
   simp only[noS]at na nb
   rw[RepL.inj na nb r r2]
  |lst es=>
   obtain⟨p2,ys,e,q2,r2⟩:=rb
   cases e
   rw[q]at q2
   cases q2
  |scr _=>simp[noS]at nb
  |exc _=>simp[noS]at nb
  |dic _ _=>simp[noS]at nb
  |dit _ _=>simp[noS]at nb
  |non=>simp[RepD]at rb
  |bl _=>simp[RepD]at rb
  |int _=>simp[RepD]at rb
  |str _=>simp[RepD]at rb
 | .scr _,_,_,na,_,_,_=>by simp[noS]at na
 | .exc _,_,_,na,_,_,_=>by simp[noS]at na
 |(.dic _ _),_,_,na,_,_,_=>by simp[noS]at na
 |(.dit _ _),_,_,na,_,_,_=>by simp[noS]at na
theorem RepL.inj:∀{as bs:List D} {xs:List V},noSL as=true->noSL bs=true->RepL K G xs as->RepL K G xs bs->as=bs
 |[],[],_,_,_,_,_=>rfl
 |[],_::_,xs,_,_,e,h=>by
  obtain⟨_,_,e2,_⟩:=h
  cases(show xs=[]from e)
  cases e2
 |_::_,[],xs,_,_,h,e=>by
  obtain⟨_,_,e2,_⟩:=h
  cases(show xs=[]from e)
  cases e2
 |a::as,b::bs,xs,na,nb,h,h2=>by
  obtain⟨x,ys,e,q,r⟩:=h
  obtain⟨x2,ys2,e2,q2,r2⟩:=h2
  subst e
  cases e2
  simp only[noSL,Bool.and_eq_true]at na nb
  rw[RepD.inj na.1 nb.1 q q2,RepL.inj na.2 nb.2 r r2]
end
noncomputable def eqJ (ds es:List D)(j:Nat):Bool:=match ds[j]?,es[j]? with
 |some a,some b=>eqB a b
 |_,_=>false
theorem zb1:∀(as bs:List D),as.length=bs.length->(List.range as.length).all (eqJ as bs)=eqBL as bs
 |[],[],_=>by simp[eqBL]
 |a::as,b::bs,h=>by
  have ih:=zb1 as bs (by simpa using h)
  rw[List.length_cons,List.range_succ_eq_map,List.all_cons,List.all_map]
  simp only[eqBL,<-ih]
  congr 1
 |[],_::_,h=>by simp at h
 |_::_,[],h=>by simp at h
section
variable {X:Cx} {pins:List (Addr×Obj)} {σ:St} {H G:Hp} {s:Shared}
theorem zfI (r:Vals xs us)(h:RepL X.K G xs ds)(e:us[j]? =some u):∃x d,ds[j]? =some d/\RelV x u/\RepD X.K G x d:=by
 have hl:=r.length
 have hl2:=h.length
 have hj:j<us.length:=(List.getElem?_eq_some_iff.mp e).1
 have ej:ds[j]? =some ds[j]:=List.getElem?_eq_getElem (by lia)
 obtain⟨x,q1,q2⟩:=h.get ej
 obtain⟨u',h1,h2⟩:=r.get q1
 have:u'=u:=by rw[h1]at e;exact Option.some.inj e
 subst this
 exact⟨x,_,ej,h2,q2⟩
theorem eqAt_D (I:Inv X pins σ H s)(fz:Fz G H):∀(n:Nat) (A:Around) (a b:D) (x y:V) (u v:Value),depth a<=n->noS a=true->noS b=true->A.units+n+1<cLine->RepD X.K G x a->RepD X.K G y b->RelV x u->RelV y v->
  SeqAt.EqAt A s u v (eqB a b)/\SeqAt.RcAt A s u v (eqB a b):=by
 intro n
 induction n with
 |zero=>
  intro A a b x y u v hd na nb hu ra rb rx ry
  have hu':A.units<cLine:=by lia
  cases a with
  |non=>
   cases(show x=V.non from ra);cases(show u=Value.none from rx)
   cases b with
   |non=>cases(show y=V.non from rb);cases(show v=Value.none from ry);exact⟨.same _,.none_none⟩
   |bl c=>cases(show y=V.bl c from rb);cases(show v=Value.bool c from ry);exact⟨.none_bool _,.none_bool _⟩
   |int c=>cases(show y=V.int c from rb);obtain⟨t,rfl⟩:=ry;exact⟨.none_int _ _,.none_int _ _⟩
   |str c=>cases(show y=V.str c from rb);obtain⟨t,rfl⟩:=ry;exact⟨.none_str _ _,.none_str _ _⟩
   |lst ds=>
    obtain⟨p,xs,rfl,q,r⟩:=rb
    cases(show v=Value.ref p from ry)
    obtain⟨its,rv,pl,hz⟩:=I.list (SqL.of (fz _ _ q))
    exact⟨.none_list pl.isList hu',.none_list pl.isList hu'⟩
   |tup ds=>
    obtain⟨p,xs,rfl,q,r⟩:=rb
    cases(show v=Value.ref p from ry)
    obtain⟨its,rv,pl,hz⟩:=I.tuple (SqT.of (fz _ _ q))
    exact⟨.none_tuple pl hu',.none_tuple pl hu'⟩
   |scr _=>simp[noS]at nb
   |exc _=>simp[noS]at nb
   |dic _ _=>simp[noS]at nb
   |dit _ _=>simp[noS]at nb
  |bl c0=>
   cases(show x=V.bl c0 from ra);cases(show u=Value.bool c0 from rx)
   cases b with
   |non=>cases(show y=V.non from rb);cases(show v=Value.none from ry);exact⟨.bool_none _,.bool_none _⟩
   |bl c=>cases(show y=V.bl c from rb);cases(show v=Value.bool c from ry);exact⟨.bool_bool _ _,.bool_bool _ _⟩
   |int c=>cases(show y=V.int c from rb);obtain⟨t,rfl⟩:=ry;exact⟨.bool_int _ _ _,.bool_int _ _ _⟩
   |str c=>cases(show y=V.str c from rb);obtain⟨t,rfl⟩:=ry;exact⟨.bool_str _ _ _,.bool_str _ _ _⟩
   |lst ds=>
    obtain⟨p,xs,rfl,q,r⟩:=rb
    cases(show v=Value.ref p from ry)
    obtain⟨its,rv,pl,hz⟩:=I.list (SqL.of (fz _ _ q))
    exact⟨.bool_list _ pl.isList hu',.bool_list _ pl.isList hu'⟩
   |tup ds=>
    obtain⟨p,xs,rfl,q,r⟩:=rb
    cases(show v=Value.ref p from ry)
    obtain⟨its,rv,pl,hz⟩:=I.tuple (SqT.of (fz _ _ q))
    exact⟨.bool_tuple _ pl hu',.bool_tuple _ pl hu'⟩
   |scr _=>simp[noS]at nb
   |exc _=>simp[noS]at nb
   |dic _ _=>simp[noS]at nb
   |dit _ _=>simp[noS]at nb
  |int c0=>
   cases(show x=V.int c0 from ra);obtain⟨t0,rfl⟩:=rx
   cases b with
   |non=>cases(show y=V.non from rb);cases(show v=Value.none from ry);exact⟨.int_none _ _,.int_none _ _⟩
   |bl c=>cases(show y=V.bl c from rb);cases(show v=Value.bool c from ry);exact⟨.int_bool _ _ _,.int_bool _ _ _⟩
   |int c=>cases(show y=V.int c from rb);obtain⟨t,rfl⟩:=ry;exact⟨.int_int _ _ _ _,.int_int _ _ _ _⟩
   |str c=>cases(show y=V.str c from rb);obtain⟨t,rfl⟩:=ry;exact⟨.int_str _ _ _ _,.int_str _ _ _ _⟩
   |lst ds=>
    obtain⟨p,xs,rfl,q,r⟩:=rb
    cases(show v=Value.ref p from ry)
    obtain⟨its,rv,pl,hz⟩:=I.list (SqL.of (fz _ _ q))
    exact⟨.int_list _ _ pl.isList hu',.int_list _ _ pl.isList hu'⟩
   |tup ds=>
    obtain⟨p,xs,rfl,q,r⟩:=rb
    cases(show v=Value.ref p from ry)
    obtain⟨its,rv,pl,hz⟩:=I.tuple (SqT.of (fz _ _ q))
    exact⟨.int_tuple _ _ pl hu',.int_tuple _ _ pl hu'⟩
   |scr _=>simp[noS]at nb
   |exc _=>simp[noS]at nb
   |dic _ _=>simp[noS]at nb
   |dit _ _=>simp[noS]at nb
  |str c0=>
   cases(show x=V.str c0 from ra);obtain⟨t0,rfl⟩:=rx
   cases b with
   |non=>cases(show y=V.non from rb);cases(show v=Value.none from ry);exact⟨.str_none _ _,.str_none _ _⟩
   |bl c=>cases(show y=V.bl c from rb);cases(show v=Value.bool c from ry);exact⟨.str_bool _ _ _,.str_bool _ _ _⟩
   |int c=>cases(show y=V.int c from rb);obtain⟨t,rfl⟩:=ry;exact⟨.str_int _ _ _ _,.str_int _ _ _ _⟩
   |str c=>cases(show y=V.str c from rb);obtain⟨t,rfl⟩:=ry;exact⟨.str_str _ _ _ _,.str_str _ _ _ _⟩
   |lst ds=>
    obtain⟨p,xs,rfl,q,r⟩:=rb
    cases(show v=Value.ref p from ry)
    obtain⟨its,rv,pl,hz⟩:=I.list (SqL.of (fz _ _ q))
    exact⟨.str_list _ _ pl.isList hu',.str_list _ _ pl.isList hu'⟩
   |tup ds=>
    obtain⟨p,xs,rfl,q,r⟩:=rb
    cases(show v=Value.ref p from ry)
    obtain⟨its,rv,pl,hz⟩:=I.tuple (SqT.of (fz _ _ q))
    exact⟨.str_tuple _ _ pl hu',.str_tuple _ _ pl hu'⟩
   |scr _=>simp[noS]at nb
   |exc _=>simp[noS]at nb
   |dic _ _=>simp[noS]at nb
   |dit _ _=>simp[noS]at nb
  |lst ds=>simp[depth]at hd
  |tup ds=>simp[depth]at hd
  |scr _=>simp[noS]at na
  |exc _=>simp[noS]at na
  |dic _ _=>simp[noS]at na
  |dit _ _=>simp[noS]at na
 |succ n ih=>
  intro A a b x y u v hd na nb hu ra rb rx ry
  have hu':A.units<cLine:=by lia
  have items:∀(ds es:List D) (xs ys:List V) (its its2:List Value),zcY ds<=n->noSL ds=true->noSL es=true->RepL X.K G xs ds->RepL X.K G ys es->Vals xs its->Vals ys its2->
    ∀j (h1:j<its.toArray.size) (h2:j<its2.toArray.size),SeqAt.EqAt A.in1 s its.toArray[j] its2.toArray[j] (eqJ ds es j):=by
   intro ds es xs ys its its2 hd nd ne r r2 rv rv2 j h1 h2
   simp only[List.size_toArray]at h1 h2
   obtain⟨x1,d1,e1,k1,m1⟩:=zfI rv r (j:=j) (u:=its[j]) (List.getElem?_eq_getElem h1)
   obtain⟨x2,d2,e2,k2,m2⟩:=zfI rv2 r2 (j:=j) (u:=its2[j]) (List.getElem?_eq_getElem h2)
   have e:eqJ ds es j=eqB d1 d2:=by unfold eqJ;rw[e1,e2]
   rw[e]
   have:=zdV e1
   simpa using(ih A.in1 d1 d2 x1 x2 _ _ (by lia) (zdC e1 nd) (zdC e2 ne) (by show A.units+1+n+1<cLine;lia) m1 m2 k1 k2).1
  cases a with
  |scr _=>simp[noS]at na
  |exc _=>simp[noS]at na
  |dic _ _=>simp[noS]at na
  |dit _ _=>simp[noS]at na
  |non=>exact ih A .non b x y u v (Nat.zero_le _) na nb (by lia) ra rb rx ry
  |bl c=>exact ih A (.bl c) b x y u v (Nat.zero_le _) na nb (by lia) ra rb rx ry
  |int c=>exact ih A (.int c) b x y u v (Nat.zero_le _) na nb (by lia) ra rb rx ry
  |str c=>exact ih A (.str c) b x y u v (Nat.zero_le _) na nb (by lia) ra rb rx ry
  |lst ds=>
   have ra0:=ra
   obtain⟨p,xs,rfl,q,r⟩:=ra
   cases(show u=Value.ref p from rx)
   obtain⟨its,rv,pl,hz⟩:=I.list (SqL.of (fz _ _ q))
   cases b with
   |non=>cases(show y=V.non from rb);cases(show v=Value.none from ry);exact⟨.list_none pl.isList hu',.list_none pl.isList hu'⟩
   |bl c=>cases(show y=V.bl c from rb);cases(show v=Value.bool c from ry);exact⟨.list_bool _ pl.isList hu',.list_bool _ pl.isList hu'⟩
   |int c=>cases(show y=V.int c from rb);obtain⟨t,rfl⟩:=ry;exact⟨.list_int _ _ pl.isList hu',.list_int _ _ pl.isList hu'⟩
   |str c=>cases(show y=V.str c from rb);obtain⟨t,rfl⟩:=ry;exact⟨.list_str _ _ pl.isList hu',.list_str _ _ pl.isList hu'⟩
   |scr _=>simp[noS]at nb
   |exc _=>simp[noS]at nb
   |dic _ _=>simp[noS]at nb
   |dit _ _=>simp[noS]at nb
   |tup es=>
    obtain⟨p2,ys,rfl,q2,r2⟩:=rb
    cases(show v=Value.ref p2 from ry)
    obtain⟨its2,rv2,pl2,hz2⟩:=I.tuple (SqT.of (fz _ _ q2))
    exact⟨.list_tuple pl.isList pl2 hu',.list_tuple pl.isList pl2 hu'⟩
   |lst es=>
    have rb0:=rb
    obtain⟨p2,ys,rfl,q2,r2⟩:=rb
    cases(show v=Value.ref p2 from ry)
    obtain⟨its2,rv2,pl2,hz2⟩:=I.list (SqL.of (fz _ _ q2))
    simp only[depth]at hd
    have l1:=rv.length;have l2:=r.length;have l3:=rv2.length;have l4:=r2.length
    have rc:SeqAt.RcAt A s (.ref p) (.ref p2) (eqBL ds es):=by
     by_cases hl:ds.length=es.length
     ·have z:=SeqAt.RcAt.lists (A:=A) (s:=s) (e:=eqJ ds es) pl.isList pl2.isList (by simp only[List.size_toArray];lia) hu' (items ds es xs ys its its2 (by lia) (by simpa only[noS]using na) (by simpa only[noS]using nb) r r2 rv rv2)
      rw[List.size_toArray,<-l1,l2,zb1 ds es hl]at z
      exact z
     ·rw[zdu hl]
      refine .lists_lengths pl.isList pl2.isList ?_ hu'
      simp only[List.size_toArray,bne_iff_ne,ne_eq]
      lia
    refine⟨?_,by simp only[eqB];exact rc⟩
    by_cases hp:p=p2
    ·subst hp
     have e:=RepD.inj na nb ra0 rb0
     cases e
     rw[zfw _ na]
     exact .same _
    ·simp only[eqB]
     exact .of_refs hp rc
  |tup ds=>
   have ra0:=ra
   obtain⟨p,xs,rfl,q,r⟩:=ra
   cases(show u=Value.ref p from rx)
   obtain⟨its,rv,pl,hz⟩:=I.tuple (SqT.of (fz _ _ q))
   cases b with
   |non=>cases(show y=V.non from rb);cases(show v=Value.none from ry);exact⟨.tuple_none pl hu',.tuple_none pl hu'⟩
   |bl c=>cases(show y=V.bl c from rb);cases(show v=Value.bool c from ry);exact⟨.tuple_bool _ pl hu',.tuple_bool _ pl hu'⟩
   |int c=>cases(show y=V.int c from rb);obtain⟨t,rfl⟩:=ry;exact⟨.tuple_int _ _ pl hu',.tuple_int _ _ pl hu'⟩
   |str c=>cases(show y=V.str c from rb);obtain⟨t,rfl⟩:=ry;exact⟨.tuple_str _ _ pl hu',.tuple_str _ _ pl hu'⟩
   |scr _=>simp[noS]at nb
   |exc _=>simp[noS]at nb
   |dic _ _=>simp[noS]at nb
   |dit _ _=>simp[noS]at nb
   |lst es=>
    obtain⟨p2,ys,rfl,q2,r2⟩:=rb
    cases(show v=Value.ref p2 from ry)
    obtain⟨its2,rv2,pl2,hz2⟩:=I.list (SqL.of (fz _ _ q2))
    exact⟨.tuple_list pl pl2.isList hu',.tuple_list pl pl2.isList hu'⟩
   |tup es=>
    have rb0:=rb
    obtain⟨p2,ys,rfl,q2,r2⟩:=rb
    cases(show v=Value.ref p2 from ry)
    obtain⟨its2,rv2,pl2,hz2⟩:=I.tuple (SqT.of (fz _ _ q2))
    simp only[depth]at hd
    have l1:=rv.length;have l2:=r.length;have l3:=rv2.length;have l4:=r2.length
    have rc:SeqAt.RcAt A s (.ref p) (.ref p2) (eqBL ds es):=by
     have z:=SeqAt.RcAt.tuples (A:=A) (s:=s) (e:=eqJ ds es) pl pl2 hu' (items ds es xs ys its its2 (by lia) (by simpa only[noS]using na) (by simpa only[noS]using nb) r r2 rv rv2)
     simp only[List.size_toArray]at z
     by_cases hl:ds.length=es.length
     ·have e1:min its.length its2.length=ds.length:=by lia
      have e2:(its.length==its2.length)=true:=by simp;lia
      rw[e1,e2,Bool.and_true,zb1 ds es hl]at z
      exact z
     ·have e2:(its.length==its2.length)=false:=by simp;lia
      rw[e2,Bool.and_false]at z
      rw[zdu hl]
      exact z
    refine⟨?_,by simp only[eqB];exact rc⟩
    by_cases hp:p=p2
    ·subst hp
     have e:=RepD.inj na nb ra0 rb0
     cases e
     rw[zfw _ na]
     exact .same _
    ·simp only[eqB]
     exact .of_refs hp rc
end
noncomputable def dEq (a b:D):Option D:=if noS a&&noS b&&decide (depth a<=50)then some (.bl (eqB a b))else none
noncomputable def dNe (a b:D):Option D:=if noS a&&noS b&&decide (depth a<=50)then some (.bl (!eqB a b))else none
noncomputable def rEqD (K:W.Frag)(c:Bool->Bool):R2:=fun x y H Q=>∃G a b,Fz G H/\RepD K G x a/\RepD K G y b/\noS a=true/\noS b=true/\depth a<=50/\Q (.bl (c (eqB a b))) H
theorem op_eqD (hu:X.A.units+64<cLine):OpR X (compareOp .Eq) (rEqD X.K id):=by
 intro pins s σ H x y v u Q I rx ry h
 obtain⟨G,a,b,fz,ra,rb,na,nb,hd,q⟩:=h
 exact(eqAt_D I fz 50 X.A a b x y v u hd na nb (by lia) ra rb rx ry).2 _ _ _ _ ⟨.bl _,H,I,rfl,q⟩
theorem zjc {ma mb:ME}(hu:X.A.units+64<cLine)(ha:SE X a ma)(hb:SE X b mb):SE X (.Compare a [.Eq] [b] pos) (m2 dEq ma mb):=by
 refine se_cmp (op_eqD hu) (fun B G H σ ρ x y a b d Q I ra rb hf k=>?_) ha hb (ze4 _)
 unfold dEq at hf
 split at hf
 ·rename_i h
  simp only[Bool.and_eq_true,decide_eq_true_eq]at h
  cases hf
  exact⟨G,a,b,I.fz,ra,rb,h.1.1,h.1.2,h.2,k G H _ I (Fz.refl G) rfl⟩
 ·cases hf
section
variable {X:Cx} {pins:List (Addr×Obj)} {σ:St} {H G:Hp} {s:Shared}
theorem neAt_D (I:Inv X pins σ H s)(fz:Fz G H)(A:Around)(a b:D)(x y:V)(u v:Value)(hd:depth a<=50)(na:noS a=true)(nb:noS b=true)(hu:A.units+64<cLine)(ra:RepD X.K G x a)(rb:RepD X.K G y b)(rx:RelV x u)(ry:RelV y v):
  SeqAt.RcNeAt A s u v (!eqB a b):=by
 have hu':A.units<cLine:=by lia
 have items:∀(ds es:List D) (xs ys:List V) (its its2:List Value),zcY ds<=49->noSL ds=true->noSL es=true->RepL X.K G xs ds->RepL X.K G ys es->Vals xs its->Vals ys its2->
   ∀j (h1:j<its.toArray.size) (h2:j<its2.toArray.size),SeqAt.EqAt A.in1 s its.toArray[j] its2.toArray[j] (eqJ ds es j):=by
  intro ds es xs ys its its2 hd nd ne r r2 rv rv2 j h1 h2
  simp only[List.size_toArray]at h1 h2
  obtain⟨x1,d1,e1,k1,m1⟩:=zfI rv r (j:=j) (u:=its[j]) (List.getElem?_eq_getElem h1)
  obtain⟨x2,d2,e2,k2,m2⟩:=zfI rv2 r2 (j:=j) (u:=its2[j]) (List.getElem?_eq_getElem h2)
  have e:eqJ ds es j=eqB d1 d2:=by unfold eqJ;rw[e1,e2]
  rw[e]
  have:=zdV e1
  simpa using(eqAt_D I fz 49 A.in1 d1 d2 x1 x2 _ _ (by lia) (zdC e1 nd) (zdC e2 ne) (by show A.units+1+49+1<cLine;lia) m1 m2 k1 k2).1
 cases a with
 |scr _=>simp[noS]at na
 |exc _=>simp[noS]at na
 |dic _ _=>simp[noS]at na
 |dit _ _=>simp[noS]at na
 |non=>
  cases(show x=V.non from ra);cases(show u=Value.none from rx)
  cases b with
  |non=>cases(show y=V.non from rb);cases(show v=Value.none from ry);exact .none_none
  |bl c=>cases(show y=V.bl c from rb);cases(show v=Value.bool c from ry);exact .none_bool _
  |int c=>cases(show y=V.int c from rb);obtain⟨t,rfl⟩:=ry;exact .none_int _ _
  |str c=>cases(show y=V.str c from rb);obtain⟨t,rfl⟩:=ry;exact .none_str _ _
  |lst ds=>
   obtain⟨p,xs,rfl,q,r⟩:=rb
   cases(show v=Value.ref p from ry)
   obtain⟨its,rv,pl,hz⟩:=I.list (SqL.of (fz _ _ q))
   exact .none_list pl.isList hu'
  |tup ds=>
   obtain⟨p,xs,rfl,q,r⟩:=rb
   cases(show v=Value.ref p from ry)
   obtain⟨its,rv,pl,hz⟩:=I.tuple (SqT.of (fz _ _ q))
   exact .none_tuple pl hu'
  |scr _=>simp[noS]at nb
  |exc _=>simp[noS]at nb
  |dic _ _=>simp[noS]at nb
  |dit _ _=>simp[noS]at nb
 |bl c0=>
  cases(show x=V.bl c0 from ra);cases(show u=Value.bool c0 from rx)
  cases b with
  |non=>cases(show y=V.non from rb);cases(show v=Value.none from ry);exact .bool_none _
  |bl c=>cases(show y=V.bl c from rb);cases(show v=Value.bool c from ry);exact .bool_bool _ _
  |int c=>cases(show y=V.int c from rb);obtain⟨t,rfl⟩:=ry;exact .bool_int _ _ _
  |str c=>cases(show y=V.str c from rb);obtain⟨t,rfl⟩:=ry;exact .bool_str _ _ _
  |lst ds=>
   obtain⟨p,xs,rfl,q,r⟩:=rb
   cases(show v=Value.ref p from ry)
   obtain⟨its,rv,pl,hz⟩:=I.list (SqL.of (fz _ _ q))
   exact .bool_list _ pl.isList hu'
  |tup ds=>
   obtain⟨p,xs,rfl,q,r⟩:=rb
   cases(show v=Value.ref p from ry)
   obtain⟨its,rv,pl,hz⟩:=I.tuple (SqT.of (fz _ _ q))
   exact .bool_tuple _ pl hu'
  |scr _=>simp[noS]at nb
  |exc _=>simp[noS]at nb
  |dic _ _=>simp[noS]at nb
  |dit _ _=>simp[noS]at nb
 |int c0=>
  cases(show x=V.int c0 from ra);obtain⟨t0,rfl⟩:=rx
  cases b with
  |non=>cases(show y=V.non from rb);cases(show v=Value.none from ry);exact .int_none _ _
  |bl c=>cases(show y=V.bl c from rb);cases(show v=Value.bool c from ry);exact .int_bool _ _ _
  |int c=>cases(show y=V.int c from rb);obtain⟨t,rfl⟩:=ry;exact .int_int _ _ _ _
  |str c=>cases(show y=V.str c from rb);obtain⟨t,rfl⟩:=ry;exact .int_str _ _ _ _
  |lst ds=>
   obtain⟨p,xs,rfl,q,r⟩:=rb
   cases(show v=Value.ref p from ry)
   obtain⟨its,rv,pl,hz⟩:=I.list (SqL.of (fz _ _ q))
   exact .int_list _ _ pl.isList hu'
  |tup ds=>
   obtain⟨p,xs,rfl,q,r⟩:=rb
   cases(show v=Value.ref p from ry)
   obtain⟨its,rv,pl,hz⟩:=I.tuple (SqT.of (fz _ _ q))
   exact .int_tuple _ _ pl hu'
  |scr _=>simp[noS]at nb
  |exc _=>simp[noS]at nb
  |dic _ _=>simp[noS]at nb
  |dit _ _=>simp[noS]at nb
 |str c0=>
  cases(show x=V.str c0 from ra);obtain⟨t0,rfl⟩:=rx
  cases b with
  |non=>cases(show y=V.non from rb);cases(show v=Value.none from ry);exact .str_none _ _
  |bl c=>cases(show y=V.bl c from rb);cases(show v=Value.bool c from ry);exact .str_bool _ _ _
  |int c=>cases(show y=V.int c from rb);obtain⟨t,rfl⟩:=ry;exact .str_int _ _ _ _
  |str c=>cases(show y=V.str c from rb);obtain⟨t,rfl⟩:=ry;exact .str_str _ _ _ _
  |lst ds=>
   obtain⟨p,xs,rfl,q,r⟩:=rb
   cases(show v=Value.ref p from ry)
   obtain⟨its,rv,pl,hz⟩:=I.list (SqL.of (fz _ _ q))
   exact .str_list _ _ pl.isList hu'
  |tup ds=>
   obtain⟨p,xs,rfl,q,r⟩:=rb
   cases(show v=Value.ref p from ry)
   obtain⟨its,rv,pl,hz⟩:=I.tuple (SqT.of (fz _ _ q))
   exact .str_tuple _ _ pl hu'
  |scr _=>simp[noS]at nb
  |exc _=>simp[noS]at nb
  |dic _ _=>simp[noS]at nb
  |dit _ _=>simp[noS]at nb
 |lst ds=>
  obtain⟨p,xs,rfl,q,r⟩:=ra
  cases(show u=Value.ref p from rx)
  obtain⟨its,rv,pl,hz⟩:=I.list (SqL.of (fz _ _ q))
  cases b with
  |non=>cases(show y=V.non from rb);cases(show v=Value.none from ry);exact .list_none pl.isList hu'
  |bl c=>cases(show y=V.bl c from rb);cases(show v=Value.bool c from ry);exact .list_bool _ pl.isList hu'
  |int c=>cases(show y=V.int c from rb);obtain⟨t,rfl⟩:=ry;exact .list_int _ _ pl.isList hu'
  |str c=>cases(show y=V.str c from rb);obtain⟨t,rfl⟩:=ry;exact .list_str _ _ pl.isList hu'
  |scr _=>simp[noS]at nb
  |exc _=>simp[noS]at nb
  |dic _ _=>simp[noS]at nb
  |dit _ _=>simp[noS]at nb
  |tup es=>
   obtain⟨p2,ys,rfl,q2,r2⟩:=rb
   cases(show v=Value.ref p2 from ry)
   obtain⟨its2,rv2,pl2,hz2⟩:=I.tuple (SqT.of (fz _ _ q2))
   exact .list_tuple pl.isList pl2 hu'
  |lst es=>
   obtain⟨p2,ys,rfl,q2,r2⟩:=rb
   cases(show v=Value.ref p2 from ry)
   obtain⟨its2,rv2,pl2,hz2⟩:=I.list (SqL.of (fz _ _ q2))
   simp only[depth]at hd
   have l1:=rv.length;have l2:=r.length;have l3:=rv2.length;have l4:=r2.length
   simp only[eqB]
   by_cases hl:ds.length=es.length
   ·have z:=SeqAt.RcNeAt.lists (A:=A) (s:=s) (e:=eqJ ds es) pl.isList pl2.isList (by simp only[List.size_toArray];lia) hu' (items ds es xs ys its its2 (by lia) (by simpa only[noS]using na) (by simpa only[noS]using nb) r r2 rv rv2)
    rw[List.size_toArray,<-l1,l2,zb1 ds es hl]at z
    exact z
   ·rw[zdu hl]
    refine .lists_lengths pl.isList pl2.isList ?_ hu'
    simp only[List.size_toArray,bne_iff_ne,ne_eq]
    lia
 |tup ds=>
  obtain⟨p,xs,rfl,q,r⟩:=ra
  cases(show u=Value.ref p from rx)
  obtain⟨its,rv,pl,hz⟩:=I.tuple (SqT.of (fz _ _ q))
  cases b with
  |non=>cases(show y=V.non from rb);cases(show v=Value.none from ry);exact .tuple_none pl hu'
  |bl c=>cases(show y=V.bl c from rb);cases(show v=Value.bool c from ry);exact .tuple_bool _ pl hu'
  |int c=>cases(show y=V.int c from rb);obtain⟨t,rfl⟩:=ry;exact .tuple_int _ _ pl hu'
  |str c=>cases(show y=V.str c from rb);obtain⟨t,rfl⟩:=ry;exact .tuple_str _ _ pl hu'
  |scr _=>simp[noS]at nb
  |exc _=>simp[noS]at nb
  |dic _ _=>simp[noS]at nb
  |dit _ _=>simp[noS]at nb
  |lst es=>
   obtain⟨p2,ys,rfl,q2,r2⟩:=rb
   cases(show v=Value.ref p2 from ry)
   obtain⟨its2,rv2,pl2,hz2⟩:=I.list (SqL.of (fz _ _ q2))
   exact .tuple_list pl pl2.isList hu'
  |tup es=>
   obtain⟨p2,ys,rfl,q2,r2⟩:=rb
   cases(show v=Value.ref p2 from ry)
   obtain⟨its2,rv2,pl2,hz2⟩:=I.tuple (SqT.of (fz _ _ q2))
   simp only[depth]at hd
   have l1:=rv.length;have l2:=r.length;have l3:=rv2.length;have l4:=r2.length
   have z:=SeqAt.RcNeAt.tuples (A:=A) (s:=s) (e:=eqJ ds es) pl pl2 hu' (items ds es xs ys its its2 (by lia) (by simpa only[noS]using na) (by simpa only[noS]using nb) r r2 rv rv2)
   simp only[List.size_toArray]at z
   simp only[eqB]
   by_cases hl:ds.length=es.length
   ·have e1:min its.length its2.length=ds.length:=by lia
    have e2:(its.length==its2.length)=true:=by simp;lia
    rw[e1,e2,Bool.and_true,zb1 ds es hl]at z
    exact z
   ·have e2:(its.length==its2.length)=false:=by simp;lia
    rw[e2,Bool.and_false]at z
    rw[zdu hl]
    exact z
end
theorem op_neD (hu:X.A.units+64<cLine):OpR X (compareOp .NotEq) (rEqD X.K not):=by
 intro pins s σ H x y v u Q I rx ry h
 obtain⟨G,a,b,fz,ra,rb,na,nb,hd,q⟩:=h
 exact neAt_D I fz X.A a b x y v u hd na nb hu ra rb rx ry _ _ _ _ ⟨.bl _,H,I,rfl,q⟩
theorem v2_ne:V2 X (rEqD X.K not) dNe:=by
 intro B G H σ ρ x y a b d Q I ra rb hf k
 unfold dNe at hf
 split at hf
 ·rename_i h
  simp only[Bool.and_eq_true,decide_eq_true_eq]at h
  cases hf
  exact⟨G,a,b,I.fz,ra,rb,h.1.1,h.1.2,h.2,k G H _ I (Fz.refl G) rfl⟩
 ·cases hf
theorem v2_eq:V2 X (rEqD X.K id) dEq:=by
 intro B G H σ ρ x y a b d Q I ra rb hf k
 unfold dEq at hf
 split at hf
 ·rename_i h
  simp only[Bool.and_eq_true,decide_eq_true_eq]at h
  cases hf
  exact⟨G,a,b,I.fz,ra,rb,h.1.1,h.1.2,h.2,k G H _ I (Fz.refl G) rfl⟩
 ·cases hf
noncomputable def dIx:D->D->Option D
 | .lst ds,.int i=>atI ds i
 | .tup ds,.int i=>atI ds i
 | .scr ns,.int i=>(atI ns i).map .int
 |_,_=>none
theorem atI_map {α β:Type}(f:α->β){xs:List α}{i:Int}{v:α}(h:atI xs i=some v):atI (xs.map f) i=some (f v):=by
 unfold atI at h ⊢
 rw[List.length_map]
 cases q:ixN xs.length i with
 |none=>rw[q]at h;cases h
 |some j=>
  rw[q]at h
  show(xs.map f)[j]? =_
  rw[List.getElem?_map,show xs[j]? =some v from h]
  rfl
noncomputable def ReadD (K:W.Frag)(G H:Hp)(v:V):D->Prop
 | .lst ds=>∃a xs,v= .ref a/\H a=some (.lst xs)/\RepL K G xs ds
 |d=>RepD K G v d
theorem ReadD.of (fz:Fz G H)(h:RepD K G v d):ReadD K G H v d:=by
 cases d with
 |lst ds=>obtain⟨a,xs,e,q,r⟩:=h;exact⟨a,xs,e,fz a _ q,r⟩
 |_=>exact h
noncomputable def Sl.read:Sl->Option D
 | .emp=>none
 | .two _ _=>none
 | .tre _=>none
 | .ptr _=>none
 | .val d=>some d
 | .own ds=>some (.lst ds)
 | .par ds=>some (.lst ds)
noncomputable def hasV (ρ:R)(j:Nat):Bool:=match ρ[j]? with
 |some (.val _)=>true
 |some (.own _)=>true
 |some (.par _)=>true
 |_=>false
theorem SI.has (I:SI K B G H σ ρ)(h:hasV ρ j=true):∃v,σ[j]? =some (some v):=by
 unfold hasV at h
 cases e:ρ[j]? with
 |none=>rw[e]at h;cases h
 |some s=>
  rw[e]at h
  have q:=I.slot j s e
  cases s with
  |emp=>cases h
  |two _ _=>cases h
  |tre _=>cases h
  |ptr _=>cases h
  |val d=>obtain⟨v,e,_⟩:=q;exact⟨v,e⟩
  |own d=>obtain⟨l,_,e,_⟩:=q;exact⟨_,e⟩
  |par d=>obtain⟨l,_,e,_⟩:=q;exact⟨_,e⟩
theorem SI.read (I:SI K B G H σ ρ)(hv:σ[j]? =some (some v))(e:ρ[j]? =some s)(q:s.read=some d):ReadD K G H v d:=by
 have h:=I.slot j s e
 cases s with
 |emp=>cases q
 |two _ _=>cases q
 |tre _=>cases q
 |ptr _=>cases q
 |val d'=>
  cases q
  obtain⟨w,e1,r⟩:=h
  rw[hv]at e1;cases e1
  exact .of I.fz r
 |own ds=>
  cases q
  obtain⟨l,xs,e1,_,h3,h4,_⟩:=h
  rw[hv]at e1;cases e1
  exact⟨l,xs,rfl,h3,h4⟩
 |par ds=>
  cases q
  obtain⟨l,xs,e1,_,h3,h4,_⟩:=h
  rw[hv]at e1;cases e1
  exact⟨l,xs,rfl,h3,h4⟩
theorem zi1 {x y:V}{a b d:D}{Q:VK}(I:SI K B G H σ ρ)(ra:ReadD K G H x a)(rb:RepD K G y b)(hf:dIx a b=some d)(k:∀v,RepD K G v d->Q v H):rIx K x y H Q:=by
 cases a<;>cases b<;>simp only[dIx]at hf<;>try cases hf
 ·rename_i ds i
  obtain⟨p,xs,rfl,hp,r⟩:=ra
  obtain⟨v,e,q⟩:=r.at hf
  exact .inl ⟨p,xs,i,v,rfl,rb,SqL.of hp,e,k _ q⟩
 ·rename_i ds i
  obtain⟨p,xs,rfl,hp,r⟩:=I.tup ra
  obtain⟨v,e,q⟩:=r.at hf
  exact .inr (.inl ⟨p,xs,i,v,rfl,rb,SqT.of hp,e,k _ q⟩)
 ·rename_i ns i
  obtain⟨p,rfl,hp⟩:=ra
  cases e:atI ns i with
  |none=>rw[e]at hf;cases hf
  |some n=>
   rw[e]at hf
   cases hf
   exact .inl ⟨p,_,i,.int n,rfl,rb,I.fz.sql hp,atI_map V.int e,k _ rfl⟩
theorem v2_ix:V2 X (rIx X.K) dIx:=fun B G H σ ρ x y a b d Q I ra rb hf k=>zi1 I (.of I.fz ra) rb hf fun v q=>k G H v I (Fz.refl G) q
theorem zfy {ma mb:ME}(ha:SE X a ma)(hb:SE X b mb)(hs:autoParam (zfE b) zu7._auto_1):SE X (.Subscript a b pos) (m2 dIx ma mb):=se_ix ix_seq v2_ix ha hb hs
noncomputable def eIxV (j:Nat)(mi:ME):ME:=fun ρ=>if hasV ρ j then(mi ρ).bind fun p=>(p.2[j]?.bind Sl.read).bind fun d=>(dIx d p.1).map fun e=>(e,p.2)else none
theorem zaA (j:Nat)(hb:SE X b mb)(hN:autoParam (X.N[j]? =some x) zu3._auto_1)(hv:autoParam (Vis X.env.scope x) zu6._auto_1)(hd:autoParam ((x==("__debug__":Str))=false) zu1._auto_1)
    (hcd:autoParam ((x==("__classdict__":Str))=false) zu1._auto_1) (hs:autoParam (zfE b) zu7._auto_1):SE X (.Subscript (.Name x pos') b pos) (eIxV j mb):=by
  obtain⟨tb,pb,sb⟩:=hb
  refine⟨_,pe_ix ix_seq (zaH hN hv hd hcd) pb hs,fun B G H σ ρ d ρ' Q I hm k=>?_⟩
  unfold eIxV at hm
  split at hm
  . rename_i hh
    obtain⟨v,ev⟩:=I.has hh
    cases e1:mb ρ with
    |none=>rw[e1]at hm;cases hm
    |some q=>
      obtain⟨i,ρ1⟩:=q
      rw[e1]at hm
      simp only[Option.bind_some]at hm
      cases e2:ρ1[j]? with
      |none=>rw[e2]at hm;cases hm
      |some s=>
        rw[e2]at hm
        simp only[Option.bind_some]at hm
        cases e3:s.read with
        |none=>rw[e3]at hm;cases hm
        |some a=>
          rw[e3]at hm
          simp only[Option.bind_some]at hm
          cases e4:dIx a i with
          |none=>rw[e4]at hm;cases hm
          |some c=>
            rw[e4]at hm
            cases hm
            exact⟨v,ev,sb B G H σ ρ i ρ' _ I e1 fun G1 H1 y I1 f1 r1=>zi1 I1 (I1.read ev e2 e3) r1 e4 fun w q=>k G1 H1 w I1 f1 q⟩
  . cases hm
noncomputable def dLen:List D->Option D
 |[.lst ds]=>some (.int ds.length)
 |[.tup ds]=>some (.int ds.length)
 |[.scr ns]=>some (.int ns.length)
 |_=>none
theorem len_read {x:V}{a d:D}{Q:VK}(I:SI K B G H σ ρ)(ra:ReadD K G H x a)(hf:dLen [a]=some d)(k:∀v,RepD K G v d->Q v H):
  ∃p ys,[x]=[V.ref p]/\(SqL K H p ys\/SqT K H p ys)/\Q (.int ys.length) H:=by
 cases a<;>simp only[dLen]at hf<;>try cases hf
 ·obtain⟨p,xs,rfl,hp,r⟩:=ra
  exact⟨p,xs,rfl,.inl (SqL.of hp),by rw[r.length];exact k _ rfl⟩
 ·obtain⟨p,xs,rfl,hp,r⟩:=I.tup ra
  exact⟨p,xs,rfl,.inr (SqT.of hp),by rw[r.length];exact k _ rfl⟩
 ·obtain⟨p,rfl,hp⟩:=ra
  exact⟨p,_,rfl,.inl (I.fz.sql hp),by rw[List.length_map];exact k _ rfl⟩
theorem RepL.one (h:RepL K G xs [d]):∃x,xs=[x]/\RepD K G x d:=by
 obtain⟨x,ys,e,q,r⟩:=h
 cases(show ys=[]from r)
 exact⟨x,e,q⟩
theorem RepL.two {a b:D}(h:RepL K G xs [a,b]):∃x y,xs=[x,y]/\RepD K G x a/\RepD K G y b:=by
 obtain⟨x,ys,e,q,r⟩:=h
 obtain⟨y,e2,q2⟩:=r.one
 subst e2
 exact⟨x,y,e,q,q2⟩
noncomputable def zbR (j:Nat):ME:=fun ρ=>(ρ[j]?.bind Sl.read).bind fun d=>(dLen [d]).map fun e=>(e,ρ)
theorem zaK {p pos pos':Pos}(j:Nat)(ml:X.mg "len"=none)(hN:autoParam (X.N[j]? =some x) zu3._auto_1)(hv:autoParam (Vis X.env.scope x) zu6._auto_1)(hd:autoParam ((x==("__debug__":Str))=false) zu1._auto_1)
  (hcd:autoParam ((x==("__classdict__":Str))=false) zu1._auto_1) (hg:autoParam (Gl X "len") zu3._auto_1) (he:autoParam (starEach [.Name x pos'] X.env=(false,eval (.Name x pos') X.env)::starEach [] X.env) zu3._auto_1):SE X (.Call (.Name "len" p) [.Name x pos'] [] pos) (zbR j):=by
 refine⟨_,zed zd3 hg ml PySem.boot_len (zaB (zaH hN hv hd hcd) zbE he) (by decide) (by decide) he rfl,fun B G H σ ρ d ρ' Q I hm k=>?_⟩
 unfold zbR at hm
 cases e2:ρ[j]? with
 |none=>rw[e2]at hm;cases hm
 |some s=>
  rw[e2]at hm
  simp only[Option.bind_some]at hm
  cases e3:s.read with
  |none=>rw[e3]at hm;cases hm
  |some a=>
   rw[e3]at hm
   simp only[Option.bind_some]at hm
   cases e4:dLen [a]with
   |none=>rw[e4]at hm;cases hm
   |some c=>
    rw[e4]at hm
    cases hm
    have hh:hasV ρ j=true:=by
     unfold hasV
     rw[e2]
     cases s<;>first|rfl|cases e3
    obtain⟨v,ev⟩:=I.has hh
    exact⟨v,ev,len_read I (I.read ev e2 e3) e4 fun w q=>k G H w I (Fz.refl G) q⟩
noncomputable def zcn:List D->Option D
 |[.lst ds]=>some (.tup ds)
 |[.tup ds]=>some (.tup ds)
 |[.scr ns]=>some (.tup (ns.map .int))
 |_=>none
theorem vc_tuple:VC X (fun xs H Q=>∃p ys,xs=[.ref p]/\((SqL X.K H p ys/\∀l,H l=none->Q (.ref l) (upd H l (.tup ys)))\/(SqT X.K H p ys/\Q (.ref p) H))) zcn:=by
 intro B G H σ ρ xs ds d Q I r hf k
 match ds,hf with
 |[a],hf=>
  obtain⟨x,rfl,ra⟩:=r.one
  cases a<;>simp only[zcn]at hf<;>try cases hf
  ·obtain⟨p,ys,rfl,hp,q⟩:=I.lst ra
   refine⟨p,ys,rfl,.inl ⟨SqL.of hp,fun l hl=>?_⟩⟩
   obtain⟨I2,f2,r2⟩:=I.newT hl q
   exact k _ _ _ I2 f2 r2
  ·obtain⟨p,ys,e,hp,q⟩:=I.tup ra
   subst e
   exact⟨p,ys,rfl,.inr ⟨SqT.of hp,k G H _ I (Fz.refl G) ra⟩⟩
  ·obtain⟨p,rfl,hp⟩:=ra
   refine⟨p,_,rfl,.inl ⟨I.fz.sql hp,fun l hl=>?_⟩⟩
   obtain⟨I2,f2,r2⟩:=I.newT hl (RepL.ints _)
   exact k _ _ _ I2 f2 r2
 |[],hf=>cases hf
 |_::_::_,hf=>simp[zcn]at hf
theorem zec {p pos:Pos}(ml:X.mg "tuple"=none)(ha:SA X [e] ma)(hg:autoParam (Gl X "tuple") zu3._auto_1)(he:autoParam (starEach [e] X.env=(false,eval e X.env)::starEach [] X.env) zu3._auto_1)(hb:autoParam (bootBuiltins "tuple"=some (.type "tuple")) zu8._auto_1):
  SE X (.Call (.Name "tuple" p) [e] [] pos) (mC zcn ma):=
 zjN zfr vc_tuple hb ml ha hg (by decide) (by decide) he rfl
noncomputable def zaG:List D->Option (List D)
 |[.lst ds]=>some ds
 |[.tup ds]=>some ds
 |[.scr ns]=>some (ns.map .int)
 |_=>none
noncomputable def oC (f:List D->Option (List D))(ma:MA):MO:=fun ρ=>(ma ρ).bind fun p=>(f p.1).map fun d=>(d,p.2)
theorem oC_inv {f:List D->Option (List D)}{d:List D}(h:oC f ma ρ=some (d,ρ')):∃a,ma ρ=some (a,ρ')/\f a=some d:=by
 unfold oC at h
 cases e1:ma ρ with
 |none=>rw[e1]at h;cases h
 |some p=>
  obtain⟨a,ρ1⟩:=p
  rw[e1]at h
  simp only[Option.bind_some]at h
  cases e3:f a with
  |none=>rw[e3]at h;cases h
  |some c=>rw[e3]at h;cases h;exact⟨a,rfl,e3⟩
theorem SI.newO (I:SI K B G H σ ρ)(hp:H p=none)(xs:List V):SI K B G (upd H p (.lst xs)) σ ρ/\G p=none/\(upd H p (.lst xs)) p=some (.lst xs)/\B.H p=none/\Nw K G (upd H p (.lst xs)) σ ρ p:=
 ⟨I.allocO hp _,I.fz.free hp,zaf,I.there p hp,I.nw_move (I.nw hp) fun i s a _ _ g h=>⟨g,zad fun z=>h (by rw[z];exact hp)⟩⟩
section
variable {X:Cx} {es:List Expr} {ma:MA} {pos:Pos}
noncomputable def eTup (ma:MA):ME:=fun ρ=>(ma ρ).bind fun p=>if p.1.length<=16777216 then some (.tup p.1,p.2)else none
theorem zeP {x1}(h:SA X es ma):SE X (.Tuple es x1 pos) (eTup ma):=by
 obtain⟨t,pa,sa⟩:=h
 refine⟨_,zhj pa,fun B G H σ ρ d ρ' Q I hm k=>?_⟩
 unfold eTup at hm
 cases e1:ma ρ with
 |none=>rw[e1]at hm;cases hm
 |some q=>
  obtain⟨ds,ρ1⟩:=q
  rw[e1]at hm
  simp only[Option.bind_some]at hm
  split at hm
  ·rename_i hl
   cases hm
   refine sa B G H σ ρ ds ρ' _ I e1 fun G1 H1 vs I1 f1 r1=>⟨by rw[r1.length,sizeLine_eq];exact hl,fun p hp=>?_⟩
   obtain⟨I2,f2,r2⟩:=I1.newT hp r1
   exact k _ _ _ I2 (f1.trans f2) r2
  ·cases hm
noncomputable def oLst (ma:MA):MO:=fun ρ=>(ma ρ).bind fun p=>if p.1.length<=16777216 then some (p.1,p.2)else none
theorem zd6 (h:SA X es ma):SO X (.List es pos) (oLst ma):=by
 obtain⟨t,pa,sa⟩:=h
 refine⟨_,pe_lst pa,fun B G H σ ρ d ρ' Q I hm k=>?_⟩
 unfold oLst at hm
 cases e1:ma ρ with
 |none=>rw[e1]at hm;cases hm
 |some q=>
  obtain⟨ds,ρ1⟩:=q
  rw[e1]at hm
  simp only[Option.bind_some]at hm
  split at hm
  ·rename_i hl
   cases hm
   refine sa B G H σ ρ _ ρ' _ I e1 fun G1 H1 vs I1 f1 r1=>⟨by rw[r1.length,sizeLine_eq];exact hl,fun p hp=>?_⟩
   obtain⟨I2,g2,h2,b2,n2⟩:=I1.newO hp vs
   exact k G1 _ p vs I2 f1 g2 h2 r1 b2 n2
  ·cases hm
end
theorem zaa {α β:Type}{o:Option α}{f:α->Option β}{b:β}(h:o.bind f=some b):∃a,o=some a/\f a=some b:=by
 cases o with
 |none=>cases h
 |some a=>exact⟨a,rfl,h⟩
theorem zag {α β:Type}{o:Option α}{f:α->β}{b:β}(h:o.map f=some b):∃a,o=some a/\f a=b:=by
 cases o with
 |none=>cases h
 |some a=>cases h;exact⟨a,rfl,rfl⟩
noncomputable def dTru:D->Option Bool
 | .bl b=>some b
 | .int i=>some (i !=0)
 | .non=>some false
 | .lst ds=>some (!ds.isEmpty)
 | .tup ds=>some (!ds.isEmpty)
 |_=>none
noncomputable def tTru (ma:ME):MT:=fun ρ=>(ma ρ).bind fun p=>(dTru p.1).map fun b=>(b,p.2)
section
variable {X:Cx} {a b c:Expr} {ma mb mc:ME} {pos:Pos}
theorem zkL (h:RepL K G xs ds):(!xs.isEmpty)=!ds.isEmpty:=by
 have:=h.length
 cases xs<;>cases ds<;>simp_all
theorem zeh (ha:SE X a ma)(he:autoParam (∀whole,isTrue a X.env whole=(do let v<-whole;standAt a.pos;holding [v] (truthy v))) zu9._auto_1):STt X a (tTru ma):=by
  obtain⟨ta,pa,sa⟩:=ha
  refine⟨_,pt_truth pa he,fun B G H σ ρ d ρ' Q I hm k=>?_⟩
  obtain⟨⟨x,ρ1⟩,e1,e2⟩:=zaa hm
  obtain⟨t,e3,e4⟩:=zag e2
  obtain⟨rfl,rfl⟩:=Prod.mk.inj e4
  refine sa B G H σ ρ x ρ1 _ I e1 fun G1 H1 v I1 f1 r1=>⟨t,?_,k G1 H1 I1 f1⟩
  cases x<;>simp only[dTru]at e3<;>try cases e3
  . cases r1;exact rfl
  . cases r1;exact rfl
  . cases r1;exact rfl
  . obtain⟨p,xs,rfl,hp,r⟩:=I1.lst r1
    exact .inl ⟨xs,SqL.of hp,(zkL r).symm⟩
  . obtain⟨p,xs,rfl,hp,r⟩:=I1.tup r1
    exact .inr (.inl ⟨xs,SqT.of hp,(zkL r).symm⟩)
theorem zhy {r:R2}(ho:OpR X (compareOp op) r)(hv:V2 X r f)(hB:∀x y d,f x y=some d->∃t,d= .bl t)(ha:SE X a ma)(hb:SE X b mb)(hm:behindInMarks op b=false):STt X (.Compare a [op] [b] pos) (tTru (m2 f ma mb)):=by
 obtain⟨ta,pa,sa⟩:=ha
 obtain⟨tb,pb,sb⟩:=hb
 refine⟨_,zgU ho pa pb hm,fun B G H σ ρ d ρ' Q I hm k=>?_⟩
 obtain⟨⟨x,ρ1⟩,e1,e2⟩:=zaa hm
 obtain⟨t,e3,e4⟩:=zag e2
 obtain⟨rfl,rfl⟩:=Prod.mk.inj e4
 obtain⟨_,_,_,_,_,e5⟩:=m2_inv e1
 obtain⟨t',rfl⟩:=hB _ _ _ e5
 obtain rfl:t'=t:=Option.some.inj e3
 refine zhS hv sa sb B G H σ ρ (.bl t') ρ1 _ I e1 fun G1 H1 v I1 f1 r1=>?_
 cases(show v=V.bl t' from r1)
 exact⟨t',rfl,k G1 H1 I1 f1⟩
theorem ziS (x y d:D)(h:dI2 (fun _ _=>true) (fun i j=> .bl (g i j)) x y=some d):∃t,d= .bl t:=by
 cases x<;>cases y<;>simp only[dI2]at h<;>try cases h
 exact⟨_,rfl⟩
theorem bl_eq (x y d:D)(h:dEq x y=some d):∃t,d= .bl t:=by
 unfold dEq at h
 split at h
 ·cases h;exact⟨_,rfl⟩
 ·cases h
theorem bl_ne (x y d:D)(h:dNe x y=some d):∃t,d= .bl t:=by
 unfold dNe at h
 split at h
 ·cases h;exact⟨_,rfl⟩
 ·cases h
theorem st_lt (ha:SE X a ma)(hb:SE X b mb):STt X (.Compare a [.Lt] [b] pos) (tTru (m2 dLt ma mb)):=zhy op_lt zc8 ziS ha hb (ze4 _)
theorem st_ge (ha:SE X a ma)(hb:SE X b mb):STt X (.Compare a [.GtE] [b] pos) (tTru (m2 dGe ma mb)):=zhy op_ge zc8 ziS ha hb (ze4 _)
theorem st_eq (hu:X.A.units+64<cLine)(ha:SE X a ma)(hb:SE X b mb):STt X (.Compare a [.Eq] [b] pos) (tTru (m2 dEq ma mb)):=zhy (op_eqD hu) v2_eq bl_eq ha hb (ze4 _)
theorem zgC (hu:X.A.units+64<cLine)(ha:SE X a ma)(hb:SE X b mb):STt X (.Compare a [.NotEq] [b] pos) (tTru (m2 dNe ma mb)):=zhy (op_neD hu) v2_ne bl_ne ha hb (ze4 _)
end
noncomputable def STw (X:Cx)(e:Expr)(m:MT):Prop:=
 ∃t,PW X e t/\∀B G H σ ρ d ρ' (Q:Bool->Hp->Prop),SI X.K B G H σ ρ->m ρ=some (d,ρ')->(∀G' H',SI X.K B G' H' σ ρ'->Fz G G'->Q d H')->t σ H Q
theorem STw.st {m:MT}(h:STw X e m):STt X e m:=let⟨t,p,s⟩:=h;⟨t,p.pt,s⟩
noncomputable def zj1 (a b:MT):MT:=fun ρ=>(a ρ).bind fun p=>if p.1 then b p.2 else some (false,p.2)
noncomputable def tOrM (a b:MT):MT:=fun ρ=>(a ρ).bind fun p=>if p.1 then some (true,p.2)else b p.2
noncomputable def zgM (a:MT):MT:=fun ρ=>(a ρ).map fun p=>(!p.1,p.2)
section
variable {X:Cx} {a b c:Expr} {ma mb:MT} {pos:Pos} {rest:List Expr}
theorem zkM (h:STt X a ma):STw X (.BoolOp .And [a] pos) ma:=let⟨t,p,s⟩:=h;⟨t,pw_and1 p,s⟩
theorem zjX (h:STt X a ma):STw X (.BoolOp .Or [a] pos) ma:=let⟨t,p,s⟩:=h;⟨t,pw_or1 p,s⟩
theorem sw_and (ha:STt X a ma)(hb:STw X (.BoolOp .And (b::rest) pos) mb):STw X (.BoolOp .And (a::b::rest) pos) (zj1 ma mb):=by
 obtain⟨ta,pa,sa⟩:=ha
 obtain⟨tb,pb,sb⟩:=hb
 refine⟨_,pw_and pa pb,fun B G H σ ρ d ρ' Q I hm k=>?_⟩
 obtain⟨⟨x,ρ1⟩,e1,e2⟩:=zaa hm
 refine sa B G H σ ρ x ρ1 _ I e1 fun G1 H1 I1 f1=>?_
 cases x with
 |true=>exact sb B G1 H1 σ ρ1 d ρ' Q I1 e2 fun G2 H2 I2 f2=>k G2 H2 I2 (f1.trans f2)
 |false=>cases e2;exact k G1 H1 I1 f1
theorem sw_or (ha:STt X a ma)(hb:STw X (.BoolOp .Or (b::rest) pos) mb):STw X (.BoolOp .Or (a::b::rest) pos) (tOrM ma mb):=by
 obtain⟨ta,pa,sa⟩:=ha
 obtain⟨tb,pb,sb⟩:=hb
 refine⟨_,pw_or pa pb,fun B G H σ ρ d ρ' Q I hm k=>?_⟩
 obtain⟨⟨x,ρ1⟩,e1,e2⟩:=zaa hm
 refine sa B G H σ ρ x ρ1 _ I e1 fun G1 H1 I1 f1=>?_
 cases x with
 |false=>exact sb B G1 H1 σ ρ1 d ρ' Q I1 e2 fun G2 H2 I2 f2=>k G2 H2 I2 (f1.trans f2)
 |true=>cases e2;exact k G1 H1 I1 f1
theorem zgr (ha:STt X a ma):STt X (.UnaryOp .Not a pos) (zgM ma):=by
 obtain⟨ta,pa,sa⟩:=ha
 refine⟨_,pt_not pa,fun B G H σ ρ d ρ' Q I hm k=>?_⟩
 obtain⟨⟨x,ρ1⟩,e1,e2⟩:=zag hm
 cases e2
 exact sa B G H σ ρ x ρ1 _ I e1 fun G1 H1 I1 f1=>k G1 H1 I1 f1
end
noncomputable def eAnd (a b:ME):ME:=fun ρ=>(a ρ).bind fun p=>match p.1 with
 | .bl true=>b p.2
 | .bl false=>some (.bl false,p.2)
 |_=>none
noncomputable def eOr (a b:ME):ME:=fun ρ=>(a ρ).bind fun p=>match p.1 with
 | .bl true=>some (.bl true,p.2)
 | .bl false=>b p.2
 |_=>none
section
variable {X:Cx} {a b c:Expr} {ma mb:ME} {pos:Pos} {rest:List Expr} {op:BoolOp}
theorem zhp (h:SE X a ma):SE X (.BoolOp op [a] pos) ma:=let⟨t,p,s⟩:=h;⟨t,pe_one p,s⟩
theorem zfP (ha:SE X a ma)(hb:SE X (.BoolOp .And (b::rest) pos) mb):SE X (.BoolOp .And (a::b::rest) pos) (eAnd ma mb):=by
 obtain⟨ta,pa,sa⟩:=ha
 obtain⟨tb,pb,sb⟩:=hb
 refine⟨_,pe_and pa pb,fun B G H σ ρ d ρ' Q I hm k=>?_⟩
 obtain⟨⟨x,ρ1⟩,e1,e2⟩:=zaa hm
 refine sa B G H σ ρ x ρ1 _ I e1 fun G1 H1 v I1 f1 r1=>?_
 cases x<;>try cases e2
 rename_i y
 refine⟨y,r1,?_⟩
 cases y with
 |true=>exact sb B G1 H1 σ ρ1 d ρ' Q I1 e2 fun G2 H2 v I2 f2 r2=>k G2 H2 v I2 (f1.trans f2) r2
 |false=>cases e2;exact k G1 H1 _ I1 f1 rfl
noncomputable def eIf (c:MT)(a b:ME):ME:=fun ρ=>(c ρ).bind fun p=>if p.1 then a p.2 else b p.2
theorem zhg (hc:STt X c mc)(ha:SE X a ma)(hb:SE X b mb):SE X (.IfExp c a b pos) (eIf mc ma mb):=by
 obtain⟨tc,pc,sc⟩:=hc
 obtain⟨ta,pa,sa⟩:=ha
 obtain⟨tb,pb,sb⟩:=hb
 refine⟨_,pe_ifExp pc pa pb,fun B G H σ ρ d ρ' Q I hm k=>?_⟩
 obtain⟨⟨x,ρ1⟩,e1,e2⟩:=zaa hm
 refine sc B G H σ ρ x ρ1 _ I e1 fun G1 H1 I1 f1=>?_
 cases x with
 |true=>exact sa B G1 H1 σ ρ1 d ρ' Q I1 e2 fun G2 H2 v I2 f2 r2=>k G2 H2 v I2 (f1.trans f2) r2
 |false=>exact sb B G1 H1 σ ρ1 d ρ' Q I1 e2 fun G2 H2 v I2 f2 r2=>k G2 H2 v I2 (f1.trans f2) r2
end
noncomputable def ze7 (f g:D->D->Option D)(a b c:ME):ME:=fun ρ=>(a ρ).bind fun p=>(b p.2).bind fun q=>(f p.1 q.1).bind fun t=>match t with
 | .bl true=>(c q.2).bind fun r=>(g q.1 r.1).map fun d=>(d,r.2)
 | .bl false=>some (.bl false,q.2)
 |_=>none
section
variable {X:Cx} {a b c:Expr} {ma mb mc:ME} {pos:Pos}
theorem zgR {r r':R2}{f g:D->D->Option D}{ta tb tc:TE}(hv:V2 X r f)(hw:V2 X r' g)
  (sa:∀B G H σ ρ d ρ' (Q:VK),SI X.K B G H σ ρ->ma ρ=some (d,ρ')->(∀G' H' v,SI X.K B G' H' σ ρ'->Fz G G'->RepD X.K G' v d->Q v H')->ta σ H Q)
  (sb:∀B G H σ ρ d ρ' (Q:VK),SI X.K B G H σ ρ->mb ρ=some (d,ρ')->(∀G' H' v,SI X.K B G' H' σ ρ'->Fz G G'->RepD X.K G' v d->Q v H')->tb σ H Q)
  (sc:∀B G H σ ρ d ρ' (Q:VK),SI X.K B G H σ ρ->mc ρ=some (d,ρ')->(∀G' H' v,SI X.K B G' H' σ ρ'->Fz G G'->RepD X.K G' v d->Q v H')->tc σ H Q):
  ∀B G H σ ρ d ρ' (Q:VK),SI X.K B G H σ ρ->ze7 f g ma mb mc ρ=some (d,ρ')->(∀G' H' v,SI X.K B G' H' σ ρ'->Fz G G'->RepD X.K G' v d->Q v H')->tChain r r' ta tb tc σ H Q:=by
 intro B G H σ ρ d ρ' Q I hm k
 obtain⟨⟨x,ρ1⟩,e1,h1⟩:=zaa hm
 obtain⟨⟨y,ρ2⟩,e2,h2⟩:=zaa h1
 obtain⟨t,e3,h3⟩:=zaa h2
 refine sa B G H σ ρ x ρ1 _ I e1 fun G1 H1 v I1 f1 r1=>sb B G1 H1 σ ρ1 y ρ2 _ I1 e2 fun G2 H2 u I2 f2 r2=>hv B G2 H2 σ ρ2 v u x y t _ I2 (r1.mono f2) r2 e3 fun G3 H3 z I3 f3 r3=>?_
 cases t<;>try cases h3
 rename_i t
 refine⟨t,r3,?_⟩
 cases t with
 |true=>
  obtain⟨⟨w,ρ3⟩,e4,h4⟩:=zaa h3
  obtain⟨d',e5,e6⟩:=zag h4
  cases e6
  exact sc B G3 H3 σ ρ2 w ρ3 _ I3 e4 fun G4 H4 s I4 f4 r4=>hw B G4 H4 σ ρ3 u s y w d Q I4 (r2.mono (f3.trans f4)) r4 e5 fun G5 H5 z5 I5 f5 r5=>k G5 H5 z5 I5 (f1.trans (f2.trans (f3.trans (f4.trans f5)))) r5
 |false=>cases h3;exact k G3 H3 _ I3 (f1.trans (f2.trans f3)) rfl
theorem zhr {op op':CmpOp}{r r':R2}{f g:D->D->Option D}(ho:OpR X (compareOp op) r)(ho':OpR X (compareOp op') r')(hv:V2 X r f)(hw:V2 X r' g)(ha:SE X a ma)(hb:SE X b mb)(hc:SE X c mc)
  (hm:autoParam (lastMarks [op,op'] [b,c]=false) zu5._auto_1):SE X (.Compare a [op,op'] [b,c] pos) (ze7 f g ma mb mc):=by
 obtain⟨ta,pa,sa⟩:=ha
 obtain⟨tb,pb,sb⟩:=hb
 obtain⟨tc,pc,sc⟩:=hc
 exact⟨_,pe_chain ho ho' pa pb pc hm,zgR hv hw sa sb sc⟩
end
inductive Fl where
 |next|brk|cont|ret (r:Sl)
noncomputable abbrev MS:=R->Option (Fl×R)
noncomputable def ResOk (K:W.Frag)(B:Bs)(G H:Hp)(v:V):Sl->Prop
 | .val d=>RepD K G v d
 | .own ds=>∃l xs,v= .ref l/\G l=none/\H l=some (.lst xs)/\RepL K G xs ds/\B.H l=none
 | .tre t=>∃A,RepT K G H v t A/\A.Nodup/\∀a∈A,G a=none/\B.H a=none
 | .two ds es=>∃t l xs m ys,v= .ref t/\H t=some (.tup [.ref l,.ref m])/\l≠m/\G l=none/\H l=some (.lst xs)/\RepL K G xs ds/\B.H l=none/\G m=none/\H m=some (.lst ys)/\RepL K G ys es/\B.H m=none
 |_=>False
noncomputable def Post (K:W.Frag)(B:Bs)(G:Hp)(E:Ends)(fl:Fl)(ρ':R):Prop:=match fl with
 | .next=>∀G' H' σ',SI K B G' H' σ' ρ'->Fz G G'->E.nx σ' H'
 | .brk=>∀G' H' σ',SI K B G' H' σ' ρ'->Fz G G'->E.bk σ' H'
 | .cont=>∀G' H' σ',SI K B G' H' σ' ρ'->Fz G G'->E.ct σ' H'
 | .ret r=>∀G' H' σ' v,SI K B G' H' σ' ρ'->Fz G G'->ResOk K B G' H' v r->E.rt v H'
theorem Post.mono {G G1:Hp}{E:Ends}{fl:Fl}(h:Post K B G E fl ρ')(f:Fz G G1):Post K B G1 E fl ρ':=by
 cases fl with
 |next=>exact fun G' H' σ' I g=>h G' H' σ' I (f.trans g)
 |brk=>exact fun G' H' σ' I g=>h G' H' σ' I (f.trans g)
 |cont=>exact fun G' H' σ' I g=>h G' H' σ' I (f.trans g)
 |ret r=>exact fun G' H' σ' v I g=>h G' H' σ' v I (f.trans g)
noncomputable def SS (X:Cx)(st:Stmt)(m:MS):Prop:=∃t,PS X st t/\∀B G H σ ρ fl ρ' (E:Ends),SI X.K B G H σ ρ->m ρ=some (fl,ρ')->Post X.K B G E fl ρ'->t E σ H
noncomputable def SSs (X:Cx)(st:List Stmt)(m:MS):Prop:=∃t,PSs X st t/\∀B G H σ ρ fl ρ' (E:Ends),SI X.K B G H σ ρ->m ρ=some (fl,ρ')->Post X.K B G E fl ρ'->t E σ H
noncomputable def zbX:MS:=fun ρ=>some (.next,ρ)
noncomputable def sSeq (a b:MS):MS:=fun ρ=>(a ρ).bind fun p=>match p.1 with
 | .next=>b p.2
 |f=>some (f,p.2)
section
variable {X:Cx} {st:Stmt} {rest:List Stmt} {m n:MS} {e:Expr} {me:ME} {pos:Pos}
theorem zaL:SSs X [] zbX:=⟨_,pss_nil,fun B G H σ ρ fl ρ' E I hm k=>by cases hm;exact k G H σ I (Fz.refl G)⟩
theorem zak (h:SS X st m):SSs X [st] m:=let⟨t,p,s⟩:=h;⟨t,zgF p,s⟩
theorem zah (h:SS X st m)(hr:SSs X rest n):SSs X (st::rest) (sSeq m n):=by
 obtain⟨t,p,s⟩:=h
 obtain⟨u,q,z⟩:=hr
 refine⟨_,zhv p q,fun B G H σ ρ fl ρ' E I hm k=>?_⟩
 obtain⟨⟨f,ρ1⟩,e1,e2⟩:=zaa hm
 refine s B G H σ ρ f ρ1 _ I e1 ?_
 cases f with
 |next=>exact fun G1 H1 σ1 I1 f1=>z B G1 H1 σ1 ρ1 fl ρ' E I1 e2 (k.mono f1)
 |brk=>cases e2;exact k
 |cont=>cases e2;exact k
 |ret r=>cases e2;exact k
noncomputable def sExpr (m:ME):MS:=fun ρ=>(m ρ).map fun p=>(.next,p.2)
theorem ziV (h:SE X e me)(hs:autoParam (swapsWith e none pos.line X.env=pure false) zu3._auto_1):SS X (.Expr e pos) (sExpr me):=by
 obtain⟨t,p,s⟩:=h
 refine⟨_,zi7 p hs,fun B G H σ ρ fl ρ' E I hm k=>?_⟩
 obtain⟨⟨d,ρ1⟩,e1,e2⟩:=zag hm
 cases e2
 exact s B G H σ ρ d ρ1 _ I e1 fun G1 H1 v I1 f1 _=>k G1 H1 σ I1 f1
noncomputable def sRet (m:ME):MS:=fun ρ=>(m ρ).map fun p=>(.ret (.val p.1),p.2)
theorem zaZ (h:SE X e me):SS X (.Return (some e) pos) (sRet me):=by
 obtain⟨t,p,s⟩:=h
 refine⟨_,zeR p,fun B G H σ ρ fl ρ' E I hm k=>?_⟩
 obtain⟨⟨d,ρ1⟩,e1,e2⟩:=zag hm
 cases e2
 exact s B G H σ ρ d ρ1 _ I e1 fun G1 H1 v I1 f1 r1=>k G1 H1 σ v I1 f1 r1
noncomputable def zfC (m:MO):MS:=fun ρ=>(m ρ).map fun p=>(.ret (.own p.1),p.2)
theorem zdp {mo:MO}(h:SO X e mo):SS X (.Return (some e) pos) (zfC mo):=by
 obtain⟨t,p,s⟩:=h
 refine⟨_,zeR p,fun B G H σ ρ fl ρ' E I hm k=>?_⟩
 obtain⟨⟨d,ρ1⟩,e1,e2⟩:=zag hm
 cases e2
 exact s B G H σ ρ d ρ1 _ I e1 fun G1 H1 l xs I1 f1 g1 h1 r1 b1 _=>k G1 H1 σ _ I1 f1 ⟨l,xs,rfl,g1,h1,r1,b1⟩
theorem SI.emp (I:SI K B G H σ ρ)(i:Nat):SI K B G H σ (ρ.set i .emp):=by
 by_cases hi:i<ρ.length
 ·have hs:σ[i]? =some (σ[i]'(by rw[I.len];exact hi)):=List.getElem?_eq_getElem _
  have h:=I.chg (i:=i) (ov:=σ[i]'(by rw[I.len];exact hi)) (s':= .emp) I.fz (Fz.refl G) I.new I.keep I.there (fun _ _ _ _ _ _ g _=>⟨g,rfl,id⟩) trivial
  rwa[zej hs]at h
 ·rw[List.set_eq_of_length_le (by lia)];exact I
noncomputable def zjl (i:Nat):MS:=fun ρ=>match ρ[i]? with
 |some (.val d)=>some (.ret (.val d),ρ)
 |some (.own ds)=>some (.ret (.own ds),ρ.set i .emp)
 |_=>none
theorem zj8 (i:Nat)(hN:autoParam (X.N[i]? =some x) zu3._auto_1)(hv:autoParam (Vis X.env.scope x) zu6._auto_1)(hd:autoParam ((x==("__debug__":Str))=false) zu1._auto_1)
  (hcd:autoParam ((x==("__classdict__":Str))=false) zu1._auto_1):SS X (.Return (some (.Name x pos')) pos) (zjl i):=by
 refine⟨_,zeR (zaH hN hv hd hcd),fun B G H σ ρ fl ρ' E I hm k=>?_⟩
 unfold zjl at hm
 cases e:ρ[i]? with
 |none=>rw[e]at hm;cases hm
 |some s=>
  rw[e]at hm
  have h:=I.slot i s e
  cases s with
  |emp=>cases hm
  |two _ _=>cases hm
  |tre _=>cases hm
  |ptr _=>cases hm
  |par ds=>cases hm
  |val d=>cases hm;obtain⟨v,h1,h2⟩:=h;exact⟨v,h1,k G H σ v I (Fz.refl G) h2⟩
  |own ds=>
   cases hm
   obtain⟨l,xs,h1,h2,h3,h4,h5⟩:=h
   exact⟨.ref l,h1,k G H σ _ (I.emp i) (Fz.refl G) ⟨l,xs,rfl,h2,h3,h4,h5⟩⟩
noncomputable def sIf (c:MT)(a b:MS):MS:=fun ρ=>(c ρ).bind fun p=>if p.1 then a p.2 else b p.2
theorem zb9 {c:Expr}{a b:List Stmt}{ma mb:MS}(hc:STt X c mc)(ha:SSs X a ma)(hb:SSs X b mb):SS X (.If c a b pos) (sIf mc ma mb):=by
 obtain⟨tc,pc,sc⟩:=hc
 obtain⟨ta,pa,sa⟩:=ha
 obtain⟨tb,pb,sb⟩:=hb
 refine⟨_,ps_if pc pa pb,fun B G H σ ρ fl ρ' E I hm k=>?_⟩
 obtain⟨⟨x,ρ1⟩,e1,e2⟩:=zaa hm
 refine sc B G H σ ρ x ρ1 _ I e1 fun G1 H1 I1 f1=>?_
 cases x with
 |true=>exact sa B G1 H1 σ ρ1 fl ρ' E I1 e2 (k.mono f1)
 |false=>exact sb B G1 H1 σ ρ1 fl ρ' E I1 e2 (k.mono f1)
end
noncomputable def SG (X:Cx)(tg:Expr)(g:D->R->Option R):Prop:=∃t,PG X tg t/\∀B G H σ ρ v d ρ' (Q:St->Hp->Prop),SI X.K B G H σ ρ->RepD X.K G v d->g d ρ=some ρ'->(∀G' H' σ',SI X.K B G' H' σ' ρ'->Fz G G'->Q σ' H')->t v σ H Q
noncomputable def SGs (X:Cx)(tgs:List Expr)(g:List D->R->Option R):Prop:=∃t,PGs X tgs t/\∀B G H σ ρ vs ds ρ' (Q:St->Hp->Prop),SI X.K B G H σ ρ->RepL X.K G vs ds->g ds ρ=some ρ'->(∀G' H' σ',SI X.K B G' H' σ' ρ'->Fz G G'->Q σ' H')->t vs σ H Q
noncomputable def gN (i:Nat):D->R->Option R:=fun d ρ=>some (ρ.set i (.val d))
noncomputable def zha:List D->R->Option R:=fun ds ρ=>match ds with
 |[]=>some ρ
 |_=>none
noncomputable def zb2 (g:D->R->Option R)(h:List D->R->Option R):List D->R->Option R:=fun ds ρ=>match ds with
 |d::ds=>(g d ρ).bind fun ρ1=>h ds ρ1
 |[]=>none
noncomputable def gT (n:Nat)(g:List D->R->Option R):D->R->Option R:=fun d ρ=>match d with
 | .tup ds=>if ds.length=n then g ds ρ else none
 |_=>none
section
variable {X:Cx} {pos:Pos}
theorem zau (i:Nat)(hN:X.N.Nodup)(hi:autoParam (X.N[i]? =some x) zu3._auto_1)(hx:autoParam (Loc X.env.scope x) zu10._auto_1)(hf:autoParam (X.fn x=true\/X.env.scope.names.lookup x=some .local) zu10._auto_1):SG X (.Name x pos) (gN i):=
 ⟨_,zhd hN hi hx hf,fun B G H σ ρ v d ρ' Q I r hm k=>by cases hm;exact k G H _ (I.set r) (Fz.refl G)⟩
theorem zeA:SGs X [] zha:=⟨_,pgs_nil,fun B G H σ ρ vs ds ρ' Q I r hm k=>by
 cases ds with
 |nil=>cases hm;exact⟨r,k G H σ I (Fz.refl G)⟩
 |cons=>cases hm⟩
theorem za7 {e:Expr}{g:D->R->Option R}(h1:SG X e g)(h2:SGs X es h)(hs:autoParam ((assignEach (e::es) X.env).map (·.2)=assign e X.env::(assignEach es X.env).map (·.2)) zu3._auto_1):SGs X (e::es) (zb2 g h):=by
 obtain⟨t,p,s⟩:=h1
 obtain⟨u,q,z⟩:=h2
 refine⟨_,pgs_cons p q hs,fun B G H σ ρ vs ds ρ' Q I r hm k=>?_⟩
 cases ds with
 |nil=>cases hm
 |cons d ds=>
  obtain⟨x,ys,rfl,rx,ry⟩:=r
  obtain⟨ρ1,e1,e2⟩:=zaa hm
  exact⟨x,ys,rfl,s B G H σ ρ x d ρ1 _ I rx e1 fun G1 H1 σ1 I1 f1=>z B G1 H1 σ1 ρ1 ys ds ρ' Q I1 (ry.mono f1) e2 fun G2 H2 σ2 I2 f2=>k G2 H2 σ2 I2 (f1.trans f2)⟩
theorem zf3 {k:Nat}{g:List D->R->Option R}(hc:X.calm=true)(h:SGs X es g)(hn:autoParam ((assignEach es X.env).length=n) zu3._auto_1)(hst:autoParam ((assignEach es X.env).findIdx? (·.1)=none) zu3._auto_1):SG X (.Tuple es k pos) (gT n g):=by
 obtain⟨t,p,s⟩:=h
 refine⟨_,pg_tup hc p hn hst,fun B G H σ ρ v d ρ' Q I r hm k=>?_⟩
 cases d<;>try cases hm
 rename_i ds
 simp only[gT]at hm
 split at hm
 ·rename_i hl
  obtain⟨a,xs,e,ha,rx⟩:=I.tup r
  exact⟨a,xs,e,SqT.of ha,by rw[rx.length];exact hl,s B G H σ ρ xs ds ρ' Q I rx hm k⟩
 ·cases hm
variable {e tg:Expr} {me:ME} {mo:MO}
noncomputable def sSet (i:Nat)(m:ME):MS:=fun ρ=>(m ρ).map fun p=>(.next,p.2.set i (.val p.1))
theorem zaN (i:Nat)(he:SE X e me)(hN:X.N.Nodup)(hi:autoParam (X.N[i]? =some x) zu3._auto_1)(hx:autoParam (Loc X.env.scope x) zu10._auto_1)(hs:autoParam (swapsWith e (some (.Name x pos')) pos.line X.env=pure false) zu3._auto_1)
    (hf:autoParam (X.fn x=true\/X.env.scope.names.lookup x=some .local) zu10._auto_1):SS X (.Assign [.Name x pos'] e pos) (sSet i me):=by
  obtain⟨t,p,s⟩:=he
  refine⟨_,ze5 hN hi hx p hs hf,fun B G H σ ρ fl ρ' E I hm k=>?_⟩
  obtain⟨⟨d,ρ1⟩,e1,e3⟩:=zag hm
  cases e3
  exact s B G H σ ρ d ρ1 _ I e1 fun G1 H1 v I1 f1 r1=>k G1 H1 _ (I1.set r1) f1
noncomputable def sSetO (i:Nat)(m:MO):MS:=fun ρ=>(m ρ).map fun p=>(.next,p.2.set i (.own p.1))
theorem zkH (i:Nat)(he:SO X e mo)(hN:X.N.Nodup)(hi:autoParam (X.N[i]? =some x) zu3._auto_1)(hx:autoParam (Loc X.env.scope x) zu10._auto_1)(hs:autoParam (swapsWith e (some (.Name x pos')) pos.line X.env=pure false) zu3._auto_1)
    (hf:autoParam (X.fn x=true\/X.env.scope.names.lookup x=some .local) zu10._auto_1):SS X (.Assign [.Name x pos'] e pos) (sSetO i mo):=by
  obtain⟨t,p,s⟩:=he
  refine⟨_,ze5 hN hi hx p hs hf,fun B G H σ ρ fl ρ' E I hm k=>?_⟩
  obtain⟨⟨d,ρ1⟩,e1,e3⟩:=zag hm
  cases e3
  exact s B G H σ ρ d ρ1 _ I e1 fun G1 H1 l xs I1 f1 g1 h1 r1 b1 n1=>k G1 H1 _ (I1.setO g1 h1 r1 b1 n1) f1
noncomputable def sPut (j:Nat)(mi me:ME):MS:=fun ρ=>(me ρ).bind fun p=>if hasV p.2 j then(mi p.2).bind fun q=>match q.1 with
 | .int k=>q.2[j]?.bind fun s=>s.items.bind fun ds=>(ixN ds.length k).bind fun n=>some (.next,q.2.set j (s.put (ds.set n p.1)))
 |_=>none else none
theorem ss_put (j:Nat){i:Expr}{mi:ME}{pos' tpos:Pos}(he:SE X e me)(hi:SE X i mi)(hN:autoParam (X.N[j]? =some x) zu3._auto_1)(hv:autoParam (Vis X.env.scope x) zu6._auto_1)(hd:autoParam ((x==("__debug__":Str))=false) zu1._auto_1)
  (hcd:autoParam ((x==("__classdict__":Str))=false) zu1._auto_1)
  (ha :autoParam (∀ v, assign (.Subscript (.Name x pos') i tpos) X.env v = (do
   let ov<-holding [v] (eval (.Name x pos') X.env)
   let iv<-holding [v,ov] (eval i X.env)
   standAt tpos
   holding [v,ov,iv] (setItem ov iv v)
   release [v,ov,iv] [])) zu9._auto_1)
  (hs:autoParam (swapsWithSole [.Subscript (.Name x pos') i tpos] e pos.line X.env=pure false) zu3._auto_1) (hw:autoParam (swappedStores [.Subscript (.Name x pos') i tpos] e X.env=pure none) zu3._auto_1)
  (h1:autoParam ((assignEach [.Subscript (.Name x pos') i tpos] X.env).map (·.2)=[assign (.Subscript (.Name x pos') i tpos) X.env]) zu3._auto_1):SS X (.Assign [.Subscript (.Name x pos') i tpos] e pos) (sPut j mi me):=by
 obtain⟨t,p,s⟩:=he
 obtain⟨u,q,z⟩:=hi
 refine⟨_,ps_asg p (pg_sub (zaH hN hv hd hcd) q set_list ha) hs hw h1,fun B G H σ ρ fl ρ' E I hm k=>?_⟩
 obtain⟨⟨d,ρ1⟩,e1,hm⟩:=zaa hm
 refine s B G H σ ρ d ρ1 _ I e1 fun G1 H1 v I1 f1 r1=>?_
 split at hm
 ·rename_i hh
  obtain⟨w,ew⟩:=I1.has hh
  obtain⟨⟨kd,ρ2⟩,e2,hm⟩:=zaa hm
  cases kd<;>try cases hm
  rename_i kk
  obtain⟨s2,e3,hm⟩:=zaa hm
  obtain⟨ds,e4,hm⟩:=zaa hm
  obtain⟨n,e5,hm⟩:=zaa hm
  cases hm
  refine⟨w,ew,z B G1 H1 σ ρ1 (.int kk) ρ2 _ I1 e2 fun G2 H2 y I2 f2 r2=>?_⟩
  obtain⟨l,xs,k1,k2,k3,k4⟩:=I2.wr e3 e4
  rw[ew]at k1;cases k1
  refine⟨l,xs,kk,n,rfl,r2,k3,by rw[k4.length];exact e5,?_⟩
  exact k G2 _ σ (I2.write e3 e4 ew (k4.set n (r1.mono f2))) (f1.trans f2)
 ·cases hm
end
structure Itm (K:W.Frag) (J:It) (G:Hp) (items:List D):Prop where
 go:∀H i,Fz G H->i<items.length->J.go i H
 yld:∀H i x H',Fz G H->J.yld i H x H'->∀d,items[i]? =some d->(H'=H/\RepD K G x d)\/∃p xs ds,H p=none/\H'=upd H p (.tup xs)/\x= .ref p/\d= .tup ds/\RepL K G xs ds
 stop:∀H i,Fz G H->items.length<=i->J.stop i H
noncomputable def SIt (X:Cx)(tg it:Expr)(m:MA):Prop:=∃wi,PI X tg it wi/\∀B G H σ ρ ds ρ' (Q:It->Hp->Prop),SI X.K B G H σ ρ->m ρ=some (ds,ρ')->(∀J G' H',SI X.K B G' H' σ ρ'->Fz G G'->Itm X.K J G' ds->Q J H')->wi σ H Q
noncomputable def forM (f:D->R->Option (Fl×R)):List D->R->Option (Fl×R)
 |[],ρ=>some (.next,ρ)
 |d::ds,ρ=>(f d ρ).bind fun p=>match p.1 with
  | .next=>forM f ds p.2
  | .cont=>forM f ds p.2
  | .brk=>some (.next,p.2)
  | .ret r=>some (.ret r,p.2)
noncomputable def sFor (mi:MA)(g:D->R->Option R)(mb:MS):MS:=fun ρ=>(mi ρ).bind fun p=>forM (fun d ρ=>(g d ρ).bind fun ρ'=>mb ρ') p.1 p.2
theorem SI.yld {x:V}(I:SI K B G H σ ρ)
  (h:(H'=H/\RepD K G x d)\/∃p xs ds,H p=none/\H'=upd H p (.tup xs)/\x= .ref p/\d= .tup ds/\RepL K G xs ds):∃G',SI K B G' H' σ ρ/\Fz G G'/\RepD K G' x d:=by
 rcases h with⟨rfl,r⟩|⟨p,xs,ds,hp,rfl,rfl,rfl,r⟩
 ·exact⟨G,I,Fz.refl G,r⟩
 ·obtain⟨I2,f2,r2⟩:=I.newT hp r
  exact⟨_,I2,f2,r2⟩
theorem zd7 {tg it:Expr}{mi:MA}{g:D->R->Option R}{mb:MS}(hp:PassesOwn (model X.prog X.w) X.A X.env X.xe)(hc:X.calm=true)(hi:SIt X tg it mi)(hg:SG X tg g)(hb:SSs X body mb)
    (hs:autoParam (∀x,foldedSetIterable it X.env x=pure x) zu9._auto_1):SS X (.For tg it body [] pos) (sFor mi g mb):=by
  obtain⟨wi,pi,si⟩:=hi
  obtain⟨tg',pg,sg⟩:=hg
  obtain⟨tb,pb,sb⟩:=hb
  refine⟨_,ps_for hp hc pi pg pb hs,fun B G H σ ρ fl ρ' E I hm k=>?_⟩
  obtain⟨⟨ds,ρ1⟩,e1,hm⟩:=zaa hm
  refine si B G H σ ρ ds ρ1 _ I e1 fun J G1 H1 I1 f1 IT=>?_
  refine⟨fun i m σ H=>m=ds.length-i/\i<=ds.length/\∃G2 ρ2,SI X.K B G2 H σ ρ2/\Fz G1 G2/\forM (fun d ρ=>(g d ρ).bind fun ρ'=>mb ρ') (ds.drop i) ρ2=some (fl,ρ'),⟨ds.length,by simp,Nat.zero_le _,G1,ρ1,I1,Fz.refl _,by simpa using hm⟩,?_⟩
  rintro i m σ2 H2 ⟨rfl,hi,G2,ρ2,I2,f2,e2⟩
  by_cases hlt:i<ds.length
  . rw[List.drop_eq_getElem_cons hlt]at e2
    simp only[forM]at e2
    obtain⟨⟨f,ρ3⟩,e3,e4⟩:=zaa e2
    obtain⟨ρ2',e5,e6⟩:=zaa e3
    have fz2:Fz G1 H2:=f2.trans I2.fz
    refine .inr ⟨IT.go H2 i fz2 hlt,fun σ' H'=>(∃G3,SI X.K B G3 H' σ' ρ3/\Fz G1 G3)/\(f= .next\/f= .cont),?_,fun x H' y=>?_⟩
    . rintro σ' H' ⟨⟨G3,I3,f3⟩,hf⟩
      refine⟨ds.length-(i+1),by lia,rfl,hlt,G3,ρ3,I3,f3,?_⟩
      rcases hf with rfl|rfl<;>exact e4
    . have yy:=IT.yld H2 i x H' fz2 y ds[i] (List.getElem?_eq_getElem hlt)
      have yy2:(H'=H2/\RepD X.K G2 x ds[i])\/∃p xs es,H2 p=none/\H'=upd H2 p (.tup xs)/\x= .ref p/\ds[i]= .tup es/\RepL X.K G2 xs es:=by
        rcases yy with⟨a,b⟩|⟨p,xs,es,a,b,c,d,e⟩
        . exact .inl ⟨a,b.mono f2⟩
        . exact .inr ⟨p,xs,es,a,b,c,d,e.mono f2⟩
      obtain⟨G3,I3,f3,r3⟩:=I2.yld yy2
      refine sg B G3 H' σ2 ρ2 x ds[i] ρ2' _ I3 r3 e5 fun G4 H4 σ4 I4 f4=>sb B G4 H4 σ4 ρ2' f ρ3 _ I4 e6 ?_
      have ff:Fz G1 G4:=f2.trans (f3.trans f4)
      cases f with
      |next=>exact fun G5 H5 σ5 I5 f5=>⟨⟨G5,I5,ff.trans f5⟩,.inl rfl⟩
      |cont=>exact fun G5 H5 σ5 I5 f5=>⟨⟨G5,I5,ff.trans f5⟩,.inr rfl⟩
      |brk=>cases e4;exact fun G5 H5 σ5 I5 f5=>k G5 H5 σ5 I5 (f1.trans (ff.trans f5))
      |ret r=>cases e4;exact fun G5 H5 σ5 v I5 f5=>k G5 H5 σ5 v I5 (f1.trans (ff.trans f5))
  . have e:i=ds.length:=by lia
    subst e
    rw[List.drop_length]at e2
    cases e2
    exact .inl ⟨IT.stop H2 _ (f2.trans I2.fz) (Nat.le_refl _),k G2 H2 σ2 I2 (f1.trans f2)⟩
section
variable {X:Cx} {tg it:Expr} {me:ME}
noncomputable def iSeq (m:ME):MA:=fun ρ=>(m ρ).bind fun p=>(zaG [p.1]).map fun ds=>(ds,p.2)
theorem pi_or {l:Expr}{tl:TE}(hl:PE X l tl):PI X tg l (fun σ H R=>tl σ H fun x H1=>∃a,x= .ref a/\(((∃xs,SqL X.K H1 a xs)/\R (Itl X.K a) H1)\/((∃xs,SqT X.K H1 a xs)/\R (Itt X.K a) H1))):=by
 intro pins s σ H R I h
 refine thn (hl pins s σ H _ I h) fun v s1 ⟨x,H1,I1,r1,q1⟩=>?_
 obtain⟨a,e,q⟩:=q1
 subst e
 cases r1
 rcases q with⟨⟨xs,hq⟩,q⟩|⟨⟨xs,hq⟩,q⟩
 ·obtain⟨its,rv,p,hz⟩:=I1.list hq
  refine wpAny_pyIter_list p.isList ?_
  refine⟨s1.heap.objs.size,[s1.heap.objs.size],_,_,H1,rfl,I1.kept (t':=s1.toks) fun b o e=>Heap.get?_push_of_some _ e,zjq a _,⟨_,Heap.get?_push_size _ rfl,rfl,rfl⟩,fun b hb=>?_,q⟩
  have e:b=s1.heap.objs.size:=by simpa using hb
  subst e
  exact I1.fpOk (Nat.le_refl _) (I1.hok.fresh (Nat.le_refl _))
 ·obtain⟨its,rv,p,hz⟩:=I1.tuple hq
  refine wpAny_pyIter_tuple (show s1.heap.IsTuple a its.toArray from p) ?_
  refine⟨s1.heap.objs.size,[s1.heap.objs.size],_,_,H1,rfl,I1.kept (t':=s1.toks) fun b o e=>Heap.get?_push_of_some _ e,ziD a _,⟨_,Heap.get?_push_size _ rfl,rfl,rfl⟩,fun b hb=>?_,q⟩
  have e:b=s1.heap.objs.size:=by simpa using hb
  subst e
  exact I1.fpOk (Nat.le_refl _) (I1.hok.fresh (Nat.le_refl _))
theorem zhG {a:Addr}(hg:SqL K G a xs)(r:RepL K G xs ds):Itm K (Itl K a) G ds where
 go:=fun H i f hi=>by
  have hl:=r.length
  exact⟨xs,xs[i],f.sql hg,List.getElem?_eq_getElem (by lia)⟩
 yld:=fun H i x H' f y d e=>by
  obtain⟨rfl,y⟩:=y
  have hx:=y xs (f.sql hg)
  obtain⟨x',h1,h2⟩:=r.get e
  rw[hx]at h1;cases h1
  exact .inl ⟨rfl,h2⟩
 stop:=fun H i f hi=>⟨xs,f.sql hg,by rw[r.length];exact hi⟩
theorem itm_tup {a:Addr}(hg:G a=some (.tup xs))(r:RepL K G xs ds):Itm K (Itt K a) G ds where
 go:=fun H i f hi=>by
  have hl:=r.length
  exact⟨xs,xs[i],SqT.of (f _ _ hg),List.getElem?_eq_getElem (by lia)⟩
 yld:=fun H i x H' f y d e=>by
  obtain⟨rfl,y⟩:=y
  have hx:=y xs (SqT.of (f _ _ hg))
  obtain⟨x',h1,h2⟩:=r.get e
  rw[hx]at h1;cases h1
  exact .inl ⟨rfl,h2⟩
 stop:=fun H i f hi=>⟨xs,SqT.of (f _ _ hg),by rw[r.length];exact hi⟩
theorem zh6 (h:SE X it me):SIt X tg it (iSeq me):=by
 obtain⟨t,p,s⟩:=h
 refine⟨_,pi_or p,fun B G H σ ρ ds ρ' Q I hm k=>?_⟩
 obtain⟨⟨d,ρ1⟩,e1,hm⟩:=zaa hm
 obtain⟨es,e2,e3⟩:=zag hm
 cases e3
 refine s B G H σ ρ d ρ1 _ I e1 fun G1 H1 v I1 f1 r1=>?_
 cases d<;>simp only[zaG]at e2<;>try cases e2
 ·obtain⟨a,xs,rfl,ha,r⟩:=r1
  exact⟨a,rfl,.inl ⟨⟨xs,SqL.of (I1.fz _ _ ha)⟩,k _ G1 H1 I1 f1 (zhG (SqL.of ha) r)⟩⟩
 ·obtain⟨a,xs,rfl,ha,r⟩:=r1
  exact⟨a,rfl,.inr ⟨⟨xs,SqT.of (I1.fz _ _ ha)⟩,k _ G1 H1 I1 f1 (itm_tup ha r)⟩⟩
 ·obtain⟨a,rfl,ha⟩:=r1
  exact⟨a,rfl,.inl ⟨⟨_,I1.fz.sql ha⟩,k _ G1 H1 I1 f1 (zhG ha (RepL.ints _))⟩⟩
end
noncomputable def zbo (lo:Int)(n:Nat):List D:=(List.range n).map fun(i:Nat)=>D.int (lo+(i:Int))
theorem zfL (lo:Int)(n:Nat):Itm K (Itr lo n) G (zbo lo n) where
 go:=fun H i f hi=>by show i<n;simpa[zbo]using hi
 yld:=fun H i x H' f y d e=>by
  obtain⟨rfl,rfl⟩:=y
  unfold zbo at e
  rw[List.getElem?_map]at e
  cases q:(List.range n)[i]? with
  |none=>rw[q]at e;cases e
  |some j=>
   rw[q]at e
   have hj:j=i:=by
    have:=List.getElem?_eq_some_iff.mp q
    obtain⟨h1,h2⟩:=this
    simpa using h2.symm
   subst hj
   cases e
   exact .inl ⟨rfl,rfl⟩
 stop:=fun H i f hi=>by show n<=i;simpa[zbo]using hi
noncomputable def zbu (j:Int):Bool:=decide (-1000000000000<=j)&&decide (j<=1000000000000)
theorem zbg {j:Int}(h:zbu j=true): -(2^62)<=j/\j<2^62:=by
 unfold zbu at h
 simp only[Bool.and_eq_true,decide_eq_true_eq]at h
 lia
noncomputable def iR1 (ma:MA):MA:=fun ρ=>(ma ρ).bind fun p=>match p.1 with
 |[.int j]=>if zbu j then some (zbo 0 j.toNat,p.2)else none
 |_=>none
noncomputable def iR2 (ma:MA):MA:=fun ρ=>(ma ρ).bind fun p=>match p.1 with
 |[.int i,.int j]=>if zbu i&&zbu j then some (zbo i (j-i).toNat,p.2)else none
 |_=>none
section
variable {X:Cx} {tg a b:Expr} {ma:MA} {p pos:Pos}
theorem zbe (hm:X.mg "range"=none)(ha:SA X [a] ma)(hg:autoParam (Gl X "range") zu3._auto_1)(hs:autoParam (starEach [a] X.env=[(false,eval a X.env)]) zu3._auto_1):SIt X tg (.Call (.Name "range" p) [a] [] pos) (iR1 ma):=by
 obtain⟨t,pa,sa⟩:=ha
 refine⟨_,zkC hg hm pa hs,fun B G H σ ρ ds ρ' Q I hm k=>?_⟩
 obtain⟨⟨es,ρ1⟩,e1,h2⟩:=zaa hm
 dsimp only at h2
 refine sa B G H σ ρ es ρ1 _ I e1 fun G1 H1 vs I1 f1 r1=>?_
 split at h2
 ·rename_i j
  split at h2
  ·rename_i hj
   cases h2
   obtain⟨x,rfl,rx⟩:=r1.one
   cases(show x=V.int j from rx)
   exact⟨j,rfl,(zbg hj).1,(zbg hj).2,k _ G1 H1 I1 f1 (zfL 0 _)⟩
  ·cases h2
 ·cases h2
theorem zkz (hm:X.mg "range"=none)(ha:SA X [a,b] ma)(hg:autoParam (Gl X "range") zu3._auto_1)(hs:autoParam (starEach [a,b] X.env=[(false,eval a X.env),(false,eval b X.env)]) zu3._auto_1)(hs2:autoParam (starEach [b] X.env=[(false,eval b X.env)]) zu3._auto_1):SIt X tg (.Call (.Name "range" p) [a,b] [] pos) (iR2 ma):=by
 obtain⟨t,pa,sa⟩:=ha
 refine⟨_,zja hg hm pa hs hs2,fun B G H σ ρ ds ρ' Q I hm k=>?_⟩
 obtain⟨⟨es,ρ1⟩,e1,h2⟩:=zaa hm
 dsimp only at h2
 refine sa B G H σ ρ es ρ1 _ I e1 fun G1 H1 vs I1 f1 r1=>?_
 split at h2
 ·rename_i i j
  split at h2
  ·rename_i hj
   simp only[Bool.and_eq_true]at hj
   cases h2
   obtain⟨x,y,rfl,rx,ry⟩:=r1.two
   cases(show x=V.int i from rx)
   cases(show y=V.int j from ry)
   exact⟨i,j,rfl,⟨(zbg hj.1).1,(zbg hj.1).2,(zbg hj.2).1,(zbg hj.2).2⟩,k _ G1 H1 I1 f1 (zfL i _)⟩
  ·cases h2
 ·cases h2
end
noncomputable def ResF (K:W.Frag)(G' H' H:Hp)(v:V):Sl->Prop
 | .val d=>RepD K G' v d
 | .own ds=>∃l xs,v= .ref l/\G' l=none/\H' l=some (.lst xs)/\RepL K G' xs ds/\H l=none
 | .tre t=>∃A,RepT K G' H' v t A/\A.Nodup/\∀a∈A,G' a=none/\H a=none
 | .two ds es=>∃t l xs m ys,v= .ref t/\H' t=some (.tup [.ref l,.ref m])/\l≠m/\G' l=none/\H' l=some (.lst xs)/\RepL K G' xs ds/\H l=none/\G' m=none/\H' m=some (.lst ys)/\RepL K G' ys es/\H m=none
 |_=>False
noncomputable def spP (K:W.Frag)(n:Nat)(F:List D->Option Sl):Sp:=fun vs H Q _=>∃G ds r,F ds=some r/\ds.length=n/\Fz G H/\RepL K G vs ds/\
 ∀G' H' v,Fz G G'->Fz G' H'->(∀b o,G' b=some o->G b≠none\/H b=none)->Fz H H'->ResF K G' H' H v r->Q v H'
noncomputable def spM (K:W.Frag)(n:Nat)(F:List D->List D->Option (Sl×List D)):Sp:=fun vs H Q _=>∃G l xs cs ws ds r out,vs= .ref l::ws/\F cs ds=some (r,out)/\ds.length+1=n/\Fz G H/\G l=none/\H l=some (.lst xs)/\RepL K G xs cs/\RepL K G ws ds/\
 ∀G' H' v ys,Fz G G'->Fz G' H'->(∀b o,G' b=some o->G b≠none\/H b=none)->(∀b o,b≠l->H b=some o->H' b=some o)->G' l=none->H' l=some (.lst ys)->RepL K G' ys out->ResF K G' H' H v r->Q v H'
noncomputable def fP (N:Nat)(m:MS):List D->Option Sl:=fun ds=>(m (ds.map .val++List.replicate (N-ds.length) .emp)).bind fun p=>match p.1 with
 | .ret r=>some r
 | .next=>some (.val .non)
 |_=>none
noncomputable def fM (N:Nat)(m:MS):List D->List D->Option (Sl×List D):=fun cs ds=>(m (.par cs::(ds.map .val++List.replicate (N-(ds.length+1)) .emp))).bind fun p=>match p.1,(p.2[0]?:Option Sl)with
 |Fl.ret r,some (Sl.par out)=>some (r,out)
 |Fl.next,some (Sl.par out)=>some (.val .non,out)
 |_,_=>none
theorem zem (h:vs.length<=N.length):(L2.start N vs).length=N.length:=by
 unfold L2.start
 rw[List.length_append,List.length_map,List.length_replicate]
 lia
theorem SI.start (fz:Fz G H)(r:RepL K G vs ds)(h:ds.length<=N.length):
  SI K ⟨G,H,[]⟩ G H (L2.start N vs) (ds.map .val++List.replicate (N.length-ds.length) .emp) where
 fz:=fz
 g0:=Fz.refl G
 new:=fun b o e=> .inl (by show G b≠none;rw[e];simp)
 keep:=fun b o e _=>e
 there:=fun b e=>e
 ob:=fun i b m=>by cases m
 len:=by rw[zem (by rw[r.length];exact h),List.length_append,List.length_map,List.length_replicate];lia
 slot:=fun i s e=>by
  by_cases hi:i<ds.length
  ·rw[List.getElem?_append_left (by simpa using hi),List.getElem?_map,List.getElem?_eq_getElem hi]at e
   cases e
   obtain⟨x,h1,h2⟩:=r.get (List.getElem?_eq_getElem hi)
   refine⟨x,?_,h2⟩
   unfold L2.start
   rw[List.getElem?_append_left (by rw[List.length_map,r.length];exact hi),List.getElem?_map,h1]
   rfl
  ·rw[List.getElem?_append_right (by simpa using hi),List.getElem?_replicate]at e
   split at e
   ·cases e;trivial
   ·cases e
 dis:=fun i j s _ a _ e _ w=>by
  exfalso
  by_cases hi:i<ds.length
  ·rw[List.getElem?_append_left (by simpa using hi),List.getElem?_map,List.getElem?_eq_getElem hi]at e
   cases e;exact w
  ·rw[List.getElem?_append_right (by simpa using hi),List.getElem?_replicate]at e
   split at e
   ·cases e;exact w
   ·cases e
theorem SI.startM {cs:List D}(fz:Fz G H)(hg:G l=none)(hl:H l=some (.lst xs))(rc:RepL K G xs cs)(r:RepL K G vs ds)(h:ds.length+1<=N.length):
  SI K ⟨G,H,[(0,l)]⟩ G H (L2.start N (.ref l::vs)) (.par cs::(ds.map .val++List.replicate (N.length-(ds.length+1)) .emp)) where
 fz:=fz
 g0:=Fz.refl G
 new:=fun b o e=> .inl (by show G b≠none;rw[e];simp)
 keep:=fun b o e _=>e
 there:=fun b e=>e
 ob:=fun i b m=>by
  have:b=l:=((by simpa using m):i=0/\b=l).2
  subst this
  show H b≠none
  rw[hl];simp
 len:=by
  have:=r.length
  rw[zem (by rw[List.length_cons,r.length];exact h),List.length_cons,List.length_append,List.length_map,List.length_replicate];lia
 slot:=fun i s e=>by
  cases i with
  |zero=>simp at e;subst e;exact⟨l,xs,rfl,hg,hl,rc,by simp⟩
  |succ i=>
   rw[List.getElem?_cons_succ]at e
   by_cases hi:i<ds.length
   ·rw[List.getElem?_append_left (by simpa using hi),List.getElem?_map,List.getElem?_eq_getElem hi]at e
    cases e
    obtain⟨x,h1,h2⟩:=r.get (List.getElem?_eq_getElem hi)
    refine⟨x,?_,h2⟩
    unfold L2.start
    rw[List.map_cons,List.cons_append,List.getElem?_cons_succ,List.getElem?_append_left (by rw[List.length_map,r.length];exact hi),List.getElem?_map,h1]
    rfl
   ·rw[List.getElem?_append_right (by simpa using hi),List.getElem?_replicate]at e
    split at e
    ·cases e;trivial
    ·cases e
 dis:=fun i j s t a hij hi hj w1 w2=>by
  have z:∀(i:Nat) (s:Sl),(Sl.par cs::(ds.map .val++List.replicate (N.length-(ds.length+1)) .emp))[i]? =some s->OwS K G H (L2.start N (.ref l::vs))[i]? a s->i=0:=fun i s e q=>by
   cases i with
   |zero=>rfl
   |succ i=>
    exfalso
    rw[List.getElem?_cons_succ]at e
    by_cases hi:i<ds.length
    ·rw[List.getElem?_append_left (by simpa using hi),List.getElem?_map,List.getElem?_eq_getElem hi]at e
     cases e;exact q
    ·rw[List.getElem?_append_right (by simpa using hi),List.getElem?_replicate]at e
     split at e
     ·cases e;exact q
     ·cases e
  exact hij ((z i s hi w1).trans (z j t hj w2).symm)
section
variable {P:Program} {w:World} {K:W.Frag} {mg:Str->Option Value} {base:Heap}
theorem fnP_ok {st:Stmt}{f:Addr}{k n:Nat}(F:Fun K x qual st f fd)(S:FnScope N ps (zam st))(hn:ps.length=n)(hN:n<=N.length)
  (body:∀(cdv:Value) (A:Around) (outer:List Env) (s:Shared) (H:Hp) (E:XK),Room k (A.deeper (envOfC qual (zam st) s.heap.objs.size f cdv))->SSs (cxOf CX0 P w K mg base N qual (zam st) f cdv A outer s H E).nox (zav st) m):
  FnOk P w K mg base CX0 (k+1) f fd ps (spP K n (fP N.length m)):=by
 refine F.ok S (fun vs H Q E h=>?_) (fun cdv A outer s H vs Q E hr h=>?_)
 ·obtain⟨G,ds,r,_,h2,_,h4,_⟩:=h
  rw[h4.length,h2,hn]
 ·obtain⟨G,ds,r,e1,h2,fz,h4,kk⟩:=h
  obtain⟨t,pt,so⟩:=body cdv A outer s H E hr
  refine⟨t,pt,?_⟩
  obtain⟨⟨fl,ρ'⟩,e2,e3⟩:=zaa e1
  refine so ⟨G,H,[]⟩ G H (L2.start N vs) _ fl ρ' _ (SI.start fz h4 (by lia)) e2 ?_
  have fin:∀G' H' σ' v,SI K ⟨G,H,[]⟩ G' H' σ' ρ'->Fz G G'->ResF K G' H' H v r->Q v H':=fun G' H' σ' v I f rr=>kk G' H' v f I.fz I.new (fun b o e=>I.keep b o e (by simp)) rr
  cases fl with
  |next=>cases e3;exact fun G' H' σ' I f=>fin G' H' σ' .non I f rfl
  |brk=>cases e3
  |cont=>cases e3
  |ret r'=>
   cases e3
   refine fun G' H' σ' v I f rr=>fin G' H' σ' v I f ?_
   cases r with
   |val d=>exact rr
   |own ds=>exact rr
   |emp=>exact rr
   |two _ _=>exact rr
   |tre _=>exact rr
   |ptr _=>exact rr
   |par ds=>exact rr
theorem fnM_ok {st:Stmt}{f:Addr}{k n:Nat}(F:Fun K x qual st f fd)(S:FnScope N ps (zam st))(hn:ps.length=n)(hN:n<=N.length)
  (body:∀(cdv:Value) (A:Around) (outer:List Env) (s:Shared) (H:Hp) (E:XK),Room k (A.deeper (envOfC qual (zam st) s.heap.objs.size f cdv))->SSs (cxOf CX0 P w K mg base N qual (zam st) f cdv A outer s H E).nox (zav st) m):
  FnOk P w K mg base CX0 (k+1) f fd ps (spM K n (fM N.length m)):=by
 refine F.ok S (fun vs H Q E h=>?_) (fun cdv A outer s H vs Q E hr h=>?_)
 ·obtain⟨G,l,xs,cs,ws,ds,r,out,rfl,_,h2,_,_,_,_,h4,_⟩:=h
  rw[List.length_cons,h4.length,h2,hn]
 ·obtain⟨G,l,xs,cs,ws,ds,r,out,rfl,e1,h2,fz,hg,hl,rc,h4,kk⟩:=h
  obtain⟨t,pt,so⟩:=body cdv A outer s H E hr
  refine⟨t,pt,?_⟩
  obtain⟨⟨fl,ρ'⟩,e2,e3⟩:=zaa e1
  refine so ⟨G,H,[(0,l)]⟩ G H _ _ fl ρ' _ (SI.startM fz hg hl rc h4 (by lia)) e2 ?_
  have fin:∀G' H' σ' v,ρ'[0]? =some (.par out)->SI K ⟨G,H,[(0,l)]⟩ G' H' σ' ρ'->Fz G G'->ResF K G' H' H v r->Q v H':=fun G' H' σ' v e0 I f rr=>by
   obtain⟨l',ys,k1,k2,k3,k4,k5⟩:=I.slot 0 _ e0
   have:l'=l:=by simpa using k5
   subst this
   exact kk G' H' v ys f I.fz I.new (fun b o hb e=>I.keep b o e (fun i hm=>by simp at hm;exact hb hm.2)) k2 k3 k4 rr
  cases e0:ρ'[0]? with
  |none=>rw[e0]at e3;cases fl<;>cases e3
  |some s0=>
   rw[e0]at e3
   cases s0 with
   |emp=>cases fl<;>cases e3
   |two _ _=>cases fl<;>cases e3
   |tre _=>cases fl<;>cases e3
   |ptr _=>cases fl<;>cases e3
   |val d=>cases fl<;>cases e3
   |own d=>cases fl<;>cases e3
   |par o2=>
    cases fl with
    |next=>cases e3;exact fun G' H' σ' I f=>fin G' H' σ' .non e0 I f rfl
    |brk=>cases e3
    |cont=>cases e3
    |ret r'=>
     cases e3
     refine fun G' H' σ' v I f rr=>fin G' H' σ' v e0 I f ?_
     cases r with
     |val d=>exact rr
     |own ds=>exact rr
     |emp=>exact rr
     |two _ _=>exact rr
     |tre _=>exact rr
     |ptr _=>exact rr
     |par ds=>exact rr
end
structure FD (P:Program) (w:World) (K:W.Frag) (mg:Str->Option Value) (base:Heap) (k:Nat) (x:Str) (sp:Sp):Prop where
 ex:∃f fd ps,FnOk P w K mg base CX0 k f fd ps sp/\mg x=some (.ref f)/\W.keepIn K (.ref f)=true/\Binds K fd ps []
theorem zjk (nw:∀b o,G' b=some o->G b≠none\/H b=none)(kp:Fz H H'):∀(i:Nat) (s:Sl) (a:Addr),ρ[i]? =some s->OwS K G H σ[i]? a s->G a=none->H a≠none->G' a=none/\H' a=H a:=fun i s a _ _ g h=>by
 obtain⟨u,hu⟩:=Option.ne_none_iff_exists'.mp h
 refine⟨?_,(kp a u hu).trans hu.symm⟩
 cases q:G' a with
 |none=>rfl
 |some u=>
  rcases nw a u q with z|z
  ·exact absurd g z
  ·exact absurd z h
theorem SI.grow (I:SI K B G H σ ρ)(f:Fz G G')(fz:Fz G' H')(nw:∀b o,G' b=some o->G b≠none\/H b=none)(kp:Fz H H'):SI K B G' H' σ ρ:=
 I.move fz f (fun b o e=>by
  rcases nw b o e with h|h
  ·cases q:G b with
   |none=>exact absurd q h
   |some u=>exact I.new b u q
  ·exact .inr (I.there b h)) (fun b o e n=>kp b o (I.keep b o e n)) (fun b e=>I.there b (kp.free e)) (zjk nw kp)
theorem SI.own_ne (I:SI K B G H σ ρ)(hp:H p=none)(nw:∀b o,G' b=some o->G b≠none\/H b=none)(kp:Fz H H'):Nw K G' H' σ ρ p:=I.nw_move (I.nw hp) (zjk nw kp)
noncomputable def zda (F:List D->Option Sl)(ma:MA):ME:=fun ρ=>(ma ρ).bind fun p=>(F p.1).bind fun r=>match r with
 | .val d=>some (d,p.2)
 | .own ds=>some (.lst ds,p.2)
 |_=>none
noncomputable def oCall (F:List D->Option Sl)(ma:MA):MO:=fun ρ=>(ma ρ).bind fun p=>(F p.1).bind fun r=>match r with
 | .own ds=>some (ds,p.2)
 |_=>none
section
variable {X:Cx} {x:Str} {p pos:Pos} {e:Expr} {es:List Expr} {ma:MA} {k k' n:Nat} {F:List D->Option Sl}
theorem zbb (fd:FD X.prog X.w X.K X.mg X.base k x (spP X.K n F))(hr:Room k' X.A)(ha:SA X (e::es) ma)(hn:autoParam ((e::es).length=n) zu3._auto_1)(hk:autoParam (k<=k') zu1._auto_1)(hg:autoParam (Gl X x) zu3._auto_1)(hdb:autoParam ((x==("__debug__":Str))=false) zu1._auto_1)
  (he:autoParam (starEach (e::es) X.env=(false,eval e X.env)::starEach es X.env) zu3._auto_1) (hpl:autoParam ((backTo pos (starEach es X.env)).any (·.1)=false) zu3._auto_1) (hlen:∀ρ as ρ',ma ρ=some (as,ρ')->as.length=n):SE X (.Call (.Name x p) (e::es) [] pos) (zda F ma):=by
 obtain⟨f,fdd,ps,G0,h1,h2,h3⟩:=fd.ex
 obtain⟨t,pa,sa⟩:=ha
 refine⟨_,zeC G0 (hr.mono hk) hg h1 h2 h3 .nil zgl pa hdb he hpl,fun B G H σ ρ d ρ' Q I hm kk=>?_⟩
 obtain⟨⟨as,ρ1⟩,e1,hm⟩:=zaa hm
 obtain⟨r,e2,hm⟩:=zaa hm
 refine sa B G H σ ρ as ρ1 _ I e1 fun G1 H1 vs I1 f1 r1=>?_
 show spP X.K n F (vs++[]) H1 Q E0
 rw[List.append_nil]
 refine⟨G1,as,r,e2,hlen ρ as ρ1 e1,I1.fz,r1,fun G2 H2 v f2 fz2 nw kp rr=>?_⟩
 have I2:=I1.grow f2 fz2 nw kp
 cases r with
 |val d'=>cases hm;exact kk G2 H2 v I2 (f1.trans f2) rr
 |own ds=>
  cases hm
  obtain⟨l,xs,rfl,g3,h3,r3,b3⟩:=rr
  obtain⟨I3,f3,r4⟩:=zge I2 g3 h3 r3 (I1.there l b3) (I1.own_ne b3 nw kp)
  exact kk _ H2 _ I3 (f1.trans (f2.trans f3)) r4
 |emp=>cases hm
 |two _ _=>cases hm
 |tre _=>cases hm
 |ptr _=>cases hm
 |par _=>cases hm
theorem so_call (fd:FD X.prog X.w X.K X.mg X.base k x (spP X.K n F))(hr:Room k' X.A)(ha:SA X (e::es) ma)(hn:autoParam ((e::es).length=n) zu3._auto_1)(hk:autoParam (k<=k') zu1._auto_1)(hg:autoParam (Gl X x) zu3._auto_1)(hdb:autoParam ((x==("__debug__":Str))=false) zu1._auto_1)
  (he:autoParam (starEach (e::es) X.env=(false,eval e X.env)::starEach es X.env) zu3._auto_1) (hpl:autoParam ((backTo pos (starEach es X.env)).any (·.1)=false) zu3._auto_1) (hlen:∀ρ as ρ',ma ρ=some (as,ρ')->as.length=n):SO X (.Call (.Name x p) (e::es) [] pos) (oCall F ma):=by
 obtain⟨f,fdd,ps,G0,h1,h2,h3⟩:=fd.ex
 obtain⟨t,pa,sa⟩:=ha
 refine⟨_,zeC G0 (hr.mono hk) hg h1 h2 h3 .nil zgl pa hdb he hpl,fun B G H σ ρ d ρ' Q I hm kk=>?_⟩
 obtain⟨⟨as,ρ1⟩,e1,hm⟩:=zaa hm
 obtain⟨r,e2,hm⟩:=zaa hm
 refine sa B G H σ ρ as ρ1 _ I e1 fun G1 H1 vs I1 f1 r1=>?_
 show spP X.K n F (vs++[]) H1 Q E0
 rw[List.append_nil]
 refine⟨G1,as,r,e2,hlen ρ as ρ1 e1,I1.fz,r1,fun G2 H2 v f2 fz2 nw kp rr=>?_⟩
 have I2:=I1.grow f2 fz2 nw kp
 cases r with
 |val d'=>cases hm
 |own ds=>
  cases hm
  obtain⟨l,xs,rfl,g3,h3,r3,b3⟩:=rr
  exact kk G2 H2 l xs I2 (f1.trans f2) g3 h3 r3 (I1.there l b3) (I1.own_ne b3 nw kp)
 |emp=>cases hm
 |two _ _=>cases hm
 |tre _=>cases hm
 |ptr _=>cases hm
 |par _=>cases hm
end
noncomputable def aLen (ma:MA)(n:Nat):Prop:=∀ρ as ρ',ma ρ=some (as,ρ')->as.length=n
theorem zaq:aLen aNil 0:=fun ρ as ρ' h=>by cases h;rfl
theorem zae {m:ME}{r:MA}(h:aLen r n):aLen (zaj m r) (n+1):=fun ρ as ρ' e=>by
 obtain⟨⟨d,ρ1⟩,_,h2⟩:=zaa e
 obtain⟨⟨ds,ρ2⟩,e3,e4⟩:=zag h2
 cases e4
 rw[List.length_cons,h ρ1 ds ρ2 e3]
noncomputable def zbJ (F:List D->List D->Option (Sl×List D))(j:Nat)(ma:MA):ME:=fun ρ=>if(ρ[j]?.bind Sl.items).isSome then(ma ρ).bind fun p=>p.2[j]?.bind fun s=>s.items.bind fun cs=>(F cs p.1).bind fun r=>match r.1 with
 | .val d=>some (d,p.2.set j (s.put r.2))
 | .own ds=>some (.lst ds,p.2.set j (s.put r.2))
 |_=>none else none
theorem SI.growW {cs out:List D}(I:SI K B G H σ ρ)(e:ρ[j]? =some s)(q:s.items=some cs)(hl:σ[j]? =some (some (.ref l)))
  (f:Fz G G') (fz:Fz G' H') (nw:∀b o,G' b=some o->G b≠none\/H b=none) (kp:∀b o,b≠l->H b=some o->H' b=some o) (gl:G' l=none) (hl':H' l=some (.lst ys)) (r:RepL K G' ys out):SI K B G' H' σ (ρ.set j (s.put out)):=
 I.chgW e q hl fz f nw kp gl hl' r
theorem SI.own_neW {cs out:List D}(I:SI K B G H σ ρ)(e:ρ[j]? =some s)(q:s.items=some cs)(hl:σ[j]? =some (some (.ref l)))(hp:H p=none)
  (nw:∀b o,G' b=some o->G b≠none\/H b=none) (kp:∀b o,b≠l->H b=some o->H' b=some o):Nw K G' H' σ (ρ.set j (s.put out)) p:=fun i t et w=>by
 obtain⟨l',xs,e1,e2,e3,e4⟩:=I.wr e q
 rw[hl]at e1;cases e1
 have hpl:p≠l:=fun z=>by rw[z,e3]at hp;cases hp
 by_cases z:i=j
 ·subst z
  rw[List.getElem?_set,if_pos rfl]at et
  split at et
  ·cases et
   have:=(zax (zdB q out)).mp w
   rw[hl]at this
   exact hpl (V.ref.inj (Option.some.inj (Option.some.inj this))).symm
  ·cases et
 ·rw[List.getElem?_set_ne (Ne.symm z)]at et
  have sl:=I.slot i t et
  refine(sl.own (sl.back (fun a w g h=>?_) w)).2.1 hp
  have na:a≠l:=fun w'=>by subst w';exact I.dis i j t s a z et e w ((zax q).mpr hl)
  obtain⟨u,hu⟩:=Option.ne_none_iff_exists'.mp h
  refine⟨?_,(kp a u na hu).trans hu.symm⟩
  cases q2:G' a with
  |none=>rfl
  |some u=>
   rcases nw a u q2 with z|z
   ·exact absurd g z
   ·exact absurd z h
section
variable {X:Cx} {x y:Str} {p py pos:Pos} {es:List Expr} {ma:MA} {k k' n:Nat} {F:List D->List D->Option (Sl×List D)}
theorem soundM {t:TA}{Q:VK}(sa:∀B G H σ ρ ds ρ' (Q:List V->Hp->Prop),SI X.K B G H σ ρ->ma ρ=some (ds,ρ')->(∀G' H' vs,SI X.K B G' H' σ ρ'->Fz G G'->RepL X.K G' vs ds->Q vs H')->t σ H Q)
  (hlen:∀ρ as ρ',ma ρ=some (as,ρ')->as.length+1=n) (I:SI X.K B G H σ ρ) {ds0:List D} (h0:ρ[j]?.bind Sl.items=some ds0) {as:List D} {ρ1:R} (e1:ma ρ=some (as,ρ1)) {s:Sl} (e2:ρ1[j]? =some s) {cs:List D} (e3:s.items=some cs)
  {r:Sl} {out:List D} (e4:F cs as=some (r,out))
  (kk:∀G' H' v,SI X.K B G' H' σ (ρ1.set j (s.put out))->Fz G G'->True->(∃H1,ResF X.K G' H' H1 v r/\(∀b,H1 b=none->B.H b=none)/\∀b,H1 b=none->Nw X.K G' H' σ (ρ1.set j (s.put out)) b)->Q v H'):
  tCall (spM X.K n F) [] E0 (tCons (tVar j) t) σ H Q:=by
 obtain⟨s0,k0,q0⟩:=zaa h0
 obtain⟨l,xs0,h1,h2,h3,h4⟩:=I.wr k0 q0
 refine⟨.ref l,h1,sa B G H σ ρ as ρ1 _ I e1 fun G1 H1 vs I1 f1 r1=>?_⟩
 show spM X.K n F ((.ref l::vs)++[]) H1 Q E0
 rw[List.append_nil]
 obtain⟨l',xs,m1,m2,m3,m4⟩:=I1.wr e2 e3
 rw[h1]at m1;cases m1
 refine⟨G1,l,xs,cs,vs,as,r,out,rfl,e4,hlen ρ as ρ1 e1,I1.fz,m2,m3,m4,r1,fun G2 H2 v ys f2 fz2 nw kp gl hl r2 rr=>?_⟩
 exact kk G2 H2 v (I1.growW e2 e3 h1 f2 fz2 nw kp gl hl r2) (f1.trans f2) trivial ⟨H1,rr,fun b hb=>I1.there b hb,fun b hb=>I1.own_neW e2 e3 h1 hb nw kp⟩
theorem za6 (j:Nat)(fd:FD X.prog X.w X.K X.mg X.base k x (spM X.K n F))(hr:Room k' X.A)(ha:SA X es ma)(hlen:∀ρ as ρ',ma ρ=some (as,ρ')->as.length+1=n)(hN:autoParam (X.N[j]? =some y) zu3._auto_1)(hv:autoParam (Vis X.env.scope y) zu6._auto_1)(hd:autoParam ((y==("__debug__":Str))=false) zu1._auto_1)
  (hcd:autoParam ((y==("__classdict__":Str))=false) zu1._auto_1) (hk:autoParam (k<=k') zu1._auto_1) (hg:autoParam (Gl X x) zu3._auto_1) (hdb:autoParam ((x==("__debug__":Str))=false) zu1._auto_1)
  (he:autoParam (starEach (.Name y py::es) X.env=(false,eval (.Name y py) X.env)::starEach es X.env) zu3._auto_1) (hpl:autoParam ((backTo pos (starEach es X.env)).any (·.1)=false) zu3._auto_1):SE X (.Call (.Name x p) (.Name y py::es) [] pos) (zbJ F j ma):=by
 obtain⟨f,fdd,ps,G0,h1,h2,h3⟩:=fd.ex
 obtain⟨t,pa,sa⟩:=ha
 refine⟨_,zeC G0 (hr.mono hk) hg h1 h2 h3 .nil zgl (zaB (zaH hN hv hd hcd) pa he) hdb he hpl,fun B G H σ ρ d ρ' Q I hm kk=>?_⟩
 unfold zbJ at hm
 split at hm
 ·rename_i hso
  obtain⟨ds0,hso⟩:=Option.isSome_iff_exists.mp hso
  obtain⟨⟨as,ρ1⟩,e1,hm⟩:=zaa hm
  obtain⟨s,e2,hm⟩:=zaa hm
  obtain⟨cs,e3,hm⟩:=zaa hm
  obtain⟨⟨r,out⟩,e4,hm⟩:=zaa hm
  refine soundM sa hlen I hso e1 e2 e3 e4 fun G' H' v I' f' _ ⟨H1,rr,bb,nn⟩=>?_
  cases r with
  |val d'=>cases hm;exact kk G' H' v I' f' rr
  |own ds=>
   cases hm
   obtain⟨l,xs,rfl,g3,h3,r3,b3⟩:=rr
   obtain⟨I3,f3,r4⟩:=zge I' g3 h3 r3 (bb l b3) (nn l b3)
   exact kk _ H' _ I3 (f'.trans f3) r4
  |emp=>cases hm
  |two _ _=>cases hm
  |tre _=>cases hm
  |ptr _=>cases hm
  |par _=>cases hm
 ·cases hm
end
noncomputable def zcJ (env:Env)(cs:List (Str×Addr))(x:Str×NameKind):List (Str×Addr):=if x.2== .free then(x.1,(env.cells.lookup x.1).getD 0)::cs else cs
noncomputable def clOf (scope:Scope)(env:Env):List (Str×Addr):=scope.names.foldl (zcJ env) []
theorem zd0:∀(names:List (Str×NameKind)) (cs:List (Str×Addr)),(∀y∈names,y.2= .free->∃c,env.cells.lookup y.1=some c)->
  (forIn names cs (fun x r=>if x.2==NameKind.free then do let a<-cellOf env x.1;pure (ForInStep.yield ((x.1,a)::r))else pure (ForInStep.yield r)):Sem (List (Str×Addr)))=pure (names.foldl (zcJ env) cs)
 |[],cs,_=>rfl
 |(n,k)::r,cs,h=>by
  have ih:=fun cs'=>zd0 r cs' (fun y hy=>h y (List.mem_cons_of_mem _ hy))
  rw[List.forIn_cons,List.foldl_cons]
  by_cases hk:(k==NameKind.free)=true
  ·obtain⟨c,hc⟩:=h (n,k) List.mem_cons_self (by simpa using hk)
   have e:zcJ env cs (n,k)=(n,c)::cs:=by unfold zcJ;simp[hk,hc]
   rw[e,<-ih]
   simp only[hk,if_true]
   unfold cellOf
   simp only at hc
   rw[hc]
   rfl
  ·have e:zcJ env cs (n,k)=cs:=by unfold zcJ;simp[hk]
   rw[e,<-ih]
   simp only[hk]
   rfl
theorem zij {env:Env}(h:∀y∈scope.names,y.2= .free->∃c,env.cells.lookup y.1=some c):closureFor scope env=pure (clOf scope env):=by
 unfold closureFor clOf
 have e:=zd0 (env:=env) scope.names [] h
 simp only[bind_pure]
 exact e
theorem zbQ:∀{names:List (Str×NameKind)} {cs:List (Str×Addr)},(∀y∈names,y.2= .free->∃c,env.cells.lookup y.1=some c)->(cs.lookup x=some c->env.cells.lookup x=some c)->
  (names.foldl (zcJ env) cs).lookup x=some c->env.cells.lookup x=some c
 |[],cs,_,h0,h=>h0 h
 |(n,k)::r,cs,hn,h0,h=>by
  rw[List.foldl_cons]at h
  refine zbQ (names:=r) (fun y hy=>hn y (List.mem_cons_of_mem _ hy)) ?_ h
  intro q
  unfold zcJ at q
  split at q
  ·rename_i hk
   obtain⟨c',hc⟩:=hn (n,k) List.mem_cons_self (by simpa using hk)
   rw[List.lookup_cons]at q
   simp only at hc
   by_cases z:(x==n)=true
   ·rw[z]at q
    have zz:x=n:=by simpa using z
    subst zz
    simp only[hc,Option.getD_some]at q
    rw[hc];exact q
   ·have z':(x==n)=false:=by simpa using z
    rw[z']at q;exact h0 q
  ·exact h0 q
theorem zcB:∀{names:List (Str×NameKind)} {cs:List (Str×Addr)},((x,NameKind.free)∈names\/(cs.lookup x).isSome=true)->((names.foldl (zcJ env) cs).lookup x).isSome=true
 |[],cs,h=>by
  rcases h with h|h
  ·simp at h
  ·exact h
 |(n,k)::r,cs,h=>by
  rw[List.foldl_cons]
  refine zcB (names:=r) ?_
  rcases h with h|h
  ·rcases List.mem_cons.mp h with h|h
   ·cases h
    refine .inr ?_
    unfold zcJ
    simp
   ·exact .inl h
  ·refine .inr ?_
   unfold zcJ
   split
   ·rw[List.lookup_cons]
    by_cases z:(x==n)=true
    ·rw[z];rfl
    ·have z':(x==n)=false:=by simpa using z
     rw[z'];exact h
   ·exact h
theorem zeq:∀{names:List (Str×NameKind)} {n:Nat} {acc:List (Str×Addr)},(cellsFrom n names acc).lookup x=some c->(n<=c/\(x,NameKind.cell)∈names)\/acc.lookup x=some c
 |[],n,acc,h=> .inr h
 |(m,k)::r,n,acc,h=>by
  unfold cellsFrom at h
  split at h
  ·rename_i hk
   have hk':k= .cell:=by simpa using hk
   subst hk'
   rcases zeq h with⟨h1,h2⟩|h1
   ·exact .inl ⟨Nat.le_of_succ_le h1,List.mem_cons_of_mem _ h2⟩
   ·rw[List.lookup_cons]at h1
    cases q:x==m with
    |true=>
     rw[q]at h1
     cases h1
     rw[beq_iff_eq.mp q]
     exact .inl ⟨Nat.le_refl _,List.mem_cons_self⟩
    |false=>rw[q]at h1;exact .inr h1
  ·rcases zeq h with⟨h1,h2⟩|h1
   ·exact .inl ⟨h1,List.mem_cons_of_mem _ h2⟩
   ·exact .inr h1
theorem zhB:∀{names:List (Str×NameKind)} {n:Nat} {acc:List (Str×Addr)},(x,NameKind.cell)∉names->(cellsFrom n names acc).lookup x=acc.lookup x
 |[],n,acc,_=>rfl
 |(m,k)::r,n,acc,h=>by
  unfold cellsFrom
  split
  ·rename_i hk
   have hk':k= .cell:=by simpa using hk
   subst hk'
   rw[zhB fun z=>h (List.mem_cons_of_mem _ z),List.lookup_cons]
   cases q:x==m with
   |true=>exact absurd (by rw[beq_iff_eq.mp q];exact List.mem_cons_self) h
   |false=>rfl
  ·exact zhB fun z=>h (List.mem_cons_of_mem _ z)
theorem zhM:∀{names:List (Str×NameKind)} {n:Nat} {acc:List (Str×Addr)},(x,NameKind.cell)∈names->∃c,(cellsFrom n names acc).lookup x=some c/\n<=c
 |(m,k)::r,n,acc,h=>by
  unfold cellsFrom
  by_cases hr:(x,NameKind.cell)∈r
  ·split
   ·obtain⟨c,h1,h2⟩:=zhM (n:=n+1) (acc:=(m,n)::acc) hr
    exact⟨c,h1,Nat.le_of_succ_le h2⟩
   ·exact zhM hr
  ·rcases List.mem_cons.mp h with e|e
   ·cases e
    rw[if_pos (beq_self_eq_true _),zhB hr,List.lookup_cons,beq_self_eq_true]
    exact⟨n,rfl,Nat.le_refl _⟩
   ·exact absurd e hr
theorem zkf:∀{names:List (Str×NameKind)} {n:Nat} {acc:List (Str×Addr)},(∀x c,acc.lookup x=some c->c<n)->(∀x y c,acc.lookup x=some c->acc.lookup y=some c->x=y)->
  ∀x y c,(cellsFrom n names acc).lookup x=some c->(cellsFrom n names acc).lookup y=some c->x=y
 |[],n,acc,_,hi=>hi
 |(m,k)::r,n,acc,hl,hi=>by
  unfold cellsFrom
  split
  ·refine zkf (fun x c h=>?_) (fun x y c h1 h2=>?_)
   ·rw[List.lookup_cons]at h
    cases q:x==m with
    |true=>rw[q]at h;cases h;exact Nat.lt_succ_self _
    |false=>rw[q]at h;exact Nat.lt_succ_of_lt (hl x c h)
   ·rw[List.lookup_cons]at h1 h2
    cases q:x==m with
    |true=>
     rw[q]at h1
     cases h1
     cases q2:y==m with
     |true=>rw[beq_iff_eq.mp q,beq_iff_eq.mp q2]
     |false=>rw[q2]at h2;exact absurd (hl y n h2) (Nat.lt_irrefl _)
    |false=>
     rw[q]at h1
     cases q2:y==m with
     |true=>rw[q2]at h2;cases h2;exact absurd (hl x n h1) (Nat.lt_irrefl _)
     |false=>rw[q2]at h2;exact hi x y c h1 h2
  ·exact zkf hl hi
theorem zgN:∀{names:List (Str×NameKind)} {h:Heap} {acc:List (Str×Addr)},(∀x c,acc.lookup x=some c->∃v,h.IsCell c v)->∀x c,(cellsFrom h.objs.size names acc).lookup x=some c->∃v,(pushCells h names).IsCell c v
 |[],h,acc,ha=>ha
 |(m,k)::r,h,acc,ha=>by
  unfold cellsFrom pushCells
  split
  ·intro x c e
   rw[<-Heap.size_push h {cls:= .type "cell",data:= .cell none}]at e
   refine zgN (fun y d q=>?_) x c e
   rw[List.lookup_cons]at q
   cases z:y==m with
   |true=>rw[z]at q;cases q;exact⟨none,_,Heap.get?_push_size _ rfl,rfl⟩
   |false=>
    rw[z]at q
    obtain⟨v,hv⟩:=ha y d q
    exact⟨v,hv.keeps fun b o e=>Heap.get?_push_of_some _ e⟩
  ·exact zgN ha
theorem zgA {M:Model}{s:Shared}{globals:Addr}{Q:Env->Shared->Prop}
  (hQ : ∀ h' : Heap, h'.Ns s.heap.objs.size (fun _ => none) -> (∀ a o, s.heap.get? a = some o -> h'.get? a = some o) ->
   ((∀x c,cl.lookup x=some c->∃v,s.heap.IsCell c v)->∀x c,(cellsFrom (s.heap.objs.size+1) scope.names cl).lookup x=some c->∃v,h'.IsCell c v)->
   Q (newEnv scope s.heap.objs.size globals (cellsFrom (s.heap.objs.size+1) scope.names cl) qual none .none (some env) builtinsNs) {s with heap:=h'}):
  wpAny M A (newFunctionEnv scope globals cl [] qual none .none (some env)) Q E s:=by
 simp only[newFunctionEnv,Option.isSome_some,if_true]
 refine wpAny_bind (wpAny_alloc ?_)
 refine wpAny_bind (wpAny_layCells _ (fun name kind cells=>by cases hkc:kind==NameKind.cell<;>simp[hkc]) _ _ _ _ ?_)
 rw[show({s with heap:=s.heap.push {cls:= .type "dict",data:= .dict #[]}}:Shared).heap.objs.size=s.heap.objs.size+1 from Heap.size_push ..]
 refine wpAny_bind ?_
 rw[List.forIn_nil]
 refine wpAny_pure (wpAny_pure (hQ _ ((Heap.Ns.new s.heap (.type "dict")).keeps (pushCells_keeps _ _)) (fun a o e=>pushCells_keeps _ _ a o (Heap.get?_push_of_some _ e)) fun hc x c e=>?_))
 rw[<-Heap.size_push s.heap {cls:= .type "dict",data:= .dict #[]}]at e
 refine zgN (fun y d q=>?_) x c e
 obtain⟨v,hv⟩:=hc y d q
 exact⟨v,hv.keeps fun b o e=>Heap.get?_push_of_some _ e⟩
noncomputable def clC (scope:Scope)(env:Env)(C:Addr):List (Str×Addr):=cellsFrom (C+1) scope.names (clOf scope env)
noncomputable def ownC (scope:Scope)(x:Str):Bool:=match scope.names.lookup x with
 |some .cell=>true
 |_=>false
noncomputable def cxC (X:Cx)(N:List Str)(scope:Scope)(C:Addr)(s:Shared)(H:Hp)(fp:List Addr):Cx:=
 {X with N:=N,s₀:=s,H₀:=H,env:=compEnvC scope (clC scope X.env C) C X.env,outer:=X.stack,ex:=fp,fn:=ownC scope,pn:=[],xe:=fun _ _=>False}
structure BlkOk (X:Cx) (scope:Scope):Prop where
 kind:scope.kind= .function
 uniq:∀y∈scope.names,scope.names.lookup y.1=some y.2
 free:∀y∈scope.names,y.2= .free->X.env.kindOf y.1=some .cell\/X.env.kindOf y.1=some .free
theorem zcU {α:Type}{v:α}:∀{l:List (Str×α)},l.lookup x=some v->(x,v)∈l
 |[],h=>by simp at h
 |(n,w)::r,h=>by
  rw[List.lookup_cons]at h
  by_cases z:(x==n)=true
  ·rw[z]at h
   have zz:x=n:=by simpa using z
   subst zz
   cases h
   exact List.mem_cons_self
  ·have z':(x==n)=false:=by simpa using z
   rw[z']at h
   exact List.mem_cons_of_mem _ (zcU h)
theorem zbM {env:Env}{x:Str}:∀{names:List (Str×NameKind)},(names.map fun(n,k)=>if(k==NameKind.free&&env.scope.kind== .function&&env.kindOf n==some .cell)then(n,NameKind.cell)else(n,k)).lookup x=
  (names.lookup x).map fun k=>if(k==NameKind.free&&env.scope.kind== .function&&env.kindOf x==some .cell)then NameKind.cell else k
 |[]=>rfl
 |(n,k)::r=>by
  have ih:=zbM (env:=env) (x:=x) (names:=r)
  show List.lookup x ((if(k==NameKind.free&&env.scope.kind== .function&&env.kindOf n==some .cell)=true then(n,NameKind.cell)else(n,k))::_)=_
  cases hx:x==n with
  |true=>
   have zz:x=n:=by simpa using hx
   by_cases hc:(k==NameKind.free&&env.scope.kind== .function&&env.kindOf n==some .cell)=true
   ·rw[if_pos hc]
    simp only[List.lookup_cons,hx,Option.map_some]
    rw[zz,if_pos hc]
   ·rw[if_neg hc]
    simp only[List.lookup_cons,hx,Option.map_some]
    rw[zz,if_neg hc]
  |false=>
   by_cases hc:(k==NameKind.free&&env.scope.kind== .function&&env.kindOf n==some .cell)=true
   ·rw[if_pos hc];simp only[List.lookup_cons,hx];exact ih
   ·rw[if_neg hc];simp only[List.lookup_cons,hx];exact ih
section
variable {X:Cx} {pins:List (Addr×Obj)} {σ:St} {H:Hp} {s:Shared} {scope:Scope} {N:List Str} {fp:List Addr} {C:Addr}
theorem zeU (I:Inv X pins σ H s)(b:BlkOk X scope):∀y∈scope.names,y.2= .free->∃c,X.env.cells.lookup y.1=some c:=fun y hy hf=>I.ok.has y.1 (b.free y hy hf)
theorem blk_vis (h:(relabel scope X.env).names.lookup x=some .cell\/(relabel scope X.env).names.lookup x=some .free):(x,NameKind.free)∈scope.names\/(x,NameKind.cell)∈scope.names:=by
 have e:(relabel scope X.env).names.lookup x=(scope.names.lookup x).map fun k=>if(k==NameKind.free&&X.env.scope.kind== .function&&X.env.kindOf x==some .cell)then NameKind.cell else k:=zbM
 rw[e]at h
 cases q:scope.names.lookup x with
 |none=>rw[q]at h;simp at h
 |some k=>
  have hm:=zcU q
  by_cases hk:k= .free
  ·subst hk;exact .inl hm
  ·rw[q]at h
   have hkf:(k==NameKind.free)=false:=by simpa using hk
   simp only[Option.map_some,hkf,Bool.false_and,Bool.false_eq_true,if_false,Option.some.injEq]at h
   rcases h with h|h
   ·subst h;exact .inr hm
   ·exact absurd h hk
theorem zds (I:Inv X pins σ H s)(b:BlkOk X scope)(h:(clOf scope X.env).lookup x=some c):X.env.cells.lookup x=some c:=zbQ (zeU I b) (by simp) h
theorem zdS (I:Inv X pins σ H s)(b:BlkOk X scope)(h:(clC scope X.env C).lookup x=some c):C<c\/X.env.cells.lookup x=some c:=by
 rcases zeq h with⟨h1,_⟩|h1
 ·exact .inl h1
 ·exact .inr (zds I b h1)
theorem zh8 (b:BlkOk X scope)(h:(x,NameKind.free)∈scope.names):(clC scope X.env C).lookup x=(clOf scope X.env).lookup x:=zhB fun z=>by
 have h1:=b.uniq _ h
 have h2:=b.uniq _ z
 simp only at h1 h2
 rw[h1]at h2
 cases h2
theorem blk_ok (I:Inv X pins σ H s)(b:BlkOk X scope)(hC:s.heap.objs.size<=C)(hf:∀b∈fp,FpOk X pins H b)(hfC:∀b∈fp,b<C):(cxC X N scope C s H fp).Ok where
 mod:=I.ok.mod
 kind:=b.kind
 glob:=I.ok.glob
 blt:=I.ok.blt
 above:=hC
 inj:=zkf (fun x c h=>by
  obtain⟨v,hv⟩:=I.cell x c (zds I b h)
  exact Nat.lt_succ_of_lt (Nat.lt_of_lt_of_le hv.lt hC)) fun x y c h1 h2=>I.ok.inj x y c (zds I b h1) (zds I b h2)
 has:=fun x hx=>by
  rcases blk_vis (x:=x) hx with hm|hm
  ·show ∃c,(clC scope X.env C).lookup x=some c
   rw[zh8 b hm]
   exact Option.isSome_iff_exists.mp (zcB (.inl hm))
  ·obtain⟨c,h,_⟩:=zhM (n:=C+1) (acc:=clOf scope X.env) hm
   exact⟨c,h⟩
 cab:=fun x c h e=>by
  have h':ownC scope x=true:=h
  unfold ownC at h'
  split at h'
  ·rename_i q
   obtain⟨c',h1,h2⟩:=zhM (n:=C+1) (acc:=clOf scope X.env) (zcU q)
   have e':some c'=some c:=h1.symm.trans e
   cases e'
   exact Nat.le_trans hC (Nat.le_of_succ_le h2)
  ·cases h'
 hd:=I.ok.hd
 frames:=I.ok.frames
 stk:= .inl rfl
 exf:=fun a ha=>⟨Nat.ne_of_lt (hfC a ha),fun x c e z=>by
  rcases zdS I b e with q|q
  ·exact Nat.lt_asymm q (z ▸ hfC a ha)
  ·exact(hf a ha).2.2.2.2.1 x c q z⟩
 bs:=I.bs
 bsz:=Nat.le_trans I.ok.bsz I.sz
 noex:=fun a o e ha=>by
  rcases(hf a ha).2.2.2.1 with z|z
  ·exact I.ok.noex a o e z
  ·exact absurd (Nat.lt_of_lt_of_le (Heap.lt_size e) (Nat.le_trans I.ok.bsz z)) (Nat.lt_irrefl _)
 exfs:=fun a ha hs=>by
  rcases List.mem_cons.mp (I.stkSub a hs)with z|z
  ·exact(hf a ha).2.1 z
  ·exact(hf a ha).2.2.1 z
 funs:=I.stack
 frf:=I.stkFree
theorem zkx {tk:Nat}(I:Inv X pins σ H s)(b:BlkOk X scope)(hf:∀b∈fp,FpOk X pins H b)(hfs:∀b∈fp,b<s.heap.objs.size)
  (hns:h'.Ns s.heap.objs.size (fun _=>none)) (hk:∀a o,s.heap.get? a=some o->h'.get? a=some o) (hcl:∀x c,(clC scope X.env s.heap.objs.size).lookup x=some c->∃v,h'.IsCell c v) (hl:σc.length=N.length)
  (hσ:∀(i:Nat) (x:Str) (v:V),N[i]? =some x->σc[i]? =some (some v)->(x,NameKind.free)∈scope.names/\∃j:Nat,X.N[j]? =some x/\σ[j]? =some (some v)) (hloc:∀(i:Nat) (x:Str) (v:V),N[i]? =some x->σc[i]? =some (some v)->¬(relabel scope X.env).names.lookup x=some .local):
  Inv (cxC X N scope s.heap.objs.size s H fp) [] σc H {s with heap:=h',toks:=tk}:=by
 have ok:=blk_ok (N:=N) I b (Nat.le_refl _) hf hfs
 refine⟨ok,rfl,I.bare,Un.kept hk,⟨_,hns,fun i x v h1 h2 h3=>?_⟩,fun x c e=>?_,I.hok.fresh (Nat.le_refl _),fun x c e=>?_,fun p hp=>absurd (show p∈([]:List (Addr×Obj))from hp) (by simp),I.hok.kept hk,hl⟩
 ·obtain⟨hm,j,hj,hv⟩:=hσ i x v h1 h2
  have hkind:=b.free _ hm rfl
  obtain⟨m,hn,hloc'⟩:=I.loc
  have hvis:Vis X.env.scope x:=by
   rcases hkind with z|z
   ·exact .inr (.inl z)
   ·exact .inr (.inr z)
  obtain⟨u,ru,lk⟩:=hloc' j x v hj hv hvis
  refine⟨u,ru,?_⟩
  rcases lk with⟨z,_⟩|⟨_,c,ec,hc⟩
  ·exfalso
   rcases hkind with w|w<;>simp only at w<;>rw[z]at w<;>cases w
  ·refine .inr ⟨?_,c,?_,?_⟩
   ·rcases h3 with z|z|z
    ·exact absurd z (hloc i x v h1 h2)
    ·exact .inl z
    ·exact .inr z
   ·have hs:((clOf scope X.env).lookup x).isSome=true:=zcB (.inl hm)
    obtain⟨c',ec'⟩:=Option.isSome_iff_exists.mp hs
    have:=zbQ (zeU I b) (by simp) ec'
    rw[ec]at this
    cases this
    exact(zh8 b hm).trans ec'
   ·obtain⟨o,ho,hd⟩:=hc
    exact⟨o,hk _ _ ho,hd⟩
 ·exact hcl x c e
 ·rcases zdS I b e with q|q
  ·exact I.hok.fresh (Nat.le_of_lt q)
  ·exact I.freeC x c q
theorem zks {h':Heap}{s1:Shared}(I:Inv X pins σ H s)(hf:∀b∈fp,FpOk X pins H b)(J:Inv (cxC X N scope s.heap.objs.size s H fp) [] σc H' s1)(hs:Heap.SameBut s.heap.objs.size s1.heap h'):Inv X pins σ H' {s1 with heap:=h'}:=by
 have kp:∀a o,a≠s.heap.objs.size->s1.heap.get? a=some o->h'.get? a=some o:=fun a o ha e=>hs.extBut a o ha e
 have free:H' s.heap.objs.size=none:=J.free
 have ntr:∀a u,H' a=some u->a≠s.heap.objs.size:=fun a u e z=>by rw[z,free]at e;cases e
 have lt:∀a o,s.heap.get? a=some o->a≠s.heap.objs.size:=fun a o e=>Nat.ne_of_lt (Heap.lt_size e)
 have u:Un (frs X.stack) fp H H' s.heap s1.heap:=J.base
 have u':Un (frs X.stack) fp H H' s.heap h':=by
  refine⟨fun a o e n hb hx=>kp a o (lt a o e) (u.keep a o e n hb hx),fun a o e n hb hx=>?_,u.free,fun a o e hx=>?_,u.tups,u.frzs,u.tbls⟩
  ·obtain⟨sl,q⟩:=u.slot a o e n hb hx
   exact⟨sl,kp a _ (lt a o e) q⟩
  ·obtain⟨o',q⟩:=u.there a o e hx
   exact⟨o',kp a _ (lt a o e) q⟩
 have hok:HOk X.prog X.w H' h':=fun a o e=>(J.hok a o e).stay (fun c v hc q=>by
  refine kp c v ?_ q
  rcases hc with rfl|hc
  ·exact ntr _ _ e
  ·exact ntr _ _ hc) (fun _ q=>q) fun _ _ q=>q
 obtain⟨hh,g,d,t,os'⟩:=s1
 have os:os'=s.os:=J.os
 subst os
 have z:=I.call (h':=h') (g':=g) (d':=d) (t':=t) (ch:=fp) u' hok J.bare (fun a ha=>⟨(hf a ha).2.2.2.1,(hf a ha).2.1,(hf a ha).2.2.2.2.1,(hf a ha).2.2.2.2.2⟩)
 exact z
end
noncomputable def PTs (X:Cx)(ifs:List Expr)(t:TT):Prop:=∀(pins:List (Addr×Obj)) (s:Shared) (σ:St) (H:Hp) (Q:Bool->Hp->Prop),Inv X pins σ H s->t σ H Q->
 wpAny (model X.prog X.w) X.A (forIn ifs true fun c r=>if r=true then do let ok<-isTrue c X.env (eval c X.env);pure (ForInStep.yield ok)else pure (ForInStep.yield r)) (TP X pins σ Q) X.xe s
theorem pts_nil:PTs X [] (fun _ H Q=>Q true H):=fun pins s σ H Q I h=>wpAny_tests_nil ⟨H,I,h⟩
theorem zgP {R:Result->Shared->Prop}{s:Shared}{elt target iter:Expr}{it acc:Value}(I:Nat->Shared->Prop)
  (turn : ∀ n s, I n s -> wpAny (model prog w) A (pyNext it) (fun r s₁ => match r with
   |none=>R (.ok .next) s₁
   | some v => wpAny (model prog w) A (letOwnedTupleGo target it v) (fun _ s₁' => wpAny (model prog w) A (assign target env v) (fun _ s₂ =>
     wpAny (model prog w) A (forIn ifs true fun c r=>if r=true then do let ok<-isTrue c env (eval c env);pure (ForInStep.yield ok)else pure (ForInStep.yield r)) (fun ok s₃=>
      if ok=true then wpAny (model prog w) A (eval elt env) (fun x s₄=>
       wpAny (model prog w) A (call (.builtin "list.append") [acc,x]) (fun _ s₅=>∃m,m<n/\I m s₅) (fun _ _=>False) s₄) (fun _ _=>False) s₃
      else ∃m,m<n/\I m s₃) (fun _ _=>False) s₂) (fun _ _=>False) s₁') (fun _ _=>False) s₁) (fun _ _=>False) s)
  (n:Nat) (h:I n s):codeAny (model prog w) A (.compLoop (.ListComp elt [⟨target,iter,ifs,0⟩] scope pos) 0 it acc env) R s:=by
 refine codeAny_loop rfl I (fun n s hI=>?_) n h
 show wpAny _ A ((compTurn (.ListComp elt [⟨target,iter,ifs,0⟩] scope pos) 0 it acc env).onRaise (fun x=>do noteFrame x env;theTreesLotGoes x)) _ _ s
 refine wpAny_noted ?_
 rw[compTurn_list]
 have no:∀{E:Value->Shared->Prop},∀x s',(fun(_:Value) (_:Shared)=>False) x s'->E x s':=fun _ _ z=>z.elim
 refine wpAny_bind (wpAny_standAt (wpAny_bind (wpAny_mono (turn n s hI) (fun r s₁ h₁=>?_) no)))
 cases r with
 |none=>exact wpAny_pure h₁
 |some v=>
  refine wpAny_bind (wpAny_mono h₁ (fun _ s₁' h₁'=>?_) no)
  refine wpAny_bind (wpAny_mono h₁' (fun _ s₂ h₂=>wpAny_bind (wpAny_mono h₂ (fun ok s₃ h₃=>?_) no)) no)
  cases ok with
  |false=>exact wpAny_pure ⟨rfl,h₃⟩
  |true=>
   exact wpAny_bind (wpAny_bind (wpAny_mono h₃ (fun x s₄ h₄=>wpAny_bind (wpAny_mono h₄ (fun _ s₅ h₅=>wpAny_pure (wpAny_pure ⟨rfl,h₅⟩)) no)) no))
noncomputable def tLC (σ0:St->St)(wi:TI)(g:Addr->Shared->Hp->List Addr->TG)(tt:Addr->Shared->Hp->List Addr->TT)(te:Addr->Shared->Hp->List Addr->TE):TE:=fun σ H Q=>wi σ H fun J H1=>∀D,H1 D=none->∃W:Nat->Nat->St->Hp->Prop,(∃m,W 0 m (σ0 σ) (upd H1 D (.lst [])))/\∀i m σ H,W i m σ H->
 (J.stop i H /\ Q (.ref D) H) \/ (J.go i H /\ ∀ C s₀ H₀ fp x H', J.yld i H x H' -> g C s₀ H₀ fp x σ H' fun σ2 H2 => tt C s₀ H₀ fp σ2 H2 fun ok H3 => if ok = true then te C s₀ H₀ fp σ2 H3 fun v H4 => ∃ xs, H4 D = some (.lst xs) /\ xs.length < sizeLine /\ ∃ m', m' < m /\ W (i + 1) m' σ2 (upd H4 D (.lst (xs ++ [v])))
  else ∃m',m'<m/\W (i+1) m' σ2 H3)
section
variable {X:Cx} {elt iter tg:Expr} {ifs:List Expr} {scope:Scope} {pos:Pos} {N:List Str} {σ0:St->St} {wi:TI} {g:Addr->Shared->Hp->List Addr->TG} {tt:Addr->Shared->Hp->List Addr->TT} {te:Addr->Shared->Hp->List Addr->TE}
structure Cap (X:Cx) (scope:Scope) (N:List Str) (σ0:St->St):Prop where
 len:∀σ,(σ0 σ).length=N.length
 src:∀(σ:St) (i:Nat) (x:Str) (v:V),N[i]? =some x->(σ0 σ)[i]? =some (some v)->(x,NameKind.free)∈scope.names/\∃j:Nat,X.N[j]? =some x/\σ[j]? =some (some v)
 loc:∀(σ:St) (i:Nat) (x:Str) (v:V),N[i]? =some x->(σ0 σ)[i]? =some (some v)->¬(relabel scope X.env).names.lookup x=some .local
theorem zju {E:Value->Shared->Prop}(hc:X.calm=true)(b:BlkOk X scope)(cap:Cap X scope N σ0)(hi:PI X tg iter wi)(hg:∀C s H fp,PG (cxC X N scope C s H fp) tg (g C s H fp))(ht:∀C s H fp,PTs (cxC X N scope C s H fp) ifs (tt C s H fp))(he:∀C s H fp,PE (cxC X N scope C s H fp) elt (te C s H fp))
  {pins:List (Addr×Obj)} {s:Shared} {σ:St} {H:Hp} {Q:VK} (I:Inv X pins σ H s) (h:tLC σ0 wi g tt te σ H Q) {QQ:Value->Shared->Prop} {p0:Pos}
  (hs:∀x,foldedSetIterable iter X.env x=pure x)
  (fin : match use with
   |none=>∀u s',EP X pins σ Q u s'->QQ u s'
   |some f=>∀(D:Addr) (fp:List Addr) (C:Addr) (H1 H':Hp) (σc:St) (s1 s':Shared),Inv X pins σ H1 s1->(∀b∈fp,FpOk X pins H1 b)->C=s1.heap.objs.size->Inv (cxC X N scope C s1 H1 fp) [] σc H' s'->Q (.ref D) H'->
     wpAny (model X.prog X.w) X.A (f (.ref D)) (fun _ s''=>∃m,s''.heap.Ns C m/\∀h',Heap.SameBut C s''.heap h'->QQ .none {s'' with heap:=h'}) X.xe s'):
  wpAny (model X.prog X.w) X.A (comprehension (.ListComp elt [⟨tg,iter,ifs,0⟩] scope pos) scope X.env p0 (newList []) false (eval iter X.env) use) QQ X.xe s:=by
 refine wpAny_comprehension_free (cl:=clOf scope X.env) (g:=⟨tg,iter,ifs,0⟩) (gs:=[]) rfl hs (zij (zeU I b)) b.kind (fun x hx hl=>hl ▸ b.uniq x hx) ?_
 refine thn (hi pins s σ H _ I h) fun v s1 h1=>thn h1 fun itv s2 h2=>?_
 obtain⟨it,fp,tn,J,H2,e,I2,T,st2,f2,h3⟩:=h2
 subst e
 refine wpAny_newObj_type ?_ (by show(0:Nat)<=sizeLine;exact Nat.zero_le _)
 have hD:H2 s2.heap.objs.size=none:=I2.fresh
 obtain⟨W,⟨m0,w0⟩,turn⟩:=h3 _ hD
 have I3:Inv X pins σ (upd H2 s2.heap.objs.size (.lst [])) {s2 with heap:=s2.heap.push {cls:= .type "list",data:= .seq ([]:List Value).toArray}}:=I2.lnew (t':=s2.toks) .nil (Nat.zero_le _)
 have f3:∀b∈fp,FpOk X pins (upd H2 s2.heap.objs.size (.lst [])) b:=fun b hb=>by
  obtain⟨a1,a2⟩:=f2 b hb
  obtain⟨o,ho,_⟩:=T.obj _ _ st2 b hb
  exact⟨by rw[zad (Nat.ne_of_lt (Heap.lt_size ho))];exact a1,a2⟩
 have st3:tn 0 (s2.heap.push {cls:= .type "list",data:= .seq ([]:List Value).toArray}):=T.keep _ _ _ st2 fun b hb o e=>Heap.get?_push_of_some _ e
 generalize hs3:({s2 with heap:=s2.heap.push {cls:= .type "list",data:= .seq ([]:List Value).toArray}}:Shared)=s3 at I3
 have hs3':s3.heap=s2.heap.push {cls:= .type "list",data:= .seq ([]:List Value).toArray}:=by rw[<-hs3]
 rw[<-hs3']at st3
 have hfs:∀b∈fp,b<s3.heap.objs.size:=fun b hb=>by
  obtain⟨o,ho,_⟩:=T.obj _ _ st3 b hb
  exact Heap.lt_size ho
 show wpAny _ _ (newFunctionEnv scope X.env.globals (clOf scope X.env) [] X.env.qual none .none (some X.env)) _ _ s3
 refine zgA fun h' hns hk hcl=>?_
 have hcl:=hcl fun x c e=>I3.cell x c (zds I3 b e)
 generalize hDD:s2.heap.objs.size=DD at*
 have B0:Inv (cxC X N scope s3.heap.objs.size s3 (upd H2 DD (.lst [])) fp) [] (σ0 σ) (upd H2 DD (.lst [])) {s3 with heap:=h'}:=
  zkx (tk:=s3.toks) I3 b f3 hfs hns hk hcl (cap.len σ) (cap.src σ) (cap.loc σ)
 have stat:∀{H':Hp},(∀b∈fp,H' b=none)->∀b∈fp,FpOk (cxC X N scope s3.heap.objs.size s3 (upd H2 DD (.lst [])) fp) [] H' b:=fun hn b' hb=>by
  refine⟨hn b' hb,Nat.ne_of_lt (hfs b' hb),fun z=>?_,.inl hb,fun x c e=>?_,fun p hp=>absurd (show p∈([]:List (Addr×Obj))from hp) (by simp)⟩
  ·rcases List.mem_cons.mp (I3.stkSub b' z)with w|w
   ·exact(f3 b' hb).2.1 w
   ·exact(f3 b' hb).2.2.1 w
  ·intro z
   rcases zdS I3 b e with q|q
   ·exact Nat.lt_asymm q (z ▸ hfs b' hb)
   ·exact(f3 b' hb).2.2.2.2.1 x c q z
 have tn0:tn 0 h':=T.keep _ _ _ st3 fun b' hb o e=>hk b' o e
 have post:∀(s':Shared) (σc:St) (H':Hp),Inv (cxC X N scope s3.heap.objs.size s3 (upd H2 DD (.lst [])) fp) [] σc H' s'->Q (.ref DD) H'->compPost (model X.prog X.w) X.A X.xe use QQ (.ref DD) s3.heap.objs.size (.ok .next) s':=fun s' σc H' J' q=>by
  cases use with
  |none=>
   obtain⟨m,hn,_⟩:=J'.loc
   exact⟨m,hn,fun h'' hs''=>fin _ _ ⟨.ref DD,H',zks I3 f3 J' hs'',rfl,q⟩⟩
  |some f=>exact fin DD fp _ _ H' σc s3 s' I3 f3 rfl J' q
 have loop:codeAny (model X.prog X.w) X.A (.compLoop (.ListComp elt [⟨tg,iter,ifs,0⟩] scope pos) 0 (.ref it) (.ref DD) (compEnvC scope (clC scope X.env s3.heap.objs.size) s3.heap.objs.size X.env)) (compPost (model X.prog X.w) X.A X.xe use QQ (.ref DD) s3.heap.objs.size) {s3 with heap:=h'}:=by
  refine zgP (fun n s'=>∃i σ' H',Inv (cxC X N scope s3.heap.objs.size s3 (upd H2 DD (.lst [])) fp) [] σ' H' s'/\tn i s'.heap/\(∀b∈fp,H' b=none)/\W i n σ' H') ?_ m0 ⟨0,σ0 σ,_,B0,tn0,fun b' hb=>(f3 b' hb).1,w0⟩
  rintro n s5 ⟨i,σ5,H5,I5,st5,fr5,w5⟩
  rcases turn i n σ5 H5 w5 with⟨stop,qn⟩|⟨go,step⟩
  ·refine thn (T.done (cxC X N scope s3.heap.objs.size s3 (upd H2 DD (.lst [])) fp) rfl rfl rfl hc i [] s5 σ5 H5 (fun _ _=>False) I5 (stat fr5) st5 stop) fun r s6 ⟨hr,I6⟩=>?_
   subst hr
   exact post s6 σ5 H5 I6 qn
  ·refine thn (T.item (cxC X N scope s3.heap.objs.size s3 (upd H2 DD (.lst [])) fp) rfl rfl rfl hc i [] s5 σ5 H5 (fun _ _=>False) I5 (stat fr5) st5 go) fun r s6 ⟨u,hr,h6⟩=>?_
   subst hr
   refine thn h6 fun _ s7 ⟨x,H7,I7,r7,y7,st7,fr7⟩=>?_
   have I7':=I7.pinned (stat fr7) (T.obj _ _ st7)
   have again:∀{σ8:St} {H8:Hp} {s8:Shared} {m':Nat},Inv (cxC X N scope s3.heap.objs.size s3 (upd H2 DD (.lst [])) fp) ([]++zf4 fp s7.heap) σ8 H8 s8->m'<n->W (i+1) m' σ8 H8->
     ∃m,m<n/\∃i σ' H',Inv (cxC X N scope s3.heap.objs.size s3 (upd H2 DD (.lst [])) fp) [] σ' H' s8/\tn i s8.heap/\(∀b∈fp,H' b=none)/\W i m σ' H':=fun{σ8 H8 s8 m'} I8 hm w8=>by
    refine⟨m',hm,i+1,σ8,H8,I8.unpinned,T.keep _ _ _ st7 fun b' hb o e=>(I8.pin (b',o) (List.mem_append_right _ (List.mem_append_right _ (zcP hb e)))).1,fun b' hb=>?_,w8⟩
    obtain⟨o,e,d⟩:=T.obj _ _ st7 b' hb
    exact(I8.pin (b',o) (List.mem_append_right _ (List.mem_append_right _ (zcP hb e)))).2.1
   refine thn (hg _ _ _ _ _ s7 σ5 H7 x u _ I7' r7 (step _ _ _ _ x H7 y7)) fun _ s8 ⟨σ8,H8,I8,q8⟩=>?_
   refine thn (ht _ _ _ _ _ s8 σ8 H8 _ I8 q8) fun ok s9 ⟨H9,I9,q9⟩=>?_
   cases ok with
   |false=>
    obtain⟨m',hm,w9⟩:=q9
    exact again I9 hm w9
   |true=>
    refine thn (he _ _ _ _ _ s9 σ8 H9 _ I9 q9) fun u10 s10 ⟨v10,H10,I10,r10,xs,hx,hz,m',hm,w10⟩=>?_
    refine thn (zf9 _ s10 σ8 H10 (.ref DD) [v10] (.ref DD) [u10] (fun v H'=>v= .non/\H'=upd H10 DD (.lst (xs++[v10]))) I10 rfl (.cons r10 .nil) ⟨DD,xs,v10,rfl,rfl,hx,hz,rfl,rfl⟩) fun _ s11 ⟨_,H11,I11,_,_,e11⟩=>?_
    subst e11
    exact again I11 hm w10
 exact codeAny_compStart_list loop (T.self _ _ _ _ _ tn0 loop)
theorem pe_lc (hc:X.calm=true)(b:BlkOk X scope)(cap:Cap X scope N σ0)(hi:PI X tg iter wi)(hg:∀C s H fp,PG (cxC X N scope C s H fp) tg (g C s H fp))(ht:∀C s H fp,PTs (cxC X N scope C s H fp) ifs (tt C s H fp))(he:∀C s H fp,PE (cxC X N scope C s H fp) elt (te C s H fp))
    (hs:autoParam (∀x,foldedSetIterable iter X.env x=pure x) zu9._auto_1):PE X (.ListComp elt [⟨tg,iter,ifs,0⟩] scope pos) (tLC σ0 wi g tt te):=by
  intro pins s σ H Q I h
  rw[eval_ListComp]
  exact zju (use:=none) (E:=X.xe) hc b cap hi hg ht he I h hs (fun u s' q=>q)
end
noncomputable def zbH (ρ:R):Bool:=ρ.all fun s=>match s with
 | .own _=>false
 | .par _=>false
 | .tre _=>false
 | .ptr _=>false
 |_=>true
theorem zfD (h:zbH ρ=true){a:Addr}(e:ρ[i]? =some s):¬OwS K G H ov a s:=fun w=>by
 unfold zbH at h
 rw[List.all_eq_true]at h
 have:=h s (List.mem_of_getElem? e)
 cases s with
 |emp=>exact w
 |two _ _=>exact w
 |val d=>exact w
 |_=>exact absurd (show false=true from this) Bool.false_ne_true
theorem zcT (h:zbH ρ=true)(e:ρ[i]? =some s):(∀t,s≠ .tre t)/\∀t,s≠ .ptr t:=by
 unfold zbH at h
 rw[List.all_eq_true]at h
 have:=h s (List.mem_of_getElem? e)
 constructor
 ·rintro t rfl;exact absurd (show false=true from this) Bool.false_ne_true
 ·rintro t rfl;exact absurd (show false=true from this) Bool.false_ne_true
theorem zcO (h:zbH ρ=true):¬Wr ρ i:=fun⟨s,ds,e,q⟩=>by
 unfold zbH at h
 rw[List.all_eq_true]at h
 have:=h s (List.mem_of_getElem? e)
 cases s with
 |emp=>cases q
 |two _ _=>cases q
 |tre _=>cases q
 |ptr _=>cases q
 |val d=>cases q
 |own d=>exact absurd (show false=true from this) Bool.false_ne_true
 |par d=>exact absurd (show false=true from this) Bool.false_ne_true
structure VS (K:W.Frag) (G:Hp) (σ:St) (ρ:R):Prop where
 len:σ.length=ρ.length
 no:zbH ρ=true
 val:∀(i:Nat) d,ρ[i]? =some (.val d)->∃v,σ[i]? =some (some v)/\RepD K G v d
theorem VS.si (h:VS K G σ ρ)(fz:Fz G H):SI K ⟨G,H,[]⟩ G H σ ρ where
 fz:=fz
 g0:=Fz.refl G
 new:=fun b o e=> .inl (by show G b≠none;rw[e];simp)
 keep:=fun b o e _=>e
 there:=fun b e=>e
 ob:=fun i b m=>by cases m
 len:=h.len
 slot:=fun i s e=>by
  cases s with
  |emp=>trivial
  |two _ _=>trivial
  |tre t=>exact absurd rfl ((zcT h.no e).1 t)
  |ptr t=>exact absurd rfl ((zcT h.no e).2 t)
  |val d=>exact h.val i d e
  |own ds=>exact absurd ⟨_,ds,e,rfl⟩ (zcO h.no (i:=i))
  |par ds=>exact absurd ⟨_,ds,e,rfl⟩ (zcO h.no (i:=i))
 dis:=fun i j s _ a _ e _ w=>absurd w (zfD h.no e)
theorem VS.of (I:SI K B G H σ ρ)(h:zbH ρ=true):VS K G σ ρ:=⟨I.len,h,fun i d e=>I.slot i _ e⟩
noncomputable def fz1 (i:Nat)(ρ:R):R:=match ρ[i]? with
 |some (.own ds)=>ρ.set i (.val (.lst ds))
 |_=>ρ
noncomputable def fzL:List Nat->R->R
 |[],ρ=>ρ
 |i::is,ρ=>fzL is (fz1 i ρ)
theorem SI.fz1 (I:SI K B G H σ ρ)(i:Nat):∃G',SI K B G' H σ (M.fz1 i ρ)/\Fz G G':=by
 unfold M.fz1
 cases e:ρ[i]? with
 |none=>exact⟨G,I,Fz.refl G⟩
 |some s=>
  cases s with
  |own ds=>obtain⟨l,xs,_,f,_,I'⟩:=I.freeze e;exact⟨_,I',f⟩
  |emp=>exact⟨G,I,Fz.refl G⟩
  |two _ _=>exact⟨G,I,Fz.refl G⟩
  |tre _=>exact⟨G,I,Fz.refl G⟩
  |ptr _=>exact⟨G,I,Fz.refl G⟩
  |val _=>exact⟨G,I,Fz.refl G⟩
  |par _=>exact⟨G,I,Fz.refl G⟩
theorem SI.fzL:∀(is:List Nat) {G:Hp} {ρ:R},SI K B G H σ ρ->∃G',SI K B G' H σ (M.fzL is ρ)/\Fz G G'
 |[],G,ρ,I=>⟨G,I,Fz.refl G⟩
 |i::is,G,ρ,I=>by
  obtain⟨G1,I1,f1⟩:=I.fz1 i
  obtain⟨G2,I2,f2⟩:=SI.fzL is I1
  exact⟨G2,I2,f1.trans f2⟩
noncomputable def capS (ρ:R)(i:Nat):Sl:=match ρ[i]? with
 |some (.val d)=> .val d
 |_=> .emp
theorem zid (ρ:R)(i:Nat):capS ρ i= .emp\/∃d,capS ρ i= .val d:=by
 unfold capS
 split
 ·exact .inr ⟨_,rfl⟩
 ·exact .inl rfl
noncomputable def capR (cap:List Nat)(t:Nat)(ρ:R):R:=cap.map (capS ρ)++List.replicate t .emp
noncomputable def capσ (cap:List Nat)(t:Nat)(σ:St):St:=cap.map (fun i=>(σ[i]?).join)++List.replicate t none
theorem zj9 (I:SI K B G H σ ρ)(cap:List Nat)(t:Nat):VS K G (capσ cap t σ) (capR cap t ρ) where
 len:=by unfold capσ capR;simp
 no:=by
  unfold zbH capR
  rw[List.all_eq_true]
  intro s hs
  rcases List.mem_append.mp hs with h|h
  ·obtain⟨i,_,rfl⟩:=List.mem_map.mp h
   rcases zid ρ i with e|⟨d,e⟩
   ·rw[e]
   ·rw[e]
  ·rw[List.eq_of_mem_replicate h]
 val:=fun i d e=>by
  unfold capR at e
  by_cases hi:i<cap.length
  ·rw[List.getElem?_append_left (by simpa using hi),List.getElem?_map,List.getElem?_eq_getElem hi]at e
   have e':capS ρ cap[i]= .val d:=by simpa using e
   unfold capS at e'
   split at e'
   ·rename_i d' q
    cases e'
    obtain⟨v,h1,h2⟩:=I.slot _ _ q
    refine⟨v,?_,h2⟩
    unfold capσ
    rw[List.getElem?_append_left (by simpa using hi),List.getElem?_map,List.getElem?_eq_getElem hi]
    simp[h1]
   ·cases e'
  ·rw[List.getElem?_append_right (by simpa using hi),List.getElem?_replicate]at e
   split at e
   ·cases e
   ·cases e
noncomputable def zbN (f:D->R->Option (Option D×R)):List D->R->Option (List D×R)
 |[],ρ=>some ([],ρ)
 |d::ds,ρ=>(f d ρ).bind fun p=>(zbN f ds p.2).map fun q=>(p.1.toList++q.1,q.2)
noncomputable def zis (g:D->R->Option R)(mt:MT)(me:ME):D->R->Option (Option D×R):=fun d ρ=>(g d ρ).bind fun ρ1=>(mt ρ1).bind fun p=>if p.1 then(me p.2).bind fun q=>if zbH q.2 then some (some q.1,q.2)else none else if zbH p.2 then some (none,p.2)else none
noncomputable def oLC (cap:List Nat)(t:Nat)(mi:MA)(g:D->R->Option R)(mt:MT)(me:ME):MO:=fun ρ=>(mi ρ).bind fun p=>if p.1.length<=16777216 then(zbN (zis g mt me) p.1 (capR cap t (fzL cap p.2))).map fun q=>(q.1,fzL cap p.2)else none
noncomputable def STs (X:Cx)(ifs:List Expr)(m:MT):Prop:=
 ∃t,PTs X ifs t/\∀B G H σ ρ d ρ' (Q:Bool->Hp->Prop),SI X.K B G H σ ρ->m ρ=some (d,ρ')->(∀G' H',SI X.K B G' H' σ ρ'->Fz G G'->Q d H')->t σ H Q
noncomputable def zeo:MT:=fun ρ=>some (true,ρ)
theorem zca:STs X [] zeo:=⟨_,pts_nil,fun B G H σ ρ d ρ' Q I hm k=>by cases hm;exact k G H I (Fz.refl G)⟩
noncomputable def blkB (env:Env)(scope:Scope):Bool:=(scope.names.all fun x=>scope.names.lookup x.1==some x.2&&(x.2 != .free||(env.kindOf x.1==some .cell||env.kindOf x.1==some .free)))
theorem zhL (hk:scope.kind= .function)(h:blkB X.env scope=true):BlkOk X scope:=by
 unfold blkB at h
 rw[List.all_eq_true]at h
 refine⟨hk,fun x hx=>?_,fun x hx hf=>?_⟩
 ·have:=h x hx
  simp only[Bool.and_eq_true,Bool.or_eq_true,bne_iff_ne,beq_iff_eq]at this
  exact this.1
 ·have:=h x hx
  simp only[Bool.and_eq_true,Bool.or_eq_true,bne_iff_ne,beq_iff_eq]at this
  exact(this.2).resolve_left (fun z=>z hf)
noncomputable def capB (names:List (Str×NameKind))(N XN:List Str)(cap:List Nat)(t:Nat):Bool:=N.length==cap.length+t&&(cap.zip N).all fun p=>XN[p.1]? ==some p.2&&names.lookup p.2==some .free
theorem zhN (h:capB scope.names N X.N cap t=true):Cap X scope N (capσ cap t):=by
 unfold capB at h
 rw[Bool.and_eq_true,List.all_eq_true]at h
 obtain⟨hl,h⟩:=h
 have hl:N.length=cap.length+t:=by simpa using hl
 have key:∀(σ:St) (i:Nat) (x:Str) (v:V),N[i]? =some x->(capσ cap t σ)[i]? =some (some v)->∃j,cap[i]? =some j/\σ[j]? =some (some v)/\X.N[j]? =some x/\scope.names.lookup x=some .free:=fun σ i x v h1 h2=>by
  unfold capσ at h2
  by_cases hi:i<cap.length
  ·rw[List.getElem?_append_left (by simpa using hi),List.getElem?_map,List.getElem?_eq_getElem hi]at h2
   have h3:(σ[cap[i]]?).join=some v:=by simpa using h2
   have hz:(cap[i],x)∈cap.zip N:=by
    refine List.mem_of_getElem? (i:=i) ?_
    rw[List.getElem?_zip_eq_some]
    exact⟨List.getElem?_eq_getElem hi,h1⟩
   have:=h _ hz
   simp only[Bool.and_eq_true,beq_iff_eq]at this
   refine⟨cap[i],List.getElem?_eq_getElem hi,?_,this.1,this.2⟩
   cases q:σ[cap[i]]? with
   |none=>rw[q]at h3;cases h3
   |some o=>rw[q]at h3;rw[show o=some v from h3]
  ·rw[List.getElem?_append_right (by simpa using hi),List.getElem?_replicate]at h2
   split at h2<;>cases h2
 refine⟨fun σ=>by unfold capσ;simp[hl],fun σ i x v h1 h2=>?_,fun σ i x v h1 h2 z=>?_⟩
 ·obtain⟨j,_,a,b,c⟩:=key σ i x v h1 h2
  exact⟨zcU c,j,b,a⟩
 ·obtain⟨j,_,a,b,c⟩:=key σ i x v h1 h2
  have e:(relabel scope X.env).names.lookup x=(scope.names.lookup x).map fun k=>if(k==NameKind.free&&X.env.scope.kind== .function&&X.env.kindOf x==some .cell)then NameKind.cell else k:=zbM
  rw[e,c]at z
  simp only[Option.map_some,Option.some.injEq]at z
  split at z<;>cases z
structure LcV (K:W.Frag) (g:D->R->Option R) (mt:MT) (me:ME) (items all:List D) (G2 H1:Hp) (DD:Addr) (i:Nat) (σc:St) (Hc Gc:Hp) (ρc:R) (acc:List D) (xs:List V) (rest:List D) (ρe:R):Prop where
 fc:Fz G2 Gc
 fcH:Fz Gc Hc
 nw:∀b o,Gc b=some o->G2 b≠none\/H1 b=none
 kp:∀b o,H1 b=some o->Hc b=some o
 gD:Gc DD=none
 hDc:Hc DD=some (.lst xs)
 ra:RepL K Gc xs acc
 hx:xs.length<=i
 vs:VS K Gc σc ρc
 ec:zbN (zis g mt me) (items.drop i) ρc=some (rest,ρe)
 eall:all=acc++rest
section
variable {X:Cx} {elt iter tg:Expr} {ifs:List Expr} {scope:Scope} {pos:Pos} {N:List Str} {cap:List Nat} {t:Nat} {mi:MA} {g:D->R->Option R} {mt:MT} {me:ME}
theorem zia
  (si:∀B G H σ ρ ds ρ' (Q:It->Hp->Prop),SI X.K B G H σ ρ->mi ρ=some (ds,ρ')->(∀J G' H',SI X.K B G' H' σ ρ'->Fz G G'->Itm X.K J G' ds->Q J H')->wi σ H Q)
  (sg:∀C s H₀ fp B G H σ ρ v d ρ' (Q:St->Hp->Prop),SI X.K B G H σ ρ->RepD X.K G v d->g d ρ=some ρ'->(∀G' H' σ',SI X.K B G' H' σ' ρ'->Fz G G'->Q σ' H')->tg' C s H₀ fp v σ H Q)
  (st:∀C s H₀ fp B G H σ ρ d ρ' (Q:Bool->Hp->Prop),SI X.K B G H σ ρ->mt ρ=some (d,ρ')->(∀G' H',SI X.K B G' H' σ ρ'->Fz G G'->Q d H')->tt C s H₀ fp σ H Q)
  (se:∀C s H₀ fp B G H σ ρ d ρ' (Q:VK),SI X.K B G H σ ρ->me ρ=some (d,ρ')->(∀G' H' v,SI X.K B G' H' σ ρ'->Fz G G'->RepD X.K G' v d->Q v H')->te C s H₀ fp σ H Q):
  ∀B G H σ ρ ds ρ' (Q:VK),SI X.K B G H σ ρ->oLC cap t mi g mt me ρ=some (ds,ρ')->
   (∀G' H' l xs,SI X.K B G' H' σ ρ'->Fz G G'->G' l=none->H' l=some (.lst xs)->RepL X.K G' xs ds->B.H l=none->Nw X.K G' H' σ ρ' l->Q (.ref l) H')->tLC (capσ cap t) wi tg' tt te σ H Q:=by
 intro B G H σ ρ ds ρ' Q I hm k
 obtain⟨⟨items,ρ1⟩,e1,hm⟩:=zaa hm
 refine si B G H σ ρ items ρ1 _ I e1 fun J G1 H1 I1 f1 IT DD hD=>?_
 dsimp only at hm
 split at hm
 ·rename_i hlen
  obtain⟨⟨all,ρf⟩,e2,e3⟩:=zag hm
  obtain⟨rfl,rfl⟩:=Prod.mk.inj e3
  obtain⟨G2,I2,f2⟩:=SI.fzL cap I1
  have hDG:G2 DD=none:=I2.fz.free hD
  refine⟨fun i m σc Hc=>m=items.length-i/\i<=items.length/\∃Gc ρc acc xs rest ρe,LcV X.K g mt me items all G2 H1 DD i σc Hc Gc ρc acc xs rest ρe,
   ⟨items.length,by simp,Nat.zero_le _,G2,capR cap t (M.fzL cap ρ1),[],[],all,ρf,{fc:=Fz.refl _,fcH:=I2.fz.right hDG _,nw:=fun b o e=> .inl (by rw[e];simp),kp:=fun b o e=>by rw[zad (zan e hD)];exact e,gD:=hDG,hDc:=zaf,ra:= .nil,hx:=Nat.le_refl _,vs:=zj9 I2 cap t,ec:=by simpa using e2,eall:=rfl}⟩,?_⟩
  rintro i m σc Hc ⟨rfl,hi,Gc,ρc,acc,xs,rest,ρe,J0⟩
  obtain⟨fc,fcH,nw,kp,gD,hDc,ra,hx,vs,ec,eall⟩:=J0
  by_cases hlt:i<items.length
  ·refine .inr ⟨IT.go Hc i (f2.trans (fc.trans fcH)) hlt,fun C s₀ H₀ fp x H' y=>?_⟩
   rw[List.drop_eq_getElem_cons hlt]at ec
   simp only[zbN]at ec
   obtain⟨⟨o,ρ3⟩,h3,ec⟩:=zaa ec
   obtain⟨⟨rest2,ρ4⟩,h4,ec⟩:=zag ec
   obtain⟨rfl,rfl⟩:=Prod.mk.inj ec
   dsimp only at h4
   unfold zis at h3
   obtain⟨ρ5,h5,h3⟩:=zaa h3
   obtain⟨⟨ok,ρ6⟩,h6,h3⟩:=zaa h3
   dsimp only at h3
   have Ic:SI X.K ⟨Gc,Hc,[]⟩ Gc Hc σc ρc:=vs.si fcH
   have fz2:Fz G1 Hc:=f2.trans (fc.trans fcH)
   have yy:=IT.yld Hc i x H' fz2 y items[i] (List.getElem?_eq_getElem hlt)
   have yy2:(H'=Hc/\RepD X.K Gc x items[i])\/∃p xs es,Hc p=none/\H'=upd Hc p (.tup xs)/\x= .ref p/\items[i]= .tup es/\RepL X.K Gc xs es:=by
    rcases yy with⟨a,b⟩|⟨p,xs,es,a,b,c,d,e⟩
    ·exact .inl ⟨a,b.mono (f2.trans fc)⟩
    ·exact .inr ⟨p,xs,es,a,b,c,d,e.mono (f2.trans fc)⟩
   obtain⟨G3,I3,f3,r3⟩:=Ic.yld yy2
   refine sg C s₀ H₀ fp _ G3 H' σc ρc x items[i] ρ5 _ I3 r3 h5 fun G4 H4 σ4 I4 f4=>st C s₀ H₀ fp _ G4 H4 σ4 ρ5 ok ρ6 _ I4 h6 fun G5 H5 I5 f5=>?_
   have facts:∀(G' H':Hp) (σ':St) (ρ':R),SI X.K ⟨Gc,Hc,[]⟩ G' H' σ' ρ'->(∀b o,G' b=some o->G2 b≠none\/H1 b=none)/\(∀b o,H1 b=some o->H' b=some o)/\G' DD=none/\H' DD=some (.lst xs):=fun G' H' σ' ρ' I'=>by
    refine⟨fun b o e=>?_,fun b o e=>I'.keep b o (kp b o e) (by simp),?_,I'.keep DD _ hDc (by simp)⟩
    ·rcases I'.new b o e with h|h
     ·have h:Gc b≠none:=h
      cases q:Gc b with
      |none=>exact absurd q h
      |some u=>exact nw b u q
     ·refine .inr ?_
      cases q:H1 b with
      |none=>rfl
      |some u=>have:=kp b u q;rw[show Hc b=none from h]at this;cases this
    ·cases q:G' DD with
     |none=>rfl
     |some u=>
      rcases I'.new DD u q with h|h
      ·exact absurd gD h
      ·rw[show Hc DD=none from h]at hDc;cases hDc
   cases ok with
   |false=>
    simp only[Bool.false_eq_true,if_false]at h3
    split at h3
    ·rename_i hno
     cases h3
     obtain⟨a1,a2,a3,a4⟩:=facts G5 H5 σ4 _ I5
     exact⟨items.length-(i+1),by lia,rfl,hlt,G5,_,acc,xs,rest2,ρ4,{fc:=fc.trans (f3.trans (f4.trans f5)),fcH:=I5.fz,nw:=a1,kp:=a2,gD:=a3,hDc:=a4,ra:=ra.mono (f3.trans (f4.trans f5)),hx:=by lia,vs:=VS.of I5 hno,ec:=h4,eall:=by simpa using eall}⟩
    ·cases h3
   |true=>
    simp only[if_true]at h3 ⊢
    obtain⟨⟨dv,ρ7⟩,h7,h3⟩:=zaa h3
    dsimp only at h3
    split at h3
    ·rename_i hno
     cases h3
     refine se C s₀ H₀ fp _ G5 H5 σ4 ρ6 dv _ _ I5 h7 fun G6 H6 v I6 f6 r6=>?_
     obtain⟨a1,a2,a3,a4⟩:=facts G6 H6 σ4 _ I6
     have ff:Fz Gc G6:=f3.trans (f4.trans (f5.trans f6))
     exact⟨xs,a4,by rw[sizeLine_eq];lia,items.length-(i+1),by lia,rfl,hlt,G6,_,acc++[dv],xs++[v],rest2,ρ4,{fc:=fc.trans ff,fcH:=I6.fz.right a3 _,nw:=a1,kp:=fun b o e=>by rw[zad (zan e hD)];exact a2 b o e,gD:=a3,hDc:=zaf,ra:=(ra.mono ff).snoc r6,hx:=by rw[List.length_append,List.length_singleton];lia,vs:=VS.of I6 hno,ec:=h4,eall:=by rw[eall];simp}⟩
    ·cases h3
  ·have e:i=items.length:=by lia
   subst e
   rw[List.drop_length]at ec
   cases ec
   have hall:all=acc:=by rw[eall,List.append_nil]
   refine .inl ⟨IT.stop Hc _ (f2.trans (fc.trans fcH)) (Nat.le_refl _),?_⟩
   rw[<-hall]at ra
   exact k Gc Hc DD xs (I2.grow fc fcH nw kp) (f1.trans (f2.trans fc)) gD hDc ra (I2.there DD hD) (I2.own_ne hD nw kp)
 ·cases hm
theorem ziF (cap:List Nat)(t:Nat)(N:List Str)(hc:X.calm=true)(hi:SIt X tg iter mi)(hg:∀C s H fp,SG (cxC X N scope C s H fp) tg g)(ht:∀C s H fp,STs (cxC X N scope C s H fp) ifs mt)(he:∀C s H fp,SE (cxC X N scope C s H fp) elt me)
    (hk:autoParam (scope.kind= .function) zu3._auto_1) (hb:autoParam (blkB X.env scope=true) zu11._auto_1) (hcap:autoParam (capB scope.names N X.N cap t=true) zu11._auto_1)
    (hs:autoParam (∀x,foldedSetIterable iter X.env x=pure x) zu9._auto_1):SO X (.ListComp elt [⟨tg,iter,ifs,0⟩] scope pos) (oLC cap t mi g mt me):=by
  obtain⟨wi,pi,si⟩:=hi
  exact⟨_,pe_lc hc (zhL hk hb) (zhN hcap) pi (fun C s H fp=>(hg C s H fp).choose_spec.1) (fun C s H fp=>(ht C s H fp).choose_spec.1) (fun C s H fp=>(he C s H fp).choose_spec.1) hs,
    zia si (fun C s H fp=>(hg C s H fp).choose_spec.2) (fun C s H fp=>(ht C s H fp).choose_spec.2) (fun C s H fp=>(he C s H fp).choose_spec.2)⟩
end
section
variable {X:Cx} {elt iter tg:Expr} {ifs:List Expr} {scope:Scope} {pos lpos pos':Pos} {N:List Str} {cap:List Nat} {t:Nat} {mi:MA} {g:D->R->Option R} {mt:MT} {me:ME}
theorem ps_setLC {σ0:St->St}(hN:X.N.Nodup)(hxi:X.N[i]? =some x)(hx:Loc X.env.scope x)(hf:X.fn x=true\/X.env.scope.names.lookup x=some .local)
  (hsw:swapsWith (.ListComp elt [⟨tg,iter,ifs,0⟩] scope lpos) (some (.Name x pos')) pos.line X.env=pure true) (hc:X.calm=true) (b:BlkOk X scope) (cap:Cap X scope N σ0) (hi:PI X tg iter wi) (hg:∀C s H fp,PG (cxC X N scope C s H fp) tg (tg' C s H fp)) (ht:∀C s H fp,PTs (cxC X N scope C s H fp) ifs (tt C s H fp)) (he:∀C s H fp,PE (cxC X N scope C s H fp) elt (te C s H fp))
  (hs:∀x,foldedSetIterable iter X.env x=pure x):PS X (.Assign [.Name x pos'] (.ListComp elt [⟨tg,iter,ifs,0⟩] scope lpos) pos) (fun E σ H=>tLC σ0 wi tg' tt te σ H fun v H'=>E.nx (σ.set i (some v)) H'):=by
 intro pins s σ H E I h
 rw[exec_Assign_Name_used _ _ _ _ hsw]
 refine wpAny_bind (wpAny_standAt (wpAny_bind ?_))
 show wpAny _ _ (do let _<-comprehension (.ListComp elt [⟨tg,iter,ifs,0⟩] scope lpos) scope X.env _ (newList []) false (eval iter X.env) (some (assign (.Name x pos') X.env))) _ _ s
 refine wpAny_bind (thn (zju (use:=some (assign (.Name x pos') X.env)) (QQ:=fun _ s'=>SP X pins E .next s') (E:=X.xe) hc b cap hi hg ht he I h hs ?_) fun _ s' hq=>wpAny_pure (wpAny_pure hq))
 intro D fp C H1 H' σc s1 s' I1 f1 eC J q
 subst eC
 have I2:Inv X pins σ H' s':=by
  have z:=zks (h':=s'.heap) I1 f1 J (Heap.SameBut.refl _ _)
  exact z
 obtain⟨m,⟨o,es,ep,ho,hd,hrest⟩,_⟩:=J.loc
 have fpk:FpOk X pins H' s1.heap.objs.size:=I1.fpOk (Nat.le_refl _) J.free
 have I3:Inv X (pins++[(s1.heap.objs.size,o)]) σ H' s':=I2.pins_of fun p hp=>by
  rcases List.mem_append.mp hp with hp|hp
  ·exact I2.pin p (List.mem_append_right _ hp)
  ·have e:p=(s1.heap.objs.size,o):=by simpa using hp
   subst e
   exact⟨ho,fpk.1,fpk.2.1,fpk.2.2.1,fun v z=>by rw[hd]at z;cases z⟩
 refine thn (zhd hN hxi hx hf (pins++[(s1.heap.objs.size,o)]) s' σ H' (.ref D) (.ref D) (fun σ2 H2=>E.nx σ2 H2) I3 rfl q) fun _ s'' ⟨σ2,H2,I4,q4⟩=>?_
 have pC:=I4.pin (s1.heap.objs.size,o) (List.mem_append_right _ (List.mem_append_right _ (by simp)))
 refine⟨m,⟨o,es,ep,pC.1,hd,hrest⟩,fun h' hs'=>?_⟩
 have I5:Inv X pins σ2 H2 s'':=I4.unpinned
 have fp2:FpOk X pins H2 s1.heap.objs.size:=I1.fpOk (Nat.le_refl _) pC.2.1
 have I6:=I5.turned (t':=s''.toks) (h':=h') (it:=s1.heap.objs.size) (fun b' o' hb e=>hs'.extBut b' o' hb e) fp2.1 fp2.2.1 fp2.2.2.2.1 fp2.2.2.2.2.1 fp2.2.2.2.2.2
 exact⟨σ2,H2,I6,q4⟩
end
section
variable {X:Cx} {pins:List (Addr×Obj)} {σ:St} {H:Hp} {s:Shared}
theorem zib {A:Around}(hh:A.handled=none)(I:Inv X pins σ H s)(hq:SqL X.K H p ys\/SqT X.K H p ys)
  (k : ∀ (its : List Value) (s₂ : Shared) (St : Nat -> Heap -> Prop), Vals ys its -> Walks X.prog X.w A s.heap.objs.size [s.heap.objs.size, p] [s.heap.objs.size] its.length (fun i v => its[i]? = some v) St -> St 0 s₂.heap -> (∀ b ∈ [s.heap.objs.size, p], b < s₂.heap.objs.size) ->
   (∀h' tk,(∀b o,b∉[s.heap.objs.size]->s₂.heap.get? b=some o->h'.get? b=some o)->Inv X pins σ H {s₂ with heap:=h',toks:=tk})->Q (.ref s.heap.objs.size) s₂):wpAny (model X.prog X.w) A (pyIter (.ref p)) Q E s:=by
 have fin:∀(o:Obj),∀h' tk,(∀b o',b∉[s.heap.objs.size]->(s.heap.push o).get? b=some o'->h'.get? b=some o')->Inv X pins σ H {({s with heap:=s.heap.push o}:Shared)with heap:=h',toks:=tk}:=fun o h' tk hk=>by
  have z:=I.kept (h':=h') (t':=tk) fun b o' e=>hk b o' (by simpa using Nat.ne_of_lt (Heap.lt_size e)) (Heap.get?_push_of_some _ e)
  exact z
 rcases hq with hq|hq
 ·obtain⟨its,r,pl,hz⟩:=I.list hq
  have hlt:p<s.heap.objs.size:=by obtain⟨_,_,e,_⟩:=pl;exact Heap.lt_size e
  refine wpAny_pyIter_list pl.isList (k its _ (fun i h=>h.IsListIter s.heap.objs.size p i/\h.IsList p its.toArray) r ?_ ⟨⟨_,Heap.get?_push_size _ rfl,rfl,rfl⟩,pl.isList.push _⟩ (fun b hb=>?_) (fin _))
  ·have w:=Walks.list (prog:=X.prog) (w:=X.w) (A:=A) hh s.heap.objs.size p (Nat.ne_of_lt hlt) its.toArray
   simpa using w
  ·show b<(s.heap.push _).objs.size
   rw[Heap.size_push]
   simp at hb
   rcases hb with z|z
   ·rw[z];exact Nat.lt_succ_self _
   ·rw[z];exact Nat.lt_succ_of_lt hlt
 ·obtain⟨its,r,pl,hz⟩:=I.tuple hq
  have hlt:p<s.heap.objs.size:=pl.lt
  refine wpAny_pyIter_tuple (show s.heap.IsTuple p its.toArray from pl) (k its _ (fun i h=>h.IsTupleIter s.heap.objs.size p i/\h.IsTuple p its.toArray) r ?_ ⟨⟨_,Heap.get?_push_size _ rfl,rfl,rfl⟩,(show s.heap.IsTuple p its.toArray from pl).push _⟩ (fun b hb=>?_) (fin _))
  ·have w:=Walks.tuple (prog:=X.prog) (w:=X.w) (A:=A) hh s.heap.objs.size p (Nat.ne_of_lt hlt) its.toArray
   simpa using w
  ·show b<(s.heap.push _).objs.size
   rw[Heap.size_push]
   simp at hb
   rcases hb with z|z
   ·rw[z];exact Nat.lt_succ_self _
   ·rw[z];exact Nat.lt_succ_of_lt hlt
end
theorem zfc (ns:List Int):∀j,preSum (fun i=>ns.getD i 0) j=(ns.take j).sum
 |0=>by simp[preSum]
 |j+1=>by
  rw[preSum,zfc ns j]
  by_cases h:j<ns.length
  ·rw[List.take_succ_eq_append_getElem h,List.sum_append]
   simp[h]
  ·rw[List.take_of_length_le (by lia),List.take_of_length_le (by lia)]
   simp[List.getElem?_eq_none (by lia:ns.length<=j)]
theorem ints_get (r:Vals (ns.map V.int) its){v:Value}(e:its[i]? =some v):∃t,v= .int (ns.getD i 0) t:=by
 have hl:=r.length
 have hi:i<its.length:=(List.getElem?_eq_some_iff.mp e).1
 rw[List.length_map]at hl
 have e2:(ns.map V.int)[i]? =some (.int ns[i]):=by rw[List.getElem?_map,List.getElem?_eq_getElem (by lia)];rfl
 obtain⟨u,h1,t,h2⟩:=r.get e2
 rw[e]at h1;cases h1
 exact⟨t,by rw[h2];simp[show i<ns.length by lia]⟩
noncomputable def rSum (K:W.Frag):List V->Hp->VK->Prop:=fun xs H Q=>∃(p:Addr) (ns:List Int),xs=[.ref p]/\(SqL K H p (ns.map V.int)\/SqT K H p (ns.map V.int))/\Q (.int ns.sum) H
theorem zkG (hc:X.calm=true):zdT X (.builtin "sum") (rSum X.K):=by
 intro pins s σ H xs us Q I r h
 obtain⟨p,ns,rfl,hq,q⟩:=h
 obtain⟨u,rfl,ru⟩:=zgc r
 cases ru
 refine call_sum_walkG (zib (A:=X.A.in1) (I.ok.hd hc) I hq fun its s₂ St rv W st hfp fin=>?_)
 refine⟨_,_,_,_,_,_,fun i=>ns.getD i 0,rfl,W,st,hfp,fun i v e=>ints_get rv e,fun h' tk t' hk=>⟨.int ns.sum,H,fin h' tk hk,⟨t',?_⟩,q⟩⟩
 have hl:=rv.length
 rw[List.length_map]at hl
 rw[zfc,<-hl,List.take_of_length_le (Nat.le_refl _)]
noncomputable def zaM:List D->Option (List Int)
 |[]=>some []
 | .int i::ds=>(zaM ds).map (i:: ·)
 |_=>none
theorem zdI:∀{ds:List D} {ns:List Int},zaM ds=some ns->ds=ns.map .int
 |[],ns,h=>by cases h;rfl
 |d::ds,ns,h=>by
  cases d<;>simp only[zaM]at h<;>try cases h
  obtain⟨ms,e1,e2⟩:=zag h
  subst e2
  rw[zdI e1];rfl
@[simp] theorem intsOf_map:∀(ns:List Int),zaM (ns.map .int)=some ns
 |[]=>rfl
 |n::ns=>by simp[zaM,intsOf_map ns]
noncomputable def dSum:List D->Option D
 |[d]=>(zaG [d]).bind fun ds=>(zaM ds).map fun ns=> .int ns.sum
 |_=>none
theorem zh4 (I:SI K B G H σ ρ){x:V}(r:RepD K G x d)(e:zaG [d]=some ds):∃p ys,x= .ref p/\(SqL K H p ys\/SqT K H p ys)/\RepL K G ys ds:=by
 cases d<;>simp only[zaG]at e<;>try cases e
 ·obtain⟨p,ys,ex,hp,q⟩:=I.lst r
  exact⟨p,ys,ex,.inl (SqL.of hp),q⟩
 ·obtain⟨p,ys,ex,hp,q⟩:=I.tup r
  exact⟨p,ys,ex,.inr (SqT.of hp),q⟩
 ·obtain⟨p,ex,hp⟩:=r
  exact⟨p,_,ex,.inl (I.fz.sql hp),RepL.ints _⟩
theorem vc_sum:VC X (rSum X.K) dSum:=by
 intro B G H σ ρ xs ds d Q I r hf k
 match ds,hf with
 |[a],hf=>
  obtain⟨es,e1,hf⟩:=zaa hf
  obtain⟨ns,e2,e3⟩:=zag hf
  subst e3
  obtain⟨x,rfl,ra⟩:=r.one
  obtain⟨p,ys,rfl,hq,ry⟩:=zh4 I ra e1
  rw[zdI e2]at ry
  rw[RepL.ints_eq ry]at hq
  exact⟨p,ns,rfl,hq,k G H _ I (Fz.refl G) rfl⟩
 |[],hf=>cases hf
 |_::_::_,hf=>cases hf
theorem zfa {p pos:Pos}(hc:X.calm=true)(ml:X.mg "sum"=none)(ha:SA X [e] ma)(hg:autoParam (Gl X "sum") zu3._auto_1)(he:autoParam (starEach [e] X.env=(false,eval e X.env)::starEach [] X.env) zu3._auto_1):SE X (.Call (.Name "sum" p) [e] [] pos) (mC dSum ma):=
 zhi (zkG hc) vc_sum (by decide+kernel) ml ha hg (by decide) (by decide) he rfl
noncomputable def zci:List D->Option (List Bool)
 |[]=>some []
 | .bl b::ds=>(zci ds).map (b:: ·)
 |_=>none
theorem ze0:∀{ds:List D} {bs:List Bool},zci ds=some bs->ds=bs.map .bl
 |[],ns,h=>by cases h;rfl
 |d::ds,ns,h=>by
  cases d<;>simp only[zci]at h<;>try cases h
  obtain⟨ms,e1,e2⟩:=zag h
  subst e2
  rw[ze0 e1];rfl
@[simp] theorem boolsOf_map:∀(bs:List Bool),zci (bs.map .bl)=some bs
 |[]=>rfl
 |n::ns=>by simp[zci,boolsOf_map ns]
theorem RepL.bools_eq:∀{bs:List Bool} {xs:List V},RepL K G xs (bs.map D.bl)->xs=bs.map V.bl
 |[],_,e=>e
 |n::ns,_,⟨x,ys,e,q,r⟩=>by subst e;cases(show x=V.bl n from q);rw[RepL.bools_eq r];rfl
theorem zkD {bs:List Bool}(r:Vals (bs.map V.bl) its){v:Value}(e:its[i]? =some v):∃b,bs[i]? =some b/\v= .bool b:=by
 have hl:=r.length
 have hi:i<its.length:=(List.getElem?_eq_some_iff.mp e).1
 rw[List.length_map]at hl
 have e2:(bs.map V.bl)[i]? =some (.bl bs[i]):=by rw[List.getElem?_map,List.getElem?_eq_getElem (by lia)];rfl
 obtain⟨u,h1,h2⟩:=r.get e2
 rw[e]at h1;cases h1
 exact⟨bs[i],List.getElem?_eq_getElem (by lia),h2⟩
noncomputable def rAll (K:W.Frag)(f:List Bool->Bool):List V->Hp->VK->Prop:=fun xs H Q=>∃(p:Addr) (bs:List Bool),xs=[.ref p]/\(SqL K H p (bs.map V.bl)\/SqT K H p (bs.map V.bl))/\Q (.bl (f bs)) H
theorem zkm (hc:X.calm=true):zdT X (.builtin "all") (rAll X.K fun bs=>bs.all id):=by
 intro pins s σ H xs us Q I r h
 obtain⟨p,bs,rfl,hq,q⟩:=h
 obtain⟨u,rfl,ru⟩:=zgc r
 cases ru
 refine call_all_walk (zib (A:=X.A.in1) (I.ok.hd hc) I hq fun its s₂ St rv W st hfp fin=>?_)
 have hl:=rv.length
 rw[List.length_map]at hl
 refine⟨_,_,_,_,_,_,fun i=>(bs[i]?).getD true,rfl,W,st,fun i v s' Q' E' hP hQ=>?_,fun h' tk hk=>⟨.bl (bs.all id),H,fin h' tk hk,?_,q⟩⟩
 ·obtain⟨b,e,rfl⟩:=zkD rv hP
  simp only[e,Option.getD_some]at hQ
  exact wpAny_truthy_bool hQ
 ·rw[<-hl,LSm.range_all];rfl
noncomputable def dAll (f:List Bool->Bool):List D->Option D
 |[d]=>(zaG [d]).bind fun ds=>(zci ds).map fun bs=> .bl (f bs)
 |_=>none
theorem vc_all (f:List Bool->Bool):VC X (rAll X.K f) (dAll f):=by
 intro B G H σ ρ xs ds d Q I r hf k
 match ds,hf with
 |[a],hf=>
  obtain⟨es,e1,hf⟩:=zaa hf
  obtain⟨ns,e2,e3⟩:=zag hf
  subst e3
  obtain⟨x,rfl,ra⟩:=r.one
  obtain⟨p,ys,rfl,hq,ry⟩:=zh4 I ra e1
  rw[ze0 e2]at ry
  rw[RepL.bools_eq ry]at hq
  exact⟨p,ns,rfl,hq,k G H _ I (Fz.refl G) rfl⟩
 |[],hf=>cases hf
 |_::_::_,hf=>cases hf
theorem se_all {p pos:Pos}(hc:X.calm=true)(ml:X.mg "all"=none)(ha:SA X [e] ma)(hg:autoParam (Gl X "all") zu3._auto_1)(he:autoParam (starEach [e] X.env=(false,eval e X.env)::starEach [] X.env) zu3._auto_1):SE X (.Call (.Name "all" p) [e] [] pos) (mC (dAll fun bs=>bs.all id) ma):=
 zhi (zkm hc) (vc_all _) (by decide+kernel) ml ha hg (by decide) (by decide) he rfl
noncomputable def d2I (g:Int->Int->Int):List D->Option D
 |[.int i,.int j]=>some (.int (g i j))
 |_=>none
noncomputable def isI (T:String):D->Bool
 | .non=>false
 | .bl _=>T=="bool"||T=="int"
 | .int _=>T=="int"
 | .str _=>T=="str"
 | .lst _=>T=="list"
 | .tup _=>T=="tuple"
 | .scr _=>T=="list"
 | .exc _=>false
 | .dic _ _=>false
 | .dit _ _=>false
noncomputable def okT (T:String):Bool:=["int","bool","tuple","list","str"].contains T
noncomputable def eIsI (T:String)(ma:ME):ME:=fun ρ=>(ma ρ).bind fun p=>if okT T&&noS1 p.1 then some (.bl (isI T p.1),p.2)else none
where noS1:D->Bool
 | .scr _=>false
 | .exc _=>false
 | .dic _ _=>false
 | .dit _ _=>false
 |_=>true
noncomputable def cutD {α:Type}(xs:List α)(lo hi:Option Int):List α:=(xs.drop (HT.sIx xs.length 0 lo)).take (HT.sIx xs.length xs.length hi-HT.sIx xs.length 0 lo)
theorem RepL.cut (h:RepL K G xs ds)(lo hi:Option Int):RepL K G (cutV xs lo hi) (cutD ds lo hi):=by
 unfold cutV cutD
 rw[h.length]
 exact(h.drop _).take _
section
variable {prog:Program} {w:World} {A:Around} {E:Value->Shared->Prop} {s:Shared}
theorem zdd {t sl:Addr}{items:Array Value}{vl vu:Value}{lo hi:Option Int}(ht:IsTup s.heap t items)(hs:s.heap.IsSliceOf sl vl vu .none)(pl:IsPart vl lo)(pu:IsPart vu hi)
  (hw:HT.sIx items.size 0 lo=0/\HT.sIx items.size items.size hi=items.size) (h:Q (.ref t) s):wpAny (model prog w) A (getItem (.ref t) (.ref sl)) Q E s:=by
 obtain⟨os,hos,hcs,hds⟩:=id hs
 have hTs:s.TypeIs (.ref sl) "slice":=⟨os,hos,hcs⟩
 unfold getItem
 try with_reducible refine wpAny_holding ?_
 first|refine wpAny_bind (wpAny_pure ?_)|skip
 refine wpAny_bind (wpAny_sequenceKey ht.typeIs (by decide) ?_)
 refine wpAny_bind (wpAny_callSpecial?_slot (name:=Str.ofString "__getitem__") ht.typeIs PyProof.Rows.slot_tuple_getitem
  (wpAny_call_entry PyProof.Rows.slot_tuple_getitem ht.typeIs entry_tuple_getitem ?_ (args_tuple_getitem _ _)))
 show wpAny _ _ (Builtin.Tuple.tupleItemsOf (.ref t)>>=_) _ _ s
 refine wpAny_bind (tupleItemsOf_ ht ?_)
 refine wpAny_bind (wpAny_typeOf hTs ?_)
 rw[if_pos (by decide)]
 refine wpAny_bind (HT.zck hs pl pu ?_)
 have hyes:(((HT.sIx items.size 0 lo:Nat):Int)==0&&(1:Int)==1&&(HT.sIx items.size items.size hi-HT.sIx items.size 0 lo)==items.size)=true:=by
  rw[hw.1,hw.2];simp
 show wpAny _ _ (if(((HT.sIx items.size 0 lo:Nat):Int)==0&&(1:Int)==1&&(HT.sIx items.size items.size hi-HT.sIx items.size 0 lo)==items.size)=true then _ else _) _ _ s
 rw[if_pos hyes]
 refine wpAny_bind (m:=Builtin.Tuple.tupleIsExact _) ?_
 unfold Builtin.Tuple.tupleIsExact
 refine wpAny_bind (wpAny_typeOf ht.typeIs (wpAny_pure ?_))
 rw[if_pos (by decide)]
 refine wpAny_bind (wpAny_rule ?_)
 exact wpAny_pure ⟨_,rfl,wpAny_pure h⟩
end
noncomputable def rSlTW (K:W.Frag):V->Option Int->Option Int->Hp->VK->Prop:=fun x lo hi H Q=>∃a xs,x= .ref a/\SqT K H a xs/\(HT.sIx xs.length 0 lo=0/\HT.sIx xs.length xs.length hi=xs.length)/\Q (.ref a) H
theorem sl_tupW:SlR X (rSlTW X.K):=by
 intro pins s σ H x v vl vu lo hi sl Q I rx hs pl pu h
 obtain⟨a,xs,rfl,hx,hw,q⟩:=h
 cases rx
 obtain⟨its,r,ht,hz⟩:=I.tuple hx
 have hlen:its.toArray.size=xs.length:=by rw[List.size_toArray];exact r.length.symm
 refine⟨"tuple",_,PyProof.Rows.slot_tuple_getitem.lookup,ht.typeIs,?_⟩
 exact zdd ht hs pl pu (by rw[hlen];exact hw) ⟨.ref a,H,I,rfl,q⟩
noncomputable abbrev MP:=R->Option (Option Int×R)
noncomputable def SPt (X:Cx)(e:Option Expr)(m:MP):Prop:=∃t,PO X e t/\∀B G H σ ρ o ρ' (Q:Option Int->Hp->Prop),SI X.K B G H σ ρ->m ρ=some (o,ρ')->(∀G' H',SI X.K B G' H' σ ρ'->Fz G G'->Q o H')->t σ H Q
noncomputable def pNo:MP:=fun ρ=>some (none,ρ)
noncomputable def zen (m:ME):MP:=fun ρ=>(m ρ).bind fun p=>match p.1 with
 | .int i=>some (some i,p.2)
 |_=>none
theorem zkg:SPt X none pNo:=⟨_,po_none,fun B G H σ ρ o ρ' Q I hm k=>by cases hm;exact k G H I (Fz.refl G)⟩
theorem zch {m:ME}(h:SE X e m):SPt X (some e) (zen m):=by
 obtain⟨t,p,s⟩:=h
 refine⟨_,po_some p,fun B G H σ ρ o ρ' Q I hm k=>?_⟩
 obtain⟨⟨d,ρ1⟩,e1,hm⟩:=zaa hm
 refine s B G H σ ρ d ρ1 _ I e1 fun G1 H1 v I1 f1 r1=>?_
 cases d<;>try cases hm
 rename_i i
 exact⟨i,r1,k G1 H1 I1 f1⟩
noncomputable def dCut (d:D)(lo hi:Option Int):Option D:=match d with
 | .lst ds=>some (.lst (cutD ds lo hi))
 | .tup ds=>some (.tup (cutD ds lo hi))
 | .scr ns=>some (.lst ((cutD ns lo hi).map .int))
 |_=>none
noncomputable def eCut (ma:ME)(ml mh:MP):ME:=fun ρ=>(ma ρ).bind fun p=>(ml p.2).bind fun q=>(mh q.2).bind fun r=>(dCut p.1 q.1 r.1).map fun d=>(d,r.2)
theorem zko (ns:List Int)(lo hi:Option Int):cutV (ns.map V.int) lo hi=(cutD ns lo hi).map V.int:=by
 unfold cutV cutD
 rw[List.length_map,<-List.map_drop,<-List.map_take]
theorem zhF {lo hi:Option Expr}{ma:ME}{ml mh:MP}{pos p2:Pos}(he:SE X e ma)(hl:SPt X lo ml)(hu:SPt X hi mh):SE X (.Subscript e (.Slice lo hi none p2) pos) (eCut ma ml mh):=by
 obtain⟨ta,pa,sa⟩:=he
 obtain⟨tl,pl,sl⟩:=hl
 obtain⟨th,ph,sh⟩:=hu
 refine⟨_,pe_slice (sl_list.or (sl_tup.or sl_tupW)) pa pl ph,fun B G H σ ρ d ρ' Q I hm k=>?_⟩
 obtain⟨⟨x,ρ1⟩,e1,hm⟩:=zaa hm
 obtain⟨⟨l,ρ2⟩,e2,hm⟩:=zaa hm
 obtain⟨⟨u,ρ3⟩,e3,hm⟩:=zaa hm
 obtain⟨c,e4,e5⟩:=zag hm
 obtain⟨rfl,rfl⟩:=Prod.mk.inj e5
 refine sa B G H σ ρ x ρ1 _ I e1 fun G1 H1 v I1 f1 r1=>sl B G1 H1 σ ρ1 l ρ2 _ I1 e2 fun G2 H2 I2 f2=>sh B G2 H2 σ ρ2 u ρ3 _ I2 e3 fun G3 H3 I3 f3=>?_
 have r3:=r1.mono (f2.trans f3)
 dsimp only at e4
 cases x with
 |exc _=>cases e4
 |dic _ _=>cases e4
 |dit _ _=>cases e4
 |non=>cases e4
 |bl _=>cases e4
 |int _=>cases e4
 |str _=>cases e4
 |lst ds=>
  cases e4
  obtain⟨a,xs,rfl,ha,r⟩:=I3.lst r3
  refine .inl ⟨a,xs,rfl,SqL.of ha,fun p hp=>?_⟩
  obtain⟨I4,f4,r4⟩:=I3.newL hp (r.cut l u)
  exact k _ _ _ I4 (f1.trans (f2.trans (f3.trans f4))) r4
 |tup ds=>
  cases e4
  obtain⟨a,xs,rfl,ha,r⟩:=I3.tup r3
  by_cases hw:HT.sIx xs.length 0 l=0/\HT.sIx xs.length xs.length u=xs.length
  ·refine .inr (.inr ⟨a,xs,rfl,SqT.of ha,hw,?_⟩)
   have e:cutD ds l u=ds:=by
    unfold cutD
    rw[<-r.length,hw.1,hw.2,List.drop_zero,Nat.sub_zero,List.take_of_length_le (by rw[r.length];exact Nat.le_refl _)]
   rw[e]at k
   exact k G3 H3 _ I3 (f1.trans (f2.trans f3)) r3
  ·refine .inr (.inl ⟨a,xs,rfl,SqT.of ha,hw,fun p hp=>?_⟩)
   obtain⟨I4,f4,r4⟩:=I3.newT hp (r.cut l u)
   exact k _ _ _ I4 (f1.trans (f2.trans (f3.trans f4))) r4
 |scr ns=>
  cases e4
  obtain⟨a,rfl,ha⟩:=r3
  refine .inl ⟨a,_,rfl,I3.fz.sql ha,fun p hp=>?_⟩
  rw[zko]
  obtain⟨I4,f4,r4⟩:=I3.newL hp (RepL.ints (cutD ns l u))
  exact k _ _ _ I4 (f1.trans (f2.trans (f3.trans f4))) r4
theorem zek (h:aLen ma n):∀ρ as ρ',ma ρ=some (as,ρ')->as.length+1=n+1:=fun ρ as ρ' e=>congrArg (· +1) (h ρ as ρ' e)
section
variable {X:Cx} {elt iter tg:Expr} {ifs:List Expr} {scope:Scope} {pos lpos pos':Pos} {N:List Str} {cap:List Nat} {t:Nat} {mi:MA} {g:D->R->Option R} {mt:MT} {me:ME}
theorem zkb (i:Nat)(cap:List Nat)(t:Nat)(N:List Str)(hc:X.calm=true)(hi:SIt X tg iter mi)(hg:∀C s H fp,SG (cxC X N scope C s H fp) tg g)(ht:∀C s H fp,STs (cxC X N scope C s H fp) ifs mt)(he:∀C s H fp,SE (cxC X N scope C s H fp) elt me)(hN:X.N.Nodup)
    (hxi:autoParam (X.N[i]? =some x) zu3._auto_1) (hx:autoParam (Loc X.env.scope x) zu10._auto_1) (hf:autoParam (X.fn x=true\/X.env.scope.names.lookup x=some .local) zu10._auto_1)
    (hsw:autoParam (swapsWith (.ListComp elt [⟨tg,iter,ifs,0⟩] scope lpos) (some (.Name x pos')) pos.line X.env=pure true) zu3._auto_1)
    (hk:autoParam (scope.kind= .function) zu3._auto_1) (hb:autoParam (blkB X.env scope=true) zu11._auto_1) (hcap:autoParam (capB scope.names N X.N cap t=true) zu11._auto_1)
    (hs:autoParam (∀x,foldedSetIterable iter X.env x=pure x) zu9._auto_1):SS X (.Assign [.Name x pos'] (.ListComp elt [⟨tg,iter,ifs,0⟩] scope lpos) pos) (sSet i (eFz (oLC cap t mi g mt me))):=by
  obtain⟨wi,pi,si⟩:=hi
  refine⟨_,ps_setLC hN hxi hx hf hsw hc (zhL hk hb) (zhN hcap) pi (fun C s H fp=>(hg C s H fp).choose_spec.1) (fun C s H fp=>(ht C s H fp).choose_spec.1) (fun C s H fp=>(he C s H fp).choose_spec.1) hs,fun B G H σ ρ fl ρ' E I hm k=>?_⟩
  obtain⟨⟨d,ρ1⟩,e1,e3⟩:=zag hm
  obtain⟨⟨ds,ρ2⟩,e4,e5⟩:=zag e1
  obtain⟨rfl,rfl⟩:=Prod.mk.inj e5
  obtain⟨rfl,rfl⟩:=Prod.mk.inj e3
  refine zia si (fun C s H fp=>(hg C s H fp).choose_spec.2) (fun C s H fp=>(ht C s H fp).choose_spec.2) (fun C s H fp=>(he C s H fp).choose_spec.2) B G H σ ρ ds ρ2 _ I e4 fun G1 H1 l xs I1 f1 g1 h1 r1 b1 n1=>?_
  obtain⟨I2,f2,r2⟩:=zge I1 g1 h1 r1 b1 n1
  exact k _ H1 _ (I2.set r2) (f1.trans f2)
end
noncomputable def rRng1:List V->Hp->VK->Prop:=fun xs H Q=>∃j,xs=[.int j]/\∀p,H p=none->Q (.ref p) (upd H p (.rng 0 j))
theorem zjm:zdT X (.type "range") rRng1:=by
 intro pins s σ H xs us Q I r h
 obtain⟨j,rfl,q⟩:=h
 obtain⟨u,rfl,t,rfl⟩:=zgc r
 refine call_range_1 ⟨.ref s.heap.objs.size,_,I.laid (o:= .rng 0 j) (fun b o e=>Heap.get?_push_of_some _ e) (Nat.le_refl _) ⟨_,_,_,Heap.get?_push_size _ rfl⟩,rfl,q _ I.fresh⟩
noncomputable def rListR:List V->Hp->VK->Prop:=fun xs H Q=>∃p i j,xs=[.ref p]/\H p=some (.rng i j)/\(-(2^62)<=i/\i<2^62/\ -(2^62)<=j/\j<2^62)/\(j-i).toNat<=16777216/\∀l,H l=none->Q (.ref l) (upd H l (.lst ((List.range (j-i).toNat).map fun(k:Nat)=>V.int (i+k))))
theorem zil (hc:X.calm=true):zdT X (.type "list") rListR:=by
 intro pins s σ H xs us Q I r h
 obtain⟨p,i,j,rfl,hp,⟨h1,h2,h3,h4⟩,hz,q⟩:=h
 obtain⟨u,rfl,ru⟩:=zgc r
 cases ru
 obtain⟨t,t',t'',e⟩:=I.hok p _ hp
 refine call_list_range (a:=i) (b:=j) (c:=1) (t:=t) (u:=t') (v:=t'') (n:=(j-i).toNat) (I.ok.hd hc) e (small_one h1 h2 h3 h4) (by rw[rangeSize_one];split<;>lia) (by lia) fun h' tk acc' c' hk hl ⟨hs1,hs2⟩=>?_
 refine⟨.ref s.heap.objs.size,_,I.laid (h':=h') (t':=tk) (o:= .lst ((List.range (j-i).toNat).map fun(k:Nat)=>V.int (i+k))) hk (Nat.le_refl _) ⟨by rw[List.length_map,List.length_range,sizeLine_eq];exact hz,acc'.toList,c',?_,by simpa using hl⟩,rfl,q _ I.fresh⟩
 have key:∀(n:Nat) (l:List Value),l.length=n->(∀k v,l[k]? =some v->∃t,v=Value.int (i+(k:Nat)*1) t)->Vals ((List.range n).map fun(k:Nat)=>V.int (i+k)) l:=by
  intro n
  induction n with
  |zero=>intro l hl _;have:l=[]:=List.eq_nil_of_length_eq_zero hl;subst this;exact .nil
  |succ n ih=>
   intro l hl hv
   have e:l=l.take n++[l[n]'(by lia)]:=by
    rw[<-List.take_succ_eq_append_getElem (by lia),List.take_of_length_le (by lia)]
   rw[List.range_succ,List.map_append,e]
   refine Vals.append (ih (l.take n) (by rw[List.length_take];lia) fun k v hk=>?_) (.cons ?_ .nil)
   ·have hkn:k<n:=by
     have:=(List.getElem?_eq_some_iff.mp hk).1
     rw[List.length_take]at this;lia
    rw[List.getElem?_take_of_lt hkn]at hk
    exact hv k v hk
   ·obtain⟨t,ht⟩:=hv n _ (List.getElem?_eq_getElem (by lia))
    exact⟨t,by rw[ht,Int.mul_one]⟩
 exact key _ acc'.toList (by rw[Array.length_toList];exact hs1) fun k v hk=>hs2 k v (by simpa using hk)
theorem zim (i:Int)(n:Nat):RepL K G ((List.range n).map fun(k:Nat)=>V.int (i+k)) (zbo i n):=by
 have e1:((List.range n).map fun(k:Nat)=>V.int (i+k))=((List.range n).map fun(k:Nat)=>i+(k:Int)).map V.int:=by rw[List.map_map];rfl
 have e2:zbo i n=((List.range n).map fun(k:Nat)=>i+(k:Int)).map D.int:=by unfold zbo;rw[List.map_map];rfl
 rw[e1,e2]
 exact RepL.ints _
noncomputable def oR (m:MA):MO:=fun ρ=>(m ρ).bind fun p=>if p.1.length<=16777216 then some p else none
end M
namespace M
open L2 PySem
@[simp] theorem atI_nat' {α:Type} (xs:List α) (i:Nat):atI xs (i:Int)=xs[i]?:=by
 unfold atI ixN
 rw[if_pos (by lia)]
 by_cases h:i<xs.length
 ·rw[if_pos (by lia)];simp
 ·rw[if_neg (by lia)];simp[List.getElem?_eq_none (by lia:xs.length<=i)]
end M
namespace M
open L2 PyProof.Rows PySem PySem.Spec
noncomputable def zdf {α:Type}(xs:List α)(lo hi st:Option Int):List α:=
 (sliceRange (sliceBounds lo hi st xs.length).1 (sliceBounds lo hi st xs.length).2.1 (sliceBounds lo hi st xs.length).2.2).filterMap (xs[·]?)
theorem zd2 (its:List Value)(lo hi st:Option Int):slicePick its.toArray lo hi st=(zdf its lo hi st).toArray:=by
 unfold slicePick zdf
 simp
theorem zgf {xs:List V}{its:List Value}(h:xs.length=its.length)(lo hi st:Option Int):(zdf its lo hi st).length<=xs.length:=by
 have:=slicePick_size_le its.toArray lo hi st
 rw[zd2]at this
 simpa[h]using this
theorem picks {its:List Value}{xs:List V}(r:Vals xs its):∀js:List Nat,Vals (js.filterMap (xs[·]?)) (js.filterMap (its[·]?))
 |[]=> .nil
 |j::js=>by
  have hl:=r.length
  by_cases h:j<xs.length
  ·have h2:j<its.length:=by lia
   obtain⟨u,e1,e2⟩:=r.get (List.getElem?_eq_getElem h)
   rw[List.filterMap_cons,List.filterMap_cons,List.getElem?_eq_getElem h,e1]
   exact .cons e2 (picks r js)
  ·rw[List.filterMap_cons,List.filterMap_cons,List.getElem?_eq_none (by lia),List.getElem?_eq_none (by lia)]
   exact picks r js
section
variable {X:Cx} {e st:Expr} {lo hi:Option Expr} {te:TE} {tl th ts:TO} {p2 pos:Pos}
theorem ziC (he:PE X e te)(hl:PO X lo tl)(hu:PO X hi th)(hst:PO X (some st) ts):PE X (.Subscript e (.Slice lo hi (some st) p2) pos)
  (fun σ H Q=>te σ H fun x H1=>tl σ H1 fun l H2=>th σ H2 fun u H3=>ts σ H3 fun c H4=>∃a xs,x= .ref a/\SqL X.K H4 a xs/\c≠some 0/\∀p,H4 p=none->Q (.ref p) (upd H4 p (.lst (zdf xs l u c)))):=by
 intro pins s σ H Q I h
 refine Subscript_ (thn (he pins s σ H _ I h) fun v s1 ⟨x,H1,I1,r1,q1⟩=>?_)
 refine wpAny_Slice (thn (hl pins s1 σ H1 _ I1 q1) fun vl s2 ⟨l,H2,I2,pl,q2⟩=>thn (hu pins s2 σ H2 _ I2 q2) fun vu s3 ⟨u,H3,I3,pu,q3⟩=>thn (hst pins s3 σ H3 _ I3 q3) fun vs s4 ⟨c,H4,I4,pc,q4⟩=>?_)
 have I5:Inv X pins σ H4 {s4 with heap:=s4.heap.push {cls:= .type "slice",data:= .fields #[vl,vu,vs]}}:=I4.kept (t':=s4.toks) fun b ob q=>Heap.get?_push_of_some _ q
 obtain⟨a,xs,rfl,hx,h0,q⟩:=q4
 cases r1
 obtain⟨its,r,ht,hz⟩:=I5.list hx
 have hlen:=r.length
 have hg:wpAny (model X.prog X.w) X.A (getItem (.ref a) (.ref s4.heap.objs.size)) (EP X pins σ Q) X.xe {s4 with heap:=s4.heap.push {cls:= .type "slice",data:= .fields #[vl,vu,vs]}}:=by
  refine wpAny_getItem_list_slice ht.isList (Heap.IsSliceOf.new ..) pl pu pc h0 ?_ (by rw[List.size_toArray]<;>lia)
  rw[zd2]
  refine⟨.ref _,_,I5.laid (t':=s4.toks) (o:= .lst (zdf xs l u c)) (fun b ob q=>Heap.get?_push_of_some _ q) (Nat.le_refl _) ?_,rfl,q _ (I5.hok.fresh (Nat.le_refl _))⟩
  refine⟨?_,_,0,?_,Heap.get?_push_size _ rfl⟩
  ·have:=zgf hlen l u c
   have e2:(zdf xs l u c).length=(zdf its l u c).length:=by
    unfold zdf;rw[hlen];exact(picks r _).length
   lia
  ·unfold zdf;rw[hlen];exact picks r _
 show wpAny (model X.prog X.w) X.A (subscriptTail e (.Slice lo hi (some st) p2) (.ref a) (.ref s4.heap.objs.size)) (EP X pins σ Q) X.xe {s4 with heap:=s4.heap.push {cls:= .type "slice",data:= .fields #[vl,vu,vs]}}
 exact tail_any (ops:=[.ref a,.ref s4.heap.objs.size]) ht.isList.typeIs slot_list_getitem.lookup hg (by with_unfolding_all rfl)
end
end M
namespace M
open L2 PySem PySem.Spec
open PyProof.Rows hiding St
noncomputable def cntS (lo hi st:Int):Nat:=if lo<hi then((hi-lo-1)/st+1).toNat else 0
theorem zh9 {lo hi st:Int}(h:0<st):((cntS lo hi st:Nat):Int)=Builtin.Range.rangeSize lo hi st:=by
 unfold cntS Builtin.Range.rangeSize
 rw[if_pos h]
 split
 ·have:0<=(hi-lo-1)/st:=Int.ediv_nonneg (by lia) (by lia)
  lia
 ·rfl
theorem small_st {a b c:Int}(ha: -(2^60)<=a)(ha':a<2^60)(hb: -(2^60)<=b)(hb':b<2^60)(hc:0<c)(hc':c<1073741824):Builtin.Range.small a b c=true:=by
 have h1:=zh9 (lo:=a) (hi:=b) hc
 have h2:Builtin.Range.rangeSize a b c<=2^62:=by
  unfold Builtin.Range.rangeSize
  rw[if_pos hc]
  split
  ·have:(b-a-1)/c<=b-a-1:=Int.ediv_le_self _ (by lia)
   lia
  ·lia
 have h3:0<=Builtin.Range.rangeSize a b c:=by rw[<-h1];lia
 unfold Builtin.Range.small
 simp only[Builtin.Range.rangeFitsLong,Bool.and_eq_true,Bool.or_eq_true,decide_eq_true_eq,beq_iff_eq,show c>0 from hc,if_true]
 generalize Builtin.Range.rangeSize a b c=z at*
 lia
noncomputable def zfu (lo st:Int)(n:Nat):List D:=(List.range n).map fun(i:Nat)=>D.int (lo+(i:Int)*st)
noncomputable def iR3 (ma:MA):MA:=fun ρ=>(ma ρ).bind fun p=>match p.1 with
 |[.int i,.int j,.int k]=>if zbu i&&zbu j&&decide (0<k)&&decide (k<1073741824)then some (zfu i k (cntS i j k),p.2)else none
 |_=>none
theorem zfR {j:Int}(h:zbu j=true): -(2^60)<=j/\j<2^60:=by
 unfold zbu at h
 simp only[Bool.and_eq_true,decide_eq_true_eq]at h
 lia
end M
namespace M
open L2 PySem PySem.Spec
open PyProof.Rows hiding St
open Sem (wp)
variable {b N i:Nat} {a it l:Addr} {t:Bool} {h h':Heap} {is xs:Array Value} {Q:Value->Shared->Prop}
theorem nin2 {b x y z:Nat}(h:b∈[x,y])(h1:x≠z)(h2:y≠z):b≠z:=by
 simp at h
 rcases h with rfl|rfl<;>assumption
theorem nA {N a b:Nat}(h:a≠b):N+a≠N+b:=fun e=>h (Nat.add_left_cancel e)
theorem nB (h:0≠b):N≠N+b:=fun e=>h (Nat.add_left_cancel (show N+0=N+b from e))
theorem nC (h:b≠0):N+b≠N:=fun e=>h (Nat.add_left_cancel (show N+b=N+0 from e))
theorem nL {a N b:Nat}(h:a<N):a≠N+b:=Nat.ne_of_lt (Nat.lt_of_lt_of_le h (Nat.le_add_right _ _))
theorem ne_ {a b:Nat}(h:a≠b):a≠b:=h
local macro_rules | `(tactic| ac_rfl) => `(tactic| first | exact M.nA (by decide) | exact M.nB (by decide) | exact M.nC (by decide) | exact M.nL (by assumption) | exact Nat.ne_of_lt (by assumption) | lia)
noncomputable def SrcIt:Bool->Heap->Addr->Addr->Nat->Prop
 |true,h,it,a,i=>h.IsTupleIter it a i
 |false,h,it,a,i=>h.IsListIter it a i
noncomputable def SrcH:Bool->Heap->Addr->Array Value->Prop
 |true,h,a,its=>h.IsTuple a its
 |false,h,a,its=>h.IsList a its
theorem SrcIt.at (x:SrcIt t h it a i)(e:∀o,h.get? it=some o->h'.get? it=some o):SrcIt t h' it a i:=by
 cases t
 ·exact Heap.IsListIter.at x e
 ·exact Heap.IsTupleIter.at x e
theorem SrcH.at (x:SrcH t h a is)(e:∀o,h.get? a=some o->h'.get? a=some o):SrcH t h' a is:=by
 cases t
 ·exact Heap.IsList.at x e
 ·obtain⟨o,ho,r⟩:=x;exact⟨o,e _ ho,r⟩
theorem SrcIt.obj (x:SrcIt t h it a i):∃o,h.get? it=some o/\∀v,o.data≠ .cell v:=by
 cases t<;>(obtain⟨o,e,c,d⟩:=x;exact⟨o,e,fun v z=>by rw[d]at z;cases z⟩)
theorem SrcH.lt (x:SrcH t h a is):a<h.objs.size:=by
 cases t<;>(obtain⟨o,e,_⟩:=x;exact Heap.lt_size e)
section
variable {prog:Program} {w:World} {A:Around} {E:Value->Shared->Prop} {s:Shared}
theorem zhq {items}(hit:s.heap.IsTupleIter it l i)(hl:s.heap.IsTuple l items)
  (k : (∃ x, items[i]? = some x /\ ∀ h', h'.IsTupleIter it l (i + 1) -> Heap.SameBut it s.heap h' -> Q x { s with heap := h' }) \/
   (items[i]? =none/\A.handled=none/\∀h' e,Heap.ExtBut it s.heap h'->(∃o,h'.get? e=some o/\o.cls= .type "StopIteration")->E (.ref e) {s with heap:=h'})):
  wpAny (model prog w) A (Builtin.SmallTypes.nextOf (.ref it)) Q E s:=by
 obtain⟨o,ho,hc,hd⟩:=id hit
 obtain⟨ol,hol,-,nl,hdl⟩:=hl
 have ne:¬((Value.ref l==Value.none)=true):=Bool.false_ne_true
 unfold Builtin.SmallTypes.nextOf
 refine wpAny_bind (wpAny_callSpecial?_slot (name:=Str.ofString "__next__") hit.typeIs slot_tupleiter_next (wpAny_call_entry slot_tupleiter_next hit.typeIs entry_tupleiter_next ?_ (args_tupleiter_next _)))
 refine(?_:wpAny _ _ (field (.ref it) 0>>=_) _ _ s)
 refine wpAny_bind (wpAny_field ho hd (x:= .ref l) rfl (?_:wpAny _ _ (if(Value.ref l==Value.none)=true then _ else _) _ _ s))
 rw[if_neg ne]
 refine(?_:wpAny _ _ (field (.ref it) 1>>=_) _ _ s)
 refine wpAny_bind (wpAny_field ho hd (x:= .int i 0) rfl (?_:wpAny _ _ (seqItems? (.ref l)>>=_) _ _ s))
 refine wpAny_bind (wpAny_seqItems hol hdl ?_)
 rcases k with⟨x,hx,k⟩|⟨hx,hh,k⟩<;>simp only[Int.toNat_natCast,hx]
 ·have upd:∀h':Heap,h'.get? it=some (o.mapFields fun a=>a.setIfInBounds 1 (rawInt (((i:Nat):Int)+1)))->h'.IsTupleIter it l (i+1):=fun h' e=>⟨_,e,(Obj.cls_mapFields ..).trans hc,by rw[Obj.data_mapFields hd];simp[rawInt]⟩
  refine wpAny_bind (wpAny_setField ho hd (by simp) (wpAny_pure ⟨x,rfl,wpAny_pure (k _ ?_ (Heap.SameBut.update ..))⟩))
  refine⟨_,Heap.get?_update_self _ ho (Obj.isFreed_of_fields (Obj.data_mapFields hd _)),(Obj.cls_mapFields ..).trans hc,?_⟩
  rw[Obj.data_mapFields hd]
  simp[rawInt]
 ·refine wpAny_bind (wpAny_rule (wpAny_bind (wpAny_setField ho hd (by simp) (?_:wpAny _ _ (newExc (.type "StopIteration") []>>=_) _ _ _))))
  refine wpAny_bind ?_
  simp only[newExc,newTuple]
  refine wpAny_bind (wpAny_newObj_type (wpAny_bind (m:=firstArgMember _ _) (wpAny_of_eq (a:=Value.none) (by first|rfl|(simp only[firstArgMember];rfl)) (wpAny_newObj_type ?_ (by size_fits)))) (by size_fits))
  simp only[raiseNew]
  refine wpAny_bind (wpAny_handled ?_)
  first|rw[show A.in1.handled=none from hh]|rw[hh]
  exact wpAny_bind (wpAny_pure (wpAny_throw (k _ _ (((Heap.SameBut.update ..).extBut.push _).push _) ⟨_,Heap.get?_push_size _ rfl,rfl⟩)))
theorem zbm (hh:A.handled=none)(it l:Addr)(hne:l≠it)(items:Array Value):Draws prog w A it [it,l] items.size (fun i v=>items[i]? =some v) (fun i h=>SrcIt t h it l i/\SrcH t h l items):=by
 cases t
 ·exact Draws.list hh it l hne items
 ·refine⟨fun _ _ st=>?_,fun _ _ _ st hk=>⟨SrcIt.at st.1 fun o e=>hk it (by simp) o e,SrcH.at st.2 fun o e=>hk l (by simp) o e⟩,fun i s Q E hi st hQ=>?_,fun s Q E st hE=>zhq st.1 st.2 (.inr ⟨by simp,hh,hE⟩)⟩
  ·obtain⟨o,e,-⟩:=SrcIt.obj st.1
   exact⟨o,e⟩
  ·exact zhq st.1 st.2 (.inl ⟨items[i],by simp[hi],fun h' a b=>hQ _ h' s.toks (by simp[hi]) ⟨a,SrcH.at st.2 fun o e=>(b.2 l hne).trans e⟩ b⟩)
noncomputable def srcO (t:Bool)(a:Addr):Obj:={cls:= .type (if t then "tuple_iterator" else "list_iterator"),data:= .fields #[.ref a,.int 0 0]}
theorem zfA (e:h.get? it=some (srcO t a)):SrcIt t h it a 0:=by
 cases t<;>exact⟨_,e,rfl,rfl⟩
theorem zdF (t:Bool)(a:Addr):(srcO t a).isFreed=false:=by cases t<;>rfl
theorem zb5 {items}(hl:SrcH t s.heap a items)(hQ:Q (.ref s.heap.objs.size) {s with heap:=s.heap.push (srcO t a)}):
  wpAny (model prog w) A (pyIter (.ref a)) Q E s:=by
 cases t
 ·exact wpAny_pyIter_list hl hQ
 ·exact wpAny_pyIter_tuple hl hQ
noncomputable abbrev zbU (h:Heap)(T:Addr)(a b c:Value):Prop:=h.get? T=some {cls:= .type "tuple",data:= .seq #[a,b,c]}
theorem zet {T:Addr}{a b c x:Value}{k:Nat}{Q:Unit->Shared->Prop}(hT:zbU s.heap T a b c)
  (h:∀h',h'.get? T=some {cls:= .type "tuple",data:= .seq ((#[a,b,c]:Array Value).setIfInBounds k x)}->Heap.SameBut T s.heap h'->Q () {s with heap:=h'}):
  wpAny (model prog w) A (updateSeq T (·.setIfInBounds k x)) Q E s:=
 wpAny_updateSeq hT rfl (h _ (by rw[Heap.get?_update_self _ hT rfl];simp[Obj.mapSeq]) (Heap.SameBut.update ..))
section
variable {N a1 a2 a3:Nat} {n1 n2 n3:Nat} {P1 P2 P3:Nat->Value->Prop} {S1 S2 S3:Nat->Heap->Prop}
theorem zj3 {a b c:Value}(D1:Draws prog w A N [N,a1] n1 P1 S1)(D2:Draws prog w A (N+1) [N+1,a2] n2 P2 S2)(D3:Draws prog w A (N+2) [N+2,a3] n3 P3 S3)(l1:a1<N)(l2:a2<N)(l3:a3<N)
  (hz:IsZip s.heap (N+5) (N+3) (N+4) .none) (hTI:zbU s.heap (N+3) (.ref N) (.ref (N+1)) (.ref (N+2))) (hTO:zbU s.heap (N+4) a b c) (h1:S1 i s.heap) (h2:S2 i s.heap) (h3:S3 i s.heap) (i1:i<n1) (i2:i<n2) (i3:i<n3)
  (k : ∀ x y z h' tk, P1 i x -> P2 i y -> P3 i z -> IsZip h' (N + 5) (N + 3) (N + 4) (rawInt s.heap.objs.size) -> zbU h' (N + 4) x y z -> S1 (i + 1) h' -> S2 (i + 1) h' -> S3 (i + 1) h' -> zbU h' s.heap.objs.size x y z ->
   (∀c o,c≠N->c≠N+1->c≠N+2->c≠N+4->c≠N+5->s.heap.get? c=some o->h'.get? c=some o)->Q (.ref s.heap.objs.size) {s with heap:=h',toks:=tk}):
  wpAny (model prog w) A (Builtin.«zip.__next__» ⟨[.ref (N+5)],[]⟩) (fun fin s'=>∃v,fin= .done (.ret v)/\Q v s') E s:=by
 refine(?_:wpAny _ _ (field (.ref (N+5)) 2>>=_) _ _ _)
 refine wpAny_bind (wpAny_field hz rfl (x:= .bool false) rfl (?_:wpAny _ _ (field (.ref (N+5)) 3>>=_) _ _ _))
 refine wpAny_bind (wpAny_field hz rfl (x:= .ref (N+3)) rfl (wpAny_bind (wpAny_seqItems hTI rfl (?_:wpAny _ _ (Builtin.SmallTypes.ownedTupleIsFree (.ref (N+5))>>=_) _ _ _))))
 refine wpAny_bind ?_
 unfold Builtin.SmallTypes.ownedTupleIsFree
 refine wpAny_bind (wpAny_field hz rfl (x:= .none) rfl (wpAny_pure ?_))
 simp only[if_true]
 refine wpAny_bind (wpAny_rule (wpAny_bind (wpAny_field hz rfl (x:= .ref (N+4)) rfl (wpAny_bind (wpAny_setField_rec hz (by simp) fun g1 z1 s1=>wpAny_bind ?_)))))
 replace z1:IsZip g1 (N+5) (N+3) (N+4) .ellipsis:=z1
 simp only[List.zipIdx_cons,List.zipIdx_nil,List.forIn_cons,List.forIn_nil]
 refine wpAny_bind (wpAny_bind (wpAny_onRaise (?_:wpAny _ _ (Builtin.SmallTypes.nextOf (.ref N)>>=_) _ _ _)))
 have e1:S1 i g1:=D1.frame _ _ _ h1 fun b hb o e=>(s1.2 b (nin2 hb (by ac_rfl) (by ac_rfl))).trans e
 refine wpAny_bind (D1.item i _ _ _ i1 e1 fun x g2 t2 p1 f2 s2=>wpAny_pure ?_)
 have q2:zbU g2 (N+4) a b c:=(s2.2 _ (ne_ (by ac_rfl))).trans ((s1.2 _ (ne_ (by ac_rfl))).trans hTO)
 refine wpAny_bind (wpAny_seqItems q2 rfl (wpAny_bind (zet q2 fun g3 q3 s3=>wpAny_bind (wpAny_letGo (wpAny_pure ?_)))))
 replace q3:zbU g3 (N+4) x b c:=q3
 have k3:∀d o,d≠N->d≠N+4->d≠N+5->s.heap.get? d=some o->g3.get? d=some o:=fun d o c1 c2 c3 e=>(s3.2 d c2).trans ((s2.2 d c1).trans ((s1.2 d c3).trans e))
 refine wpAny_bind (wpAny_bind (wpAny_onRaise (?_:wpAny _ _ (Builtin.SmallTypes.nextOf (.ref (N+1))>>=_) _ _ _)))
 have e3:S2 i g3:=D2.frame _ _ _ h2 fun b hb o e=>k3 b o (nin2 hb (by ac_rfl) (by ac_rfl)) (nin2 hb (by ac_rfl) (by ac_rfl)) (nin2 hb (by ac_rfl) (by ac_rfl)) e
 refine wpAny_bind (D2.item i _ _ _ i2 e3 fun y g4 t4 p2 f4 s4=>wpAny_pure ?_)
 have q4:zbU g4 (N+4) x b c:=(s4.2 _ (ne_ (by ac_rfl))).trans q3
 refine wpAny_bind (wpAny_seqItems q4 rfl (wpAny_bind (zet q4 fun g5 q5 s5=>wpAny_bind (wpAny_letGo (wpAny_pure ?_)))))
 replace q5:zbU g5 (N+4) x y c:=q5
 refine wpAny_bind (wpAny_bind (wpAny_onRaise (?_:wpAny _ _ (Builtin.SmallTypes.nextOf (.ref (N+2))>>=_) _ _ _)))
 have e5:S3 i g5:=D3.frame _ _ _ h3 fun b hb o e=>(s5.2 b (nin2 hb (by ac_rfl) (by ac_rfl))).trans ((s4.2 b (nin2 hb (by ac_rfl) (by ac_rfl))).trans (k3 b o (nin2 hb (by ac_rfl) (by ac_rfl)) (nin2 hb (by ac_rfl) (by ac_rfl)) (nin2 hb (by ac_rfl) (by ac_rfl)) e))
 refine wpAny_bind (D3.item i _ _ _ i3 e5 fun z g6 t6 p3 f6 s6=>wpAny_pure ?_)
 have q6:zbU g6 (N+4) x y c:=(s6.2 _ (ne_ (by ac_rfl))).trans q5
 refine wpAny_bind (wpAny_seqItems q6 rfl (wpAny_bind (zet q6 fun g7 q7 s7=>wpAny_bind (wpAny_letGo (wpAny_pure (wpAny_pure ?_))))))
 replace q7:zbU g7 (N+4) x y z:=q7
 have sz:g7.objs.size=s.heap.objs.size:=by rw[s7.1,s6.1,s5.1,s4.1,s3.1,s2.1,s1.1]
 have z7:IsZip g7 (N+5) (N+3) (N+4) .ellipsis:=(s7.2 _ (ne_ (by ac_rfl))).trans ((s6.2 _ (ne_ (by ac_rfl))).trans ((s5.2 _ (ne_ (by ac_rfl))).trans ((s4.2 _ (ne_ (by ac_rfl))).trans ((s3.2 _ (ne_ (by ac_rfl))).trans ((s2.2 _ (ne_ (by ac_rfl))).trans z1)))))
 have zl:(N+5:Nat)<g7.objs.size:=Heap.lt_size z7
 have k7:∀d o,d≠N->d≠N+1->d≠N+2->d≠N+4->d≠N+5->s.heap.get? d=some o->g7.get? d=some o:=fun d o c1 c2 c3 c4 c5 e=>(s7.2 d c4).trans ((s6.2 d c3).trans ((s5.2 d c4).trans ((s4.2 d c2).trans (k3 d o c1 c4 c5 e))))
 have f7:S1 (i+1) g7:=D1.frame _ _ _ f2 fun b hb o e=>(s7.2 b (nin2 hb (by ac_rfl) (by ac_rfl))).trans ((s6.2 b (nin2 hb (by ac_rfl) (by ac_rfl))).trans ((s5.2 b (nin2 hb (by ac_rfl) (by ac_rfl))).trans ((s4.2 b (nin2 hb (by ac_rfl) (by ac_rfl))).trans ((s3.2 b (nin2 hb (by ac_rfl) (by ac_rfl))).trans e))))
 have f7':S2 (i+1) g7:=D2.frame _ _ _ f4 fun b hb o e=>(s7.2 b (nin2 hb (by ac_rfl) (by ac_rfl))).trans ((s6.2 b (nin2 hb (by ac_rfl) (by ac_rfl))).trans ((s5.2 b (nin2 hb (by ac_rfl) (by ac_rfl))).trans e))
 have f7'':S3 (i+1) g7:=D3.frame _ _ _ f6 fun b hb o e=>(s7.2 b (nin2 hb (by ac_rfl) (by ac_rfl))).trans e
 refine wpAny_bind (wpAny_seqItems q7 rfl (wpAny_bind (wpAny_newTuple (?_:wpAny _ _ (Builtin.SmallTypes.ownedTupleHandOut (.ref (N+5)) (.ref g7.objs.size)>>=_) _ _ _))))
 refine wpAny_bind ?_
 unfold Builtin.SmallTypes.ownedTupleHandOut
 refine wpAny_bind (wpAny_setField_rec (show IsZip (g7.push {cls:= .type "tuple",data:= .seq #[x,y,z]}) (N+5) (N+3) (N+4) .ellipsis from Heap.get?_push_of_some _ z7) (by simp) fun g9 z9 s9=>?_)
 replace z9:IsZip g9 (N+5) (N+3) (N+4) (rawInt g7.objs.size):=z9
 refine wpAny_setField_rec z9 (by simp) fun g8 z8 s8=>wpAny_pure ⟨_,rfl,?_⟩
 replace z8:IsZip g8 (N+5) (N+3) (N+4) (rawInt g7.objs.size):=z8
 have up:∀c o,c≠N+5->g7.get? c=some o->g8.get? c=some o:=fun c o c1 e=>(s8.2 c c1).trans ((s9.2 c c1).trans (Heap.get?_push_of_some _ e))
 have T8:zbU g8 g7.objs.size x y z:=(s8.2 _ (ne_ (by ac_rfl))).trans ((s9.2 _ (ne_ (by ac_rfl))).trans (Heap.get?_push_size _ rfl))
 rw[sz]at z8 T8
 refine(?_:Q (.ref g7.objs.size) _)
 rw[sz]
 exact k x y z g8 _ p1 p2 p3 z8 (up _ _ (ne_ (by ac_rfl)) q7) (D1.frame _ _ _ f7 fun b hb o e=>up b o (nin2 hb (by ac_rfl) (by ac_rfl)) e) (D2.frame _ _ _ f7' fun b hb o e=>up b o (nin2 hb (by ac_rfl) (by ac_rfl)) e) (D3.frame _ _ _ f7'' fun b hb o e=>up b o (nin2 hb (by ac_rfl) (by ac_rfl)) e) T8 fun c o c1 c2 c3 c4 c5 e=>up c o c5 (k7 c o c1 c2 c3 c4 c5 e)
theorem zip3_end {a b c:Value}{Q:Fin->Shared->Prop}(D1:Draws prog w A N [N,a1] n1 P1 S1)(D2:Draws prog w A (N+1) [N+1,a2] n2 P2 S2)(D3:Draws prog w A (N+2) [N+2,a3] n3 P3 S3)(l1:a1<N)(l2:a2<N)(l3:a3<N)
  (hz:IsZip s.heap (N+5) (N+3) (N+4) .none) (hTI:zbU s.heap (N+3) (.ref N) (.ref (N+1)) (.ref (N+2))) (hTO:zbU s.heap (N+4) a b c) (h1:S1 i s.heap) (h2:S2 i s.heap) (h3:S3 i s.heap) (hi:i=n1\/(i<n1/\(i=n2\/(i<n2/\i=n3))))
  (k:∀h' e tk,(∀c o,c≠N->c≠N+1->c≠N+2->c≠N+4->c≠N+5->s.heap.get? c=some o->h'.get? c=some o)->(∃o,h'.get? e=some o/\o.cls= .type "StopIteration")->E (.ref e) {s with heap:=h',toks:=tk}):
  wpAny (model prog w) A (Builtin.«zip.__next__» ⟨[.ref (N+5)],[]⟩) Q E s:=by
 refine(?_:wpAny _ _ (field (.ref (N+5)) 2>>=_) _ _ _)
 refine wpAny_bind (wpAny_field hz rfl (x:= .bool false) rfl (?_:wpAny _ _ (field (.ref (N+5)) 3>>=_) _ _ _))
 refine wpAny_bind (wpAny_field hz rfl (x:= .ref (N+3)) rfl (wpAny_bind (wpAny_seqItems hTI rfl (?_:wpAny _ _ (Builtin.SmallTypes.ownedTupleIsFree (.ref (N+5))>>=_) _ _ _))))
 refine wpAny_bind ?_
 unfold Builtin.SmallTypes.ownedTupleIsFree
 refine wpAny_bind (wpAny_field hz rfl (x:= .none) rfl (wpAny_pure ?_))
 simp only[if_true]
 refine wpAny_bind (wpAny_rule (wpAny_bind (wpAny_field hz rfl (x:= .ref (N+4)) rfl (wpAny_bind (wpAny_setField_rec hz (by simp) fun g1 z1 s1=>wpAny_bind ?_)))))
 replace z1:IsZip g1 (N+5) (N+3) (N+4) .ellipsis:=z1
 simp only[List.zipIdx_cons,List.zipIdx_nil,List.forIn_cons,List.forIn_nil]
 refine wpAny_bind (wpAny_bind (wpAny_onRaise (?_:wpAny _ _ (Builtin.SmallTypes.nextOf (.ref N)>>=_) _ _ _)))
 have e1:S1 i g1:=D1.frame _ _ _ h1 fun b hb o e=>(s1.2 b (nin2 hb (by ac_rfl) (by ac_rfl))).trans e
 rcases hi with rfl|⟨i1,hi⟩
 ·refine wpAny_bind (D1.done _ _ _ e1 fun g2 e x2 he=>?_)
  obtain⟨oe,hoe,hce⟩:=he
  have z2:IsZip g2 (N+5) (N+3) (N+4) .ellipsis:=x2 _ _ (ne_ (by ac_rfl)) z1
  have hez:e≠N+5:=fun x=>by subst x;rw[z2]at hoe;cases hoe;simp at hce
  exact wpAny_setField_rec z2 (by simp) fun g3 _ s3=>k g3 e _ (fun c o c1 c2 c3 c4 c5 x=>(s3.2 c c5).trans (x2 c o c1 ((s1.2 c c5).trans x))) ⟨oe,(s3.2 _ hez).trans hoe,hce⟩
 refine wpAny_bind (D1.item i _ _ _ i1 e1 fun x g2 t2 p1 f2 s2=>wpAny_pure ?_)
 have q2:zbU g2 (N+4) a b c:=(s2.2 _ (ne_ (by ac_rfl))).trans ((s1.2 _ (ne_ (by ac_rfl))).trans hTO)
 refine wpAny_bind (wpAny_seqItems q2 rfl (wpAny_bind (zet q2 fun g3 q3 s3=>wpAny_bind (wpAny_letGo (wpAny_pure ?_)))))
 replace q3:zbU g3 (N+4) x b c:=q3
 have k3:∀d o,d≠N->d≠N+4->d≠N+5->s.heap.get? d=some o->g3.get? d=some o:=fun d o c1 c2 c3 e=>(s3.2 d c2).trans ((s2.2 d c1).trans ((s1.2 d c3).trans e))
 have z3:IsZip g3 (N+5) (N+3) (N+4) .ellipsis:=(s3.2 _ (ne_ (by ac_rfl))).trans ((s2.2 _ (ne_ (by ac_rfl))).trans z1)
 refine wpAny_bind (wpAny_bind (wpAny_onRaise (?_:wpAny _ _ (Builtin.SmallTypes.nextOf (.ref (N+1))>>=_) _ _ _)))
 have e3:S2 i g3:=D2.frame _ _ _ h2 fun b hb o e=>k3 b o (nin2 hb (by ac_rfl) (by ac_rfl)) (nin2 hb (by ac_rfl) (by ac_rfl)) (nin2 hb (by ac_rfl) (by ac_rfl)) e
 rcases hi with rfl|⟨i2,rfl⟩
 ·refine wpAny_bind (D2.done _ _ _ e3 fun g4 e x4 he=>?_)
  obtain⟨oe,hoe,hce⟩:=he
  have z4:IsZip g4 (N+5) (N+3) (N+4) .ellipsis:=x4 _ _ (ne_ (by ac_rfl)) z3
  have hez:e≠N+5:=fun x=>by subst x;rw[z4]at hoe;cases hoe;simp at hce
  exact wpAny_setField_rec z4 (by simp) fun g5 _ s5=>k g5 e _ (fun c o c1 c2 c3 c4 c5 x=>(s5.2 c c5).trans (x4 c o c2 (k3 c o c1 c4 c5 x))) ⟨oe,(s5.2 _ hez).trans hoe,hce⟩
 refine wpAny_bind (D2.item i _ _ _ i2 e3 fun y g4 t4 p2 f4 s4=>wpAny_pure ?_)
 have q4:zbU g4 (N+4) x b c:=(s4.2 _ (ne_ (by ac_rfl))).trans q3
 refine wpAny_bind (wpAny_seqItems q4 rfl (wpAny_bind (zet q4 fun g5 q5 s5=>wpAny_bind (wpAny_letGo (wpAny_pure ?_)))))
 have z5:IsZip g5 (N+5) (N+3) (N+4) .ellipsis:=(s5.2 _ (ne_ (by ac_rfl))).trans ((s4.2 _ (ne_ (by ac_rfl))).trans z3)
 refine wpAny_bind (wpAny_bind (wpAny_onRaise (?_:wpAny _ _ (Builtin.SmallTypes.nextOf (.ref (N+2))>>=_) _ _ _)))
 have e5:S3 i g5:=D3.frame _ _ _ h3 fun b hb o e=>(s5.2 b (nin2 hb (by ac_rfl) (by ac_rfl))).trans ((s4.2 b (nin2 hb (by ac_rfl) (by ac_rfl))).trans (k3 b o (nin2 hb (by ac_rfl) (by ac_rfl)) (nin2 hb (by ac_rfl) (by ac_rfl)) (nin2 hb (by ac_rfl) (by ac_rfl)) e))
 refine wpAny_bind (D3.done _ _ _ e5 fun g6 e x6 he=>?_)
 obtain⟨oe,hoe,hce⟩:=he
 have z6:IsZip g6 (N+5) (N+3) (N+4) .ellipsis:=x6 _ _ (ne_ (by ac_rfl)) z5
 have hez:e≠N+5:=fun x=>by subst x;rw[z6]at hoe;cases hoe;simp at hce
 exact wpAny_setField_rec z6 (by simp) fun g7 _ s7=>k g7 e _ (fun c o c1 c2 c3 c4 c5 x=>(s7.2 c c5).trans (x6 c o c3 ((s5.2 c c4).trans ((s4.2 c c2).trans (k3 c o c1 c4 c5 x))))) ⟨oe,(s7.2 _ hez).trans hoe,hce⟩
end
end
noncomputable abbrev tup_ (vs:Array Value):Obj:={cls:= .type "tuple",data:= .seq vs}
noncomputable abbrev zip_ (ti to:Addr):Obj:={cls:= .type "zip",data:= .fields #[.none,.bool false,.bool false,.ref ti,.ref to]}
noncomputable abbrev z3a (h:Heap)(t1 t2 t3:Bool)(l1 l2 l3:Addr):Heap:=((h.push (srcO t1 l1)).push (srcO t2 l2)).push (srcO t3 l3)
noncomputable abbrev z3b (h:Heap)(t1 t2 t3:Bool)(l1 l2 l3:Addr):Heap:=(z3a h t1 t2 t3 l1 l2 l3).push (tup_ #[.ref h.objs.size,.ref (h.push (srcO t1 l1)).objs.size,.ref ((h.push (srcO t1 l1)).push (srcO t2 l2)).objs.size])
noncomputable abbrev z3c (h:Heap)(t1 t2 t3:Bool)(l1 l2 l3:Addr):Heap:=(z3b h t1 t2 t3 l1 l2 l3).push (tup_ #[.none,.none,.none])
noncomputable abbrev z3d (h:Heap)(t1 t2 t3:Bool)(l1 l2 l3:Addr):Heap:=(z3c h t1 t2 t3 l1 l2 l3).push (zip_ (z3a h t1 t2 t3 l1 l2 l3).objs.size (z3b h t1 t2 t3 l1 l2 l3).objs.size)
set_option maxHeartbeats 4000000 in
theorem zif (t1 t2 t3:Bool)(l1 l2 l3:Addr)(xs ys zs:Array Value):Meets (Builtin.«zip.__new__» ⟨[.type "zip",.ref l1,.ref l2,.ref l3],[]⟩) (fun _ R s=>SrcH t1 s.heap l1 xs/\SrcH t2 s.heap l2 ys/\SrcH t3 s.heap l3 zs/\
   R (.ok (.ret (.ref (z3c s.heap t1 t2 t3 l1 l2 l3).objs.size))) {s with heap:=z3d s.heap t1 t2 t3 l1 l2 l3}):=
 .of_wp fun prog w A R s h=>by
  obtain⟨hp,g,d,tk,os⟩:=s
  obtain⟨b1,b2,b3,h⟩:=h
  have hsub:=sub_zip
  have L1:SrcH t1 (Shared.heap ⟨hp,g,d,tk,os⟩) l1 xs:=b1
  have L2:SrcH t2 (Shared.heap ⟨hp.push (srcO t1 l1),g,d,tk,os⟩) l2 ys:=SrcH.at b2 fun o e=>Heap.get?_push_of_some _ e
  have L3:SrcH t3 (Shared.heap ⟨(hp.push (srcO t1 l1)).push (srcO t2 l2),g,d,tk,os⟩) l3 zs:=SrcH.at b3 fun o e=>Heap.get?_push_of_some _ (Heap.get?_push_of_some _ e)
  wp_walk using zb5 L1,zb5 L2,zb5 L3
  exact⟨_,rfl,h⟩
theorem zfK (a b c:Value):checkTypeCall "zip" ⟨[a,b,c],[]⟩=pure ():=by kernel_rfl
theorem zfO (a b c:Value):checkBuiltinCall "zip.__new__" ⟨[.type "zip",a,b,c],[]⟩=pure ():=by kernel_rfl
theorem zii (a b c d:Value):argsOk "object.__init__" ⟨[a,b,c,d],[]⟩:=by
 unfold argsOk;rw[signature?_of (id:="object.__init__") (n:=['_','_','t','i','n','i','_','_']) (o:=['t','c','e','j','b','o']) (by kernel_rfl) F.owner_object];kernel_rfl
section
variable {prog:Program} {w:World} {A:Around} {E:Value->Shared->Prop} {s:Shared}
theorem zjx {t1 t2 t3:Bool}{l1 l2 l3:Addr}{xs ys zs:Array Value}(h1:SrcH t1 s.heap l1 xs)(h2:SrcH t2 s.heap l2 ys)(h3:SrcH t3 s.heap l3 zs)
  (k : ∀ h', IsZip h' (s.heap.objs.size + 5) (s.heap.objs.size + 3) (s.heap.objs.size + 4) .none -> zbU h' (s.heap.objs.size + 3) (.ref s.heap.objs.size) (.ref (s.heap.objs.size + 1)) (.ref (s.heap.objs.size + 2)) ->
   zbU h' (s.heap.objs.size+4) .none .none .none->SrcIt t1 h' s.heap.objs.size l1 0->SrcIt t2 h' (s.heap.objs.size+1) l2 0->SrcIt t3 h' (s.heap.objs.size+2) l3 0->
   (∀c o,s.heap.get? c=some o->h'.get? c=some o)->Q (.ref (s.heap.objs.size+5)) {s with heap:=h'}):wpAny (model prog w) A (call (.type "zip") [.ref l1,.ref l2,.ref l3]) Q E s:=by
 refine callType_new F.called_zip (by decide) (zfK _ _ _) (zfO _ _ _) (fun obj=>zii obj _ _ _) F.entry_zip_new (zif t1 t2 t3 l1 l2 l3 xs ys zs) ⟨h1,h2,h3,(?_:_/\_)⟩
 have y1:(s.heap.push (srcO t1 l1)).objs.size=s.heap.objs.size+1:=Heap.size_push ..
 have y2:((s.heap.push (srcO t1 l1)).push (srcO t2 l2)).objs.size=s.heap.objs.size+2:=by rw[Heap.size_push,y1]
 have y3:(z3a s.heap t1 t2 t3 l1 l2 l3).objs.size=s.heap.objs.size+3:=by rw[Heap.size_push,y2]
 have y4:(z3b s.heap t1 t2 t3 l1 l2 l3).objs.size=s.heap.objs.size+4:=by rw[Heap.size_push,y3]
 have y5:(z3c s.heap t1 t2 t3 l1 l2 l3).objs.size=s.heap.objs.size+5:=by rw[Heap.size_push,y4]
 have g6:(z3d s.heap t1 t2 t3 l1 l2 l3).get? (z3c s.heap t1 t2 t3 l1 l2 l3).objs.size=some _:=Heap.get?_push_size _ rfl
 have g5:(z3d s.heap t1 t2 t3 l1 l2 l3).get? (z3b s.heap t1 t2 t3 l1 l2 l3).objs.size=some _:=Heap.get?_push_of_some _ (Heap.get?_push_size _ rfl)
 have g4:(z3d s.heap t1 t2 t3 l1 l2 l3).get? (z3a s.heap t1 t2 t3 l1 l2 l3).objs.size=some _:=Heap.get?_push_of_some _ (Heap.get?_push_of_some _ (Heap.get?_push_size _ rfl))
 have g3:(z3d s.heap t1 t2 t3 l1 l2 l3).get? ((s.heap.push (srcO t1 l1)).push (srcO t2 l2)).objs.size=some (srcO t3 l3):=Heap.get?_push_of_some _ (Heap.get?_push_of_some _ (Heap.get?_push_of_some _ (Heap.get?_push_size _ (zdF ..))))
 have g2:(z3d s.heap t1 t2 t3 l1 l2 l3).get? (s.heap.push (srcO t1 l1)).objs.size=some (srcO t2 l2):=Heap.get?_push_of_some _ (Heap.get?_push_of_some _ (Heap.get?_push_of_some _ (Heap.get?_push_of_some _ (Heap.get?_push_size _ (zdF ..)))))
 have g1:(z3d s.heap t1 t2 t3 l1 l2 l3).get? s.heap.objs.size=some (srcO t1 l1):=Heap.get?_push_of_some _ (Heap.get?_push_of_some _ (Heap.get?_push_of_some _ (Heap.get?_push_of_some _ (Heap.get?_push_of_some _ (Heap.get?_push_size _ (zdF ..))))))
 rw[y3,y4,y5]at g6
 rw[y1,y2,y3]at g4
 rw[y4]at g5
 rw[y2]at g3
 rw[y1]at g2
 rw[y5]
 exact⟨⟨_,g6,rfl⟩,k _ g6 g4 g5 (zfA g1) (zfA g2) (zfA g3) fun c o x=>Heap.get?_push_of_some _ (Heap.get?_push_of_some _ (Heap.get?_push_of_some _ (Heap.get?_push_of_some _ (Heap.get?_push_of_some _ (Heap.get?_push_of_some _ x)))))⟩
noncomputable abbrev en_ (it:Addr):Obj:={cls:= .type "enumerate",data:= .fields #[.none,.bool false,.ref it,rawInt 0,.none,.none]}
theorem ziM (t:Bool)(l:Addr)(o:Obj)(xs:Array Value):Meets (Builtin.«enumerate.__new__» ⟨[.type "enumerate",.ref l],[]⟩) (fun _ R s=>s.heap.get? l=some o/\SrcH t s.heap l xs/\
   R (.ok (.ret (.ref (s.heap.push (srcO t l)).objs.size))) {s with heap:=(s.heap.push (srcO t l)).push (en_ s.heap.objs.size)}):=
 .of_wp fun prog w A R s h=>by
  obtain⟨hp,g,d,tk,os⟩:=s
  obtain⟨hl,b,h⟩:=h
  have hsub:=sub_enumerate
  have hL:SrcH t (Shared.heap ⟨hp,g,d,tk,os⟩) l xs:=b
  wp_walk using AutoSeq1.wpAny_loadPart' hl
  refine wpAny_stack_any fun st=>wpAny_pure ?_
  split
  ·rename_i c _ _ _ _ _
   cases(c==Value.type "enumerate")<;>(wp_walk using AutoSeq1.wpAny_loadPart' hl,zb5 hL;exact⟨_,rfl,h⟩)
  ·wp_walk using AutoSeq1.wpAny_loadPart' hl,zb5 hL
   exact⟨_,rfl,h⟩
theorem zjS (h1:SrcH t s.heap l xs)
  (k:∀h',IsEnum h' (s.heap.objs.size+1) s.heap.objs.size 0 .none->SrcIt t h' s.heap.objs.size l 0->(∀b o,s.heap.get? b=some o->h'.get? b=some o)->Q (.ref (s.heap.objs.size+1)) {s with heap:=h'}):
  wpAny (model prog w) A (call (.type "enumerate") [.ref l]) Q E s:=by
 have⟨o,ho⟩:∃o,s.heap.get? l=some o:=by cases t<;>(obtain⟨o,e,-⟩:=h1;exact⟨o,e⟩)
 refine callType_new F.called_enumerate (by decide) (F.typeCall_enumerate_1 _) (F.newCall_enumerate_1 _) (fun obj=>F.args_object_init_2 obj _) F.entry_enumerate_new (ziM t l o xs) ⟨ho,h1,(?_:_/\_)⟩
 have y1:(s.heap.push (srcO t l)).objs.size=s.heap.objs.size+1:=Heap.size_push ..
 have g2:((s.heap.push (srcO t l)).push (en_ s.heap.objs.size)).get? (s.heap.push (srcO t l)).objs.size=some _:=Heap.get?_push_size _ rfl
 have g1:((s.heap.push (srcO t l)).push (en_ s.heap.objs.size)).get? s.heap.objs.size=some (srcO t l):=Heap.get?_push_of_some _ (Heap.get?_push_size _ (zdF ..))
 rw[y1]at g2
 rw[y1]
 exact⟨⟨_,g2,rfl⟩,k _ g2 (zfA g1) fun b o x=>Heap.get?_push_of_some _ (Heap.get?_push_of_some _ x)⟩
end
end M
namespace M
local macro_rules | `(tactic| ac_rfl) => `(tactic| first | exact M.nA (by decide) | exact M.nB (by decide) | exact M.nC (by decide) | exact M.nL (by assumption) | exact Nat.ne_of_lt (by assumption) | lia)
open L2 PySem PySem.Spec
open PyProof.Rows hiding St
open Sem (wp)
variable {t' ek:Nat} {h':Heap} {fp:List Addr} {vs xs:List V} {its:List Value} {t:Bool} {X:Cx} {pins:List (Addr×Obj)} {σ:St} {H:Hp} {s:Shared} {a c b:Expr} {K:W.Frag} {elts:List Expr} {ep p pos:Pos} {ta:TA} {es:List D} {ma:MA}
section
variable {X:Cx} {pins:List (Addr×Obj)} {σ:St} {H:Hp} {s:Shared}
theorem zg1 (I:Inv X pins σ H s)(k:∀b o,b∉fp->s.heap.get? b=some o->h'.get? b=some o)(hf:∀b∈fp,FpOk X pins H b):Inv X pins σ H {s with heap:=h',toks:=t'}:=by
 have nit:∀b u,H b=some u->b∉fp:=fun b u e z=>by rw[(hf b z).1]at e;cases e
 refine I.step (g':=s.gens) (d':=s.drawn) (ch:=fp) (fun b hb=>?_) (fun b o _ _ hc e _=>k b o hc e) (fun b o _ _ hc e _=>⟨o.slots,k b o hc e⟩) (fun _ _ _ _ n=>n)
  (fun b o hc e=>⟨o,k b o hc e⟩) (fun _ _ e=>e) (fun _ _ _ e=>e) (fun b ps e=>⟨#[],by rw[e];simp⟩) (fun m hm=>?_) (fun b u e=>?_) I.bare
 ·obtain⟨f0,f1,f2,f3,f4,f5⟩:=hf b hb
  exact⟨f3,f1,f4,f5⟩
 ·obtain⟨o,es,ep,ho,r⟩:=hm
  exact⟨o,es,ep,k _ o (fun z=>(hf _ z).2.1 rfl) ho,r⟩
 ·refine(I.hok b u e).stay (fun c v hc q=>k c v ?_ q) (fun _ q=>q) fun _ _ q=>q
  rcases hc with z|z
  ·rw[z];exact nit b u e
  ·exact nit c _ z
theorem zjO {t':Nat}{h':Heap}{fp:List Addr}(I:Inv X pins σ H s)(k:∀b o,b∉fp->s.heap.get? b=some o->h'.get? b=some o)(hf:∀b∈fp,FpOk X pins H b)(hl:∀b∈fp,b<s.heap.objs.size)
  (hT:h'.get? s.heap.objs.size=some (tup_ its.toArray)) (hz:vs.length<=sizeLine) (r:Vals vs its):Inv X pins σ (upd H s.heap.objs.size (.tup vs)) {s with heap:=h',toks:=t'}:=by
 have I1:=I.laid (t':=s.toks) (a:=s.heap.objs.size) (o:= .tup vs) (h':=s.heap.push (tup_ its.toArray)) (fun b u q=>Heap.get?_push_of_some _ q) (Nat.le_refl _) ⟨hz,its,r,IsTup.new _ _⟩
 refine zg1 (s:={s with heap:=s.heap.push (tup_ its.toArray),toks:=s.toks}) (t':=t') (fp:=fp) I1 (fun b o hb e=>?_) fun b hb=>?_
 ·have e':(s.heap.push (tup_ its.toArray)).get? b=some o:=e
  rcases Heap.get?_push_cases e' with⟨rfl,rfl⟩|q
  ·exact hT
  ·exact k b o hb q
 ·obtain⟨f0,fr⟩:=hf b hb
  refine⟨?_,fr⟩
  rw[zad (Nat.ne_of_lt (hl b hb))]
  exact f0
end
noncomputable def SrcSq (t:Bool)(K:W.Frag)(H:Hp)(a:Addr)(xs:List V):Prop:=match t with
 |true=>SqT K H a xs
 |false=>SqL K H a xs
theorem SrcSq.heap {a:Addr}(I:Inv X pins σ H s)(h:SrcSq t X.K H a xs):∃its:List Value,Vals xs its/\SrcH t s.heap a its.toArray/\xs.length<=sizeLine:=by
 cases t
 ·obtain⟨its,r,p,z⟩:=I.list h
  exact⟨its,r,p.isList,z⟩
 ·obtain⟨its,r,p,z⟩:=I.tuple h
  exact⟨its,r,p,z⟩
theorem SrcSq.inj {a:Addr}{xs ys:List V}(I:Inv X pins σ H s)(h:SrcSq t X.K H a xs)(h':SrcSq t X.K H a ys):xs=ys:=by
 cases t
 ·exact I.list_inj h h'
 ·exact I.tuple_inj h h'
theorem nin5 {c N:Nat}(h:c∉([N,N+1,N+2,N+3,N+4,N+5]:List Nat)):c≠N/\c≠N+1/\c≠N+2/\c≠N+4/\c≠N+5:=
 ⟨fun e=>h (e ▸ .head _),fun e=>h (e ▸ .tail _ (.head _)),fun e=>h (e ▸ .tail _ (.tail _ (.head _))),fun e=>h (e ▸ .tail _ (.tail _ (.tail _ (.tail _ (.head _))))),fun e=>h (e ▸ .tail _ (.tail _ (.tail _ (.tail _ (.tail _ (.head _))))))⟩
noncomputable def Itz3 (K:W.Frag)(t1:Bool)(a1:Addr)(t2:Bool)(a2:Addr)(t3:Bool)(a3:Addr)(n:Nat):It where
 go:=fun i H=>i<n/\∃xs ys zs,SrcSq t1 K H a1 xs/\SrcSq t2 K H a2 ys/\SrcSq t3 K H a3 zs/\n=min xs.length (min ys.length zs.length)
 yld:=fun i H x H'=>∃p x1 x2 x3,H p=none/\H'=upd H p (.tup [x1,x2,x3])/\x= .ref p/\∀xs ys zs,SrcSq t1 K H a1 xs->SrcSq t2 K H a2 ys->SrcSq t3 K H a3 zs->xs[i]? =some x1/\ys[i]? =some x2/\zs[i]? =some x3
 stop:=fun i H=>n<=i/\∃xs ys zs,SrcSq t1 K H a1 xs/\SrcSq t2 K H a2 ys/\SrcSq t3 K H a3 zs/\n=min xs.length (min ys.length zs.length)
theorem zkd {P:Program}{w:World}(t1:Bool)(a1:Nat)(t2:Bool)(a2:Nat)(t3:Bool)(a3:Nat)(n N:Nat)(l1:a1<N)(l2:a2<N)(l3:a3<N):
  Turn P w K (.Tuple elts ek ep) (Itz3 K t1 a1 t2 a2 t3 a3 n) ([N,N+1,N+2,N+3,N+4,N+5]:List Nat) (N+5:Nat)
   (fun i h=>i<=n/\IsZip h (N+5:Nat) (N+3:Nat) (N+4:Nat) .none/\zbU h (N+3:Nat) (.ref N) (.ref (N+1:Nat)) (.ref (N+2:Nat))/\(∃a b c,zbU h (N+4:Nat) a b c)/\SrcIt t1 h N a1 i/\SrcIt t2 h (N+1:Nat) a2 i/\SrcIt t3 h (N+2:Nat) a3 i) where
 mem:=by simp
 obj:=fun i h st b hb=>by
  obtain⟨-,h5,h3,⟨a,c,d,h4⟩,h0,h1,h2⟩:=st
  simp only[List.mem_cons,List.not_mem_nil,or_false]at hb
  rcases hb with rfl|rfl|rfl|rfl|rfl|rfl
  ·exact h0.obj
  ·exact h1.obj
  ·exact h2.obj
  ·exact⟨_,h3,fun v z=>by cases z⟩
  ·exact⟨_,h4,fun v z=>by cases z⟩
  ·exact⟨_,h5,fun v z=>by cases z⟩
 keep:=fun i h h' st k=>by
  obtain⟨hi,h5,h3,⟨a,c,d,h4⟩,h0,h1,h2⟩:=st
  exact⟨hi,k _ (by simp) _ h5,k _ (by simp) _ h3,⟨a,c,d,k _ (by simp) _ h4⟩,h0.at fun o e=>k _ (by simp) o e,h1.at fun o e=>k _ (by simp) o e,h2.at fun o e=>k _ (by simp) o e⟩
 item:=by
  intro X hP hw hK hc i pins s σ H E I hf st hg
  subst hP hw hK
  obtain⟨hi,h5,h3,⟨a,c,d,h4⟩,h0,h1,h2⟩:=st
  obtain⟨hn,xs,ys,zs,q1,q2,q3,en⟩:=hg
  obtain⟨us,ru,hu,zu⟩:=q1.heap I
  obtain⟨ws,rw',hw',zw⟩:=q2.heap I
  obtain⟨os,ro,ho',zo⟩:=q3.heap I
  have lu:=ru.length
  have lw:=rw'.length
  have lo:=ro.length
  have D1:=zbm (prog:=X.prog) (w:=X.w) (A:=X.A.in1) (t:=t1) (I.ok.hd hc) N a1 (ne_ (by ac_rfl)) us.toArray
  have D2:=zbm (prog:=X.prog) (w:=X.w) (A:=X.A.in1) (t:=t2) (I.ok.hd hc) (N+1) a2 (ne_ (by ac_rfl)) ws.toArray
  have D3:=zbm (prog:=X.prog) (w:=X.w) (A:=X.A.in1) (t:=t3) (I.ok.hd hc) (N+2) a3 (ne_ (by ac_rfl)) os.toArray
  have hT:s.TypeIs (.ref (N+5:Nat)) "zip":=⟨_,h5,rfl⟩
  unfold pyNext
  refine wpAny_bind (wpAny_attempt (wpAny_callSpecial?_slot (name:=Str.ofString "__next__") hT F.slot_zip_next (wpAny_call_entry F.slot_zip_next hT F.entry_zip_next
   (zj3 D1 D2 D3 l1 l2 l3 h5 h3 h4 ⟨h0,hu⟩ ⟨h1,hw'⟩ ⟨h2,ho'⟩ (by simp;lia) (by simp;lia) (by simp;lia) fun x y z h' tk p1 p2 p3 g5 g4 g0 g1 g2 gT kk=>wpAny_pure ?_) (F.args_zip_next_1 _))))
  obtain⟨x1,hx1⟩:∃x1,xs[i]? =some x1:=⟨xs[i]'(by lia),List.getElem?_eq_getElem _⟩
  obtain⟨x2,hx2⟩:∃x2,ys[i]? =some x2:=⟨ys[i]'(by lia),List.getElem?_eq_getElem _⟩
  obtain⟨x3,hx3⟩:∃x3,zs[i]? =some x3:=⟨zs[i]'(by lia),List.getElem?_eq_getElem _⟩
  obtain⟨u1,hu1,r1⟩:=ru.get hx1
  obtain⟨u2,hu2,r2⟩:=rw'.get hx2
  obtain⟨u3,hu3,r3⟩:=ro.get hx3
  have e1:u1=x:=by
   have:us[i]? =some x:=by simpa using p1
   rw[hu1]at this;cases this;rfl
  have e2:u2=y:=by
   have:ws[i]? =some y:=by simpa using p2
   rw[hu2]at this;cases this;rfl
  have e3:u3=z:=by
   have:os[i]? =some z:=by simpa using p3
   rw[hu3]at this;cases this;rfl
  subst e1 e2 e3
  refine⟨_,rfl,wpAny_letOwnedTupleGo_zip (s:={s with heap:=h',toks:=tk}) g5 fun h'' g5' sb=>?_⟩
  replace sb:Heap.SameBut (N+5:Nat) h' h'':=sb
  have lz:N+5<s.heap.objs.size:=Heap.lt_size h5
  have kk':∀b o,b∉([N,N+1,N+2,N+3,N+4,N+5]:List Nat)->s.heap.get? b=some o->h''.get? b=some o:=fun b o hb e=>by
   obtain⟨c1,c2,c3,c4,c5⟩:=nin5 hb
   exact(sb.2 b c5).trans (kk b o c1 c2 c3 c4 c5 e)
  have I1:=zjO (t':=tk) (vs:=[x1,x2,x3]) (its:=[u1,u2,u3]) I kk' hf (fun b hb=>by
   have:b=N\/b=N+1\/b=N+2\/b=N+3\/b=N+4\/b=N+5:=by simpa using hb
   exact Nat.lt_of_le_of_lt (show(b:Nat)<=N+5 by rcases this with h|h|h|h|h|h<;>rw[h]<;>simp) lz) ((sb.2 _ (ne_ (by ac_rfl))).trans gT) (by simp;rw[sizeLine_eq];decide) (.cons r1 (.cons r2 (.cons r3 .nil)))
  refine⟨.ref s.heap.objs.size,_,I1,rfl,⟨_,x1,x2,x3,I.hok.fresh (Nat.le_refl _),rfl,rfl,fun xs' ys' zs' b1 b2 b3=>?_⟩,⟨hn,g5',(sb.2 _ (ne_ (by ac_rfl))).trans (kk _ _ (ne_ (by ac_rfl)) (ne_ (by ac_rfl)) (ne_ (by ac_rfl)) (ne_ (by ac_rfl)) (ne_ (by ac_rfl)) h3),⟨_,_,_,(sb.2 _ (ne_ (by ac_rfl))).trans g4⟩,SrcIt.at g0.1 fun o e=>(sb.2 _ (ne_ (by ac_rfl))).trans e,SrcIt.at g1.1 fun o e=>(sb.2 _ (ne_ (by ac_rfl))).trans e,SrcIt.at g2.1 fun o e=>(sb.2 _ (ne_ (by ac_rfl))).trans e⟩,fun b hb=>?_⟩
  ·rw[SrcSq.inj I b1 q1,SrcSq.inj I b2 q2,SrcSq.inj I b3 q3]
   exact⟨hx1,hx2,hx3⟩
  ·have:b=N\/b=N+1\/b=N+2\/b=N+3\/b=N+4\/b=N+5:=by simpa using hb
   rw[zad (Nat.ne_of_lt (Nat.lt_of_le_of_lt (show(b:Nat)<=N+5 by rcases this with h|h|h|h|h|h<;>rw[h]<;>simp) lz))]
   exact(hf b hb).1
 done:=by
  intro X hP hw hK hc i pins s σ H E I hf st hg
  subst hP hw hK
  obtain⟨hi,h5,h3,⟨a,c,d,h4⟩,h0,h1,h2⟩:=st
  obtain⟨hn,xs,ys,zs,q1,q2,q3,en⟩:=hg
  obtain⟨us,ru,hu,zu⟩:=q1.heap I
  obtain⟨ws,rw',hw',zw⟩:=q2.heap I
  obtain⟨os,ro,ho',zo⟩:=q3.heap I
  have lu:=ru.length
  have lw:=rw'.length
  have lo:=ro.length
  have D1:=zbm (prog:=X.prog) (w:=X.w) (A:=X.A.in1) (t:=t1) (I.ok.hd hc) N a1 (ne_ (by ac_rfl)) us.toArray
  have D2:=zbm (prog:=X.prog) (w:=X.w) (A:=X.A.in1) (t:=t2) (I.ok.hd hc) (N+1) a2 (ne_ (by ac_rfl)) ws.toArray
  have D3:=zbm (prog:=X.prog) (w:=X.w) (A:=X.A.in1) (t:=t3) (I.ok.hd hc) (N+2) a3 (ne_ (by ac_rfl)) os.toArray
  have hT:s.TypeIs (.ref (N+5:Nat)) "zip":=⟨_,h5,rfl⟩
  unfold pyNext
  refine wpAny_bind (wpAny_attempt (wpAny_callSpecial?_slot (name:=Str.ofString "__next__") hT F.slot_zip_next (wpAny_call_entry F.slot_zip_next hT F.entry_zip_next
   (zip3_end D1 D2 D3 l1 l2 l3 h5 h3 h4 ⟨h0,hu⟩ ⟨h1,hw'⟩ ⟨h2,ho'⟩ (by simp;lia) fun h' e tk kk he=>?_) (F.args_zip_next_1 _))))
  obtain⟨o,ho,hce⟩:=he
  refine wpAny_bind (wpAny_isInstance (T:="StopIteration") (b:=true) ⟨o,ho,hce⟩ isSubtype_stop (wpAny_pure ⟨rfl,zg1 I (fun b o hb e=>?_) hf⟩))
  obtain⟨c1,c2,c3,c4,c5⟩:=nin5 hb
  exact kk b o c1 c2 c3 c4 c5 e
 self:=fun _ _ _ _ _ st h=>wpAny_pyIter_zip st.2.1 h
noncomputable def Ite (K:W.Frag)(t1:Bool)(a1:Addr)(n:Nat):It where
 go:=fun i H=>i<n/\∃xs,SrcSq t1 K H a1 xs/\n=xs.length
 yld:=fun i H x H'=>∃p x1,H p=none/\H'=upd H p (.tup [.int i,x1])/\x= .ref p/\∀xs,SrcSq t1 K H a1 xs->xs[i]? =some x1
 stop:=fun i H=>n<=i/\∃xs,SrcSq t1 K H a1 xs/\n=xs.length
theorem ziY {P:Program}{w:World}(t1:Bool)(a1:Nat)(n N:Nat)(l1:a1<N):
  Turn P w K (.Tuple elts ek ep) (Ite K t1 a1 n) ([N+1,N]:List Nat) (N+1:Nat) (fun i h=>i<=n/\(∃old,IsEnum h (N+1:Nat) N i old)/\SrcIt t1 h N a1 i) where
 mem:=by simp
 obj:=fun i h st b hb=>by
  obtain⟨-,⟨old,h1⟩,h0⟩:=st
  simp only[List.mem_cons,List.not_mem_nil,or_false]at hb
  rcases hb with rfl|rfl
  ·exact⟨_,h1,fun v z=>by cases z⟩
  ·exact h0.obj
 keep:=fun i h h' st k=>by
  obtain⟨hi,⟨old,h1⟩,h0⟩:=st
  exact⟨hi,⟨old,k _ (by simp) _ h1⟩,h0.at fun o e=>k _ (by simp) o e⟩
 item:=by
  intro X hP hw hK hc i pins s σ H E I hf st hg
  subst hP hw hK
  obtain⟨hi,⟨old,h1⟩,h0⟩:=st
  obtain⟨hn,xs,q1,en⟩:=hg
  obtain⟨us,ru,hu,zu⟩:=q1.heap I
  have lu:=ru.length
  have D1:=zbm (prog:=X.prog) (w:=X.w) (A:=X.A.in1) (t:=t1) (I.ok.hd hc) N a1 (ne_ (by ac_rfl)) us.toArray
  refine wpAny_pyNext_enum_itemD D1 h1 ⟨h0,hu⟩ (by simp;lia) (ne_ (by ac_rfl)) (fun z=>nin2 (z:=N+1) z (by lia) (by lia) rfl) fun x h' tk p1 ho g0 gT gz kk=>?_
  obtain⟨x1,hx1⟩:∃x1,xs[i]? =some x1:=⟨xs[i]'(by lia),List.getElem?_eq_getElem _⟩
  obtain⟨u1,hu1,r1⟩:=ru.get hx1
  have e1:u1=x:=by
   have:us[i]? =some x:=by simpa using p1
   rw[hu1]at this;cases this;rfl
  subst e1
  refine⟨_,rfl,wpAny_letOwnedTupleGo_enum (s:={s with heap:=h',toks:=tk+1}) ho fun h'' he' sb=>?_⟩
  replace sb:Heap.SameBut (N+1:Nat) h' h'':=sb
  have lz:N+1<s.heap.objs.size:=Heap.lt_size h1
  have kk':∀b o,b∉([N+1,N]:List Nat)->s.heap.get? b=some o->h''.get? b=some o:=fun b o hb e=>
   (sb.2 b fun z=>hb (by simp[z])).trans (kk b o (fun z=>hb (by simp[z])) (fun z=>hb (by simp[z])) e)
  have I1:=zjO (t':=tk+1) (vs:=[.int i,x1]) (its:=[.int i tk,u1]) I kk' hf (fun b hb=>by
   have:b=N+1\/b=N:=by simpa using hb
   exact Nat.lt_of_le_of_lt (show(b:Nat)<=N+1 by rcases this with h|h<;>rw[h]<;>simp) lz) ((sb.2 _ (ne_ (by ac_rfl))).trans gT) (by simp;rw[sizeLine_eq];decide) (.cons ⟨_,rfl⟩ (.cons r1 .nil))
  refine⟨.ref s.heap.objs.size,_,I1,rfl,⟨_,x1,I.hok.fresh (Nat.le_refl _),rfl,rfl,fun xs' b1=>?_⟩,⟨hn,⟨_,by simpa using he'⟩,SrcIt.at g0.1 fun o e=>(sb.2 _ (ne_ (by ac_rfl))).trans e⟩,fun b hb=>?_⟩
  ·rw[SrcSq.inj I b1 q1]
   exact hx1
  ·have:b=N+1\/b=N:=by simpa using hb
   rw[zad (Nat.ne_of_lt (Nat.lt_of_le_of_lt (show(b:Nat)<=N+1 by rcases this with h|h<;>rw[h]<;>simp) lz))]
   exact(hf b hb).1
 done:=by
  intro X hP hw hK hc i pins s σ H E I hf st hg
  subst hP hw hK
  obtain⟨hi,⟨old,h1⟩,h0⟩:=st
  obtain⟨hn,xs,q1,en⟩:=hg
  obtain⟨us,ru,hu,zu⟩:=q1.heap I
  have lu:=ru.length
  have D1:=zbm (prog:=X.prog) (w:=X.w) (A:=X.A.in1) (t:=t1) (I.ok.hd hc) N a1 (ne_ (by ac_rfl)) us.toArray
  have W:=WalksT.enumerateD D1 (N+1:Nat) (ne_ (by ac_rfl)) (fun z=>nin2 (z:=N+1) z (by lia) (by lia) rfl) (by simp)
  have ei:i=us.toArray.size:=by simp;lia
  subst ei
  exact W.done s _ _ ⟨⟨old,h1⟩,h0,hu⟩ fun h' tk kk=>⟨rfl,zg1 I kk hf⟩
 self:=fun _ _ _ _ _ st h=>by
  obtain⟨hi,⟨old,h1⟩,h0⟩:=st
  exact wpAny_pyIter_enum h1 h
theorem boot_zip:bootBuiltins "zip"=some (.type "zip"):=by decide+kernel
theorem zeX:bootBuiltins "enumerate"=some (.type "enumerate"):=by decide+kernel
section
variable {X:Cx} {elts:List Expr} {ek:Nat} {ep:Pos}
theorem pi_zip3 (hg:Gl X "zip")(hm:X.mg "zip"=none)(ha:PA X [a,b,c] ta)(hs:autoParam (starEach [a,b,c] X.env=(false,eval a X.env)::starEach [b,c] X.env) zu3._auto_1)(hs2:autoParam ((backTo pos (starEach [b,c] X.env)).any (·.1)=false) zu3._auto_1):
  PI X (.Tuple elts ek ep) (.Call (.Name "zip" p) [a,b,c] [] pos) (fun σ H R=>ta σ H fun vs H1=>∃t1 a1 xs t2 a2 ys t3 a3 zs,vs=[.ref a1,.ref a2,.ref a3]/\SrcSq t1 X.K H1 a1 xs/\SrcSq t2 X.K H1 a2 ys/\SrcSq t3 X.K H1 a3 zs/\R (Itz3 X.K t1 a1 t2 a2 t3 a3 (min xs.length (min ys.length zs.length))) H1):=by
 intro pins s σ H R I h
 refine Call_ (zeZ I hg hm boot_zip (PyProof.Rows.callWith_type1 (thn (ha pos pins s σ H _ I h) fun us s1 ⟨vs,H1,I1,r1,q1⟩=>?_) hs hs2))
 obtain⟨t1,a1,xs,t2,a2,ys,t3,a3,zs,e,q1,q2,q3,q⟩:=q1
 subst e
 cases r1 with
 |cons r rr=>
  cases rr with
  |cons r' rr=>
   cases rr with
   |cons r'' rr=>
    cases rr
    cases r
    cases r'
    cases r''
    obtain⟨us,ru,hu,-⟩:=q1.heap I1
    obtain⟨ws,rw',hw',-⟩:=q2.heap I1
    obtain⟨os,ro,ho',-⟩:=q3.heap I1
    refine zjx hu hw' ho' fun h' g5 g3 g4 g0 g1 g2 kk=>wpAny_pyIter_zip g5 ⟨_,_,_,_,H1,rfl,I1.kept (t':=s1.toks) kk,zkd t1 a1 t2 a2 t3 a3 (min xs.length (min ys.length zs.length)) s1.heap.objs.size hu.lt hw'.lt ho'.lt,⟨Nat.zero_le _,g5,g3,⟨_,_,_,g4⟩,g0,g1,g2⟩,fun b hb=>?_,q⟩
    have:b=s1.heap.objs.size\/b=s1.heap.objs.size+1\/b=s1.heap.objs.size+2\/b=s1.heap.objs.size+3\/b=s1.heap.objs.size+4\/b=s1.heap.objs.size+5:=by simpa using hb
    have le:s1.heap.objs.size<=b:=by rcases this with h|h|h|h|h|h<;>rw[h]<;>simp
    exact I1.fpOk le (I1.hok.fresh le)
theorem pi_enum (hg:Gl X "enumerate")(hm:X.mg "enumerate"=none)(ha:PA X [a] ta)(hs:autoParam (starEach [a] X.env=(false,eval a X.env)::starEach [] X.env) zu3._auto_1)(hs2:autoParam ((backTo pos (starEach [] X.env)).any (·.1)=false) zu3._auto_1):
  PI X (.Tuple elts ek ep) (.Call (.Name "enumerate" p) [a] [] pos) (fun σ H R=>ta σ H fun vs H1=>∃t1 a1 xs,vs=[.ref a1]/\SrcSq t1 X.K H1 a1 xs/\R (Ite X.K t1 a1 xs.length) H1):=by
 intro pins s σ H R I h
 refine Call_ (zeZ I hg hm zeX (PyProof.Rows.callWith_type1 (thn (ha pos pins s σ H _ I h) fun us s1 ⟨vs,H1,I1,r1,q1⟩=>?_) hs hs2))
 obtain⟨t1,a1,xs,e,q1,q⟩:=q1
 subst e
 cases r1 with
 |cons r rr=>
  cases rr
  cases r
  obtain⟨us,ru,hu,-⟩:=q1.heap I1
  refine zjS hu fun h' g1 g0 kk=>wpAny_pyIter_enum g1 ⟨_,_,_,_,H1,rfl,I1.kept (t':=s1.toks) kk,ziY t1 a1 xs.length s1.heap.objs.size hu.lt,⟨Nat.zero_le _,⟨_,g1⟩,g0⟩,fun b hb=>?_,q⟩
  have:b=s1.heap.objs.size+1\/b=s1.heap.objs.size:=by simpa using hb
  have le:s1.heap.objs.size<=b:=by rcases this with h|h<;>rw[h]<;>simp
  exact I1.fpOk le (I1.hok.fresh le)
end
theorem zhV {G:Hp}{x:V}{d:D}(r:RepD K G x d)(e:zaG [d]=some es):∃t a xs,x= .ref a/\(∀H,Fz G H->SrcSq t K H a xs)/\RepL K G xs es:=by
 cases d<;>simp only[zaG]at e<;>try cases e
 ·obtain⟨a,xs,rfl,ha,r⟩:=r
  exact⟨false,a,xs,rfl,fun H f=>SqL.of (f _ _ ha),r⟩
 ·obtain⟨a,xs,rfl,ha,r⟩:=r
  exact⟨true,a,xs,rfl,fun H f=>SqT.of (f _ _ ha),r⟩
 ·obtain⟨a,rfl,ha⟩:=r
  exact⟨false,a,_,rfl,fun H f=>f.sql ha,RepL.ints _⟩
noncomputable def zip2D (xs ys:List D):List D:=List.zipWith (fun x y=>D.tup [x,y]) xs ys
noncomputable def zgT (xs ys zs:List D):List D:=List.zipWith (fun x (p:D×D)=>D.tup [x,p.1,p.2]) xs (List.zip ys zs)
noncomputable def zgy (xs:List D):List D:=List.zipWith (fun x (i:Nat)=>D.tup [.int i,x]) xs (List.range xs.length)
noncomputable def iZ2 (ma:MA):MA:=fun ρ=>(ma ρ).bind fun p=>match p.1 with
 |[a,b]=>(zaG [a]).bind fun xs=>(zaG [b]).bind fun ys=>some (zip2D xs ys,p.2)
 |_=>none
noncomputable def iZ3 (ma:MA):MA:=fun ρ=>(ma ρ).bind fun p=>match p.1 with
 |[a,b,c]=>(zaG [a]).bind fun xs=>(zaG [b]).bind fun ys=>(zaG [c]).bind fun zs=>some (zgT xs ys zs,p.2)
 |_=>none
noncomputable def iEn (ma:MA):MA:=fun ρ=>(ma ρ).bind fun p=>(zaG p.1).map fun xs=>(zgy xs,p.2)
theorem it_zip3 (hm:X.mg "zip"=none)(ha:SA X [a,b,c] ma)(hg:autoParam (Gl X "zip") zu3._auto_1)(hs:autoParam (starEach [a,b,c] X.env=(false,eval a X.env)::starEach [b,c] X.env) zu3._auto_1)(hs2:autoParam ((backTo pos (starEach [b,c] X.env)).any (·.1)=false) zu3._auto_1):
  SIt X (.Tuple elts ek ep) (.Call (.Name "zip" p) [a,b,c] [] pos) (iZ3 ma):=by
 obtain⟨t,pa,sa⟩:=ha
 refine⟨_,pi_zip3 hg hm pa hs hs2,fun B G H σ ρ ds ρ' Q I hm k=>?_⟩
 obtain⟨⟨es,ρ1⟩,e1,h2⟩:=zaa hm
 dsimp only at h2
 refine sa B G H σ ρ es ρ1 _ I e1 fun G1 H1 vs I1 f1 r1=>?_
 split at h2
 ·obtain⟨xs,ex,h2⟩:=zaa h2
  obtain⟨ys,ey,h2⟩:=zaa h2
  obtain⟨zs,ez,h2⟩:=zaa h2
  cases h2
  obtain⟨x,us,rfl,rx,r2⟩:=r1
  obtain⟨y,ws,rfl,ry,r3⟩:=r2
  obtain⟨z,os,rfl,rz,r4⟩:=r3
  cases(show os=[]from r4)
  obtain⟨t1,a1,us,rfl,s1,c1⟩:=zhV rx ex
  obtain⟨t2,a2,ws,rfl,s2,c2⟩:=zhV ry ey
  obtain⟨t3,a3,os,rfl,s3,c3⟩:=zhV rz ez
  have n1:=c1.length
  have n2:=c2.length
  have n3:=c3.length
  refine⟨t1,a1,us,t2,a2,ws,t3,a3,os,rfl,s1 _ I1.fz,s2 _ I1.fz,s3 _ I1.fz,k _ G1 H1 I1 f1 ⟨fun H i f hi=>?_,fun H i x H' f y d e=>?_,fun H i f hi=>?_⟩⟩
  ·exact⟨by simp[zgT]at hi;lia,us,ws,os,s1 _ f,s2 _ f,s3 _ f,rfl⟩
  ·obtain⟨p,x1,x2,x3,hp,eh,ex',q⟩:=y
   obtain⟨q1,q2,q3⟩:=q us ws os (s1 _ f) (s2 _ f) (s3 _ f)
   simp only[zgT,List.zip,List.getElem?_zipWith]at e
   have hi:i<us.length/\i<ws.length/\i<os.length:=⟨(List.getElem?_eq_some_iff.mp q1).1,(List.getElem?_eq_some_iff.mp q2).1,(List.getElem?_eq_some_iff.mp q3).1⟩
   have g1:xs[i]? =some (xs[i]'(by lia)):=List.getElem?_eq_getElem _
   have g2:ys[i]? =some (ys[i]'(by lia)):=List.getElem?_eq_getElem _
   have g3:zs[i]? =some (zs[i]'(by lia)):=List.getElem?_eq_getElem _
   rw[g1,g2,g3]at e
   cases e
   obtain⟨v1,b1,r1⟩:=c1.get g1
   obtain⟨v2,b2,r2⟩:=c2.get g2
   obtain⟨v3,b3,r3⟩:=c3.get g3
   rw[q1]at b1;cases b1
   rw[q2]at b2;cases b2
   rw[q3]at b3;cases b3
   exact .inr ⟨p,_,_,hp,eh,ex',rfl,⟨_,_,rfl,r1,_,_,rfl,r2,_,_,rfl,r3,rfl⟩⟩
  ·exact⟨by simp[zgT]at hi;lia,us,ws,os,s1 _ f,s2 _ f,s3 _ f,rfl⟩
 ·cases h2
theorem zb6 (hm:X.mg "enumerate"=none)(ha:SA X [a] ma)(hg:autoParam (Gl X "enumerate") zu3._auto_1)(hs:autoParam (starEach [a] X.env=(false,eval a X.env)::starEach [] X.env) zu3._auto_1)(hs2:autoParam ((backTo pos (starEach [] X.env)).any (·.1)=false) zu3._auto_1):
  SIt X (.Tuple elts ek ep) (.Call (.Name "enumerate" p) [a] [] pos) (iEn ma):=by
 obtain⟨t,pa,sa⟩:=ha
 refine⟨_,pi_enum hg hm pa hs hs2,fun B G H σ ρ ds ρ' Q I hm k=>?_⟩
 obtain⟨⟨es,ρ1⟩,e1,h2⟩:=zaa hm
 obtain⟨xs,ex,h2⟩:=zag h2
 cases h2
 refine sa B G H σ ρ es ρ1 _ I e1 fun G1 H1 vs I1 f1 r1=>?_
 match es,ex,r1 with
 |[],ex,_=>cases ex
 |_::_::_,ex,_=>exact absurd ex (by simp[zaG])
 |[d],ex,r1=>
  obtain⟨x,rfl,rx⟩:=r1.one
  obtain⟨t1,a1,us,rfl,s1,c1⟩:=zhV rx ex
  have n1:=c1.length
  refine⟨t1,a1,us,rfl,s1 _ I1.fz,k _ G1 H1 I1 f1 ⟨fun H i f hi=>?_,fun H i x H' f y d e=>?_,fun H i f hi=>?_⟩⟩
  ·exact⟨by simp[zgy]at hi;lia,us,s1 _ f,rfl⟩
  ·obtain⟨p,x1,hp,eh,ex',q⟩:=y
   have q1:=q us (s1 _ f)
   have hi:i<us.length:=(List.getElem?_eq_some_iff.mp q1).1
   have g1:xs[i]? =some (xs[i]'(by lia)):=List.getElem?_eq_getElem _
   simp only[zgy,List.getElem?_zipWith]at e
   rw[g1,show(List.range xs.length)[i]? =some i from by rw[List.getElem?_range (by lia)]]at e
   cases e
   obtain⟨v1,b1,r1⟩:=c1.get g1
   rw[q1]at b1;cases b1
   exact .inr ⟨p,_,_,hp,eh,ex',rfl,⟨_,_,rfl,rfl,_,_,rfl,r1,rfl⟩⟩
  ·exact⟨by simp[zgy]at hi;lia,us,s1 _ f,rfl⟩
end M
namespace M
open L2 PySem PySem.Spec
open PyProof.Rows hiding St
variable {X:Cx} {K:W.Frag} {G H:Hp} {a:Expr} {ma:MA} {σ:St} {ρ:R} {b:Nat} {l:Addr} {ys:List V} {tg':Addr->Shared->Hp->List Addr->TG} {tt:Addr->Shared->Hp->List Addr->TT} {te:Addr->Shared->Hp->List Addr->TE}
theorem zhw {st:Stmt}:SS X st (fun _=>none):=⟨_,ps_never,fun B G H σ ρ fl ρ' E I hm k=>by cases hm⟩
noncomputable def isN:D->Bool
 | .non=>true
 |_=>false
theorem isN_ok {x:V}{d:D}(r:RepD K G x d):decide (x= .non)=isN d:=by
 cases d with
 |non=>cases(show x=V.non from r);rfl
 |bl b=>cases(show x=V.bl b from r);rfl
 |int i=>cases(show x=V.int i from r);rfl
 |str s=>cases(show x=V.str s from r);rfl
 |lst ds=>obtain⟨a,xs,rfl,-⟩:=r;rfl
 |tup ds=>obtain⟨a,xs,rfl,-⟩:=r;rfl
 |scr ns=>obtain⟨a,rfl,-⟩:=r;rfl
 |exc c=>obtain⟨a,C,rfl,-⟩:=r;rfl
 |dic _ _=>obtain⟨a,ys,rfl,-⟩:=r;rfl
 |dit _ _=>obtain⟨a,ys,o,xs,rfl,-⟩:=r;rfl
theorem zgq {p q pos pos':Pos}(ml:X.mg "list"=none)(mr:X.mg "range"=none)(ha:SA X [a] ma)(hc:autoParam (X.calm=true) zu3._auto_1)(hg:autoParam (Gl X "list") zu3._auto_1)(hgr:autoParam (Gl X "range") zu3._auto_1)
  (he:autoParam (starEach [a] X.env=(false,eval a X.env)::starEach [] X.env) zu3._auto_1) (hpl:autoParam ((backTo pos' (starEach [] X.env)).any (·.1)=false) zu3._auto_1)
  (he2:autoParam (starEach [.Call (.Name "range" q) [a] [] pos'] X.env=(false,eval (.Call (.Name "range" q) [a] [] pos') X.env)::starEach [] X.env) zu3._auto_1):
  SO X (.Call (.Name "list" p) [.Call (.Name "range" q) [a] [] pos'] [] pos) (oR (iR1 ma)):=by
 obtain⟨t,pa,sa⟩:=ha
 refine⟨_,zcs (zil hc) hg ml (by decide+kernel) (zaB (zcs zjm hgr mr (by decide+kernel) pa (by decide) (by decide) he hpl) zbE he2) (by decide) (by decide) he2 rfl,fun B G H σ ρ ds ρ' Q I hm k=>?_⟩
 obtain⟨⟨items,ρ1⟩,e1,hm⟩:=zaa hm
 obtain⟨⟨es,ρ2⟩,e2,h2⟩:=zaa e1
 dsimp only at hm h2
 split at hm
 ·rename_i hlen
  obtain⟨rfl,rfl⟩:=Prod.mk.inj (Option.some.inj hm)
  refine sa B G H σ ρ es ρ2 _ I e2 fun G1 H1 vs I1 f1 r1=>?_
  split at h2
  ·rename_i j
   split at h2
   ·rename_i hj
    obtain⟨rfl,rfl⟩:=Prod.mk.inj (Option.some.inj h2)
    obtain⟨x,rfl,rx⟩:=r1.one
    cases(show x=V.int j from rx)
    refine⟨j,rfl,fun p hp=>⟨p,0,j,rfl,zaf,⟨by decide,by decide,(zbg hj).1,(zbg hj).2⟩,by simpa[zbo]using hlen,fun l hl=>?_⟩⟩
    have I2:=I1.allocO hp (.rng 0 j)
    have ej:(j-0).toNat=j.toNat:=by rw[Int.sub_zero]
    rw[ej]at*
    obtain⟨I3,g3,h3,b3,n3⟩:=I2.newO hl ((List.range j.toNat).map fun(k:Nat)=>V.int (0+k))
    exact k G1 _ l _ I3 f1 g3 h3 (zim 0 _) b3 n3
   ·cases h2
  ·cases h2
 ·cases hm
noncomputable def zg8 (b:Nat)(ρ:R):Bool:=match ρ[b]? with
 |some (.par _)=>zbH (ρ.set b .emp)
 |_=>false
noncomputable def zdW (b:Nat)(ρ:R):List D:=match ρ[b]? with
 |some (.par cs)=>cs
 |_=>[]
noncomputable def zir (b:Nat)(g:D->R->Option R)(mt:MT)(me:ME):D->R->Option (Option D×R):=fun d ρ=>(g d ρ).bind fun ρ1=>(mt ρ1).bind fun p=>if p.1 then(me p.2).bind fun q=>if zg8 b q.2 then some (some q.1,q.2)else none else if zg8 b p.2 then some (none,p.2)else none
noncomputable def oLCM (cap:List Nat)(t b w:Nat)(mi:MA)(g:D->R->Option R)(mt:MT)(me:ME):MO:=fun ρ=>(mi ρ).bind fun p=>if p.1.length<=16777216 then
    ((fzL (cap.filter (· !=w)) p.2)[w]?).bind fun s=>s.items.bind fun cs=>(zbN (zir b g mt me) p.1 ((capR cap t (fzL (cap.filter (· !=w)) p.2)).set b (.par cs))).map fun q=>(q.1,(fzL (cap.filter (· !=w)) p.2).set w (s.put (zdW b q.2)))
  else none
theorem VS.setEmp (h:VS K G σ ρ)(b:Nat):VS K G σ (ρ.set b .emp) where
 len:=by rw[List.length_set];exact h.len
 no:=by
  have h0:=h.no
  unfold zbH at*
  rw[List.all_eq_true]at*
  intro s hs
  rcases List.mem_or_eq_of_mem_set hs with z|z
  ·exact h0 s z
  ·rw[z]
 val:=fun i d e=>by
  rw[List.getElem?_set]at e
  split at e
  ·split at e
   ·cases e
   ·cases e
  ·exact h.val i d e
theorem VS.siP {cs:List D}(h:VS K G σ (ρ.set b .emp))(fz:Fz G H)(hb:ρ[b]? =some (.par cs))(hs:σ[b]? =some (some (.ref l)))(gl:G l=none)(hl:H l=some (.lst ys))(r:RepL K G ys cs):SI K ⟨G,H,[(b,l)]⟩ G H σ ρ where
 fz:=fz
 g0:=Fz.refl G
 new:=fun b o e=> .inl (by show G b≠none;rw[e];simp)
 keep:=fun b o e _=>e
 there:=fun b e=>e
 ob:=fun i c m=>by
  have:i=b/\c=l:=by simpa using m
  rw[this.2]
  show H l≠none
  rw[hl];simp
 len:=by rw[h.len,List.length_set]
 slot:=fun i s e=>by
  by_cases z:i=b
  ·subst z
   rw[hb]at e;cases e
   exact⟨l,ys,hs,gl,hl,r,by simp⟩
  ·have e':(ρ.set b .emp)[i]? =some s:=by rw[List.getElem?_set_ne (Ne.symm z)];exact e
   cases s with
   |emp=>trivial
   |two _ _=>trivial
   |tre t=>exact absurd rfl ((zcT h.no e').1 t)
   |ptr t=>exact absurd rfl ((zcT h.no e').2 t)
   |val d=>exact h.val i d e'
   |own ds=>exact absurd ⟨_,ds,e',rfl⟩ (zcO h.no (i:=i))
   |par ds=>exact absurd ⟨_,ds,e',rfl⟩ (zcO h.no (i:=i))
 dis:=fun i j s t a hij e1 e2 w1 w2=>by
  have key:∀(i:Nat) (s:Sl) ov,ρ[i]? =some s->OwS K G H ov a s->i=b:=fun i s ov e w=>by
   by_cases z:i=b
   ·exact z
   ·exact absurd w (zfD h.no (show(ρ.set b .emp)[i]? =some s by rw[List.getElem?_set_ne (Ne.symm z)];exact e))
  exact hij ((key i s _ e1 w1).trans (key j t _ e2 w2).symm)
theorem VS.ofP {B:Bs}(I:SI K B G H σ ρ)(hO:B.O=[(b,l)])(h:zg8 b ρ=true):∃cs ys,ρ[b]? =some (.par cs)/\σ[b]? =some (some (.ref l))/\G l=none/\H l=some (.lst ys)/\RepL K G ys cs/\VS K G σ (ρ.set b .emp):=by
 unfold zg8 at h
 split at h
 ·rename_i cs e
  obtain⟨l',ys,h1,h2,h3,h4,h5⟩:=I.slot b _ e
  have hl:l'=l:=by rw[hO]at h5;simpa using h5
  subst hl
  refine⟨cs,ys,e,h1,h2,h3,h4,⟨by rw[List.length_set];exact I.len,h,fun i d e'=>?_⟩⟩
  rw[List.getElem?_set]at e'
  split at e'
  ·split at e'
   ·cases e'
   ·cases e'
  ·exact I.slot i _ e'
 ·cases h
structure LcP (K:W.Frag) (bk:Nat) (g:D->R->Option R) (mt:MT) (me:ME) (items all:List D) (ρf:R) (G2 H1:Hp) (DD l:Addr) (i:Nat) (σc:St) (Hc Gc:Hp) (ρc:R) (acc:List D) (xs:List V) (rest cs:List D) (ys:List V):Prop where
 fc:Fz G2 Gc
 fcH:Fz Gc Hc
 nw:∀b o,Gc b=some o->G2 b≠none\/H1 b=none
 kp:∀b o,b≠l->H1 b=some o->Hc b=some o
 gD:Gc DD=none
 hDc:Hc DD=some (.lst xs)
 ra:RepL K Gc xs acc
 hx:xs.length<=i
 eb:ρc[bk]? =some (.par cs)
 sb:σc[bk]? =some (some (.ref l))
 glc:Gc l=none
 hlc:Hc l=some (.lst ys)
 rlc:RepL K Gc ys cs
 vs:VS K Gc σc (ρc.set bk .emp)
 ec:zbN (zir bk g mt me) (items.drop i) ρc=some (rest,ρf)
 eall:all=acc++rest
section
variable {X:Cx} {elt iter tg:Expr} {ifs:List Expr} {scope:Scope} {pos:Pos} {N:List Str} {cap:List Nat} {t bk wk:Nat} {mi:MA} {g:D->R->Option R} {mt:MT} {me:ME}
theorem zi0 (hbw:cap[bk]? =some wk){wi:TI}
    (si:∀B G H σ ρ ds ρ' (Q:It->Hp->Prop),SI X.K B G H σ ρ->mi ρ=some (ds,ρ')->(∀J G' H',SI X.K B G' H' σ ρ'->Fz G G'->Itm X.K J G' ds->Q J H')->wi σ H Q)
    (sg:∀C s H₀ fp B G H σ ρ v d ρ' (Q:St->Hp->Prop),SI X.K B G H σ ρ->RepD X.K G v d->g d ρ=some ρ'->(∀G' H' σ',SI X.K B G' H' σ' ρ'->Fz G G'->Q σ' H')->tg' C s H₀ fp v σ H Q)
    (st:∀C s H₀ fp B G H σ ρ d ρ' (Q:Bool->Hp->Prop),SI X.K B G H σ ρ->mt ρ=some (d,ρ')->(∀G' H',SI X.K B G' H' σ ρ'->Fz G G'->Q d H')->tt C s H₀ fp σ H Q)
    (se:∀C s H₀ fp B G H σ ρ d ρ' (Q:VK),SI X.K B G H σ ρ->me ρ=some (d,ρ')->(∀G' H' v,SI X.K B G' H' σ ρ'->Fz G G'->RepD X.K G' v d->Q v H')->te C s H₀ fp σ H Q):
    ∀B G H σ ρ ds ρ' (Q:VK),SI X.K B G H σ ρ->oLCM cap t bk wk mi g mt me ρ=some (ds,ρ')->
      (∀G' H' l xs,SI X.K B G' H' σ ρ'->Fz G G'->G' l=none->H' l=some (.lst xs)->RepL X.K G' xs ds->B.H l=none->Nw X.K G' H' σ ρ' l->Q (.ref l) H')->tLC (capσ cap t) wi tg' tt te σ H Q:=by
  intro B G H σ ρ ds ρ' Q I hm k
  obtain⟨⟨items,ρ1⟩,e1,hm⟩:=zaa hm
  refine si B G H σ ρ items ρ1 _ I e1 fun J G1 H1 I1 f1 IT DD hD=>?_
  dsimp only at hm
  split at hm
  . rename_i hlen
    obtain⟨sw,ew,hm⟩:=zaa hm
    obtain⟨cs0,qw,hm⟩:=zaa hm
    obtain⟨⟨all,ρf⟩,e2,e3⟩:=zag hm
    obtain⟨rfl,rfl⟩:=Prod.mk.inj e3
    obtain⟨G2,I2,f2⟩:=SI.fzL (cap.filter (· !=wk)) I1
    have hDG:G2 DD=none:=I2.fz.free hD
    obtain⟨l,ys0,hσ,gl0,hl0,rl0⟩:=I2.wr ew qw
    have hlD:DD≠l:=(zan hl0 hD).symm
    have hb:bk<cap.length:=(List.getElem?_eq_some_iff.mp hbw).1
    have hbe:cap[bk]=wk:=(List.getElem?_eq_some_iff.mp hbw).2
    have hσb:(capσ cap t σ)[bk]? =some (some (.ref l)):=by
      unfold capσ
      rw[List.getElem?_append_left (by simpa using hb),List.getElem?_map,List.getElem?_eq_getElem hb,hbe]
      simp[hσ]
    have hcl:bk<(capR cap t (M.fzL (cap.filter (· !=wk)) ρ1)).length:=by unfold capR;simp;lia
    refine⟨fun i m σc Hc=>m=items.length-i/\i<=items.length/\∃Gc ρc acc xs rest cs ys,LcP X.K bk g mt me items all ρf G2 H1 DD l i σc Hc Gc ρc acc xs rest cs ys,
      ⟨items.length,by simp,Nat.zero_le _,G2,(capR cap t (M.fzL (cap.filter (· !=wk)) ρ1)).set bk (.par cs0),[],[],all,cs0,ys0,{fc:=Fz.refl _,fcH:=I2.fz.right hDG _,nw:=fun b o e=> .inl (by rw[e];simp),kp:=fun b o _ e=>by rw[zad (zan e hD)];exact e,gD:=hDG,hDc:=zaf,ra:= .nil,hx:=Nat.le_refl _,eb:=by rw[List.getElem?_set];simp[hcl],sb:=hσb,glc:=gl0,hlc:=by rw[zad (zan hl0 hD)];exact hl0,rlc:=rl0,vs:=by rw[List.set_set];exact(zj9 I2 cap t).setEmp bk,ec:=by simpa using e2,eall:=rfl}⟩,?_⟩
    rintro i m σc Hc ⟨rfl,hi,Gc,ρc,acc,xs,rest,cs,ys,J0⟩
    obtain⟨fc,fcH,nw,kp,gD,hDc,ra,hx,eb,sb,glc,hlc,rlc,vs,ec,eall⟩:=J0
    by_cases hlt:i<items.length
    . refine .inr ⟨IT.go Hc i (f2.trans (fc.trans fcH)) hlt,fun C s₀ H₀ fp x H' y=>?_⟩
      rw[List.drop_eq_getElem_cons hlt]at ec
      simp only[zbN]at ec
      obtain⟨⟨o,ρ3⟩,h3,ec⟩:=zaa ec
      obtain⟨⟨rest2,ρ4⟩,h4,ec⟩:=zag ec
      obtain⟨rfl,rfl⟩:=Prod.mk.inj ec
      dsimp only at h4
      unfold zir at h3
      obtain⟨ρ5,h5,h3⟩:=zaa h3
      obtain⟨⟨ok,ρ6⟩,h6,h3⟩:=zaa h3
      dsimp only at h3
      have Ic:SI X.K ⟨Gc,Hc,[(bk,l)]⟩ Gc Hc σc ρc:=vs.siP fcH eb sb glc hlc rlc
      have fz2:Fz G1 Hc:=f2.trans (fc.trans fcH)
      have yy:=IT.yld Hc i x H' fz2 y items[i] (List.getElem?_eq_getElem hlt)
      have yy2:(H'=Hc/\RepD X.K Gc x items[i])\/∃p xs es,Hc p=none/\H'=upd Hc p (.tup xs)/\x= .ref p/\items[i]= .tup es/\RepL X.K Gc xs es:=by
        rcases yy with⟨a,b⟩|⟨p,xs,es,a,b,c,d,e⟩
        . exact .inl ⟨a,b.mono (f2.trans fc)⟩
        . exact .inr ⟨p,xs,es,a,b,c,d,e.mono (f2.trans fc)⟩
      obtain⟨G3,I3,f3,r3⟩:=Ic.yld yy2
      refine sg C s₀ H₀ fp _ G3 H' σc ρc x items[i] ρ5 _ I3 r3 h5 fun G4 H4 σ4 I4 f4=>st C s₀ H₀ fp _ G4 H4 σ4 ρ5 ok ρ6 _ I4 h6 fun G5 H5 I5 f5=>?_
      have facts:∀(G' H':Hp) (σ':St) (ρ':R),SI X.K ⟨Gc,Hc,[(bk,l)]⟩ G' H' σ' ρ'->(∀b o,G' b=some o->G2 b≠none\/H1 b=none)/\(∀b o,b≠l->H1 b=some o->H' b=some o)/\G' DD=none/\H' DD=some (.lst xs):=fun G' H' σ' ρ' I'=>by
        refine⟨fun b o e=>?_,fun b o ne e=>I'.keep b o (kp b o ne e) (by simp;exact ne),?_,I'.keep DD _ hDc (by simp;exact hlD)⟩
        . rcases I'.new b o e with h|h
          . have h:Gc b≠none:=h
            cases q:Gc b with
            |none=>exact absurd q h
            |some u=>exact nw b u q
          . refine .inr ?_
            cases q:H1 b with
            |none=>rfl
            |some u=>
              have hn:Hc b=none:=h
              have nb:b≠l:=fun z=>by rw[z,hlc]at hn;cases hn
              have:=kp b u nb q
              rw[hn]at this;cases this
        . cases q:G' DD with
          |none=>rfl
          |some u=>
            rcases I'.new DD u q with h|h
            . exact absurd gD h
            . rw[show Hc DD=none from h]at hDc;cases hDc
      cases ok with
      |false=>
        simp only[Bool.false_eq_true,if_false]at h3
        split at h3
        . rename_i hno
          cases h3
          obtain⟨a1,a2,a3,a4⟩:=facts G5 H5 σ4 _ I5
          obtain⟨cs',ys',w1,w2,w3,w4,w5,w6⟩:=VS.ofP I5 rfl hno
          exact⟨items.length-(i+1),by lia,rfl,hlt,G5,_,acc,xs,rest2,cs',ys',{fc:=fc.trans (f3.trans (f4.trans f5)),fcH:=I5.fz,nw:=a1,kp:=a2,gD:=a3,hDc:=a4,ra:=ra.mono (f3.trans (f4.trans f5)),hx:=by lia,eb:=w1,sb:=w2,glc:=w3,hlc:=w4,rlc:=w5,vs:=w6,ec:=h4,eall:=by simpa using eall}⟩
        . cases h3
      |true=>
        simp only[if_true]at h3 ⊢
        obtain⟨⟨dv,ρ7⟩,h7,h3⟩:=zaa h3
        dsimp only at h3
        split at h3
        . rename_i hno
          cases h3
          refine se C s₀ H₀ fp _ G5 H5 σ4 ρ6 dv _ _ I5 h7 fun G6 H6 v I6 f6 r6=>?_
          obtain⟨a1,a2,a3,a4⟩:=facts G6 H6 σ4 _ I6
          obtain⟨cs',ys',w1,w2,w3,w4,w5,w6⟩:=VS.ofP I6 rfl hno
          have ff:Fz Gc G6:=f3.trans (f4.trans (f5.trans f6))
          exact⟨xs,a4,by rw[sizeLine_eq];lia,items.length-(i+1),by lia,rfl,hlt,G6,_,acc++[dv],xs++[v],rest2,cs',ys',{fc:=fc.trans ff,fcH:=I6.fz.right a3 _,nw:=a1,kp:=fun b o ne e=>by rw[zad (zan e hD)];exact a2 b o ne e,gD:=a3,hDc:=zaf,ra:=(ra.mono ff).snoc r6,hx:=by rw[List.length_append,List.length_singleton];lia,eb:=w1,sb:=w2,glc:=w3,hlc:=by rw[zad (Ne.symm hlD)];exact w4,rlc:=w5,vs:=w6,ec:=h4,eall:=by rw[eall];simp}⟩
        . cases h3
    . have e:i=items.length:=by lia
      subst e
      rw[List.drop_length]at ec
      obtain⟨rfl,rfl⟩:=Prod.mk.inj (Option.some.inj ec)
      have hall:all=acc:=by rw[eall,List.append_nil]
      refine .inl ⟨IT.stop Hc _ (f2.trans (fc.trans fcH)) (Nat.le_refl _),?_⟩
      rw[<-hall]at ra
      have hp:zdW bk ρc=cs:=by unfold zdW;rw[eb]
      rw[hp]at k
      exact k Gc Hc DD xs (I2.growW ew qw hσ fc fcH nw kp glc hlc rlc) (f1.trans (f2.trans fc)) gD hDc ra (I2.there DD hD) (I2.own_neW ew qw hσ hD nw kp)
  . cases hm
theorem so_lcM (cap:List Nat)(t bk wk:Nat)(N:List Str)(hc:X.calm=true)(hi:SIt X tg iter mi)(hg:∀C s H fp,SG (cxC X N scope C s H fp) tg g)(ht:∀C s H fp,STs (cxC X N scope C s H fp) ifs mt)(he:∀C s H fp,SE (cxC X N scope C s H fp) elt me)(hbw:autoParam (cap[bk]? =some wk) zu3._auto_1)
    (hk:autoParam (scope.kind= .function) zu3._auto_1) (hb:autoParam (blkB X.env scope=true) zu11._auto_1) (hcap:autoParam (capB scope.names N X.N cap t=true) zu11._auto_1)
    (hs:autoParam (∀x,foldedSetIterable iter X.env x=pure x) zu9._auto_1):SO X (.ListComp elt [⟨tg,iter,ifs,0⟩] scope pos) (oLCM cap t bk wk mi g mt me):=by
  obtain⟨wi,pi,si⟩:=hi
  exact⟨_,pe_lc hc (zhL hk hb) (zhN hcap) pi (fun C s H fp=>(hg C s H fp).choose_spec.1) (fun C s H fp=>(ht C s H fp).choose_spec.1) (fun C s H fp=>(he C s H fp).choose_spec.1) hs,
    zi0 hbw si (fun C s H fp=>(hg C s H fp).choose_spec.2) (fun C s H fp=>(ht C s H fp).choose_spec.2) (fun C s H fp=>(he C s H fp).choose_spec.2)⟩
end
noncomputable def rngP (p:Addr)(i j k:Int)(h:Heap):Prop:=∃t u v,h.get? p=some {cls:= .type "range",data:= .fields #[.int i t,.int j u,.int k v]}
noncomputable def rRng3:List V->Hp->VK->Prop:=fun xs H Q=>∃i j k,xs=[.int i,.int j,.int k]/\(0<k/\k<1073741824)/\∀p,H p=none->Q (.ref p) (upd H p (.ext (rngP p i j k)))
theorem zkv:zdT X (.type "range") rRng3:=by
 intro pins s σ H xs us Q I r h
 obtain⟨i,j,k,rfl,⟨hk,hk'⟩,q⟩:=h
 cases r with
 |cons r rr=>
  cases rr with
  |cons r' rr=>
   cases rr with
   |cons r'' rr=>
    cases rr
    obtain⟨t,rfl⟩:=r
    obtain⟨t',rfl⟩:=r'
    obtain⟨t'',rfl⟩:=r''
    refine call_range_3 (by lia) ⟨.ref s.heap.objs.size,_,I.laid (t':=s.toks) (o:= .ext (rngP s.heap.objs.size i j k)) (fun b o e=>Heap.get?_push_of_some _ e) (Nat.le_refl _) ⟨⟨t,t',t'',Heap.get?_push_size _ rfl⟩,⟨_,Heap.get?_push_size _ rfl⟩,fun h1 h2 ⟨a,b,c,e⟩ kk=>⟨a,b,c,kk _ e⟩⟩,rfl,q _ I.fresh⟩ (Or.inl (PyProof.noPylong_small (by lia)))
noncomputable def rListR3:List V->Hp->VK->Prop:=fun xs H Q=>∃p i j k,xs=[.ref p]/\H p=some (.ext (rngP p i j k))/\(-(2^60)<=i/\i<2^60/\ -(2^60)<=j/\j<2^60/\0<k/\k<1073741824)/\cntS i j k<=16777216/\∀l,H l=none->Q (.ref l) (upd H l (.lst ((List.range (cntS i j k)).map fun(n:Nat)=>V.int (i+n*k))))
theorem zgL (hc:X.calm=true):zdT X (.type "list") rListR3:=by
 intro pins s σ H xs us Q I r h
 obtain⟨p,i,j,st,rfl,hp,⟨h1,h2,h3,h4,h5,h6⟩,hz,q⟩:=h
 obtain⟨u,rfl,ru⟩:=zgc r
 cases ru
 obtain⟨⟨t,t',t'',e⟩,-,-⟩:=I.hok p _ hp
 refine call_list_range (a:=i) (b:=j) (c:=st) (t:=t) (u:=t') (v:=t'') (n:=cntS i j st) (I.ok.hd hc) e (small_st h1 h2 h3 h4 h5 h6) (zh9 h5).symm (by lia) fun h' tk acc' c' hk hl ⟨hs1,hs2⟩=>?_
 refine⟨.ref s.heap.objs.size,_,I.laid (h':=h') (t':=tk) (o:= .lst ((List.range (cntS i j st)).map fun(n:Nat)=>V.int (i+n*st))) hk (Nat.le_refl _) ⟨by rw[List.length_map,List.length_range,sizeLine_eq];exact hz,acc'.toList,c',?_,by simpa using hl⟩,rfl,q _ I.fresh⟩
 have key:∀(n:Nat) (l:List Value),l.length=n->(∀k v,l[k]? =some v->∃t,v=Value.int (i+(k:Nat)*st) t)->Vals ((List.range n).map fun(k:Nat)=>V.int (i+k*st)) l:=by
  intro n
  induction n with
  |zero=>intro l hl _;have:l=[]:=List.eq_nil_of_length_eq_zero hl;subst this;exact .nil
  |succ n ih=>
   intro l hl hv
   have e:l=l.take n++[l[n]'(by lia)]:=by
    rw[<-List.take_succ_eq_append_getElem (by lia),List.take_of_length_le (by lia)]
   rw[List.range_succ,List.map_append,e]
   refine Vals.append (ih (l.take n) (by rw[List.length_take];lia) fun k v hk=>?_) (.cons ?_ .nil)
   ·have hkn:k<n:=by
     have:=(List.getElem?_eq_some_iff.mp hk).1
     rw[List.length_take]at this;lia
    rw[List.getElem?_take_of_lt hkn]at hk
    exact hv k v hk
   ·obtain⟨t,ht⟩:=hv n _ (List.getElem?_eq_getElem (by lia))
    exact⟨t,ht⟩
 exact key _ acc'.toList (by rw[Array.length_toList];exact hs1) fun k v hk=>hs2 k v (by simpa using hk)
theorem zjF (i st:Int)(n:Nat):RepL K G ((List.range n).map fun(k:Nat)=>V.int (i+k*st)) (zfu i st n):=by
 have e1:((List.range n).map fun(k:Nat)=>V.int (i+k*st))=((List.range n).map fun(k:Nat)=>i+(k:Int)*st).map V.int:=by rw[List.map_map];rfl
 have e2:zfu i st n=((List.range n).map fun(k:Nat)=>i+(k:Int)*st).map D.int:=by unfold zfu;rw[List.map_map];rfl
 rw[e1,e2]
 exact RepL.ints _
theorem zjE {a b c:Expr}{p q pos pos':Pos}(ml:X.mg "list"=none)(mr:X.mg "range"=none)(ha:SA X [a,b,c] ma)(hc:autoParam (X.calm=true) zu3._auto_1)(hg:autoParam (Gl X "list") zu3._auto_1)(hgr:autoParam (Gl X "range") zu3._auto_1)
  (he:autoParam (starEach [a,b,c] X.env=(false,eval a X.env)::starEach [b,c] X.env) zu3._auto_1) (hpl:autoParam ((backTo pos' (starEach [b,c] X.env)).any (·.1)=false) zu3._auto_1)
  (he2:autoParam (starEach [.Call (.Name "range" q) [a,b,c] [] pos'] X.env=(false,eval (.Call (.Name "range" q) [a,b,c] [] pos') X.env)::starEach [] X.env) zu3._auto_1):
  SO X (.Call (.Name "list" p) [.Call (.Name "range" q) [a,b,c] [] pos'] [] pos) (oR (iR3 ma)):=by
 obtain⟨t,pa,sa⟩:=ha
 refine⟨_,zcs (zgL hc) hg ml (by decide+kernel) (zaB (zcs zkv hgr mr (by decide+kernel) pa (by decide) (by decide) he hpl) zbE he2) (by decide) (by decide) he2 rfl,fun B G H σ ρ ds ρ' Q I hm k=>?_⟩
 obtain⟨⟨items,ρ1⟩,e1,hm⟩:=zaa hm
 obtain⟨⟨es,ρ2⟩,e2,h2⟩:=zaa e1
 dsimp only at hm h2
 split at hm
 ·rename_i hlen
  obtain⟨rfl,rfl⟩:=Prod.mk.inj (Option.some.inj hm)
  refine sa B G H σ ρ es ρ2 _ I e2 fun G1 H1 vs I1 f1 r1=>?_
  split at h2
  ·rename_i i j l
   split at h2
   ·rename_i hj
    simp only[Bool.and_eq_true,decide_eq_true_eq]at hj
    obtain⟨rfl,rfl⟩:=Prod.mk.inj (Option.some.inj h2)
    obtain⟨x,xs,rfl,rx,r2⟩:=r1
    obtain⟨y,ys,rfl,ry,r3⟩:=r2
    obtain⟨z,zs,rfl,rz,r4⟩:=r3
    cases(show x=V.int i from rx)
    cases(show y=V.int j from ry)
    cases(show z=V.int l from rz)
    cases(show zs=[]from r4)
    have a1:=zfR hj.1.1.1
    have a2:=zfR hj.1.1.2
    refine⟨i,j,l,rfl,⟨hj.1.2,hj.2⟩,fun p hp=>⟨p,i,j,l,rfl,zaf,⟨a1.1,a1.2,a2.1,a2.2,hj.1.2,hj.2⟩,by simpa[zfu]using hlen,fun m hm=>?_⟩⟩
    have I2:=I1.allocO hp (.ext (rngP p i j l))
    obtain⟨I3,g3,h3,b3,n3⟩:=I2.newO hm ((List.range (cntS i j l)).map fun(n:Nat)=>V.int (i+n*l))
    exact k G1 _ m _ I3 f1 g3 h3 (zjF i l _) b3 n3
   ·cases h2
  ·cases h2
 ·cases hm
end M
namespace M
open L2 PySem
theorem zff:∀{ds:List D} {ns:List Int},zaM ds=some ns->ds=ns.map .int
 |[],_,h=>by cases h;rfl
 | .int i::ds,_,h=>by
  obtain⟨ms,e1,e2⟩:=zag h
  cases e2
  rw[zff e1];rfl
 | .non::_,_,h=>by cases h
 | .bl _::_,_,h=>by cases h
 | .str _::_,_,h=>by cases h
 | .lst _::_,_,h=>by cases h
 | .tup _::_,_,h=>by cases h
 | .scr _::_,_,h=>by cases h
 | .exc _::_,_,h=>by cases h
 |(.dic _ _)::_,_,h=>by cases h
 |(.dit _ _)::_,_,h=>by cases h
section
variable {X:Cx} {a b:Expr} {ma mb:ME} {pos:Pos}
theorem se_globE {x:Str}{i:Int}(hm:∃t,X.mg x=some (.int i t))(hg:autoParam (Gl X x) zu3._auto_1)(hd:autoParam ((x==("__debug__":Str))=false) zu1._auto_1):SE X (.Name x pos) (eC (.int i)):=
 let⟨_,e⟩:=hm;se_globI e hg hd
end
end M
namespace M
open L2 PySem PySem.Spec
open PyProof.Rows hiding St
noncomputable def iR2L (ma:MA):MA:=fun ρ=>(ma ρ).bind fun p=>match p.1 with
 |[.int i,.int j]=>some (zbo i (j-i).toNat,p.2)
 |_=>none
noncomputable def ze2:List D->Option (List (List Int))
 |[]=>some []
 | .tup ds::r=>(zaM ds).bind fun ns=>(ze2 r).map fun nss=>ns::nss
 |_::_=>none
theorem refs_get {as:List Addr}{its:List Value}(r:Vals (as.map V.ref) its){i:Nat}{v:Value}(e:its[i]? =some v):∃a,as[i]? =some a/\v= .ref a:=by
 have hl:=r.length
 have hi:i<its.length:=(List.getElem?_eq_some_iff.mp e).1
 rw[List.length_map]at hl
 have e2:(as.map V.ref)[i]? =some (.ref as[i]):=by rw[List.getElem?_map,List.getElem?_eq_getElem (by lia)];rfl
 obtain⟨u,h1,h2⟩:=r.get e2
 rw[e]at h1
 cases h1
 exact⟨_,List.getElem?_eq_getElem (by lia),h2⟩
theorem zgi {K:W.Frag}{G:Hp}:∀{ys:List V} {ds:List D} {nss:List (List Int)},RepL K G ys ds->ze2 ds=some nss->∃as:List Addr,ys=as.map V.ref/\as.length=nss.length/\∀(i:Nat) a ns,as[i]? =some a->nss[i]? =some ns->G a=some (.tup (ns.map V.int))
 |_,[],nss,r,e=>by cases e;cases r;exact⟨[],rfl,rfl,fun i a ns h=>by simp at h⟩
 |_,d::ds,nss,⟨x,ys,e0,q,r⟩,e=>by
  subst e0
  cases d with
  |tup es=>
   obtain⟨ns,e1,e⟩:=zaa e
   obtain⟨ms,e2,e3⟩:=zag e
   subst e3
   obtain⟨as,rfl,hl,h⟩:=zgi r e2
   obtain⟨a,zs,rfl,ha,rz⟩:=q
   rw[zdI e1]at rz
   rw[RepL.ints_eq rz]at ha
   refine⟨a::as,rfl,by rw[List.length_cons,List.length_cons,hl],fun i b ns' h1 h2=>?_⟩
   cases i with
   |zero=>simp at h1 h2;subst h1 h2;exact ha
   |succ i=>exact h i b ns' (by simpa using h1) (by simpa using h2)
  |non=>cases e
  |bl _=>cases e
  |int _=>cases e
  |str _=>cases e
  |lst _=>cases e
  |scr _=>cases e
  |exc _=>cases e
  |dic _ _=>cases e
  |dit _ _=>cases e
theorem nn {α:Type}{o:Option α}{x:α}(e:o=some x):o≠none:=by rw[e];exact fun z=>by cases z
noncomputable abbrev MX:=R->Option Str
end M
namespace M
open L2 PySem
noncomputable def likeS:Sl->Sl->Bool
 | .own ds,.own es=>match zaM ds,zaM es with
  |some a,some b=>a==b
  |_,_=>false
 | .par ds,.par es=>match zaM ds,zaM es with
  |some a,some b=>a==b
  |_,_=>false
 | .own _,_=>false
 | .par _,_=>false
 | .tre _,_=>false
 | .ptr _,_=>false
 |_,_=>true
end M
namespace M
open L2 PySem PySem.Spec
open PyProof.Rows hiding St
variable {s:Sl} {t:T} {ov:Option (Option V)} {a:Addr} {i j:Nat} {v:V} {A:List Addr} {ds:List D} {K:W.Frag} {B:Bs} {G H:Hp} {σ:St} {ρ:R} {q:List Int×List D}
noncomputable def Sl.putT (s:Sl)(t:T):Sl:=match s with
 | .tre _=> .tre t
 | .ptr _=> .ptr t
 |s=>s
noncomputable def Sl.tree:Sl->Option T
 | .tre t=>some t
 |_=>none
section
variable {K:W.Frag} {B:Bs} {G G' H H':Hp} {σ:St} {ρ:R}
theorem zhY (q:s.tree=some t):OwS K G H ov a s↔∃v A,ov=some (some v)/\RepT K G H v t A/\a∈A:=by
 cases s with
 |tre _=>cases q;exact Iff.rfl
 |_=>cases q
theorem zkt (q:s.tree=some t)(t':T):(s.putT t').tree=some t':=by
 cases s with
 |tre _=>rfl
 |_=>cases q
theorem SI.tree (I:SI K B G H σ ρ)(e:ρ[i]? =some s)(q:s.tree=some t):∃v A,σ[i]? =some (some v)/\RepT K G H v t A/\A.Nodup/\(∀a∈A,G a=none)/\∀a∈A,B.H a=none\/(i,a)∈B.O:=by
 have h:=I.slot i s e
 cases s with
 |tre _=>cases q;obtain⟨v,A,h1,h2,h3,h4⟩:=h;exact⟨v,A,h1,h2,h3,fun a m=>(h4 a m).1,fun a m=> .inl (h4 a m).2⟩
 |_=>cases q
theorem SI.chT (I:SI K B G H σ ρ){i:Nat}{t t':T}{A A':List Addr}(e:ρ[i]? =some s)(q:s.tree=some t)(hv:σ[i]? =some (some v))(r:RepT K G H v t A)(fz:Fz G H')(kp:∀b o,b∉A->H b=some o->H' b=some o)(th:∀b,H' b=none->H b=none)
  (r':RepT K G H' v t' A') (nd:A'.Nodup) (sub:∀a∈A',a∈A\/H a=none):SI K B G H' σ (ρ.set i (s.putT t')):=by
 obtain⟨v1,A1,h1,h2,h3,h4,h5⟩:=I.tree e q
 rw[hv]at h1;cases h1
 have:A1=A:=h2.det r fun _ _=>rfl
 subst this
 have g':∀a∈A',G a=none:=fun a m=>by
  rcases sub a m with z|z
  ·exact h4 a z
  ·exact I.fz.free z
 have b':∀a∈A',B.H a=none\/(i,a)∈B.O:=fun a m=>by
  rcases sub a m with z|z
  ·exact h5 a z
  ·exact .inl (I.there a z)
 have h:=I.chg (i:=i) (ov:=some v) (s':=s.putT t') (G':=G) (H':=H') fz (Fz.refl G) I.new (fun b o k1 k2=>kp b o (fun m=>?_) (I.keep b o k1 k2)) (fun b k=>I.there b (th b k)) (fun j u a z ej w g ha=>?_) ?_
 ·rwa[zej hv]at h
 ·rcases h5 b m with z|z
  ·rw[k1]at z;cases z
  ·exact k2 i z
 ·have na:a∉A1:=fun m=>I.dis j i u s a z ej e w ((zhY q).mpr ⟨v,A1,hv,h2,m⟩)
  obtain⟨x,hx⟩:=Option.ne_none_iff_exists'.mp ha
  refine⟨g,(kp a x na hx).trans hx.symm,fun w'=>?_⟩
  obtain⟨v2,A2,k1,k2,k3⟩:=(zhY (zkt q t')).mp w'
  cases k1
  rw[k2.det r' fun _ _=>rfl]at k3
  rcases sub a k3 with z|z
  ·exact na z
  ·exact ha z
 ·have sl:=I.slot i s e
  cases s with
  |tre _=>
   obtain⟨v2,A2,k1,k2,k3,k4⟩:=sl
   rw[hv]at k1;cases k1
   cases q
   have:A2=A1:=k2.det h2 fun _ _=>rfl
   subst this
   refine⟨v,A',rfl,r',nd,fun a m=>⟨g' a m,?_⟩⟩
   rcases sub a m with z|z
   ·exact(k4 a z).2
   ·exact I.there a z
  |_=>cases q
theorem SI.setT (I:SI K B G H σ ρ)(r:RepT K G H v t A)(nd:A.Nodup)(hA:∀a∈A,G a=none/\B.H a=none/\Nw K G H σ ρ a):SI K B G H (σ.set i (some v)) (ρ.set i (.tre t)):=
 I.chg I.fz (Fz.refl G) I.new I.keep I.there (fun j s a _ e w g _=>⟨g,rfl,fun⟨v2,A2,k1,k2,k3⟩=>by
  cases k1
  rw[k2.det r fun _ _=>rfl]at k3
  exact(hA a k3).2.2 j s e w⟩) ⟨v,A,rfl,r,nd,fun a m=>⟨(hA a m).1,(hA a m).2.1⟩⟩
open Classical in
end
section
variable {J κ:Type} [DecidableEq J] [DecidableEq κ]
noncomputable def lkD:List J->List D->J->Option D
 |k::ks,d::ds,j=>if k=j then some d else lkD ks ds j
 |_,_,_=>none
noncomputable def ptD (ks:List J)(ds:List D)(j:J)(d:D):List J×List D:=if ks.contains j then(ks,List.zipWith (fun k x=>if k=j then d else x) ks ds)else(ks++[j],ds++[d])
variable {K:W.Frag} {G:Hp} {em:J->κ}
theorem zg6 (inj:∀a b,em a=em b->a=b):∀{ks:List J} {ds:List D} {ys:List (κ×V)} {j:J} {d:D},ys.map (·.1)=ks.map em->RepL K G (ys.map (·.2)) ds->lkD ks ds j=some d->∃v,valV ys (em j)=some v/\RepD K G v d
 |[],_,_,_,_,_,_,h=>by cases h
 |_::_,[],_,_,_,_,_,h=>by cases h
 |k::ks,x::ds,[],j,d,e,_,_=>by cases e
 |k::ks,x::ds,y::ys,j,d,e,⟨z,zs,e1,r1,r2⟩,h=>by
  cases e1
  have e2:=List.cons.inj e
  unfold lkD at h
  by_cases q:k=j
  ·rw[if_pos q]at h;cases h
   subst q
   exact⟨y.2,zef e2.1,r1⟩
  ·rw[if_neg q]at h
   obtain⟨v,h1,h2⟩:=zg6 inj e2.2 r2 h
   refine⟨v,?_,h2⟩
   rw[zdq fun z=>q (inj _ _ (e2.1.symm.trans z)),h1]
theorem zi6 (inj:∀a b,em a=em b->a=b):∀{ks:List J} {ds:List D} {ys:List (κ×V)} {j:J},ys.map (·.1)=ks.map em->RepL K G (ys.map (·.2)) ds->lkD ks ds j=none->valV ys (em j)=none
 |[],_,[],_,_,_,_=>rfl
 |[],_,_::_,_,e,_,_=>by cases e
 |_::_,_,[],_,e,_,_=>by cases e
 |k::ks,[],y::ys,_,_,r,_=>by cases r
 |k::ks,x::ds,y::ys,j,e,⟨z,zs,e1,r1,r2⟩,h=>by
  cases e1
  have e2:=List.cons.inj e
  unfold lkD at h
  by_cases q:k=j
  ·rw[if_pos q]at h;cases h
  ·rw[if_neg q]at h
   rw[zdq fun z=>q (inj _ _ (e2.1.symm.trans z)),zi6 inj e2.2 r2 h]
theorem zgt (inj:∀a b,em a=em b->a=b){ks:List J}{ys:List (κ×V)}{j:J}(e:ys.map (·.1)=ks.map em)(r:RepL K G (ys.map (·.2)) ds):(valV ys (em j)).isSome=(lkD ks ds j).isSome:=by
 cases h:lkD ks ds j with
 |none=>rw[zi6 inj e r h];rfl
 |some d=>obtain⟨v,h1,_⟩:=zg6 inj e r h;rw[h1];rfl
theorem pt_rep (inj:∀a b,em a=em b->a=b){ks:List J}{ys:List (κ×V)}{j:J}{d:D}(e:ys.map (·.1)=ks.map em)(r:RepL K G (ys.map (·.2)) ds)(rv:RepD K G v d):
  (putK ys (em j) v).map (·.1)=(ptD ks ds j d).1.map em/\RepL K G ((putK ys (em j) v).map (·.2)) (ptD ks ds j d).2:=by
 have any:(ys.any fun kv=>decide (kv.1=em j))=ks.contains j:=by
  clear r
  induction ys generalizing ks with
  |nil=>cases ks with
   |nil=>rfl
   |cons _ _=>cases e
  |cons y ys ih=>cases ks with
   |nil=>cases e
   |cons k ks=>
    have e2:=List.cons.inj e
    rw[List.any_cons,ih e2.2,List.contains_cons]
    congr 1
    by_cases q:j=k
    ·subst q;simp[e2.1]
    ·rw[decide_eq_false (fun z=>q (inj _ _ (e2.1.symm.trans z)).symm)]
     simp[q]
 unfold putK ptD
 rw[any]
 by_cases q:ks.contains j=true
 ·rw[if_pos q,if_pos q]
  constructor
  ·rw[List.map_map,<-e]
   apply List.map_congr_left
   intro a _
   simp only[Function.comp]
   split<;>rfl
  ·clear any q
   rw[List.map_map]
   induction ys generalizing ks ds with
   |nil=>cases ks with
    |nil=>exact RepL.nil
    |cons _ _=>cases e
   |cons y ys ih=>cases ks with
    |nil=>cases e
    |cons k ks=>
     have e2:=List.cons.inj e
     cases ds with
     |nil=>cases r
     |cons x ds=>
      obtain⟨z,zs,e1,r1,r2⟩:=r
      cases e1
      refine RepL.cons ?_ (ih e2.2 r2)
      simp only[Function.comp]
      by_cases q:k=j
      ·rw[if_pos q,if_pos (by rw[<-q];exact e2.1)];exact rv
      ·rw[if_neg q,if_neg fun z=>q (inj _ _ (e2.1.symm.trans z))];exact r1
 ·rw[if_neg q,if_neg q]
  rw[List.map_append,List.map_append,List.map_append,e]
  exact⟨rfl,r.append (.cons rv .nil)⟩
end
theorem zhZ (a b:Int)(h:kI a=kI b):a=b:=by cases h;rfl
noncomputable def Sl.dic:Sl->Option (List Int×List D)
 | .tre (.dic ks ds)=>some (ks,ds)
 | .val (.dic ks ds)=>some (ks,ds)
 |_=>none
theorem SI.dic (I:SI K B G H σ ρ)(e:ρ[j]? =some s)(h:s.dic=some q):∃p ys,σ[j]? =some (some (.ref p))/\Rd H p (.dK ys)/\ys.map (·.1)=q.1.map kI/\RepL K G (ys.map (·.2)) q.2:=by
 have tr:∀{t:T},s.tree=some t->t= .dic q.1 q.2->∃p ys,σ[j]? =some (some (.ref p))/\Rd H p (.dK ys)/\ys.map (·.1)=q.1.map kI/\RepL K G (ys.map (·.2)) q.2:=fun{t} h1 h2=>by
  subst h2
  obtain⟨v,A,k1,k2,_⟩:=I.tree e h1
  obtain⟨p,ys,rfl,e2,e3,e4,-⟩:=k2
  exact⟨p,ys,k1,.inl e2,e3,e4⟩
 cases s with
 |tre t=>cases t with
  |dic ks ds=>cases h;exact tr rfl rfl
  |_=>cases h
 |val d=>cases d with
  |dic ks ds=>
   cases h
   obtain⟨v,k1,a,ys,rfl,e2,e3,e4⟩:=I.slot j _ e
   exact⟨a,ys,k1,e2.imp (I.fz _ _) fun⟨o,z⟩=>⟨o,I.fz _ _ z⟩,e3,e4⟩
  |_=>cases h
 |_=>cases h
noncomputable def tDI (j:Nat)(neg:Bool)(mk:ME):MT:=fun ρ=>(mk ρ).bind fun p=>match p.1 with
 | .int k=>(p.2[j]?.bind Sl.dic).map fun q=>(((lkD q.1 q.2 k).isSome !=neg),p.2)
 |_=>none
noncomputable def eDG (j:Nat)(mk:ME):ME:=fun ρ=>if(ρ[j]?.bind Sl.dic).isSome then(mk ρ).bind fun p=>match p.1 with
 | .int k=>(p.2[j]?.bind Sl.dic).bind fun q=>(lkD q.1 q.2 k).map fun d=>(d,p.2)
 |_=>none else none
noncomputable def sDP (j:Nat)(mk me:ME):MS:=fun ρ=>(me ρ).bind fun p=>if(p.2[j]?.bind Sl.dic).isSome then(mk p.2).bind fun q=>match q.1 with
 | .int k=>q.2[j]?.bind fun s=>match s.tree with
  |some (.dic ks ds)=>if ks.length<16777216 then some (.next,q.2.set j (s.putT (.dic (ptD ks ds k p.1).1 (ptD ks ds k p.1).2)))else none
  |_=>none
 |_=>none else none
section
variable {X:Cx} {x:Str} {a e:Expr} {mk me:ME} {pos p' tpos:Pos}
theorem st_dIn (j:Nat)(hu:X.A.units+64<cLine)(ha:SE X a mk)(hN:autoParam (X.N[j]? =some x) zu3._auto_1)(hv:autoParam (Vis X.env.scope x) zu6._auto_1)(hd:autoParam ((x==("__debug__":Str))=false) zu1._auto_1)
  (hcd:autoParam ((x==("__classdict__":Str))=false) zu1._auto_1) (hm:autoParam (behindInMarks .In (.Name x p')=false) zu3._auto_1):STt X (.Compare a [.In] [.Name x p'] pos) (tDI j false mk):=by
 obtain⟨t,pa,sa⟩:=ha
 refine⟨_,pt_cmp (pc_din (by lia) pa (zaH hN hv hd hcd)) hm,fun B G H σ ρ b ρ' Q I hm k=>?_⟩
 obtain⟨⟨y,ρ1⟩,e1,hm⟩:=zaa hm
 refine sa B G H σ ρ y ρ1 _ I e1 fun G1 H1 v I1 f1 r1=>?_
 cases y<;>try cases hm
 rename_i n
 obtain⟨q,e2,e3⟩:=zag hm
 cases e3
 obtain⟨s,e4,e5⟩:=zaa e2
 obtain⟨p,ys,k1,k2,k3,k4⟩:=I1.dic e4 e5
 refine⟨.ref p,k1,p,valV ys (kI n),rfl,by rw[show v=kV (kI n)from r1];exact .inl ⟨ys,kI n,k2,rfl,rfl⟩,_,rfl,?_⟩
 rw[zgt zhZ k3 k4]
 have:=k G1 H1 I1 f1
 simpa using this
theorem zeN (j:Nat)(hu:X.A.units+64<cLine)(ha:SE X a mk)(hN:autoParam (X.N[j]? =some x) zu3._auto_1)(hv:autoParam (Vis X.env.scope x) zu6._auto_1)(hd:autoParam ((x==("__debug__":Str))=false) zu1._auto_1)
  (hcd:autoParam ((x==("__classdict__":Str))=false) zu1._auto_1) (hm:autoParam (behindInMarks .NotIn (.Name x p')=false) zu3._auto_1):STt X (.Compare a [.NotIn] [.Name x p'] pos) (tDI j true mk):=by
 obtain⟨t,pa,sa⟩:=ha
 refine⟨_,pt_cmp (zi2 (by lia) pa (zaH hN hv hd hcd)) hm,fun B G H σ ρ b ρ' Q I hm k=>?_⟩
 obtain⟨⟨y,ρ1⟩,e1,hm⟩:=zaa hm
 refine sa B G H σ ρ y ρ1 _ I e1 fun G1 H1 v I1 f1 r1=>?_
 cases y<;>try cases hm
 rename_i n
 obtain⟨q,e2,e3⟩:=zag hm
 cases e3
 obtain⟨s,e4,e5⟩:=zaa e2
 obtain⟨p,ys,k1,k2,k3,k4⟩:=I1.dic e4 e5
 refine⟨.ref p,k1,p,valV ys (kI n),rfl,by rw[show v=kV (kI n)from r1];exact .inl ⟨ys,kI n,k2,rfl,rfl⟩,_,rfl,?_⟩
 rw[zgt zhZ k3 k4]
 have:=k G1 H1 I1 f1
 simpa using this
theorem zgH (j:Nat)(hu:X.A.units+64<cLine)(ha:SE X a mk)(hs:autoParam (NoSl a) zu7._auto_1)(hN:autoParam (X.N[j]? =some x) zu3._auto_1)(hv:autoParam (Vis X.env.scope x) zu6._auto_1)(hd:autoParam ((x==("__debug__":Str))=false) zu1._auto_1)
  (hcd:autoParam ((x==("__classdict__":Str))=false) zu1._auto_1):SE X (.Subscript (.Name x p') a pos) (eDG j mk):=by
 obtain⟨t,pa,sa⟩:=ha
 refine⟨_,pe_dget (by lia) (zaH hN hv hd hcd) pa hs,fun B G H σ ρ d ρ' Q I hm k=>?_⟩
 unfold eDG at hm
 split at hm
 ·rename_i hso
  obtain⟨q0,hso⟩:=Option.isSome_iff_exists.mp hso
  obtain⟨s0,e0,d0⟩:=zaa hso
  obtain⟨p,ys,k1,_⟩:=I.dic e0 d0
  obtain⟨⟨y,ρ1⟩,e1,hm⟩:=zaa hm
  refine⟨.ref p,k1,sa B G H σ ρ y ρ1 _ I e1 fun G1 H1 v I1 f1 r1=>?_⟩
  cases y<;>try cases hm
  rename_i n
  obtain⟨q,e2,hm⟩:=zaa hm
  obtain⟨d',e3,e4⟩:=zag hm
  cases e4
  obtain⟨s,e5,e6⟩:=zaa e2
  obtain⟨p',ys,m1,m2,m3,m4⟩:=I1.dic e5 e6
  rw[k1]at m1;cases m1
  obtain⟨w,h1,h2⟩:=zg6 zhZ m3 m4 e3
  exact⟨p,w,rfl,by rw[show v=kV (kI n)from r1,<-h1];exact .inl ⟨ys,kI n,m2,rfl,rfl⟩,k G1 H1 w I1 f1 h2⟩
 ·cases hm
theorem zi4 (j:Nat)(hu:X.A.units+64<cLine)(he:SE X e me)(ha:SE X a mk)(hN:autoParam (X.N[j]? =some x) zu3._auto_1)(hv:autoParam (Vis X.env.scope x) zu6._auto_1)(hd:autoParam ((x==("__debug__":Str))=false) zu1._auto_1)
    (hcd:autoParam ((x==("__classdict__":Str))=false) zu1._auto_1) (hs:autoParam (swapsWith e (some (.Subscript (.Name x p') a tpos)) pos.line X.env=pure false) zu3._auto_1):SS X (.Assign [.Subscript (.Name x p') a tpos] e pos) (sDP j mk me):=by
  obtain⟨t,pa,sa⟩:=ha
  obtain⟨u,pe,se⟩:=he
  refine⟨_,ps_dput (by lia) (zaH hN hv hd hcd) pa pe hs,fun B G H σ ρ fl ρ' E I hm k=>?_⟩
  obtain⟨⟨d,ρ1⟩,e1,hm⟩:=zaa hm
  refine se B G H σ ρ d ρ1 _ I e1 fun G1 H1 v I1 f1 r1=>?_
  split at hm
  . rename_i hso
    obtain⟨q0,hso⟩:=Option.isSome_iff_exists.mp hso
    obtain⟨s0,e0,d0⟩:=zaa hso
    obtain⟨p,ys0,k1,_⟩:=I1.dic e0 d0
    obtain⟨⟨y,ρ2⟩,e2,hm⟩:=zaa hm
    refine⟨.ref p,k1,sa B G1 H1 σ ρ1 y ρ2 _ I1 e2 fun G2 H2 w I2 f2 r2=>?_⟩
    cases y<;>try cases hm
    rename_i n
    obtain⟨s,e3,hm⟩:=zaa hm
    split at hm
    . rename_i ks ds q
      split at hm
      . rename_i hl
        cases hm
        obtain⟨v2,A,h1,h2,h3,h4,h5⟩:=I2.tree e3 q
        rw[k1]at h1;cases h1
        obtain⟨p2,ys,z,g2,g3,g4,rfl⟩:=h2
        cases z
        have len:ys.length=ks.length:=by have:=congrArg List.length g3;simpa using this
        obtain⟨m1,m2⟩:=pt_rep zhZ (j:=n) g3 g4 (r1.mono f2)
        have rep:RepT X.K G2 (upd H2 p (.dK (putK ys (kI n) v))) (.ref p) (.dic (ptD ks ds n d).1 (ptD ks ds n d).2) [p]:=⟨p,_,rfl,zaf,m1,m2,rfl⟩
        refine⟨p,_,rfl,by rw[show w=kV (kI n)from r2];exact DPut.k g2 (by rw[len,sizeLine_eq];exact hl),?_⟩
        exact k G2 _ σ (I2.chT e3 q k1 ⟨p,ys,rfl,g2,g3,g4,rfl⟩ (I2.fz.right (h4 p (by simp)) _) (fun b o n h=>by rw[zad (fun z=>n (by simp[z]))];exact h) (fun b h=>by
          by_cases z:b=p
          . subst z;rw[zaf]at h;cases h
          . rw[zad z]at h;exact h) rep (by simp) (fun a m=> .inl m)) (f1.trans f2)
      . cases hm
    . cases hm
  . cases hm
end
noncomputable def fzD (j:Nat)(ρ:R):R:=match ρ[j]? with
 |some (.tre (.dic ks ds))=>ρ.set j (.val (.dic ks ds))
 |_=>ρ
noncomputable def sFzD (j:Nat)(m:MS):MS:=fun ρ=>m (fzD j ρ)
theorem SI.fzD (I:SI K B G H σ ρ)(j:Nat):∃G',SI K B G' H σ (fzD j ρ)/\Fz G G':=by
 unfold M.fzD
 split
 ·rename_i ks ds e
  obtain⟨v,A,h1,⟨p,ys,rfl,h2,h3,h4,rfl⟩,h5,h6⟩:=I.slot j _ e
  have g:=(h6 p (by simp)).1
  have fz:=Fz.new g (.dK ys)
  refine⟨upd G p (.dK ys),?_,fz⟩
  have h:=I.chg (i:=j) (ov:=some (.ref p)) (s':= .val (.dic ks ds)) (G':=upd G p (.dK ys)) (H':=H) (fun a u q=>?_) fz (fun b u q=>?_) I.keep I.there (fun i t a z ei w g _=>⟨?_,rfl,id⟩) ⟨.ref p,rfl,p,ys,rfl,.inl zaf,h3,h4.mono fz⟩
  ·rwa[zej h1]at h
  ·by_cases z:a=p
   ·subst z;rw[zaf]at q;cases q;exact h2
   ·rw[zad z]at q;exact I.fz a u q
  ·by_cases z:b=p
   ·subst z;exact .inr (h6 b (by simp)).2
   ·rw[zad z]at q;exact I.new b u q
  ·rw[zad (fun q=>by subst q;exact I.dis i j t _ a z ei e w ⟨_,_,h1,⟨a,ys,rfl,h2,h3,h4,rfl⟩,by simp⟩)];exact g
 ·exact⟨G,I,Fz.refl G⟩
theorem ss_fzD {X:Cx}{st:Stmt}{m:MS}(j:Nat)(h:SS X st m):SS X st (sFzD j m):=by
 obtain⟨t,p,s⟩:=h
 refine⟨t,p,fun B G H σ ρ fl ρ' E I hm k=>?_⟩
 obtain⟨G',I',f⟩:=I.fzD j
 exact s B G' H σ _ fl ρ' E I' hm (k.mono f)
noncomputable def Ch.sl:Ch->Sl
 | .d x=> .val x
 | .l ds=> .own ds
 | .t xss=> .tre (.lst (xss.map .l))
noncomputable def putCs:List Nat->List Ch->R->R
 |i::is,c::cs,ρ=>putCs is cs (ρ.set i c.sl)
 |_,_,ρ=>ρ
noncomputable def sUnT (j:Nat)(is:List Nat):MS:=fun ρ=>match ρ[j]? with
 |some (.tre (.lst cs))=>if cs.length=is.length then some (.next,putCs is cs (ρ.set j .emp))else none
 |_=>none
end M
namespace M
open L2 PySem PySem.Spec
open PyProof.Rows hiding St
open Classical in
noncomputable def fMT (N:Nat)(m:MS):List D->T->List D->Option (Sl×List D):=fun cs t ds=>(m (.par cs:: .tre t::(ds.map .val++List.replicate (N-(ds.length+2)) .emp))).bind fun p=>match p.1,(p.2[0]?:Option Sl)with
 |Fl.ret r,some (Sl.par out)=>some (r,out)
 |Fl.next,some (Sl.par out)=>some (.val .non,out)
 |_,_=>none
noncomputable abbrev MP':=R->Option (List Ch×R)
noncomputable def cOwn (i:Nat)(r:MP'):MP':=fun ρ=>match ρ[i]? with
 |some (.own ds)=>(r (ρ.set i .emp)).map fun q=>(.l ds::q.1,q.2)
 |_=>none
end M
namespace M
open L2 PySem PySem.Spec
open PyProof.Rows hiding St
variable {Gz G H:Hp} {i n:Nat} {s:Sl} {a b:Addr} {A:List Addr} {l:List Str} {p:List Value->Prop} {oc:Value} {osl:Array (Option Value)} {fd:FuncData} {K:W.Frag} {B:Bs} {ov:Option (Option V)} {σ:St} {ρ:R}
noncomputable def Ch.D:Ch->M.D
 | .d x=>x
 | .l ds=> .lst ds
 | .t xss=> .lst (xss.map .lst)
section
variable {K:W.Frag} {B:Bs} {G G' H H':Hp} {σ:St} {ρ:R}
theorem zhP (fg:Fz G Gz):∀{xs:List V} {dss:List (List D)} {A:List Addr},RepTb K G H xs dss A->(∀a∈A,Gz a=H a)->RepL K Gz xs (dss.map .lst)
 |[],[],_,_,_=>rfl
 |x::xs,ds::dss,_,⟨r,ys,A2,e1,e2,e3,e4,e5⟩,h=>⟨x,xs,rfl,⟨r,ys,e1,by rw[h r (by rw[e5];simp)];exact e2,e3.mono fg⟩,zhP fg e4 fun a m=>h a (by rw[e5];simp[m])⟩
 |[],_::_,_,h,_=>h.elim
 |_::_,[],_,h,_=>h.elim
theorem zdE (fg:Fz G Gz):∀{xs:List V} {cs:List Ch} {A:List Addr},RepCs K G H xs cs A->(∀a∈A,Gz a=H a)->RepL K Gz xs (cs.map Ch.D)
 |[],[],_,_,_=>rfl
 |x::xs,.d y::cs,_,⟨A1,A2,r1,r2,e⟩,h=>⟨x,xs,rfl,r1.1.mono fg,zdE fg r2 fun a m=>h a (by rw[e];exact List.mem_append_right _ m)⟩
 |x::xs,.l ds::cs,_,⟨A1,A2,⟨l,ys,e1,e2,e3,e4⟩,r2,e⟩,h=>⟨x,xs,rfl,⟨l,ys,e1,by rw[h l (by rw[e,e4];simp)];exact e2,e3.mono fg⟩,zdE fg r2 fun a m=>h a (by rw[e];exact List.mem_append_right _ m)⟩
 |x::xs,.t xss::cs,_,⟨A1,A2,⟨p,ys,A3,e1,e2,e3,e4⟩,r2,e⟩,h=>⟨x,xs,rfl,⟨p,ys,e1,by rw[h p (by rw[e,e4];simp)];exact e2,zhP fg e3 fun a m=>h a (by rw[e,e4];simp[m])⟩,zdE fg r2 fun a m=>h a (by rw[e];exact List.mem_append_right _ m)⟩
 |[],_::_,_,h,_=>h.elim
 |_::_,[],_,h,_=>h.elim
theorem nw_emp (I:SI K B G H σ ρ)(e:ρ[i]? =some s)(w:OwS K G H σ[i]? a s):Nw K G H σ (ρ.set i .emp) a:=fun j t ej w'=>by
 by_cases z:j=i
 ·subst z
  rw[List.getElem?_set,if_pos rfl]at ej
  split at ej
  ·cases ej;exact w'
  ·cases ej
 ·rw[List.getElem?_set_ne (Ne.symm z)]at ej
  exact I.dis j i t s a z ej e w' w
open Classical in
noncomputable def frA (G H:Hp)(A:List Addr):Hp:=fun b=>if b∈A then H b else G b
theorem zb0 (h:b∈A):frA G H A b=H b:=by unfold frA;rw[if_pos h]
theorem zbs (h:b∉A):frA G H A b=G b:=by unfold frA;rw[if_neg h]
theorem frA_fz (hA:∀a∈A,G a=none):Fz G (frA G H A):=fun b o e=>by
 rw[zbs fun m=>by rw[hA b m]at e;cases e];exact e
theorem SI.frzA (I:SI K B G H σ ρ)(hA:∀a∈A,G a=none/\B.H a=none/\Nw K G H σ ρ a):SI K B (frA G H A) H σ ρ:=
 I.move (fun a u q=>by
  by_cases m:a∈A
  ·rw[zb0 m]at q;exact q
  ·rw[zbs m]at q;exact I.fz a u q) (frA_fz fun a m=>(hA a m).1) (fun b u q=>by
  by_cases m:b∈A
  ·exact .inr (hA b m).2.1
  ·rw[zbs m]at q;exact I.new b u q) I.keep I.there (fun i s a e w g _=>⟨by rw[zbs fun m=>(hA a m).2.2 i s e w];exact g,rfl⟩)
end
noncomputable def sTA (i j:Nat):MS:=fun ρ=>match ρ[i]?,ρ[j]? with
 |some (.tre (.lst cs)),some (.own ds)=>if cs.length<16777216 then some (.next,(ρ.set j .emp).set i (.tre (.lst (cs++[.l ds]))))else none
 |_,_=>none
noncomputable def sRT (i:Nat):MS:=fun ρ=>match ρ[i]? with
 |some (.tre t)=>some (.ret (.tre t),ρ.set i .emp)
 |_=>none
noncomputable abbrev MQ:=R->Option D
noncomputable def fzT (j:Nat)(ρ:R):R:=match ρ[j]? with
 |some (.tre (.lst cs))=>ρ.set j (.val (.lst (cs.map Ch.D)))
 |_=>ρ
section
variable {X:Cx} {x y:Str} {pos p' q' tpos:Pos}
theorem ss_retT (i:Nat)(hN:autoParam (X.N[i]? =some x) zu3._auto_1)(hv:autoParam (Vis X.env.scope x) zu6._auto_1)(hd:autoParam ((x==("__debug__":Str))=false) zu1._auto_1)
  (hcd:autoParam ((x==("__classdict__":Str))=false) zu1._auto_1):SS X (.Return (some (.Name x p')) pos) (sRT i):=by
 refine⟨_,zeR (zaH hN hv hd hcd),fun B G H σ ρ fl ρ' E I hm k=>?_⟩
 unfold sRT at hm
 split at hm
 ·rename_i t e
  cases hm
  obtain⟨v,A,h1,h2,h3,h4⟩:=I.slot i _ e
  exact⟨v,h1,k G H σ v (I.emp i) (Fz.refl G) ⟨A,h2,h3,h4⟩⟩
 ·cases hm
variable {e:Expr} {es:List Expr} {ma:MA} {k k' n:Nat} {F:List D->Option Sl}
variable {a b:Expr} {mi mk:MQ}
end
theorem ndk (h:autoParam (decide l.Nodup=true) zu11._auto_1):l.Nodup:=of_decide_eq_true h
theorem us_0 (h:p []):∀us:List Value,us.length=0->p us:=fun us e=>by
 cases us with
 |nil=>exact h
 |cons=>cases e
theorem us_s (h:∀(a:Value) (us:List Value),us.length=n->p (a::us)):∀us:List Value,us.length=n+1->p us:=fun us e=>by
 cases us with
 |nil=>cases e
 |cons a us=>exact h a us (Nat.succ.inj e)
section
variable {P:Program} {w:World} {K:W.Frag} {mg:Str->Option Value} {base hp:Heap} {x:Str} {st:Stmt} {f:Addr}
noncomputable def FnAt (K:W.Frag)(x:Str)(st:Stmt):Prop:=∃f fd,W.nsIn K mainGlobals x=some (some (.ref f))/\Fun K x x st f fd
theorem FnAt.mk {od an:Option Addr}{kV doc pm cdv ct:Value}(a:W.nsIn K mainGlobals x=some (some (.ref f)))(l:K.lookup f=some ⟨oc,od,.func (W.fnOf x x (zaV st) (zav st) (zam st) .none kV doc pm an cdv ct),osl⟩)
  (c:W.codeIn K cdv x=true) (k:W.keepIn K (.ref f)=true):FnAt K x st:=⟨f,_,a,zjI l c k⟩
noncomputable abbrev BindsAt (x:Str)(st:Stmt)(ps:List Str):Prop:=∀(kV doc pm:Value) (an:Option Addr) (cdv ct:Value) (us:List Value),us.length=ps.length->bindArgs (W.fnOf x x (zaV st) (zav st) (zam st) .none kV doc pm an cdv ct) ⟨us,[]⟩=pure (ps.zip us)
theorem FnAt.law (h:FnAt K x st)(X:K.In hp)(G:hp.Ns mainGlobals mg)(hf:mg x=some (.ref f)):∃kV doc pm an cdv ct,Fun K x x st f (W.fnOf x x (zaV st) (zav st) (zam st) .none kV doc pm an cdv ct):=by
 obtain⟨f',fd,a,T⟩:=h
 have e:=hf.symm.trans (W.mg_of X G a)
 cases e
 obtain⟨oc,od,kV,doc,pm,an,cdv,ct,osl,rfl,lk,hcd⟩:=id T.ex
 exact⟨kV,doc,pm,an,cdv,ct,T⟩
variable {N:List Str} {k n:Nat} {m:MS}
noncomputable abbrev Bd (P:Program)(w:World)(K:W.Frag)(mg:Str->Option Value)(base:Heap)(x:Str)(st:Stmt)(N:List Str)(k:Nat)(m:MS):Prop:=∀(f:Addr) (cdv:Value) (A:Around) (outer:List Env) (s:Shared) (H:Hp) (E:XK),Room k (A.deeper (PyProof.Rows.envOfC x (zam st) s.heap.objs.size f cdv))->N.Nodup->SSs (cxOf CX0 P w K mg base N x (zam st) f cdv A outer s H E).nox (zav st) m
structure DefOk (x:Str) (st:Stmt) (N:List Str) (n:Nat):Prop where
 sc:FnScope N (N.take n) (zam st)
 len:(N.take n).length=n
 le:n<=N.length
 bs:BindsAt x st (N.take n)
theorem lawP (F:Fun K x x st f fd)(b:Bd P w K mg base x st N k m)(d:DefOk x st N n:=by exact⟨⟨rfl,rfl,rfl,by decide+kernel,rfl,by decide+kernel,by decide+kernel⟩,rfl,by decide,fun _ _ _ _ _ _=>by first|exact us_s fun _=>us_0 rfl|exact us_s fun _=>us_s fun _=>us_0 rfl|exact us_s fun _=>us_s fun _=>us_s fun _=>us_0 rfl|exact us_s fun _=>us_s fun _=>us_s fun _=>us_s fun _=>us_0 rfl|exact us_0 rfl|exact us_s fun _=>us_s fun _=>us_s fun _=>us_s fun _=>us_s fun _=>us_0 rfl⟩):FnOk P w K mg base CX0 (k+1) f fd (N.take n) (spP K n (fP N.length m)):=fnP_ok F d.sc d.len d.le fun cdv A outer s H E hr=>b _ cdv A outer s H E hr d.sc.nd
theorem fdP (X:K.In hp)(G:hp.Ns mainGlobals mg)(h:FnAt K x st)(b:Bd P w K mg base x st N k m)(d:DefOk x st N n:=by exact⟨⟨rfl,rfl,rfl,by decide+kernel,rfl,by decide+kernel,by decide+kernel⟩,rfl,by decide,fun _ _ _ _ _ _=>by first|exact us_s fun _=>us_0 rfl|exact us_s fun _=>us_s fun _=>us_0 rfl|exact us_s fun _=>us_s fun _=>us_s fun _=>us_0 rfl|exact us_s fun _=>us_s fun _=>us_s fun _=>us_s fun _=>us_0 rfl|exact us_0 rfl|exact us_s fun _=>us_s fun _=>us_s fun _=>us_s fun _=>us_s fun _=>us_0 rfl⟩):FD P w K mg base (k+1) x (spP K n (fP N.length m)):=
 let⟨f,fd,a,T⟩:=h
 ⟨⟨f,fd,_,fnP_ok T d.sc d.len d.le fun cdv A outer s H E hr=>b _ cdv A outer s H E hr d.sc.nd,W.mg_of X G a,T.kp,T.binds d.bs⟩⟩
theorem fdM (X:K.In hp)(G:hp.Ns mainGlobals mg)(h:FnAt K x st)(b:Bd P w K mg base x st N k m)(d:DefOk x st N n:=by exact⟨⟨rfl,rfl,rfl,by decide+kernel,rfl,by decide+kernel,by decide+kernel⟩,rfl,by decide,fun _ _ _ _ _ _=>by first|exact us_s fun _=>us_0 rfl|exact us_s fun _=>us_s fun _=>us_0 rfl|exact us_s fun _=>us_s fun _=>us_s fun _=>us_0 rfl|exact us_s fun _=>us_s fun _=>us_s fun _=>us_s fun _=>us_0 rfl|exact us_0 rfl|exact us_s fun _=>us_s fun _=>us_s fun _=>us_s fun _=>us_s fun _=>us_0 rfl⟩):FD P w K mg base (k+1) x (spM K n (fM N.length m)):=
 let⟨f,fd,a,T⟩:=h
 ⟨⟨f,fd,_,fnM_ok T d.sc d.len d.le fun cdv A outer s H E hr=>b _ cdv A outer s H E hr d.sc.nd,W.mg_of X G a,T.kp,T.binds d.bs⟩⟩
end
variable {P:Program} {w:World} {H G:Hp} {h:Heap} {a b:Addr} {o:Obj} {xs:List (List L2.Key×Addr×Value)} {ks:List (List Int)} {ys:List (List L2.Key×V)}
noncomputable def Sl.dit:Sl->Option (List (List Int)×List D)
 | .tre (.dit ks ds)=>some (ks,ds)
 | .val (.dit ks ds)=>some (ks,ds)
 |_=>none
section
variable {X:Cx} {x:Str} {a e:Expr} {tg:Expr} {mk me:ME} {pos p' tpos:Pos}
theorem SlotOk.base {B B':Bs}(h:SlotOk K B G H i ov s)(f:∀a,OwS K G H ov a s->B.H a=none->B'.H a=none)(eo:B'.O=B.O):SlotOk K B' G H i ov s:=by
 cases s with
 |emp=>trivial
 |two=>trivial
 |val d=>exact h
 |own ds=>obtain⟨l,xs,h1,h2,h3,h4,h5⟩:=h;exact⟨l,xs,h1,h2,h3,h4,f l h1 h5⟩
 |par ds=>obtain⟨l,xs,h1,h2,h3,h4,h5⟩:=h;exact⟨l,xs,h1,h2,h3,h4,eo ▸ h5⟩
 |tre t=>obtain⟨v,A,h1,h2,h3,h4⟩:=h;exact⟨v,A,h1,h2,h3,fun a m=>⟨(h4 a m).1,f a ⟨v,A,h1,h2,m⟩ (h4 a m).2⟩⟩
 |ptr t=>obtain⟨v,A,h1,h2,h3,h4⟩:=h;exact⟨v,A,h1,h2,⟨h3.1,eo ▸ h3.2⟩,fun a m=>⟨(h4 a m).1,eo ▸ (h4 a m).2⟩⟩
theorem SI.hold (I:SI K B G H σ ρ){p:Addr}(hp:H p=none)(o:HO):SI K ⟨B.G,upd B.H p o,B.O⟩ G (upd H p o) σ ρ:=by
 have I0:=I.allocO hp o
 have bp:=I.there p hp
 refine⟨I0.fz,I0.g0,fun b u e=>?_,fun b u e n=>?_,fun b e=>?_,I0.len,fun i b m=>?_,fun i s e=>(I0.slot i s e).base (fun a w e2=>?_) rfl,I0.dis⟩
 ·refine(I0.new b u e).imp id fun z=>?_
  show upd B.H p o b=none
  rw[zad (fun q=>by rw[q,I.fz.free hp]at e;cases e)];exact z
 ·by_cases z:b=p
  ·subst z
   have e':upd B.H b o b=some u:=e
   rw[zaf]at e';cases e';exact zaf
  ·have e':upd B.H p o b=some u:=e
   rw[zad z]at e';exact I0.keep b u e' n
 ·have z:b≠p:=fun z=>by subst z;rw[zaf]at e;cases e
  show upd B.H p o b=none
  rw[zad z];exact I0.there b e
 ·show upd B.H p o b≠none
  rw[zad (fun z=>by subst z;exact I.ob i b m bp)];exact I.ob i b m
 ·show upd B.H p o a=none
  rw[zad (fun z=>?_)]
  ·exact e2
  ·subst z
   have nw:Nw K G (upd H a o) σ ρ a:=I.nw_move (I.nw hp) fun i s b _ _ g h=>⟨g,zad fun z=>h (by rw[z];exact hp)⟩
   exact nw i s e w
theorem SI.let {p:Addr}{o:HO}(I:SI K ⟨B.G,upd B.H p o,B.O⟩ G H σ ρ)(ob:∀i b,(i,b)∈B.O->B.H b≠none)(bp:B.H p=none)(bg:B.G p=none):SI K B G H σ ρ/\H p=some o/\G p=none/\Nw K G H σ ρ p:=by
 have no:∀i,(i,p)∉B.O:=fun i m=>ob i p m bp
 have same:∀{b},upd B.H p o b=none->B.H b=none:=fun{b} e=>by
  by_cases z:b=p
  ·subst z;rw[zaf]at e;cases e
  ·rwa[zad z]at e
 refine⟨⟨I.fz,I.g0,fun b u e=>(I.new b u e).imp id same,fun b u e n=>I.keep b u ?_ n,fun b e=>same (I.there b e),I.len,ob,fun i s e=>(I.slot i s e).base (fun a w e2=>same e2) rfl,I.dis⟩,I.keep p o zaf no,?_,fun i s e w=>?_⟩
 ·show upd B.H p o b=some u
  rw[zad (fun z=>by subst z;rw[bp]at e;cases e)];exact e
 ·cases q:G p with
  |none=>rfl
  |some u=>
   rcases I.new p u q with h|h
   ·exact absurd bg h
   ·have h':upd B.H p o p=none:=h
    rw[zaf]at h';cases h'
 ·rcases((I.slot i s e).own w).2.2 with h|h
  ·have h':upd B.H p o p=none:=h
   rw[zaf]at h';cases h'
  ·exact no i h
end
end M
namespace M
open L2 PyProof.Rows PySem PySem.Spec
theorem zkl {α β:Type}(f:α->β)(xs:List α)(lo hi st:Option Int):zdf (xs.map f) lo hi st=(zdf xs lo hi st).map f:=by
 unfold zdf
 rw[List.length_map,List.map_filterMap]
 simp
noncomputable def eCutZ (ma:ME)(ml mh ms:MP):ME:=fun ρ=>(ma ρ).bind fun p=>(ml p.2).bind fun q=>(mh q.2).bind fun r=>(ms r.2).bind fun t=>match p.1 with
 | .scr ns=>if t.1=some 0 then none else some (.lst ((zdf ns q.1 r.1 t.1).map .int),t.2)
 |_=>none
theorem zjQ {X:Cx}{e st:Expr}{lo hi:Option Expr}{ma:ME}{ml mh ms:MP}{pos p2:Pos}(he:SE X e ma)(hl:SPt X lo ml)(hu:SPt X hi mh)(hs:SPt X (some st) ms):SE X (.Subscript e (.Slice lo hi (some st) p2) pos) (eCutZ ma ml mh ms):=by
 obtain⟨ta,pa,sa⟩:=he
 obtain⟨tl,pl,sl⟩:=hl
 obtain⟨th,ph,sh⟩:=hu
 obtain⟨tc,pc,sc⟩:=hs
 refine⟨_,ziC pa pl ph pc,fun B G H σ ρ d ρ' Q I hm k=>?_⟩
 obtain⟨⟨x,ρ1⟩,e1,hm⟩:=zaa hm
 obtain⟨⟨l,ρ2⟩,e2,hm⟩:=zaa hm
 obtain⟨⟨u,ρ3⟩,e3,hm⟩:=zaa hm
 obtain⟨⟨c,ρ4⟩,e4,hm⟩:=zaa hm
 refine sa B G H σ ρ x ρ1 _ I e1 fun G1 H1 v I1 f1 r1=>sl B G1 H1 σ ρ1 l ρ2 _ I1 e2 fun G2 H2 I2 f2=>sh B G2 H2 σ ρ2 u ρ3 _ I2 e3 fun G3 H3 I3 f3=>sc B G3 H3 σ ρ3 c ρ4 _ I3 e4 fun G4 H4 I4 f4=>?_
 have r3:=r1.mono (f2.trans (f3.trans f4))
 dsimp only at hm
 obtain⟨ns,rfl⟩:∃ns,x= .scr ns:=by
  cases x<;>first|exact⟨_,rfl⟩|cases hm
 dsimp only at hm
 split at hm
 ·cases hm
 ·rename_i h0
  obtain⟨rfl,rfl⟩:=Prod.mk.inj (Option.some.inj hm)
  obtain⟨a,rfl,ha⟩:=r3
  refine⟨a,ns.map V.int,rfl,I4.fz.sql ha,h0,fun p hp=>?_⟩
  rw[zkl]
  obtain⟨I5,f5,r5⟩:=I4.newL hp (RepL.ints (zdf ns l u c))
  exact k _ _ _ I5 (f1.trans (f2.trans (f3.trans (f4.trans f5)))) r5
end M
namespace M
open L2 PySem PySem.Spec
open PyProof.Rows hiding St
variable {a:Expr} {K:W.Frag} {G H:Hp} {σ:St} {ρ:R} {b c:Nat} {B:Bs} {tg':Addr->Shared->Hp->List Addr->TG} {tt:Addr->Shared->Hp->List Addr->TT} {te:Addr->Shared->Hp->List Addr->TE}
noncomputable def fzDT (j:Nat)(ρ:R):R:=match ρ[j]? with
 |some (.tre (.dit ks ds))=>ρ.set j (.val (.dit ks ds))
 |_=>ρ
noncomputable def eCallU (F:List D->Option Sl)(ma:MA):ME:=fun ρ=>(ma ρ).bind fun p=>(F p.1).bind fun r=>match r with
 | .tre (.tup cs)=>some (.tup (cs.map Ch.D),p.2)
 |_=>none
noncomputable def fzU (j:Nat)(ρ:R):R:=match ρ[j]? with
 |some (.tre (.tup cs))=>ρ.set j (.val (.tup (cs.map Ch.D)))
 |_=>ρ
noncomputable def turnT (g:D->R->Option R)(mt:MT)(mo:MO):D->R->Option (Option (List D)×R):=fun d ρ=>(g d ρ).bind fun ρ1=>(mt ρ1).bind fun p=>if p.1 then(mo p.2).bind fun q=>if zbH q.2 then some (some q.1,q.2)else none else if zbH p.2 then some (none,p.2)else none
noncomputable def rowsOf:List Ch->Option (List (List D))
 |[]=>some []
 | .l ds::cs=>(rowsOf cs).map (ds:: ·)
 |_=>none
noncomputable def zkh (ma:ME)(mo:MO):MS:=fun ρ=>(ma ρ).bind fun p=>(mo p.2).bind fun r=>some (.ret (.tre (.tup [.d p.1,.l r.1])),r.2)
noncomputable def zh1 (ma mb:ME):MS:=fun ρ=>(ma ρ).bind fun p=>(mb p.2).bind fun r=>some (.ret (.tre (.tup [.d p.1,.d r.1])),r.2)
section
variable {X:Cx} {x y:Str} {pos p' q' tpos:Pos} {e:Expr} {n:Nat}
theorem ss_retUl {m1:ME}{mo:MO}{nn:Nat}{pos2:Pos}(ha:SE X a m1)(ho:SO X e mo)
  (hs:autoParam (starEach [a,e] X.env=(false,eval a X.env)::starEach [e] X.env) zu3._auto_1)
  (hs2:autoParam (starEach [e] X.env=(false,eval e X.env)::starEach [] X.env) zu3._auto_1):
  SS X (.Return (some (.Tuple [a,e] nn pos2)) pos) (zkh m1 mo):=by
 obtain⟨ta,pa,sa⟩:=ha
 obtain⟨te,pe,so⟩:=ho
 refine⟨_,zeR (zhj (zaB pa (zaB pe zbE hs2) hs)),fun B G H σ ρ fl ρ' E I hm k=>?_⟩
 obtain⟨⟨d1,ρ1⟩,e1,hm⟩:=zaa hm
 obtain⟨⟨ds,ρ4⟩,e4,hm⟩:=zaa hm
 cases hm
 refine sa B G H σ ρ d1 ρ1 _ I e1 fun G3 H3 v1 I3 f1 r1=>?_
 refine so B G3 H3 σ ρ1 ds ρ4 _ I3 e4 fun G4 H4 l xs I4 f4 g4 h4 r4 b4 _=>?_
 refine⟨by rw[sizeLine_eq];exact(by decide:(2:Nat)<=16777216),fun p hp=>?_⟩
 have lp:l≠p:=zan h4 hp
 refine k G4 _ σ _ (I4.allocO hp _) (f1.trans f4) ⟨[p,l],⟨p,_,[l],rfl,zaf,⟨[],[l],⟨r1.mono f4,rfl⟩,⟨[l],[],⟨l,xs,rfl,by rw[zad lp];exact h4,r4,rfl⟩,rfl,rfl⟩,rfl⟩,rfl⟩,by simpa using lp.symm,fun a m=>?_⟩
 rcases List.mem_cons.mp m with rfl|m
 ·exact⟨I4.fz.free hp,I4.there a hp⟩
 ·have:a=l:=by simpa using m
  subst this
  exact⟨g4,b4⟩
theorem zhH {m1 m2:ME}{nn:Nat}{pos2:Pos}(ha:SE X a m1)(hb:SE X e m2)
  (hs:autoParam (starEach [a,e] X.env=(false,eval a X.env)::starEach [e] X.env) zu3._auto_1)
  (hs2:autoParam (starEach [e] X.env=(false,eval e X.env)::starEach [] X.env) zu3._auto_1):
  SS X (.Return (some (.Tuple [a,e] nn pos2)) pos) (zh1 m1 m2):=by
 obtain⟨ta,pa,sa⟩:=ha
 obtain⟨tb,pb,sb⟩:=hb
 refine⟨_,zeR (zhj (zaB pa (zaB pb zbE hs2) hs)),fun B G H σ ρ fl ρ' E I hm k=>?_⟩
 obtain⟨⟨d1,ρ1⟩,e1,hm⟩:=zaa hm
 obtain⟨⟨d2,ρ2⟩,e2,hm⟩:=zaa hm
 cases hm
 refine sa B G H σ ρ d1 ρ1 _ I e1 fun G1 H1 v1 I1 f1 r1=>?_
 refine sb B G1 H1 σ ρ1 d2 ρ2 _ I1 e2 fun G3 H3 v2 I3 f2 r2=>?_
 refine⟨by rw[sizeLine_eq];exact(by decide:(2:Nat)<=16777216),fun p hp=>?_⟩
 refine k G3 _ σ _ (I3.allocO hp _) (f1.trans f2) ⟨[p],⟨p,_,[],rfl,zaf,⟨[],[],⟨r1.mono f2,rfl⟩,⟨[],[],⟨r2,rfl⟩,rfl,rfl⟩,rfl⟩,rfl⟩,by simp,fun a m=>?_⟩
 have:a=p:=by simpa using m
 subst this
 exact⟨I3.fz.free hp,I3.there a hp⟩
end
noncomputable def zgz (b c:Nat)(ρ:R):Bool:=match ρ[b]?,ρ[c]? with
 |some (.par _),some (.par _)=>zbH ((ρ.set b .emp).set c .emp)
 |_,_=>false
noncomputable def zie (b c:Nat)(g:D->R->Option R)(mt:MT)(me:ME):D->R->Option (Option D×R):=fun d ρ=>(g d ρ).bind fun ρ1=>(mt ρ1).bind fun p=>if p.1 then(me p.2).bind fun q=>if zgz b c q.2 then some (some q.1,q.2)else none else if zgz b c p.2 then some (none,p.2)else none
noncomputable def oLC2 (cap:List Nat)(t b w c v:Nat)(mi:MA)(g:D->R->Option R)(mt:MT)(me:ME):MO:=fun ρ=>(mi ρ).bind fun p=>if p.1.length<=16777216 then
  ((fzL (cap.filter fun i=>i !=w&&i !=v) p.2)[w]?).bind fun s=>s.items.bind fun cs=>((fzL (cap.filter fun i=>i !=w&&i !=v) p.2)[v]?).bind fun s2=>s2.items.bind fun cs2=>
   (zbN (zie b c g mt me) p.1 (((capR cap t (fzL (cap.filter fun i=>i !=w&&i !=v) p.2)).set b (.par cs)).set c (.par cs2))).map fun q=>(q.1,((fzL (cap.filter fun i=>i !=w&&i !=v) p.2).set w (s.put (zdW b q.2))).set v (s2.put (zdW c q.2)))
 else none
theorem VS.siQ {cs cs2:List D}{l l2:Addr}{ys ys2:List V}(h:VS K G σ ((ρ.set b .emp).set c .emp))(fz:Fz G H)(hbc:b≠c)(ll:l≠l2)
  (hb:ρ[b]? =some (.par cs)) (hs:σ[b]? =some (some (.ref l))) (gl:G l=none) (hl:H l=some (.lst ys)) (r:RepL K G ys cs)
  (hb2:ρ[c]? =some (.par cs2)) (hs2:σ[c]? =some (some (.ref l2))) (gl2:G l2=none) (hl2:H l2=some (.lst ys2)) (r2:RepL K G ys2 cs2):SI K ⟨G,H,[(b,l),(c,l2)]⟩ G H σ ρ where
 fz:=fz
 g0:=Fz.refl G
 new:=fun b o e=> .inl (by show G b≠none;rw[e];simp)
 keep:=fun b o e _=>e
 there:=fun b e=>e
 ob:=fun i d m=>by
  have:(i=b/\d=l)\/(i=c/\d=l2):=by simpa using m
  rcases this with z|z
  ·rw[z.2];show H l≠none;rw[hl];simp
  ·rw[z.2];show H l2≠none;rw[hl2];simp
 len:=by rw[h.len,List.length_set,List.length_set]
 slot:=fun i s e=>by
  by_cases z:i=b
  ·subst z
   rw[hb]at e;cases e
   exact⟨l,ys,hs,gl,hl,r,by simp⟩
  ·by_cases z2:i=c
   ·subst z2
    rw[hb2]at e;cases e
    exact⟨l2,ys2,hs2,gl2,hl2,r2,by simp⟩
   ·have e':((ρ.set b .emp).set c .emp)[i]? =some s:=by rw[List.getElem?_set_ne (Ne.symm z2),List.getElem?_set_ne (Ne.symm z)];exact e
    cases s with
    |emp=>trivial
    |two _ _=>trivial
    |tre t=>exact absurd rfl ((zcT h.no e').1 t)
    |ptr t=>exact absurd rfl ((zcT h.no e').2 t)
    |val d=>exact h.val i d e'
    |own ds=>exact absurd ⟨_,ds,e',rfl⟩ (zcO h.no (i:=i))
    |par ds=>exact absurd ⟨_,ds,e',rfl⟩ (zcO h.no (i:=i))
 dis:=fun i j s t a hij e1 e2 w1 w2=>by
  have key:∀(i:Nat) (s:Sl),ρ[i]? =some s->OwS K G H σ[i]? a s->(i=b/\a=l)\/(i=c/\a=l2):=fun i s e w=>by
   by_cases z:i=b
   ·subst z
    rw[hb]at e;cases e
    have w:σ[i]? =some (some (.ref a)):=w
    rw[hs]at w
    exact .inl ⟨rfl,(V.ref.inj (Option.some.inj (Option.some.inj w))).symm⟩
   ·by_cases z2:i=c
    ·subst z2
     rw[hb2]at e;cases e
     have w:σ[i]? =some (some (.ref a)):=w
     rw[hs2]at w
     exact .inr ⟨rfl,(V.ref.inj (Option.some.inj (Option.some.inj w))).symm⟩
    ·exact absurd w (zfD h.no (show((ρ.set b .emp).set c .emp)[i]? =some s by rw[List.getElem?_set_ne (Ne.symm z2),List.getElem?_set_ne (Ne.symm z)];exact e))
  rcases key i s e1 w1 with⟨z1,z2⟩|⟨z1,z2⟩<;>rcases key j t e2 w2 with⟨y1,y2⟩|⟨y1,y2⟩
  ·exact hij (z1.trans y1.symm)
  ·exact ll (z2.symm.trans y2)
  ·exact ll (y2.symm.trans z2)
  ·exact hij (z1.trans y1.symm)
theorem VS.ofQ {l l2:Addr}(I:SI K B G H σ ρ)(hbc:b≠c)(hO:B.O=[(b,l),(c,l2)])(h:zgz b c ρ=true):
  ∃cs ys cs2 ys2,(ρ[b]? =some (.par cs)/\σ[b]? =some (some (.ref l))/\G l=none/\H l=some (.lst ys)/\RepL K G ys cs)/\(ρ[c]? =some (.par cs2)/\σ[c]? =some (some (.ref l2))/\G l2=none/\H l2=some (.lst ys2)/\RepL K G ys2 cs2)/\VS K G σ ((ρ.set b .emp).set c .emp):=by
 unfold zgz at h
 split at h
 ·rename_i cs cs2 e e2
  obtain⟨l',ys,h1,h2,h3,h4,h5⟩:=I.slot b _ e
  obtain⟨l2',ys2,k1,k2,k3,k4,k5⟩:=I.slot c _ e2
  have hl:l'=l:=by
   rw[hO]at h5
   have:(b=b/\l'=l)\/(b=c/\l'=l2):=by simpa using h5
   rcases this with z|z
   ·exact z.2
   ·exact absurd z.1 hbc
  have hl2:l2'=l2:=by
   rw[hO]at k5
   have:(c=b/\l2'=l)\/(c=c/\l2'=l2):=by simpa using k5
   rcases this with z|z
   ·exact absurd z.1.symm hbc
   ·exact z.2
  subst hl hl2
  refine⟨cs,ys,cs2,ys2,⟨e,h1,h2,h3,h4⟩,⟨e2,k1,k2,k3,k4⟩,⟨by rw[List.length_set,List.length_set];exact I.len,h,fun i d e'=>?_⟩⟩
  rw[List.getElem?_set]at e'
  split at e'
  ·split at e'
   ·cases e'
   ·cases e'
  ·rw[List.getElem?_set]at e'
   split at e'
   ·split at e'
    ·cases e'
    ·cases e'
   ·exact I.slot i _ e'
 ·cases h
theorem nw_two {G H G' H':Hp}{j j2:Nat}{s s2:Sl}{cs out cs2 out2:List D}{l l2 p:Addr}(I:SI K B G H σ ρ)(jj:j≠j2)(e:ρ[j]? =some s)(q:s.items=some cs)(hl:σ[j]? =some (some (.ref l)))(e2:ρ[j2]? =some s2)(q2:s2.items=some cs2)(hl2:σ[j2]? =some (some (.ref l2)))(hp:H p=none)
  (nw:∀b o,G' b=some o->G b≠none\/H b=none) (kp:∀b o,b≠l->b≠l2->H b=some o->H' b=some o):Nw K G' H' σ ((ρ.set j (s.put out)).set j2 (s2.put out2)) p:=fun i t et w=>by
 obtain⟨l',xs,e1,f2,e3,e4⟩:=I.wr e q
 rw[hl]at e1;cases e1
 obtain⟨l',xs2,e1,f2',e3',e4'⟩:=I.wr e2 q2
 rw[hl2]at e1;cases e1
 have hpl:p≠l:=fun z=>by rw[z,e3]at hp;cases hp
 have hpl2:p≠l2:=fun z=>by rw[z,e3']at hp;cases hp
 by_cases z2:i=j2
 ·subst z2
  rw[List.getElem?_set,if_pos rfl]at et
  split at et
  ·cases et
   have:=(zax (zdB q2 out2)).mp w
   rw[hl2]at this
   exact hpl2 (V.ref.inj (Option.some.inj (Option.some.inj this))).symm
  ·cases et
 ·rw[List.getElem?_set_ne (Ne.symm z2)]at et
  by_cases z:i=j
  ·subst z
   rw[List.getElem?_set,if_pos rfl]at et
   split at et
   ·cases et
    have:=(zax (zdB q out)).mp w
    rw[hl]at this
    exact hpl (V.ref.inj (Option.some.inj (Option.some.inj this))).symm
   ·cases et
  ·rw[List.getElem?_set_ne (Ne.symm z)]at et
   have sl:=I.slot i t et
   refine(sl.own (sl.back (fun a w g h=>?_) w)).2.1 hp
   have na:a≠l:=fun w'=>by subst w';exact I.dis i j t s a z et e w ((zax q).mpr hl)
   have na2:a≠l2:=fun w'=>by subst w';exact I.dis i j2 t s2 a z2 et e2 w ((zax q2).mpr hl2)
   obtain⟨u,hu⟩:=Option.ne_none_iff_exists'.mp h
   refine⟨?_,(kp a u na na2 hu).trans hu.symm⟩
   cases q3:G' a with
   |none=>rfl
   |some u=>
    rcases nw a u q3 with z|z
    ·exact absurd g z
    ·exact absurd z h
theorem grow_two {G H G' H':Hp}{j j2:Nat}{s s2:Sl}{cs out cs2 out2:List D}{l l2:Addr}{ys ys2:List V}(I:SI K B G H σ ρ)(jj:j≠j2)(e:ρ[j]? =some s)(q:s.items=some cs)(hl:σ[j]? =some (some (.ref l)))(e2:ρ[j2]? =some s2)(q2:s2.items=some cs2)(hl2:σ[j2]? =some (some (.ref l2)))
  (f:Fz G G') (fz:Fz G' H') (nw:∀b o,G' b=some o->G b≠none\/H b=none) (kp:∀b o,b≠l->b≠l2->H b=some o->H' b=some o) (gl:G' l=none) (hl':H' l=some (.lst ys)) (r:RepL K G' ys out) (gl2:G' l2=none) (hl2':H' l2=some (.lst ys2)) (r2:RepL K G' ys2 out2):
  SI K B G' H' σ ((ρ.set j (s.put out)).set j2 (s2.put out2)):=by
 obtain⟨l',xs2,e1,f2',e3',e4'⟩:=I.wr e2 q2
 rw[hl2]at e1;cases e1
 have ll:l≠l2:=fun z=>I.dis j j2 s s2 l jj e e2 ((zax q).mpr hl) ((zax q2).mpr (by rw[z];exact hl2))
 have I1:=I.growW (G':=G') (H':=upd H' l2 (.lst xs2)) (out:=out) e q hl f (fun b o h=>by
  have:b≠l2:=fun z=>by rw[z,gl2]at h;cases h
  rw[zad this];exact fz b o h) nw (fun b o n h=>by
  by_cases z:b=l2
  ·subst z;rw[zaf];rw[e3']at h;exact h
  ·rw[zad z];exact kp b o n z h) gl (by rw[zad ll];exact hl') r
 have e2':(ρ.set j (s.put out))[j2]? =some s2:=by rw[List.getElem?_set_ne jj];exact e2
 exact I1.growW e2' q2 hl2 (Fz.refl _) fz (fun b o h=> .inl (by rw[h];simp)) (fun b o n h=>by rw[zad n]at h;exact h) gl2 hl2' r2
structure LcQ (K:W.Frag) (bk ck:Nat) (g:D->R->Option R) (mt:MT) (me:ME) (items all:List D) (ρf:R) (G2 H1:Hp) (DD l l2:Addr) (i:Nat) (σc:St) (Hc Gc:Hp) (ρc:R) (acc:List D) (xs:List V) (rest cs:List D) (ys:List V) (cs2:List D) (ys2:List V):Prop where
 fc:Fz G2 Gc
 fcH:Fz Gc Hc
 nw:∀b o,Gc b=some o->G2 b≠none\/H1 b=none
 kp:∀b o,b≠l->b≠l2->H1 b=some o->Hc b=some o
 gD:Gc DD=none
 hDc:Hc DD=some (.lst xs)
 ra:RepL K Gc xs acc
 hx:xs.length<=i
 pb:ρc[bk]? =some (.par cs)/\σc[bk]? =some (some (.ref l))/\Gc l=none/\Hc l=some (.lst ys)/\RepL K Gc ys cs
 pc:ρc[ck]? =some (.par cs2)/\σc[ck]? =some (some (.ref l2))/\Gc l2=none/\Hc l2=some (.lst ys2)/\RepL K Gc ys2 cs2
 vs:VS K Gc σc ((ρc.set bk .emp).set ck .emp)
 ec:zbN (zie bk ck g mt me) (items.drop i) ρc=some (rest,ρf)
 eall:all=acc++rest
section
variable {X:Cx} {elt iter tg:Expr} {ifs:List Expr} {scope:Scope} {pos:Pos} {N:List Str} {cap:List Nat} {t bk wk ck vk:Nat} {mi:MA} {g:D->R->Option R} {mt:MT} {me:ME}
theorem zjg (hbw:cap[bk]? =some wk)(hcv:cap[ck]? =some vk)(hbc:bk≠ck)(hwv:wk≠vk){wi:TI}
  (si:∀B G H σ ρ ds ρ' (Q:It->Hp->Prop),SI X.K B G H σ ρ->mi ρ=some (ds,ρ')->(∀J G' H',SI X.K B G' H' σ ρ'->Fz G G'->Itm X.K J G' ds->Q J H')->wi σ H Q)
  (sg:∀C s H₀ fp B G H σ ρ v d ρ' (Q:St->Hp->Prop),SI X.K B G H σ ρ->RepD X.K G v d->g d ρ=some ρ'->(∀G' H' σ',SI X.K B G' H' σ' ρ'->Fz G G'->Q σ' H')->tg' C s H₀ fp v σ H Q)
  (st:∀C s H₀ fp B G H σ ρ d ρ' (Q:Bool->Hp->Prop),SI X.K B G H σ ρ->mt ρ=some (d,ρ')->(∀G' H',SI X.K B G' H' σ ρ'->Fz G G'->Q d H')->tt C s H₀ fp σ H Q)
  (se:∀C s H₀ fp B G H σ ρ d ρ' (Q:VK),SI X.K B G H σ ρ->me ρ=some (d,ρ')->(∀G' H' v,SI X.K B G' H' σ ρ'->Fz G G'->RepD X.K G' v d->Q v H')->te C s H₀ fp σ H Q):
  ∀B G H σ ρ ds ρ' (Q:VK),SI X.K B G H σ ρ->oLC2 cap t bk wk ck vk mi g mt me ρ=some (ds,ρ')->
   (∀G' H' l xs,SI X.K B G' H' σ ρ'->Fz G G'->G' l=none->H' l=some (.lst xs)->RepL X.K G' xs ds->B.H l=none->Nw X.K G' H' σ ρ' l->Q (.ref l) H')->tLC (capσ cap t) wi tg' tt te σ H Q:=by
 intro B G H σ ρ ds ρ' Q I hm k
 obtain⟨⟨items,ρ1⟩,e1,hm⟩:=zaa hm
 refine si B G H σ ρ items ρ1 _ I e1 fun J G1 H1 I1 f1 IT DD hD=>?_
 dsimp only at hm
 split at hm
 ·rename_i hlen
  obtain⟨sw,ew,hm⟩:=zaa hm
  obtain⟨cs0,qw,hm⟩:=zaa hm
  obtain⟨sv,ev,hm⟩:=zaa hm
  obtain⟨cs1,qv,hm⟩:=zaa hm
  obtain⟨⟨all,ρf⟩,e2,e3⟩:=zag hm
  obtain⟨rfl,rfl⟩:=Prod.mk.inj e3
  obtain⟨G2,I2,f2⟩:=SI.fzL (cap.filter fun i=>i !=wk&&i !=vk) I1
  have hDG:G2 DD=none:=I2.fz.free hD
  obtain⟨l,ys0,hσ,gl0,hl0,rl0⟩:=I2.wr ew qw
  obtain⟨l2,ys1,hσ2,gl1,hl1,rl1⟩:=I2.wr ev qv
  have ll:l≠l2:=fun z=>I2.dis wk vk sw sv l hwv ew ev ((zax qw).mpr hσ) ((zax qv).mpr (by rw[z];exact hσ2))
  have hlD:DD≠l:=(zan hl0 hD).symm
  have hlD2:DD≠l2:=(zan hl1 hD).symm
  have capAt:∀{b w:Nat} {q:Addr},cap[b]? =some w->σ[w]? =some (some (.ref q))->b<cap.length/\(capσ cap t σ)[b]? =some (some (.ref q)):=fun{b w q} h1 h2=>by
   have hb:b<cap.length:=(List.getElem?_eq_some_iff.mp h1).1
   have hbe:cap[b]=w:=(List.getElem?_eq_some_iff.mp h1).2
   refine⟨hb,?_⟩
   unfold capσ
   rw[List.getElem?_append_left (by simpa using hb),List.getElem?_map,List.getElem?_eq_getElem hb,hbe]
   simp[h2]
  obtain⟨hb,hσb⟩:=capAt hbw hσ
  obtain⟨hb2,hσc⟩:=capAt hcv hσ2
  have lenR:(capR cap t (M.fzL (cap.filter fun i=>i !=wk&&i !=vk) ρ1)).length=cap.length+t:=by unfold capR;simp
  have vs0:VS X.K G2 (capσ cap t σ) (((((capR cap t (M.fzL (cap.filter fun i=>i !=wk&&i !=vk) ρ1)).set bk (.par cs0)).set ck (.par cs1)).set bk .emp).set ck .emp):=by
   rw[List.set_comm _ _ (Ne.symm hbc),List.set_set,List.set_set]
   exact((zj9 I2 cap t).setEmp bk).setEmp ck
  have start:LcQ X.K bk ck g mt me items all ρf G2 H1 DD l l2 0 (capσ cap t σ) (upd H1 DD (.lst [])) G2 (((capR cap t (M.fzL (cap.filter fun i=>i !=wk&&i !=vk) ρ1)).set bk (.par cs0)).set ck (.par cs1)) [] [] all cs0 ys0 cs1 ys1:=by
   refine⟨Fz.refl _,I2.fz.right hDG _,fun b o e=> .inl (by rw[e];simp),fun b o _ _ e=>by rw[zad (zan e hD)];exact e,hDG,zaf,.nil,Nat.le_refl _,⟨?_,hσb,gl0,by rw[zad (zan hl0 hD)];exact hl0,rl0⟩,⟨?_,hσc,gl1,by rw[zad (zan hl1 hD)];exact hl1,rl1⟩,vs0,by simpa using e2,rfl⟩
   ·rw[List.getElem?_set_ne (Ne.symm hbc),List.getElem?_set,if_pos rfl,if_pos (by rw[lenR];lia)]
   ·rw[List.getElem?_set,if_pos rfl,if_pos (by rw[List.length_set,lenR];lia)]
  refine⟨fun i m σc Hc=>m=items.length-i/\i<=items.length/\∃Gc ρc acc xs rest cs ys cs2 ys2,LcQ X.K bk ck g mt me items all ρf G2 H1 DD l l2 i σc Hc Gc ρc acc xs rest cs ys cs2 ys2,
   ⟨items.length,by simp,Nat.zero_le _,G2,((capR cap t (M.fzL (cap.filter fun i=>i !=wk&&i !=vk) ρ1)).set bk (.par cs0)).set ck (.par cs1),[],[],all,cs0,ys0,cs1,ys1,start⟩,?_⟩
  rintro i m σc Hc ⟨rfl,hi,Gc,ρc,acc,xs,rest,cs,ys,cs2,ys2,J0⟩
  obtain⟨fc,fcH,nw,kp,gD,hDc,ra,hx,pb,pc,vs,ec,eall⟩:=J0
  by_cases hlt:i<items.length
  ·refine .inr ⟨IT.go Hc i (f2.trans (fc.trans fcH)) hlt,fun C s₀ H₀ fp x H' y=>?_⟩
   rw[List.drop_eq_getElem_cons hlt]at ec
   simp only[zbN]at ec
   obtain⟨⟨o,ρ3⟩,h3,ec⟩:=zaa ec
   obtain⟨⟨rest2,ρ4⟩,h4,ec⟩:=zag ec
   obtain⟨rfl,rfl⟩:=Prod.mk.inj ec
   dsimp only at h4
   unfold zie at h3
   obtain⟨ρ5,h5,h3⟩:=zaa h3
   obtain⟨⟨ok,ρ6⟩,h6,h3⟩:=zaa h3
   dsimp only at h3
   have Ic:SI X.K ⟨Gc,Hc,[(bk,l),(ck,l2)]⟩ Gc Hc σc ρc:=vs.siQ fcH hbc ll pb.1 pb.2.1 pb.2.2.1 pb.2.2.2.1 pb.2.2.2.2 pc.1 pc.2.1 pc.2.2.1 pc.2.2.2.1 pc.2.2.2.2
   have fz2:Fz G1 Hc:=f2.trans (fc.trans fcH)
   have yy:=IT.yld Hc i x H' fz2 y items[i] (List.getElem?_eq_getElem hlt)
   have yy2:(H'=Hc/\RepD X.K Gc x items[i])\/∃p xs es,Hc p=none/\H'=upd Hc p (.tup xs)/\x= .ref p/\items[i]= .tup es/\RepL X.K Gc xs es:=by
    rcases yy with⟨a,b⟩|⟨p,xs,es,a,b,c,d,e⟩
    ·exact .inl ⟨a,b.mono (f2.trans fc)⟩
    ·exact .inr ⟨p,xs,es,a,b,c,d,e.mono (f2.trans fc)⟩
   obtain⟨G3,I3,f3,r3⟩:=Ic.yld yy2
   refine sg C s₀ H₀ fp _ G3 H' σc ρc x items[i] ρ5 _ I3 r3 h5 fun G4 H4 σ4 I4 f4=>st C s₀ H₀ fp _ G4 H4 σ4 ρ5 ok ρ6 _ I4 h6 fun G5 H5 I5 f5=>?_
   have facts:∀(G' H':Hp) (σ':St) (ρ':R),SI X.K ⟨Gc,Hc,[(bk,l),(ck,l2)]⟩ G' H' σ' ρ'->(∀b o,G' b=some o->G2 b≠none\/H1 b=none)/\(∀b o,b≠l->b≠l2->H1 b=some o->H' b=some o)/\G' DD=none/\H' DD=some (.lst xs):=fun G' H' σ' ρ' I'=>by
    refine⟨fun b o e=>?_,fun b o ne ne2 e=>I'.keep b o (kp b o ne ne2 e) (by simp;exact fun _=>⟨fun _=>ne,fun _=>ne2⟩),?_,I'.keep DD _ hDc (by simp;exact fun _=>⟨fun _=>hlD,fun _=>hlD2⟩)⟩
    ·rcases I'.new b o e with h|h
     ·have h:Gc b≠none:=h
      cases q:Gc b with
      |none=>exact absurd q h
      |some u=>exact nw b u q
     ·refine .inr ?_
      cases q:H1 b with
      |none=>rfl
      |some u=>
       have hn:Hc b=none:=h
       have nb:b≠l:=fun z=>by rw[z,pb.2.2.2.1]at hn;cases hn
       have nb2:b≠l2:=fun z=>by rw[z,pc.2.2.2.1]at hn;cases hn
       have:=kp b u nb nb2 q
       rw[hn]at this;cases this
    ·cases q:G' DD with
     |none=>rfl
     |some u=>
      rcases I'.new DD u q with h|h
      ·exact absurd gD h
      ·rw[show Hc DD=none from h]at hDc;cases hDc
   cases ok with
   |false=>
    simp only[Bool.false_eq_true,if_false]at h3
    split at h3
    ·rename_i hno
     cases h3
     obtain⟨a1,a2,a3,a4⟩:=facts G5 H5 σ4 _ I5
     obtain⟨cs',ys',cs2',ys2',w1,w2,w6⟩:=VS.ofQ I5 hbc rfl hno
     exact⟨items.length-(i+1),by lia,rfl,hlt,G5,_,acc,xs,rest2,cs',ys',cs2',ys2',{fc:=fc.trans (f3.trans (f4.trans f5)),fcH:=I5.fz,nw:=a1,kp:=a2,gD:=a3,hDc:=a4,ra:=ra.mono (f3.trans (f4.trans f5)),hx:=by lia,pb:=w1,pc:=w2,vs:=w6,ec:=h4,eall:=by simpa using eall}⟩
    ·cases h3
   |true=>
    simp only[if_true]at h3 ⊢
    obtain⟨⟨dv,ρ7⟩,h7,h3⟩:=zaa h3
    dsimp only at h3
    split at h3
    ·rename_i hno
     cases h3
     refine se C s₀ H₀ fp _ G5 H5 σ4 ρ6 dv _ _ I5 h7 fun G6 H6 v I6 f6 r6=>?_
     obtain⟨a1,a2,a3,a4⟩:=facts G6 H6 σ4 _ I6
     obtain⟨cs',ys',cs2',ys2',⟨w1,w2,w3,w4,w5⟩,⟨v1,v2,v3,v4,v5⟩,w6⟩:=VS.ofQ I6 hbc rfl hno
     have ff:Fz Gc G6:=f3.trans (f4.trans (f5.trans f6))
     exact⟨xs,a4,by rw[sizeLine_eq];lia,items.length-(i+1),by lia,rfl,hlt,G6,_,acc++[dv],xs++[v],rest2,cs',ys',cs2',ys2',{fc:=fc.trans ff,fcH:=I6.fz.right a3 _,nw:=a1,kp:=fun b o ne ne2 e=>by rw[zad (zan e hD)];exact a2 b o ne ne2 e,gD:=a3,hDc:=zaf,ra:=(ra.mono ff).snoc r6,hx:=by rw[List.length_append,List.length_singleton];lia,pb:=⟨w1,w2,w3,by rw[zad (Ne.symm hlD)];exact w4,w5⟩,pc:=⟨v1,v2,v3,by rw[zad (Ne.symm hlD2)];exact v4,v5⟩,vs:=w6,ec:=h4,eall:=by rw[eall];simp}⟩
    ·cases h3
  ·have e:i=items.length:=by lia
   subst e
   rw[List.drop_length]at ec
   obtain⟨rfl,rfl⟩:=Prod.mk.inj (Option.some.inj ec)
   have hall:all=acc:=by rw[eall,List.append_nil]
   refine .inl ⟨IT.stop Hc _ (f2.trans (fc.trans fcH)) (Nat.le_refl _),?_⟩
   rw[<-hall]at ra
   have hp:zdW bk ρc=cs:=by unfold zdW;rw[pb.1]
   have hp2:zdW ck ρc=cs2:=by unfold zdW;rw[pc.1]
   rw[hp,hp2]at k
   exact k Gc Hc DD xs (grow_two I2 hwv ew qw hσ ev qv hσ2 fc fcH nw kp pb.2.2.1 pb.2.2.2.1 pb.2.2.2.2 pc.2.2.1 pc.2.2.2.1 pc.2.2.2.2) (f1.trans (f2.trans fc)) gD hDc ra (I2.there DD hD) (nw_two I2 hwv ew qw hσ ev qv hσ2 hD nw kp)
 ·cases hm
theorem so_lc2 (cap:List Nat)(t bk wk ck vk:Nat)(N:List Str)(hc:X.calm=true)(hi:SIt X tg iter mi)(hg:∀C s H fp,SG (cxC X N scope C s H fp) tg g)(ht:∀C s H fp,STs (cxC X N scope C s H fp) ifs mt)(he:∀C s H fp,SE (cxC X N scope C s H fp) elt me)(hbw:autoParam (cap[bk]? =some wk) zu3._auto_1)(hcv:autoParam (cap[ck]? =some vk) zu3._auto_1)(hbc:autoParam (bk≠ck) zu1._auto_1)(hwv:autoParam (wk≠vk) zu1._auto_1)
    (hk:autoParam (scope.kind= .function) zu3._auto_1) (hb:autoParam (blkB X.env scope=true) zu11._auto_1) (hcap:autoParam (capB scope.names N X.N cap t=true) zu11._auto_1)
    (hs:autoParam (∀x,foldedSetIterable iter X.env x=pure x) zu9._auto_1):SO X (.ListComp elt [⟨tg,iter,ifs,0⟩] scope pos) (oLC2 cap t bk wk ck vk mi g mt me):=by
  obtain⟨wi,pi,si⟩:=hi
  exact⟨_,pe_lc hc (zhL hk hb) (zhN hcap) pi (fun C s H fp=>(hg C s H fp).choose_spec.1) (fun C s H fp=>(ht C s H fp).choose_spec.1) (fun C s H fp=>(he C s H fp).choose_spec.1) hs,
    zjg hbw hcv hbc hwv si (fun C s H fp=>(hg C s H fp).choose_spec.2) (fun C s H fp=>(ht C s H fp).choose_spec.2) (fun C s H fp=>(he C s H fp).choose_spec.2)⟩
end
noncomputable def ePop (j:Nat)(me:ME):ME:=fun ρ=>if(ρ[j]?.bind Sl.items).isSome then(me ρ).bind fun p=>match p.1 with
 | .int i=>p.2[j]?.bind fun s=>s.items.bind fun ds=>if 0<=i/\i<ds.length/\ds.length<=16777216 then(ds[i.toNat]?).map fun d=>(d,p.2.set j (s.put (ds.eraseIdx i.toNat)))else none
 |_=>none else none
theorem RepL.erase:∀{xs:List V} {ds:List D} (k:Nat),RepL K G xs ds->RepL K G (xs.eraseIdx k) (ds.eraseIdx k)
 |_,[],_,h=>by cases h;simp;rfl
 |_,d::ds,0,⟨x,ys,e,a,b⟩=>by subst e;exact b
 |_,d::ds,k+1,⟨x,ys,e,a,b⟩=>by subst e;exact⟨x,_,rfl,a,RepL.erase k b⟩
section
variable {X:Cx} {x:Str} {e:Expr} {me:ME}
theorem se_pop (j:Nat){p' apos cpos:Pos}(he:SE X e me)(hN:autoParam (X.N[j]? =some x) zu3._auto_1)(hv:autoParam (Vis X.env.scope x) zu6._auto_1)(hd:autoParam ((x==("__debug__":Str))=false) zu1._auto_1)
  (hcd:autoParam ((x==("__classdict__":Str))=false) zu1._auto_1)
  (hbase:autoParam (attributeBase (.Name x p') "pop" X.env (eval (.Name x p') X.env)=eval (.Name x p') X.env) zu3._auto_1)
  (hfew :autoParam (((backTo cpos (starEach [e] X.env)).all (fun x => !x.1) && (backToKw cpos (keywordEach [] X.env)).all (fun x => x.1.isSome)
   &&decide ([e].length+([]:List Keyword).length+(if([]:List Keyword).isEmpty then 0 else 1)<30))=true) zu3._auto_1)
  (hline:autoParam ((apos.endLine==cpos.line)=true) zu3._auto_1) (hs:autoParam (starEach [e] X.env=(false,eval e X.env)::starEach [] X.env) zu3._auto_1):SE X (.Call (.Attribute (.Name x p') "pop" apos) [e] [] cpos) (ePop j me):=by
 obtain⟨t,p,s⟩:=he
 refine⟨_,pe_bm PySem.F.plainAttrs_list PySem.F.slot_list_pop PySem.F.type_list_pop mt_popAt (zaH hN hv hd hcd) (zaB p zbE hs) hbase hfew hline hs rfl,fun B G H σ ρ d ρ' Q I hm k=>?_⟩
 unfold ePop at hm
 split at hm
 ·rename_i hso
  obtain⟨ds0,hso⟩:=Option.isSome_iff_exists.mp hso
  obtain⟨s0,e0,q0⟩:=zaa hso
  obtain⟨l,xs0,h1,h2,h3,h4⟩:=I.wr e0 q0
  obtain⟨⟨dv,ρ1⟩,e1,hm⟩:=zaa hm
  dsimp only at hm
  split at hm
  ·rename_i i
   obtain⟨s1,e2,hm⟩:=zaa hm
   obtain⟨ds,e3,hm⟩:=zaa hm
   split at hm
   ·rename_i hl
    obtain⟨dd,e4,e5⟩:=zag hm
    obtain⟨rfl,rfl⟩:=Prod.mk.inj e5
    refine⟨.ref l,h1,.inl ⟨rfl,_,SqL.of h3⟩,s B G H σ ρ (.int i) ρ1 _ I e1 fun G1 H1 v I1 f1 r1=>?_⟩
    obtain⟨l',xs,k1,k2,k3,k4⟩:=I1.wr e2 e3
    rw[h1]at k1;cases k1
    cases(show v= .int i from r1)
    obtain⟨y,hy,ry⟩:=k4.get e4
    have len:=k4.length
    refine⟨l,xs,i,i.toNat,y,rfl,rfl,k3,by lia,by lia,by unfold seqIndex?;simp;lia,hy,?_⟩
    exact k G1 _ y (I1.write e2 e3 h1 (k4.erase i.toNat)) f1 ry
   ·cases hm
  ·cases hm
 ·cases hm
end
end M
namespace M
open PySem PySem.W
open PyProof.Rows (bubble mirror bubble_size bubble_perm mirror_size mirror_perm getElem?_bubble getElem?_mirror_all)
variable {cmp:Nat->Nat->(Bool->Shared->Prop)->Shared->Prop} {s:Shared} {a b i j n m:Nat} {p q:Array Nat}
noncomputable def kGd (n:Nat)(lt:Nat->Nat->Bool){α:Type}:KasT α->(α->Prop)->Prop
 | .ret a,Q=>Q a
 | .ask i j k,Q=>i<n/\j<n/\kGd n lt (k (lt i j)) Q
noncomputable def kRun (lt:Nat->Nat->Bool){α:Type}:KasT α->α
 | .ret a=>a
 | .ask i j k=>kRun lt (k (lt i j))
section
variable {n:Nat} {lt:Nat->Nat->Bool} {α β:Type}
theorem zcR {f:α->KasT β}{Q:β->Prop}:∀{t:KasT α},kGd n lt t (fun a=>kGd n lt (f a) Q)->kGd n lt (t.bind f) Q
 | .ret _,h=>h
 | .ask _ _ _,⟨h1,h2,h3⟩=>⟨h1,h2,zcR h3⟩
theorem zbd {Q Q':α->Prop}(q:∀a,Q a->Q' a):∀{t:KasT α},kGd n lt t Q->kGd n lt t Q'
 | .ret a,h=>q a h
 | .ask _ _ _,⟨h1,h2,h3⟩=>⟨h1,h2,zbd q h3⟩
theorem zg9 {Q:α->Prop}:∀{t:KasT α},kGd n lt t Q->Q (kRun lt t)
 | .ret _,h=>h
 | .ask i j k,⟨_,_,h3⟩=>zg9 (t:=k (lt i j)) h3
theorem kGd_wp {Q0:α->Prop}{Q:α->Shared->Prop}(hc:∀i j C,i<n->j<n->C (lt i j) s->cmp i j C s):
  ∀{t:KasT α},kGd n lt t Q0->Q (kRun lt t) s->t.kasWp cmp Q s
 | .ret _,_,h=>h
 | .ask i j k,⟨h1,h2,h3⟩,h=>hc i j _ h1 h2 (kGd_wp (t:=k (lt i j)) hc h3 h)
end
structure Ord (lt:Nat->Nat->Bool):Prop where
 tr:∀a b c,lt b a=false->lt c b=false->lt c a=false
 as:∀a b,lt a b=true->lt b a=false
theorem Ord.rf {lt:Nat->Nat->Bool}(o:Ord lt)(a:Nat):lt a a=false:=by
 cases h:lt a a with
 |false=>rfl
 |true=>rw[o.as a a h]at h;cases h
theorem Ord.lt_le {lt:Nat->Nat->Bool}(o:Ord lt){a b c:Nat}(h:lt a b=true)(k:lt c b=false):lt a c=true:=by
 cases z:lt a c with
 |true=>rfl
 |false=>rw[o.tr b c a k z]at h;cases h
noncomputable def kv (p:Array Nat)(k:Nat):Nat:=p.getD k 0
theorem zki (h:p[i]? =q[j]?):kv p i=kv q j:=by
 unfold kv
 rw[Array.getD_eq_getD_getElem?,Array.getD_eq_getD_getElem?,h]
structure Pm (n:Nat) (p:Array Nat):Prop where
 pm:p.toList.Perm (List.range n)
theorem Pm.size (h:Pm n p):p.size=n:=by
 have:=h.pm.length_eq
 rwa[Array.length_toList,List.length_range]at this
theorem Pm.lt (h:Pm n p)(hn:0<n)(k:Nat):kv p k<n:=by
 unfold kv
 by_cases hk:k<p.size
 ·have:p.getD k 0=p[k]:=by simp[Array.getD,hk]
  rw[this]
  exact List.mem_range.mp (h.pm.mem_iff.mp (Array.mem_toList_iff.mpr (Array.getElem_mem hk)))
 ·have:p.getD k 0=0:=by simp[Array.getD,hk]
  rw[this];exact hn
theorem Pm.bub (h:Pm n p)(a d:Nat):Pm n (bubble p a d):=⟨(Array.perm_iff_toList_perm.mp (bubble_perm p a d)).trans h.pm⟩
theorem Pm.rev (h:Pm n p)(i j:Nat):Pm n (kas_rev p i j):=⟨(Array.perm_iff_toList_perm.mp (mirror_perm p i j _)).trans h.pm⟩
theorem zi8 {i j:Nat}(hj:j<=p.size)(k:Nat):kv (kas_rev p i j) k=if i<=k/\k<j then kv p (i+j-1-k)else kv p k:=by
 have h:=getElem?_mirror_all (i:=i) hj k
 split
 ·rename_i z;rw[if_pos z]at h;exact zki h
 ·rename_i z;rw[if_neg z]at h;exact zki h
theorem kv_bub {a d:Nat}(ha:a<p.size)(hd:d<=a)(k:Nat):kv (bubble p a d) k=if k=a-d then kv p a else if a-d<k/\k<=a then kv p (k-1)else kv p k:=by
 have h:=getElem?_bubble ha d hd k
 by_cases z:k=a-d
 ·rw[if_pos z]at h ⊢;exact zki h
 ·rw[if_neg z]at h ⊢
  by_cases y:a-d<k/\k<=a
  ·rw[if_pos y]at h ⊢;exact zki h
  ·rw[if_neg y]at h ⊢;exact zki h
section
variable {n:Nat} {lt:Nat->Nat->Bool}
noncomputable def Up (lt:Nat->Nat->Bool)(p:Array Nat)(m:Nat):Prop:=∀i,0<i->i<m->lt (kv p i) (kv p (i-1))=false
noncomputable def Dn (lt:Nat->Nat->Bool)(p:Array Nat)(m:Nat):Prop:=∀i,0<i->i<m->lt (kv p (i-1)) (kv p i)=false
noncomputable def Eqv (lt:Nat->Nat->Bool)(a b:Nat):Prop:=lt a b=false/\lt b a=false
theorem Eqv.sy (h:Eqv lt a b):Eqv lt b a:=⟨h.2,h.1⟩
theorem Eqv.tr (o:Ord lt){a b c:Nat}(h:Eqv lt a b)(k:Eqv lt b c):Eqv lt a c:=⟨o.tr c b a k.1 h.1,o.tr a b c h.2 k.2⟩
theorem Up.le (o:Ord lt)(h:Up lt p m):∀{j i:Nat},i<=j->j<m->lt (kv p j) (kv p i)=false
 |0,i,h1,_=>by cases Nat.le_zero.mp h1;exact o.rf _
 |j+1,i,h1,h2=>by
  rcases Nat.lt_or_eq_of_le h1 with z|z
  ·exact o.tr _ _ _ (Up.le o h (by lia) (by lia)) (h (j+1) (by lia) h2)
  ·subst z;exact o.rf _
theorem Dn.eqv (o:Ord lt)(h:Dn lt p m)(e:∀k,Eqv lt (kv q k) (kv p k)):Dn lt q m:=fun i h1 h2=>
 o.tr _ _ _ (e i).2 (o.tr _ _ _ (h i h1 h2) (e (i-1)).1)
theorem zgZ (o:Ord lt)(hj:j<=p.size)(h:∀k,i<=k->k<j->Eqv lt (kv p k) (kv p (j-1)))(k:Nat):Eqv lt (kv (kas_rev p i j) k) (kv p k):=by
 rw[zi8 hj]
 split
 ·rename_i z
  exact(h _ (by lia) (by lia)).tr o (h k z.1 z.2).sy
 ·exact⟨o.rf _,o.rf _⟩
theorem Dn.turn (h:Dn lt p m)(hm:m<=p.size):Up lt (kas_rev p 0 m) m:=fun i h1 h2=>by
 rw[zi8 hm,zi8 hm,if_pos ⟨by lia,h2⟩,if_pos ⟨by lia,by lia⟩]
 have:=h (0+m-1-(i-1)) (by lia) (by lia)
 rwa[show 0+m-1-(i-1)-1=0+m-1-i by lia]at this
theorem zi3 (hn:0<n)(hp:Pm n p):∀(f m:Nat),1<=m->Up lt p m->kGd n lt (kas_asc p f m) fun r=>m<=r/\r<=m+f/\Up lt p r/\(r<m+f->lt (kv p r) (kv p (r-1))=true)
 |0,m,_,h=>⟨Nat.le_refl _,Nat.le_refl _,h,fun z=>absurd z (Nat.lt_irrefl _)⟩
 |f+1,m,h1,h=>by
  refine⟨hp.lt hn m,hp.lt hn (m-1),?_⟩
  show kGd n lt (if lt (kv p m) (kv p (m-1))=true then _ else _) _
  split
  ·rename_i c
   exact⟨Nat.le_refl _,by lia,h,fun _=>c⟩
  ·rename_i c
   have c':lt (kv p m) (kv p (m-1))=false:=by simpa using c
   refine zbd (fun r hr=>⟨by lia,by lia,hr.2.2.1,fun z=>hr.2.2.2 (by lia)⟩) (zi3 hn hp f (m+1) (by lia) fun i a b=>?_)
   rcases Nat.lt_or_eq_of_le (Nat.le_of_lt_succ b)with z|z
   ·exact h i a z
   ·subst z;exact c'
theorem zfm (o:Ord lt)(hn:0<n):∀(f:Nat) (p:Array Nat) (m q:Nat),Pm n p->m+f<=n->q+1<=m->Dn lt p m->(∀k,m-(q+1)<=k->k<m->Eqv lt (kv p k) (kv p (m-1)))->
  kGd n lt (kas_desc f p m q) fun r=>Pm n r.1/\m<=r.2.1/\r.2.1<=m+f/\r.2.2+1<=r.2.1/\Dn lt r.1 r.2.1/\∀k,r.2.1-(r.2.2+1)<=k->k<r.2.1->Eqv lt (kv r.1 k) (kv r.1 (r.2.1-1))
 |0,p,m,q,hp,hm,hq,h,e=>⟨hp,Nat.le_refl _,Nat.le_refl _,hq,h,e⟩
 |f+1,p,m,q,hp,hm,hq,h,e=>by
  have more:∀{p':Array Nat},Dn lt p' m->lt (kv p' (m-1)) (kv p' m)=false->Dn lt p' (m+1):=fun h' c i a b=>by
   rcases Nat.lt_or_eq_of_le (Nat.le_of_lt_succ b)with z|z
   ·exact h' i a z
   ·subst z;exact c
  have one:∀{p':Array Nat} (k:Nat),m+1-(0+1)<=k->k<m+1->Eqv lt (kv p' k) (kv p' (m+1-1)):=fun k a b=>by
   obtain rfl:k=m:=by lia
   exact⟨o.rf _,o.rf _⟩
  refine⟨hp.lt hn m,hp.lt hn (m-1),?_⟩
  show kGd n lt (if lt (kv p m) (kv p (m-1))=true then(if q>0 then _ else _)else KasT.ask (kv p (m-1)) (kv p m) _) _
  split
  ·rename_i c
   have c2:=o.as _ _ c
   split
   ·have ev:=zgZ o (p:=p) (i:=m-(q+1)) (j:=m) (by rw[hp.size];lia) e
    have hl:lt (kv (kas_rev p (m-(q+1)) m) (m-1)) (kv (kas_rev p (m-(q+1)) m) m)=false:=o.tr _ _ _ (ev m).2 (o.tr _ _ _ c2 (ev (m-1)).1)
    exact zbd (fun r hr=>⟨hr.1,by lia,by lia,hr.2.2.2.1,hr.2.2.2.2⟩) (zfm o hn f _ (m+1) 0 (hp.rev _ _) (by lia) (by lia) (more (h.eqv o ev) hl) one)
   ·exact zbd (fun r hr=>⟨hr.1,by lia,by lia,hr.2.2.2.1,hr.2.2.2.2⟩) (zfm o hn f _ (m+1) 0 hp (by lia) (by lia) (more h c2) one)
  ·rename_i c
   have c':lt (kv p m) (kv p (m-1))=false:=by simpa using c
   refine⟨hp.lt hn (m-1),hp.lt hn m,?_⟩
   show kGd n lt (if lt (kv p (m-1)) (kv p m)=true then _ else _) _
   split
   ·exact⟨hp,Nat.le_refl _,Nat.le_add_right m (f+1),hq,h,e⟩
   ·rename_i d
    have d':lt (kv p (m-1)) (kv p m)=false:=by simpa using d
    refine zbd (fun r hr=>⟨hr.1,by lia,by lia,hr.2.2.2.1,hr.2.2.2.2⟩) (zfm o hn f p (m+1) (q+1) hp (by lia) (by lia) (more h d') fun k a b=>?_)
    rcases Nat.lt_or_eq_of_le (Nat.le_of_lt_succ b)with z|z
    ·exact(e k (by lia) z).tr o ⟨d',c'⟩
    ·subst z;exact⟨o.rf _,o.rf _⟩
noncomputable def Run (lt:Nat->Nat->Bool)(n:Nat)(r:Nat×Array Nat):Prop:=Pm n r.2/\1<=r.1/\r.1<=n/\Up lt r.2 r.1
theorem zho (hn:0<n)(hp:Pm n p)(h1:1<=m)(h2:m<=n)(h:Dn lt p m):kGd n lt (kas_tail3 m n p) (Run lt n):=by
 refine zcR (zbd (fun r hr=>?_) (zi3 hn (hp.rev 0 m) (n-m) m h1 (h.turn (by rw[hp.size];exact h2))))
 exact⟨hp.rev 0 m,by lia,by lia,hr.2.2.1⟩
theorem zes (o:Ord lt)(hn:0<n){p:Array Nat}(hp:Pm n p)(h1:1<=m)(h2:m<n)(h:Dn lt p (m+1)):kGd n lt (kas_descPart m n p) (Run lt n):=by
 refine zcR (zbd (fun r hr=>?_) (zfm o hn (n-(m+1)) p (m+1) 0 hp (by lia) (by lia) h fun k a b=>?_))
 ·obtain⟨a1,a2,a3,a4,a5,a6⟩:=hr
  split
  ·have ev:=zgZ o (p:=r.1) (i:=r.2.1-(r.2.2+1)) (j:=r.2.1) (by rw[a1.size];lia) a6
   exact zho hn (a1.rev _ _) (by lia) (by lia) (a5.eqv o ev)
  ·exact zho hn a1 (by lia) (by lia) a5
 ·obtain rfl:k=m:=by lia
  exact⟨o.rf _,o.rf _⟩
theorem gd_count (o:Ord lt)(hn:0<n){p:Array Nat}(hp:Pm n p):kGd n lt (kas_count n p) (Run lt n):=by
 refine zcR (zbd (fun m hm=>?_) (zi3 hn hp (n-1) 1 (Nat.le_refl _) fun i a b=>absurd a (by lia)))
 obtain⟨a1,a2,a3,a4⟩:=hm
 split
 ·exact⟨hp,a1,by lia,a3⟩
 ·rename_i ne
  have ne':m≠n:=by simpa using ne
  have c:=a4 (by lia)
  split
  ·refine⟨hp.lt hn 0,hp.lt hn (m-1),?_⟩
   show kGd n lt (if lt (kv p 0) (kv p (m-1))=true then _ else _) _
   split
   ·exact⟨hp,a1,by lia,a3⟩
   ·rename_i d
    have d':lt (kv p 0) (kv p (m-1))=false:=by simpa using d
    have eq:∀k,0<=k->k<m->Eqv lt (kv p k) (kv p (m-1)):=fun k _ hk=>⟨o.tr _ _ _ d' (a3.le o (Nat.zero_le k) hk)|>fun z=>?_,a3.le o (by lia) (by lia)⟩
    ·have ev:=zgZ o (p:=p) (i:=0) (j:=m) (by rw[hp.size];lia) eq
     refine zes o hn (hp.rev 0 m) a1 (by lia) fun i x y=>?_
     rcases Nat.lt_or_eq_of_le (Nat.le_of_lt_succ y)with z|z
     ·exact o.tr _ _ _ (ev i).2 (o.tr _ _ _ ((eq (i-1) (by lia) (by lia)).tr o (eq i (by lia) z).sy).1 (ev (i-1)).1)
     ·subst z;exact o.tr _ _ _ (ev i).2 (o.tr _ _ _ (o.as _ _ c) (ev (i-1)).1)
    ·exact o.tr _ _ _ d' (a3.le o (Nat.zero_le k) hk)
  ·obtain rfl:m=1:=by lia
   refine zes o hn hp (Nat.le_refl _) (by lia) fun i x y=>?_
   obtain rfl:i=1:=by lia
   exact o.as _ _ c
theorem zfo (o:Ord lt)(hn:0<n){k:Nat}(hp:Pm n p)(hu:Up lt p k):∀(f l r:Nat),l<=r->r<=k->r-l<=f->(∀i,i<l->lt (kv p k) (kv p i)=false)->(∀i,r<=i->i<k->lt (kv p k) (kv p i)=true)->
  kGd n lt (kas_place p k f l r) fun x=>x<=k/\(∀i,i<x->lt (kv p k) (kv p i)=false)/\∀i,x<=i->i<k->lt (kv p k) (kv p i)=true
 |0,l,r,h1,h2,h3,h4,h5=>by
  obtain rfl:l=r:=by lia
  exact⟨h2,h4,h5⟩
 |f+1,l,r,h1,h2,h3,h4,h5=>by
  unfold kas_place
  split
  ·obtain rfl:l=r:=by lia
   exact⟨h2,h4,h5⟩
  ·rename_i ne
   refine⟨hp.lt hn k,hp.lt hn _,?_⟩
   show kGd n lt (if lt (kv p k) (kv p ((l+r)/2))=true then _ else _) _
   split
   ·rename_i c
    refine zfo o hn hp hu f l _ (by lia) (by lia) (by lia) h4 fun i a b=>?_
    exact o.lt_le c (hu.le o a b)
   ·rename_i c
    have c':lt (kv p k) (kv p ((l+r)/2))=false:=by simpa using c
    refine zfo o hn hp hu f _ r (by lia) h2 (by lia) (fun i a=>?_) h5
    exact o.tr _ _ _ (hu.le o (i:=i) (j:=(l+r)/2) (by lia) (by lia)) c'
theorem gd_bin (o:Ord lt)(hn:0<n):∀(f:Nat) (p:Array Nat) (k:Nat),k+f=n->1<=k->Pm n p->Up lt p k->kGd n lt (kas_bin f p k) fun q=>Pm n q/\Up lt q n
 |0,p,k,h1,_,hp,hu=>by
  obtain rfl:k=n:=by lia
  exact⟨hp,hu⟩
 |f+1,p,k,h1,hk,hp,hu=>by
  refine zcR (zbd (fun x hx=>?_) (zfo o hn hp hu k 0 k (Nat.zero_le _) (Nat.le_refl _) (by lia) (fun i a=>absurd a (by lia)) fun i a b=>absurd a (by lia)))
  obtain⟨b1,b2,b3⟩:=hx
  have hs:k<p.size:=by rw[hp.size];lia
  refine gd_bin o hn f _ (k+1) (by lia) (by lia) (hp.bub _ _) fun i a b=>?_
  have e:k-(k-x)=x:=by lia
  rw[kv_bub hs (by lia),kv_bub hs (by lia),e]
  by_cases z:i=x
  ·rw[if_pos z,if_neg (by lia),if_neg (by lia)]
   exact b2 (i-1) (by lia)
  ·rw[if_neg z]
   by_cases y:x<i
   ·rw[if_pos ⟨y,by lia⟩]
    by_cases u:i-1=x
    ·rw[if_pos u,u];exact o.as _ _ (b3 x (Nat.le_refl _) (by lia))
    ·rw[if_neg u,if_pos ⟨by lia,by lia⟩];exact hu (i-1) (by lia) (by lia)
   ·rw[if_neg (fun q=>y q.1),if_neg (by lia),if_neg (by lia)];exact hu i a (by lia)
theorem zhc (o:Ord lt)(hn:0<n):kGd n lt (kas_sort n) fun q=>Pm n q/\Up lt q n:=by
 refine zcR (zbd (fun r hr=>?_) (gd_count o hn (p:=List.toArray (List.range n)) ⟨List.Perm.refl _⟩))
 obtain⟨a1,a2,a3,a4⟩:=hr
 split
 ·rw[show max r.1 1=r.1 by lia]
  exact gd_bin o hn _ _ _ (by lia) a2 a1 a4
 ·obtain e:r.1=n:=by lia
  rw[e]at a4
  exact⟨a1,a4⟩
end
noncomputable def srt (n:Nat)(lt:Nat->Nat->Bool):List Nat:=if n<2 then List.range n else(kRun lt (kas_sort n)).toList
theorem zfx {n:Nat}{lt:Nat->Nat->Bool}(o:Ord lt):(srt n lt).Perm (List.range n):=by
 unfold srt
 split
 ·exact List.Perm.refl _
 ·exact(zg9 (zhc o (n:=n) (by lia))).1.pm
theorem srt_up {n:Nat}{lt:Nat->Nat->Bool}(o:Ord lt)(hij:i<=j)(ha:(srt n lt)[i]? =some a)(hb:(srt n lt)[j]? =some b):lt b a=false:=by
 unfold srt at ha hb
 split at ha
 ·rename_i h
  rw[if_pos h]at hb
  have h1:=(List.getElem?_eq_some_iff.mp hb).1
  rw[List.length_range]at h1
  obtain rfl:i=j:=by lia
  rw[ha]at hb;cases hb;exact o.rf _
 ·rename_i h
  rw[if_neg h]at hb
  obtain⟨p1,p2⟩:=zg9 (zhc o (n:=n) (by lia))
  have e:∀{k c:Nat},(kRun lt (kas_sort n)).toList[k]? =some c->kv (kRun lt (kas_sort n)) k=c:=fun{k c} q=>by
   unfold kv
   rw[Array.getElem?_toList]at q
   rw[Array.getD_eq_getD_getElem?,q];rfl
  have h1:=(List.getElem?_eq_some_iff.mp hb).1
  rw[Array.length_toList,p1.size]at h1
  rw[<-e ha,<-e hb]
  exact p2.le o hij h1
end M
namespace HT
open PySem PySem.W
open PyProof.Rows (seqObj listItems_at listUpdate_at seqEpoch_at get?_update_seq size_push' sortedHeap sortedAll list_sort_plain arrOf failedOf general' keyKind' pairsOf collect_list)
noncomputable def outA (vs:List Value)(lt:Nat->Nat->Bool):List Value:=(M.srt vs.length lt).map fun i=>vs.getD i Value.none
theorem outA_len {vs:List Value}{lt:Nat->Nat->Bool}(o:M.Ord lt):(outA vs lt).length=vs.length:=by
 unfold outA
 rw[List.length_map,(M.zfx o).length_eq,List.length_range]
theorem zih (vs:List Value):(List.range vs.length).map (fun i=>vs.getD i Value.none)=vs:=by
 refine List.ext_getElem (by simp) fun i h1 h2=>?_
 rw[List.getElem_map,List.getElem_range,List.getD_eq_getElem?_getD,List.getElem?_eq_getElem h2]
 rfl
section
variable {prog:Program} {w:World} {A:Around} {E:Value->Shared->Prop} {s:Shared}
noncomputable def Asked (prog:Program)(w:World)(A:Around)(ks:List Value)(lt:Nat->Nat->Bool)(s:Shared):Prop:=
 ∃κ,(∀(Q:PyProof.Rows.SortKind->Shared->Prop) (E:Value->Shared->Prop),Q κ s->wpAny (model prog w) A (keyKind' (List.toArray ks)) Q E s)/\∀i j C,i<ks.length->j<ks.length->C (lt i j) s->kas_ask prog w A κ ks i j C s
theorem ziN {a:Addr}{vs:List Value}{n:Nat}{lt:Nat->Nat->Bool}{P:PySem.Fin->Shared->Prop}(o:M.Ord lt)(ho:s.heap.get? a=some (seqObj "list" vs.toArray n))(h64:vs.length<64)
  (hk:2<=vs.length->∀h',(∀b u,b≠a->s.heap.get? b=some u->h'.get? b=some u)->Asked prog w A vs lt {s with heap:=h'})
  (h:P (.done (.ret .none)) {s with heap:=sortedHeap s.heap a vs (outA vs lt).toArray}):wpAny (model prog w) A (Builtin.«list.sort» ⟨[.ref a],[]⟩) P E s:=by
 rw[list_sort_plain]
 have ha:=Heap.lt_size ho
 have hsl:vs.length<=sizeLine:=by rw[sizeLine_eq];lia
 obtain⟨e1,g1⟩:∃c,(s.heap.update a (Obj.mapSeq fun _=> #[])).get? a=some (seqObj "list" #[] c):=⟨_,get?_update_seq ho fun _=> #[]⟩
 refine wpAny_bind (listItems_at ho rfl (wpAny_bind (listUpdate_at ho rfl (wpAny_bind (seqEpoch_at g1 rfl (wpAny_bind (wpAny_newTuple (wpAny_bind (wpAny_newList (wpAny_holding ?_) (Nat.zero_le _))) hsl)))) (by rw[List.size_toArray];exact hsl) (Nat.zero_le _))))
 generalize hH:((s.heap.update a (Obj.mapSeq fun _=>(#[]:Array Value))).push (seqObj "tuple" vs.toArray 0)).push (seqObj "list" #[] 0)=H3
 have g3:H3.get? a=some (seqObj "list" #[] e1):=by
  rw[<-hH];exact Heap.get?_push_of_some _ (Heap.get?_push_of_some _ g1)
 have k3:∀b u,b≠a->s.heap.get? b=some u->H3.get? b=some u:=fun b u z q=>by
  rw[<-hH];exact Heap.get?_push_of_some _ (Heap.get?_push_of_some _ ((Heap.get?_update_other _ _ (Ne.symm z)).trans q))
 show wpAny _ A _ P E {s with heap:=H3}
 dsimp only
 have fin:∀(st:PyProof.Rows.SortSt),(arrOf st).map (·.2)=(outA vs lt).toArray->failedOf st=none->wpAny (model prog w) A (do
   let sorted:=(arrOf st).map (·.2)
   let touched:=(<-seqEpoch a) !=e1
   Builtin.List.listUpdate (.ref a) fun _=>sorted
   if let some e:=failedOf st then rule "list.sort.comparison-raised";throw e
   if touched then rule "list.sort.modified";raiseError "ValueError" "list modified during sort"
   ret .none) P E {s with heap:=H3}:=fun st e f=>by
  dsimp only
  rw[e,f]
  refine wpAny_bind (seqEpoch_at g3 rfl (wpAny_bind (listUpdate_at g3 rfl ?_ (Nat.zero_le _) (by rw[List.size_toArray,outA_len o];lia))))
  simp only[bne_self_eq_false,Bool.false_eq_true,if_false]
  refine wpAny_pure ?_
  rw[<-hH]
  exact h
 have hz:vs.toArray.size=vs.length:=List.size_toArray ..
 by_cases h2:vs.length<2
 ·simp only[if_pos (show vs.toArray.size<2 by rw[hz];exact h2)]
  refine wpAny_bind (wpAny_pure ?_)
  rw[StateT.run_pure]
  refine wpAny_bind (wpAny_pure (fin _ ?_ rfl))
  unfold outA M.srt
  rw[if_pos h2,zih]
  show((vs.toArray.zip vs.toArray).map (·.2))=_
  apply Array.toList_inj.mp
  simp[List.map_snd_zip]
 ·simp only[if_neg (show ¬vs.toArray.size<2 by rw[hz];exact h2)]
  obtain⟨κ,a1,a2⟩:=hk (by lia) H3 k3
  refine wpAny_bind (a1 _ _ (wpAny_bind (wpAny_mono (kat_run (Q:=fun st s'=>s'={s with heap:=H3}/\(arrOf st).map (·.2)=(outA vs lt).toArray/\failedOf st=none) (G:=fun p s'=>s'={s with heap:=H3}/\p=M.kRun lt (kas_sort vs.length)) rfl (by lia) h64 (fun p st s' b1 b2 b3 b4=>⟨b4.1,?_,b3⟩) (M.kGd_wp (n:=vs.length) (lt:=lt) a2 (M.zhc o (by lia)) ⟨rfl,rfl⟩)) (fun r s' ⟨c1,c2,c3⟩=>?_) fun _ _ x=>x)))
  ·rw[kat_snds rfl b2,b4.2]
   unfold outA M.srt
   rw[if_neg h2]
  ·subst c1
   exact fin r.2 c2 c3
theorem sortedA {l:Addr}{vs:List Value}{lt:Nat->Nat->Bool}{Q:Value->Shared->Prop}(o:M.Ord lt)(hl:s.heap.IsList l vs.toArray)(h64:vs.length<64)
    (hk:2<=vs.length->∀h',(∀b u,s.heap.get? b=some u->h'.get? b=some u)->Asked prog w A.in1.in1 vs lt {s with heap:=h'})
    (h:Q (.ref (s.heap.objs.size+1)) {s with heap:=sortedAll s.heap vs (outA vs lt).toArray}):wpAny (model prog w) A (call (.builtin "sorted") [.ref l]) Q E s:=by
  have hsl:vs.length<=sizeLine:=by rw[sizeLine_eq];lia
  have hsz:((s.heap.push (seqObj "list" #[] 0)).update s.heap.objs.size (Obj.mapSeq (· ++vs.toArray))).objs.size=s.heap.objs.size+1:=(Heap.size_update ..).trans (size_push' ..)
  refine Calls.call_function_entry PyProof.Rows.kind_sorted PyProof.Rows.plain_sorted PyProof.Rows.entry_sorted (PyProof.Rows.args_sorted1 _) (?_:wpAny _ _ (Builtin.«sorted» _) _ _ _)
  unfold Builtin.«sorted»
  refine wpAny_bind (m:=checkCount "sorted" 1 1 _) (wpAny_pure (wpAny_bind (collect_list hl (wpAny_bind (wpAny_newList ?_ hsl)) hsl)))
  have g:(((s.heap.push (seqObj "list" #[] 0)).update s.heap.objs.size (Obj.mapSeq (· ++vs.toArray))).push (seqObj "list" vs.toArray 0)).get? (s.heap.objs.size+1)=some (seqObj "list" vs.toArray 0):=hsz ▸ Heap.get?_push_size _ rfl
  show wpAny _ _ _ _ _ {s with heap:=((s.heap.push (seqObj "list" #[] 0)).update s.heap.objs.size (Obj.mapSeq (· ++vs.toArray))).push (seqObj "list" vs.toArray 0)}
  rw[hsz]
  refine wpAny_bind (wpAny_holding (wpAny_call_entry PyProof.Rows.slot_list_sort ⟨_,g,rfl⟩ PyProof.Rows.entry_list_sort (ziN o g h64 (fun h2 h' k=>hk h2 h' fun b u q=>?_) ⟨_,rfl,wpAny_pure ⟨_,rfl,h⟩⟩) (PyProof.Rows.args_list_sort _)))
  have hlt:=Heap.lt_size q
  exact k b u (Nat.ne_of_lt (Nat.lt_succ_of_lt hlt)) (Heap.get?_push_of_some _ ((Heap.get?_update_other _ _ (Nat.ne_of_gt hlt)).trans (Heap.get?_push_of_some _ q)))
end
end HT
namespace HT
open PySem PySem.Spec PySem.W
open PyProof.Rows (IntsAre IsTup)
theorem lex_tr:∀a b c:List Int,zeY b a=false->zeY c b=false->zeY c a=false
 |[],_,[],_,_=>rfl
 |[],_,_::_,_,_=>rfl
 |_::_,[],_,h,_=>by cases h
 |_::_,_::_,[],_,h=>by cases h
 |x::xs,y::ys,z::zs,h,k=>by
  rw[zcN]at h k ⊢
  by_cases e:y=x
  ·by_cases f:z=y
   ·rw[if_pos e]at h;rw[if_pos f]at k;rw[if_pos (f.trans e)];exact lex_tr xs ys zs h k
   ·rw[if_neg f]at k;subst e;rw[if_neg f];exact k
  ·rw[if_neg e]at h
   have h':=of_decide_eq_false h
   by_cases f:z=y
   ·rw[if_neg (by lia)];exact decide_eq_false (by lia)
   ·rw[if_neg f]at k
    have k':=of_decide_eq_false k
    rw[if_neg (by lia)];exact decide_eq_false (by lia)
theorem lex_as:∀a b:List Int,zeY a b=true->zeY b a=false
 |[],[],h=>by cases h
 |[],_::_,_=>rfl
 |_::_,[],h=>by cases h
 |x::xs,y::ys,h=>by
  rw[zcN]at h ⊢
  by_cases e:x=y
  ·rw[if_pos e]at h;rw[if_pos e.symm];exact lex_as xs ys h
  ·rw[if_neg e]at h
   have h':=of_decide_eq_true h
   rw[if_neg (by lia)];exact decide_eq_false (by lia)
noncomputable def zdc (nss:List (List Int))(i j:Nat):Bool:=zeY (nss.getD i []) (nss.getD j [])
theorem zkA (nss:List (List Int)):M.Ord (zdc nss):=⟨fun _ _ _=>lex_tr _ _ _,fun _ _=>lex_as _ _⟩
section
variable {prog:Program} {w:World} {A:Around} {E:Value->Shared->Prop} {s:Shared}
theorem zbq {α:Type}{l:List α}{i:Nat}{x d:α}(h:l[i]? =some x):l.getD i d=x:=by rw[List.getD_eq_getElem?_getD,h];rfl
theorem zio {ks:List Value}{ns:List Int}(hi:IntsAre ks ns)(h2:2<=ks.length):Asked prog w A ks (zdc (ns.map fun n=>[n])) s:=by
 refine⟨PyProof.Rows.oneType',fun Q E h=>?_,fun i j C h1 h3 h=>?_⟩
 ·rw[PyProof.Rows.ksk_kind (kz:=ns) hi (by rw[List.size_toArray];exact h2)]
  exact wpAny_pure h
 ·obtain⟨n,t,e1,e2⟩:=hi.at i _ (List.getElem?_eq_getElem h1)
  obtain⟨m,u,f1,f2⟩:=hi.at j _ (List.getElem?_eq_getElem h3)
  unfold kas_ask
  rw[zbq (List.getElem?_eq_getElem h1),zbq (List.getElem?_eq_getElem h3),e1,f1]
  refine kat_lt_int ?_
  unfold zdc at h
  rw[zbq (x:=[n]) (by rw[List.getElem?_map,e2];rfl),zbq (x:=[m]) (by rw[List.getElem?_map,f2];rfl),zcN]at h
  by_cases z:n=m
  ·subst z;rw[if_pos rfl]at h;rw[decide_eq_false (Int.lt_irrefl n)];exact h
  ·rwa[if_neg z]at h
theorem ziR {b fin:Bool}{Q:Bool->Shared->Prop}:∀{xs ys:List Value} {ns ms:List Int} (i:Nat),IntsAre xs ns->IntsAre ys ms->fin=decide (ns.length<ms.length)->Q (zeY ns ms) s->KatLex prog w A b fin Q (xs.zip ys) i s
 |_,_,_,_,i,.nil,.nil,e,h=>by subst e;exact h
 |_,_,_,_,i,.nil,.cons _ _ _,e,h=>by subst e;exact h
 |_,_,_,_,i,.cons _ _ _,.nil,e,h=>by subst e;exact h
 |_,_,_,_,i,.cons n t hx,.cons m u hy,e,h=>by
  refine kat_cons (wpAny_eqBool_int ?_)
  rw[zcN]at h
  by_cases z:n=m
  ·rw[if_pos z]at h
   rw[beq_iff_eq.mpr z]
   exact kat_yes (ziR (i+1) hx hy (by rw[e];simp) h)
  ·rw[if_neg z]at h
   rw[beq_eq_false_iff_ne.mpr z]
   refine kat_no ?_
   cases hb:(b&&i==0)with
   |true=>exact PyProof.Rows.oneLt_int h
   |false=>exact kat_one _ _ (PyProof.Rows.lt_int h)
noncomputable def zjP (h:Heap)(ks:List Value)(nss:List (List Int)):Prop:=ks.length=nss.length/\∀(i:Nat) v ns,ks[i]? =some v->nss[i]? =some ns->∃a its,v= .ref a/\IsTup h a (List.toArray its)/\IntsAre its ns/\ns≠[]
theorem zkn {h:Heap}:∀{ks:List Value} {nss:List (List Int)},zjP h ks nss->∃fs,KatTups h ks fs/\fs.length=ks.length/\∀v∈fs,∃n t,v=Value.int n t
 |[],nss,_=>⟨[],KatTups.nil,rfl,fun v hv=>absurd hv (by simp)⟩
 |k::ks,[],⟨h1,_⟩=>by simp at h1
 |k::ks,ns::nss,⟨h1,h2⟩=>by
  obtain⟨a,its,rfl,⟨o,ho,hc,n,hd⟩,hi,ne⟩:=h2 0 _ _ rfl rfl
  obtain⟨fs,g1,g2,g3⟩:=zkn (ks:=ks) (nss:=nss) ⟨by simpa using h1,fun i v ns e1 e2=>h2 (i+1) v ns (by simpa using e1) (by simpa using e2)⟩
  cases hi with
  |nil=>exact absurd rfl ne
  |cons m t hi=>
   refine⟨.int m t::fs,KatTups.cons ho hc hd rfl g1,by simp[g2],fun v hv=>?_⟩
   rcases List.mem_cons.mp hv with rfl|hv
   ·exact⟨m,t,rfl⟩
   ·exact g3 v hv
theorem ziJ {ks:List Value}{nss:List (List Int)}(ht:zjP s.heap ks nss)(h2:2<=ks.length):Asked prog w A ks (zdc nss) s:=by
 obtain⟨fs,g1,g2,g3⟩:=zkn ht
 refine⟨PyProof.Rows.tuples' true,fun Q E h=>?_,fun i j C h1 h3 h=>?_⟩
 ·refine kat_kind (T:= .type "int") g1 (by lia) (fun v hv=>?_) rfl h
  obtain⟨n,t,rfl⟩:=g3 v hv
  exact Looks.now
 ·have hl:=ht.1
  obtain⟨a,its,e1,⟨o,ho,hc,n,hd⟩,hi,_⟩:=ht.2 i _ _ (List.getElem?_eq_getElem h1) (List.getElem?_eq_getElem (by lia))
  obtain⟨b,its2,f1,⟨o2,ho2,hc2,n2,hd2⟩,hi2,_⟩:=ht.2 j _ _ (List.getElem?_eq_getElem h3) (List.getElem?_eq_getElem (by lia))
  unfold kas_ask
  rw[zbq (List.getElem?_eq_getElem h1),zbq (List.getElem?_eq_getElem h3),e1,f1]
  unfold zdc at h
  rw[zbq (List.getElem?_eq_getElem (l:=nss) (i:=i) (by lia)),zbq (List.getElem?_eq_getElem (l:=nss) (i:=j) (by lia))]at h
  refine kat_lt ho hd ho2 hd2 (ziR 0 hi hi2 ?_ h)
  rw[List.size_toArray,List.size_toArray,hi.length,hi2.length]
end
end HT
namespace M
open L2 PySem PySem.Spec
open PyProof.Rows hiding St
noncomputable def ziI (ds:List D):Option (List (List Int)):=match zaM ds with
 |some ns=>some (ns.map fun n=>[n])
 |none=>(ze2 ds).bind fun nss=>if nss.all fun ns=>!ns.isEmpty then some nss else none
noncomputable def srtD (nss:List (List Int))(ds:List D):List D:=(srt ds.length (HT.zdc nss)).map fun i=>ds.getD i .non
noncomputable def dSrt:List D->Option (List D)
 |[.lst ds]=>if ds.length<64 then(ziI ds).map fun nss=>srtD nss ds else none
 |_=>none
noncomputable def KeyV (K:W.Frag)(H:Hp)(ys:List V)(nss:List (List Int)):Prop:=
 (∃ns:List Int,ys=ns.map V.int/\nss=ns.map fun n=>[n])\/∃as:List Addr,ys=as.map V.ref/\as.length=nss.length/\∀(i:Nat) a ns,as[i]? =some a->nss[i]? =some ns->SqT K H a (ns.map V.int)/\ns≠[]
noncomputable def srtV (nss:List (List Int))(ys:List V):List V:=(srt ys.length (HT.zdc nss)).map fun i=>ys.getD i .non
noncomputable def rSrt (K:W.Frag):List V->Hp->VK->Prop:=fun xs H Q=>∃(p:Addr) (ys:List V) (nss:List (List Int)),xs=[.ref p]/\SqL K H p ys/\ys.length<64/\KeyV K H ys nss/\∀l,H l=none->Q (.ref l) (upd H l (.lst (srtV nss ys)))
theorem zgj {ys:List V}{its:List Value}(r:Vals ys its):∀ix:List Nat,Vals (ix.map fun i=>ys.getD i .non) (ix.map fun i=>its.getD i .none)
 |[]=> .nil
 |i::ix=>by
  refine .cons ?_ (zgj r ix)
  dsimp only
  cases e:ys[i]? with
  |some y=>
   obtain⟨u,h1,h2⟩:=r.get e
   rw[HT.zbq e,HT.zbq h1];exact h2
  |none=>
   rw[List.getD_eq_getElem?_getD,List.getD_eq_getElem?_getD,e,r.none_of e];exact rfl
theorem zg2 {X:Cx}:zdT X (.builtin "sorted") (rSrt X.K):=by
 intro pins s σ H xs us Q I r h
 obtain⟨p,ys,nss,rfl,hq,h64,kv,q⟩:=h
 obtain⟨u,rfl,ru⟩:=zgc r
 cases ru
 obtain⟨its,rv,pl,hz⟩:=I.list hq
 have hl:=rv.length
 refine HT.sortedA (HT.zkA nss) pl.isList (by lia) (fun h2 h' k=>?_) ?_
 ·rcases kv with⟨ns,rfl,rfl⟩|⟨as,rfl,e1,e2⟩
  ·exact HT.zio (zdP rv) h2
  ·refine HT.ziJ ⟨by rw[<-hl,List.length_map,e1],fun i v ns e3 e4=>?_⟩ h2
   obtain⟨a,ea,rfl⟩:=refs_get rv e3
   obtain⟨g1,g2⟩:=e2 i a ns ea e4
   have I':Inv X pins σ H {s with heap:=h'}:=I.kept k
   obtain⟨its2,r2,p2,_⟩:=I'.tuple g1
   exact⟨a,its2,rfl,p2,zdP r2,g2⟩
 ·obtain⟨e,he⟩:=PyProof.Rows.sortedAll_at s.heap its (HT.outA its (HT.zdc nss)).toArray
  refine⟨.ref (s.heap.objs.size+1),upd H (s.heap.objs.size+1) (.lst (srtV nss ys)),I.laid (t':=s.toks) (fun b u z=>PyProof.Rows.sortedAll_old z) (Nat.le_succ _) ?_,rfl,q _ (I.hok.fresh (Nat.le_succ _))⟩
  have r2:=zgj rv (srt ys.length (HT.zdc nss))
  refine⟨?_,HT.outA its (HT.zdc nss),e,?_,he⟩
  ·unfold srtV
   rw[List.length_map,(zfx (HT.zkA nss)).length_eq,List.length_range];exact hz
  ·unfold HT.outA srtV
   rw[<-hl];exact r2
theorem RepL.picks {K:W.Frag}{G:Hp}{ys:List V}{ds:List D}(r:RepL K G ys ds):∀ix:List Nat,RepL K G (ix.map fun i=>ys.getD i .non) (ix.map fun i=>ds.getD i .non)
 |[]=> .nil
 |i::ix=>by
  refine .cons ?_ (RepL.picks r ix)
  dsimp only
  cases e:ds[i]? with
  |some y=>
   obtain⟨u,h1,h2⟩:=r.get e
   rw[HT.zbq e,HT.zbq h1];exact h2
  |none=>
   have e':ys[i]? =none:=by rw[List.getElem?_eq_none_iff]at e ⊢;rw[r.length];exact e
   rw[List.getD_eq_getElem?_getD,List.getD_eq_getElem?_getD,e,e'];exact rfl
theorem keyV_of {K:W.Frag}{G H:Hp}{ys:List V}{ds:List D}{nss:List (List Int)}(f:Fz G H)(r:RepL K G ys ds)(e:ziI ds=some nss):KeyV K H ys nss:=by
 unfold ziI at e
 split at e
 ·rename_i ns h
  cases e
  rw[zdI h]at r
  exact .inl ⟨ns,RepL.ints_eq r,rfl⟩
 ·obtain⟨ms,e1,e⟩:=zaa e
  split at e
  ·rename_i ha
   cases e
   obtain⟨as,rfl,hl,h⟩:=zgi r e1
   refine .inr ⟨as,rfl,hl,fun i a ns h1 h2=>⟨SqT.of (f _ _ (h i a ns h1 h2)),fun z=>?_⟩⟩
   have:=List.all_eq_true.mp ha ns (List.mem_of_getElem? h2)
   rw[z]at this;cases this
  ·cases e
theorem zj0 {X:Cx}{e:Expr}{ma:MA}{p pos:Pos}(ml:X.mg "sorted"=none)(ha:SA X [e] ma)(hg:autoParam (Gl X "sorted") zu3._auto_1)(he:autoParam (starEach [e] X.env=(false,eval e X.env)::starEach [] X.env) zu3._auto_1)(hb:autoParam (bootBuiltins "sorted"=some (.builtin "sorted")) zu8._auto_1):
  SO X (.Call (.Name "sorted" p) [e] [] pos) (oC dSrt ma):=by
 obtain⟨t,pa,sa⟩:=ha
 refine⟨_,zed zg2 hg ml hb pa (by decide) (by decide) he rfl,fun B G H σ ρ ds ρ' Q I hm k=>?_⟩
 obtain⟨as,e1,e2⟩:=oC_inv hm
 refine sa B G H σ ρ as ρ' _ I e1 fun G1 H1 vs I1 f1 r1=>?_
 unfold dSrt at e2
 split at e2
 ·rename_i es
  split at e2
  ·rename_i h64
   obtain⟨nss,e3,rfl⟩:=zag e2
   obtain⟨x,rfl,ra⟩:=r1.one
   obtain⟨q,ys,rfl,hp,ry⟩:=I1.lst ra
   have hl:=ry.length
   refine⟨q,ys,nss,rfl,SqL.of hp,by lia,keyV_of I1.fz ry e3,fun l h0=>?_⟩
   obtain⟨I2,g2,h2,b2,n2⟩:=I1.newO h0 (srtV nss ys)
   refine k G1 _ l _ I2 f1 g2 h2 ?_ b2 n2
   unfold srtV srtD
   rw[hl];exact ry.picks _
  ·cases e2
 ·cases e2
end M
namespace HT
open PySem
noncomputable def SIt (h:Heap)(I S:Addr)(first:Value)(i n ep:Nat):Prop:=∃o,h.get? I=some o/\o.cls= .type "set_iterator"/\o.data= .fields #[first,.int i 0,.ref S,.int n 0,.int ep 0]
end HT
namespace M
open L2 PySem PySem.Spec
open PyProof.Rows hiding St
theorem zdr:∀{its:List Value} {ns:List Int},IntsAre its ns->Vals (ns.map V.int) its
 |_,_,.nil=> .nil
 |_,_,.cons n t h=> .cons ⟨t,rfl⟩ (zdr h)
end M
namespace L2
open PyProof.Rows PySem PySem.Spec
section
variable {X:Cx} {a b c d:Expr} {ta tb tc td:TE} {pos:Pos}
noncomputable def tChain3 (r r' r'':R2)(ta tb tc td:TE):TE:=fun σ H Q=>ta σ H fun x H1=>tb σ H1 fun y H2=>r x y H2 fun z H3=>∃k,z= .bl k/\
 (if k=true then tc σ H3 fun w H4=>r' y w H4 fun z' H5=>∃k',z'= .bl k'/\(if k'=true then td σ H5 fun v H6=>r'' w v H6 Q else Q (.bl false) H5)else Q (.bl false) H3)
theorem zjJ {op op' op'':CmpOp}{r r' r'':R2}(ho:OpR X (compareOp op) r)(ho':OpR X (compareOp op') r')(ho'':OpR X (compareOp op'') r'')(ha:PE X a ta)(hb:PE X b tb)(hc:PE X c tc)(hd:PE X d td)
  (hm:autoParam (lastMarks [op,op',op''] [b,c,d]=false) zu5._auto_1):PT X (.Compare a [op,op',op''] [b,c,d] pos) (tTest (tChain3 r r' r'' ta tb tc td)):=by
 intro pins s σ H Q I h
 refine isTrue_chain (thn (ha pins s σ H _ I h) fun v s1 ⟨x,H1,I1,r1,q1⟩=>test_link (thn (hb pins s1 σ H1 _ I1 q1) fun u s2 ⟨y,H2,I2,r2,q2⟩=>
  thn (ho pins s2 σ H2 x y v u _ I2 r1 r2 q2) fun _ s3 ⟨z,H3,I3,r3,k,e,q3⟩=>?_)) hm
 subst e
 cases r3
 refine wpAny_truthy_bool ?_
 cases k with
 |false=>
  obtain⟨k',e',q'⟩:=q3
  cases e'
  exact ite_ff ⟨H3,I3,q'⟩
 |true=>
  refine ite_tt (test_link (thn (hc pins s3 σ H3 _ I3 q3) fun w' s4 ⟨z',H4,I4,r4,q4⟩=>thn (ho' pins s4 σ H4 y z' u w' _ I4 r2 r4 q4) fun _ s5 ⟨z2,H5,I5,r5,k2,e2,q5⟩=>?_))
  subst e2
  cases r5
  refine wpAny_truthy_bool ?_
  cases k2 with
  |false=>
   obtain⟨k',e',q'⟩:=q5
   cases e'
   exact ite_ff ⟨H5,I5,q'⟩
  |true=>
   refine ite_tt (test_last (thn (hd pins s5 σ H5 _ I5 q5) fun w2 s6 ⟨z3,H6,I6,r6,q6⟩=>thn (ho'' pins s6 σ H6 z' z3 w' w2 _ I6 r4 r6 q6) fun _ s7 ⟨z4,H7,I7,r7,k3,e3,q7⟩=>?_))
   subst e3
   cases r7
   exact wpAny_truthy_bool ⟨H7,I7,q7⟩
end
end L2
namespace M
open L2 PySem
noncomputable def zfn (f g h:D->D->Option D)(a b c d:ME):ME:=fun ρ=>(a ρ).bind fun p=>(b p.2).bind fun q=>(f p.1 q.1).bind fun t=>match t with
 | .bl true=>(c q.2).bind fun r=>(g q.1 r.1).bind fun t'=>match t' with
  | .bl true=>(d r.2).bind fun s=>(h r.1 s.1).map fun x=>(x,s.2)
  | .bl false=>some (.bl false,r.2)
  |_=>none
 | .bl false=>some (.bl false,q.2)
 |_=>none
section
variable {X:Cx} {a b c d:Expr} {ma mb mc md:ME} {pos:Pos}
theorem zi9 {op op' op'':CmpOp}{r r' r'':R2}{f g h:D->D->Option D}(ho:OpR X (compareOp op) r)(ho':OpR X (compareOp op') r')(ho'':OpR X (compareOp op'') r'')(hv:V2 X r f)(hw:V2 X r' g)(hx:V2 X r'' h)(hB:∀x y d,h x y=some d->∃t,d= .bl t)
  (ha:SE X a ma) (hb:SE X b mb) (hc:SE X c mc) (hd:SE X d md) (hm:autoParam (lastMarks [op,op',op''] [b,c,d]=false) zu5._auto_1):STt X (.Compare a [op,op',op''] [b,c,d] pos) (tTru (zfn f g h ma mb mc md)):=by
 obtain⟨ta,pa,sa⟩:=ha
 obtain⟨tb,pb,sb⟩:=hb
 obtain⟨tc,pc,sc⟩:=hc
 obtain⟨td,pd,sd⟩:=hd
 refine⟨_,zjJ ho ho' ho'' pa pb pc pd hm,fun B G H σ ρ e ρ' Q I hm k=>?_⟩
 obtain⟨⟨x0,ρ0⟩,e1,e2⟩:=zaa hm
 obtain⟨t0,e3,e4⟩:=zag e2
 obtain⟨rfl,rfl⟩:=Prod.mk.inj e4
 obtain⟨⟨x,ρ1⟩,f1,h1⟩:=zaa e1
 obtain⟨⟨y,ρ2⟩,f2,h2⟩:=zaa h1
 obtain⟨t,f3,h3⟩:=zaa h2
 refine sa B G H σ ρ x ρ1 _ I f1 fun G1 H1 v I1 g1 r1=>sb B G1 H1 σ ρ1 y ρ2 _ I1 f2 fun G2 H2 u I2 g2 r2=>hv B G2 H2 σ ρ2 v u x y t _ I2 (r1.mono g2) r2 f3 fun G3 H3 z I3 g3 r3=>?_
 cases t<;>try cases h3
 rename_i t
 refine⟨t,r3,?_⟩
 cases t with
 |false=>
  cases h3
  cases e3
  exact⟨false,rfl,k G3 H3 I3 (g1.trans (g2.trans g3))⟩
 |true=>
  obtain⟨⟨w,ρ3⟩,f4,h4⟩:=zaa h3
  obtain⟨t',f5,h5⟩:=zaa h4
  refine sc B G3 H3 σ ρ2 w ρ3 _ I3 f4 fun G4 H4 s I4 g4 r4=>hw B G4 H4 σ ρ3 u s y w t' _ I4 (r2.mono (g3.trans g4)) r4 f5 fun G5 H5 z5 I5 g5 r5=>?_
  cases t'<;>try cases h5
  rename_i t'
  refine⟨t',r5,?_⟩
  cases t' with
  |false=>
   cases h5
   cases e3
   exact⟨false,rfl,k G5 H5 I5 (g1.trans (g2.trans (g3.trans (g4.trans g5))))⟩
  |true=>
   obtain⟨⟨w2,ρ4⟩,f6,h6⟩:=zaa h5
   obtain⟨d',f7,f8⟩:=zag h6
   obtain⟨rfl,rfl⟩:=Prod.mk.inj f8
   obtain⟨tt,rfl⟩:=hB _ _ _ f7
   cases e3
   exact sd B G5 H5 σ ρ3 w2 ρ4 _ I5 f6 fun G6 H6 s6 I6 g6 r6=>hx B G6 H6 σ ρ4 s s6 w w2 _ _ I6 (r4.mono (g5.trans g6)) r6 f7 fun G7 H7 z7 I7 g7 r7=>⟨_,r7,k G7 H7 I7 (g1.trans (g2.trans (g3.trans (g4.trans (g5.trans (g6.trans g7))))))⟩
noncomputable def zjC (ma mb:ME)(mo:MO):MS:=fun ρ=>(ma ρ).bind fun p=>(mb p.2).bind fun q=>(mo q.2).bind fun r=>some (.ret (.tre (.tup [.d p.1,.d q.1,.l r.1])),r.2)
theorem ss_retU3 {e:Expr}{m1 m2:ME}{mo:MO}{nn:Nat}{pos2:Pos}(ha:SE X a m1)(hb:SE X b m2)(ho:SO X e mo)
  (hs:autoParam (starEach [a,b,e] X.env=(false,eval a X.env)::starEach [b,e] X.env) zu3._auto_1) (hs2:autoParam (starEach [b,e] X.env=(false,eval b X.env)::starEach [e] X.env) zu3._auto_1)
  (hs3:autoParam (starEach [e] X.env=(false,eval e X.env)::starEach [] X.env) zu3._auto_1):
  SS X (.Return (some (.Tuple [a,b,e] nn pos2)) pos) (zjC m1 m2 mo):=by
 obtain⟨ta,pa,sa⟩:=ha
 obtain⟨tb,pb,sb⟩:=hb
 obtain⟨te,pe,so⟩:=ho
 refine⟨_,zeR (zhj (zaB pa (zaB pb (zaB pe zbE hs3) hs2) hs)),fun B G H σ ρ fl ρ' E I hm k=>?_⟩
 obtain⟨⟨d1,ρ1⟩,e1,hm⟩:=zaa hm
 obtain⟨⟨d2,ρ2⟩,e2,hm⟩:=zaa hm
 obtain⟨⟨ds,ρ4⟩,e4,hm⟩:=zaa hm
 cases hm
 refine sa B G H σ ρ d1 ρ1 _ I e1 fun G2 H2 v1 I2 f1 r1=>?_
 refine sb B G2 H2 σ ρ1 d2 ρ2 _ I2 e2 fun G3 H3 v2 I3 f2 r2=>?_
 refine so B G3 H3 σ ρ2 ds ρ4 _ I3 e4 fun G4 H4 l xs I4 f4 g4 h4 r4 b4 _=>?_
 refine⟨by rw[sizeLine_eq];exact(by decide:(3:Nat)<=16777216),fun p hp=>?_⟩
 have lp:l≠p:=zan h4 hp
 refine k G4 _ σ _ (I4.allocO hp _) (f1.trans (f2.trans f4)) ⟨[p,l],⟨p,_,[l],rfl,zaf,⟨[],[l],⟨r1.mono (f2.trans f4),rfl⟩,⟨[],[l],⟨r2.mono f4,rfl⟩,⟨[l],[],⟨l,xs,rfl,by rw[zad lp];exact h4,r4,rfl⟩,rfl,rfl⟩,rfl⟩,rfl⟩,rfl⟩,by simpa using lp.symm,fun a m=>?_⟩
 rcases List.mem_cons.mp m with rfl|m
 ·exact⟨I4.fz.free hp,I4.there a hp⟩
 ·have:a=l:=by simpa using m
  subst this
  exact⟨g4,b4⟩
end
noncomputable def oMv (i:Nat):MO:=fun ρ=>match ρ[i]? with
 |some (.own ds)=>some (ds,ρ.set i .emp)
 |_=>none
theorem so_mv {X:Cx}(i:Nat){x:Str}{pos':Pos}(hN:autoParam (X.N[i]? =some x) zu3._auto_1)(hv:autoParam (Vis X.env.scope x) zu6._auto_1)(hd:autoParam ((x==("__debug__":Str))=false) zu1._auto_1)
  (hcd:autoParam ((x==("__classdict__":Str))=false) zu1._auto_1):SO X (.Name x pos') (oMv i):=by
 refine⟨_,zaH hN hv hd hcd,fun B G H σ ρ ds ρ' Q I hm k=>?_⟩
 unfold oMv at hm
 split at hm
 ·rename_i ds' e
  cases hm
  obtain⟨l,xs,h1,h2,h3,h4,h5⟩:=I.slot i _ e
  exact⟨.ref l,h1,k G H l xs (I.emp i) (Fz.refl G) h2 h3 h4 h5 (nw_emp I e (by first|exact h1|exact⟨_,h1,rfl⟩|(unfold OwS;exact h1)))⟩
 ·cases hm
end M
namespace M
open L2 PySem PySem.Spec
open PyProof.Rows hiding St
variable {a f b p C dx l:Addr} {v:V} {d:D} {A:List Addr} {t:T} {j i:Nat} {ls:List Nat} {s r:Sl} {N:List Str} {m:MS} {K:W.Frag} {B:Bs} {G H G' H':Hp} {vs xs:List V} {fd:FuncData} {n:Int} {fo hd:Nat->List Addr} {ov:Option (Option V)} {F:List D->Option Sl} {Q:VK} {E:Ends} {ds:List D} {σ σ':St} {ρ ρ' outs:R} {pl:Sem Bool} {q:Str} {oc:Value} {osl:Array (Option Value)} {z:Nat×Addr} {X:Cx}
noncomputable def onlyI:D->Bool
 | .int _=>true
 |_=>false
noncomputable def flD:D->Bool
 | .non=>true
 | .bl _=>true
 | .int _=>true
 | .str _=>true
 | .tup ds=>ds.all onlyI
 |_=>false
noncomputable def flC:Ch->Bool
 | .d x=>flD x
 | .l ds=>ds.all flD
 | .t _=>false
noncomputable def flT:T->Bool
 | .tup cs=>cs.all flC
 | .ins _ fs=>fs.all fun f=>flC f.2
 |_=>false
noncomputable def flS:Sl->Bool
 | .emp=>true
 | .val d=>flD d
 | .own ds=>ds.all flD
 | .par ds=>ds.all flD
 | .tre t=>flT t
 | .ptr t=>flT t
 | .two _ _=>false
noncomputable def Odd (o:HO):Prop:=(∃xs,o= .lst xs)\/∃xs,o= .tup xs/\¬ ∀x∈xs,∃i,x=V.int i
open Classical in
noncomputable def thin (G Gx G2:Hp):Hp:=fun a=>if G a=none/\Gx a≠none then none else G2 a
structure Lk (K:W.Frag) (ls:List Nat) (G Gx H:Hp) (σ:St) (ρ:R):Prop where
 up:Fz G Gx
 fz:Fz Gx H
 ow:∀a,G a=none->Gx a≠none->∃(i:Nat) (s:Sl),i∈ls/\ρ[i]? =some s/\OwS K G H σ[i]? a s
 odd:∀a o,G a=none->Gx a=some o->Odd o
section
variable {K:W.Frag} {G Gx G2 H H2:Hp}
theorem zhJ:Fz (thin G Gx G2) G2:=fun a o e=>by
 unfold thin at e
 split at e
 ·cases e
 ·exact e
theorem thin_up (f:Fz G G2):Fz G (thin G Gx G2):=fun a o e=>by
 unfold thin
 rw[if_neg fun z=>by rw[z.1]at e;cases e]
 exact f a o e
theorem zbZ (h:G2 a=none):thin G Gx G2 a=none:=by
 unfold thin
 split
 ·rfl
 ·exact h
theorem zh7 (Hz:Hp):∀{ds:List D} {xs:List V},ds.all onlyI=true->RepL K G2 xs ds->(∀x∈xs,∃i,x=V.int i)/\RepL K Hz xs ds
 |[],_,_,r=>by cases(show _=[]from r);exact⟨fun x m=>by simp at m,rfl⟩
 |d::ds,_,e,⟨x,ys,e1,e2,e3⟩=>by
  subst e1
  rw[List.all_cons,Bool.and_eq_true]at e
  obtain⟨h1,h2⟩:=zh7 Hz e.2 e3
  cases d with
  |int i=>
   cases(show x=V.int i from e2)
   refine⟨fun y m=>?_,⟨_,ys,rfl,rfl,h2⟩⟩
   rcases List.mem_cons.mp m with rfl|m
   ·exact⟨i,rfl⟩
   ·exact h1 y m
  |_=>exact nomatch e.1
theorem zhU (f:Fz Gx G2)(od:∀a o,G a=none->Gx a=some o->Odd o)(e:flD d=true)(r:RepD K G2 v d):RepD K (thin G Gx G2) v d:=by
 cases d with
 |non=>exact r
 |bl _=>exact r
 |int _=>exact r
 |str _=>exact r
 |tup ds=>
  obtain⟨a,xs,rfl,g,r⟩:=r
  obtain⟨h1,h2⟩:=zh7 (thin G Gx G2) e r
  refine⟨a,xs,rfl,?_,h2⟩
  unfold thin
  split
  ·rename_i z
   obtain⟨o,ho⟩:=Option.ne_none_iff_exists'.mp z.2
   have:=f a o ho
   rw[g]at this;cases this
   rcases od a _ z.1 ho with⟨ys,q⟩|⟨ys,q,n⟩
   ·cases q
   ·cases q;exact absurd h1 n
  ·exact g
 |_=>exact nomatch e
theorem zeE (f:Fz Gx G2)(od:∀a o,G a=none->Gx a=some o->Odd o):∀{ds:List D} {xs:List V},ds.all flD=true->RepL K G2 xs ds->RepL K (thin G Gx G2) xs ds
 |[],_,_,r=>r
 |d::ds,_,e,⟨x,ys,e1,e2,e3⟩=>by
  rw[List.all_cons,Bool.and_eq_true]at e
  exact⟨x,ys,e1,zhU f od e.1 e2,zeE f od e.2 e3⟩
theorem fl_repC (f:Fz Gx G2)(od:∀a o,G a=none->Gx a=some o->Odd o){x:V}{c:Ch}(e:flC c=true)(r:RepC K G2 H2 x c A):RepC K (thin G Gx G2) H2 x c A:=by
 cases c with
 |d y=>exact⟨zhU f od e r.1,r.2⟩
 |l ds=>obtain⟨l,xs,h1,h2,h3,h4⟩:=r;exact⟨l,xs,h1,h2,zeE f od e h3,h4⟩
 |t _=>exact nomatch e
theorem zfB (f:Fz Gx G2)(od:∀a o,G a=none->Gx a=some o->Odd o):∀{cs:List Ch} {xs:List V} {A:List Addr},cs.all flC=true->RepCs K G2 H2 xs cs A->RepCs K (thin G Gx G2) H2 xs cs A
 |[],[],_,_,r=>r
 |c::cs,x::xs,_,e,⟨A1,A2,r1,r2,q⟩=>by
  rw[List.all_cons,Bool.and_eq_true]at e
  exact⟨A1,A2,fl_repC f od e.1 r1,zfB f od e.2 r2,q⟩
 |[],_::_,_,_,r=>r.elim
 |_::_,[],_,_,r=>r.elim
theorem zg4 (f:Fz Gx G2)(od:∀a o,G a=none->Gx a=some o->Odd o)(e:flT t=true)(r:RepT K G2 H2 v t A):RepT K (thin G Gx G2) H2 v t A:=by
 cases t with
 |tup cs=>obtain⟨p,xs,A',h1,h2,h3,h4⟩:=r;exact⟨p,xs,A',h1,h2,zfB f od e h3,h4⟩
 |ins c fs=>
  obtain⟨p,C,dx,ws,A',h1,h2,h3,h4,h5,h6,h7⟩:=r
  have e':(fs.map (·.2)).all flC=true:=by rw[List.all_map];exact e
  exact⟨p,C,dx,ws,A',h1,h2,h3,h4,h5,zfB f od e' h6,h7⟩
 |_=>exact nomatch e
theorem RepT.head (r:RepT K G H v t A):∃p,v= .ref p/\p∈A:=by
 cases t with
 |lst cs=>obtain⟨p,xs,A',h1,h2,h3,rfl⟩:=r;exact⟨p,h1,by simp⟩
 |tup cs=>obtain⟨p,xs,A',h1,h2,h3,rfl⟩:=r;exact⟨p,h1,by simp⟩
 |ins c fs=>obtain⟨p,C,dx,ws,A',h1,h2,h3,h4,h5,h6,rfl⟩:=r;exact⟨p,h1,by simp⟩
 |dic ks ds=>obtain⟨p,ys,h1,h2,h3,h4,rfl⟩:=r;exact⟨p,h1,by simp⟩
 |dit ks ds=>obtain⟨p,ys,o,xs,h1,h2,h3,h4,rfl⟩:=r;exact⟨p,h1,by simp⟩
end
noncomputable abbrev MG:=R->Option (R×R)
noncomputable def Sl.hand:Sl->Option Sl
 | .own ds=>some (.par ds)
 | .par ds=>some (.par ds)
 | .tre t=>some (.ptr t)
 | .ptr t=>some (.ptr t)
 |_=>none
noncomputable def oddC:Ch->Bool
 | .d (.str _)=>true
 | .l _=>true
 |_=>false
noncomputable def Sl.look:Sl->Option D
 | .val d=>some d
 | .own ds=>some (.lst ds)
 | .par ds=>some (.lst ds)
 | .tre (.tup cs)=>if cs.any oddC then some (.tup (cs.map Ch.D))else none
 |_=>none
noncomputable def hasA (ρ:R)(j:Nat):Bool:=match ρ[j]? with
 |some (.val _)=>true
 |some (.own _)=>true
 |some (.par _)=>true
 |some (.tre _)=>true
 |some (.ptr _)=>true
 |_=>false
noncomputable def hNil:MG:=fun ρ=>some ([],ρ)
noncomputable def hVal (m:ME)(r:MG):MG:=fun ρ=>(m ρ).bind fun p=>(r p.2).map fun q=>(.val p.1::q.1,q.2)
noncomputable def zjh (j:Nat)(r:MG):MG:=fun ρ=>if hasA ρ j then(r ρ).bind fun q=>(q.2[j]?.bind Sl.hand).map fun s=>(s::q.1,q.2)else none
noncomputable def ArgsOk (K:W.Frag)(Gx:Hp)(σ:St)(ρ:R):List (Option Nat)->List V->R->Prop
 |[],[],[]=>True
 |none::js,v::vs,s::as=>(∃d,s= .val d/\RepD K Gx v d)/\ArgsOk K Gx σ ρ js vs as
 |some j::js,v::vs,s::as=>(σ[j]? =some (some v)/\ρ[j]?.bind Sl.hand=some s)/\ArgsOk K Gx σ ρ js vs as
 |_,_,_=>False
noncomputable def SGA (X:Cx)(js:List (Option Nat))(ls:List Nat)(es:List Expr)(m:MG):Prop:=
 ∃t,PA X es t/\∀B G H σ ρ as ρ' (Q:List V->Hp->Prop),SI X.K B G H σ ρ->m ρ=some (as,ρ')->
  (∀G' H' vs Gx,SI X.K B G' H' σ ρ'->Fz G G'->Lk X.K ls G' Gx H' σ ρ'->ArgsOk X.K Gx σ ρ' js vs as->Q vs H')->t σ H Q
section
variable {K:W.Frag} {B:Bs} {G Gx Gy H:Hp} {σ:St} {ρ:R}
theorem ArgsOk.mono (f:Fz Gx Gy):∀{js:List (Option Nat)} {vs:List V} {as:R},ArgsOk K Gx σ ρ js vs as->ArgsOk K Gy σ ρ js vs as
 |[],[],[],_=>trivial
 |none::js,v::vs,s::as,⟨⟨d,e,r⟩,h⟩=>⟨⟨d,e,r.mono f⟩,ArgsOk.mono f h⟩
 |some j::js,v::vs,s::as,⟨e,h⟩=>⟨e,ArgsOk.mono f h⟩
 |[],[],_::_,h=>h.elim
 |[],_::_,_,h=>h.elim
 |none::_,[],_,h=>h.elim
 |some _::_,[],_,h=>h.elim
 |none::_,_::_,[],h=>h.elim
 |some _::_,_::_,[],h=>h.elim
theorem ArgsOk.len:∀{js:List (Option Nat)} {vs:List V} {as:R},ArgsOk K Gx σ ρ js vs as->vs.length=as.length/\js.length=as.length
 |[],[],[],_=>⟨rfl,rfl⟩
 |none::js,v::vs,s::as,⟨_,h⟩=>⟨by simp[(ArgsOk.len h).1],by simp[(ArgsOk.len h).2]⟩
 |some j::js,v::vs,s::as,⟨_,h⟩=>⟨by simp[(ArgsOk.len h).1],by simp[(ArgsOk.len h).2]⟩
 |[],[],_::_,h=>h.elim
 |[],_::_,_,h=>h.elim
 |none::_,[],_,h=>h.elim
 |some _::_,[],_,h=>h.elim
 |none::_,_::_,[],h=>h.elim
 |some _::_,_::_,[],h=>h.elim
theorem ArgsOk.get:∀{js:List (Option Nat)} {vs:List V} {as:R} {i:Nat} {s:Sl},ArgsOk K Gx σ ρ js vs as->as[i]? =some s->
  ∃v,vs[i]? =some v/\((js[i]? =some none/\∃d,s= .val d/\RepD K Gx v d)\/∃j,js[i]? =some (some j)/\σ[j]? =some (some v)/\ρ[j]?.bind Sl.hand=some s)
 |[],[],[],_,_,_,e=>by simp at e
 |none::js,v::vs,s::as,0,_,⟨h,_⟩,e=>by simp at e;subst e;exact⟨v,rfl,.inl ⟨rfl,h⟩⟩
 |some j::js,v::vs,s::as,0,_,⟨h,_⟩,e=>by simp at e;subst e;exact⟨v,rfl,.inr ⟨j,rfl,h⟩⟩
 |none::js,v::vs,s::as,i+1,_,⟨_,h⟩,e=>by simpa using ArgsOk.get (i:=i) h (by simpa using e)
 |some j::js,v::vs,s::as,i+1,_,⟨_,h⟩,e=>by simpa using ArgsOk.get (i:=i) h (by simpa using e)
 |[],[],_::_,_,_,h,_=>h.elim
 |[],_::_,_,_,_,h,_=>h.elim
 |none::_,[],_,_,_,h,_=>h.elim
 |some _::_,[],_,_,_,h,_=>h.elim
 |none::_,_::_,[],_,_,h,_=>h.elim
 |some _::_,_::_,[],_,_,h,_=>h.elim
theorem SI.hasA (I:SI K B G H σ ρ)(h:hasA ρ j=true):∃v,σ[j]? =some (some v):=by
 unfold M.hasA at h
 cases e:ρ[j]? with
 |none=>rw[e]at h;cases h
 |some s=>
  rw[e]at h
  have q:=I.slot j s e
  cases s with
  |emp=>cases h
  |two _ _=>cases h
  |tre t=>obtain⟨v,A,e,_⟩:=q;exact⟨v,e⟩
  |ptr t=>obtain⟨v,A,e,_⟩:=q;exact⟨v,e⟩
  |val d=>obtain⟨v,e,_⟩:=q;exact⟨v,e⟩
  |own d=>obtain⟨l,_,e,_⟩:=q;exact⟨_,e⟩
  |par d=>obtain⟨l,_,e,_⟩:=q;exact⟨_,e⟩
theorem zga:∀{xs:List V} {cs:List Ch} {A:List Addr},RepCs K G H xs cs A->cs.any oddC=true->¬ ∀x∈xs,∃i,x=V.int i
 |[],[],_,_,h=>by simp at h
 |x::xs,c::cs,_,⟨A1,A2,r1,r2,e⟩,h=>fun al=>by
  rw[List.any_cons,Bool.or_eq_true]at h
  rcases h with h|h
  ·obtain⟨i,rfl⟩:=al x (by simp)
   cases c with
   |d y=>
    cases y with
    |str z=>exact nomatch (show V.int i=V.str z from r1.1)
    |_=>exact nomatch h
   |l ds=>obtain⟨l,ys,q,_⟩:=r1;exact nomatch q
   |t _=>exact nomatch h
  ·exact zga r2 h fun y m=>al y (by simp[m])
 |[],_::_,_,r,_=>r.elim
 |_::_,[],_,r,_=>r.elim
theorem Lk.more (I:SI K B G H σ ρ)(L:Lk K ls G Gx H σ ρ)(hv:σ[j]? =some (some v))(e:ρ[j]? =some s)(q:s.look=some d):
    ∃Gy,Fz Gx Gy/\Lk K (j::ls) G Gy H σ ρ/\RepD K Gy v d:=by
  have h:=I.slot j s e
  have add:∀A:List Addr,(∀a∈A,OwS K G H σ[j]? a s)->(∀a∈A,∀o,H a=some o->Odd o)->Fz Gx (frA Gx H A)/\Lk K (j::ls) G (frA Gx H A) H σ ρ:=fun A h1 h2=>by
    have f1:Fz Gx (frA Gx H A):=fun a o e=>by
      by_cases m:a∈A
      . rw[zb0 m];exact L.fz a o e
      . rw[zbs m];exact e
    refine⟨f1,L.up.trans f1,fun a o e=>?_,fun a g e=>?_,fun a o g e=>?_⟩
    . by_cases m:a∈A
      . rw[zb0 m]at e;exact e
      . rw[zbs m]at e;exact L.fz a o e
    . by_cases m:a∈A
      . exact⟨j,s,by simp,‹_›,h1 a m⟩
      . rw[zbs m]at e
        obtain⟨i,t,k1,k2⟩:=L.ow a g e
        exact⟨i,t,by simp[k1],k2⟩
    . by_cases m:a∈A
      . rw[zb0 m]at e;exact h2 a m o e
      . rw[zbs m]at e;exact L.odd a o g e
  have lis:∀{l:Addr} {xs:List V} {ds:List D},OwS K G H σ[j]? l s->v= .ref l->H l=some (.lst xs)->RepL K G xs ds->∃Gy,Fz Gx Gy/\Lk K (j::ls) G Gy H σ ρ/\RepD K Gy v (.lst ds):=fun{l xs ds} w ev hl r=>by
    obtain ⟨a1, a2⟩ := add [l] (fun a m => by have : a = l := by simpa using m
                                              subst this;exact w) (fun a m o ho=>by
      have:a=l:=by simpa using m
      subst this
      rw[hl]at ho;cases ho;exact .inl ⟨_,rfl⟩)
    exact⟨_,a1,a2,⟨l,xs,ev,by rw[zb0 (by simp)];exact hl,r.mono a2.up⟩⟩
  cases s with
  |emp=>cases q
  |two _ _=>cases q
  |ptr _=>cases q
  |val d'=>
    cases q
    obtain⟨u,k1,k2⟩:=h
    rw[hv]at k1;cases k1
    exact⟨Gx,Fz.refl _,⟨L.up,L.fz,fun a g n=>(L.ow a g n).imp fun i ⟨t,k1,k2⟩=>⟨t,by simp[k1],k2⟩,L.odd⟩,k2.mono L.up⟩
  |own ds=>
    cases q
    obtain⟨l,xs,k1,k2,k3,k4,k5⟩:=h
    have:=k1;rw[hv]at this;cases this
    exact lis k1 rfl k3 k4
  |par ds=>
    cases q
    obtain⟨l,xs,k1,k2,k3,k4,k5⟩:=h
    have:=k1;rw[hv]at this;cases this
    exact lis k1 rfl k3 k4
  |tre t=>
    obtain⟨u,A,k1,k2,k3,k4⟩:=h
    have:=k1;rw[hv]at this;cases this
    cases t with
    |tup cs=>
      have q':(if cs.any oddC then some (D.tup (cs.map Ch.D))else none)=some d:=q
      split at q'
      . rename_i od
        cases q'
        have k2':=k2
        obtain⟨p,xs,A',rfl,g1,g2,rfl⟩:=k2
        obtain⟨a1,a2⟩:=add (p::A') (fun a m=>⟨_,_,k1,k2',m⟩) (fun a m o ho=>by
          rcases List.mem_cons.mp m with rfl|m
          . rw[g1]at ho;cases ho;exact .inr ⟨xs,rfl,zga g2 od⟩
          . obtain⟨ys,hy⟩:=g2.here m
            rw[hy]at ho;cases ho;exact .inl ⟨_,rfl⟩)
        exact⟨_,a1,a2,⟨p,xs,rfl,by rw[zb0 (by simp)];exact g1,zdE a2.up g2 fun a m=>zb0 (by simp[m])⟩⟩
      . cases q'
    |_=>cases q
end
section
variable {X:Cx} {e:Expr} {es:List Expr} {js:List (Option Nat)} {ls:List Nat} {x:Str} {p:Pos} {m:ME} {r:MG}
theorem zex:SGA X [] [] [] hNil:=⟨_,zbE,fun B G H σ ρ as ρ' Q I hm k=>by
 cases hm
 exact k G H [] G I (Fz.refl G) ⟨Fz.refl G,I.fz,fun a g n=>absurd g n,fun a o g n=>by rw[g]at n;cases n⟩ trivial⟩
theorem zbt (h:SE X e m)(hr:SGA X js ls es r)(hs:autoParam (starEach (e::es) X.env=(false,eval e X.env)::starEach es X.env) zu3._auto_1):SGA X (none::js) ls (e::es) (hVal m r):=by
 obtain⟨t,pe,se⟩:=h
 obtain⟨u,pr,sr⟩:=hr
 refine⟨_,zaB pe pr hs,fun B G H σ ρ as ρ' Q I hm k=>?_⟩
 obtain⟨⟨d,ρ1⟩,e1,hm⟩:=zaa hm
 obtain⟨⟨as1,ρ2⟩,e2,hm⟩:=zag hm
 cases hm
 exact se B G H σ ρ d ρ1 _ I e1 fun G1 H1 v I1 f1 r1=>sr B G1 H1 σ ρ1 as1 ρ2 _ I1 e2 fun G2 H2 vs Gx I2 f2 L a=>k G2 H2 (v::vs) Gx I2 (f1.trans f2) L ⟨⟨d,rfl,r1.mono (f2.trans L.up)⟩,a⟩
theorem ziT (j:Nat)(hr:SGA X js ls es r)(hN:autoParam (X.N[j]? =some x) zu3._auto_1)(hv:autoParam (Vis X.env.scope x) zu6._auto_1)(hd:autoParam ((x==("__debug__":Str))=false) zu1._auto_1)
  (hcd:autoParam ((x==("__classdict__":Str))=false) zu1._auto_1) (hs:autoParam (starEach (.Name x p::es) X.env=(false,eval (.Name x p) X.env)::starEach es X.env) zu3._auto_1):SGA X (some j::js) ls (.Name x p::es) (zjh j r):=by
 obtain⟨u,pr,sr⟩:=hr
 refine⟨_,zaB (zaH hN hv hd hcd) pr hs,fun B G H σ ρ as ρ' Q I hm k=>?_⟩
 unfold zjh at hm
 split at hm
 ·rename_i ha
  obtain⟨v,e1⟩:=I.hasA ha
  obtain⟨⟨as1,ρ2⟩,e2,hm⟩:=zaa hm
  obtain⟨s,e3,hm⟩:=zag hm
  cases hm
  exact⟨v,e1,sr B G H σ ρ as1 ρ2 _ I e2 fun G2 H2 vs Gx I2 f2 L a=>k G2 H2 (v::vs) Gx I2 f2 L ⟨⟨e1,e3⟩,a⟩⟩
 ·cases hm
end
noncomputable def spG (K:W.Frag)(n:Nat)(F:R->Option (Sl×R)):Sp:=fun vs H Q _=>∃G O as r outs,F as=some (r,outs)/\as.length=n/\SI K ⟨G,H,O⟩ G H (vs.map some) as/\
 ∀G' H' v,Fz G G'->Fz G' H'->(∀b o,G' b=some o->G b≠none\/H b=none)->(∀b o,H b=some o->(∀i,(i,b)∉O)->H' b=some o)->(∀b,H' b=none->H b=none)->
  (∀(i:Nat) (s:Sl),outs[i]? =some s->∃ov,SlotOk K ⟨G,H,O⟩ G' H' i ov s)->ResF K G' H' H v r->Q v H'
noncomputable def outS:R->R->Option R
 |[],_=>some []
 | .par _::as,.par ds::ρ=>(outS as ρ).map (.par ds:: ·)
 | .ptr _::as,.ptr t::ρ=>(outS as ρ).map (.ptr t:: ·)
 | .val _::as,_::ρ=>(outS as ρ).map (.emp:: ·)
 |_,_=>none
noncomputable def fG (N:Nat)(m:MS):R->Option (Sl×R):=fun as=>(m (as++List.replicate (N-as.length) .emp)).bind fun p=>match p.1 with
 | .ret r=>(outS as p.2).map fun o=>(r,o)
 | .next=>(outS as p.2).map fun o=>(.val .non,o)
 |_=>none
noncomputable def zfk:R->R->Bool
 |[],_=>true
 | .par _::as,.par _::os=>zfk as os
 | .ptr _::as,.ptr _::os=>zfk as os
 | .val _::as,.emp::os=>zfk as os
 |_,_=>false
noncomputable def zg0 (F:R->Option (Sl×R)):Prop:=∀as r os,F as=some (r,os)->zfk as os=true
theorem zbY:∀{as ρ os:R},outS as ρ=some os->zfk as os=true
 |[],_,_,_=>rfl
 | .par _::as,.par ds::ρ,_,h=>by obtain⟨o,e,rfl⟩:=zag h;exact zbY (as:=as) (ρ:=ρ) (os:=o) e
 | .ptr _::as,.ptr ds::ρ,_,h=>by obtain⟨o,e,rfl⟩:=zag h;exact zbY (as:=as) (ρ:=ρ) (os:=o) e
 | .val _::as,_::ρ,_,h=>by obtain⟨o,e,rfl⟩:=zag h;exact zbY (as:=as) (ρ:=ρ) (os:=o) e
theorem zby {N:Nat}:zg0 (fG N m):=fun as r os h=>by
 obtain⟨⟨fl,ρ⟩,_,h⟩:=zaa h
 cases fl with
 |next=>obtain⟨o,e,q⟩:=zag h;cases q;exact zbY e
 |ret r=>obtain⟨o,e,q⟩:=zag h;cases q;exact zbY e
 |brk=>cases h
 |cont=>cases h
theorem zee:∀{as ρ os:R} {i:Nat} {s:Sl},outS as ρ=some os->os[i]? =some s->s= .emp\/ρ[i]? =some s
 |[],_,_,_,_,h,e=>by cases h;simp at e
 | .par _::as,.par ds::ρ,_,i,_,h,e=>by
  obtain⟨o,q,rfl⟩:=zag h
  cases i with
  |zero=>simp at e;subst e;exact .inr rfl
  |succ i=>simpa using zee q (by simpa using e)
 | .ptr _::as,.ptr ds::ρ,_,i,_,h,e=>by
  obtain⟨o,q,rfl⟩:=zag h
  cases i with
  |zero=>simp at e;subst e;exact .inr rfl
  |succ i=>simpa using zee q (by simpa using e)
 | .val _::as,_::ρ,_,i,_,h,e=>by
  obtain⟨o,q,rfl⟩:=zag h
  cases i with
  |zero=>simp at e;subst e;exact .inl rfl
  |succ i=>simpa using zee q (by simpa using e)
theorem zdK:∀{as os:R} {i:Nat} {a:Sl},zfk as os=true->as[i]? =some a->(∃ds es,a= .par ds/\os[i]? =some (.par es))\/(∃t u,a= .ptr t/\os[i]? =some (.ptr u))\/(∃d,a= .val d/\os[i]? =some .emp)
 |[],_,_,_,_,e=>by simp at e
 | .par _::as,.par _::os,i,_,h,e=>by
  cases i with
  |zero=>simp at e;subst e;exact .inl ⟨_,_,rfl,rfl⟩
  |succ i=>simpa using zdK (as:=as) (os:=os) (i:=i) h (by simpa using e)
 | .ptr _::as,.ptr _::os,i,_,h,e=>by
  cases i with
  |zero=>simp at e;subst e;exact .inr (.inl ⟨_,_,rfl,rfl⟩)
  |succ i=>simpa using zdK (as:=as) (os:=os) (i:=i) h (by simpa using e)
 | .val _::as,.emp::os,i,_,h,e=>by
  cases i with
  |zero=>simp at e;subst e;exact .inr (.inr ⟨_,rfl,rfl⟩)
  |succ i=>simpa using zdK (as:=as) (os:=os) (i:=i) h (by simpa using e)
theorem SI.startG {as:R}(I:SI K B G H (vs.map some) as)(h:as.length<=N.length):SI K B G H (L2.start N vs) (as++List.replicate (N.length-as.length) .emp):=by
 have hl:vs.length=as.length:=by simpa using I.len
 have at1:∀{i:Nat} {s:Sl},(as++List.replicate (N.length-as.length) Sl.emp)[i]? =some s->(as[i]? =some s/\(L2.start N vs)[i]? =(vs.map some)[i]?)\/s= .emp:=fun{i s} e=>by
  by_cases hi:i<as.length
  ·rw[List.getElem?_append_left hi]at e
   refine .inl ⟨e,?_⟩
   unfold L2.start
   rw[List.getElem?_append_left (by simpa[hl]using hi)]
  ·rw[List.getElem?_append_right (by lia),List.getElem?_replicate]at e
   split at e
   ·cases e;exact .inr rfl
   ·cases e
 refine⟨I.fz,I.g0,I.new,I.keep,I.there,?_,I.ob,fun i s e=>?_,fun i j s t a n e1 e2 w1 w2=>?_⟩
 ·rw[zem (by lia),List.length_append,List.length_replicate];lia
 ·rcases at1 e with⟨e1,e2⟩|rfl
  ·rw[e2];exact I.slot i s e1
  ·trivial
 ·rcases at1 e1 with⟨f1,f2⟩|rfl
  ·rcases at1 e2 with⟨g1,g2⟩|rfl
   ·rw[f2]at w1;rw[g2]at w2;exact I.dis i j s t a n f1 g1 w1 w2
   ·exact w2
  ·exact w1
section
variable {P:Program} {w:World} {K:W.Frag} {mg:Str->Option Value} {base:Heap}
theorem fnG_ok {x qual:Str}{st:Stmt}{N ps:List Str}{k n:Nat}(F:Fun K x qual st f fd)(S:FnScope N ps (zam st))(hn:ps.length=n)(hN:n<=N.length)
  (body:∀(cdv:Value) (A:Around) (outer:List Env) (s:Shared) (H:Hp) (E:XK),Room k (A.deeper (envOfC qual (zam st) s.heap.objs.size f cdv))->SSs (cxOf CX0 P w K mg base N qual (zam st) f cdv A outer s H E).nox (zav st) m):
  FnOk P w K mg base CX0 (k+1) f fd ps (spG K n (fG N.length m)):=by
 refine F.ok S (fun vs H Q E h=>?_) (fun cdv A outer s H vs Q E hr h=>?_)
 ·obtain⟨G,O,as,r,outs,_,h2,I,_⟩:=h
  have:=I.len
  rw[List.length_map]at this
  lia
 ·obtain⟨G,O,as,r,outs,e1,h2,I,kk⟩:=h
  obtain⟨t,pt,so⟩:=body cdv A outer s H E hr
  refine⟨t,pt,?_⟩
  obtain⟨⟨fl,ρ'⟩,e2,e3⟩:=zaa e1
  refine so ⟨G,H,O⟩ G H (L2.start N vs) _ fl ρ' _ (I.startG (by lia)) e2 ?_
  have fin:∀G' H' σ' v,outS as ρ'=some outs->SI K ⟨G,H,O⟩ G' H' σ' ρ'->Fz G G'->ResF K G' H' H v r->Q v H':=fun G' H' σ' v eo J f rr=>
   kk G' H' v f J.fz J.new (fun b o e n=>J.keep b o e n) J.there (fun i s e=>by
    rcases zee eo e with rfl|q
    ·exact⟨none,trivial⟩
    ·exact⟨_,J.slot i s q⟩) rr
  cases fl with
  |brk=>cases e3
  |cont=>cases e3
  |next=>
   obtain⟨o,q1,q2⟩:=zag e3
   cases q2
   exact fun G' H' σ' J f=>fin G' H' σ' .non q1 J f rfl
  |ret r'=>
   obtain⟨o,q1,q2⟩:=zag e3
   cases q2
   refine fun G' H' σ' v J f rr=>fin G' H' σ' v q1 J f ?_
   cases r with
   |val d=>exact rr
   |own ds=>exact rr
   |emp=>exact rr
   |two _ _=>exact rr
   |tre _=>exact rr
   |ptr _=>exact rr
   |par ds=>exact rr
end
noncomputable def jsOk:List (Option Nat)->List Nat->Bool
 |[],_=>true
 |none::js,ls=>jsOk js ls
 |some j::js,ls=>!ls.contains j&&!js.contains (some j)&&jsOk js ls
theorem zgB:∀{js:List (Option Nat)} {ls:List Nat} {i j:Nat},jsOk js ls=true->js[i]? =some (some j)->j∉ls
 |[],_,_,_,_,e=>by simp at e
 |none::js,ls,i,j,h,e=>by
  cases i with
  |zero=>simp at e
  |succ i=>exact zgB (js:=js) h (by simpa using e)
 |some q::js,ls,i,j,h,e=>by
  have h':(!ls.contains q&&!js.contains (some q)&&jsOk js ls)=true:=h
  simp only[Bool.and_eq_true,Bool.not_eq_true',List.contains_eq_mem,decide_eq_false_iff_not]at h'
  cases i with
  |zero=>simp at e;subst e;exact h'.1.1
  |succ i=>exact zgB (js:=js) h'.2 (by simpa using e)
theorem zfJ:∀{js:List (Option Nat)} {ls:List Nat} {i k j:Nat},jsOk js ls=true->js[i]? =some (some j)->js[k]? =some (some j)->i=k
 |[],_,_,_,_,_,e,_=>by simp at e
 |none::js,ls,i,k,j,h,e,e2=>by
  cases i with
  |zero=>simp at e
  |succ i=>
   cases k with
   |zero=>simp at e2
   |succ k=>rw[zfJ (js:=js) (i:=i) (k:=k) h (by simpa using e) (by simpa using e2)]
 |some q::js,ls,i,k,j,h,e,e2=>by
  have h':(!ls.contains q&&!js.contains (some q)&&jsOk js ls)=true:=h
  simp only[Bool.and_eq_true,Bool.not_eq_true',List.contains_eq_mem,decide_eq_false_iff_not]at h'
  cases i with
  |zero=>
   cases k with
   |zero=>rfl
   |succ k=>
    simp at e;subst e
    exact absurd (List.mem_of_getElem? (by simpa using e2)) h'.1.2
  |succ i=>
   cases k with
   |zero=>
    simp at e2;subst e2
    exact absurd (List.mem_of_getElem? (by simpa using e)) h'.1.2
   |succ k=>rw[zfJ (js:=js) (i:=i) (k:=k) h'.2 (by simpa using e) (by simpa using e2)]
noncomputable def backS (u s:Sl):Sl:=match s with
 | .par ds=>u.put ds
 | .ptr t=>u.putT t
 |_=>u
noncomputable def zao:List (Option Nat)->R->R->R
 | some j :: js, s :: os, ρ => zao js os (match ρ[j]? with
  |some u=>ρ.set j (backS u s)
  |none=>ρ)
 |none::js,_::os,ρ=>zao js os ρ
 |_,_,ρ=>ρ
theorem zdi:∀{js:List (Option Nat)} {os ρ:R},(zao js os ρ).length=ρ.length
 |[],_,_=>by unfold zao;rfl
 |none::_,[],_=>by unfold zao;rfl
 |some _::_,[],_=>by unfold zao;rfl
 |none::js,_::os,ρ=>by unfold zao;exact zdi
 |some j::js,s::os,ρ=>by
  unfold zao
  rw[zdi]
  split
  ·rw[List.length_set]
  ·rfl
theorem zcj:∀{js:List (Option Nat)} {ls:List Nat} {os ρ:R} {q:Nat} {t:Sl},jsOk js ls=true->js.length<=os.length->(zao js os ρ)[q]? =some t->
  (ρ[q]? =some t/\∀i:Nat,js[i]?≠some (some q))\/∃(i:Nat) (s u:Sl),js[i]? =some (some q)/\os[i]? =some s/\ρ[q]? =some u/\t=backS u s
 |[],_,_,_,_,_,_,_,e=>by unfold zao at e;exact .inl ⟨e,fun i=>by simp⟩
 |none::_,_,[],_,_,_,_,h,_=>by simp at h
 |some _::_,_,[],_,_,_,_,h,_=>by simp at h
 |none::js,ls,_::os,ρ,q,t,h,hl,e=>by
  unfold zao at e
  rcases zcj (js:=js) (ls:=ls) (os:=os) h (by simpa using hl) e with⟨h1,h2⟩|⟨i,s,u,h1,h2⟩
  ·refine .inl ⟨h1,fun i=>?_⟩
   cases i with
   |zero=>simp
   |succ i=>simpa using h2 i
  ·exact .inr ⟨i+1,s,u,by simpa using h1,by simpa using h2⟩
 |some j::js,ls,s::os,ρ,q,t,h,hl,e=>by
  have h':(!ls.contains j&&!js.contains (some j)&&jsOk js ls)=true:=h
  simp only[Bool.and_eq_true,Bool.not_eq_true',List.contains_eq_mem,decide_eq_false_iff_not]at h'
  have nj:∀i:Nat,js[i]?≠some (some j):=fun i z=>h'.1.2 (List.mem_of_getElem? z)
  unfold zao at e
  by_cases z:q=j
  ·subst z
   rcases zcj (ls:=ls) h'.2 (by simpa using hl) e with⟨h1,h2⟩|⟨i,s,u,h1,h2⟩
   ·cases eu:ρ[q]? with
    |none=>rw[eu]at h1;dsimp only at h1;rw[eu]at h1;cases h1
    |some u=>
     rw[eu]at h1
     dsimp only at h1
     rw[List.getElem?_set,if_pos rfl,if_pos (List.getElem?_eq_some_iff.mp eu).1]at h1
     cases h1
     exact .inr ⟨0,s,u,rfl,rfl,rfl,rfl⟩
   ·exact absurd h1 (nj i)
  ·have same:(match ρ[j]? with|some u=>ρ.set j (backS u s)|none=>ρ)[q]? =ρ[q]?:=by
    split
    ·rw[List.getElem?_set_ne (Ne.symm z)]
    ·rfl
   rcases zcj (ls:=ls) h'.2 (by simpa using hl) e with⟨h1,h2⟩|⟨i,s2,u,h1,h2,h3,h4⟩
   ·refine .inl ⟨by rw[<-same];exact h1,fun i=>?_⟩
    cases i with
    |zero=>simpa using Ne.symm z
    |succ i=>simpa using h2 i
   ·exact .inr ⟨i+1,s2,u,by simpa using h1,by simpa using h2,by rw[<-same];exact h3,h4⟩
noncomputable def mkO (fo hd:Nat->List Addr):Nat->List (Option Nat)->List (Nat×Addr)
 |_,[]=>[]
 |i,none::js=>mkO fo hd (i+1) js
 |i,some j::js=>(fo j).map (fun a=>(i,a))++((hd j).map (fun a=>(i+4096,a))++mkO fo hd (i+1) js)
theorem mem_mkO {n:Nat}:∀{js:List (Option Nat)} {i:Nat},(n,b)∈mkO fo hd i js↔∃k j,js[k]? =some (some j)/\((n=i+k/\b∈fo j)\/(n=i+k+4096/\b∈hd j))
 |[],i=>by simp[mkO]
 |none::js,i=>by
  unfold mkO
  rw[mem_mkO (js:=js)]
  constructor
  ·rintro⟨k,j,h1,h2⟩
   exact⟨k+1,j,by simpa using h1,by rw[show i+(k+1)=i+1+k by lia];exact h2⟩
  ·rintro⟨k,j,h1,h2⟩
   cases k with
   |zero=>simp at h1
   |succ k=>exact⟨k,j,by simpa using h1,by rw[show i+1+k=i+(k+1) by lia];exact h2⟩
 |some q::js,i=>by
  unfold mkO
  rw[List.mem_append,List.mem_append,mem_mkO (js:=js)]
  constructor
  ·rintro(h|h|⟨k,j,h1,h2⟩)
   ·obtain⟨a,m,e⟩:=List.mem_map.mp h
    cases e
    exact⟨0,q,rfl,.inl ⟨rfl,m⟩⟩
   ·obtain⟨a,m,e⟩:=List.mem_map.mp h
    cases e
    exact⟨0,q,rfl,.inr ⟨rfl,m⟩⟩
   ·exact⟨k+1,j,by simpa using h1,by rw[show i+(k+1)=i+1+k by lia];exact h2⟩
  ·rintro⟨k,j,h1,h2⟩
   cases k with
   |zero=>
    simp at h1
    subst h1
    rcases h2 with⟨rfl,m⟩|⟨rfl,m⟩
    ·exact .inl (List.mem_map.mpr ⟨b,m,rfl⟩)
    ·exact .inr (.inl (List.mem_map.mpr ⟨b,m,rfl⟩))
   |succ k=>exact .inr (.inr ⟨k,j,by simpa using h1,by rw[show i+1+k=i+(k+1) by lia];exact h2⟩)
section
variable {K:W.Frag} {B:Bs} {G Gx H:Hp} {σ:St} {ρ:R}
theorem SI.foot (I:SI K B G H σ ρ):∃fo:Nat->List Addr,∀(j:Nat) (s:Sl),ρ[j]? =some s->∀a,(OwS K G H σ[j]? a s↔a∈fo j):=by
 have h:∀j:Nat,∃A:List Addr,∀s:Sl,ρ[j]? =some s->∀a,(OwS K G H σ[j]? a s↔a∈A):=fun j=>by
  cases e:ρ[j]? with
  |none=>exact⟨[],fun s z=>nomatch z⟩
  |some s=>
   have q:=I.slot j s e
   have one:∀{l:Addr} {s:Sl} {ds:List D},s.items=some ds->σ[j]? =some (some (.ref l))->∃A:List Addr,∀t:Sl,some s=some t->∀a,(OwS K G H σ[j]? a t↔a∈A):=fun{l s ds} hs hl=>⟨[l],fun t z a=>by
    cases z
    rw[zax hs,hl,List.mem_singleton]
    exact⟨fun z=>by cases z;rfl,fun z=>by rw[z]⟩⟩
   have two:∀{v:V} {t:T} {A:List Addr} {s:Sl},σ[j]? =some (some v)->RepT K G H v t A->(∀a,OwS K G H σ[j]? a s↔∃v A,σ[j]? =some (some v)/\RepT K G H v t A/\a∈A)->∃A:List Addr,∀u:Sl,some s=some u->∀a,(OwS K G H σ[j]? a u↔a∈A):=fun{v t A s} h1 h2 h3=>⟨A,fun u z a=>by
    cases z
    rw[h3 a]
    constructor
    ·rintro⟨v2,A2,k1,k2,k3⟩
     rw[h1]at k1;cases k1
     rwa[h2.det k2 fun _ _=>rfl]
    ·exact fun m=>⟨v,A,h1,h2,m⟩⟩
   cases s with
   |emp=>exact⟨[],fun t z a=>by cases z;exact⟨fun w=>w.elim,fun m=>by simp at m⟩⟩
   |two _ _=>exact⟨[],fun t z a=>by cases z;exact⟨fun w=>w.elim,fun m=>by simp at m⟩⟩
   |val _=>exact⟨[],fun t z a=>by cases z;exact⟨fun w=>w.elim,fun m=>by simp at m⟩⟩
   |own ds=>obtain⟨l,xs,h1,_⟩:=q;exact one (ds:=ds) rfl h1
   |par ds=>obtain⟨l,xs,h1,_⟩:=q;exact one (ds:=ds) rfl h1
   |tre t=>obtain⟨v,A,h1,h2,_⟩:=q;exact two h1 h2 fun a=>Iff.rfl
   |ptr t=>obtain⟨v,A,h1,h2,_⟩:=q;exact two h1 h2 fun a=>Iff.rfl
 exact Classical.axiomOfChoice h
noncomputable def hdOf (σ:St)(j:Nat):List Addr:=match σ[j]? with
 |some (some (.ref p))=>[p]
 |_=>[]
theorem hdOf_mem:p∈hdOf σ j↔σ[j]? =some (some (.ref p)):=by
 unfold hdOf
 split
 ·rename_i q e
  rw[e,List.mem_singleton]
  exact⟨fun z=>by rw[z],fun z=>by cases z;rfl⟩
 ·rename_i h
  exact⟨fun m=>by simp at m,fun e=>absurd e (h p)⟩
theorem SI.root (I:SI K B G H σ ρ){u s:Sl}(e:ρ[j]? =some u)(h:u.hand=some s)(hp:σ[j]? =some (some (.ref p))):OwS K G H σ[j]? p u:=by
 have q:=I.slot j u e
 cases u with
 |emp=>cases h
 |two _ _=>cases h
 |val _=>cases h
 |own ds=>exact hp
 |par ds=>exact hp
 |tre t=>
  obtain⟨v,A,h1,h2,_⟩:=q
  obtain⟨p2,rfl,m⟩:=h2.head
  have:=h1;rw[hp]at this;cases this
  exact⟨_,A,h1,h2,m⟩
 |ptr t=>
  obtain⟨v,A,h1,h2,_⟩:=q
  obtain⟨p2,rfl,m⟩:=h2.head
  have:=h1;rw[hp]at this;cases this
  exact⟨_,A,h1,h2,m⟩
theorem SlotOk.thin {G2 H2:Hp}(f:Fz Gx G2)(od:∀a o,G a=none->Gx a=some o->Odd o)(e:flS s=true)(h:SlotOk K B G2 H2 i ov s):SlotOk K B (M.thin G Gx G2) H2 i ov s:=by
 cases s with
 |emp=>trivial
 |two _ _=>trivial
 |val d=>obtain⟨v,h1,h2⟩:=h;exact⟨v,h1,zhU f od e h2⟩
 |own ds=>obtain⟨l,xs,h1,h2,h3,h4,h5⟩:=h;exact⟨l,xs,h1,zbZ h2,h3,zeE f od e h4,h5⟩
 |par ds=>obtain⟨l,xs,h1,h2,h3,h4,h5⟩:=h;exact⟨l,xs,h1,zbZ h2,h3,zeE f od e h4,h5⟩
 |tre t=>obtain⟨v,A,h1,h2,h3,h4⟩:=h;exact⟨v,A,h1,zg4 f od e h2,h3,fun a m=>⟨zbZ (h4 a m).1,(h4 a m).2⟩⟩
 |ptr t=>obtain⟨v,A,h1,h2,h3,h4⟩:=h;exact⟨v,A,h1,zg4 f od e h2,h3,fun a m=>⟨zbZ (h4 a m).1,(h4 a m).2⟩⟩
theorem ResF.thin {G2 H2:Hp}(f:Fz Gx G2)(od:∀a o,G a=none->Gx a=some o->Odd o)(e:flS r=true)(h:ResF K G2 H2 H v r):ResF K (M.thin G Gx G2) H2 H v r:=by
 cases r with
 |emp=>exact h
 |two _ _=>exact nomatch e
 |par _=>exact h
 |ptr _=>exact h
 |val d=>exact zhU f od e h
 |own ds=>obtain⟨l,xs,h1,h2,h3,h4,h5⟩:=h;exact⟨l,xs,h1,zbZ h2,h3,zeE f od e h4,h5⟩
 |tre t=>obtain⟨A,h2,h3,h4⟩:=h;exact⟨A,zg4 f od e h2,h3,fun a m=>⟨zbZ (h4 a m).1,(h4 a m).2⟩⟩
end
section
variable {K:W.Frag} {B:Bs} {G Gx H:Hp} {σ:St} {ρ:R} {js:List (Option Nat)} {ls:List Nat} {vs:List V} {as:R} {n:Nat} {F:R->Option (Sl×R)} {r:Sl} {outs:R} {Q:VK} {E:XK}
theorem callG (I:SI K B G H σ ρ)(L:Lk K ls G Gx H σ ρ)(A:ArgsOk K Gx σ ρ js vs as)(eF:F as=some (r,outs))(hn:as.length=n)(kF:zg0 F)(hj:jsOk js ls=true)(lt:js.length<=4096)
  (ck:(ls.isEmpty||(flS r&&outs.all flS))=true)
  (kk:∀G3 H2 v,SI K B G3 H2 σ (zao js outs ρ)->Fz G G3->ResF K G3 H2 H v r->(∀b,H b=none->Nw K G3 H2 σ (zao js outs ρ) b)->Q v H2):spG K n F vs H Q E:=by
 obtain⟨fo,hfo⟩:=I.foot
 have hk:=kF _ _ _ eF
 have hln:=A.len
 have hsl:∀{i j:Nat},js[i]? =some (some j)->∃u s v,ρ[j]? =some u/\u.hand=some s/\as[i]? =some s/\vs[i]? =some v/\σ[j]? =some (some v):=fun{i j} e=>by
  have hi:i<as.length:=by rw[<-hln.2];exact(List.getElem?_eq_some_iff.mp e).1
  obtain⟨v,h1,h2⟩:=A.get (List.getElem?_eq_getElem hi)
  rcases h2 with⟨z,_⟩|⟨j2,z1,z2,z3⟩
  ·rw[e]at z;cases z
  ·rw[e]at z1;cases z1
   obtain⟨u,k1,k2⟩:=zaa z3
   exact⟨u,_,v,k1,k2,List.getElem?_eq_getElem hi,h1,z2⟩
 let O:=mkO fo (hdOf σ) 0 js
 have hO1:∀{i:Nat} {b:Addr},i<js.length->(i,b)∈O->∃j,js[i]? =some (some j)/\b∈fo j:=fun{i b} hi m=>by
  obtain⟨k,j,h1,h2⟩:=mem_mkO.mp m
  rcases h2 with⟨z,h2⟩|⟨z,h2⟩
  ·have:i=k:=by lia
   subst this;exact⟨j,h1,h2⟩
  ·lia
 have hO2:∀{i:Nat} {b:Addr},i<js.length->(i+4096,b)∈O->∃j,js[i]? =some (some j)/\σ[j]? =some (some (.ref b)):=fun{i b} hi m=>by
  obtain⟨k,j,h1,h2⟩:=mem_mkO.mp m
  have:=(List.getElem?_eq_some_iff.mp h1).1
  rcases h2 with⟨z,h2⟩|⟨z,h2⟩
  ·lia
  ·have:i=k:=by lia
   subst this;exact⟨j,h1,hdOf_mem.mp h2⟩
 have hOw:∀{i:Nat} {b:Addr},(i,b)∈O->∃(k j:Nat) (u:Sl),js[k]? =some (some j)/\ρ[j]? =some u/\OwS K G H σ[j]? b u:=fun{i b} m=>by
  obtain⟨k,j,h1,h2⟩:=mem_mkO.mp m
  obtain⟨u,s,v,k1,k2,k3,k4,k5⟩:=hsl h1
  rcases h2 with⟨z,h2⟩|⟨z,h2⟩
  ·exact⟨k,j,u,h1,k1,(hfo j u k1 b).mpr h2⟩
  ·exact⟨k,j,u,h1,k1,I.root k1 k2 (hdOf_mem.mp h2)⟩
 have gx:∀{i j:Nat} {u:Sl} {a:Addr},js[i]? =some (some j)->ρ[j]? =some u->OwS K G H σ[j]? a u->Gx a=none:=fun{i j u a} e eu w=>by
  cases q:Gx a with
  |none=>rfl
  |some o=>
   obtain⟨i2,s2,m1,m2,m3⟩:=L.ow a ((I.slot j u eu).own w).1 (by rw[q];simp)
   have nj:=zgB hj e
   exact absurd m3 (I.dis j i2 u s2 a (fun z=>nj (z ▸ m1)) eu m2 w)
 have owA:∀{i:Nat} {s:Sl} {a:Addr},as[i]? =some s->OwS K Gx H (vs.map some)[i]? a s->∃(j:Nat) (u:Sl),js[i]? =some (some j)/\ρ[j]? =some u/\OwS K G H σ[j]? a u:=fun{i s a} e w=>by
  obtain⟨v,h1,h2⟩:=A.get e
  rw[List.getElem?_map,h1]at w
  rcases h2 with⟨_,d,rfl,_⟩|⟨j,z1,z2,z3⟩
  ·exact w.elim
  ·obtain⟨u,k1,k2⟩:=zaa z3
   refine⟨j,u,z1,k1,?_⟩
   have q:=I.slot j u k1
   rw[z2]
   cases u with
   |emp=>cases k2
   |two _ _=>cases k2
   |val _=>cases k2
   |own ds=>cases k2;exact w
   |par ds=>cases k2;exact w
   |tre t=>
    cases k2
    obtain⟨v2,A2,h3,h4,_⟩:=q
    obtain⟨v3,A3,w1,w2,w3⟩:=w
    cases w1
    rw[z2]at h3;cases h3
    rw[<-h4.det w2 fun _ _=>rfl]at w3
    exact⟨v,A2,rfl,h4,w3⟩
   |ptr t=>
    cases k2
    obtain⟨v2,A2,h3,h4,_⟩:=q
    obtain⟨v3,A3,w1,w2,w3⟩:=w
    cases w1
    rw[z2]at h3;cases h3
    rw[<-h4.det w2 fun _ _=>rfl]at w3
    exact⟨v,A2,rfl,h4,w3⟩
 refine⟨Gx,O,as,r,outs,eF,hn,⟨L.fz,Fz.refl _,fun b o e=> .inl (by show Gx b≠none;rw[e];simp),fun b o e _=>e,fun b e=>e,by rw[List.length_map];exact hln.1,fun i b m=>?_,fun i s e=>?_,fun i k s t a ne e1 e2 w1 w2=>?_⟩,?_⟩
 ·obtain⟨k,j,u,h1,h2,h3⟩:=hOw m
  exact((I.slot j u h2).own h3).2.1
 ·obtain⟨v,h1,h2⟩:=A.get e
  rw[List.getElem?_map,h1]
  rcases h2 with⟨_,d,rfl,q⟩|⟨j,z1,z2,z3⟩
  ·exact⟨v,rfl,q⟩
  ·obtain⟨u,k1,k2⟩:=zaa z3
   have q:=I.slot j u k1
   have inO:∀{a:Addr},OwS K G H σ[j]? a u->(i,a)∈O:=fun{a} w=>mem_mkO.mpr ⟨i,j,z1,.inl ⟨by lia,(hfo j u k1 a).mp w⟩⟩
   have tag:∀{p:Addr},σ[j]? =some (some (.ref p))->(i+4096,p)∈O:=fun{p} w=>mem_mkO.mpr ⟨i,j,z1,.inr ⟨by lia,hdOf_mem.mpr w⟩⟩
   have lst:∀{l:Addr} {xs:List V} {ds:List D},OwS K G H σ[j]? l u->σ[j]? =some (some (.ref l))->H l=some (.lst xs)->RepL K G xs ds->SlotOk K ⟨Gx,H,O⟩ Gx H i (some (some v)) (.par ds):=fun{l xs ds} w h1 h2 h3=>by
    rw[z2]at h1;cases h1
    exact⟨l,xs,rfl,gx z1 k1 w,h2,h3.mono L.up,inO w⟩
   have tre:∀{v2:V} {t:T} {A2:List Addr},(∀a∈A2,OwS K G H σ[j]? a u)->σ[j]? =some (some v2)->RepT K G H v2 t A2->A2.Nodup->SlotOk K ⟨Gx,H,O⟩ Gx H i (some (some v)) (.ptr t):=fun{v2 t A2} w h1 h2 h3=>by
    rw[z2]at h1;cases h1
    obtain⟨p,rfl,_⟩:=h2.head
    exact⟨.ref p,A2,rfl,h2.move L.up fun _ _=>rfl,⟨h3,p,rfl,tag z2⟩,fun a m=>⟨gx z1 k1 (w a m),inO (w a m)⟩⟩
   cases u with
   |emp=>cases k2
   |two _ _=>cases k2
   |val _=>cases k2
   |own ds=>cases k2;obtain⟨l,xs,h1,h2,h3,h4,h5⟩:=q;exact lst h1 h1 h3 h4
   |par ds=>cases k2;obtain⟨l,xs,h1,h2,h3,h4,h5⟩:=q;exact lst h1 h1 h3 h4
   |tre t=>cases k2;obtain⟨v2,A2,h1,h2,h3,h4⟩:=q;exact tre (fun a m=>⟨v2,A2,h1,h2,m⟩) h1 h2 h3
   |ptr t=>cases k2;obtain⟨v2,A2,h1,h2,h3,h4⟩:=q;exact tre (fun a m=>⟨v2,A2,h1,h2,m⟩) h1 h2 h3.1
 ·obtain⟨j,u,h1,h2,h3⟩:=owA e1 w1
  obtain⟨j2,u2,g1,g2,g3⟩:=owA e2 w2
  exact I.dis j j2 u u2 a (fun z=>by subst z;exact ne (zfJ hj h1 g1)) h2 g2 h3 g3
 ·intro G2 H2 v f2 fz2 nw2 kp2 th2 so2 rr2
  have trS:∀{i:Nat} {s:Sl} {ov:Option (Option V)},outs[i]? =some s->SlotOk K ⟨Gx,H,O⟩ G2 H2 i ov s->SlotOk K ⟨Gx,H,O⟩ (M.thin G Gx G2) H2 i ov s:=fun{i s ov} e h=>by
   rw[Bool.or_eq_true]at ck
   rcases ck with ck|ck
   ·have:M.thin G Gx G2=G2:=funext fun a=>by
     unfold M.thin
     rw[if_neg fun z=>by
      obtain⟨i,s,m,_⟩:=L.ow a z.1 z.2
      rw[List.isEmpty_iff.mp ck]at m;cases m]
    rw[this];exact h
   ·rw[Bool.and_eq_true]at ck
    exact h.thin f2 L.odd (List.all_eq_true.mp ck.2 s (List.mem_of_getElem? e))
  have trR:ResF K (M.thin G Gx G2) H2 H v r:=by
   rw[Bool.or_eq_true]at ck
   rcases ck with ck|ck
   ·have:M.thin G Gx G2=G2:=funext fun a=>by
     unfold M.thin
     rw[if_neg fun z=>by
      obtain⟨i,s,m,_⟩:=L.ow a z.1 z.2
      rw[List.isEmpty_iff.mp ck]at m;cases m]
    rw[this];exact rr2
   ·rw[Bool.and_eq_true]at ck
    exact rr2.thin f2 L.odd ck.1
  have fg:Fz G (M.thin G Gx G2):=thin_up (L.up.trans f2)
  have nw3:∀b o,M.thin G Gx G2 b=some o->G b≠none\/H b=none:=fun b o e=>by
   rcases nw2 b o (zhJ b o e)with z|z
   ·refine .inl fun g=>?_
    unfold M.thin at e
    rw[if_pos ⟨g,z⟩]at e;cases e
   ·exact .inr z
  have stay:∀{q:Nat} {t:Sl} {a:Addr},ρ[q]? =some t->(∀i:Nat,js[i]?≠some (some q))->OwS K G H σ[q]? a t->G a=none->H a≠none->M.thin G Gx G2 a=none/\H2 a=H a:=fun{q t a} e nj w g h=>by
   refine⟨?_,?_⟩
   ·cases z:M.thin G Gx G2 a with
    |none=>rfl
    |some o=>
     rcases nw3 a o z with z|z
     ·exact absurd g z
     ·exact absurd z h
   ·obtain⟨o,ho⟩:=Option.ne_none_iff_exists'.mp h
    rw[ho]
    refine kp2 a o ho fun i m=>?_
    obtain⟨k,j,u,h1,h2,h3⟩:=hOw m
    exact I.dis q j t u a (fun z=>by subst z;exact nj k h1) e h2 w h3
  have lo:js.length<=outs.length:=by
   have:∀{as os:R},zfk as os=true->as.length<=os.length:=by
    intro as
    induction as with
    |nil=>intro os _;simp
    |cons a as ih=>
     intro os h
     cases os with
     |nil=>cases a<;>cases h
     |cons o os=>
      have h':zfk as os=true:=by cases a<;>cases o<;>first|exact h|cases h
      simpa using ih h'
   rw[hln.2];exact this hk
  have slotN:∀{q:Nat} {t:Sl},(zao js outs ρ)[q]? =some t->SlotOk K B (M.thin G Gx G2) H2 q σ[q]? t/\∀a,OwS K (M.thin G Gx G2) H2 σ[q]? a t->∃u,ρ[q]? =some u/\OwS K G H σ[q]? a u:=fun{q t} e=>by
   rcases zcj hj lo e with⟨e1,nj⟩|⟨i,s,u,e1,e2,e3,rfl⟩
   ·have sl:=I.slot q t e1
    exact⟨sl.mono fg fun a w g h=>stay e1 nj w g h,fun a w=>⟨t,e1,sl.back (fun a w g h=>stay e1 nj w g h) w⟩⟩
   ·have hi:i<js.length:=(List.getElem?_eq_some_iff.mp e1).1
    obtain⟨u2,s0,v0,k1,k2,k3,k4,k5⟩:=hsl e1
    rw[e3]at k1;cases k1
    obtain⟨ov,so⟩:=so2 i s e2
    have so:=trS e2 so
    have sl:=I.slot q u e3
    rcases zdK hk k3 with⟨ds,es,rfl,z⟩|⟨t,t2,rfl,z⟩|⟨d,rfl,z⟩
    ·rw[e2]at z;cases z
     obtain⟨l,ys,h1,h2,h3,h4,h5⟩:=so
     obtain⟨j,m1,m2⟩:=hO1 hi h5
     rw[e1]at m1;cases m1
     have ow:=(hfo q u e3 l).mpr m2
     cases u with
     |emp=>cases k2
     |two _ _=>cases k2
     |val _=>cases k2
     |tre _=>cases k2
     |ptr _=>cases k2
     |own ds0=>
      obtain⟨l0,xs0,g1,g2,g3,g4,g5⟩:=sl
      have hl:σ[q]? =some (some (.ref l)):=ow
      rw[hl]at g1;cases g1
      exact⟨⟨l,ys,hl,h2,h3,h4,g5⟩,fun a w=>⟨_,e3,w⟩⟩
     |par ds0=>
      obtain⟨l0,xs0,g1,g2,g3,g4,g5⟩:=sl
      have hl:σ[q]? =some (some (.ref l)):=ow
      rw[hl]at g1;cases g1
      exact⟨⟨l,ys,hl,h2,h3,h4,g5⟩,fun a w=>⟨_,e3,w⟩⟩
    ·rw[e2]at z;cases z
     obtain⟨v2,A2,h1,h2,⟨h3,p,rfl,h4⟩,h5⟩:=so
     obtain⟨j,m1,m2⟩:=hO2 hi h4
     rw[e1]at m1;cases m1
     have old:∀a∈A2,OwS K G H σ[q]? a u:=fun a m=>by
      obtain⟨j,m1,m2⟩:=hO1 hi (h5 a m).2
      rw[e1]at m1;cases m1
      exact(hfo q u e3 a).mpr m2
     have owb:∀a,(∃v A,σ[q]? =some (some v)/\RepT K (M.thin G Gx G2) H2 v t2 A/\a∈A)->∃u,ρ[q]? =some u/\OwS K G H σ[q]? a u:=fun a ⟨v3,A3,w1,w2,w3⟩=>by
      rw[m2]at w1;cases w1
      rw[<-h2.det w2 fun _ _=>rfl]at w3
      exact⟨u,e3,old a w3⟩
     cases u with
     |emp=>cases k2
     |two _ _=>cases k2
     |val _=>cases k2
     |own _=>cases k2
     |par _=>cases k2
     |tre t0=>
      refine⟨⟨.ref p,A2,m2,h2,h3,fun a m=>⟨(h5 a m).1,?_⟩⟩,owb⟩
      obtain⟨v4,A4,g1,g2,g3,g4⟩:=sl
      obtain⟨v5,A5,w1,w2,w3⟩:=old a m
      rw[g1]at w1;cases w1
      rw[<-g2.det w2 fun _ _=>rfl]at w3
      exact(g4 a w3).2
     |ptr t0=>
      obtain⟨v4,A4,g1,g2,g3,g4⟩:=sl
      refine⟨⟨.ref p,A2,m2,h2,⟨h3,p,rfl,?_⟩,fun a m=>⟨(h5 a m).1,?_⟩⟩,owb⟩
      ·obtain⟨p2,z1,z2⟩:=g3.2
       rw[m2]at g1;cases g1
       cases z1;exact z2
      ·obtain⟨v5,A5,w1,w2,w3⟩:=old a m
       rw[g1]at w1;cases w1
       rw[<-g2.det w2 fun _ _=>rfl]at w3
       exact(g4 a w3).2
    ·cases u<;>cases k2
  refine kk (M.thin G Gx G2) H2 v ⟨fun a o e=>fz2 a o (zhJ a o e),I.g0.trans fg,fun b o e=>?_,fun b o e nb=>?_,fun b e=>I.there b (th2 b e),by rw[zdi];exact I.len,I.ob,fun q t e=>(slotN e).1,fun q q2 s t a ne e1 e2 w1 w2=>?_⟩ fg trR fun b hb q t e w=>?_
  ·rcases nw3 b o e with z|z
   ·cases y:G b with
    |none=>exact absurd y z
    |some u=>exact I.new b u y
   ·exact .inr (I.there b z)
  ·refine kp2 b o (I.keep b o e nb) fun i m=>?_
   obtain⟨k,j,u,h1,h2,h3⟩:=hOw m
   rcases((I.slot j u h2).own h3).2.2 with z|z
   ·rw[e]at z;cases z
   ·exact nb j z
  ·obtain⟨u,h1,h2⟩:=(slotN e1).2 a w1
   obtain⟨u2,g1,g2⟩:=(slotN e2).2 a w2
   exact I.dis q q2 u u2 a ne h1 g1 h2 g2
  ·obtain⟨u,h1,h2⟩:=(slotN e).2 b w
   exact((I.slot q u h1).own h2).2.1 hb
end
noncomputable def zez:R->Option (List D)
 |[]=>some []
 | .val d::as=>(zez as).map (d:: ·)
 |_=>none
noncomputable def zeb (F:List D->Option Sl):R->Option (Sl×R):=fun as=>(zez as).bind fun ds=>(F ds).map fun r=>(r,as.map fun _=> .emp)
theorem zfd:∀{as:R} {ds:List D},zez as=some ds->zfk as (as.map fun _=>Sl.emp)=true
 |[],_,_=>rfl
 | .val d::as,_,h=>by obtain⟨ds,e,_⟩:=zag h;exact zfd (as:=as) e
theorem zcV:zg0 (zeb F):=fun as r os h=>by
 obtain⟨ds,e1,h⟩:=zaa h
 obtain⟨r,e2,h⟩:=zag h
 cases h
 exact zfd e1
theorem vals_rep:∀{as:R} {vs:List V} {ds:List D},zez as=some ds->as.length=vs.length->(∀(i:Nat) (s:Sl),as[i]? =some s->SlotOk K B G H i (vs.map some)[i]? s)->RepL K G vs ds
 |[],[],_,h,_,_=>by cases h;exact .nil
 |[],_::_,_,_,h,_=>by simp at h
 | .val d::as,[],_,_,h,_=>by simp at h
 | .val d::as,v::vs,_,h,hl,k=>by
  obtain⟨ds,e,q⟩:=zag h
  cases q
  obtain⟨w,h1,h2⟩:=k 0 _ rfl
  have:v=w:=by simpa using h1
  subst this
  have rest:∀{as:R} {vs:List V} {ds:List D},zez as=some ds->as.length=vs.length->(∀(i:Nat) (s:Sl),as[i]? =some s->∃d v,s= .val d/\vs[i]? =some v/\RepD K G v d)->RepL K G vs ds:=by
   intro as
   induction as with
   |nil=>intro vs ds h hl _;cases h;cases vs with
    |nil=>exact .nil
    |cons _ _=>simp at hl
   |cons a as ih=>
    intro vs ds h hl k
    cases vs with
    |nil=>simp at hl
    |cons v vs=>
     cases a with
     |val d=>
      obtain⟨ds,e,q⟩:=zag h
      cases q
      obtain⟨d2,v2,z1,z2,z3⟩:=k 0 _ rfl
      cases z1
      cases(show some v=some v2 from z2)
      exact .cons z3 (ih e (by simpa using hl) fun i s es=>by simpa using k (i+1) s (by simpa using es))
     |_=>cases h
  have hv:∀{as:R} {ds:List D} {i:Nat} {s:Sl},zez as=some ds->as[i]? =some s->∃d,s= .val d:=by
   intro as
   induction as with
   |nil=>intro ds i s _ e;simp at e
   |cons a as ih=>
    intro ds i s h e
    cases a with
    |val d=>
     obtain⟨ds,e2,q⟩:=zag h
     cases i with
     |zero=>simp at e;exact⟨d,e.symm⟩
     |succ i=>exact ih e2 (by simpa using e)
    |_=>cases h
  refine .cons h2 (rest e (by simpa using hl) fun i s es=>?_)
  obtain⟨d2,rfl⟩:=hv e es
  obtain⟨w,h3,h4⟩:=k (i+1) _ (by simpa using es)
  rw[List.getElem?_map,List.getElem?_cons_succ]at h3
  cases q:vs[i]? with
  |none=>rw[q]at h3;cases h3
  |some y=>rw[q]at h3;cases h3;exact⟨d2,_,rfl,rfl,h4⟩
theorem zhR {n:Nat}{E:XK}(h:spG K n (zeb F) vs H Q E):spP K n F vs H Q E:=by
 obtain⟨G,O,as,r,outs,e1,h2,I,kk⟩:=h
 obtain⟨ds,e2,e1⟩:=zaa e1
 obtain⟨r',e3,e1⟩:=zag e1
 cases e1
 have hl:as.length=vs.length:=by have:=I.len;rw[List.length_map]at this;exact this.symm
 have rp:=vals_rep e2 hl I.slot
 refine⟨G,ds,r,e3,by rw[<-rp.length,<-hl,h2],I.fz,rp,fun G' H' v f fz nw kp rr=>kk G' H' v f fz nw (fun b o e _=>kp b o e) (fun b e=>kp.free e) (fun i s e=>?_) rr⟩
 rw[List.getElem?_map]at e
 cases q:as[i]? with
 |none=>rw[q]at e;cases e
 |some a=>rw[q]at e;cases e;exact⟨none,trivial⟩
noncomputable def ckG (ls:List Nat)(z:Sl×R):Bool:=ls.isEmpty||(flS z.1&&z.2.all flS)
noncomputable def zbn (F:R->Option (Sl×R))(js:List (Option Nat))(ls:List Nat)(mg:MG):ME:=fun ρ=>(mg ρ).bind fun q=>(F q.1).bind fun z=>if ckG ls z then match z.1 with
 | .val d=>some (d,zao js z.2 q.2)
 | .own ds=>some (.lst ds,zao js z.2 q.2)
 | .tre (.tup cs)=>some (.tup (cs.map Ch.D),zao js z.2 q.2)
 |_=>none else none
noncomputable def ziH (i:Nat)(F:R->Option (Sl×R))(js:List (Option Nat))(ls:List Nat)(mg:MG):MS:=fun ρ=>(mg ρ).bind fun q=>(F q.1).bind fun z=>if ckG ls z then match z.1 with
 | .val d=>some (.next,(zao js z.2 q.2).set i (.val d))
 | .own ds=>some (.next,(zao js z.2 q.2).set i (.own ds))
 | .tre t=>some (.next,(zao js z.2 q.2).set i (.tre t))
 |_=>none else none
noncomputable def bkT (n:Int)(ds:List D):T:= .ins "SumBook" [("many",.d (.int n)),("kept",.l ds)]
noncomputable def T.bk:T->Option (Int×List D)
 | .ins c [(a,.d (.int n)),(b,.l ds)]=>if c="SumBook"/\a="many"/\b="kept" then some (n,ds)else none
 |_=>none
noncomputable def Sl.bk:Sl->Option (Int×List D)
 | .tre t=>t.bk
 | .ptr t=>t.bk
 |_=>none
theorem bkT_bk:(bkT n ds).bk=some (n,ds):=by
 show(if("SumBook":Str)="SumBook"/\("many":Str)="many"/\("kept":Str)="kept" then some (n,ds)else none)=some (n,ds)
 rw[if_pos ⟨rfl,rfl,rfl⟩]
theorem T.bk_eq (h:t.bk=some (n,ds)):t=bkT n ds:=by
 unfold T.bk at h
 split at h
 ·split at h
  ·rename_i q
   obtain⟨rfl,rfl,rfl⟩:=q
   cases h;rfl
  ·cases h
 ·cases h
noncomputable def zdD (j:Nat)(r:MG):MG:=fun ρ=>if(ρ[j]?.bind Sl.bk).isSome then(r ρ).bind fun q=>(q.2[j]?.bind Sl.hand).map fun s=>(s::q.1,q.2)else none
structure MD (P:Program) (w:World) (K:W.Frag) (mg:Str->Option Value) (base:Heap) (k:Nat) (m:Str) (sp:Sp):Prop where
 ex:∃C f fd ps,W.nsIn K mainGlobals "SumBook"=some (some (.ref C))/\Cls K C/\Meth K C m f/\FnOk P w K mg base CX0 k f fd ps sp/\Binds K fd ps []
section
variable {K:W.Frag} {B:Bs} {G H:Hp} {σ:St} {ρ:R}
structure BkAt (K:W.Frag) (G H:Hp) (p C dx l:Addr) (n:Int) (xs:List V) (ds:List D):Prop where
 ns:W.nsIn K mainGlobals "SumBook"=some (some (.ref C))
 ob:H p=some (.ins C dx [("many",.int n),("kept",.ref l)])
 dx:H dx=some (.own p)
 ls:H l=some (.lst xs)
 rp:RepL K G xs ds
theorem BkAt.rep (b:BkAt K G H p C dx l n xs ds):RepT K G H (.ref p) (bkT n ds) [p,dx,l]:=
 ⟨p,C,dx,[("many",.int n),("kept",.ref l)],[l],rfl,b.ns,b.ob,b.dx,rfl,⟨[],[l],⟨rfl,rfl⟩,⟨[l],[],⟨l,xs,rfl,b.ls,b.rp,rfl⟩,rfl,rfl⟩,rfl⟩,rfl⟩
theorem bk_rep (r:RepT K G H v (bkT n ds) A):∃p C dx l xs,v= .ref p/\A=[p,dx,l]/\BkAt K G H p C dx l n xs ds:=by
 obtain⟨p,C,dx,ws,A',h1,h2,h3,h4,h5,h6,h7⟩:=r
 have hl:ws.length=2:=by have:=congrArg List.length h5;simpa using this
 match ws,hl with
 |[w,w2],_=>
    obtain⟨a1,b1⟩:=w
    obtain⟨a2,b2⟩:=w2
    obtain⟨A1,A2,⟨q1,q2⟩,⟨A3,A4,⟨l,xs,q3,q4,q5,q6⟩,q7,q8⟩,q9⟩:=h6
    simp only[List.map_cons,List.map_nil,List.cons.injEq,and_true]at h5
    obtain⟨rfl,rfl⟩:=h5
    cases(show b1=V.int n from q1)
    cases(show b2=V.ref l from q3)
    subst q2 q6
    have:A4=[]:=q7
    subst this
    rw[q8]at q9
    rw[q9]at h7
    exact⟨p,C,dx,l,xs,h1,h7,⟨h2,h3,h4,q4,q5⟩⟩
theorem SI.bk (I:SI K B G H σ ρ)(e:ρ[j]? =some s)(q:s.bk=some (n,ds)):∃p C dx l xs,σ[j]? =some (some (.ref p))/\BkAt K G H p C dx l n xs ds/\[p,dx,l].Nodup/\(∀a,OwS K G H σ[j]? a s↔a∈[p,dx,l]):=by
 have h:=I.slot j s e
 have fin:∀{v:V} {A:List Addr},σ[j]? =some (some v)->RepT K G H v (bkT n ds) A->A.Nodup->(∀a,OwS K G H σ[j]? a s↔∃v A,σ[j]? =some (some v)/\RepT K G H v (bkT n ds) A/\a∈A)->∃p C dx l xs,σ[j]? =some (some (.ref p))/\BkAt K G H p C dx l n xs ds/\[p,dx,l].Nodup/\(∀a,OwS K G H σ[j]? a s↔a∈[p,dx,l]):=fun{v A} h1 h2 h3 h4=>by
  have h2':=h2
  obtain⟨p,C,dx,l,xs,rfl,rfl,b⟩:=bk_rep h2
  refine⟨p,C,dx,l,xs,h1,b,h3,fun a=>(h4 a).trans ⟨fun⟨v2,A2,k1,k2,k3⟩=>?_,fun m=>⟨_,_,h1,h2',m⟩⟩⟩
  rw[h1]at k1;cases k1
  rwa[h2'.det k2 fun _ _=>rfl]
 cases s with
 |tre t=>
  cases T.bk_eq q
  obtain⟨v,A,h1,h2,h3,_⟩:=h
  exact fin h1 h2 h3 fun a=>Iff.rfl
 |ptr t=>
  cases T.bk_eq q
  obtain⟨v,A,h1,h2,h3,_⟩:=h
  exact fin h1 h2 h3.1 fun a=>Iff.rfl
 |_=>cases q
theorem bk_no {C dx l:Addr}{mt:Str}(h1:¬mt="many")(h2:¬mt="kept"):([("many",V.int n),("kept",V.ref l)]:List (Str×V)).lookup mt=none:=by
 have b1:(mt==("many":Str))=false:=beq_eq_false_iff_ne.mpr h1
 have b2:(mt==("kept":Str))=false:=beq_eq_false_iff_ne.mpr h2
 simp only[List.lookup,b1,b2]
theorem zfs:([("many",V.int n),("kept",V.ref l)]:List (Str×V)).lookup ("kept":Str)=some (.ref l):=by
 have b1:(("kept":Str)==("many":Str))=false:=by decide+kernel
 have b2:(("kept":Str)==("kept":Str))=true:=by decide+kernel
 simp only[List.lookup,b1,b2]
theorem bk_many:([("many",V.int n),("kept",V.ref l)]:List (Str×V)).lookup ("many":Str)=some (.int n):=by
 have b2:(("many":Str)==("many":Str))=true:=by decide+kernel
 simp only[List.lookup,b2]
end
section
variable {X:Cx} {x y mt:Str} {p pos py ap tpos:Pos} {e:Expr} {es:List Expr} {js:List (Option Nat)} {ls:List Nat} {mg:MG} {k k' n:Nat} {F:R->Option (Sl×R)} {sp:Sp}
theorem endG {G H:Hp}
  (hm : (match r with
   | .val d=>some (d,zao js outs ρ)
   | .own ds=>some (.lst ds,zao js outs ρ)
   | .tre (.tup cs)=>some (.tup (cs.map Ch.D),zao js outs ρ)
   |_=>none)=some (d,ρ')) (I:SI X.K B G H σ ρ) (kk:∀G' H' v,SI X.K B G' H' σ ρ'->Fz G G'->RepD X.K G' v d->Q v H'):
  ∀G3 H2 v,SI X.K B G3 H2 σ (zao js outs ρ)->Fz G G3->ResF X.K G3 H2 H v r->(∀b,H b=none->Nw X.K G3 H2 σ (zao js outs ρ) b)->Q v H2:=fun G3 H2 v I3 f3 rr nw=>by
 split at hm
 ·cases hm;exact kk G3 H2 v I3 f3 rr
 ·cases hm
  obtain⟨l,xs,rfl,g3,h3,r3,b3⟩:=rr
  obtain⟨I4,f4,r4⟩:=zge I3 g3 h3 r3 (I.there l b3) (nw l b3)
  exact kk _ H2 _ I4 (f3.trans f4) r4
 ·cases hm
  obtain⟨A,q1,q2,q3⟩:=rr
  have hA:∀a∈A,G3 a=none/\B.H a=none/\Nw X.K G3 H2 σ (zao js outs ρ) a:=fun a m=>⟨(q3 a m).1,I.there a (q3 a m).2,nw a (q3 a m).2⟩
  obtain⟨p,xs,A',rfl,g1,g2,rfl⟩:=q1
  have fg:=frA_fz (H:=H2) fun a m=>(hA a m).1
  exact kk (frA G3 H2 (p::A')) H2 _ (I3.frzA hA) (f3.trans fg) ⟨p,xs,rfl,by rw[zb0 (by simp)];exact g1,zdE fg g2 fun a m=>zb0 (by simp[m])⟩
 ·cases hm
theorem endS {fl:Fl}
  (hm : (match r with
   | .val d=>some (Fl.next,(zao js outs ρ).set i (.val d))
   | .own ds=>some (Fl.next,(zao js outs ρ).set i (.own ds))
   | .tre t=>some (Fl.next,(zao js outs ρ).set i (.tre t))
   |_=>none)=some (fl,ρ')) (I:SI X.K B G H σ ρ) (k:Post X.K B G E fl ρ'):
  ∀G3 H2 v,SI X.K B G3 H2 σ (zao js outs ρ)->Fz G G3->ResF X.K G3 H2 H v r->(∀b,H b=none->Nw X.K G3 H2 σ (zao js outs ρ) b)->E.nx (σ.set i (some v)) H2:=fun G3 H2 v I3 f3 rr nw=>by
 split at hm
 ·cases hm;exact k G3 H2 _ (I3.set rr) f3
 ·cases hm
  obtain⟨l,xs,rfl,g3,h3,r3,b3⟩:=rr
  exact k G3 H2 _ (I3.setO g3 h3 r3 (I.there l b3) (nw l b3)) f3
 ·cases hm
  obtain⟨A,q1,q2,q3⟩:=rr
  exact k G3 H2 _ (I3.setT q1 q2 fun a m=>⟨(q3 a m).1,I.there a (q3 a m).2,nw a (q3 a m).2⟩) f3
 ·cases hm
theorem zfp (fd:FD X.prog X.w X.K X.mg X.base k x sp)(hsp:∀vs H Q E,spG X.K n F vs H Q E->sp vs H Q E)(kF:zg0 F)(hr:Room k' X.A)(ha:SGA X js ls (e::es) mg)(hn:autoParam (js.length=n) zu3._auto_1)(hj:autoParam (jsOk js ls=true) zu3._auto_1)(lt:autoParam (js.length<=4096) zu1._auto_1)(hk:autoParam (k<=k') zu1._auto_1)(hg:autoParam (Gl X x) zu3._auto_1)(hdb:autoParam ((x==("__debug__":Str))=false) zu1._auto_1)
  (he:autoParam (starEach (e::es) X.env=(false,eval e X.env)::starEach es X.env) zu3._auto_1) (hpl:autoParam ((backTo pos (starEach es X.env)).any (·.1)=false) zu3._auto_1):SE X (.Call (.Name x p) (e::es) [] pos) (zbn F js ls mg):=by
 obtain⟨f,fdd,ps,G0,h1,h2,h3⟩:=fd.ex
 obtain⟨t,pa,sa⟩:=ha
 refine⟨_,zeC G0 (hr.mono hk) hg h1 h2 h3 .nil zgl pa hdb he hpl,fun B G H σ ρ d ρ' Q I hm kk=>?_⟩
 obtain⟨⟨as,ρ1⟩,e1,hm⟩:=zaa hm
 obtain⟨⟨r,outs⟩,e2,hm⟩:=zaa hm
 dsimp only at hm
 split at hm
 ·rename_i ck
  refine sa B G H σ ρ as ρ1 _ I e1 fun G1 H1 vs Gx I1 f1 L A=>?_
  show sp (vs++[]) H1 Q E0
  rw[List.append_nil]
  exact hsp _ _ _ _ (callG I1 L A e2 (by rw[<-A.len.2,hn]) kF hj lt ck (endG hm I1 fun G' H' v I' f' rr=>kk G' H' v I' (f1.trans f') rr))
 ·cases hm
theorem zgS (i:Nat)(fd:FD X.prog X.w X.K X.mg X.base k x sp)(hsp:∀vs H Q E,spG X.K n F vs H Q E->sp vs H Q E)(kF:zg0 F)(hr:Room k' X.A)(ha:SGA X js ls (e::es) mg)(hN:X.N.Nodup)(hi:autoParam (X.N[i]? =some y) zu3._auto_1)(hx:autoParam (Loc X.env.scope y) zu10._auto_1)(hf:autoParam (X.fn y=true\/X.env.scope.names.lookup y=some .local) zu10._auto_1)(hn:autoParam (js.length=n) zu3._auto_1)(hj:autoParam (jsOk js ls=true) zu3._auto_1)(lt:autoParam (js.length<=4096) zu1._auto_1)(hk:autoParam (k<=k') zu1._auto_1)(hg:autoParam (Gl X x) zu3._auto_1)(hdb:autoParam ((x==("__debug__":Str))=false) zu1._auto_1)
  (he:autoParam (starEach (e::es) X.env=(false,eval e X.env)::starEach es X.env) zu3._auto_1) (hpl:autoParam ((backTo pos (starEach es X.env)).any (·.1)=false) zu3._auto_1) (hs:autoParam (swapsWith (.Call (.Name x p) (e::es) [] pos) (some (.Name y py)) tpos.line X.env=pure false) zu3._auto_1):SS X (.Assign [.Name y py] (.Call (.Name x p) (e::es) [] pos) tpos) (ziH i F js ls mg):=by
 obtain⟨f,fdd,ps,G0,h1,h2,h3⟩:=fd.ex
 obtain⟨t,pa,sa⟩:=ha
 refine⟨_,ze5 hN hi hx (zeC G0 (hr.mono hk) hg h1 h2 h3 .nil zgl pa hdb he hpl) hs hf,fun B G H σ ρ fl ρ' E I hm kk=>?_⟩
 obtain⟨⟨as,ρ1⟩,e1,hm⟩:=zaa hm
 obtain⟨⟨r,outs⟩,e2,hm⟩:=zaa hm
 dsimp only at hm
 split at hm
 ·rename_i ck
  refine sa B G H σ ρ as ρ1 _ I e1 fun G1 H1 vs Gx I1 f1 L A=>?_
  show sp (vs++[]) H1 _ E0
  rw[List.append_nil]
  exact hsp _ _ _ _ (callG I1 L A e2 (by rw[<-A.len.2,hn]) kF hj lt ck (endS hm I1 (kk.mono f1)))
 ·cases hm
theorem zdv (j:Nat)(md:MD X.prog X.w X.K X.mg X.base k mt (spG X.K n F))(kF:zg0 F)(hr:Room k' X.A)(ha:SGA X js ls (e::es) mg)(hN:autoParam (X.N[j]? =some x) zu3._auto_1)(hv:autoParam (Vis X.env.scope x) zu6._auto_1)(hd:autoParam ((x==("__debug__":Str))=false) zu1._auto_1)
  (hcd:autoParam ((x==("__classdict__":Str))=false) zu1._auto_1) (hn:autoParam (js.length+1=n) zu3._auto_1) (hj:autoParam (jsOk (some j::js) ls=true) zu3._auto_1) (lt:autoParam (js.length+1<=4096) zu1._auto_1) (hm1:autoParam (¬mt="many") zu8._auto_1) (hm2:autoParam (¬mt="kept") zu8._auto_1) (hk:autoParam (k<=k') zu1._auto_1)
  (he:autoParam (starEach (e::es) X.env=(false,eval e X.env)::starEach es X.env) zu3._auto_1) (hpl:autoParam ((backTo pos (starEach es X.env)).any (·.1)=false) zu3._auto_1)
  (ht :autoParam (eval (.Call (.Attribute (.Name x p) mt ap) (e :: es) [] pos) X.env = (do
   let ov<-eval (.Name x p) X.env
   standAt ap.atName
   let(f,first)<-holding [ov] (getMethod ov mt pl)
   callWith pos f first (backTo pos (starEach (e::es) X.env)) (backToKw pos (keywordEach [] X.env)))) zu3._auto_1):SE X (.Call (.Attribute (.Name x p) mt ap) (e::es) [] pos) (zbn F (some j::js) ls (zdD j mg)):=by
 obtain⟨C,f,fdd,ps,c1,c2,c3,c4,c5⟩:=md.ex
 obtain⟨t,pa,sa⟩:=ha
 refine⟨_,pe_meth (zaH hN hv hd hcd) c2 c3 c4 (hr.mono hk) c5 .nil zgl pa he hpl ht,fun B G H σ ρ d ρ' Q I hm kk=>?_⟩
 obtain⟨⟨as,ρ1⟩,e1,hz1⟩:=zaa hm
 obtain⟨⟨r,outs⟩,e2,hz2⟩:=zaa hz1
 clear hm hz1
 dsimp only at hz2 e2
 split at hz2
 ·rename_i ck
  unfold zdD at e1
  split at e1
  ·rename_i hi
   obtain⟨⟨n0,ds0⟩,hi⟩:=Option.isSome_iff_exists.mp hi
   obtain⟨s0,i1,i2⟩:=zaa hi
   obtain⟨q,C2,dx,l0,xs0,h1,b0,_⟩:=I.bk i1 i2
   have h2:=b0.ns
   rw[c1]at h2;cases h2
   obtain⟨⟨as1,ρ2⟩,e3,e1⟩:=zaa e1
   obtain⟨s,e4,e1⟩:=zag e1
   cases e1
   refine⟨.ref q,h1,q,dx,_,rfl,b0.ob,bk_no (C:=C) (dx:=dx) hm1 hm2,sa B G H σ ρ as1 ρ2 _ I e3 fun G1 H1 vs Gx I1 f1 L A=>?_⟩
   show spG X.K n F (V.ref q::(vs++[])) H1 Q E0
   rw[List.append_nil]
   exact callG (js:=some j::js) I1 L (show ArgsOk X.K Gx σ ρ2 (some j::js) (V.ref q::vs) (s::as1)from⟨⟨h1,e4⟩,A⟩) e2 (by rw[List.length_cons,<-A.len.2,hn]) kF hj (by simpa using lt) ck (endG hz2 I1 fun G' H' v I' f' rr=>kk G' H' v I' (f1.trans f') rr)
  ·cases e1
 ·cases hz2
theorem zdG (j:Nat)(md:MD X.prog X.w X.K X.mg X.base k mt (spG X.K 1 F))(kF:zg0 F)(hr:Room k' X.A)(hN:autoParam (X.N[j]? =some x) zu3._auto_1)(hv:autoParam (Vis X.env.scope x) zu6._auto_1)(hd:autoParam ((x==("__debug__":Str))=false) zu1._auto_1)
  (hcd:autoParam ((x==("__classdict__":Str))=false) zu1._auto_1) (hm1:autoParam (¬mt="many") zu8._auto_1) (hm2:autoParam (¬mt="kept") zu8._auto_1) (hk:autoParam (k<=k') zu1._auto_1)
  (ht :autoParam (eval (.Call (.Attribute (.Name x p) mt ap) [] [] pos) X.env = (do
   let ov<-eval (.Name x p) X.env
   standAt ap.atName
   let(f,first)<-holding [ov] (getMethod ov mt pl)
   callWith pos f first (backTo pos (starEach [] X.env)) (backToKw pos (keywordEach [] X.env)))) zu3._auto_1):SE X (.Call (.Attribute (.Name x p) mt ap) [] [] pos) (zbn F [some j] [] (zdD j hNil)):=by
 obtain⟨C,f,fdd,ps,c1,c2,c3,c4,c5⟩:=md.ex
 refine⟨_,pe_meth0 (zaH hN hv hd hcd) c2 c3 c4 (hr.mono hk) c5 .nil zgl ht,fun B G H σ ρ d ρ' Q I hm kk=>?_⟩
 obtain⟨⟨as,ρ1⟩,e1,hz1⟩:=zaa hm
 obtain⟨⟨r,outs⟩,e2,hz2⟩:=zaa hz1
 clear hm hz1
 dsimp only at hz2 e2
 split at hz2
 ·rename_i ck
  unfold zdD at e1
  split at e1
  ·rename_i hi
   obtain⟨⟨n0,ds0⟩,hi⟩:=Option.isSome_iff_exists.mp hi
   obtain⟨s0,i1,i2⟩:=zaa hi
   obtain⟨q,C2,dx,l0,xs0,h1,b0,_⟩:=I.bk i1 i2
   have h2:=b0.ns
   rw[c1]at h2;cases h2
   obtain⟨⟨as1,ρ2⟩,e3,e1⟩:=zaa e1
   obtain⟨s,e4,e1⟩:=zag e1
   cases e1
   cases e3
   refine⟨.ref q,h1,q,dx,_,rfl,b0.ob,bk_no (C:=C) (dx:=dx) hm1 hm2,?_⟩
   show spG X.K 1 F (V.ref q::([]++[])) H Q E0
   exact callG (js:=[some j]) (ls:=[]) (Gx:=G) I ⟨Fz.refl G,I.fz,fun a g n=>absurd g n,fun a o g n=>by rw[g]at n;cases n⟩ (show ArgsOk X.K G σ ρ [some j] [V.ref q] [s]from⟨⟨h1,e4⟩,trivial⟩) e2 rfl kF rfl (by show 1<=4096;decide) ck (endG hz2 I fun G' H' v I' f' rr=>kk G' H' v I' f' rr)
  ·cases e1
 ·cases hz2
end
noncomputable def BkC (K:W.Frag):Prop:=∃C,W.nsIn K mainGlobals "SumBook"=some (some (.ref C))/\Cls K C/\NoAttr K C "many"/\NoAttr K C "kept"
noncomputable def eBkN (j:Nat):ME:=fun ρ=>(ρ[j]?.bind Sl.bk).map fun q=>(.int q.1,ρ)
noncomputable def eBkL (j:Nat):ME:=fun ρ=>(ρ[j]?.bind Sl.bk).map fun q=>(.int q.2.length,ρ)
noncomputable def onlyV (ρ:R):R:=ρ.map fun s=>match s with
 | .val d=> .val d
 |_=> .emp
noncomputable def sBkA (j:Nat)(me:ME):MS:=fun ρ=>(ρ[j]?.bind Sl.bk).bind fun q=>(me (onlyV ρ)).bind fun p=>if q.2.length<16777216 then(ρ[j]?).map fun s=>(.next,ρ.set j (s.putT (bkT q.1 (q.2++[p.1]))))else none
noncomputable def yNil:R->Option R:=fun _=>some []
noncomputable def zfQ (j:Nat)(r:R->Option R):R->Option R:=fun ρ=>(r ρ).bind fun as=>(ρ[j]?.bind Sl.look).map fun d=> .val d::as
noncomputable def ziv (j:Nat)(r:R->Option R):R->Option R:=fun ρ=>(r ρ).bind fun as=>(ρ[j]?.bind Sl.bk).map fun q=> .val (.lst q.2)::as
noncomputable def ze8 (m:R->Option R):MG:=fun ρ=>(m ρ).map fun as=>(as,ρ)
noncomputable def SGS (X:Cx)(js:List (Option Nat))(ls:List Nat)(es:List Expr)(m:R->Option R):Prop:=
 ∃t,PA X es t/\∀B G H σ ρ as (Q:List V->Hp->Prop),SI X.K B G H σ ρ->m ρ=some as->(∀vs Gx,Lk X.K ls G Gx H σ ρ->ArgsOk X.K Gx σ ρ js vs as->Q vs H)->t σ H Q
noncomputable def tIsN (j:Nat)(b:Bool):MT:=fun ρ=>match ρ[j]? with
 |some (.val d)=>some (isN d==b,ρ)
 |some (.own _)=>some (!b,ρ)
 |some (.tre (.tup _))=>some (!b,ρ)
 |_=>none
section
variable {K:W.Frag} {B:Bs} {G Gx H:Hp} {σ:St} {ρ:R}
theorem Lk.addL (L:Lk K ls G Gx H σ ρ)(e:ρ[j]? =some s)(w:OwS K G H σ[j]? l s)(hl:H l=some (.lst xs))(r:RepL K G xs ds):
  ∃Gy,Fz Gx Gy/\Lk K (j::ls) G Gy H σ ρ/\RepD K Gy (.ref l) (.lst ds):=by
 have f1:Fz Gx (frA Gx H [l]):=fun a o e=>by
  by_cases m:a∈[l]
  ·rw[zb0 m];exact L.fz a o e
  ·rw[zbs m];exact e
 refine⟨frA Gx H [l],f1,⟨L.up.trans f1,fun a o e=>?_,fun a g n=>?_,fun a o g q=>?_⟩,⟨l,xs,rfl,by rw[zb0 (by simp)];exact hl,r.mono (L.up.trans f1)⟩⟩
 ·by_cases m:a∈[l]
  ·rw[zb0 m]at e;exact e
  ·rw[zbs m]at e;exact L.fz a o e
 ·by_cases m:a∈[l]
  ·have:a=l:=by simpa using m
   subst this
   exact⟨j,s,by simp,e,w⟩
  ·rw[zbs m]at n
   obtain⟨i,t,k1,k2⟩:=L.ow a g n
   exact⟨i,t,by simp[k1],k2⟩
 ·by_cases m:a∈[l]
  ·have:a=l:=by simpa using m
   subst this
   rw[zb0 m,hl]at q;cases q;exact .inl ⟨_,rfl⟩
  ·rw[zbs m]at q;exact L.odd a o g q
theorem Lk.start (I:SI K B G H σ ρ):Lk K [] G G H σ ρ:=⟨Fz.refl G,I.fz,fun a g n=>absurd g n,fun a o g n=>by rw[g]at n;cases n⟩
theorem SI.chB (I:SI K B G H σ ρ){ds es:List D}{xs ys:List V}(e:ρ[j]? =some s)(q:s.bk=some (n,ds))(hp:σ[j]? =some (some (.ref p)))(b:BkAt K G H p C dx l n xs ds)(nd:[p,dx,l].Nodup)(ow:∀a,OwS K G H σ[j]? a s↔a∈[p,dx,l])
  (r:RepL K G ys es):SI K B G (upd H l (.lst ys)) σ (ρ.set j (s.putT (bkT n es))):=by
 have pl:p≠l:=fun z=>by subst z;simp at nd
 have dl:dx≠l:=fun z=>by subst z;simp at nd
 have ol:OwS K G H σ[j]? l s:=(ow l).mpr (by simp)
 have sl:=I.slot j s e
 have gl:G l=none:=(sl.own ol).1
 have b':BkAt K G (upd H l (.lst ys)) p C dx l n ys es:=⟨b.ns,by rw[zad pl];exact b.ob,by rw[zad dl];exact b.dx,zaf,r⟩
 have h:=I.chg (i:=j) (ov:=some (.ref p)) (s':=s.putT (bkT n es)) (G':=G) (H':=upd H l (.lst ys)) (I.fz.right gl _) (Fz.refl G) I.new (fun c o k1 k2=>?_) (fun c k=>?_) (fun i t a z ei w g ha=>?_) ?_
 ·rwa[zej hp]at h
 ·rw[zad fun z=>?_]
  ·exact I.keep c o k1 k2
  ·subst z
   rcases(sl.own ol).2.2 with z|z
   ·rw[k1]at z;cases z
   ·exact k2 j z
 ·refine I.there c ?_
  by_cases z:c=l
  ·subst z;rw[zaf]at k;cases k
  ·rw[zad z]at k;exact k
 ·have na:∀a',a'∈[p,dx,l]->a≠a':=fun a' m z2=>by subst z2;exact I.dis i j t s a z ei e w ((ow a).mpr m)
  refine⟨g,zad (na l (by simp)),fun w'=>?_⟩
  have:∃v A,some (some (V.ref p))=some (some v)/\RepT K G (upd H l (.lst ys)) v (bkT n es) A/\a∈A:=by
   cases s with
   |tre t=>exact w'
   |ptr t=>exact w'
   |_=>cases q
  obtain⟨v2,A2,k1,k2,k3⟩:=this
  cases k1
  rw[<-b'.rep.det k2 fun _ _=>rfl]at k3
  exact na a k3 rfl
 ·cases s with
  |tre t=>
   cases T.bk_eq q
   obtain⟨v,A,h1,h2,h3,h4⟩:=sl
   rw[hp]at h1;cases h1
   have eA:[p,dx,l]=A:=b.rep.det h2 fun _ _=>rfl
   subst eA
   exact⟨.ref p,_,rfl,b'.rep,h3,h4⟩
  |ptr t=>
   cases T.bk_eq q
   obtain⟨v,A,h1,h2,h3,h4⟩:=sl
   rw[hp]at h1;cases h1
   have eA:[p,dx,l]=A:=b.rep.det h2 fun _ _=>rfl
   subst eA
   exact⟨.ref p,_,rfl,b'.rep,h3,h4⟩
  |_=>cases q
theorem SI.onlyV (I:SI K B G H σ ρ):SI K ⟨G,H,[]⟩ G H σ (M.onlyV ρ):=by
 have at1:∀{i:Nat} {s:Sl},(M.onlyV ρ)[i]? =some s->s= .emp\/∃d,s= .val d/\ρ[i]? =some (.val d):=fun{i s} e=>by
  unfold M.onlyV at e
  rw[List.getElem?_map]at e
  obtain⟨u,e1,e2⟩:=zag e
  cases u<;>first|exact .inl e2.symm|exact .inr ⟨_,e2.symm,e1⟩
 refine⟨I.fz,Fz.refl G,fun b o e=> .inl (by show G b≠none;rw[e];simp),fun b o e _=>e,fun b e=>e,by unfold M.onlyV;rw[List.length_map];exact I.len,fun i b m=>by simp at m,fun i s e=>?_,fun i j s t a _ e _ w=>?_⟩
 ·rcases at1 e with rfl|⟨d,rfl,h⟩
  ·trivial
  ·exact I.slot i _ h
 ·rcases at1 e with rfl|⟨d,rfl,h⟩<;>exact w.elim
end
section
variable {X:Cx} {x y:Str} {p pos py ap tpos cpos apos:Pos} {e:Expr} {es:List Expr} {js:List (Option Nat)} {ls:List Nat} {me:ME} {r:R->Option R} {k k' n:Nat}
theorem zkq (j:Nat)(bc:BkC X.K)(hN:autoParam (X.N[j]? =some x) zu3._auto_1)(hv:autoParam (Vis X.env.scope x) zu6._auto_1)(hd:autoParam ((x==("__debug__":Str))=false) zu1._auto_1)
  (hcd:autoParam ((x==("__classdict__":Str))=false) zu1._auto_1) (hb:autoParam (attributeBase (.Name x p) "many" X.env (eval (.Name x p) X.env)=eval (.Name x p) X.env) zu3._auto_1):SE X (.Attribute (.Name x p) "many" pos) (eBkN j):=by
 obtain⟨C,c1,c2,c3,c4⟩:=bc
 refine⟨_,zgu (zaH hN hv hd hcd) hb,fun B G H σ ρ d ρ' Q I hm k=>?_⟩
 obtain⟨⟨n,ds⟩,e1,hm⟩:=zag hm
 cases hm
 obtain⟨s,e2,e3⟩:=zaa e1
 obtain⟨q,C2,dx,l,xs,h1,b,_⟩:=I.bk e2 e3
 have h2:=b.ns
 rw[c1]at h2;cases h2
 exact⟨.ref q,h1,q,C,dx,_,.int n,rfl,b.ob,c2,c3,bk_many,k G H _ I (Fz.refl G) rfl⟩
theorem se_bkL (j:Nat)(bc:BkC X.K)(ml:X.mg "len"=none)(hN:autoParam (X.N[j]? =some x) zu3._auto_1)(hv:autoParam (Vis X.env.scope x) zu6._auto_1)(hd:autoParam ((x==("__debug__":Str))=false) zu1._auto_1)
  (hcd:autoParam ((x==("__classdict__":Str))=false) zu1._auto_1) (hb:autoParam (attributeBase (.Name x p) "kept" X.env (eval (.Name x p) X.env)=eval (.Name x p) X.env) zu3._auto_1) (hg:autoParam (Gl X "len") zu3._auto_1)
  (he:autoParam (starEach [.Attribute (.Name x p) "kept" ap] X.env=(false,eval (.Attribute (.Name x p) "kept" ap) X.env)::starEach [] X.env) zu3._auto_1):SE X (.Call (.Name "len" py) [.Attribute (.Name x p) "kept" ap] [] pos) (eBkL j):=by
 obtain⟨C,c1,c2,c3,c4⟩:=bc
 refine⟨_,zed zd3 hg ml PySem.boot_len (zaB (zgu (zaH hN hv hd hcd) hb) zbE he) (by decide) (by decide) he rfl,fun B G H σ ρ d ρ' Q I hm k=>?_⟩
 obtain⟨⟨n,ds⟩,e1,hm⟩:=zag hm
 cases hm
 obtain⟨s,e2,e3⟩:=zaa e1
 obtain⟨q,C2,dx,l,xs,h1,b,_⟩:=I.bk e2 e3
 have h2:=b.ns
 rw[c1]at h2;cases h2
 refine⟨.ref q,h1,q,C,dx,_,.ref l,rfl,b.ob,c2,c4,zfs,l,xs,rfl,.inl (SqL.of b.ls),k G H _ I (Fz.refl G) ?_⟩
 show V.int xs.length=V.int ds.length
 rw[b.rp.length]
theorem zhm:SGS X [] [] [] yNil:=⟨_,zbE,fun B G H σ ρ as Q I hm k=>by
 cases hm
 exact k [] G (Lk.start I) trivial⟩
theorem zdO (j:Nat)(hr:SGS X js ls es r)(hN:autoParam (X.N[j]? =some x) zu3._auto_1)(hv:autoParam (Vis X.env.scope x) zu6._auto_1)(hd:autoParam ((x==("__debug__":Str))=false) zu1._auto_1)
  (hcd:autoParam ((x==("__classdict__":Str))=false) zu1._auto_1) (hs:autoParam (starEach (.Name x p::es) X.env=(false,eval (.Name x p) X.env)::starEach es X.env) zu3._auto_1):SGS X (none::js) (j::ls) (.Name x p::es) (zfQ j r):=by
 obtain⟨u,pr,sr⟩:=hr
 refine⟨_,zaB (zaH hN hv hd hcd) pr hs,fun B G H σ ρ as Q I hm k=>?_⟩
 obtain⟨as1,e2,hm⟩:=zaa hm
 obtain⟨d,e3,hm⟩:=zag hm
 cases hm
 obtain⟨s,e4,e5⟩:=zaa e3
 have ha:hasA ρ j=true:=by
  unfold hasA
  rw[e4]
  cases s<;>first|rfl|cases e5
 obtain⟨v,e1⟩:=I.hasA ha
 refine⟨v,e1,sr B G H σ ρ as1 _ I e2 fun vs Gx L a=>?_⟩
 obtain⟨Gy,f3,L3,r3⟩:=Lk.more I L e1 e4 e5
 exact k (v::vs) Gy L3 ⟨⟨d,rfl,r3⟩,a.mono f3⟩
theorem zfH (j:Nat)(bc:BkC X.K)(hr:SGS X js ls es r)(hN:autoParam (X.N[j]? =some x) zu3._auto_1)(hv:autoParam (Vis X.env.scope x) zu6._auto_1)(hd:autoParam ((x==("__debug__":Str))=false) zu1._auto_1)
  (hcd:autoParam ((x==("__classdict__":Str))=false) zu1._auto_1) (hb:autoParam (attributeBase (.Name x p) "kept" X.env (eval (.Name x p) X.env)=eval (.Name x p) X.env) zu3._auto_1) (hs:autoParam (starEach (.Attribute (.Name x p) "kept" ap::es) X.env=(false,eval (.Attribute (.Name x p) "kept" ap) X.env)::starEach es X.env) zu3._auto_1):SGS X (none::js) (j::ls) (.Attribute (.Name x p) "kept" ap::es) (ziv j r):=by
 obtain⟨C,c1,c2,c3,c4⟩:=bc
 obtain⟨u,pr,sr⟩:=hr
 refine⟨_,zaB (zgu (zaH hN hv hd hcd) hb) pr hs,fun B G H σ ρ as Q I hm k=>?_⟩
 obtain⟨as1,e2,hm⟩:=zaa hm
 obtain⟨⟨n,ds⟩,e3,hm⟩:=zag hm
 cases hm
 obtain⟨s,e4,e5⟩:=zaa e3
 obtain⟨q,C2,dx,l,xs,h1,b,_,ow⟩:=I.bk e4 e5
 have h2:=b.ns
 rw[c1]at h2;cases h2
 refine⟨.ref q,h1,q,C,dx,_,.ref l,rfl,b.ob,c2,c4,zfs,sr B G H σ ρ as1 _ I e2 fun vs Gx L a=>?_⟩
 obtain⟨Gy,f3,L3,r3⟩:=L.addL e4 ((ow l).mpr (by simp)) b.ls b.rp
 exact k (.ref l::vs) Gy L3 ⟨⟨_,rfl,r3⟩,a.mono f3⟩
theorem SGS.ga (h:SGS X js ls es r):SGA X js ls es (ze8 r):=by
 obtain⟨u,pr,sr⟩:=h
 refine⟨u,pr,fun B G H σ ρ as ρ' Q I hm k=>?_⟩
 obtain⟨as1,e2,hm⟩:=zag hm
 cases hm
 exact sr B G H σ ρ as _ I e2 fun vs Gx L a=>k G H vs Gx I (Fz.refl G) L a
theorem ss_bkA (j:Nat)(bc:BkC X.K)(he:SE X e me)(hN:autoParam (X.N[j]? =some x) zu3._auto_1)(hv:autoParam (Vis X.env.scope x) zu6._auto_1)(hd:autoParam ((x==("__debug__":Str))=false) zu1._auto_1)
  (hcd:autoParam ((x==("__classdict__":Str))=false) zu1._auto_1) (hb:autoParam (attributeBase (.Name x p) "kept" X.env (eval (.Name x p) X.env)=eval (.Name x p) X.env) zu3._auto_1)
  (hbase:autoParam (attributeBase (.Attribute (.Name x p) "kept" ap) "append" X.env (eval (.Attribute (.Name x p) "kept" ap) X.env)=eval (.Attribute (.Name x p) "kept" ap) X.env) zu3._auto_1)
  (hfew :autoParam (((backTo cpos (starEach [e] X.env)).all (fun x => !x.1) && (backToKw cpos (keywordEach [] X.env)).all (fun x => x.1.isSome)
   &&decide ([e].length+([]:List Keyword).length+(if([]:List Keyword).isEmpty then 0 else 1)<30))=true) zu3._auto_1)
  (hline:autoParam ((apos.endLine==cpos.line)=true) zu3._auto_1) (hs:autoParam (starEach [e] X.env=(false,eval e X.env)::starEach [] X.env) zu3._auto_1):SS X (.Expr (.Call (.Attribute (.Attribute (.Name x p) "kept" ap) "append" apos) [e] [] cpos) pos) (sBkA j me):=by
 obtain⟨C,c1,c2,c3,c4⟩:=bc
 obtain⟨te,pe,se⟩:=he
 refine⟨_,zi7 (pe_bm PySem.F.plainAttrs_list PySem.F.slot_list_append PySem.F.type_list_append zf9 (zgu (zaH hN hv hd hcd) hb) (zaB pe zbE hs) hbase hfew hline hs rfl) (by rfl),fun B G H σ ρ fl ρ' E I hm k=>?_⟩
 obtain⟨⟨n,ds⟩,e1,hm⟩:=zaa hm
 obtain⟨⟨d,ρ1⟩,e2,hm⟩:=zaa hm
 dsimp only at hm
 split at hm
 ·rename_i hl
  obtain⟨s,e3,hm⟩:=zag hm
  cases hm
  obtain⟨s2,e4,e5⟩:=zaa e1
  rw[e3]at e4;cases e4
  obtain⟨q,C2,dx,l,xs,h1,b,_,ow⟩:=I.bk e3 e5
  have h2:=b.ns
  rw[c1]at h2;cases h2
  refine⟨.ref q,h1,q,C,dx,_,.ref l,rfl,b.ob,c2,c4,zfs,.inl ⟨rfl,_,SqL.of b.ls⟩,?_⟩
  refine se _ G H σ _ d _ _ I.onlyV e2 fun G1 H1 v1 J1 f1 r1=>?_
  have kp:Fz H H1:=fun b o q=>J1.keep b o q fun i m=>by simp at m
  have I1:=I.grow f1 J1.fz (fun b o q=>J1.new b o q) kp
  obtain⟨q',C',dx',l',xs',g1,b',nd,ow'⟩:=I1.bk e3 e5
  rw[h1]at g1;cases g1
  have z:=kp _ _ b.ob
  rw[b'.ob]at z
  cases z
  have zl:=kp _ _ b.ls
  rw[b'.ls]at zl
  cases zl
  exact⟨_,_,v1,rfl,rfl,b'.ls,by rw[b'.rp.length,sizeLine_eq];exact hl,k G1 _ σ (I1.chB e3 e5 h1 b' nd ow' (b'.rp.snoc r1)) f1⟩
 ·cases hm
theorem st_isN (j:Nat){j1}{p2:Pos}(hN:autoParam (X.N[j]? =some x) zu3._auto_1)(hv:autoParam (Vis X.env.scope x) zu6._auto_1)(hd:autoParam ((x==("__debug__":Str))=false) zu1._auto_1)
  (hcd:autoParam ((x==("__classdict__":Str))=false) zu1._auto_1) (hm:autoParam (behindInMarks .Is (.Constant .none j1 p2)=false) zu3._auto_1):STt X (.Compare (.Name x p) [.Is] [.Constant .none j1 p2] pos) (tIsN j true):=by
 refine⟨_,zgU op_isN (zaH hN hv hd hcd) zjf hm,fun B G H σ ρ b ρ' Q I hm k=>?_⟩
 unfold tIsN at hm
 split at hm
 ·rename_i d e
  cases hm
  obtain⟨v,h1,h2⟩:=I.slot j _ e
  refine⟨v,h1,rfl,_,rfl,?_⟩
  rw[isN_ok h2]
  have:(isN d==true)=isN d:=by cases isN d<;>rfl
  rw[this]at k
  exact k G H I (Fz.refl G)
 ·rename_i e
  cases hm
  obtain⟨l,xs,h1,_⟩:=I.slot j _ e
  exact⟨.ref l,h1,rfl,_,rfl,k G H I (Fz.refl G)⟩
 ·rename_i e
  cases hm
  obtain⟨v,A,h1,h2,_⟩:=I.slot j _ e
  obtain⟨q,rfl,_⟩:=h2.head
  exact⟨.ref q,h1,rfl,_,rfl,k G H I (Fz.refl G)⟩
 ·cases hm
end
noncomputable def sBkM (i:Nat)(me:ME):MS:=fun ρ=>(me ρ).bind fun p=>match p.1 with
 | .int n=>some (.next,p.2.set i (.tre (bkT n [])))
 |_=>none
noncomputable def spBk (C:Addr):Sp:=fun vs H Q _=>∃p dx n,vs=[.ref p,.int n]/\H p=some (.ins C dx [])/\∀l,H l=none->Q .non (upd (upd (upd H p (.ins C dx [("many",.int n)])) l (.lst [])) p (.ins C dx [("many",.int n),("kept",.ref l)]))
noncomputable def BkM (P:Program)(w:World)(K:W.Frag)(mg:Str->Option Value)(base:Heap)(k:Nat):Prop:=∃C f fd,W.nsIn K mainGlobals "SumBook"=some (some (.ref C))/\mg "SumBook"=some (.ref C)/\Mk K C f/\FnOk P w K mg base CX0 k f fd ["self","many"] (spBk C)/\Binds K fd ["self","many"] []
theorem zjj:putF "kept" (.ref l) (putF "many" (.int n) [])=([("many",.int n),("kept",.ref l)]:List (Str×V)):=by
 show(if("many":Str)="kept" then[(("many":Str),V.ref l)]else(("many":Str),V.int n)::putF "kept" (V.ref l) [])=_
 rw[if_neg (by decide+kernel)]
 rfl
noncomputable def sDNk (i:Nat)(mk mv:ME):MS:=fun ρ=>(mk ρ).bind fun p=>(mv p.2).bind fun q=>match p.1 with
 | .int k=>some (.next,q.2.set i (.tre (.dic [k] [q.1])))
 |_=>none
section
variable {X:Cx} {x:Str} {p pos tpos p':Pos} {e a b:Expr} {me mk mv:ME} {k k':Nat}
theorem ss_bkM (i:Nat)(bm:BkM X.prog X.w X.K X.mg X.base k)(hr:Room k' X.A)(he:SE X e me)(hN:X.N.Nodup)(hi:autoParam (X.N[i]? =some x) zu3._auto_1)(hx:autoParam (Loc X.env.scope x) zu10._auto_1)(hf:autoParam (X.fn x=true\/X.env.scope.names.lookup x=some .local) zu10._auto_1)(hk:autoParam (k+1<=k') zu1._auto_1)(hg:autoParam (Gl X "SumBook") zu3._auto_1)
  (hs:autoParam (swapsWith (.Call (.Name "SumBook" p) [e] [] pos) (some (.Name x p')) tpos.line X.env=pure false) zu3._auto_1) (hst:autoParam (starEach [e] X.env=(false,eval e X.env)::starEach [] X.env) zu3._auto_1) (hpl:autoParam ((backTo pos (starEach [] X.env)).any (·.1)=false) zu3._auto_1):SS X (.Assign [.Name x p'] (.Call (.Name "SumBook" p) [e] [] pos) tpos) (sBkM i me):=by
 obtain⟨C,f,fd,c1,c2,c3,c4,c5⟩:=bm
 obtain⟨te,pe,se⟩:=he
 refine⟨_,ze5 hN hi hx (pe_make c3 c4 (hr.mono hk) hg c2 c5 .nil zgl (zaB pe zbE hst) (by decide) hst hpl) hs hf,fun B G H σ ρ fl ρ' E I hm kk=>?_⟩
 obtain⟨⟨d,ρ1⟩,e1,hm⟩:=zaa hm
 dsimp only at hm
 split at hm
 ·rename_i n
  cases hm
  refine se B G H σ ρ _ ρ1 _ I e1 fun G1 H1 v I1 f1 r1=>?_
  cases(show v=V.int n from r1)
  intro q dx hq hdx nq
  refine⟨q,dx,n,rfl,zaf,fun l hl=>⟨rfl,?_⟩⟩
  have lq:l≠q:=fun z=>by rw[z,zaf]at hl;cases hl
  have ld:l≠dx:=fun z=>by rw[z,zad nq,zaf]at hl;cases hl
  have hl1:H1 l=none:=by rw[zad lq,zad ld]at hl;exact hl
  have eH:upd (upd (upd (upd (upd H1 dx (.own q)) q (.ins C dx [])) q (.ins C dx [("many",.int n)])) l (.lst [])) q (.ins C dx [("many",.int n),("kept",.ref l)])=upd (upd (upd H1 dx (.own q)) l (.lst [])) q (.ins C dx [("many",.int n),("kept",.ref l)]):=by
   funext c
   by_cases z:c=q
   ·subst z;rw[zaf,zaf]
   ·rw[zad z,zad z]
    by_cases z2:c=l
    ·subst z2;rw[zaf,zaf]
    ·rw[zad z2,zad z2,zad z,zad z]
  show E.nx _ (upd (upd (upd (upd (upd H1 dx (.own q)) q (.ins C dx [])) q (.ins C dx [("many",.int n)])) l (.lst [])) q (.ins C dx [("many",.int n),("kept",.ref l)]))
  rw[eH]
  have h2:(upd H1 dx (.own q)) l=none:=by rw[zad ld];exact hl1
  have h3:(upd (upd H1 dx (.own q)) l (.lst [])) q=none:=by rw[zad (Ne.symm lq),zad (Ne.symm nq)];exact hq
  have I2:=((I1.allocO hdx (.own q)).allocO h2 (.lst [])).allocO h3 (.ins C dx [("many",.int n),("kept",.ref l)])
  have same:∀a,H1 a≠none->(upd (upd (upd H1 dx (.own q)) l (.lst [])) q (.ins C dx [("many",.int n),("kept",.ref l)])) a=H1 a:=fun a h=>by
   rw[zad (fun z=>h (by rw[z];exact hq)),zad (fun z=>h (by rw[z];exact hl1)),zad (fun z=>h (by rw[z];exact hdx))]
  have nw:∀a,H1 a=none->Nw X.K G1 (upd (upd (upd H1 dx (.own q)) l (.lst [])) q (.ins C dx [("many",.int n),("kept",.ref l)])) σ ρ1 a:=fun a h=>I1.nw_move (I1.nw h) fun i s a _ _ g h=>⟨g,same a h⟩
  have bk:BkAt X.K G1 (upd (upd (upd H1 dx (.own q)) l (.lst [])) q (.ins C dx [("many",.int n),("kept",.ref l)])) q C dx l n [] []:=⟨c1,zaf,by rw[zad nq,zad (Ne.symm ld),zaf],by rw[zad lq,zaf],.nil⟩
  refine kk G1 _ _ (I2.setT bk.rep ?_ fun a m=>?_) f1
  ·simp only[List.nodup_cons,List.mem_cons,List.not_mem_nil,or_false,not_or,not_false_eq_true,List.nodup_nil,and_true]
   exact⟨⟨Ne.symm nq,Ne.symm lq⟩,Ne.symm ld⟩
  ·have fr:H1 a=none:=by
    simp only[List.mem_cons,List.not_mem_nil,or_false]at m
    rcases m with rfl|rfl|rfl
    ·exact hq
    ·exact hdx
    ·exact hl1
   exact⟨I1.fz.free fr,I1.there a fr,nw a fr⟩
 ·cases hm
theorem ss_dNk (i:Nat)(ha:SE X a mk)(hb:SE X b mv)(hN:X.N.Nodup)(hi:autoParam (X.N[i]? =some x) zu3._auto_1)(hx:autoParam (Loc X.env.scope x) zu10._auto_1)(hs:autoParam (swapsWith (.Dict [some a] [b] tpos) (some (.Name x p')) pos.line X.env=pure false) zu3._auto_1)
    (hf:autoParam (X.fn x=true\/X.env.scope.names.lookup x=some .local) zu10._auto_1):SS X (.Assign [.Name x p'] (.Dict [some a] [b] tpos) pos) (sDNk i mk mv):=by
  obtain⟨ta,pa,sa⟩:=ha
  obtain⟨tb,pb,sb⟩:=hb
  refine⟨_,ze5 hN hi hx (pe_disp (pps_cons (k:=a) (v:=b) pa pb pps_nil) rfl rfl (by simp) (by simp)) hs hf,fun B G H σ ρ fl ρ' E I hm k=>?_⟩
  obtain⟨⟨d1,ρ1⟩,e1,hm1⟩:=zaa hm
  obtain⟨⟨d2,ρ2⟩,e2,hm2⟩:=zaa hm1
  clear hm hm1
  dsimp only at hm2 e2
  split at hm2
  . rename_i n
    cases hm2
    intro p hp
    have bg:B.G p=none:=I.g0.free (I.fz.free hp)
    have bp:=I.there p hp
    refine sa ⟨B.G,upd B.H p (.dK []),B.O⟩ G _ σ ρ _ ρ1 _ (I.hold hp (.dK [])) e1 fun G1 H1 v1 I1 f1 r1=>?_
    refine sb _ G1 H1 σ ρ1 _ ρ2 _ I1 e2 fun G2 H2 v2 I2 f2 r2=>?_
    cases(show v1=V.int n from r1)
    obtain⟨I3,h1,h2,h3⟩:=I2.let I.ob bp bg
    refine⟨h1,[(kI n,v2)],rfl,by simp,?_⟩
    show E.nx _ (upd H2 p (.dK [(kI n,v2)]))
    exact k G2 _ _ (I3.chg (i:=i) (ov:=some (.ref p)) (s':= .tre (.dic [n] [d2])) (G':=G2) (H':=upd H2 p (.dK [(kI n,v2)])) (I3.fz.right h2 _) (Fz.refl G2) I3.new (fun c q e nn=>by
        rw[zad (fun z=>by subst z;rw[bp]at e;cases e)];exact I3.keep c q e nn) (fun c e=>by
        by_cases z:c=p
        . subst z;exact bp
        . rw[zad z]at e;exact I3.there c e) (fun j s c z ej w g _=>by
        have nc:c≠p:=fun q=>by subst q;exact h3 j s ej w
        refine⟨g,zad nc,fun⟨v2,A2,k1,k2,k3⟩=>?_⟩
        cases k1
        obtain⟨p3,_,e4,_,_,_,rfl⟩:=k2
        cases e4
        exact nc (by simpa using k3)) ⟨.ref p,[p],rfl,⟨p,[(kI n,v2)],rfl,zaf,rfl,RepL.cons r2 RepL.nil,rfl⟩,by simp,fun c m=>by
        have:c=p:=by simpa using m
        subst this
        exact⟨h2,bp⟩⟩) (f1.trans f2)
  . cases hm2
end
section
variable {P:Program} {w:World} {K:W.Frag} {mg:Str->Option Value} {base hp:Heap} {x mt:Str} {st:Stmt} {f:Addr} {N:List Str} {k n:Nat} {m:MS}
theorem fdG (X:K.In hp)(G:hp.Ns mainGlobals mg)(h:FnAt K x st)(b:Bd P w K mg base x st N k m)(d:DefOk x st N n:=by exact⟨⟨rfl,rfl,rfl,by decide+kernel,rfl,by decide+kernel,by decide+kernel⟩,rfl,by decide,fun _ _ _ _ _ _=>by first|exact us_s fun _=>us_0 rfl|exact us_s fun _=>us_s fun _=>us_0 rfl|exact us_s fun _=>us_s fun _=>us_s fun _=>us_0 rfl|exact us_s fun _=>us_s fun _=>us_s fun _=>us_s fun _=>us_0 rfl|exact us_0 rfl|exact us_s fun _=>us_s fun _=>us_s fun _=>us_s fun _=>us_s fun _=>us_0 rfl|exact us_s fun _=>us_s fun _=>us_s fun _=>us_s fun _=>us_s fun _=>us_s fun _=>us_0 rfl⟩):FD P w K mg base (k+1) x (spG K n (fG N.length m)):=
 let⟨f,fd,a,T⟩:=h
 ⟨⟨f,fd,_,fnG_ok T d.sc d.len d.le fun cdv A outer s H E hr=>b _ cdv A outer s H E hr d.sc.nd,W.mg_of X G a,T.kp,T.binds d.bs⟩⟩
noncomputable def MAt (K:W.Frag)(mt q:Str)(st:Stmt):Prop:=∃C f fd,W.nsIn K mainGlobals "SumBook"=some (some (.ref C))/\Cls K C/\Meth K C mt f/\Fun K mt q st f fd
theorem MAt.mk {od an:Option Addr}{kV doc pm cdv ct:Value}(n:W.nsIn K mainGlobals "SumBook"=some (some (.ref C)))(cl:Cls K C)(a:W.findIn K (.ref C) mt=some (some (.ref f)))(i:W.isFn K (.ref f)=true)(l:K.lookup f=some ⟨oc,od,.func (W.fnOf mt q (zaV st) (zav st) (zam st) .none kV doc pm an cdv ct),osl⟩)
  (c:W.codeIn K cdv q=true) (k:W.keepIn K (.ref f)=true):MAt K mt q st:=⟨C,f,_,n,cl,⟨a,i,k⟩,zjI l c k⟩
structure DefOkM (x q:Str) (st:Stmt) (N:List Str) (n:Nat):Prop where
 sc:FnScope N (N.take n) (zam st)
 len:(N.take n).length=n
 le:n<=N.length
 bs:∀(kV doc pm:Value) (an:Option Addr) (cdv ct:Value) (us:List Value),us.length=(N.take n).length->bindArgs (W.fnOf x q (zaV st) (zav st) (zam st) .none kV doc pm an cdv ct) ⟨us,[]⟩=pure ((N.take n).zip us)
theorem mdG (h:MAt K mt q st)(b:Bd P w K mg base q st N k m)(d:DefOkM mt q st N n:=by exact⟨⟨rfl,rfl,rfl,by decide+kernel,rfl,by decide+kernel,by decide+kernel⟩,rfl,by decide,fun _ _ _ _ _ _=>by first|exact us_s fun _=>us_0 rfl|exact us_s fun _=>us_s fun _=>us_0 rfl|exact us_s fun _=>us_s fun _=>us_s fun _=>us_0 rfl|exact us_s fun _=>us_s fun _=>us_s fun _=>us_s fun _=>us_0 rfl⟩):MD P w K mg base (k+1) mt (spG K n (fG N.length m)):=
 let⟨C,f,fd,a1,a2,a3,T⟩:=h
 ⟨⟨C,f,fd,_,a1,a2,a3,fnG_ok T d.sc d.len d.le fun cdv A outer s H E hr=>b _ cdv A outer s H E hr d.sc.nd,T.binds d.bs⟩⟩
theorem bkInit (F:Fun K "__init__" "SumBook.__init__" st f fd)(cl:Cls K C)(n1:NoAttr K C "many")(n2:NoAttr K C "kept")(S:FnScope ["self","many"] ["self","many"] (zam st))
  (body:∀(cdv:Value) (A:Around) (outer:List Env) (s:Shared) (H:Hp) (E:XK),PSs (cxOf CX0 P w K mg base ["self","many"] "SumBook.__init__" (zam st) f cdv A outer s H E).nox (zav st) (tSeq (sFld K (tVar 0) (tVar 1) "many") (sFld K (tVar 0) (tLst tNil) "kept"))):FnOk P w K mg base CX0 1 f fd ["self","many"] (spBk C):=by
 refine F.ok S (fun vs H Q E h=>?_) (fun cdv A outer s H vs Q E hr h=>?_)
 ·obtain⟨p,dx,n,rfl,_⟩:=h
  rfl
 ·obtain⟨p,dx,n,rfl,hp,k⟩:=h
  refine⟨_,body cdv A outer s H E,?_⟩
  refine⟨_,rfl,_,rfl,p,C,dx,[],rfl,hp,cl,n1,(by show 0<1000;decide),?_⟩
  refine⟨(by rw[sizeLine_eq];exact(by decide:(0:Nat)<=16777216)),fun l hl=>?_⟩
  have lp:p≠l:=fun z=>by rw[<-z,zaf]at hl;cases hl
  refine⟨_,rfl,p,C,dx,_,rfl,(by rw[zad lp];exact zaf),cl,n2,(by show 1<1000;decide),?_⟩
  have:=k l (by rw[zad (Ne.symm lp)]at hl;exact hl)
  rw[zjj]
  exact this
end
noncomputable def sBkF (j ix iy:Nat)(me:ME):MS:=fun ρ=>(ρ[j]?.bind Sl.bk).bind fun q=>(forM (fun d ρ=>sSet iy me (ρ.set ix (.val d))) q.2 (ρ.set j .emp)).bind fun p=>match p.1 with
 | .next=>(ρ[j]?).map fun s=>(.next,p.2.set j s)
 |_=>none
section
variable {K:W.Frag} {B:Bs} {G H:Hp} {σ:St} {ρ:R}
open Classical in
noncomputable def Bs.reA (B:Bs)(K:W.Frag)(G H:Hp)(σ:St)(ρ:R)(A:List Addr):Bs:=⟨G,fun b=>if(∃(i:Nat) (s:Sl),ρ[i]? =some s/\OwS K G H σ[i]? b s)/\B.H b=none then none else H b,B.O.filter fun z=>!A.contains z.2⟩
theorem reA_O:z∈(B.reA K G H σ ρ A).O↔z∈B.O/\z.2∉A:=by
 unfold Bs.reA
 simp
theorem zeg (I:SI K B G H σ ρ)(h:(B.reA K G H σ ρ A).H b=none):B.H b=none:=by
 unfold Bs.reA at h
 dsimp only at h
 split at h
 ·rename_i w;exact w.2
 ·exact I.there b h
theorem SI.reA (I:SI K B G H σ ρ)(hA:∀a∈A,Nw K G H σ ρ a):SI K (B.reA K G H σ ρ A) G H σ ρ where
 fz:=I.fz
 g0:=Fz.refl G
 new:=fun b o e=> .inl (by show G b≠none;rw[e];simp)
 keep:=fun b o e _=>by
  unfold Bs.reA at e
  dsimp only at e
  split at e
  ·cases e
  ·exact e
 there:=fun b e=>by
  unfold Bs.reA
  dsimp only
  split
  ·rfl
  ·exact e
 ob:=fun i b m=>by
  have hb:=I.ob i b (reA_O.mp m).1
  unfold Bs.reA
  dsimp only
  rw[if_neg fun w=>hb w.2]
  exact fun z=>hb (I.there b z)
 len:=I.len
 slot:=fun i s e=>by
  have h:=I.slot i s e
  have own:∀{a:Addr},OwS K G H σ[i]? a s->B.H a=none->(B.reA K G H σ ρ A).H a=none:=fun{a} w n=>by
   unfold Bs.reA
   dsimp only
   rw[if_pos ⟨⟨i,s,e,w⟩,n⟩]
  have inO:∀{n:Nat} {a:Addr},OwS K G H σ[i]? a s->(n,a)∈B.O->(n,a)∈(B.reA K G H σ ρ A).O:=fun{n a} w m=>reA_O.mpr ⟨m,fun z=>hA a z i s e w⟩
  cases s with
  |emp=>trivial
  |two _ _=>trivial
  |val d=>exact h
  |own ds=>obtain⟨l,xs,k1,k2,k3,k4,k5⟩:=h;exact⟨l,xs,k1,k2,k3,k4,own k1 k5⟩
  |par ds=>obtain⟨l,xs,k1,k2,k3,k4,k5⟩:=h;exact⟨l,xs,k1,k2,k3,k4,inO k1 k5⟩
  |tre t=>obtain⟨v,A',k1,k2,k3,k4⟩:=h;exact⟨v,A',k1,k2,k3,fun a m=>⟨(k4 a m).1,own ⟨v,A',k1,k2,m⟩ (k4 a m).2⟩⟩
  |ptr t=>
   obtain⟨v,A',k1,k2,⟨k3,p,rfl,k5⟩,k4⟩:=h
   obtain⟨p2,q1,q2⟩:=k2.head
   cases q1
   exact⟨_,A',k1,k2,⟨k3,p,rfl,inO ⟨_,A',k1,k2,q2⟩ k5⟩,fun a m=>⟨(k4 a m).1,inO ⟨_,A',k1,k2,m⟩ (k4 a m).2⟩⟩
 dis:=I.dis
theorem SI.unreA (I:SI K B G H σ ρ)(J:SI K (B.reA K G H σ ρ A) G' H' σ' ρ'):SI K B G' H' σ' ρ' where
 fz:=J.fz
 g0:=I.g0.trans J.g0
 new:=fun b o e=>by
  rcases J.new b o e with z|z
  ·cases q:G b with
   |none=>exact absurd q z
   |some u=>exact I.new b u q
  ·exact .inr (zeg I z)
 keep:=fun b o e n=>J.keep b o (by
  unfold Bs.reA
  dsimp only
  rw[if_neg fun w=>by rw[w.2]at e;cases e]
  exact I.keep b o e n) fun i m=>n i (reA_O.mp m).1
 there:=fun b e=>zeg I (J.there b e)
 ob:=I.ob
 len:=J.len
 slot:=fun i s e=>by
  have h:=J.slot i s e
  cases s with
  |emp=>trivial
  |two _ _=>trivial
  |val d=>exact h
  |own ds=>obtain⟨l,xs,k1,k2,k3,k4,k5⟩:=h;exact⟨l,xs,k1,k2,k3,k4,zeg I k5⟩
  |par ds=>obtain⟨l,xs,k1,k2,k3,k4,k5⟩:=h;exact⟨l,xs,k1,k2,k3,k4,(reA_O.mp k5).1⟩
  |tre t=>obtain⟨v,A',k1,k2,k3,k4⟩:=h;exact⟨v,A',k1,k2,k3,fun a m=>⟨(k4 a m).1,zeg I (k4 a m).2⟩⟩
  |ptr t=>
   obtain⟨v,A',k1,k2,⟨k3,p,k6,k5⟩,k4⟩:=h
   exact⟨v,A',k1,k2,⟨k3,p,k6,(reA_O.mp k5).1⟩,fun a m=>⟨(k4 a m).1,(reA_O.mp (k4 a m).2).1⟩⟩
 dis:=J.dis
theorem SI.reA_stays (I:SI K B G H σ ρ)(J:SI K (B.reA K G H σ ρ A) G' H' σ' ρ'){o:HO}(m:b∈A)(h:H b=some o)(n:Nw K G H σ ρ b)(hg:G b=none):H' b=some o/\G' b=none/\Nw K G' H' σ' ρ' b:=by
 have hb:(B.reA K G H σ ρ A).H b=some o:=by
  unfold Bs.reA
  dsimp only
  rw[if_neg fun w=>by obtain⟨⟨i,s,e,w⟩,_⟩:=w;exact n i s e w]
  exact h
 have hO:∀i,(i,b)∉(B.reA K G H σ ρ A).O:=fun i z=>(reA_O.mp z).2 m
 refine⟨J.keep b o hb hO,?_,fun i s e w=>?_⟩
 ·cases q:G' b with
  |none=>rfl
  |some u=>
   rcases J.new b u q with z|z
   ·exact absurd hg z
   ·rw[hb]at z;cases z
 ·rcases((J.slot i s e).own w).2.2 with z|z
  ·rw[hb]at z;cases z
  ·exact hO i z
end
section
variable {X:Cx} {x y z:Str} {p pos ap py pz tpos cpos apos:Pos} {e:Expr} {me:ME}
theorem ss_bkF (j ix iy:Nat)(bc:BkC X.K)(he:SE X e me)(hN:X.N.Nodup)(hp:PassesOwn (model X.prog X.w) X.A X.env X.xe)(hc:autoParam (X.calm=true) zu3._auto_1)(jx:autoParam (ix≠j) zu1._auto_1)(jy:autoParam (iy≠j) zu1._auto_1)(hj:autoParam (X.N[j]? =some x) zu3._auto_1)(hv:autoParam (Vis X.env.scope x) zu6._auto_1)(hd:autoParam ((x==("__debug__":Str))=false) zu1._auto_1)
  (hcd:autoParam ((x==("__classdict__":Str))=false) zu1._auto_1) (hb:autoParam (attributeBase (.Name x p) "kept" X.env (eval (.Name x p) X.env)=eval (.Name x p) X.env) zu3._auto_1)
  (hix:autoParam (X.N[ix]? =some y) zu3._auto_1) (hxl:autoParam (Loc X.env.scope y) zu10._auto_1) (hxf:autoParam (X.fn y=true\/X.env.scope.names.lookup y=some .local) zu10._auto_1)
  (hiy:autoParam (X.N[iy]? =some z) zu3._auto_1) (hyl:autoParam (Loc X.env.scope z) zu10._auto_1) (hyf:autoParam (X.fn z=true\/X.env.scope.names.lookup z=some .local) zu10._auto_1)
  (hsw:autoParam (swapsWith e (some (.Name z pz)) tpos.line X.env=pure false) zu3._auto_1)
  (hs:autoParam (∀v,foldedSetIterable (.Attribute (.Name x p) "kept" ap) X.env v=pure v) zu9._auto_1):
  SS X (.For (.Name y py) (.Attribute (.Name x p) "kept" ap) [.Assign [.Name z pz] e tpos] [] pos) (sBkF j ix iy me):=by
 obtain⟨C,c1,c2,c3,c4⟩:=bc
 obtain⟨te,pe,se⟩:=he
 refine⟨_,ps_for hp hc (pi_or (zgu (zaH hj hv hd hcd) hb)) (zhd hN hix hxl hxf) (zgF (ze5 hN hiy hyl pe hsw hyf)) hs,fun B G H σ ρ fl ρ' E I hm k=>?_⟩
 obtain⟨⟨n,ds⟩,e1,hm1⟩:=zaa hm
 obtain⟨⟨f,ρ1⟩,e2,hm2⟩:=zaa hm1
 clear hm hm1
 dsimp only at hm2 e2
 cases f with
 |brk=>cases hm2
 |cont=>cases hm2
 |ret _=>cases hm2
 |next=>
  obtain⟨s,e3,hm⟩:=zag hm2
  cases hm
  obtain⟨s2,e4,e5⟩:=zaa e1
  rw[e3]at e4;cases e4
  obtain⟨q,C2,dx,l,xs,h1,b,nd,ow⟩:=I.bk e3 e5
  have h2:=b.ns
  rw[c1]at h2;cases h2
  have sl:=I.slot j s e3
  have I0:=I.emp j
  have nw:∀a∈[q,dx,l],Nw X.K G H σ (ρ.set j .emp) a:=fun a m=>nw_emp I e3 ((ow a).mpr m)
  have gn:∀a∈[q,dx,l],G a=none:=fun a m=>(sl.own ((ow a).mpr m)).1
  have J0:=I0.reA nw
  have hlen:xs.length=ds.length:=b.rp.length
  refine⟨.ref q,h1,q,C,dx,_,.ref l,rfl,b.ob,c2,c4,zfs,l,rfl,.inl ⟨⟨xs,SqL.of b.ls⟩,?_⟩⟩
  have stl:∀{G2 H2:Hp} {σ2:St} {ρ2:R},SI X.K (B.reA X.K G H σ (ρ.set j .emp) [q,dx,l]) G2 H2 σ2 ρ2->H2 l=some (.lst xs):=fun{G2 H2 σ2 ρ2} J=>(I0.reA_stays J (by simp) b.ls (nw l (by simp)) (gn l (by simp))).1
  refine⟨fun i m σ2 H2=>m=ds.length-i/\i<=ds.length/\σ2[j]? =some (some (.ref q))/\∃G2 ρ2,SI X.K (B.reA X.K G H σ (ρ.set j .emp) [q,dx,l]) G2 H2 σ2 ρ2/\Fz G G2/\forM (fun d ρ=>sSet iy me (ρ.set ix (.val d))) (ds.drop i) ρ2=some (.next,ρ1),⟨ds.length,by simp,Nat.zero_le _,h1,G,_,J0,Fz.refl _,by simpa using e2⟩,?_⟩
  rintro i m σ2 H2 ⟨rfl,hi,hq,G2,ρ2,J2,f2,g2⟩
  by_cases hlt:i<ds.length
  ·rw[List.drop_eq_getElem_cons hlt]at g2
   simp only[forM]at g2
   obtain⟨⟨f,ρ3⟩,g3,g4⟩:=zaa g2
   obtain⟨⟨d',ρ4⟩,g5,g6⟩:=zag g3
   cases g6
   have hx:i<xs.length:=by lia
   refine .inr ⟨⟨xs,xs[i],SqL.of (stl J2),List.getElem?_eq_getElem hx⟩,fun σ' H'=>σ'[j]? =some (some (.ref q))/\∃G3,SI X.K (B.reA X.K G H σ (ρ.set j .emp) [q,dx,l]) G3 H' σ' (ρ4.set iy (.val d'))/\Fz G G3,?_,fun v H' yy=>?_⟩
   ·rintro σ' H' ⟨hq',G3,J3,f3⟩
    exact⟨ds.length-(i+1),by lia,rfl,hlt,hq',G3,_,J3,f3,g4⟩
   ·obtain⟨rfl,yv⟩:=yy
    have ev:=yv xs (SqL.of (stl J2))
    have rd:RepD X.K G2 v ds[i]:=by
     obtain⟨w,w1,w2⟩:=b.rp.get (List.getElem?_eq_getElem hlt)
     rw[ev]at w1;cases w1
     exact w2.mono f2
    refine se _ G2 H' _ _ d' ρ4 _ (J2.set (i:=ix) rd) g5 fun G5 H5 v5 J5 f5 r5=>?_
    refine⟨?_,G5,J5.set r5,f2.trans f5⟩
    rw[List.getElem?_set_ne jy,List.getElem?_set_ne jx]
    exact hq
  ·have:i=ds.length:=by lia
   subst this
   rw[List.drop_length]at g2
   cases g2
   refine .inl ⟨⟨xs,SqL.of (stl J2),by lia⟩,?_⟩
   have st:∀a∈[q,dx,l],∀o,H a=some o->H2 a=some o/\G2 a=none/\Nw X.K G2 H2 σ2 ρ1 a:=fun a m o ho=>I0.reA_stays J2 m ho (nw a m) (gn a m)
   have I2:=I0.unreA J2
   have hH:∀a∈[q,dx,l],H2 a=H a:=fun a m=>by
    obtain⟨o,ho⟩:=Option.ne_none_iff_exists'.mp (sl.own ((ow a).mpr m)).2.1
    rw[(st a m o ho).1,ho]
   have ng:∀a∈[q,dx,l],G2 a=none/\Nw X.K G2 H2 σ2 ρ1 a:=fun a m=>by
    obtain⟨o,ho⟩:=Option.ne_none_iff_exists'.mp (sl.own ((ow a).mpr m)).2.1
    exact(st a m o ho).2
   have b2:BkAt X.K G2 H2 q C dx l n xs ds:=⟨b.ns,by rw[hH q (by simp)];exact b.ob,by rw[hH dx (by simp)];exact b.dx,by rw[hH l (by simp)];exact b.ls,b.rp.mono f2⟩
   have J3:=I2.chg (i:=j) (ov:=some (.ref q)) (s':=s) I2.fz (Fz.refl G2) I2.new I2.keep I2.there (fun i t a zz ei w g _=>⟨g,rfl,fun w'=>?_⟩) ?_
   ·rw[zej hq]at J3
    exact k G2 H2 σ2 J3 f2
   ·have:∃v A,some (some (V.ref q))=some (some v)/\RepT X.K G2 H2 v (bkT n ds) A/\a∈A:=by
     cases s with
     |tre t=>cases T.bk_eq e5;exact w'
     |ptr t=>cases T.bk_eq e5;exact w'
     |_=>cases e5
    obtain⟨v2,A2,k1,k2,k3⟩:=this
    cases k1
    rw[<-b2.rep.det k2 fun _ _=>rfl]at k3
    exact(ng a k3).2 i t ei w
   ·cases s with
    |tre t=>
     cases T.bk_eq e5
     obtain⟨v,A,z1,z2,z3,z4⟩:=sl
     rw[h1]at z1;cases z1
     have eA:[q,dx,l]=A:=b.rep.det z2 fun _ _=>rfl
     subst eA
     exact⟨.ref q,_,rfl,b2.rep,z3,fun a m=>⟨(ng a m).1,(z4 a m).2⟩⟩
    |ptr t=>
     cases T.bk_eq e5
     obtain⟨v,A,z1,z2,z3,z4⟩:=sl
     rw[h1]at z1;cases z1
     have eA:[q,dx,l]=A:=b.rep.det z2 fun _ _=>rfl
     subst eA
     exact⟨.ref q,_,rfl,b2.rep,z3,fun a m=>⟨(ng a m).1,(z4 a m).2⟩⟩
    |_=>cases e5
end
noncomputable def rCntI (K:W.Frag):V->List V->Hp->VK->Prop:=fun x vs H Q=>∃(l:Addr) (ns:List Int) (k:Int),x= .ref l/\vs=[.int k]/\SqL K H l (ns.map V.int)/\Q (.int (ns.count k:Nat)) H
theorem mt_cntI:MtR X "list.count" (rCntI X.K):=by
 intro pins s σ H x vs v us Q I rx rv h
 obtain⟨l,ns,k,rfl,rfl,hq,q⟩:=h
 cases rx
 obtain⟨u,rfl,ru⟩:=rv.one
 obtain⟨t,rfl⟩:=(show ∃t,u=Value.int k t from ru)
 obtain⟨its,r,p,hz⟩:=I.list hq
 exact count_list_ints p.isList (zdP r) ⟨.int (ns.count k:Nat),H,I.tok _,⟨_,rfl⟩,q⟩
noncomputable def dCntI:D->D->Option D
 | .lst ds,.int k=>(zaM ds).map fun ns=> .int (ns.count k:Nat)
 |_,_=>none
theorem se_cntI {o e:Expr}{mo me:ME}{apos cpos:Pos}(ho:SE X o mo)(he:SE X e me)
  (hbase:autoParam (attributeBase o "count" X.env (eval o X.env)=eval o X.env) zu3._auto_1)
  (hfew :autoParam (((backTo cpos (starEach [e] X.env)).all (fun x => !x.1) && (backToKw cpos (keywordEach [] X.env)).all (fun x => x.1.isSome)
   &&decide ([e].length+([]:List Keyword).length+(if([]:List Keyword).isEmpty then 0 else 1)<30))=true) zu3._auto_1)
  (hline:autoParam ((apos.endLine==cpos.line)=true) zu3._auto_1) (hs:autoParam (starEach [e] X.env=(false,eval e X.env)::starEach [] X.env) zu3._auto_1):SE X (.Call (.Attribute o "count" apos) [e] [] cpos) (m2 dCntI mo me):=by
 obtain⟨to,po,so⟩:=ho
 obtain⟨te,pe,se⟩:=he
 refine⟨_,pe_bm PySem.F.plainAttrs_list PySem.F.slot_list_count PySem.F.type_list_count mt_cntI po (zaB pe zbE hs) hbase hfew hline hs rfl,fun B G H σ ρ d ρ' Q I hm k=>?_⟩
 obtain⟨⟨d1,ρ1⟩,e1,hm⟩:=zaa hm
 obtain⟨⟨d2,ρ2⟩,e2,hm⟩:=zaa hm
 obtain⟨d3,e3,hm⟩:=zag hm
 cases hm
 refine so B G H σ ρ d1 ρ1 _ I e1 fun G1 H1 v I1 f1 r1=>?_
 match d1,d2,e3 with
 | .lst ds,.int b,e3=>
  obtain⟨bs,e4,e3⟩:=zag e3
  cases e3
  obtain⟨a,xs,rfl,ha,rr⟩:=r1
  refine⟨.inl ⟨rfl,xs,SqL.of (I1.fz _ _ ha)⟩,?_⟩
  refine se B G1 H1 σ ρ1 _ ρ2 _ I1 e2 fun G2 H2 u I2 f2 r2=>?_
  cases(show u=V.int b from r2)
  have e5:=zff e4
  subst e5
  have ex:xs=bs.map V.int:=RepL.ints_eq (rr.mono f2)
  subst ex
  exact⟨a,bs,b,rfl,rfl,SqL.of (I2.fz _ _ (f2 _ _ ha)),k G2 H2 _ I2 (f1.trans f2) rfl⟩
noncomputable abbrev MXG:=R->Option (Str×R)
noncomputable def tIsB (j:Nat):MT:=fun ρ=>match ρ[j]? with
 |some (.val d)=>some (isN d,ρ)
 |some (.tre t)=>if t.bk.isSome then some (false,ρ)else none
 |_=>none
section
variable {X:Cx} {x:Str} {p pos:Pos}
theorem st_isBk (j:Nat){j1}{p2:Pos}(hN:autoParam (X.N[j]? =some x) zu3._auto_1)(hv:autoParam (Vis X.env.scope x) zu6._auto_1)(hd:autoParam ((x==("__debug__":Str))=false) zu1._auto_1)
  (hcd:autoParam ((x==("__classdict__":Str))=false) zu1._auto_1) (hm:autoParam (behindInMarks .Is (.Constant .none j1 p2)=false) zu3._auto_1):STt X (.Compare (.Name x p) [.Is] [.Constant .none j1 p2] pos) (tIsB j):=by
 refine⟨_,zgU op_isN (zaH hN hv hd hcd) zjf hm,fun B G H σ ρ b ρ' Q I hm k=>?_⟩
 unfold tIsB at hm
 split at hm
 ·rename_i d e
  cases hm
  obtain⟨v,h1,h2⟩:=I.slot j _ e
  refine⟨v,h1,rfl,_,rfl,?_⟩
  rw[isN_ok h2]
  exact k G H I (Fz.refl G)
 ·rename_i t e
  split at hm
  ·cases hm
   obtain⟨v,A,h1,h2,_⟩:=I.slot j _ e
   obtain⟨q,rfl,_⟩:=h2.head
   exact⟨.ref q,h1,rfl,_,rfl,k G H I (Fz.refl G)⟩
  ·cases hm
 ·cases hm
end
end M
namespace M
open L2 PySem
variable {c d x:D} {b:MS} {z:Bool} {Q:List D×R->Prop} {a i n j N:Nat} {f:D->R->Option (Option D×R)} {g:D->R->Option R} {mt:MT} {me m:ME} {ρ:R} {r:Sl} {h:List D->R->Option R} {ds xs ys:List D} {mi ma:MA} {t:Option Sl} {F:List D->Option Sl} {cap:List Nat} {I:R->Prop}
noncomputable abbrev Rt {α:Type}(_:α->Prop):Type:=Option α
noncomputable def OkQ {α:Type}(Q:α->Prop)(o:Rt Q):Prop:=∃a,o=some a/\Q a
noncomputable def Ok {α:Type}(o:Option α)(Q:α->Prop):Prop:=OkQ Q o
noncomputable abbrev RtS {α:Sort u}(_:α):Type:=Option Sl
section
variable {α β:Type} {o:Option α} {Q Q':α->Prop}
theorem ok_some {a:α}:OkQ Q (some a)=Q a:=propext ⟨fun⟨_,e,q⟩=>by cases e;exact q,fun q=>⟨a,rfl,q⟩⟩
theorem ok_none:OkQ Q (none:Option α)=False:=propext ⟨fun⟨_,e,_⟩=>(by cases e),False.elim⟩
theorem ok_bind {f:α->Option β}{Q:β->Prop}:OkQ Q (o.bind f)=OkQ (fun a=>OkQ Q (f a)) o:=by
 cases o with
 |none=>exact propext ⟨fun⟨_,e,_⟩=>(by cases e),fun⟨_,e,_⟩=>(by cases e)⟩
 |some a=>exact propext ⟨fun h=>⟨a,rfl,h⟩,fun⟨_,e,h⟩=>by cases e;exact h⟩
theorem ok_map {f:α->β}{Q:β->Prop}:OkQ Q (o.map f)=OkQ (fun a=>Q (f a)) o:=by
 cases o with
 |none=>exact propext ⟨fun⟨_,e,_⟩=>(by cases e),fun⟨_,e,_⟩=>(by cases e)⟩
 |some a=>exact propext ⟨fun h=>⟨a,rfl,ok_some.mp h⟩,fun⟨_,e,h⟩=>by cases e;exact ok_some.mpr h⟩
theorem zbV {c:Prop}[Decidable c]:OkQ Q (if c then o else none)=(c/\OkQ Q o):=by
 by_cases h:c
 ·rw[if_pos h];exact propext ⟨fun k=>⟨h,k⟩,fun k=>k.2⟩
 ·rw[if_neg h];exact propext ⟨fun k=>(ok_none.mp k).elim,fun k=>absurd k.1 h⟩
theorem ok_Q:Ok o Q=OkQ Q o:=rfl
noncomputable def gd {α:Type}(b:Bool)(o:Option α):Option α:=if b then o else none
theorem ok_gd {b:Bool}(h:b=true):OkQ Q (gd b o)=OkQ Q o:=by subst h;rfl
theorem Ok.mono (h:Ok o Q)(k:∀a,Q a->Q' a):Ok o Q':=by
 obtain⟨a,e,q⟩:=h;exact⟨a,e,k a q⟩
theorem zar {Q':α->Prop}(h:∀a,Q a=Q' a):OkQ Q o=OkQ Q' o:=by rw[funext h]
end
section
variable {c:MT} {a b:MS} {ρ:R}
theorem zf8 {α:Type}{o u:Option α}{Q:α->Prop}:OkQ Q (if z then o else u)=((z=true->OkQ Q o)/\(z=false->OkQ Q u)):=by cases z<;>simp
theorem ok_sIf {Q:Fl×R->Prop}:OkQ Q (sIf c a b ρ)=(OkQ (fun p=>(p.1=true->OkQ Q (a p.2))/\(p.1=false->OkQ Q (b p.2))) (c ρ)):=by
 unfold sIf;rw[ok_bind];exact zar fun p=>zf8
theorem ok_eIf {a b:ME}{Q:D×R->Prop}:OkQ Q (eIf c a b ρ)=(OkQ (fun p=>(p.1=true->OkQ Q (a p.2))/\(p.1=false->OkQ Q (b p.2))) (c ρ)):=by
 unfold eIf;rw[ok_bind];exact zar fun p=>zf8
theorem ok_tAnd {a b:MT}{Q:Bool×R->Prop}:OkQ Q (zj1 a b ρ)=(OkQ (fun p=>(p.1=true->OkQ Q (b p.2))/\(p.1=false->Q (false,p.2))) (a ρ)):=by
 unfold zj1;rw[ok_bind];exact zar fun p=>by rw[zf8,ok_some]
theorem ok_tOr {a b:MT}{Q:Bool×R->Prop}:OkQ Q (tOrM a b ρ)=(OkQ (fun p=>(p.1=true->Q (true,p.2))/\(p.1=false->OkQ Q (b p.2))) (a ρ)):=by
 unfold tOrM;rw[ok_bind];exact zar fun p=>by rw[zf8,ok_some]
theorem ok_eAnd {a b:ME}{Q:D×R->Prop}:OkQ Q (eAnd a b ρ)=(OkQ (fun p=>∃z,p.1= .bl z/\(z=true->OkQ Q (b p.2))/\(z=false->Q (.bl false,p.2))) (a ρ)):=by
 unfold eAnd;rw[ok_bind]
 have:∀p:D×R,Ok (match p.1 with
  | .bl true=>b p.2
  | .bl false=>some (.bl false,p.2)
  |_=>none) Q↔∃z,p.1= .bl z/\(z=true->Ok (b p.2) Q)/\(z=false->Q (.bl false,p.2)):=by
  rintro⟨d,ρ⟩
  cases d with
  |bl z=>cases z<;>simp[ok_Q,ok_some]
  |_=>simp[ok_Q,ok_none]
 exact zar fun p=>propext (this p)
theorem ok_eOr {a b:ME}{Q:D×R->Prop}:OkQ Q (eOr a b ρ)=(OkQ (fun p=>∃z,p.1= .bl z/\(z=true->Q (.bl true,p.2))/\(z=false->OkQ Q (b p.2))) (a ρ)):=by
 unfold eOr;rw[ok_bind]
 have:∀p:D×R,Ok (match p.1 with
  | .bl true=>some (.bl true,p.2)
  | .bl false=>b p.2
  |_=>none) Q↔∃z,p.1= .bl z/\(z=true->Q (.bl true,p.2))/\(z=false->Ok (b p.2) Q):=by
  rintro⟨d,ρ⟩
  cases d with
  |bl z=>cases z<;>simp[ok_Q,ok_some]
  |_=>simp[ok_Q,ok_none]
 exact zar fun p=>propext (this p)
theorem ok_chain {f g:D->D->Option D}{a b c:ME}{Q:D×R->Prop}:OkQ Q (ze7 f g a b c ρ)=(OkQ (fun p=>OkQ (fun q=>OkQ (fun t=>∃z,t= .bl z/\(z=true->OkQ (fun r=>OkQ (fun d=>Q (d,r.2)) (g q.1 r.1)) (c q.2))/\(z=false->Q (.bl false,q.2))) (f p.1 q.1)) (b p.2)) (a ρ)):=by
 unfold ze7;rw[ok_bind]
 have:∀(p q:D×R) (t:D),Ok (match t with
  | .bl true=>(c q.2).bind fun r=>(g q.1 r.1).map fun d=>(d,r.2)
  | .bl false=>some (.bl false,q.2)
  |_=>none) Q↔∃z,t= .bl z/\(z=true->Ok (c q.2) fun r=>Ok (g q.1 r.1) fun d=>Q (d,r.2))/\(z=false->Q (.bl false,q.2)):=by
  intro p q t
  cases t with
  |bl z=>
   cases z
   ·simp[ok_Q,ok_some]
   ·simp only[ok_Q,ok_bind,D.bl.injEq,exists_eq_left',forall_const,reduceCtorEq,false_implies,and_true]
    exact iff_of_eq (zar fun r=>ok_map)
  |_=>simp[ok_Q,ok_none]
 exact zar fun p=>by rw[ok_bind];exact zar fun q=>by rw[ok_bind];exact zar fun t=>propext (this p q t)
theorem ok_turnM {Q:Option D×R->Prop}:OkQ Q (zis g mt me d ρ)=(OkQ (fun ρ1=>OkQ (fun p=>(p.1=true->OkQ (fun q=>zbH q.2=true/\Q (some q.1,q.2)) (me p.2))/\(p.1=false->zbH p.2=true/\Q (none,p.2))) (mt ρ1)) (g d ρ)):=by
 unfold zis;rw[ok_bind];exact zar fun ρ1=>by rw[ok_bind];exact zar fun p=>by rw[zf8,ok_bind,zbV,ok_some];congr 1;exact propext (imp_congr Iff.rfl (iff_of_eq (zar fun q=>by rw[zbV,ok_some])))
theorem ok_turnP {bk:Nat}{Q:Option D×R->Prop}:OkQ Q (zir bk g mt me d ρ)=(OkQ (fun ρ1=>OkQ (fun p=>(p.1=true->OkQ (fun q=>zg8 bk q.2=true/\Q (some q.1,q.2)) (me p.2))/\(p.1=false->zg8 bk p.2=true/\Q (none,p.2))) (mt ρ1)) (g d ρ)):=by
 unfold zir;rw[ok_bind];exact zar fun ρ1=>by rw[ok_bind];exact zar fun p=>by rw[zf8,ok_bind,zbV,ok_some];congr 1;exact propext (imp_congr Iff.rfl (iff_of_eq (zar fun q=>by rw[zbV,ok_some])))
theorem ziK (n:Nat):Int.natAbs (no_index (OfNat.ofNat n))=n:=rfl
end
section
theorem ok_sNext {Q:Fl×R->Prop}:OkQ Q (zbX ρ)=(Q (.next,ρ)):=ok_some
noncomputable def SeqK (b:MS)(Q:Fl×R->Prop)(p:Fl×R):Prop:=OkQ Q (match p.1 with
 | .next=>b p.2
 |f=>some (f,p.2))
theorem zjr {Q:Fl×R->Prop}:SeqK b Q (.next,ρ)=(OkQ Q (b ρ)):=rfl
theorem seqK_ret {Q:Fl×R->Prop}:SeqK b Q (.ret r,ρ)=(Q (.ret r,ρ)):=ok_some
theorem seqK_brk {Q:Fl×R->Prop}:SeqK b Q (.brk,ρ)=(Q (.brk,ρ)):=ok_some
theorem zj5 {Q:Fl×R->Prop}:SeqK b Q (.cont,ρ)=(Q (.cont,ρ)):=ok_some
theorem ok_sSeq {a b:MS}{Q:Fl×R->Prop}:OkQ Q (sSeq a b ρ)=(OkQ (SeqK b Q) (a ρ)):=ok_bind
theorem ok_sExpr {Q:Fl×R->Prop}:OkQ Q (sExpr m ρ)=(OkQ (fun p=>Q (.next,p.2)) (m ρ)):=ok_map
theorem ok_sRet {Q:Fl×R->Prop}:OkQ Q (sRet m ρ)=(OkQ (fun p=>Q (.ret (.val p.1),p.2)) (m ρ)):=ok_map
theorem ok_sRetO {m:MO}{Q:Fl×R->Prop}:OkQ Q (zfC m ρ)=(OkQ (fun p=>Q (.ret (.own p.1),p.2)) (m ρ)):=ok_map
theorem ok_sRetV {Q:Fl×R->Prop}:OkQ Q (zjl i ρ)=OkQ Q (match ρ[i]? with
 |some (.val d)=>some (.ret (.val d),ρ)
 |some (.own ds)=>some (.ret (.own ds),ρ.set i .emp)
 |_=>none):=rfl
theorem ok_gN {Q:R->Prop}:OkQ Q (gN i d ρ)=(Q (ρ.set i (.val d))):=ok_some
theorem ok_gsNil {ds:List D}{ρ:R}{Q:R->Prop}:OkQ Q (zha ds ρ)=OkQ Q (match ds with
 |[]=>some ρ
 |_=>none):=rfl
theorem zjv {Q:R->Prop}:OkQ Q (zb2 g h ds ρ)=OkQ Q (match ds with
 |d::ds=>(g d ρ).bind fun ρ1=>h ds ρ1
 |[]=>none):=rfl
theorem ok_gT {g:List D->R->Option R}{Q:R->Prop}:OkQ Q (gT n g d ρ)=OkQ Q (match d with
 | .tup ds=>if ds.length=n then g ds ρ else none
 |_=>none):=rfl
theorem ok_sSet {Q:Fl×R->Prop}:OkQ Q (sSet i m ρ)=(OkQ (fun p=>Q (.next,p.2.set i (.val p.1))) (m ρ)):=ok_map
theorem ok_sSetO {m:MO}{Q:Fl×R->Prop}:OkQ Q (sSetO i m ρ)=(OkQ (fun p=>Q (.next,p.2.set i (.own p.1))) (m ρ)):=ok_map
theorem ok_sPut {mi me:ME}{Q:Fl×R->Prop}:OkQ Q (sPut j mi me ρ)=OkQ Q ((me ρ).bind fun p=>gd (hasV p.2 j) ((mi p.2).bind fun q=>match q.1 with
 | .int k=>q.2[j]?.bind fun s=>s.items.bind fun ds=>(ixN ds.length k).bind fun n=>some (.next,q.2.set j (s.put (ds.set n p.1)))
 |_=>none)):=rfl
theorem ok_eC {Q:D×R->Prop}:OkQ Q (eC d ρ)=(Q (d,ρ)):=ok_some
noncomputable def eVQ (Q:D×R->Prop)(s:RtS Q)(ρ:R)(i:Nat):Prop:=match s with
 |some (.val d)=>Q (d,ρ)
 |some (.own ds)=>Q (.lst ds,ρ.set i (.val (.lst ds)))
 |_=>False
theorem zeF {Q:D×R->Prop}:eVQ Q (some (.val d)) ρ i=Q (d,ρ):=rfl
theorem eVQ_own {Q:D×R->Prop}:eVQ Q (some (.own ds)) ρ i=Q (.lst ds,ρ.set i (.val (.lst ds))):=rfl
theorem zer {Q:D×R->Prop}:OkQ Q (eVar i ρ)=eVQ Q ρ[i]? ρ i:=by
 unfold eVar eVQ
 cases ρ[i]? with
 |none=>exact ok_none
 |some s=>cases s<;>first|exact ok_some|exact ok_none
noncomputable def Vb (Q:D->D->Prop)(P:Prop)(s:RtS Q)(t:Option Sl):Prop:=match s,t with
 |some (.val x),some (.val y)=>Q x y
 |_,_=>P
theorem Vb_val {Q:D->D->Prop}{P:Prop}{x y:D}:Vb Q P (some (.val x)) (some (.val y))=Q x y:=rfl
theorem Vb_own {Q:D->D->Prop}{P:Prop}:Vb Q P (some (.own xs)) t=P:=rfl
theorem Vb_own2 {Q:D->D->Prop}{P:Prop}:Vb Q P (some (.val x)) (some (.own ys))=P:=rfl
noncomputable def Va (Q:D->Prop)(P:Prop)(s:RtS Q):Prop:=match s with
 |some (.val x)=>Q x
 |_=>P
theorem Va_val {Q:D->Prop}{P:Prop}:Va Q P (some (.val x))=Q x:=rfl
theorem Va_own {Q:D->Prop}{P:Prop}:Va Q P (some (.own xs))=P:=rfl
theorem ok_aNil:OkQ Q (aNil ρ)=(Q ([],ρ)):=ok_some
theorem ok_aCons {r:MA}:OkQ Q (zaj m r ρ)=(OkQ (fun p=>OkQ (fun q=>Q (p.1::q.1,q.2)) (r p.2)) (m ρ)):=ok_bind.trans (zar fun _=>ok_map)
theorem ok_m2 {f:D->D->Option D}{ma mb:ME}{Q:D×R->Prop}:OkQ Q (m2 f ma mb ρ)=(OkQ (fun p=>OkQ (fun q=>OkQ (fun d=>Q (d,q.2)) (f p.1 q.1)) (mb p.2)) (ma ρ)):=ok_bind.trans (zar fun _=>ok_bind.trans (zar fun _=>ok_map))
theorem ok_m2VV {f:D->D->Option D}{a b:Nat}{Q:D×R->Prop}:OkQ Q (m2 f (eVar a) (eVar b) ρ)=Vb (fun x y=>OkQ (fun d=>Q (d,ρ)) (f x y)) (OkQ (fun p=>OkQ (fun q=>OkQ (fun d=>Q (d,q.2)) (f p.1 q.1)) (eVar b p.2)) (eVar a ρ)) ρ[a]? ρ[b]?:=by
 rw[ok_m2,Vb.eq_def]
 split
 ·rename_i x y h1 h2
  rw[zer,h1,zeF,zer,h2,zeF]
 ·rfl
theorem ok_m2VC {f:D->D->Option D}{Q:D×R->Prop}:OkQ Q (m2 f (eVar a) (eC c) ρ)=Va (fun x=>OkQ (fun d=>Q (d,ρ)) (f x c)) (OkQ (fun p=>OkQ (fun d=>Q (d,p.2)) (f p.1 c)) (eVar a ρ)) ρ[a]?:=by
 rw[ok_m2,Va.eq_def,show(fun p:D×R=>OkQ (fun q=>OkQ (fun d=>Q (d,q.2)) (f p.1 q.1)) (eC c p.2))=fun p=>OkQ (fun d=>Q (d,p.2)) (f p.1 c)from funext fun p=>ok_eC]
 split
 ·rename_i x h1
  rw[zer,h1,zeF]
 ·rfl
theorem ok_m2CV {f:D->D->Option D}{Q:D×R->Prop}:OkQ Q (m2 f (eC c) (eVar a) ρ)=Va (fun x=>OkQ (fun d=>Q (d,ρ)) (f c x)) (OkQ (fun p=>OkQ (fun d=>Q (d,p.2)) (f c p.1)) (eVar a ρ)) ρ[a]?:=by
 rw[ok_m2,Va.eq_def,ok_eC]
 split
 ·rename_i x h1
  rw[zer,h1,zeF]
 ·rfl
theorem ok_m1 {f:D->Option D}{ma:ME}{Q:D×R->Prop}:OkQ Q (m1 f ma ρ)=(OkQ (fun p=>OkQ (fun d=>Q (d,p.2)) (f p.1)) (ma ρ)):=ok_bind.trans (zar fun _=>ok_map)
theorem ok_mC {f:List D->Option D}{Q:D×R->Prop}:OkQ Q (mC f ma ρ)=(OkQ (fun p=>OkQ (fun d=>Q (d,p.2)) (f p.1)) (ma ρ)):=ok_bind.trans (zar fun _=>ok_map)
theorem ok_eIxV {mi:ME}{Q:D×R->Prop}:OkQ Q (eIxV j mi ρ)=OkQ Q (gd (hasV ρ j) ((mi ρ).bind fun p=>(p.2[j]?.bind Sl.read).bind fun d=>(dIx d p.1).map fun e=>(e,p.2))):=Eq.trans rfl rfl
noncomputable def ixR (s:Option Sl)(c:D):Option D:=match s with
 |some (.val d)=>dIx d c
 |some (.own ds)=>dIx (.lst ds) c
 |some (.par ds)=>dIx (.lst ds) c
 |_=>none
theorem ixR_val:ixR (some (.val d)) c=dIx d c:=rfl
theorem ixR_own:ixR (some (.own ds)) c=dIx (.lst ds) c:=rfl
theorem ixR_par:ixR (some (.par ds)) c=dIx (.lst ds) c:=rfl
theorem zhQ:(if hasV ρ j then(ρ[j]?.bind Sl.read).bind fun d=>(dIx d c).map fun e=>(e,ρ)else none)=(ixR ρ[j]? c).map fun e=>(e,ρ):=by
 unfold hasV
 cases ρ[j]? with
 |none=>rfl
 |some s=>cases s<;>rfl
theorem ok_eIxC {Q:D×R->Prop}:OkQ Q (eIxV j (eC c) ρ)=OkQ (fun e=>Q (e,ρ)) (ixR ρ[j]? c):=by
 rw[show eIxV j (eC c) ρ=(ixR ρ[j]? c).map fun e=>(e,ρ)from zhQ,ok_map]
theorem ok_eIxE {Q:D×R->Prop}:OkQ Q (eIxV j (eVar i) ρ)=Va (fun c=>OkQ (fun e=>Q (e,ρ)) (ixR ρ[j]? c)) (OkQ Q (gd (hasV ρ j) ((eVar i ρ).bind fun p=>(p.2[j]?.bind Sl.read).bind fun d=>(dIx d p.1).map fun e=>(e,p.2)))) ρ[i]?:=by
 rw[Va.eq_def]
 split
 ·rename_i x h1
  rw[show eIxV j (eVar i) ρ=(ixR ρ[j]? x).map fun e=>(e,ρ) by
   rw[<-zhQ];unfold eIxV;rw[show eVar i ρ=some (x,ρ) by unfold eVar;rw[h1]];rfl,ok_map]
 ·rfl
theorem ok_eLenV {Q:D×R->Prop}:OkQ Q (zbR j ρ)=OkQ Q ((ρ[j]?.bind Sl.read).bind fun d=>(dLen [d]).map fun e=>(e,ρ)):=rfl
theorem ok_oC {f:List D->Option (List D)}:OkQ Q (oC f ma ρ)=(OkQ (fun p=>OkQ (fun d=>Q (d,p.2)) (f p.1)) (ma ρ)):=ok_bind.trans (zar fun _=>ok_map)
theorem ok_eTup {Q:D×R->Prop}:OkQ Q (eTup ma ρ)=(OkQ (fun p=>p.1.length<=16777216/\Q (.tup p.1,p.2)) (ma ρ)):=ok_bind.trans (zar fun _=>by rw[zbV,ok_some])
theorem ok_oLst:OkQ Q (oLst ma ρ)=(OkQ (fun p=>p.1.length<=16777216/\Q (p.1,p.2)) (ma ρ)):=ok_bind.trans (zar fun _=>by rw[zbV,ok_some])
theorem ok_tTru {ma:ME}{Q:Bool×R->Prop}:OkQ Q (tTru ma ρ)=(OkQ (fun p=>OkQ (fun b=>Q (b,p.2)) (dTru p.1)) (ma ρ)):=ok_bind.trans (zar fun _=>ok_map)
theorem ok_tNotM {a:MT}{Q:Bool×R->Prop}:OkQ Q (zgM a ρ)=(OkQ (fun p=>Q (!p.1,p.2)) (a ρ)):=ok_map
theorem ok_eCall {Q:D×R->Prop}:OkQ Q (zda F ma ρ)=OkQ Q ((ma ρ).bind fun p=>(F p.1).bind fun r=>match r with
 | .val d=>some (d,p.2)
 | .own ds=>some (.lst ds,p.2)
 |_=>none):=rfl
theorem ok_oCall:OkQ Q (oCall F ma ρ)=OkQ Q ((ma ρ).bind fun p=>(F p.1).bind fun r=>match r with
 | .own ds=>some (ds,p.2)
 |_=>none):=rfl
theorem zjp {F:List D->List D->Option (Sl×List D)}{Q:D×R->Prop}:OkQ Q (zbJ F j ma ρ)=OkQ Q (gd ((ρ[j]?.bind Sl.items).isSome) ((ma ρ).bind fun p=>p.2[j]?.bind fun s=>s.items.bind fun cs=>(F cs p.1).bind fun r=>match r.1 with
 | .val d=>some (d,p.2.set j (s.put r.2))
 | .own ds=>some (.lst ds,p.2.set j (s.put r.2))
 |_=>none)):=rfl
theorem ok_iR2L:OkQ Q (iR2L ma ρ)=OkQ Q ((ma ρ).bind fun p=>match p.1 with
 |[.int i,.int j]=>some (zbo i (j-i).toNat,p.2)
 |_=>none):=rfl
theorem ok_eFz {m:MO}{Q:D×R->Prop}:OkQ Q (eFz m ρ)=(OkQ (fun p=>Q (.lst p.1,p.2)) (m ρ)):=ok_map
theorem ok_eCut {ma:ME}{ml mh:MP}{Q:D×R->Prop}:OkQ Q (eCut ma ml mh ρ)=OkQ Q ((ma ρ).bind fun p=>(ml p.2).bind fun q=>(mh q.2).bind fun r=>(dCut p.1 q.1 r.1).map fun d=>(d,r.2)):=rfl
theorem ok_pNo {Q:Option Int×R->Prop}:OkQ Q (pNo ρ)=(Q (none,ρ)):=ok_some
theorem ok_pSome {Q:Option Int×R->Prop}:OkQ Q (zen m ρ)=OkQ Q ((m ρ).bind fun p=>match p.1 with
 | .int i=>some (some i,p.2)
 |_=>none):=rfl
theorem ok_iSeq:OkQ Q (iSeq m ρ)=(OkQ (fun p=>OkQ (fun ds=>Q (ds,p.2)) (zaG [p.1])) (m ρ)):=ok_bind.trans (zar fun _=>ok_map)
theorem ok_iR1:OkQ Q (iR1 ma ρ)=OkQ Q ((ma ρ).bind fun p=>match p.1 with
 |[.int j]=>if zbu j then some (zbo 0 j.toNat,p.2)else none
 |_=>none):=rfl
theorem ok_iR2:OkQ Q (iR2 ma ρ)=OkQ Q ((ma ρ).bind fun p=>match p.1 with
 |[.int i,.int j]=>if zbu i&&zbu j then some (zbo i (j-i).toNat,p.2)else none
 |_=>none):=rfl
theorem ok_sFor {mb:MS}{Q:Fl×R->Prop}:OkQ Q (sFor mi g mb ρ)=(OkQ (fun p=>OkQ Q (forM (fun d ρ=>(g d ρ).bind fun ρ'=>mb ρ') p.1 p.2)) (mi ρ)):=ok_bind
theorem ok_oLC {t:Nat}:OkQ Q (oLC cap t mi g mt me ρ)=OkQ Q ((mi ρ).bind fun p=>if p.1.length<=16777216 then(zbN (zis g mt me) p.1 (capR cap t (fzL cap p.2))).map fun q=>(q.1,fzL cap p.2)else none):=rfl
theorem ok_oR {m:MA}:OkQ Q (oR m ρ)=OkQ Q ((m ρ).bind fun p=>if p.1.length<=16777216 then some p else none):=rfl
theorem ok_tTrue {Q:Bool×R->Prop}:OkQ Q (zeo ρ)=(Q (true,ρ)):=ok_some
theorem ok_iR3:OkQ Q (iR3 ma ρ)=OkQ Q ((ma ρ).bind fun p=>match p.1 with
 |[.int i,.int j,.int k]=>if zbu i&&zbu j&&decide (0<k)&&decide (k<1073741824)then some (zfu i k (cntS i j k),p.2)else none
 |_=>none):=rfl
theorem ok_iZ3:OkQ Q (iZ3 ma ρ)=OkQ Q ((ma ρ).bind fun p=>match p.1 with
 |[a,b,c]=>(zaG [a]).bind fun xs=>(zaG [b]).bind fun ys=>(zaG [c]).bind fun zs=>some (zgT xs ys zs,p.2)
 |_=>none):=rfl
theorem ok_iEn:OkQ Q (iEn ma ρ)=OkQ Q ((ma ρ).bind fun p=>(zaG p.1).map fun xs=>(zgy xs,p.2)):=rfl
theorem ok_oLCM {t b w:Nat}:OkQ Q (oLCM cap t b w mi g mt me ρ)=OkQ Q ((mi ρ).bind fun p=>if p.1.length<=16777216 then
    ((fzL (cap.filter (· !=w)) p.2)[w]?).bind fun s=>s.items.bind fun cs=>(zbN (zir b g mt me) p.1 ((capR cap t (fzL (cap.filter (· !=w)) p.2)).set b (.par cs))).map fun q=>(q.1,(fzL (cap.filter (· !=w)) p.2).set w (s.put (zdW b q.2)))
  else none):=rfl
noncomputable def zgn:Nat->List D->R
 |N,[]=>List.replicate N .emp
 |N,d::ds=> .val d::zgn (N-1) ds
theorem ze3 {d:D}:zgn N (d::ds)= .val d::zgn (N-1) ds:=rfl
theorem zjD:zgn N []=List.replicate N .emp:=rfl
theorem zei:∀(N:Nat) (ds:List D),ds.map .val++List.replicate (N-ds.length) .emp=zgn N ds
 |_,[]=>rfl
 |N,d::ds=>by rw[ze3,<-zei (N-1) ds,List.map_cons,List.length_cons,Nat.sub_sub,Nat.add_comm 1];rfl
theorem zjH {α β:Type}{f:α->β}{a:α}{l:List α}:(a::l).map f=f a::l.map f:=rfl
theorem map_nilR {α β:Type}{f:α->β}:[].map f=[]:=rfl
theorem ok_fP {m:MS}{Q:Sl->Prop}:OkQ Q (fP N m ds)=OkQ Q ((m (zgn N ds)).bind fun p=>match p.1 with
 | .ret r=>some r
 | .next=>some (.val .non)
 |_=>none):=by rw[<-zei];rfl
theorem ok_fM {m:MS}{cs:List D}{Q:Sl×List D->Prop}:OkQ Q (fM N m cs ds)=OkQ Q ((m (.par cs::zgn (N-1) ds)).bind fun p=>match p.1,(p.2[0]?:Option Sl)with
 |Fl.ret r,some (Sl.par out)=>some (r,out)
 |Fl.next,some (Sl.par out)=>some (.val .non,out)
 |_,_=>none):=by rw[<-zei,Nat.sub_sub,Nat.add_comm 1];rfl
end
noncomputable def Turn (I:R->Prop)(Q:Fl×R->Prop)(p:Fl×R):Prop:=match p.1 with
 | .next=>I p.2
 | .cont=>I p.2
 | .brk=>Q (.next,p.2)
 | .ret r=>Q (.ret r,p.2)
theorem ziP {Q:Fl×R->Prop}:Turn I Q (.next,ρ)=(I ρ):=rfl
theorem zji {Q:Fl×R->Prop}:Turn I Q (.cont,ρ)=(I ρ):=rfl
theorem turn_brk {Q:Fl×R->Prop}:Turn I Q (.brk,ρ)=(Q (.next,ρ)):=rfl
theorem turn_ret {Q:Fl×R->Prop}:Turn I Q (.ret r,ρ)=(Q (.ret r,ρ)):=rfl
theorem zke {α:Type}{f:D->R->Option (Fl×R)}(enc:α->D){Q:Fl×R->Prop}(I:Nat->R->Prop):∀(l:List α) (b:Nat) (ρ:R),I b ρ->
  (∀i a ρ,l[i]? =some a->I (b+i) ρ->Ok (f (enc a) ρ) (Turn (I (b+i+1)) Q))->(∀ρ,I (b+l.length) ρ->Q (.next,ρ))->Ok (forM f (l.map enc) ρ) Q
 |[],b,ρ,h0,_,hq=>ok_some.mpr (hq ρ h0)
 |a::l,b,ρ,h0,hs,hq=>by
  obtain⟨p,e,t⟩:=hs 0 a ρ rfl h0
  obtain⟨fl,ρ1⟩:=p
  have go:∀ρ1,I (b+1) ρ1->Ok (forM f (l.map enc) ρ1) Q:=fun ρ1 h1=>zke enc I l (b+1) ρ1 h1 (fun i a' ρ' hi hp=>by
   have:=hs (i+1) a' ρ' (by simpa using hi) (by rw[show b+(i+1)=b+1+i by lia];exact hp)
   rw[show b+(i+1)+1=b+1+i+1 by lia]at this
   exact this) (fun ρ h=>hq ρ (by rw[List.length_cons,show b+(l.length+1)=b+1+l.length by lia];exact h))
  have e':forM f ((a::l).map enc) ρ=(f (enc a) ρ).bind fun p=>match p.1 with
   | .next=>forM f (l.map enc) p.2
   | .cont=>forM f (l.map enc) p.2
   | .brk=>some (.next,p.2)
   | .ret r=>some (.ret r,p.2):=rfl
  rw[e',e]
  cases fl with
  |next=>exact go ρ1 t
  |cont=>exact go ρ1 t
  |brk=>exact ok_some.mpr t
  |ret r=>exact ok_some.mpr t
theorem ok_for {α:Type}{f:D->R->Option (Fl×R)}{enc:α->D}{l:List α}{Q:Fl×R->Prop}(I:Nat->R->Prop)(h0:I 0 ρ)
  (hs:∀i a ρ,l[i]? =some a->I i ρ->Ok (f (enc a) ρ) (Turn (I (i+1)) Q)) (hq:∀ρ,I l.length ρ->Q (.next,ρ)):Ok (forM f (l.map enc) ρ) Q:=
 zke enc I l 0 ρ h0 (fun i a ρ hi h=>by rw[Nat.zero_add]at h ⊢;exact hs i a ρ hi h) (fun ρ h=>hq ρ (by rw[Nat.zero_add]at h;exact h))
theorem zf1 {α:Type}(enc:α->D){Q:List D×R->Prop}(I:Nat->List D->R->Prop):∀(l:List α) (b:Nat) (acc:List D) (ρ:R),I b acc ρ->
  (∀i a acc ρ,l[i]? =some a->I (b+i) acc ρ->Ok (f (enc a) ρ) fun p=>I (b+i+1) (acc++p.1.toList) p.2)->(∀ds ρ,I (b+l.length) (acc++ds) ρ->Q (ds,ρ))->Ok (zbN f (l.map enc) ρ) Q
 |[],b,acc,ρ,h0,_,hq=>ok_some.mpr (hq [] ρ (by rw[List.append_nil];exact h0))
 |a::l,b,acc,ρ,h0,hs,hq=>by
  obtain⟨p,e,t⟩:=hs 0 a acc ρ rfl h0
  have go:=zf1 enc (Q:=fun q=>Q (p.1.toList++q.1,q.2)) I l (b+1) (acc++p.1.toList) p.2 t (fun i a' acc' ρ' hi hp=>by
   have:=hs (i+1) a' acc' ρ' (by simpa using hi) (by rw[show b+(i+1)=b+1+i by lia];exact hp)
   rw[show b+(i+1)+1=b+1+i+1 by lia]at this
   exact this) (fun ds ρ h=>hq _ ρ (by rw[List.length_cons,show b+(l.length+1)=b+1+l.length by lia,<-List.append_assoc];exact h))
  have e':zbN f ((a::l).map enc) ρ=(f (enc a) ρ).bind fun p=>(zbN f (l.map enc) p.2).map fun q=>(p.1.toList++q.1,q.2):=rfl
  rw[e',e]
  exact ok_map.mpr go
theorem zhO {α:Type}{enc:α->D}{l:List α}(I:Nat->List D->R->Prop)(h0:I 0 [] ρ)
  (hs:∀i a acc ρ,l[i]? =some a->I i acc ρ->Ok (f (enc a) ρ) fun p=>I (i+1) (acc++p.1.toList) p.2) (hq:∀ds ρ,I l.length ds ρ->Q (ds,ρ)):Ok (zbN f (l.map enc) ρ) Q:=
 zf1 enc I l 0 [] ρ h0 (fun i a acc ρ hi h=>by rw[Nat.zero_add]at h ⊢;exact hs i a acc ρ hi h) (fun ds ρ h=>hq ds ρ (by rw[Nat.zero_add]at h;exact h))
theorem ok_compF {α:Type}{enc:α->D}{l:List α}(P:R->Prop)(g:α->Option D)(h0:P ρ)
  (hs:∀a ρ,a∈l->P ρ->Ok (f (enc a) ρ) fun p=>p.1=g a/\P p.2) (hq:∀ρ,P ρ->Q (l.filterMap g,ρ)):Ok (zbN f (l.map enc) ρ) Q:=
 zhO (fun i ds ρ=>ds=(l.take i).filterMap g/\P ρ) ⟨rfl,h0⟩ (fun i a acc ρ hi ⟨e,p⟩=>by
  refine(hs a ρ (List.mem_of_getElem? hi) p).mono fun r h=>⟨?_,h.2⟩
  obtain⟨h1,h2⟩:=List.getElem?_eq_some_iff.mp hi
  rw[h.1,e,List.take_add_one,hi,List.filterMap_append]
  cases q:g a<;>simp[q]) (fun ds ρ ⟨e,p⟩=>by rw[List.take_length]at e;rw[e];exact hq ρ p)
theorem zkp {α:Type}{enc:α->D}{l:List α}(P:R->Prop)(g:α->D)(h0:P ρ)
  (hs:∀a ρ,a∈l->P ρ->Ok (f (enc a) ρ) fun p=>p.1=some (g a)/\P p.2) (hq:∀ρ,P ρ->Q (l.map g,ρ)):Ok (zbN f (l.map enc) ρ) Q:=
 ok_compF P (fun a=>some (g a)) h0 hs (fun ρ p=>by rw[<-Function.comp_def some g,List.filterMap_eq_map];exact hq ρ p)
theorem dEq_int (i j:Int):dEq (.int i) (.int j)=some (.bl (i==j)):=by
 unfold dEq
 rw[show noS (.int i)=true from rfl,show noS (.int j)=true from rfl,show depth (.int i)=0 from rfl]
 rfl
theorem dNe_int (i j:Int):dNe (.int i) (.int j)=some (.bl (i !=j)):=by
 unfold dNe
 rw[show noS (.int i)=true from rfl,show noS (.int j)=true from rfl,show depth (.int i)=0 from rfl]
 rfl
theorem atI_n {α:Type}(xs:List α)(i:Nat):atI xs (i:Int)=xs[i]?:=by
 unfold atI ixN
 rw[if_pos (by lia)]
 by_cases h:i<xs.length
 ·rw[if_pos (by lia)];simp
 ·rw[if_neg (by lia)];simp[List.getElem?_eq_none (by lia:xs.length<=i)]
theorem atI_lit {α:Type}(xs:List α)(n:Nat):atI xs (no_index (@OfNat.ofNat Int n _))=xs[n]?:=atI_n xs n
theorem atI_n1 {α:Type}(xs:List α)(i:Nat):atI xs ((i:Int)+1)=xs[i+1]?:=atI_n xs (i+1)
theorem ixN_n (n i:Nat):ixN n (i:Int)=if i<n then some i else none:=by
 unfold ixN
 rw[if_pos (by lia)]
 by_cases h:i<n
 ·rw[if_pos (by lia),if_pos h];simp
 ·rw[if_neg (by lia),if_neg h]
theorem ixN_lit (n i:Nat):ixN n (no_index (@OfNat.ofNat Int i _))=if i<n then some i else none:=ixN_n n i
theorem zfl {i j:Int}(h:i.natAbs<18446744073709551616):zgI i j=true:=by
 unfold zgI
 have:decide (i.natAbs<2^64)=true:=decide_eq_true h
 rw[this];rfl
theorem zg3 {i j:Int}(h:j.natAbs<18446744073709551616):zgI i j=true:=by
 unfold zgI
 have:decide (j.natAbs<2^64)=true:=decide_eq_true h
 rw[this];simp
theorem zaI {j:Int}(h1: -1000000000000<=j)(h2:j<=1000000000000):zbu j=true:=by
 unfold zbu;rw[decide_eq_true h1,decide_eq_true h2];rfl
noncomputable def wL (n:Nat)(f:Nat->D):List D:=(List.range n).map f
noncomputable abbrev wI (n:Nat)(f:Nat->Int):List D:=wL n fun i=> .int (f i)
theorem zco (n:Nat)(f:Nat->D):(wL n f).length=n:=by simp[wL]
theorem zbC (f:Nat->D)(h:i<n):(wL n f)[i]? =some (f i):=by simp[wL,h]
theorem wL_succ (n:Nat)(f:Nat->D):wL (n+1) f=wL n f++[f n]:=by simp[wL,List.range_succ]
theorem zhT {f g:Nat->D}(h:∀i,i<n->f i=g i):wL n f=wL n g:=List.map_congr_left fun i hi=>h i (List.mem_range.mp hi)
theorem ziZ (n:Nat)(f:Nat->D)(x:D):wL n f++[x]=wL (n+1) fun j=>if j<n then f j else x:=by
 rw[wL_succ];congr 1
 ·exact zhT fun i hi=>by rw[if_pos hi]
 ·rw[if_neg (by lia)]
theorem zg7 (n:Nat)(f:Nat->D):zgy (wL n f)=wL n fun i=> .tup [.int (i:Nat),f i]:=by
 apply List.ext_getElem?
 intro j
 unfold zgy
 by_cases hj:j<n
 ·rw[List.getElem?_zipWith,zbC _ hj,zbC _ hj]
  simp[zco,hj]
 ·rw[List.getElem?_eq_none (by simp[zco];lia),List.getElem?_eq_none (by simp[zco];lia)]
theorem cut_drop {α:Type}(xs:List α)(i:Nat):cutD xs (some (i:Int)) none=xs.drop i:=by
 unfold cutD
 rw[HT.zeQ,HT.sIx_none]
 by_cases h:i<=xs.length
 ·rw[Nat.min_eq_left h,List.take_of_length_le (by simp)]
 ·rw[Nat.min_eq_right (by lia),List.drop_of_length_le (Nat.le_refl _),List.drop_of_length_le (by lia)];simp
theorem za4:∀(l:List Int),zaM (l.map .int)=some l
 |[]=>rfl
 |i::l=>by simp[zaM,za4 l]
mutual
theorem zhX:∀(d:D),noS d=true->eqB d d=true
 | .non,_=>rfl
 | .bl b,_=>by simp[eqB]
 | .int i,_=>by simp[eqB]
 | .str s,_=>by simp[eqB]
 | .lst ds,h=>by simp only[eqB];exact zew ds (by simpa[noS]using h)
 | .tup ds,h=>by simp only[eqB];exact zew ds (by simpa[noS]using h)
 | .scr _,h=>by simp[noS]at h
 | .exc _,h=>by simp[noS]at h
theorem zew:∀(ds:List D),noSL ds=true->eqBL ds ds=true
 |[],_=>rfl
 |d::ds,h=>by
  simp only[noSL,Bool.and_eq_true]at h
  simp only[eqBL,Bool.and_eq_true]
  exact⟨zhX d h.1,zew ds h.2⟩
end
theorem dNe_same (h:noS d=true)(k:depth d<=50):dNe d d=some (.bl false):=by simp[dNe,h,k,zhX d h]
theorem zjs:∀{ds:List D},(∀d∈ds,noS d=true)->noSL ds=true
 |[],_=>rfl
 |d::ds,h=>by simp only[noSL,Bool.and_eq_true];exact⟨h d List.mem_cons_self,zjs fun e he=>h e (List.mem_cons_of_mem _ he)⟩
theorem zgv {k:Nat}:∀{ds:List D},(∀d∈ds,depth d<=k)->zcY ds<=k
 |[],_=>Nat.zero_le _
 |d::ds,h=>by simp only[zcY];exact Nat.max_le.mpr ⟨h d List.mem_cons_self,zgv fun e he=>h e (List.mem_cons_of_mem _ he)⟩
noncomputable def Pl (k:Nat)(d:D):Prop:=noS d=true/\depth d<=k
theorem zku (k:Nat)(i:Int):Pl k (.int i):=⟨rfl,Nat.zero_le _⟩
theorem zhW {k:Nat}(h:∀d∈ds,Pl k d):Pl (k+1) (.tup ds):=⟨by simp only[noS];exact zjs fun d hd=>(h d hd).1,by simp only[depth];exact Nat.succ_le_succ (zgv fun d hd=>(h d hd).2)⟩
theorem pl_w {k n:Nat}{f:Nat->D}(h:∀i,Pl k (f i)):∀d∈wL n f,Pl k d:=fun d hd=>by
 obtain⟨i,_,rfl⟩:=List.mem_map.mp hd;exact h i
theorem Pl.ne {k:Nat}(h:Pl k d)(l:k<=50):dNe d d=some (.bl false):=dNe_same h.1 (Nat.le_trans h.2 l)
theorem rangeD_w (n:Nat):zbo 0 n=wL n fun i=> .int (i:Nat):=by unfold zbo wL;simp only[Int.zero_add]
theorem zkj (lo:Int)(n:Nat):zbo lo n=wL n fun i=> .int (lo+(i:Nat)):=rfl
section
variable {n:Nat} {e:Nat->D} {ρ:R}
theorem zcb {f:D->R->Option (Fl×R)}{Q:Fl×R->Prop}(I:Nat->R->Prop)(h0:I 0 ρ)
  (hs:∀i ρ,i<n->I i ρ->Ok (f (e i) ρ) (Turn (I (i+1)) Q)) (hq:∀ρ,I n ρ->Q (.next,ρ)):Ok (forM f (wL n e) ρ) Q:=
 ok_for (enc:=e) (l:=List.range n) I h0 (fun i a ρ hi h=>by
  obtain⟨h1,h2⟩:=List.getElem?_eq_some_iff.mp hi
  have:a=i:=by simpa using h2.symm
  subst this
  exact hs a ρ (by simpa using h1) h) (fun ρ h=>hq ρ (by simpa using h))
variable {f:D->R->Option (Option D×R)} {Q:List D×R->Prop}
theorem zgx (I:Nat->List D->R->Prop)(h0:I 0 [] ρ)
  (hs:∀i acc ρ,i<n->I i acc ρ->Ok (f (e i) ρ) fun p=>I (i+1) (acc++p.1.toList) p.2) (hq:∀ds ρ,I n ds ρ->Q (ds,ρ)):Ok (zbN f (wL n e) ρ) Q:=
 zhO (enc:=e) (l:=List.range n) I h0 (fun i a acc ρ hi h=>by
  obtain⟨h1,h2⟩:=List.getElem?_eq_some_iff.mp hi
  have:a=i:=by simpa using h2.symm
  subst this
  exact hs a acc ρ (by simpa using h1) h) (fun ds ρ h=>hq ds ρ (by simpa using h))
theorem zcS (P:R->Prop)(g:Nat->D)(h0:P ρ)
  (hs:∀i ρ,i<n->P ρ->Ok (f (e i) ρ) fun p=>p.1=some (g i)/\P p.2) (hq:∀ρ,P ρ->Q (wL n g,ρ)):Ok (zbN f (wL n e) ρ) Q:=
 zkp (enc:=e) (l:=List.range n) P g h0 (fun a ρ ha hp=>hs a ρ (List.mem_range.mp ha) hp) hq
end
end M
namespace M
theorem wI_snoc (n:Nat)(f:Nat->Int)(x:Int):wI n f++[.int x]=wI (n+1) fun j=>if j<n then f j else x:=by
 rw[wI,ziZ];exact zhT fun j _=>by dsimp only;split<;>rfl
theorem zjR {j:Int}(h0:0<j)(h1:j<2^250):divOk j=true:=by
 have h:j.natAbs.log2<9000:=by
  have:j.natAbs.log2<250:=(Nat.log2_lt (by lia)).mpr (by lia)
  lia
 unfold divOk;rw[decide_eq_true h0,decide_eq_true h];rfl
theorem isN_non:isN .non=true:=rfl
theorem isN_int (i:Int):isN (.int i)=false:=rfl
theorem isN_bl (b:Bool):isN (.bl b)=false:=rfl
theorem isN_str (s:PySem.Str):isN (.str s)=false:=rfl
theorem isN_lst (ds:List D):isN (.lst ds)=false:=rfl
theorem isN_tup (ds:List D):isN (.tup ds)=false:=rfl
end M
namespace M
open L2 PySem
variable {s N j:Nat} {b:Bool} {n i:Int} {Q:Fl×R->Prop} {m:MS} {is cap l ls:List Nat} {t:T} {ds:List D} {ma mb me:ME} {F:List D->Option Sl} {g:D->R->Option R} {mt:MT} {mo:MO} {d:D} {z:Sl×R} {r:R->Option R} {js:List (Option Nat)} {mg:MG}
theorem dItems_l (ds:List D):zaG [.lst ds]=some ds:=rfl
theorem dItems_t (ds:List D):zaG [.tup ds]=some ds:=rfl
theorem dItems_s (ns:List Int):zaG [.scr ns]=some (ns.map .int):=rfl
theorem dLen_l (ds:List D):dLen [.lst ds]=some (.int ds.length):=rfl
theorem dLen_t (ds:List D):dLen [.tup ds]=some (.int ds.length):=rfl
theorem dLen_s (ns:List Int):dLen [.scr ns]=some (.int ns.length):=rfl
theorem dTuple_l (ds:List D):zcn [.lst ds]=some (.tup ds):=rfl
theorem dTuple_t (ds:List D):zcn [.tup ds]=some (.tup ds):=rfl
theorem dTuple_s (ns:List Int):zcn [.scr ns]=some (.tup (ns.map .int)):=rfl
theorem dCut_l (ds:List D)(a b:Option Int):dCut (.lst ds) a b=some (.lst (cutD ds a b)):=rfl
theorem dCut_t (ds:List D)(a b:Option Int):dCut (.tup ds) a b=some (.tup (cutD ds a b)):=rfl
theorem dCut_s (ns:List Int)(a b:Option Int):dCut (.scr ns) a b=some (.lst ((cutD ns a b).map .int)):=rfl
theorem dIx_l (ds:List D)(i:Int):dIx (.lst ds) (.int i)=atI ds i:=rfl
theorem dIx_t (ds:List D)(i:Int):dIx (.tup ds) (.int i)=atI ds i:=rfl
theorem dIx_s (ns:List Int)(i:Int):dIx (.scr ns) (.int i)=(atI ns i).map .int:=rfl
theorem dEq_str (a b:Str):dEq (.str a) (.str b)=some (.bl (a==b)):=by
 unfold dEq
 rw[show noS (.str a)=true from rfl,show noS (.str b)=true from rfl,show depth (.str a)=0 from rfl]
 rfl
theorem zip3D_w (n:Nat)(f g h:Nat->D):zgT (wL n f) (wL n g) (wL n h)=wL n fun i=> .tup [f i,g i,h i]:=by
 apply List.ext_getElem?
 intro j
 unfold zgT
 by_cases hj:j<n
 ·have e:(List.zip (wL n g) (wL n h))[j]? =some (g j,h j):=by
   rw[List.getElem?_zip_eq_some];exact⟨zbC g hj,zbC h hj⟩
  rw[List.getElem?_zipWith,e,zbC _ hj,zbC _ hj]
 ·rw[List.getElem?_eq_none (by simp[zco];lia),List.getElem?_eq_none (by simp[zco];lia)]
structure Sq (d:D) (n:Nat) (f:Nat->Int):Prop where
 it:zaG [d]=some (wI n f)
 ln:dLen [d]=some (.int n)
 tp:zcn [d]=some (.tup (wI n f))
 ix:∀i,dIx d (.int i)=atI (wI n f) i
 ct:∀lo hi,∃d',dCut d lo hi=some d'/\zaG [d']=some (cutD (wI n f) lo hi)
theorem Sq.lst (n:Nat)(f:Nat->Int):Sq (.lst (wI n f)) n f:=⟨rfl,by rw[dLen_l,zco],rfl,fun _=>rfl,fun lo hi=>⟨_,rfl,rfl⟩⟩
theorem Sq.tup (n:Nat)(f:Nat->Int):Sq (.tup (wI n f)) n f:=⟨rfl,by rw[dLen_t,zco],rfl,fun _=>rfl,fun lo hi=>⟨_,rfl,rfl⟩⟩
noncomputable def eqW (s:Nat)(a b:Nat->Int):Bool:=(List.range s).map a==(List.range s).map b
theorem zhD:∀(xs ys:List Int),eqBL (xs.map D.int) (ys.map D.int)=(xs==ys)
 |[],[]=>rfl
 |[],_::_=>rfl
 |_::_,[]=>rfl
 |x::xs,y::ys=>by simp[eqBL,eqB,zhD xs ys]
theorem zfZ (n:Nat)(f:Nat->Int):wI n f=((List.range n).map f).map .int:=by simp[wL,List.map_map,Function.comp_def]
theorem dEq_wt (s:Nat)(a b:Nat->Int):dEq (.tup (wI s a)) (.tup (wI s b))=some (.bl (eqW s a b)):=by
 have p1:Pl 1 (.tup (wI s a)):=zhW (pl_w fun c=>zku 0 _)
 have p2:Pl 1 (.tup (wI s b)):=zhW (pl_w fun c=>zku 0 _)
 unfold dEq
 rw[p1.1,p2.1,decide_eq_true (Nat.le_trans p1.2 (by decide:1<=50))]
 simp only[Bool.and_self,if_true,eqB]
 rw[zfZ,zfZ,zhD];rfl
theorem eqW_iff {a b:Nat->Int}:eqW s a b=true↔∀i,i<s->a i=b i:=by
 unfold eqW
 rw[beq_iff_eq]
 constructor
 ·intro h i hi
  have:=congrArg (fun l=>l[i]?) h
  simpa[hi]using this
 ·intro h
  exact List.map_congr_left fun i hi=>h i (List.mem_range.mp hi)
theorem zkK (n:Nat)(b:Nat->Bool):zci (wL n fun i=> .bl (b i))=some ((List.range n).map b):=by
 have:∀l:List Nat,zci (l.map fun i=>D.bl (b i))=some (l.map b):=by
  intro l
  induction l with
  |nil=>rfl
  |cons a l ih=>simp[zci,ih]
 exact this _
theorem zhl (n:Nat)(f:Nat->Int):zaM (wI n f)=some ((List.range n).map f):=by
 have:wI n f=((List.range n).map f).map .int:=by simp[wL,List.map_map,Function.comp_def]
 rw[this,za4]
theorem cut_w {n a b:Nat}(f:Nat->D)(h:a+b<=n):cutD (wL n f) (some (a:Int)) (some ((a:Int)+(b:Int)))=wL b fun i=>f (a+i):=by
 have e:cutD (wL n f) (some (a:Int)) (some ((a:Int)+(b:Int)))=((wL n f).drop a).take b:=by
  unfold cutD
  rw[HT.zeQ,show((a:Int)+(b:Int))=((a+b:Nat):Int) by lia,HT.zeQ,zco]
  rw[Nat.min_eq_left h,Nat.min_eq_left (by lia:a<=n),Nat.add_sub_cancel_left]
 rw[e]
 apply List.ext_getElem?
 intro j
 by_cases hj:j<b
 ·rw[List.getElem?_take_of_lt hj,List.getElem?_drop,zbC _ (by lia),zbC _ hj]
 ·rw[List.getElem?_eq_none (by simp[zco];lia),List.getElem?_eq_none (by rw[zco];lia)]
theorem like_par (ns:List Int):likeS (.par (ns.map .int)) (.par (ns.map .int))=true:=by
 show(match zaM (ns.map D.int),zaM (ns.map D.int)with
  |some a,some b=>a==b
  |_,_=>false)=true
 rw[za4];exact beq_self_eq_true ns
section
variable {j:Nat} {mk me:ME} {ρ:R}
theorem ok_tDI {neg:Bool}{Q:Bool×R->Prop}:OkQ Q (tDI j neg mk ρ)=(OkQ (fun p=>OkQ Q (match p.1 with
 | .int k=>(p.2[j]?.bind Sl.dic).map fun q=>(((lkD q.1 q.2 k).isSome !=neg),p.2)
 |_=>none)) (mk ρ)):=ok_bind
theorem ok_eDG {Q:D×R->Prop}:OkQ Q (eDG j mk ρ)=OkQ Q (gd ((ρ[j]?.bind Sl.dic).isSome) ((mk ρ).bind fun p=>match p.1 with
 | .int k=>(p.2[j]?.bind Sl.dic).bind fun q=>(lkD q.1 q.2 k).map fun d=>(d,p.2)
 |_=>none)):=rfl
theorem ok_sDP:OkQ Q (sDP j mk me ρ)=OkQ Q ((me ρ).bind fun p=>gd ((p.2[j]?.bind Sl.dic).isSome) ((mk p.2).bind fun q=>match q.1 with
 | .int k=>q.2[j]?.bind fun s=>match s.tree with
  |some (.dic ks ds)=>if ks.length<16777216 then some (.next,q.2.set j (s.putT (.dic (ptD ks ds k p.1).1 (ptD ks ds k p.1).2)))else none
  |_=>none
 |_=>none)):=rfl
theorem ok_sFzD:OkQ Q (sFzD j m ρ)=OkQ Q (m (fzD j ρ)):=rfl
theorem ok_sUnT:OkQ Q (sUnT j is ρ)=OkQ Q (match ρ[j]? with
 |some (.tre (.lst cs))=>if cs.length=is.length then some (.next,putCs is cs (ρ.set j .emp))else none
 |_=>none):=rfl
theorem ok_cOwn {r:MP'}{Q:List Ch×R->Prop}:OkQ Q (cOwn j r ρ)=OkQ Q (match ρ[j]? with
 |some (.own ds)=>(r (ρ.set j .emp)).map fun q=>(.l ds::q.1,q.2)
 |_=>none):=rfl
theorem ok_fMT {cs:List D}{Q:Sl×List D->Prop}:OkQ Q (fMT N m cs t ds)=OkQ Q ((m (.par cs:: .tre t::zgn (N-2) ds)).bind fun p=>match p.1,(p.2[0]?:Option Sl)with
 |Fl.ret r,some (Sl.par out)=>some (r,out)
 |Fl.next,some (Sl.par out)=>some (.val .non,out)
 |_,_=>none):=by rw[<-zei,Nat.sub_sub,Nat.add_comm 2];rfl
theorem ok_sRT:OkQ Q (sRT j ρ)=OkQ Q (match ρ[j]? with
 |some (.tre t)=>some (.ret (.tre t),ρ.set j .emp)
 |_=>none):=rfl
theorem ok_eCutZ {ml mh ms:MP}{Q:D×R->Prop}:OkQ Q (eCutZ ma ml mh ms ρ)=OkQ Q ((ma ρ).bind fun p=>(ml p.2).bind fun q=>(mh q.2).bind fun r=>(ms r.2).bind fun t=>match p.1 with
 | .scr ns=>if t.1=some 0 then none else some (.lst ((zdf ns q.1 r.1 t.1).map .int),t.2)
 |_=>none):=rfl
theorem ok_eCallU {ma:MA}{Q:D×R->Prop}:OkQ Q (eCallU F ma ρ)=OkQ Q ((ma ρ).bind fun p=>(F p.1).bind fun r=>match r with
 | .tre (.tup cs)=>some (.tup (cs.map Ch.D),p.2)
 |_=>none):=rfl
theorem ok_turnT {Q:Option (List D)×R->Prop}:OkQ Q (turnT g mt mo d ρ)=(OkQ (fun ρ1=>OkQ (fun p=>(p.1=true->OkQ (fun q=>zbH q.2=true/\Q (some q.1,q.2)) (mo p.2))/\(p.1=false->zbH p.2=true/\Q (none,p.2))) (mt ρ1)) (g d ρ)):=by
 unfold turnT;rw[ok_bind];exact zar fun ρ1=>by rw[ok_bind];exact zar fun p=>by rw[zf8,ok_bind,zbV,ok_some];congr 1;exact propext (imp_congr Iff.rfl (iff_of_eq (zar fun q=>by rw[zbV,ok_some])))
theorem zjd:OkQ Q (zkh ma mo ρ)=OkQ Q ((ma ρ).bind fun p=>(mo p.2).bind fun r=>some (.ret (.tre (.tup [.d p.1,.l r.1])),r.2)):=rfl
theorem zjK:OkQ Q (zh1 ma mb ρ)=OkQ Q ((ma ρ).bind fun p=>(mb p.2).bind fun r=>some (.ret (.tre (.tup [.d p.1,.d r.1])),r.2)):=rfl
theorem ok_turnQ {b c:Nat}{Q:Option D×R->Prop}:OkQ Q (zie b c g mt me d ρ)=(OkQ (fun ρ1=>OkQ (fun p=>(p.1=true->OkQ (fun q=>zgz b c q.2=true/\Q (some q.1,q.2)) (me p.2))/\(p.1=false->zgz b c p.2=true/\Q (none,p.2))) (mt ρ1)) (g d ρ)):=by
 unfold zie;rw[ok_bind];exact zar fun ρ1=>by rw[ok_bind];exact zar fun p=>by rw[zf8,ok_bind,zbV,ok_some];congr 1;exact propext (imp_congr Iff.rfl (iff_of_eq (zar fun q=>by rw[zbV,ok_some])))
theorem ok_oLC2 {t b w c v:Nat}{mi:MA}{Q:List D×R->Prop}:OkQ Q (oLC2 cap t b w c v mi g mt me ρ)=OkQ Q ((mi ρ).bind fun p=>if p.1.length<=16777216 then
  ((fzL (cap.filter fun i=>i !=w&&i !=v) p.2)[w]?).bind fun s=>s.items.bind fun cs=>((fzL (cap.filter fun i=>i !=w&&i !=v) p.2)[v]?).bind fun s2=>s2.items.bind fun cs2=>
   (zbN (zie b c g mt me) p.1 (((capR cap t (fzL (cap.filter fun i=>i !=w&&i !=v) p.2)).set b (.par cs)).set c (.par cs2))).map fun q=>(q.1,((fzL (cap.filter fun i=>i !=w&&i !=v) p.2).set w (s.put (zdW b q.2))).set v (s2.put (zdW c q.2)))
 else none):=rfl
theorem ok_ePop {Q:D×R->Prop}:OkQ Q (ePop j me ρ)=OkQ Q (gd ((ρ[j]?.bind Sl.items).isSome) ((me ρ).bind fun p=>match p.1 with
 | .int i=>p.2[j]?.bind fun s=>s.items.bind fun ds=>if 0<=i/\i<ds.length/\ds.length<=16777216 then(ds[i.toNat]?).map fun d=>(d,p.2.set j (s.put (ds.eraseIdx i.toNat)))else none
 |_=>none)):=rfl
theorem zkr {f g h:D->D->Option D}{a b c d:ME}{Q:D×R->Prop}:OkQ Q (zfn f g h a b c d ρ)=(OkQ (fun p=>OkQ (fun q=>OkQ (fun t=>∃z,t= .bl z/\(z=true->OkQ (fun r=>OkQ (fun t'=>∃z',t'= .bl z'/\(z'=true->OkQ (fun s=>OkQ (fun x=>Q (x,s.2)) (h r.1 s.1)) (d r.2))/\(z'=false->Q (.bl false,r.2))) (g q.1 r.1)) (c q.2))/\(z=false->Q (.bl false,q.2))) (f p.1 q.1)) (b p.2)) (a ρ)):=by
 unfold zfn
 rw[ok_bind]
 refine zar fun p=>?_
 rw[ok_bind]
 refine zar fun q=>?_
 rw[ok_bind]
 refine zar fun t=>?_
 cases t with
 |bl z=>
  cases z
  ·simp[ok_some]
  ·simp only[D.bl.injEq,exists_eq_left',forall_const,Bool.true_eq_false,false_implies,and_true]
   rw[ok_bind]
   refine zar fun r=>?_
   rw[ok_bind]
   refine zar fun t'=>?_
   cases t' with
   |bl z=>
    cases z
    ·simp[ok_some]
    ·simp only[D.bl.injEq,exists_eq_left',forall_const,Bool.true_eq_false,false_implies,and_true]
     rw[ok_bind]
     exact zar fun s=>ok_map
   |_=>simp[ok_none]
 |_=>simp[ok_none]
theorem zj2:OkQ Q (zjC ma mb mo ρ)=OkQ Q ((ma ρ).bind fun p=>(mb p.2).bind fun q=>(mo q.2).bind fun r=>some (.ret (.tre (.tup [.d p.1,.d q.1,.l r.1])),r.2)):=rfl
theorem ok_oMv {Q:List D×R->Prop}:OkQ Q (oMv j ρ)=OkQ Q (match ρ[j]? with
 |some (.own ds)=>some (ds,ρ.set j .emp)
 |_=>none):=rfl
theorem ckG_nil:ckG [] z=true:=rfl
theorem ckG_cons {a:Nat}:ckG (a::l) z=(flS z.1&&z.2.all flS):=rfl
theorem flS_val:flS (.val d)=flD d:=rfl
theorem flS_own:flS (.own ds)=ds.all flD:=rfl
theorem flS_par:flS (.par ds)=ds.all flD:=rfl
theorem flS_tre:flS (.tre t)=flT t:=rfl
theorem flS_ptr:flS (.ptr t)=flT t:=rfl
theorem flS_emp:flS .emp=true:=rfl
theorem flD_bl:flD (.bl b)=true:=rfl
theorem flD_int:flD (.int i)=true:=rfl
theorem flD_non:flD .non=true:=rfl
theorem flD_str {s:Str}:flD (.str s)=true:=rfl
theorem flT_tup {cs:List Ch}:flT (.tup cs)=cs.all flC:=rfl
theorem flC_d:flC (.d d)=flD d:=rfl
theorem flC_l:flC (.l ds)=ds.all flD:=rfl
theorem flT_bk:flT (bkT n ds)=ds.all flD:=by
 show([("many",Ch.d (.int n)),("kept",Ch.l ds)]:List (Str×Ch)).all (fun f=>flC f.2)=ds.all flD
 simp[flC,flD]
theorem ok_hNil {Q:R×R->Prop}:OkQ Q (hNil ρ)=Q ([],ρ):=ok_some
theorem ok_hVal {m:ME}{r:MG}{Q:R×R->Prop}:OkQ Q (hVal m r ρ)=OkQ Q ((m ρ).bind fun p=>(r p.2).map fun q=>(.val p.1::q.1,q.2)):=rfl
theorem ok_hHand {r:MG}{Q:R×R->Prop}:OkQ Q (zjh j r ρ)=OkQ Q (gd (hasA ρ j) ((r ρ).bind fun q=>(q.2[j]?.bind Sl.hand).map fun s=>(s::q.1,q.2))):=rfl
theorem ok_hSelf {r:MG}{Q:R×R->Prop}:OkQ Q (zdD j r ρ)=OkQ Q (gd ((ρ[j]?.bind Sl.bk).isSome) ((r ρ).bind fun q=>(q.2[j]?.bind Sl.hand).map fun s=>(s::q.1,q.2))):=rfl
theorem zjn {m:R->Option R}{Q:R×R->Prop}:OkQ Q (ze8 m ρ)=OkQ (fun as=>Q (as,ρ)) (m ρ):=ok_map
theorem ok_yNil {Q:R->Prop}:OkQ Q (yNil ρ)=Q []:=ok_some
theorem ok_yLook {Q:R->Prop}:OkQ Q (zfQ j r ρ)=OkQ Q ((r ρ).bind fun as=>(ρ[j]?.bind Sl.look).map fun d=> .val d::as):=rfl
theorem ok_yKept {Q:R->Prop}:OkQ Q (ziv j r ρ)=OkQ Q ((r ρ).bind fun as=>(ρ[j]?.bind Sl.bk).map fun q=> .val (.lst q.2)::as):=rfl
theorem zjL {F:R->Option (Sl×R)}{Q:D×R->Prop}:OkQ Q (zbn F js ls mg ρ)=OkQ (fun q=>OkQ (fun z=>ckG ls z=true/\OkQ Q (match z.1 with
 | .val d=>some (d,zao js z.2 q.2)
 | .own ds=>some (.lst ds,zao js z.2 q.2)
 | .tre (.tup cs)=>some (.tup (cs.map Ch.D),zao js z.2 q.2)
 |_=>none)) (F q.1)) (mg ρ):=by
 unfold zbn;rw[ok_bind];exact zar fun q=>by rw[ok_bind];exact zar fun z=>zbV
theorem ok_sSetG {i:Nat}{F:R->Option (Sl×R)}:OkQ Q (ziH i F js ls mg ρ)=OkQ (fun q=>OkQ (fun z=>ckG ls z=true/\OkQ Q (match z.1 with
 | .val d=>some (.next,(zao js z.2 q.2).set i (.val d))
 | .own ds=>some (.next,(zao js z.2 q.2).set i (.own ds))
 | .tre t=>some (.next,(zao js z.2 q.2).set i (.tre t))
 |_=>none)) (F q.1)) (mg ρ):=by
 unfold ziH;rw[ok_bind];exact zar fun q=>by rw[ok_bind];exact zar fun z=>zbV
theorem zjY {d1:D}{Q:Sl×R->Prop}:OkQ Q (zeb F [.val d1])=OkQ (fun r=>Q (r,[.emp])) (F [d1]):=by
 show OkQ Q ((F [d1]).map fun r=>(r,[.emp]))=_
 exact ok_map
theorem zjG {d1 d2:D}{Q:Sl×R->Prop}:OkQ Q (zeb F [.val d1,.val d2])=OkQ (fun r=>Q (r,[.emp,.emp])) (F [d1,d2]):=by
 show OkQ Q ((F [d1,d2]).map fun r=>(r,[.emp,.emp]))=_
 exact ok_map
theorem zjy {d1 d2 d3:D}{Q:Sl×R->Prop}:OkQ Q (zeb F [.val d1,.val d2,.val d3])=OkQ (fun r=>Q (r,[.emp,.emp,.emp])) (F [d1,d2,d3]):=by
 show OkQ Q ((F [d1,d2,d3]).map fun r=>(r,[.emp,.emp,.emp]))=_
 exact ok_map
theorem zkF {d1 d2 d3 d4:D}{Q:Sl×R->Prop}:OkQ Q (zeb F [.val d1,.val d2,.val d3,.val d4])=OkQ (fun r=>Q (r,[.emp,.emp,.emp,.emp])) (F [d1,d2,d3,d4]):=by
 show OkQ Q ((F [d1,d2,d3,d4]).map fun r=>(r,[.emp,.emp,.emp,.emp]))=_
 exact ok_map
theorem zkJ {d1 d2 d3 d4 d5:D}{Q:Sl×R->Prop}:OkQ Q (zeb F [.val d1,.val d2,.val d3,.val d4,.val d5])=OkQ (fun r=>Q (r,[.emp,.emp,.emp,.emp,.emp])) (F [d1,d2,d3,d4,d5]):=by
 show OkQ Q ((F [d1,d2,d3,d4,d5]).map fun r=>(r,[.emp,.emp,.emp,.emp,.emp]))=_
 exact ok_map
theorem zj6 {d1 d2 d3 d4 d5 d6:D}{Q:Sl×R->Prop}:OkQ Q (zeb F [.val d1,.val d2,.val d3,.val d4,.val d5,.val d6])=OkQ (fun r=>Q (r,[.emp,.emp,.emp,.emp,.emp,.emp])) (F [d1,d2,d3,d4,d5,d6]):=by
 show OkQ Q ((F [d1,d2,d3,d4,d5,d6]).map fun r=>(r,[.emp,.emp,.emp,.emp,.emp,.emp]))=_
 exact ok_map
theorem ok_fG {as:R}{Q:Sl×R->Prop}:OkQ Q (fG N m as)=OkQ (fun p=>OkQ Q (match p.1 with
 | .ret r=>(outS as p.2).map fun o=>(r,o)
 | .next=>(outS as p.2).map fun o=>(.val .non,o)
 |_=>none)) (m (as++List.replicate (N-as.length) .emp)):=ok_bind
theorem ok_eBkN {Q:D×R->Prop}:OkQ Q (eBkN j ρ)=OkQ Q ((ρ[j]?.bind Sl.bk).map fun q=>(.int q.1,ρ)):=rfl
theorem ok_eBkL {Q:D×R->Prop}:OkQ Q (eBkL j ρ)=OkQ Q ((ρ[j]?.bind Sl.bk).map fun q=>(.int q.2.length,ρ)):=rfl
theorem ok_sBkA:OkQ Q (sBkA j me ρ)=OkQ Q ((ρ[j]?.bind Sl.bk).bind fun q=>(me (onlyV ρ)).bind fun p=>if q.2.length<16777216 then(ρ[j]?).map fun s=>(.next,ρ.set j (s.putT (bkT q.1 (q.2++[p.1]))))else none):=rfl
theorem ok_tIsN {Q:Bool×R->Prop}:OkQ Q (tIsN j b ρ)=OkQ Q (match ρ[j]? with
 |some (.val d)=>some (isN d==b,ρ)
 |some (.own _)=>some (!b,ρ)
 |some (.tre (.tup _))=>some (!b,ρ)
 |_=>none):=rfl
theorem ok_sBkM:OkQ Q (sBkM j me ρ)=OkQ Q ((me ρ).bind fun p=>match p.1 with
 | .int n=>some (.next,p.2.set j (.tre (bkT n [])))
 |_=>none):=rfl
theorem ok_sDNk {mk mv:ME}:OkQ Q (sDNk j mk mv ρ)=OkQ Q ((mk ρ).bind fun p=>(mv p.2).bind fun q=>match p.1 with
 | .int k=>some (.next,q.2.set j (.tre (.dic [k] [q.1])))
 |_=>none):=rfl
theorem ok_sBkF {ix iy:Nat}:OkQ Q (sBkF j ix iy me ρ)=OkQ Q ((ρ[j]?.bind Sl.bk).bind fun q=>(forM (fun d ρ=>sSet iy me (ρ.set ix (.val d))) q.2 (ρ.set j .emp)).bind fun p=>match p.1 with
 | .next=>(ρ[j]?).map fun s=>(.next,p.2.set j s)
 |_=>none):=rfl
end
section
theorem ok_tIsB {ρ:R}{Q:Bool×R->Prop}:OkQ Q (tIsB j ρ)=OkQ Q (match ρ[j]? with
 |some (.val d)=>some (isN d,ρ)
 |some (.tre t)=>if t.bk.isSome then some (false,ρ)else none
 |_=>none):=rfl
end
end M
local macro_rules | `(tactic| simp! only [$ls,*]) => `(tactic| simp only [↓M.ok_Q, ↓M.ok_sIf, ↓M.ok_eIf, ↓M.ok_tAnd, ↓M.ok_tOr, ↓M.ok_eAnd, ↓M.ok_eOr, ↓M.ok_chain, ↓M.zkr, ↓M.ok_turnM, ↓M.ok_turnP, ↓M.ok_turnQ, ↓M.ok_bind, ↓M.ok_map, ↓M.ok_gd, ↓M.zbV, ↓M.ok_some, ↓M.ok_sNext, ↓M.ok_sSeq, ↓M.ok_sExpr, ↓M.ok_sRet, ↓M.ok_sRetO, ↓M.ok_sRetV, ↓M.ok_gN, ↓M.ok_gsNil, ↓M.zjv, ↓M.ok_gT, ↓M.ok_sSet, ↓M.ok_sSetO, ↓M.ok_sPut, ↓M.ok_eC, ↓M.zer, ↓M.ok_aNil, ↓M.ok_aCons, M.ok_m2, ↓M.ok_m1, ↓M.ok_mC, M.ok_eIxV, ↓M.ok_eLenV, ↓M.ok_oC, ↓M.ok_eTup, ↓M.ok_oLst, ↓M.ok_tTru, ↓M.ok_tNotM, ↓M.ok_eCall, ↓M.ok_oCall, ↓M.zjp, ↓M.ok_eFz, ↓M.ok_eCut, ↓M.ok_pNo, ↓M.ok_pSome, ↓M.ok_iSeq, ↓M.ok_iR1, ↓M.ok_iR2, ↓M.ok_sFor, ↓M.ok_oLC, ↓M.ok_oR, ↓M.ok_tTrue, ↓M.ok_fP, ↓M.ok_fM, ↓M.ok_iR3, ↓M.ok_iZ3, ↓M.ok_iEn, ↓M.ok_oLCM, ↓M.ok_tDI, ↓M.ok_eDG, ↓M.ok_sDP, ↓M.ok_sFzD, ↓M.ok_fMT, ↓M.ok_sRT, ↓M.ok_eCutZ, ↓M.ok_turnT, ↓M.zjd, ↓M.zjK, ↓M.ok_oLC2, ↓M.ok_ePop, ↓M.zj2, ↓M.ok_oMv, ↓M.ok_hNil, ↓M.ok_hVal, ↓M.ok_hHand, ↓M.ok_hSelf, ↓M.zjn, ↓M.ok_yNil, ↓M.ok_yLook, ↓M.ok_yKept, ↓M.zjL, ↓M.ok_sSetG, ↓M.ok_fG, ↓M.ok_eBkN, ↓M.ok_eBkL, ↓M.ok_sBkA, ↓M.ok_tIsN, ↓M.ok_tIsB, ↓M.ok_sBkM, ↓M.ok_sDNk, ↓M.ok_sBkF, ↓M.ok_eIxC, ↓M.ok_eIxE, ↓M.ok_m2VV, ↓M.ok_m2VC, ↓M.ok_m2CV, ↓M.zjY, ↓M.zjG, ↓M.zjy, ↓M.zkF, ↓M.zkJ, ↓M.zj6, M.dI2, M.dSub, M.dDiv, M.dMod, M.dPow, M.dLt, M.dLe, M.dGe, M.dNeg, M.dMul, M.dAdd, M.dTru, M.Sl.read, M.Sl.items, M.Sl.put, M.hasV, M.zbH, M.fz1, M.fzL, M.capS, M.capR, M.eIsI.noS1, M.okT, M.isI, M.d2I, M.dSum, M.dAll, M.zg8, M.zdW, M.fzD, M.putCs, M.Ch.sl, M.Sl.dic, M.Sl.dit, M.Sl.tree, M.Sl.putT, M.Sl.dit, M.fzT, M.Ch.D, M.fzDT, M.fzU, M.rowsOf, M.zgz, M.Sl.hand, M.Sl.look, M.hasA, M.outS, M.backS, M.zao, M.zez, M.Sl.bk, M.onlyV, M.zjr, M.seqK_ret, M.seqK_brk, M.zj5, M.ziP, M.zji, M.turn_brk, M.turn_ret, List.getElem?_cons_zero, List.getElem?_cons_succ, List.set_cons_zero, List.set_cons_succ, Option.bind_some, Option.isSome_some, Option.map_some, if_true, M.zjH, M.map_nilR, M.ze3, M.zjD, M.ixR_val, M.ixR_own, M.ixR_par, M.zeF, M.eVQ_own, M.Vb_val, M.Vb_own, M.Vb_own2, M.Va_val, M.Va_own, List.replicate_succ, List.replicate_zero, List.length_cons, List.length_nil, List.cons_append, List.nil_append, List.all_cons, List.all_nil, Bool.and_true, Bool.true_and, Bool.and_self, Bool.true_eq_false, Bool.false_eq_true, if_false, M.dEq_int, M.dNe_int, List.length_map, List.length_append, M.atI_n, M.atI_lit, M.ixN_n, M.ixN_lit, M.atI_n1, M.ok_none, M.dItems_l, M.dItems_t, M.dItems_s, M.dLen_l, M.dLen_t, M.dLen_s, M.dTuple_l, M.dTuple_t, M.dTuple_s, M.dCut_l, M.dCut_t, M.dCut_s, M.dIx_l, M.dIx_t, M.dIx_s, M.dEq_str, M.zip3D_w, M.isN_non, M.isN_int, M.isN_bl, M.isN_str, M.isN_lst, M.isN_tup, M.bkT_bk, M.flT_bk, M.ckG_nil, M.ckG_cons, M.flS_val, M.flS_own, M.flS_tre, M.flS_par, M.flS_ptr, M.flS_emp, M.flD_bl, M.flD_int, M.flD_non, M.flD_str, M.flT_tup, M.flC_d, M.flC_l, beq_self_eq_true, Bool.not_true, Bool.not_false, M.za4, Int.toNat_natCast, M.rangeD_w, M.zco, decide_eq_true_eq, Bool.and_eq_true, true_and, and_true, Nat.reduceAdd, Nat.reduceLeDiff, Int.reduceLT, Int.reduceLE, Int.reduceNeg, Nat.reduceSub, Int.reducePow, Int.reduceMul, Int.reduceAdd, Int.reduceSub, Int.reduceMod, Int.reduceDiv, Nat.reduceLT, Nat.reduceBNe, Nat.reduceEqDiff, List.filter_cons, List.filter_nil, bne_self_eq_false, Int.reduceToNat, Nat.reducePow, M.ziK, Int.reduceEq, Int.reduceBEq, Int.reduceBNe, Nat.reduceMod, decide_true, decide_false, beq_iff_eq, beq_eq_false_iff_ne, bne_iff_ne, bne_eq_false_iff_eq, decide_eq_false_iff_not, Int.not_le, Int.not_lt, ne_eq, forall_const, true_implies, false_implies, reduceCtorEq, imp_self, implies_true, M.D.bl.injEq, exists_eq_left', Bool.not_true, Bool.not_false, $ls,*])
namespace Prf
open L2 M PySem
noncomputable def top (i:Nat):Stmt:=PySem.Challenge.pw_tellsum_k84_whole_books_of_a_line.main.body.getD i (.Pass ⟨0,0,0,0⟩)
structure BN (K:W.Frag) (mg:Str->Option Value):Prop where
 bk:BkC K
 all':mg "all"=none
 enumerate':mg "enumerate"=none
 len':mg "len"=none
 list':mg "list"=none
 range':mg "range"=none
 sorted':mg "sorted"=none
 sum':mg "sum"=none
 tuple':mg "tuple"=none
 zip':mg "zip"=none
 c_MOST_PLACES:∃t,mg "MOST_PLACES"=some (.int 24 t)
section
variable {P:Program} {w:World} {K:W.Frag} {mg:Str->Option Value} {base hp:Heap} {f:Addr} {fd:FuncData} (X:K.In hp) (G:hp.Ns mainGlobals mg) (bn:BN K mg)
include X G bn
abbrev zdY:Stmt:=top 6
def zc1:ME:=
 (mC dSum (zaj (eCut (eVar 0) (zen (eVar 2)) (zen (m2 dAdd (eVar 2) (eVar 1)))) aNil))
def zc7:MO:=
 oLC [0,1] 1 (iR1 (zaj (m2 dAdd (m2 dSub (zbR 0) (eVar 1)) (eC (.int 1))) aNil)) (gN 2) zeo zc1
def zdg:MS:=
 (sRet (mC zcn (zaj (eFz zc7) aNil)))
def zaF:List D->Option Sl:=fP 2 zdg
theorem zf6 (h:FnAt K "line_sums" zdY):FD P w K mg base 1 "line_sums" (spP K 2 zaF):=
 fdP (N:=["row","k"]) (k:=0) (m:=zdg) X G h fun _ _ _ _ _ _ _ hr nd=>(zak (zaZ (zec bn.tuple' (zab (SO.se (ziF [0,1] 1 ["row","k","i"] rfl (zbe bn.range' (zab (zaQ (zc2 (zaK 0 bn.len') (zac 1)) zai) zal)) (fun C s H fp=>(zau 2 ndk)) (fun C s H fp=>zca) (fun C s H fp=>(zfa rfl bn.sum' (zab (zhF (zac 0) (zch (zac 2)) (zch (zaQ (zac 2) (zac 1)))) zal))))) zal))))
abbrev zdt:Stmt:=top 9
def zcL:ME:=
 (ze7 dLe dLe (eVar 0) (eVar 1) (eVar 2))
def zcI:MO:=
 oLC [] 3 (iZ3 (zaj (eVar 1) (zaj (eVar 0) (zaj (eVar 2) aNil)))) (gT 3 (zb2 (gN 0) (zb2 (gN 1) (zb2 (gN 2) zha)))) zeo zcL
def zcq:MS:=
 (sRet (mC (dAll fun bs=>bs.all id) (zaj (eFz zcI) aNil)))
def zcH:MS:=
 (sSeq (sIf (tTru (m2 dNe (zbR 0) (zbR 1)))
  (sRet (eC (.bl false)))
  zbX)
  zcq)
def zaO:List D->Option Sl:=fP 3 zcH
theorem zfz (h:FnAt K "row_within" zdt):FD P w K mg base 1 "row_within" (spP K 3 zaO):=
 fdP (N:=["row","least","greatest"]) (k:=0) (m:=zcH) X G h fun _ _ _ _ _ _ _ hr nd=>(zah (zb9 (zgC hr.units (zaK 0 bn.len') (zaK 1 bn.len'))
  (zak (zaZ zgk))
  zaL)
  (zak (zaZ (se_all rfl bn.all' (zab (SO.se (ziF [] 3 ["low","number","high"] rfl (it_zip3 bn.zip' (zab (zac 1) (zab (zac 0) (zab (zac 2) zal)))) (fun C s H fp=>(zf3 rfl (za7 (zau 0 ndk) (za7 (zau 1 ndk) (za7 (zau 2 ndk) zeA))))) (fun C s H fp=>zca) (fun C s H fp=>(zhr zgE zgE zc8 zc8 (zac 0) (zac 1) (zac 2))))) zal)))))
abbrev zcw:Stmt:=top 10
def zbT:MS:=
 (sRet (eAnd (m2 dEq (zbR 0) (eVar 2)) (eAnd (m2 dEq (zbR 1) (eVar 2)) (zda zaO (zaj (eVar 0) (zaj (eVar 0) (zaj (eVar 1) aNil)))))))
def zaY:List D->Option Sl:=fP 3 zbT
theorem zeI (zaT:FD P w K mg base 1 "row_within" (spP K 3 zaO))(h:FnAt K "bounds_right" zcw):FD P w K mg base 2 "bounds_right" (spP K 3 zaY):=
 fdP (N:=["least","greatest","many"]) (k:=1) (m:=zbT) X G h fun _ _ _ _ _ _ _ hr nd=>(zak (zaZ (zfP (zjc hr.units (zaK 0 bn.len') (zac 2)) (zfP (zjc hr.units (zaK 1 bn.len') (zac 2)) (zhp (zbb zaT hr (zab (zac 0) (zab (zac 0) (zab (zac 1) zal))) (hlen:=(zae (zae (zae zaq))))))))))
abbrev ze1:Stmt:=top 11
def zeD:MS:=
 (sRet (ze7 dLe dLe (eC (.int 2)) (eVar 0) (eC (.int 5))))
def zcz:List D->Option Sl:=fP 1 zeD
theorem ziA (h:FnAt K "k_right" ze1):FD P w K mg base 1 "k_right" (spP K 1 zcz):=
 fdP (N:=["k"]) (k:=0) (m:=zeD) X G h fun _ _ _ _ _ _ _ hr nd=>(zak (zaZ (zhr zgE zgE zc8 zc8 zai (zac 0) zai)))
abbrev zbz:Stmt:=top 12
def zbj:MS:=
 (sSeq (sSet 4 (m2 dSub (m2 dAdd (zbR 1) (eVar 0)) (eC (.int 1))))
  (sRet (eAnd (m2 dLe (eVar 4) (eC (.int 24))) (zda zaY (zaj (eVar 2) (zaj (eVar 3) (zaj (eVar 4) aNil)))))))
def za8:MS:=
 (sSeq (sIf (tOrM (zgM (tTru (zda zcz (zaj (eVar 0) aNil)))) (tTru (m2 dEq (zbR 1) (eC (.int 0)))))
  (sRet (eC (.bl false)))
  zbX)
  zbj)
def zaz:List D->Option Sl:=fP 5 za8
theorem zdb (zbD:FD P w K mg base 2 "bounds_right" (spP K 3 zaY))(zdM:FD P w K mg base 1 "k_right" (spP K 1 zcz))(h:FnAt K "line_parts_right" zbz):FD P w K mg base 3 "line_parts_right" (spP K 4 zaz):=
 fdP (N:=["k","sums","least","greatest","many"]) (k:=2) (m:=za8) X G h fun _ _ _ _ _ _ _ hr nd=>(zah (zb9 (STw.st (sw_or (zgr (zeh (zbb zdM hr (zab (zac 0) zal) (hlen:=(zae zaq))))) (zjX (st_eq hr.units (zaK 1 bn.len') zai))))
  (zak (zaZ zgk))
  zaL)
  (zah (zaN 4 (zc2 (zaQ (zaK 1 bn.len') (zac 0)) zai) nd)
  (zak (zaZ (zfP (se_le (zac 4) (se_globE bn.c_MOST_PLACES)) (zhp (zbb zbD hr (zab (zac 2) (zab (zac 3) (zab (zac 4) zal))) (hlen:=(zae (zae (zae zaq)))))))))))
abbrev zd5:Stmt:=top 13
def zc3:MS:=
 (sRet (eTup (zaj (eVar 0) (zaj (mC zcn (zaj (eVar 1) aNil)) (zaj (mC zcn (zaj (eVar 2) aNil)) (zaj (mC zcn (zaj (eVar 3) aNil)) aNil))))))
def zdj:MS:=
 (sSeq (sIf (zgM (tTru (zda zaz (zaj (eVar 0) (zaj (eVar 1) (zaj (eVar 2) (zaj (eVar 3) aNil)))))))
  (fun _=>none)
  zbX)
  zc3)
def zbB:List D->Option Sl:=fP 4 zdj
theorem zf7 (za0:FD P w K mg base 3 "line_parts_right" (spP K 4 zaz))(h:FnAt K "made_line" zd5):FD P w K mg base 4 "made_line" (spP K 4 zbB):=
 fdP (N:=["k","sums","least","greatest"]) (k:=3) (m:=zdj) X G h fun _ _ _ _ _ _ _ hr nd=>(zah (zb9 (zgr (zeh (zbb za0 hr (zab (zac 0) (zab (zac 1) (zab (zac 2) (zab (zac 3) zal)))) (hlen:=(zae (zae (zae (zae zaq))))))))
  (zak zhw)
  zaL)
  (zak (zaZ (zeP (zab (zac 0) (zab (zec bn.tuple' (zab (zac 1) zal)) (zab (zec bn.tuple' (zab (zac 2) zal)) (zab (zec bn.tuple' (zab (zac 3) zal)) zal))))))))
abbrev zdA:Stmt:=top 14
def zcK:MS:=
 (sRet (eAnd (zda zaO (zaj (eVar 1) (zaj (eIxV 0 (eC (.int 2))) (zaj (eIxV 0 (eC (.int 3))) aNil)))) (m2 dEq (zda zaF (zaj (eVar 1) (zaj (eIxV 0 (eC (.int 0))) aNil))) (eIxV 0 (eC (.int 1))))))
def zbh:List D->Option Sl:=fP 2 zcK
theorem zfi (zay:FD P w K mg base 1 "line_sums" (spP K 2 zaF))(zaT:FD P w K mg base 1 "row_within" (spP K 3 zaO))(h:FnAt K "line_holds" zdA):FD P w K mg base 2 "line_holds" (spP K 2 zbh):=
 fdP (N:=["line","row"]) (k:=1) (m:=zcK) X G h fun _ _ _ _ _ _ _ hr nd=>(zak (zaZ (zfP (zbb zaT hr (zab (zac 1) (zab (zaA 0 zai) (zab (zaA 0 zai) zal))) (hlen:=(zae (zae (zae zaq))))) (zhp (zjc hr.units (zbb zay hr (zab (zac 1) (zab (zaA 0 zai) zal)) (hlen:=(zae (zae zaq)))) (zaA 0 zai))))))
abbrev zgw:Stmt:=top 16
def zeG:ME:=
 (eIf (tTru (m2 dEq (eVar 3) (eIxV 0 (eVar 1)))) (eIxV 0 (eVar 2)) (eVar 3))
def zev:MO:=
 oLC [0,2,1] 1 (iSeq (eVar 0)) (gN 3) zeo zeG
def zfG:MS:=
 (zfC zev)
def zdJ:List D->Option Sl:=fP 3 zfG
theorem ziW (h:FnAt K "joined" zgw):FD P w K mg base 1 "joined" (spP K 3 zdJ):=
 fdP (N:=["groups","first","second"]) (k:=0) (m:=zfG) X G h fun _ _ _ _ _ _ _ hr nd=>(zak (zdp (ziF [0,2,1] 1 ["groups","second","first","group"] rfl (zh6 (zac 0)) (fun C s H fp=>(zau 3 ndk)) (fun C s H fp=>zca) (fun C s H fp=>(zhg (st_eq hr.units (zac 3) (zaA 0 (zac 1))) (zaA 0 (zac 2)) (zac 3))))))
abbrev zdZ:Stmt:=top 18
def zaW:MS:=
 (sSeq (sSet 6 (eIxV 5 (eC (.int 0))))
  (sSeq (sSet 7 (m2 dAdd (eIxV 5 (eC (.int 1))) (eC (.int 1))))
  (sIf (zj1 (tDI 2 false (eVar 6)) (tDI 2 true (eVar 7)))
  (sDP 2 (eVar 7) (m2 dAdd (eDG 2 (eVar 6)) (eFz (oLst (zaj (eTup (zaj (eVar 4) (zaj (eC (.int 1)) aNil))) aNil)))))
  (sIf (zj1 (tDI 2 false (eVar 7)) (tDI 2 true (eVar 6)))
  (sDP 2 (eVar 6) (m2 dAdd (eDG 2 (eVar 7)) (eFz (oLst (zaj (eTup (zaj (eVar 4) (zaj (m1 dNeg (eC (.int 1))) aNil))) aNil)))))
  zbX))))
def zc0:MS:=
 sFor (iEn (zaj (eVar 0) aNil)) (gT 2 (zb2 (gN 4) (zb2 (gN 5) zha))) zaW
def zc6:MS:=
 zc0
def zcX:MS:=
 sFor (iR1 (zaj (zbR 0) aNil)) (gN 3) zc6
def zdn:MS:=
 (sSeq (sDNk 2 (eVar 1) (eFz (oLst aNil)))
  (sSeq zcX
  (sFzD 2 (zjl 2))))
def zbG:List D->Option Sl:=fP 8 zdn
theorem zf0 (h:FnAt K "ways_from" zdZ):FD P w K mg base 1 "ways_from" (spP K 2 zbG):=
 fdP (N:=["kept","start","ways","turn","number","stretch","ahead","behind"]) (k:=0) (m:=zdn) X G h fun _ _ _ _ _ _ _ hr nd=>(zah (ss_dNk 2 (zac 1) (SO.se (zd6 zal)) nd)
  (zah (zd7 PassesOwn.never rfl (zbe bn.range' (zab (zaK 0 bn.len') zal)) (zau 3 nd)
  (zak (zd7 PassesOwn.never rfl (zb6 bn.enumerate' (zab (zac 0) zal)) (zf3 rfl (za7 (zau 4 nd) (za7 (zau 5 nd) zeA)))
  (zah (zaN 6 (zaA 5 zai) nd)
  (zah (zaN 7 (zaQ (zaA 5 zai) zai) nd)
  (zak (zb9 (STw.st (sw_and (st_dIn 2 hr.units (zac 6)) (zkM (zeN 2 hr.units (zac 7)))))
  (zak (zi4 2 hr.units (zaQ (zgH 2 hr.units (zac 6)) (SO.se (zd6 (zab (zeP (zab (zac 4) (zab zai zal))) zal)))) (zac 7)))
  (zak (zb9 (STw.st (sw_and (st_dIn 2 hr.units (zac 7)) (zkM (zeN 2 hr.units (zac 6)))))
  (zak (zi4 2 hr.units (zaQ (zgH 2 hr.units (zac 7)) (SO.se (zd6 (zab (zeP (zab (zac 4) (zab (se_neg zai) zal))) zal)))) (zac 6)))
  zaL)))))))))
  (zak (ss_fzD 2 (zj8 2)))))
abbrev zd9:Stmt:=top 19
def zbS:MS:=
 (zfC (oC dSrt (zaj (eDG 3 (m2 dAdd (eVar 2) (eC (.int 1)))) aNil)))
def zde:MS:=
 (sSeq (sSet 3 (zda zbG (zaj (eVar 0) (zaj (eVar 1) aNil))))
  (sSeq (sIf (tDI 3 true (m2 dAdd (eVar 2) (eC (.int 1))))
  (sRet (eC .non))
  zbX)
  zbS))
def za1:List D->Option Sl:=fP 4 zde
theorem zgm (zcy:FD P w K mg base 1 "ways_from" (spP K 2 zbG))(h:FnAt K "signs_for" zd9):FD P w K mg base 2 "signs_for" (spP K 3 za1):=
 fdP (N:=["kept","a","b","ways"]) (k:=1) (m:=zde) X G h fun _ _ _ _ _ _ _ hr nd=>(zah (zaN 3 (zbb zcy hr (zab (zac 0) (zab (zac 1) zal)) (hlen:=(zae (zae zaq)))) nd)
  (zah (zb9 (zeN 3 hr.units (zaQ (zac 2) zai))
  (zak (zaZ zhn))
  zaL)
  (zak (zdp (zj0 bn.sorted' (zab (zgH 3 hr.units (zaQ (zac 2) zai)) zal))))))
abbrev zc4:Stmt:=top 20
def zcm:ME:=
 (m2 dMul (m2 dIx (eIxV 0 (eVar 1)) (eC (.int 2))) (eVar 2))
def zcl:MO:=
 oLC [0] 2 (iSeq (eVar 1)) (gT 2 (zb2 (gN 1) (zb2 (gN 2) zha))) zeo zcm
def zcc:MS:=
 (sRet (mC dSum (zaj (eFz zcl) aNil)))
def zaD:List D->Option Sl:=fP 2 zcc
theorem zeW (h:FnAt K "signs_total" zc4):FD P w K mg base 1 "signs_total" (spP K 2 zaD):=
 fdP (N:=["kept","signs"]) (k:=0) (m:=zcc) X G h fun _ _ _ _ _ _ _ hr nd=>(zak (zaZ (zfa rfl bn.sum' (zab (SO.se (ziF [0] 2 ["kept","number","sign"] rfl (zh6 (zac 1)) (fun C s H fp=>(zf3 rfl (za7 (zau 1 ndk) (za7 (zau 2 ndk) zeA)))) (fun C s H fp=>zca) (fun C s H fp=>(zcZ (zfy (zaA 0 (zac 1)) zai) (zac 2))))) zal))))
abbrev zaC:Stmt:=zce (top 21) 1
def za2:MS:=
 (sIf (zgM (tTru (zfn dLe dLe dLt (eC (.int 0)) (eVar 1) (eVar 2) (eBkN 0))))
  (fun _=>none)
  zbX)
def zat:R->Option (Sl×R):=fG 3 za2
theorem zcW (h:MAt K "refuse_no_stretch" "SumBook.refuse_no_stretch" zaC):MD P w K mg base 1 "refuse_no_stretch" (spG K 3 zat):=
 mdG (N:=["self","a","b"]) (k:=0) (m:=za2) h fun _ _ _ _ _ _ _ hr nd=>(zak (zb9 (zgr (zi9 zgE zgE op_lt zc8 zc8 zc8 ziS zai (zac 1) (zac 2) (zkq 0 bn.bk)))
  (zak zhw)
  zaL))
abbrev zcg:Stmt:=zce (top 21) 2
def zdy:MS:=
 (zkh (eIf (tTru (m2 dEq (zbn (zeb zaD) [none,none] [0,4] (ze8 (ziv 0 (zfQ 4 yNil)))) (eVar 3))) (eC (.str "known")) (eC (.str "clash"))) (oMv 4))
def zdU:MS:=
 (sSeq (sExpr (zbn zat [some 0, none, none] [] (zdD 0 (hVal (eVar 1) (hVal (eVar 2) hNil)))))
  (sSeq (ziH 4 (zeb za1) [none, none, none] [0, 1, 2] (ze8 (ziv 0 (zfQ 1 (zfQ 2 yNil)))))
  (sSeq (sIf (tIsN 4 true)
  (sSeq (sBkA 0 (eTup (zaj (eVar 1) (zaj (eVar 2) (zaj (eVar 3) aNil)))))
  (zh1 (eC (.str "new")) (m2 dSub (eBkL 0) (eC (.int 1)))))
  zbX)
  zdy)))
def zba:R->Option (Sl×R):=fG 5 zdU
theorem zgQ (md_refuse_no_stretch:MD P w K mg base 1 "refuse_no_stretch" (spG K 3 zat))(za5:FD P w K mg base 2 "signs_for" (spP K 3 za1))(zaJ:FD P w K mg base 1 "signs_total" (spP K 2 zaD))(h:MAt K "tell_sum" "SumBook.tell_sum" zcg):MD P w K mg base 3 "tell_sum" (spG K 4 zba):=
 mdG (N:=["self","a","b","total","signs"]) (k:=2) (m:=zdU) h fun _ _ _ _ _ _ _ hr nd=>(zah (ziV (zdv 0 md_refuse_no_stretch zby hr (zbt (zac 1) (zbt (zac 2) zex))))
  (zah (zgS 4 za5 (fun _ _ _ _ => zhR) zcV hr (SGS.ga (zfH 0 bn.bk (zdO 1 (zdO 2 zhm)))) nd)
  (zah (zb9 (st_isN 4)
  (zah (ss_bkA 0 bn.bk (zeP (zab (zac 1) (zab (zac 2) (zab (zac 3) zal)))))
  (zak (zhH zdw (zc2 (se_bkL 0 bn.bk bn.len') zai))))
  zaL)
  (zak (ss_retUl (zhg (st_eq hr.units (zfp zaJ (fun _ _ _ _=>zhR) zcV hr (SGS.ga (zfH 0 bn.bk (zdO 4 zhm)))) (zac 3)) zdw zdw) (so_mv 4))))))
abbrev zcQ:Stmt:=zce (top 21) 3
def zdX:MS:=
 (zjC (eC (.str "sum")) (zbn (zeb zaD) [none,none] [0,3] (ze8 (ziv 0 (zfQ 3 yNil)))) (oMv 3))
def zeS:MS:=
 (sSeq (sExpr (zbn zat [some 0, none, none] [] (zdD 0 (hVal (eVar 1) (hVal (eVar 2) hNil)))))
  (sSeq (ziH 3 (zeb za1) [none, none, none] [0, 1, 2] (ze8 (ziv 0 (zfQ 1 (zfQ 2 yNil)))))
  (sSeq (sIf (tIsN 3 true)
  (zh1 (eC (.str "free")) (eC .non))
  zbX)
  zdX)))
def zcF:R->Option (Sl×R):=fG 4 zeS
theorem zig (md_refuse_no_stretch:MD P w K mg base 1 "refuse_no_stretch" (spG K 3 zat))(za5:FD P w K mg base 2 "signs_for" (spP K 3 za1))(zaJ:FD P w K mg base 1 "signs_total" (spP K 2 zaD))(h:MAt K "ask_sum" "SumBook.ask_sum" zcQ):MD P w K mg base 3 "ask_sum" (spG K 3 zcF):=
 mdG (N:=["self","a","b","signs"]) (k:=2) (m:=zeS) h fun _ _ _ _ _ _ _ hr nd=>(zah (ziV (zdv 0 md_refuse_no_stretch zby hr (zbt (zac 1) (zbt (zac 2) zex))))
  (zah (zgS 3 za5 (fun _ _ _ _ => zhR) zcV hr (SGS.ga (zfH 0 bn.bk (zdO 1 (zdO 2 zhm)))) nd)
  (zah (zb9 (st_isN 3)
  (zak (zhH zdw zhn))
  zaL)
  (zak (ss_retU3 zdw (zfp zaJ (fun _ _ _ _=>zhR) zcV hr (SGS.ga (zfH 0 bn.bk (zdO 3 zhm)))) (so_mv 3))))))
abbrev zb8:Stmt:=zce (top 21) 4
def zdQ:MS:=
 (sRet (m2 dSub (eBkN 0) (eBkL 0)))
def zbc:R->Option (Sl×R):=fG 1 zdQ
theorem zgY (h:MAt K "can_come" "SumBook.can_come" zb8):MD P w K mg base 1 "can_come" (spG K 1 zbc):=
 mdG (N:=["self"]) (k:=0) (m:=zdQ) h fun _ _ _ _ _ _ _ hr nd=>(zak (zaZ (zc2 (zkq 0 bn.bk) (se_bkL 0 bn.bk bn.len'))))
abbrev zbv:Stmt:=zce (top 21) 5
def zcC:ME:=
 (zda zdJ (zaj (eVar 1) (zaj (eIxV 2 (eC (.int 0))) (zaj (m2 dAdd (eIxV 2 (eC (.int 1))) (eC (.int 1))) aNil))))
def zcu:ME:=
 (m2 dCntI (eCut (eVar 0) (zen (m2 dAdd (eVar 1) (eC (.int 1)))) pNo) (eVar 2))
def zct:MO:=
 oLC [1] 2 (iEn (zaj (eVar 1) aNil)) (gT 2 (zb2 (gN 1) (zb2 (gN 2) zha))) zeo zcu
def zcM:MS:=
 (sSeq (sSet 1 (eFz (oR (iR1 (zaj (m2 dAdd (eBkN 0) (eC (.int 1))) aNil)))))
  (sSeq (sBkF 0 2 1 zcC)
  (sRet (mC dSum (zaj (eFz zct) aNil)))))
def zaR:R->Option (Sl×R):=fG 3 zcM
theorem zfj (zeK:FD P w K mg base 1 "joined" (spP K 3 zdJ))(h:MAt K "known_many" "SumBook.known_many" zbv):MD P w K mg base 2 "known_many" (spG K 1 zaR):=
 mdG (N:=["self","groups","stretch"]) (k:=1) (m:=zcM) h fun _ _ _ _ _ _ _ hr nd=>(zah (zaN 1 (SO.se (zgq bn.list' bn.range' (zab (zaQ (zkq 0 bn.bk) zai) zal))) nd)
  (zah (ss_bkF 0 2 1 bn.bk (zbb zeK hr (zab (zac 1) (zab (zaA 2 zai) (zab (zaQ (zaA 2 zai) zai) zal))) (hlen := (zae (zae (zae zaq))))) nd PassesOwn.never)
  (zak (zaZ (zfa rfl bn.sum' (zab (SO.se (ziF [1] 2 ["groups","cut","group"] rfl (zb6 bn.enumerate' (zab (zac 1) zal)) (fun C s H fp=>(zf3 rfl (za7 (zau 1 ndk) (za7 (zau 2 ndk) zeA)))) (fun C s H fp=>zca) (fun C s H fp=>(se_cntI (zhF (zac 0) (zch (zaQ (zac 1) zai)) zkg) (zac 2))))) zal))))))
abbrev zd8:Stmt:=top 23
def zc9:MS:=
 (sSeq (sSet 3 (m2 dMod (m2 dAdd (m2 dMul (eVar 3) (eC (.int 48271))) (eC (.int 12345))) (eC (.int 2147483647))))
  (sSet 4 (m2 dAdd (m2 dMul (eVar 4) (eC (.int 16777216))) (m2 dMod (m2 dDiv (m2 dMod (m2 dMul (eVar 3) (eVar 3)) (eC (.int 2147483629))) (eC (.int 64))) (eC (.int 16777216))))))
def zbL:MS:=
 sFor (iR1 (zaj (eC (.int 40)) aNil)) (gN 5) zc9
def zc5:MS:=
 (sSeq (sSet 3 (m2 dAdd (m2 dAdd (m2 dMod (eVar 2) (eC (.int 2147483629))) (m2 dMul (eC (.int 7919)) (eVar 1))) (eC (.int 1))))
  (sSeq (sSet 4 (eC (.int 0)))
  (sSeq zbL
  (zfC (oLst (zaj (eVar 4) aNil))))))
def zbP:MS:=
 (sSeq (sIf (tTru (m2 dGe (eVar 2) (m2 dPow (eC (.int 10)) (eC (.int 18)))))
  (zfC (oLst (zaj (m2 dSub (eVar 2) (m2 dPow (eC (.int 10)) (eC (.int 18)))) aNil)))
  zbX)
  zc5)
def zdl:MS:=
 (sSeq (sSet 2 (eC (.int 0)))
  (sSeq (sIf (tTru (m2 dLt (eVar 1) (zbR 0)))
  (sSet 2 (m2 dMod (eIxV 0 (eVar 1)) (m2 dMul (m2 dMul (m2 dMul (m2 dPow (eC (.int 10)) (eC (.int 60))) (m2 dPow (eC (.int 10)) (eC (.int 60)))) (m2 dPow (eC (.int 10)) (eC (.int 60)))) (m2 dPow (eC (.int 10)) (eC (.int 60))))))
  zbX)
  zbP))
def zbx:List D->Option Sl:=fP 6 zdl
theorem zgh (h:FnAt K "_law_deal" zd8):FD P w K mg base 1 "_law_deal" (spP K 2 zbx):=
 fdP (N:=["script","k","cell","seed","number","turn"]) (k:=0) (m:=zdl) X G h fun _ _ _ _ _ _ _ hr nd=>(zah (zaN 2 zai nd)
  (zah (zb9 (st_lt (zac 1) (zaK 0 bn.len'))
  (zak (zaN 2 (zeT (zaA 0 (zac 1)) (zcZ (zcZ (zcZ (zd4 zai zai) (zd4 zai zai)) (zd4 zai zai)) (zd4 zai zai))) nd))
  zaL)
  (zah (zb9 (st_ge (zac 2) (zd4 zai zai))
  (zak (zdp (zd6 (zab (zc2 (zac 2) (zd4 zai zai)) zal))))
  zaL)
  (zah (zaN 3 (zaQ (zaQ (zeT (zac 2) zai) (zcZ zai (zac 1))) zai) nd)
  (zah (zaN 4 zai nd)
  (zah (zd7 PassesOwn.never rfl (zbe bn.range' (zab zai zal)) (zau 5 nd)
  (zah (zaN 3 (zeT (zaQ (zcZ (zac 3) zai) zai) zai) nd)
  (zak (zaN 4 (zaQ (zcZ (zac 4) zai) (zeT (zhz (zeT (zcZ (zac 3) (zac 3)) zai) zai) zai)) nd))))
  (zak (zdp (zd6 (zab (zac 4) zal))))))))))
abbrev zd1:Stmt:=top 24
def zdo:MS:=
 (sSeq (sSet 2 (m2 dMod (eIxV 0 (eC (.int 0))) (eVar 1)))
  (sSeq (sPut 0 (eC (.int 0)) (m2 dDiv (eIxV 0 (eC (.int 0))) (eVar 1)))
  (zjl 2)))
def zas:List D->List D->Option (Sl×List D):=fM 3 zdo
theorem zfV (h:FnAt K "_law_take" zd1):FD P w K mg base 1 "_law_take" (spM K 2 zas):=
 fdM (N:=["pot","many","digit"]) (k:=0) (m:=zdo) X G h fun _ _ _ _ _ _ _ hr nd=>(zah (zaN 2 (zeT (zaA 0 zai) (zac 1)) nd)
  (zah (ss_put 0 (zhz (zaA 0 zai) (zac 1)) zai)
  (zak (zj8 2))))
abbrev zeM:Stmt:=top 25
def zdN:MS:=
 (zfC (oLst (zaj (mC dSum (zaj (eCutZ (eVar 0) pNo pNo (zen (eC (.int 2)))) aNil)) (zaj (mC dSum (zaj (eCutZ (eVar 0) (zen (eC (.int 1))) pNo (zen (eC (.int 2)))) aNil)) aNil))))
def zb4:List D->Option Sl:=fP 1 zdN
theorem zgO (h:FnAt K "_law_two" zeM):FD P w K mg base 1 "_law_two" (spP K 1 zb4):=
 fdP (N:=["script"]) (k:=0) (m:=zdN) X G h fun _ _ _ _ _ _ _ hr nd=>(zak (zdp (zd6 (zab (zfa rfl bn.sum' (zab (zjQ (zac 0) zkg zkg (zch zai)) zal)) (zab (zfa rfl bn.sum' (zab (zjQ (zac 0) (zch zai) zkg (zch zai)) zal)) zal)))))
abbrev zcp:Stmt:=top 26
def zbK:ME:=
 (m2 dAdd (m2 dMul (eVar 0) (m2 dSub (zbJ zas 1 (zaj (eC (.int 19)) aNil)) (eC (.int 9)))) (zbJ zas 1 (zaj (eC (.int 3)) aNil)))
def zbI:MO:=
 oLCM [2,0] 1 1 0 (iR1 (zaj (eVar 1) aNil)) (gN 2) zeo zbK
def zbw:MS:=
 (sSeq (sSet 2 (m2 dIx (eFz (oLst (zaj (eC (.int 1)) (zaj (eC (.int 1)) (zaj (m2 dPow (eC (.int 10)) (eC (.int 57))) aNil))))) (zbJ zas 0 (zaj (eC (.int 3)) aNil))))
  (zfC zbI))
def zaP:List D->List D->Option (Sl×List D):=fM 3 zbw
theorem zea (zap:FD P w K mg base 1 "_law_take" (spM K 2 zas))(h:FnAt K "_law_row_told" zcp):FD P w K mg base 2 "_law_row_told" (spM K 2 zaP):=
 fdM (N:=["pot","many","great"]) (k:=1) (m:=zbw) X G h fun _ _ _ _ _ _ _ hr nd=>(zah (zaN 2 (zfy (SO.se (zd6 (zab zai (zab zai (zab (zd4 zai zai) zal))))) (za6 0 zap hr (zab zai zal) (zek (zae zaq)))) nd)
  (zak (zdp (so_lcM [2,0] 1 1 0 ["great","pot","place"] rfl (zbe bn.range' (zab (zac 1) zal)) (fun C s H fp=>(zau 2 ndk)) (fun C s H fp=>zca) (fun C s H fp=>(zaQ (zcZ (zac 0) (zc2 (za6 1 zap hr (zab zai zal) (zek (zae zaq))) zai)) (za6 1 zap hr (zab zai zal) (zek (zae zaq)))))))))
abbrev zdz:Stmt:=top 27
def zcr:ME:=
 (ePop 0 (zbJ zas 1 (zaj (zbR 0) aNil)))
def zcA:MO:=
 oLC2 [2,0] 1 1 0 0 2 (iR1 (zaj (eVar 1) aNil)) (gN 2) zeo zcr
def zcE:MS:=
 (sSeq (sSetO 2 (oR (iR1 (zaj (eVar 1) aNil))))
  (zfC zcA))
def zbi:List D->List D->Option (Sl×List D):=fM 3 zcE
theorem zfF (zap:FD P w K mg base 1 "_law_take" (spM K 2 zas))(h:FnAt K "_law_order" zdz):FD P w K mg base 2 "_law_order" (spM K 2 zbi):=
 fdM (N:=["pot","many","left"]) (k:=1) (m:=zcE) X G h fun _ _ _ _ _ _ _ hr nd=>(zah (zkH 2 (zgq bn.list' bn.range' (zab (zac 1) zal)) nd)
  (zak (zdp (so_lc2 [2,0] 1 1 0 0 2 ["left","pot","turn"] rfl (zbe bn.range' (zab (zac 1) zal)) (fun C s H fp=>(zau 2 ndk)) (fun C s H fp=>zca) (fun C s H fp=>(se_pop 0 (za6 1 zap hr (zab (zaK 0 bn.len') zal) (zek (zae zaq)))))))))
abbrev zcv:Stmt:=top 28
def zbW:MS:=
 (sIf (tTru (m2 dNe (zbn zba [some 3, none, none, none] [] (zdD 3 (hVal (eVar 6) (hVal (m2 dSub (m2 dAdd (eVar 6) (eVar 2)) (eC (.int 1))) (hVal (eIxV 4 (eVar 6)) hNil))))) (eTup (zaj (eC (.str "new")) (zaj (eVar 5) aNil)))))
  (sRet (eC .non))
  zbX)
def zb3:MS:=
 sFor (iEn (zaj (zbJ zbi 0 (zaj (zbR 4) aNil)) aNil)) (gT 2 (zb2 (gN 5) (zb2 (gN 6) zha))) zbW
def zbO:MS:=
 (sSeq (sBkM 3 (zbR 1))
  (sSeq (sSet 4 (zda zaF (zaj (eVar 1) (zaj (eVar 2) aNil))))
  (sSeq zb3
  (sRT 3))))
def zaX:R->Option (Sl×R):=fG 7 zbO
theorem zeB (bm:BkM P w K mg base 1)(zcf:FD P w K mg base 2 "_law_order" (spM K 2 zbi))(zay:FD P w K mg base 1 "line_sums" (spP K 2 zaF))(md_tell_sum:MD P w K mg base 3 "tell_sum" (spG K 4 zba))(h:FnAt K "_law_book_of" zcv):FD P w K mg base 4 "_law_book_of" (spG K 3 zaX):=
 fdG (N:=["pot","row","k","book","sums","number","at"]) (k:=3) (m:=zbO) X G h fun _ _ _ _ _ _ _ hr nd=>(zah (ss_bkM 3 bm hr (zaK 1 bn.len') nd)
  (zah (zaN 4 (zbb zay hr (zab (zac 1) (zab (zac 2) zal)) (hlen := (zae (zae zaq)))) nd)
  (zah (zd7 PassesOwn.never rfl (zb6 bn.enumerate' (zab (za6 0 zcf hr (zab (zaK 4 bn.len') zal) (zek (zae zaq))) zal)) (zf3 rfl (za7 (zau 5 nd) (za7 (zau 6 nd) zeA)))
  (zak (zb9 (zgC hr.units (zdv 3 md_tell_sum zby hr (zbt (zac 6) (zbt (zc2 (zaQ (zac 6) (zac 2)) zai) (zbt (zaA 4 (zac 6)) zex)))) (zeP (zab zdw (zab (zac 5) zal))))
  (zak (zaZ zhn))
  zaL)))
  (zak (ss_retT 3)))))
abbrev zbA:Stmt:=top 29
def zaS:MS:=
 (sIf (tTru (m2 dNe (eCut (zbn zcF [some 0, none, none] [] (zdD 0 (hVal (eVar 4) (hVal (eVar 5) hNil)))) pNo (zen (eC (.int 2)))) (eVar 6)))
  (sRet (eC (.bl false)))
  zbX)
def zbl:MS:=
 (sSeq (sSet 6 (eTup (zaj (eC (.str "free")) (zaj (eC .non) aNil))))
  (sSeq (sIf (tTru (m2 dEq (m2 dMod (m2 dSub (m2 dAdd (eVar 5) (eC (.int 1))) (eVar 4)) (eVar 2)) (eC (.int 0))))
  (sSeq (sSet 6 (eTup (zaj (eC (.str "sum")) (zaj (mC dSum (zaj (eCut (eVar 1) (zen (eVar 4)) (zen (m2 dAdd (eVar 5) (eC (.int 1))))) aNil)) aNil))))
  (sSet 3 (m2 dAdd (eVar 3) (eC (.int 1)))))
  zbX)
  zaS))
def zbk:MS:=
 sFor (iR2 (zaj (eVar 4) (zaj (zbR 1) aNil))) (gN 5) zbl
def zbf:MS:=
 zbk
def zbp:MS:=
 sFor (iR1 (zaj (zbR 1) aNil)) (gN 4) zbf
def za9:MS:=
 (sSeq (sSet 3 (eC (.int 0)))
  (sSeq zbp
  (sRet (eAnd (m2 dEq (zbn zaR [some 0] [] (zdD 0 hNil)) (eVar 3)) (m2 dEq (zbn zbc [some 0] [] (zdD 0 hNil)) (m2 dSub (eVar 2) (eC (.int 1))))))))
def zaw:R->Option (Sl×R):=fG 7 za9
theorem zdk (md_ask_sum:MD P w K mg base 3 "ask_sum" (spG K 3 zcF))(md_can_come:MD P w K mg base 1 "can_come" (spG K 1 zbc))(md_known_many:MD P w K mg base 2 "known_many" (spG K 1 zaR))(h:FnAt K "_law_known_right" zbA):FD P w K mg base 4 "_law_known_right" (spG K 3 zaw):=
 fdG (N:=["book","row","k","known","a","b","due"]) (k:=3) (m:=za9) X G h fun _ _ _ _ _ _ _ hr nd=>(zah (zaN 3 zai nd)
  (zah (zd7 PassesOwn.never rfl (zbe bn.range' (zab (zaK 1 bn.len') zal)) (zau 4 nd)
  (zak (zd7 PassesOwn.never rfl (zkz bn.range' (zab (zac 4) (zab (zaK 1 bn.len') zal))) (zau 5 nd)
  (zah (zaN 6 (zeP (zab zdw (zab zhn zal))) nd)
  (zah (zb9 (st_eq hr.units (zeT (zc2 (zaQ (zac 5) zai) (zac 4)) (zac 2)) zai)
  (zah (zaN 6 (zeP (zab zdw (zab (zfa rfl bn.sum' (zab (zhF (zac 1) (zch (zac 4)) (zch (zaQ (zac 5) zai))) zal)) zal))) nd)
  (zak (zaN 3 (zaQ (zac 3) zai) nd)))
  zaL)
  (zak (zb9 (zgC hr.units (zhF (zdv 0 md_ask_sum zby hr (zbt (zac 4) (zbt (zac 5) zex))) zkg (zch zai)) (zac 6))
  (zak (zaZ zgk))
  zaL)))))))
  (zak (zaZ (zfP (zjc hr.units (zdG 0 md_known_many zby hr) (zac 3)) (zhp (zjc hr.units (zdG 0 md_can_come zby hr) (zc2 (zac 2) zai))))))))
abbrev zfW:Stmt:=top 30
def zhx:MS:=
 (sIf (tTru (m2 dNe (eVar 7) (eVar 6)))
  (sSeq (sSet 8 (eFz (oR (iR3 (zaj (eVar 7) (zaj (zbR 4) (zaj (eVar 3) aNil)))))))
  (sSeq (sSet 9 (eIxV 8 (zbJ zas 2 (zaj (zbR 8) aNil))))
  (sIf (tTru (m2 dNe (m2 dIx (zbn zba [some 5, none, none, none] [] (zdD 5 (hVal (eVar 9) (hVal (eVar 9) (hVal (eIxV 4 (eVar 9)) hNil))))) (eC (.int 0))) (eC (.str "new"))))
  (sRet (eC (.bl false)))
  zbX)))
  zbX)
def zhK:MS:=
 sFor (iR1 (zaj (eVar 3) aNil)) (gN 7) zhx
def zh3:ME:=
 (m2 dPow (eC (.int 10)) (eC (.int 59)))
def zht:MO:=
 oLC [] 1 (iSeq (eVar 4)) (gN 0) zeo zh3
def zhf:ME:=
 (m1 dNeg (eVar 0))
def zhh:MO:=
 oLC [] 1 (iSeq (eVar 10)) (gN 0) zeo zhf
def zhs:MS:=
 (sSeq (sSet 10 (eFz zht))
  (sSeq (sSet 11 (zda zbB (zaj (eVar 3) (zaj (zda zaF (zaj (eVar 4) (zaj (eVar 3) aNil))) (zaj (eFz zhh) (zaj (eVar 10) aNil))))))
  (sIf (zgM (tTru (zda zbh (zaj (eVar 11) (zaj (eVar 4) aNil)))))
  (sRet (eC (.bl false)))
  zbX)))
def zhA:MS:=
 (sSeq (sSet 6 (zbJ zas 2 (zaj (eVar 3) aNil)))
  (sSeq zhK
  (sSeq (sIf (tOrM (tTru (m2 dNe (zbn zaR [some 5] [] (zdD 5 hNil)) (m2 dDiv (m2 dMul (zbR 4) (m2 dAdd (zbR 4) (eC (.int 1)))) (eC (.int 2))))) (tTru (m2 dNe (zbn zbc [some 5] [] (zdD 5 hNil)) (eC (.int 0)))))
  (sRet (eC (.bl false)))
  zbX)
  zhs)))
def zh2:MS:=
 (sSeq (sSetO 2 (oCall zbx (zaj (zda zb4 (zaj (eVar 0) aNil)) (zaj (eVar 1) aNil))))
  (sSeq (sSet 3 (m2 dAdd (eC (.int 2)) (zbJ zas 2 (zaj (eC (.int 4)) aNil))))
  (sSeq (sSet 4 (zbJ zaP 2 (zaj (m2 dAdd (eVar 3) (zbJ zas 2 (zaj (m2 dSub (m2 dIx (eFz (oLst (zaj (eC (.int 13)) (zaj (eC (.int 25)) aNil)))) (m2 dDiv (zbJ zas 2 (zaj (eC (.int 4)) aNil)) (eC (.int 3)))) (eVar 3)) aNil))) aNil)))
  (sSeq (ziH 5 zaX [some 2, none, none] [] (zjh 2 (hVal (eVar 4) (hVal (eVar 3) hNil))))
  (sSeq (sIf (tOrM (tIsB 5) (zgM (tTru (zbn zaw [some 5, none, none] [] (zjh 5 (hVal (eVar 4) (hVal (eVar 3) hNil)))))))
  (sRet (eC (.bl false)))
  zbX)
  zhA)))))
def zic:MS:=
 sFor (iR1 (zaj (eC (.int 2)) aNil)) (gN 1) zh2
def m_law:MS:=
 (sSeq zic
  (sRet (eC (.bl true))))
def zfX:List D->Option Sl:=fP 12 m_law
theorem ok_law (zbF:FD P w K mg base 4 "_law_book_of" (spG K 3 zaX))(zcD:FD P w K mg base 1 "_law_deal" (spP K 2 zbx))(za3:FD P w K mg base 4 "_law_known_right" (spG K 3 zaw))(zbr:FD P w K mg base 2 "_law_row_told" (spM K 2 zaP))(zap:FD P w K mg base 1 "_law_take" (spM K 2 zas))(zdm:FD P w K mg base 1 "_law_two" (spP K 1 zb4))(md_can_come:MD P w K mg base 1 "can_come" (spG K 1 zbc))(md_known_many:MD P w K mg base 2 "known_many" (spG K 1 zaR))(zb7:FD P w K mg base 2 "line_holds" (spP K 2 zbh))(zay:FD P w K mg base 1 "line_sums" (spP K 2 zaF))(zcx:FD P w K mg base 4 "made_line" (spP K 4 zbB))(md_tell_sum:MD P w K mg base 3 "tell_sum" (spG K 4 zba))(F:Fun K "law" "law" zfW f fd):FnOk P w K mg base CX0 5 f fd ["script"] (spP K 1 zfX):=
 lawP (N:=["script","k","pot","by","row","book","left","rest","places","place","wide","line"]) (k:=4) (n:=1) (m:=m_law) F fun _ _ _ _ _ _ _ hr nd=>(zah (zd7 PassesOwn.never rfl (zbe bn.range' (zab zai zal)) (zau 1 nd)
  (zah (zkH 2 (so_call zcD hr (zab (zbb zdm hr (zab (zac 0) zal) (hlen := (zae zaq))) (zab (zac 1) zal)) (hlen := (zae (zae zaq)))) nd)
  (zah (zaN 3 (zaQ zai (za6 2 zap hr (zab zai zal) (zek (zae zaq)))) nd)
  (zah (zaN 4 (za6 2 zbr hr (zab (zaQ (zac 3) (za6 2 zap hr (zab (zc2 (zfy (SO.se (zd6 (zab zai (zab zai zal)))) (zhz (za6 2 zap hr (zab zai zal) (zek (zae zaq))) zai)) (zac 3)) zal) (zek (zae zaq)))) zal) (zek (zae zaq))) nd)
  (zah (zgS 5 zbF (fun _ _ _ _ h => h) zby hr (ziT 2 (zbt (zac 4) (zbt (zac 3) zex))) nd)
  (zah (zb9 (STw.st (sw_or (st_isBk 5) (zjX (zgr (zeh (zfp za3 (fun _ _ _ _ h => h) zby hr (ziT 5 (zbt (zac 4) (zbt (zac 3) zex)))))))))
  (zak (zaZ zgk))
  zaL)
  (zah (zaN 6 (za6 2 zap hr (zab (zac 3) zal) (zek (zae zaq))) nd)
  (zah (zd7 PassesOwn.never rfl (zbe bn.range' (zab (zac 3) zal)) (zau 7 nd)
  (zak (zb9 (zgC hr.units (zac 7) (zac 6))
  (zah (zaN 8 (SO.se (zjE bn.list' bn.range' (zab (zac 7) (zab (zaK 4 bn.len') (zab (zac 3) zal))))) nd)
  (zah (zaN 9 (zaA 8 (za6 2 zap hr (zab (zaK 8 bn.len') zal) (zek (zae zaq)))) nd)
  (zak (zb9 (zgC hr.units (zfy (zdv 5 md_tell_sum zby hr (zbt (zac 9) (zbt (zac 9) (zbt (zaA 4 (zac 9)) zex)))) zai) zdw)
  (zak (zaZ zgk))
  zaL))))
  zaL)))
  (zah (zb9 (STw.st (sw_or (zgC hr.units (zdG 5 md_known_many zby hr) (zhz (zcZ (zaK 4 bn.len') (zaQ (zaK 4 bn.len') zai)) zai)) (zjX (zgC hr.units (zdG 5 md_can_come zby hr) zai))))
  (zak (zaZ zgk))
  zaL)
  (zah (zkb 10 [] 1 ["number"] rfl (zh6 (zac 4)) (fun C s H fp => (zau 0 ndk)) (fun C s H fp => zca) (fun C s H fp => (zd4 zai zai)) nd)
  (zah (zaN 11 (zbb zcx hr (zab (zac 3) (zab (zbb zay hr (zab (zac 4) (zab (zac 3) zal)) (hlen := (zae (zae zaq)))) (zab (SO.se (ziF [] 1 ["number"] rfl (zh6 (zac 10)) (fun C s H fp => (zau 0 ndk)) (fun C s H fp => zca) (fun C s H fp => (se_neg (zac 0))))) (zab (zac 10) zal)))) (hlen := (zae (zae (zae (zae zaq)))))) nd)
  (zak (zb9 (zgr (zeh (zbb zb7 hr (zab (zac 11) (zab (zac 4) zal)) (hlen := (zae (zae zaq))))))
  (zak (zaZ zgk))
  zaL)))))))))))))
  (zak (zaZ zgk)))
end
set_option maxHeartbeats 0 in
theorem all_mk {l:W.OpenLaw}{w:World}{K:W.Frag}{h:Heap}{mg:Str->Option Value}{fa:Addr}(X:K.In h)(G:h.Ns mainGlobals mg)(hfa:mg "law"=some (.ref fa))
  (h1:FnAt K "line_sums" zdY)
  (h2:FnAt K "row_within" zdt)
  (h3:FnAt K "bounds_right" zcw)
  (h4:FnAt K "k_right" ze1)
  (h5:FnAt K "line_parts_right" zbz)
  (h6:FnAt K "made_line" zd5)
  (h7:FnAt K "line_holds" zdA)
  (h8:FnAt K "joined" zgw)
  (h9:FnAt K "ways_from" zdZ)
  (h10:FnAt K "signs_for" zd9)
  (h11:FnAt K "signs_total" zc4)
  (h17:FnAt K "_law_deal" zd8)
  (h18:FnAt K "_law_take" zd1)
  (h19:FnAt K "_law_two" zeM)
  (h20:FnAt K "_law_row_told" zcp)
  (h21:FnAt K "_law_order" zdz)
  (h22:FnAt K "_law_book_of" zcv)
  (h23:FnAt K "_law_known_right" zbA)
  (h24:FnAt K "law" zfW)
  {ty0:Tok}
  {C:Addr} (aC:W.nsIn K mainGlobals "SumBook"=some (some (.ref C))) (pg:W.plainGet K C Str.empty=true) (hd:W.hasDictIn K C=true) (po:W.plainOver K C=true) (sa:W.findIn K (.ref C) "__setattr__"=some (some (.builtin "object.__setattr__"))) (mkC:W.makesIn K C=true) (kc:W.keepIn K (.ref C)=true) (nK:W.findIn K (.ref C) "kept"=some none) (nM:W.findIn K (.ref C) "many"=some none) {finit:Addr} {odinit aninit:Option Addr} {slinit:Array (Option Value)} {ocinit kVinit dcinit pminit cdinit ctinit:Value} (ainit:W.findIn K (.ref C) "__init__"=some (some (.ref finit))) (iinit:W.isFn K (.ref finit)=true) (linit:K.lookup finit=some ⟨ocinit,odinit,.func (W.fnOf "__init__" "SumBook.__init__" (zaV (zce (top 21) 0)) (zav (zce (top 21) 0)) (zam (zce (top 21) 0)) .none kVinit dcinit pminit aninit cdinit ctinit),slinit⟩) (cinit:W.codeIn K cdinit "SumBook.__init__"=true) (kinit:W.keepIn K (.ref finit)=true) {frefuse_no_stretch:Addr} {odrefuse_no_stretch anrefuse_no_stretch:Option Addr} {slrefuse_no_stretch:Array (Option Value)} {ocrefuse_no_stretch kVrefuse_no_stretch dcrefuse_no_stretch pmrefuse_no_stretch cdrefuse_no_stretch ctrefuse_no_stretch:Value} (arefuse_no_stretch:W.findIn K (.ref C) "refuse_no_stretch"=some (some (.ref frefuse_no_stretch))) (irefuse_no_stretch:W.isFn K (.ref frefuse_no_stretch)=true) (lrefuse_no_stretch:K.lookup frefuse_no_stretch=some ⟨ocrefuse_no_stretch,odrefuse_no_stretch,.func (W.fnOf "refuse_no_stretch" "SumBook.refuse_no_stretch" (zaV zaC) (zav zaC) (zam zaC) .none kVrefuse_no_stretch dcrefuse_no_stretch pmrefuse_no_stretch anrefuse_no_stretch cdrefuse_no_stretch ctrefuse_no_stretch),slrefuse_no_stretch⟩) (crefuse_no_stretch:W.codeIn K cdrefuse_no_stretch "SumBook.refuse_no_stretch"=true) (krefuse_no_stretch:W.keepIn K (.ref frefuse_no_stretch)=true) {ftell_sum:Addr} {odtell_sum antell_sum:Option Addr} {sltell_sum:Array (Option Value)} {octell_sum kVtell_sum dctell_sum pmtell_sum cdtell_sum cttell_sum:Value} (atell_sum:W.findIn K (.ref C) "tell_sum"=some (some (.ref ftell_sum))) (itell_sum:W.isFn K (.ref ftell_sum)=true) (ltell_sum:K.lookup ftell_sum=some ⟨octell_sum,odtell_sum,.func (W.fnOf "tell_sum" "SumBook.tell_sum" (zaV zcg) (zav zcg) (zam zcg) .none kVtell_sum dctell_sum pmtell_sum antell_sum cdtell_sum cttell_sum),sltell_sum⟩) (ctell_sum:W.codeIn K cdtell_sum "SumBook.tell_sum"=true) (ktell_sum:W.keepIn K (.ref ftell_sum)=true) {fask_sum:Addr} {odask_sum anask_sum:Option Addr} {slask_sum:Array (Option Value)} {ocask_sum kVask_sum dcask_sum pmask_sum cdask_sum ctask_sum:Value} (aask_sum:W.findIn K (.ref C) "ask_sum"=some (some (.ref fask_sum))) (iask_sum:W.isFn K (.ref fask_sum)=true) (lask_sum:K.lookup fask_sum=some ⟨ocask_sum,odask_sum,.func (W.fnOf "ask_sum" "SumBook.ask_sum" (zaV zcQ) (zav zcQ) (zam zcQ) .none kVask_sum dcask_sum pmask_sum anask_sum cdask_sum ctask_sum),slask_sum⟩) (cask_sum:W.codeIn K cdask_sum "SumBook.ask_sum"=true) (kask_sum:W.keepIn K (.ref fask_sum)=true) {fcan_come:Addr} {odcan_come ancan_come:Option Addr} {slcan_come:Array (Option Value)} {occan_come kVcan_come dccan_come pmcan_come cdcan_come ctcan_come:Value} (acan_come:W.findIn K (.ref C) "can_come"=some (some (.ref fcan_come))) (ican_come:W.isFn K (.ref fcan_come)=true) (lcan_come:K.lookup fcan_come=some ⟨occan_come,odcan_come,.func (W.fnOf "can_come" "SumBook.can_come" (zaV zb8) (zav zb8) (zam zb8) .none kVcan_come dccan_come pmcan_come ancan_come cdcan_come ctcan_come),slcan_come⟩) (ccan_come:W.codeIn K cdcan_come "SumBook.can_come"=true) (kcan_come:W.keepIn K (.ref fcan_come)=true) {fknown_many:Addr} {odknown_many anknown_many:Option Addr} {slknown_many:Array (Option Value)} {ocknown_many kVknown_many dcknown_many pmknown_many cdknown_many ctknown_many:Value} (aknown_many:W.findIn K (.ref C) "known_many"=some (some (.ref fknown_many))) (iknown_many:W.isFn K (.ref fknown_many)=true) (lknown_many:K.lookup fknown_many=some ⟨ocknown_many,odknown_many,.func (W.fnOf "known_many" "SumBook.known_many" (zaV zbv) (zav zbv) (zam zbv) .none kVknown_many dcknown_many pmknown_many anknown_many cdknown_many ctknown_many),slknown_many⟩) (cknown_many:W.codeIn K cdknown_many "SumBook.known_many"=true) (kknown_many:W.keepIn K (.ref fknown_many)=true) (z0:W.nsIn K mainGlobals "all"=some none) (z1:W.nsIn K mainGlobals "enumerate"=some none) (z2:W.nsIn K mainGlobals "len"=some none) (z3:W.nsIn K mainGlobals "list"=some none) (z4:W.nsIn K mainGlobals "range"=some none) (z5:W.nsIn K mainGlobals "sorted"=some none) (z6:W.nsIn K mainGlobals "sum"=some none) (z7:W.nsIn K mainGlobals "tuple"=some none) (z8:W.nsIn K mainGlobals "zip"=some none) (y0:W.nsIn K mainGlobals "MOST_PLACES"=some (some (.int 24 ty0))):
  ∃fd:FuncData,(∀(s:Shared) (v:Value),BindsTo s fd ⟨[v],[]⟩ [("script",v)])/\∀base:Heap,K.In base->base.Ns mainGlobals mg->FnOk l.prog w K mg base CX0 5 fa fd ["script"] (spP K 1 zfX):=by
 have cl:Cls K C:=⟨pg,hd,po,sa⟩
 have bn:BN K mg:=⟨⟨C,aC,cl,nM,nK⟩,W.mg_none_of X G z0,W.mg_none_of X G z1,W.mg_none_of X G z2,W.mg_none_of X G z3,W.mg_none_of X G z4,W.mg_none_of X G z5,W.mg_none_of X G z6,W.mg_none_of X G z7,W.mg_none_of X G z8,⟨_,W.mg_of X G y0⟩⟩
 obtain⟨a,b,c,d,e,f,T⟩:=h24.law X G hfa
 refine⟨W.fnOf "law" "law" (zaV zfW) (zav zfW) (zam zfW) .none a b c d e f,fun s v=> .of_eq rfl,fun base _ _=>?_⟩
 have Fi:=zjI (st:=zce (top 21) 0) linit cinit kinit
 have bm:BkM l.prog w K mg base 1:=⟨C,finit,_,aC,W.mg_of X G aC,⟨mkC,ainit,iinit,kc⟩,bkInit Fi cl nM nK ⟨rfl,rfl,rfl,by decide+kernel,rfl,by decide+kernel,by decide+kernel⟩ (fun _ _ _ _ _ _=>zhv (ps_fld (pv 0) (pv 1) rfl) (zgF (ps_fld (pv 0) (pe_lst zbE) rfl))),Fi.binds fun _ _ _ _ _ _=>us_s fun _=>us_s fun _=>us_0 rfl⟩
 have zay:=zf6 (P:=l.prog) (w:=w) (base:=base) X G bn h1
 have zaT:=zfz (P:=l.prog) (w:=w) (base:=base) X G bn h2
 have zbD:=zeI (P:=l.prog) (w:=w) (base:=base) X G bn zaT h3
 have zdM:=ziA (P:=l.prog) (w:=w) (base:=base) X G bn h4
 have za0:=zdb (P:=l.prog) (w:=w) (base:=base) X G bn zbD zdM h5
 have zcx:=zf7 (P:=l.prog) (w:=w) (base:=base) X G bn za0 h6
 have zb7:=zfi (P:=l.prog) (w:=w) (base:=base) X G bn zay zaT h7
 have zeK:=ziW (P:=l.prog) (w:=w) (base:=base) X G bn h8
 have zcy:=zf0 (P:=l.prog) (w:=w) (base:=base) X G bn h9
 have za5:=zgm (P:=l.prog) (w:=w) (base:=base) X G bn zcy h10
 have zaJ:=zeW (P:=l.prog) (w:=w) (base:=base) X G bn h11
 have md_refuse_no_stretch:=zcW (P:=l.prog) (w:=w) (base:=base) X G bn (MAt.mk aC cl arefuse_no_stretch irefuse_no_stretch lrefuse_no_stretch crefuse_no_stretch krefuse_no_stretch)
 have md_tell_sum:=zgQ (P:=l.prog) (w:=w) (base:=base) X G bn md_refuse_no_stretch za5 zaJ (MAt.mk aC cl atell_sum itell_sum ltell_sum ctell_sum ktell_sum)
 have md_ask_sum:=zig (P:=l.prog) (w:=w) (base:=base) X G bn md_refuse_no_stretch za5 zaJ (MAt.mk aC cl aask_sum iask_sum lask_sum cask_sum kask_sum)
 have md_can_come:=zgY (P:=l.prog) (w:=w) (base:=base) X G bn (MAt.mk aC cl acan_come ican_come lcan_come ccan_come kcan_come)
 have md_known_many:=zfj (P:=l.prog) (w:=w) (base:=base) X G bn zeK (MAt.mk aC cl aknown_many iknown_many lknown_many cknown_many kknown_many)
 have zcD:=zgh (P:=l.prog) (w:=w) (base:=base) X G bn h17
 have zap:=zfV (P:=l.prog) (w:=w) (base:=base) X G bn h18
 have zdm:=zgO (P:=l.prog) (w:=w) (base:=base) X G bn h19
 have zbr:=zea (P:=l.prog) (w:=w) (base:=base) X G bn zap h20
 have zcf:=zfF (P:=l.prog) (w:=w) (base:=base) X G bn zap h21
 have zbF:=zeB (P:=l.prog) (w:=w) (base:=base) X G bn bm zcf zay md_tell_sum h22
 have za3:=zdk (P:=l.prog) (w:=w) (base:=base) X G bn md_ask_sum md_can_come md_known_many h23
 exact ok_law X G bn zbF zcD za3 zbr zap zdm md_can_come md_known_many zb7 zay zcx md_tell_sum T
theorem walk {l:W.OpenLaw}{q:Program}{loose:List Str}{XP:(Str->Option Value)->Heap->Prop}{YP:World->Heap->Prop}{d:DefRec}{K:Params->W.Frag}(hn:l.most=some 63)(hdf:d.params.defaults=[])
  (hm:∀ns:List Int,ns.length<=63->zfX [.scr ns]=some (.val (.bl true)))
  (hY:∀(w:World) (h:Heap),YP w h->(K w.params).In h)
  (F : ∀ (w : World) (mg : Str -> Option Value) (fa : Addr) (h : Heap), (K w.params).In h -> h.Ns mainGlobals mg -> mg d.name = some (.ref fa) ->
   ∃fd:FuncData,(∀(s:Shared) (u:Value),BindsTo s fd ⟨[u],[]⟩ [("script",u)])/\∀base:Heap,(K w.params).In base->base.Ns mainGlobals mg->FnOk l.prog w (K w.params) mg base CX0 5 fa fd ["script"] (spP (K w.params) 1 zfX)):
  W.WalkO q loose XP YP l.row.toRowW d [] (fun f vs=>PySem.call f vs):=
 L2.walk_of (n:=63) (k:=5) (x:="script") (CX:=fun _=>CX0) (sp:=fun w=>spP (K w.params) 1 zfX) hn (by decide) hdf ⟨rfl,by decide,by decide,rfl⟩ hY F
  (fun w H a ns hl _ hS=>⟨H,[.scr ns],.val (.bl true),hm ns hl,rfl,Fz.refl H,.cons ⟨a,rfl,hS⟩ .nil,fun _ _ _ _ _ _ _ rr=>rr⟩) fun _ _ _ _ _ z=>z
end Prf
set_option exponentiation.threshold 5000
namespace Prf
open L2 M PySem
variable {m a i r b n:Nat} {K:Kp} {s u v:Int} {p q:List (Nat×Int)} {ks:List Int} {g:Int->List (Nat×Int)} {L:List Nat} {ds:List D} {f:Nat->Int} {x:Nat×Nat×Int} {S:Int->Prop}
abbrev Kp:=List (Nat×Nat×Int)
def pr (x:Nat×Int):D:= .tup [.int x.1,.int x.2]
def hI (K:Kp)(i:Nat):Int:=((K.getD i (0,0,0)).1:Nat)
def lI (K:Kp)(i:Nat):Int:=((K.getD i (0,0,0)).2.1:Nat)
def sI (K:Kp)(i:Nat):Int:=(K.getD i (0,0,0)).2.2
abbrev tI (K:Kp)(i:Nat):Int:=lI K i+1
def Cl (K:Kp)(S:Int->Prop):Prop:=∀i,i<K.length->(S (hI K i)↔S (tI K i))
def Reach (K:Kp)(u v:Int):Prop:=∀S:Int->Prop,Cl K S->S u->S v
structure Sg (K:Kp) (a c:Int) (p:List (Nat×Int)):Prop where
 rng:∀x∈p,x.1<K.length/\(x.2=1\/x.2= -1)
 nd:(p.map (·.1)).Nodup
 pot:∀X:Int->Int,(p.map fun x=>x.2*(X (tI K x.1)-X (hI K x.1))).sum=X c-X a
theorem perm_sum {l m:List Int}(h:l.Perm m):l.sum=m.sum:=by
 induction h with
 |nil=>rfl
 |cons x _ ih=>rw[List.sum_cons,List.sum_cons,ih]
 |swap x y l=>simp only[List.sum_cons];lia
 |trans _ _ h1 h2=>exact h1.trans h2
theorem Sg.perm {a c:Int}(h:Sg K a c p)(m:q.Perm p):Sg K a c q:=
 ⟨fun x hx=>h.rng x (m.mem_iff.mp hx),((m.map _).nodup_iff).mpr h.nd,fun X=>by rw[<-h.pot X];exact perm_sum (m.map _)⟩
open Classical in
theorem Sg.reach {a c:Int}(h:Sg K a c p):Reach K a c:=fun S cl sa=>by
 have e:=h.pot fun v=>if S v then 1 else 0
 have z:(p.map fun x=>x.2*((if S (tI K x.1)then(1:Int)else 0)-(if S (hI K x.1)then 1 else 0))).sum=0:=by
  have:∀l:List (Nat×Int),(∀x∈l,x.1<K.length)->(l.map fun x=>x.2*((if S (tI K x.1)then(1:Int)else 0)-(if S (hI K x.1)then 1 else 0))).sum=0:=fun l=>by
   induction l with
   |nil=>intro _;rfl
   |cons x l ih=>
    intro hx
    rw[List.map_cons,List.sum_cons,ih fun y hy=>hx y (by simp[hy])]
    have:=cl x.1 (hx x (by simp))
    by_cases q:S (tI K x.1)
    ·have q2:=this.mpr q;simp[q,q2]
    ·have q2:¬S (hI K x.1):=fun z=>q (this.mp z)
     simp[q,q2]
  exact this p fun x hx=>(h.rng x hx).1
 rw[z]at e
 by_cases sc:S c
 ·exact sc
 ·simp[sc,sa]at e
theorem fewN:∀(c:Nat) (ks:List Nat),ks.Nodup->(∀x,x∈ks->x<c)->ks.length<=c
 |0,ks,_,h=>by
  cases ks with
  |nil=>simp
  |cons x _=>exact absurd (h x (by simp)) (by lia)
 |c+1,ks,nd,h=>by
  by_cases m:c∈ks
  ·have:=fewN c (ks.erase c) (nd.erase c) fun x hx=>by
    have h1:=h x (List.mem_of_mem_erase hx)
    have h2:x≠c:=fun z=>by subst z;exact(List.Nodup.not_mem_erase nd) hx
    lia
   rw[List.length_erase_of_mem m]at this
   lia
  ·have:=fewN c ks nd fun x hx=>by
    have h1:=h x hx
    have h2:x≠c:=fun z=>m (z ▸ hx)
    lia
   lia
theorem Sg.len {a c:Int}(h:Sg K a c p):p.length<=K.length:=by
 have:=fewN K.length (p.map (·.1)) h.nd fun x hx=>by
  obtain⟨y,hy,rfl⟩:=List.mem_map.mp hx
  exact(h.rng y hy).1
 simpa using this
structure Wy (K:Kp) (s:Int) (ks:List Int) (g:Int->List (Nat×Int)):Prop where
 st:s∈ks
 sg:∀v∈ks,Sg K s v (g v)
 inn:∀v∈ks,∀x∈g v,hI K x.1∈ks/\tI K x.1∈ks
theorem Wy.start (K:Kp)(s:Int):Wy K s [s] fun _=>[]:=
  ⟨by simp,fun v hv=>by
    have:v=s:=by simpa using hv
    subst this
    exact⟨fun x hx=>by simp at hx,by simp,fun X=>by simp⟩,fun v _ x hx=>by simp at hx⟩
theorem Wy.step (w:Wy K s ks g){u v e:Int}(hi:i<K.length)(hu:u∈ks)(hv:v∉ks)(h:(u=hI K i/\v=tI K i/\e=1)\/(u=tI K i/\v=hI K i/\e= -1)):
  Wy K s (ks++[v]) fun y=>if y=v then g u++[(i,e)]else g y:=by
 have new:∀x∈g u,x.1≠i:=fun x hx z=>by
  obtain⟨h1,h2⟩:=w.inn u hu x hx
  rw[z]at h1 h2
  rcases h with⟨_,rfl,_⟩|⟨_,rfl,_⟩
  ·exact hv h2
  ·exact hv h1
 refine⟨by simp[w.st],fun y hy=>?_,fun y hy x hx=>?_⟩
 ·split
  ·rename_i z
   subst z
   have q:=w.sg u hu
   refine⟨fun x hx=>?_,?_,fun X=>?_⟩
   ·rcases List.mem_append.mp hx with m|m
    ·exact q.rng x m
    ·have:x=(i,e):=by simpa using m
     subst this
     exact⟨hi,by rcases h with⟨_,_,z⟩|⟨_,_,z⟩<;>simp[z]⟩
   ·rw[List.map_append,List.nodup_append]
    refine⟨q.nd,by simp,fun a ha b hb=>?_⟩
    obtain⟨x,hx,rfl⟩:=List.mem_map.mp ha
    have:b=i:=by simpa using hb
    subst this
    exact new x hx
   ·rw[List.map_append,List.sum_append,q.pot X]
    simp only[List.map_cons,List.map_nil,List.sum_cons,List.sum_nil]
    rcases h with⟨rfl,rfl,rfl⟩|⟨rfl,rfl,rfl⟩<;>lia
  ·rename_i z
   rcases List.mem_append.mp hy with m|m
   ·exact w.sg y m
   ·exact absurd (by simpa using m) z
 ·have up:∀z∈ks,z∈ks++[v]:=fun z m=>by simp[m]
  split at hx
  ·rcases List.mem_append.mp hx with m|m
   ·exact⟨up _ (w.inn u hu x m).1,up _ (w.inn u hu x m).2⟩
   ·have:x=(i,e):=by simpa using m
    subst this
    rcases h with⟨rfl,rfl,_⟩|⟨rfl,rfl,_⟩
    ·exact⟨up _ hu,by simp⟩
    ·exact⟨by simp,up _ hu⟩
  ·rename_i z
   rcases List.mem_append.mp hy with m|m
   ·exact⟨up _ (w.inn y m x hx).1,up _ (w.inn y m x hx).2⟩
   ·exact absurd (by simpa using m) z
def Clk (K:Kp)(ks:List Int):Prop:=∀i,i<K.length->(hI K i∈ks↔tI K i∈ks)
structure Rd (K:Kp) (ks0:List Int) (i:Nat) (ks:List Int):Prop where
 up:∀v∈ks0,v∈ks
 on:∀j,j<i->(hI K j∈ks0\/tI K j∈ks0)->hI K j∈ks/\tI K j∈ks
 cl:Clk K ks0->ks=ks0
theorem Rd.start (K:Kp)(ks:List Int):Rd K ks 0 ks:=⟨fun _ h=>h,fun j h=>by lia,fun _=>rfl⟩
theorem Rd.step {ks0 ks:List Int}(h:Rd K ks0 i ks)(hi:i<K.length)(hu:u∈ks)(hv:v∉ks)(z:(u=hI K i/\v=tI K i)\/(u=tI K i/\v=hI K i)):Rd K ks0 (i+1) (ks++[v]):=by
 refine⟨fun y hy=>by simp[h.up y hy],fun j hj q=>?_,fun c=>?_⟩
 ·by_cases e:j=i
  ·subst e
   rcases z with⟨rfl,rfl⟩|⟨rfl,rfl⟩
   ·exact⟨by simp[hu],by simp⟩
   ·exact⟨by simp,by simp[hu]⟩
  ·have:=h.on j (by lia) q
   exact⟨by simp[this.1],by simp[this.2]⟩
 ·exfalso
  rw[h.cl c]at hu hv
  have:=c i hi
  rcases z with⟨rfl,rfl⟩|⟨rfl,rfl⟩
  ·exact hv (this.mp hu)
  ·exact hv (this.mpr hu)
theorem Rd.stay {ks0 ks:List Int}(h:Rd K ks0 i ks)(z:hI K i∈ks↔tI K i∈ks):Rd K ks0 (i+1) ks:=by
 refine⟨h.up,fun j hj q=>?_,h.cl⟩
 by_cases e:j=i
 ·subst e
  rcases q with q|q
  ·have:=h.up _ q;exact⟨this,z.mp this⟩
  ·have:=h.up _ q;exact⟨z.mpr this,this⟩
 ·exact h.on j (by lia) q
open Classical in
def cnt (K:Kp)(ks:List Int):Nat:=((List.range K.length).filter fun i=>decide (hI K i∈ks/\tI K i∈ks)).length
theorem zjV {p q:Nat->Bool}(h:∀i,p i=true->q i=true):∀{l:List Nat} {i:Nat},i∈l->p i=false->q i=true->(l.filter p).length+1<=(l.filter q).length:=by
 have le:∀l:List Nat,(l.filter p).length<=(l.filter q).length:=fun l=>by
  induction l with
  |nil=>simp
  |cons x l ih=>
   rw[List.filter_cons,List.filter_cons]
   by_cases e:p x=true
   ·rw[if_pos e,if_pos (h x e)];simpa using ih
   ·rw[if_neg e]
    split
    ·simp;lia
    ·exact ih
 intro l
 induction l with
 |nil=>intro i m;simp at m
 |cons x l ih=>
  intro i m e1 e2
  rw[List.filter_cons,List.filter_cons]
  rcases List.mem_cons.mp m with rfl|m
  ·rw[if_neg (by simp[e1]),if_pos e2]
   have:=le l
   simp;lia
  ·have:=ih m e1 e2
   by_cases e:p x=true
   ·rw[if_pos e,if_pos (h x e)];simp;lia
   ·rw[if_neg e]
    split
    ·simp;lia
    ·exact this
open Classical in
theorem Rd.more {ks0 ks:List Int}(h:Rd K ks0 K.length ks)(z:Clk K ks0\/r<=cnt K ks0):Clk K ks\/r+1<=cnt K ks:=by
 by_cases c:Clk K ks0
 ·rw[h.cl c];exact .inl c
 ·rcases z with z|z
  ·exact absurd z c
  ·right
   obtain⟨i,q⟩:=Classical.not_forall.mp c
   obtain⟨hi,q⟩:=Classical.not_imp.mp q
   have one:hI K i∈ks0\/tI K i∈ks0:=by
    by_cases a:hI K i∈ks0
    ·exact .inl a
    ·by_cases b:tI K i∈ks0
     ·exact .inr b
     ·exact absurd ⟨fun x=>absurd x a,fun x=>absurd x b⟩ q
   have nb:¬(hI K i∈ks0/\tI K i∈ks0):=fun x=>q ⟨fun _=>x.2,fun _=>x.1⟩
   refine Nat.le_trans (Nat.succ_le_succ z) ?_
   exact zjV (fun j hj=>by
    simp only[decide_eq_true_eq]at hj ⊢
    exact⟨h.up _ hj.1,h.up _ hj.2⟩) (List.mem_range.mpr hi) (by simpa using nb) (by simpa using h.on i hi one)
open Classical in
theorem all_in (h:Clk K ks\/K.length<=cnt K ks):Clk K ks:=by
 rcases h with h|h
 ·exact h
 ·intro i hi
  have al:∀l:List Nat,l.length<=(l.filter fun i=>decide (hI K i∈ks/\tI K i∈ks)).length->∀i∈l,hI K i∈ks/\tI K i∈ks:=fun l=>by
   induction l with
   |nil=>intro _ i m;simp at m
   |cons x l ih=>
    intro hl i m
    have le:=List.length_filter_le (fun i=>decide (hI K i∈ks/\tI K i∈ks)) l
    rw[List.filter_cons]at hl
    split at hl
    ·rename_i q
     simp only[List.length_cons]at hl
     rcases List.mem_cons.mp m with rfl|m
     ·simpa using q
     ·exact ih (by lia) i m
    ·simp only[List.length_cons]at hl
     lia
  have:=al (List.range K.length) (by rw[List.length_range];exact h) i (List.mem_range.mpr hi)
  exact⟨fun _=>this.2,fun _=>this.1⟩
theorem Wy.iff (w:Wy K s ks g)(c:Clk K ks)(v:Int):v∈ks↔Reach K s v:=
 ⟨fun h=>(w.sg v h).reach,fun h=>h (fun v=>v∈ks) (fun i hi=>c i hi) w.st⟩
section
variable {J:Type} [DecidableEq J]
theorem zeL (g:J->D)(x:J):∀ks:List J,lkD ks (ks.map g) x=if x∈ks then some (g x)else none
 |[]=>rfl
 |q::ks=>by
  rw[List.map_cons,lkD,zeL g x ks]
  by_cases e:q=x
  ·subst e;simp
  ·have e2:x≠q:=fun z=>e z.symm
   simp[e,e2]
theorem pt_new (g:J->D)(x:J)(d:D)(ks:List J)(h:x∉ks):ptD ks (ks.map g) x d=(ks++[x],(ks++[x]).map fun y=>if y=x then d else g y):=by
 unfold ptD
 rw[if_neg (fun c=>h (List.contains_iff_mem.mp c))]
 congr 1
 rw[List.map_append]
 congr 1
 ·apply List.map_congr_left
  intro y hy
  have:y≠x:=fun z=>h (z ▸ hy)
  simp[this]
 ·simp
end
abbrev kw (K:Kp):List D:=wL K.length fun i=> .tup [.int (hI K i),.int (lI K i),.int (sI K i)]
abbrev gD (g:Int->List (Nat×Int)):Int->D:=fun v=> .lst ((g v).map pr)
theorem gD_put (g:Int->List (Nat×Int))(u v:Int)(i:Nat)(e:Int):(fun y=>if y=v then D.lst ((g u).map pr++[.tup [.int i,.int e]])else gD g y)=gD fun y=>if y=v then g u++[(i,e)]else g y:=by
 funext y
 by_cases z:y=v
 ·simp[gD,z,pr]
 ·simp[gD,z]
theorem ways_ok (K:Kp)(n60:K.length<=60)(s:Int):Ok (zbG [.lst (kw K),.int s]) fun r=>∃ks g,Wy K s ks g/\Clk K ks/\r= .val (.dic ks (ks.map (gD g))):=by
 simp! only[↓zbG,↓zdn,↓zcX]
 refine⟨zaI (by lia) (by lia),zcb (fun r ρ=>∃ks g s3 s4 s5 s6 s7,Wy K s ks g/\(Clk K ks\/r<=cnt K ks)/\ks.length<=1+r*60/\ρ=[.val (.lst (kw K)),.val (.int s),.tre (.dic ks (ks.map (gD g))),s3,s4,s5,s6,s7]) ⟨[s],fun _=>[],.emp,.emp,.emp,.emp,.emp,Wy.start K s,.inr (Nat.zero_le _),by simp,rfl⟩ ?_ ?_⟩
 ·rintro r _ hr ⟨ks,g,s3,s4,s5,s6,s7,w,c,l,rfl⟩
  simp! only[↓zc6,↓zc0,zg7]
  refine zcb (fun i ρ=>∃ks' g' s4 s5 s6 s7,Wy K s ks' g'/\Rd K ks i ks'/\ks'.length<=ks.length+i/\ρ=[.val (.lst (kw K)),.val (.int s),.tre (.dic ks' (ks'.map (gD g'))),.val (.int r),s4,s5,s6,s7]) ⟨ks,g,s4,s5,s6,s7,w,Rd.start K ks,Nat.le_refl _,rfl⟩ ?_ ?_
  ·rintro i _ hi ⟨ks',g',s4,s5,s6,s7,w',rd,l',rfl⟩
   have len:∀v∈ks',(g' v).length<=60:=fun v hv=>Nat.le_trans (w'.sg v hv).len n60
   by_cases h1:hI K i∈ks'<;>by_cases h2:tI K i∈ks'
   ·simp! only[↓zaW,zeL,if_pos h1,if_pos h2,Option.isSome_none,not_false_eq_true]
    exact⟨ks',g',_,_,_,_,w',rd.stay ⟨fun _=>h2,fun _=>h1⟩,by lia,rfl⟩
   ·simp! only[↓zaW,zeL,if_pos h1,if_neg h2,Option.isSome_none,not_false_eq_true,pt_new _ _ _ _ h2,gD_put]
    have:=len _ h1
    exact⟨by lia,by lia,_,_,_,_,_,_,w'.step hi h1 h2 (.inl ⟨rfl,rfl,rfl⟩),rd.step hi h1 h2 (.inl ⟨rfl,rfl⟩),by simp;lia,rfl⟩
   ·simp! only[↓zaW,zeL,if_neg h1,if_pos h2,Option.isSome_none,not_false_eq_true,pt_new _ _ _ _ h1,gD_put]
    have:=len (lI K i+1) h2
    exact⟨by lia,by lia,_,_,_,_,_,_,w'.step hi h2 h1 (.inr ⟨rfl,rfl,rfl⟩),rd.step hi h2 h1 (.inr ⟨rfl,rfl⟩),by simp;lia,rfl⟩
   ·simp! only[↓zaW,zeL,if_neg h1,if_neg h2,Option.isSome_none,not_false_eq_true]
    exact⟨ks',g',_,_,_,_,w',rd.stay ⟨fun z=>absurd z h1,fun z=>absurd z h2⟩,by lia,rfl⟩
  ·rintro _ ⟨ks',g',s4,s5,s6,s7,w',rd,l',rfl⟩
   simp! only[]
   exact⟨ks',g',_,_,_,_,_,w',rd.more c,by lia,rfl⟩
 ·rintro _ ⟨ks,g,s3,s4,s5,s6,s7,w,c,l,rfl⟩
  simp! only[]
  exact⟨ks,g,w,all_in c,rfl⟩
theorem ts_pr:∀p:List (Nat×Int),ze2 (p.map pr)=some (p.map fun x=>[(x.1:Int),x.2])
 |[]=>rfl
 |x::p=>by
  show(zaM [D.int (x.1:Int),D.int x.2]).bind (fun ns=>(ze2 (p.map pr)).map fun nss=>ns::nss)=_
  rw[ts_pr p];rfl
theorem ziQ (p:List (Nat×Int))(h:p.length<64)(nd:(p.map (·.1)).Nodup):∃q:List (Nat×Int),q.Perm p/\(q.map (·.1)).Pairwise (· < ·)/\dSrt [.lst (p.map pr)]=some (q.map pr):=by
  have ky:ziI (p.map pr)=some (p.map fun x=>[(x.1:Int),x.2]):=by
    unfold ziI
    cases p with
    |nil=>rfl
    |cons x p=>
      have:zaM ((x::p).map pr)=none:=rfl
      rw[this]
      show(ze2 ((x::p).map pr)).bind _=_
      rw[ts_pr]
      show(if _ then _ else _)=_
      rw[if_pos]
      rw[List.all_map]
      simp
  have o:=HT.zkA (p.map fun x=>[(x.1:Int),x.2])
  have pm:=zfx (n:=p.length) o
  refine⟨(srt p.length (HT.zdc (p.map fun x=>[(x.1:Int),x.2]))).map fun i=>p.getD i (0,0),?_,?_,?_⟩
  . have e:(List.range p.length).map (fun i=>p.getD i (0,0))=p:=by
      apply List.ext_getElem?
      intro i
      by_cases hi:i<p.length
      . simp[hi]
      . simp[hi]
    have:=pm.map fun i=>p.getD i (0,0)
    rwa[e]at this
  . have nd2:(((srt p.length (HT.zdc (p.map fun x=>[(x.1:Int),x.2]))).map fun i=>p.getD i (0,0)).map (·.1)).Nodup:=by
      have e:(List.range p.length).map (fun i=>p.getD i (0,0))=p:=by
        apply List.ext_getElem?
        intro i
        by_cases hi:i<p.length
        . simp[hi]
        . simp[hi]
      have:=(pm.map fun i=>p.getD i (0,0)).map (·.1)
      rw[e]at this
      exact this.nodup_iff.mpr nd
    rw[List.pairwise_iff_getElem]
    intro i j hi hj hij
    rw[List.length_map,List.length_map]at hi hj
    have up:=srt_up o (Nat.le_of_lt hij) (List.getElem?_eq_getElem hi) (List.getElem?_eq_getElem hj)
    have ra:=List.mem_range.mp (pm.mem_iff.mp (List.getElem_mem hi))
    have rb:=List.mem_range.mp (pm.mem_iff.mp (List.getElem_mem hj))
    have ne:=(List.pairwise_iff_getElem.mp nd2) i j (by simpa using hi) (by simpa using hj) hij
    simp only[List.getElem_map]at ne ⊢
    generalize (srt p.length (HT.zdc (p.map fun x=>[(x.1:Int),x.2])))[i]=a at up ra ne ⊢
    generalize (srt p.length (HT.zdc (p.map fun x=>[(x.1:Int),x.2])))[j]=b at up rb ne ⊢
    unfold HT.zdc at up
    simp only[List.getD,List.getElem?_map,List.getElem?_eq_getElem ra,List.getElem?_eq_getElem rb,Option.map_some,Option.getD_some]at up ne ⊢
    change (if((p[b].1:Nat):Int)=((p[a].1:Nat):Int)then _ else decide (((p[b].1:Nat):Int)<((p[a].1:Nat):Int)))=false at up
    rw[if_neg (by lia),decide_eq_false_iff_not]at up
    lia
  . unfold dSrt
    show(if(p.map pr).length<64 then Option.map (fun nss=>srtD nss (p.map pr)) (ziI (p.map pr))else none)=_
    rw[List.length_map,if_pos h,ky]
    show some (srtD _ _)=_
    congr 1
    unfold srtD
    rw[List.length_map,List.map_map]
    apply List.map_congr_left
    intro i hi
    have:=List.mem_range.mp (pm.mem_iff.mp hi)
    simp[this]
structure Sgs (K:Kp) (a c:Int) (q:List (Nat×Int)):Prop where
  sg:Sg K a c q
  up:(q.map (·.1)).Pairwise (· < ·)
theorem zhe (K:Kp)(n60:K.length<=60)(a b:Int):Ok (za1 [.lst (kw K),.int a,.int b]) fun r=>(¬Reach K a (b+1)/\r= .val .non)\/∃q,Sgs K a (b+1) q/\r= .own (q.map pr):=by
 simp! only[↓za1,↓zde]
 refine(ways_ok K n60 a).mono ?_
 rintro _ ⟨ks,g,w,c,rfl⟩
 by_cases h:b+1∈ks
 ·obtain⟨q,pm,up,e⟩:=ziQ (g (b+1)) (Nat.lt_of_le_of_lt (w.sg _ h).len (by lia)) (w.sg _ h).nd
  simp! only[zeL,if_pos h,Option.isSome_none,not_false_eq_true,↓zbS,e]
  exact .inr ⟨q,⟨(w.sg _ h).perm pm,up⟩,rfl⟩
 ·simp! only[zeL,if_neg h,Option.isSome_none,not_false_eq_true,↓zbS]
  first|exact .inl ⟨fun z=>h ((w.iff c _).mpr z),rfl⟩|exact .inl (fun z=>h ((w.iff c _).mpr z))|(trace_state;exact fun z=>h ((w.iff c _).mpr z))
def tot (K:Kp)(q:List (Nat×Int)):Int:=(q.map fun x=>sI K x.1*x.2).sum
theorem int_map {α:Type}(q:List α)(h:α->Int):zaM (q.map fun x=> .int (h x))=some (q.map h):=by
 have:(q.map fun x=>D.int (h x))=(q.map h).map .int:=by rw[List.map_map];rfl
 rw[this,za4]
section
variable {K:Kp} {a c:Int} {q:List (Nat×Int)}
theorem zhC (s:Sg K a c q)(n60:K.length<=60):Ok (zaD [.lst (kw K),.lst (q.map pr)]) fun r=>r= .val (.int (tot K q)):=by
 have ql:=s.len
 simp! only[↓zaD,↓zcc,↓zcl]
 refine⟨by lia,zkp (enc:=pr) (l:=q) (fun ρ=>∃s1 s2,ρ=[.val (.lst (kw K)),s1,s2]) (fun x=> .int (sI K x.1*x.2)) ⟨_,_,rfl⟩ ?_ ?_⟩
 ·rintro⟨i,e⟩ _ hx ⟨s1,s2,rfl⟩
  have h:=s.rng _ hx
  simp! only[↓zcm,pr,zbC _ h.1]
  refine⟨zg3 ?_,_,_,rfl⟩
  rcases h.2 with z|z<;>simp only at z<;>rw[z]<;>decide
 ·rintro _ ⟨s1,s2,rfl⟩
  simp! only[int_map]
  rfl
end
def KOk (m:Nat)(K:Kp):Prop:=∀i,i<K.length->0<=hI K i/\hI K i<=lI K i/\lI K i<m
structure Lab (m:Nat) (K:Kp) (i:Nat) (L:Nat->Int):Prop where
 one:∀j,j<i->L (hI K j).toNat=L (tI K j).toNat
 two:∀S:Int->Prop,(∀j,j<i->(S (hI K j)↔S (tI K j)))->∀u v:Nat,u<=m->v<=m->L u=L v->(S u↔S v)
theorem Lab.start (m:Nat)(K:Kp):Lab m K 0 fun v=>(v:Int):=⟨fun j h=>by lia,fun S _ u v _ _ e=>by
 have:u=v:=by lia
 rw[this]⟩
theorem Lab.iff {L:Nat->Int}(h:Lab m K K.length L)(ok:KOk m K){u v:Nat}(hu:u<=m)(hv:v<=m):L u=L v↔Reach K u v:=by
 refine⟨fun e S cl su=>(h.two S cl u v hu hv e).mp su,fun r=>?_⟩
 have:=r (fun w=>L u=L w.toNat) (fun i hi=>by
  show L u=L (hI K i).toNat↔L u=L (tI K i).toNat
  rw[h.one i hi]) (by simp)
 simpa using this
theorem kw_fl (K:Kp):(kw K).all flD=true:=by
 rw[List.all_eq_true]
 intro d hd
 obtain⟨i,_,rfl⟩:=List.mem_map.mp hd
 rfl
theorem pr_fl (q:List (Nat×Int)):(q.map pr).all flD=true:=by
 rw[List.all_eq_true]
 intro d hd
 obtain⟨i,_,rfl⟩:=List.mem_map.mp hd
 rfl
theorem kw_snoc (K:Kp)(a b:Nat)(t:Int):kw K++[.tup [.int a,.int b,.int t]]=kw (K++[(a,b,t)]):=by
 rw[ziZ]
 show wL (K.length+1) _=wL (K++[(a,b,t)]).length _
 rw[List.length_append]
 apply List.map_congr_left
 intro i hi
 have hi:=List.mem_range.mp hi
 by_cases z:i<K.length
 ·rw[if_pos z]
  simp only[hI,lI,sI,List.getD,List.getElem?_append_left z]
 ·have:i=K.length:=by lia
  subst this
  rw[if_neg (by lia)]
  simp[hI,lI,sI]
theorem KOk.snoc (ok:KOk m K)(hab:a<=b)(hb:b<m)(t:Int):KOk m (K++[(a,b,t)]):=fun i hi=>by
 rw[List.length_append]at hi
 by_cases z:i<K.length
 ·have:=ok i z
  simp only[hI,lI,List.getD,List.getElem?_append_left z]at this ⊢
  exact this
 ·have:i=K.length:=by simp at hi;lia
  subst this
  simp[hI,lI]
  lia
theorem zf5 (hab:a<=b)(hb:b<m):Ok (zat [.ptr (bkT m ds),.val (.int a),.val (.int b)]) fun r=>r=(.val .non,[.ptr (bkT m ds),.emp,.emp]):=by
 simp! only[↓zat,↓za2]
 refine⟨fun _=>⟨fun _ z=>?_,fun z=>by lia⟩,fun z=>by lia⟩
 simp only[Bool.not_eq_true',decide_eq_false_iff_not]at z
 lia
theorem zjU (n60:K.length<=60)(hab:a<=b)(hb:b<m)(t:Int):Ok (zba [.ptr (bkT m (kw K)),.val (.int a),.val (.int b),.val (.int t)]) fun r=>
  (¬Reach K a ((b:Int)+1)/\r=(.tre (.tup [.d (.str "new"),.d (.int K.length)]),[.ptr (bkT m (kw (K++[(a,b,t)]))),.emp,.emp,.emp]))\/
  ∃q,Sgs K a ((b:Int)+1) q/\r=(.tre (.tup [.d (.str (if tot K q=t then "known" else "clash")),.l (q.map pr)]),[.ptr (bkT m (kw K)),.emp,.emp,.emp]):=by
 simp! only[↓zba,↓zdU]
 refine(zf5 hab hb).mono ?_
 rintro _ rfl
 simp! only[]
 refine(zhe K n60 a b).mono ?_
 rintro _ (⟨nr,rfl⟩|⟨q,s,rfl⟩)
 ·simp! only[kw_snoc,kw_fl]
  exact⟨by lia,.inl ⟨nr,by rw[show((K.length+1:Nat):Int)-1=(K.length:Int) by lia]⟩⟩
 ·simp! only[pr_fl,kw_fl,↓zdy]
  refine(zhC s.sg n60).mono ?_
  rintro _ rfl
  simp! only[]
  exact⟨fun z=> .inr ⟨q,s,by rw[if_pos z]⟩,fun z=> .inr ⟨q,s,by rw[if_neg z]⟩⟩
section
variable {m:Nat} (m24:m<=100) {K:Kp} (n60:K.length<=60) (ok:KOk m K) {a b:Nat} (hab:a<=b) (hb:b<m) (t:Int)
include m24 n60 ok hab hb
end
def Pot (ds:List D):Prop:=∃p:Int,ds=[.int p]
theorem zcd (h:Pot ds){m:Int}(h0:0<m)(h1:m<2^250):Ok (zas ds [.int m]) fun r=>∃(i:Nat) (ds':List D),(i:Int)<m/\Pot ds'/\r=(.val (.int i),ds'):=by
 obtain⟨p,rfl⟩:=h
 simp! only[↓zas,↓zdo]
 have m0:=Int.emod_nonneg p (Int.ne_of_gt h0)
 refine⟨h0,zjR h0 h1,(p%m).toNat,[.int (p/m)],?_,⟨_,rfl⟩,?_⟩
 ·have:=Int.emod_lt_of_pos p h0;lia
 ·rw[show(((p%m).toNat:Nat):Int)=p%m by lia]
theorem two_ok (ns:List Int):Ok (zb4 [.scr ns]) fun x=>∃a b:Int,x= .own [.int a,.int b]:=by
 simp! only[↓zb4,↓zdN,Option.some.injEq]
 exact⟨_,_,rfl⟩
theorem deal2_ok (A B:Int)(k:Nat)(hk:k<2):Ok (zbx [.lst [.int A,.int B],.int k]) fun r=>∃ds,Pot ds/\r= .own ds:=by
 have tail:∀(c b:Int),0<=b->b<4294967296->Ok (zbL [.val (.lst [.int A,.int B]),.val (.int k),.val (.int c),.val (.int b),.val (.int 0),.emp]) fun p=>∃(a:Int) (s3 s5:Sl),p=(.next,[.val (.lst [.int A,.int B]),.val (.int k),.val (.int c),s3,.val (.int a),s5]):=fun c b h0 h1=>by
  simp! only[↓zbL]
  refine⟨rfl,zcb (fun _ ρ=>∃(a b:Int) (s5:Sl),0<=b/\b<4294967296/\ρ=[.val (.lst [.int A,.int B]),.val (.int k),.val (.int c),.val (.int b),.val (.int a),s5]) ⟨0,_,.emp,h0,h1,rfl⟩ ?_ ?_⟩
  ·rintro i _ hi ⟨a,b,s5,b0,b1,rfl⟩
   simp! only[↓zc9]
   have e1:0<=(b*48271+12345)%2147483647:=Int.emod_nonneg _ (by decide)
   have e2:(b*48271+12345)%2147483647<2147483647:=Int.emod_lt_of_pos _ (by decide)
   exact⟨zfl (by lia),zg3 (by decide),zfl (by lia),by decide+kernel,_,_,_,e1,by lia,rfl⟩
  ·rintro _ ⟨a,b,s5,_,_,rfl⟩
   exact⟨_,_,_,rfl⟩
 have last:∀c:Int,Ok (zbP [.val (.lst [.int A,.int B]),.val (.int k),.val (.int c),.emp,.emp,.emp]) fun p=>∃ds a,Pot ds/\p=(.ret (.own ds),a):=fun c=>by
  simp! only[↓zbP,↓zc5]
  refine⟨fun _=>⟨_,_,⟨_,rfl⟩,rfl⟩,fun _=>⟨zfl (by decide),?_⟩⟩
  refine(tail c _ (by lia) (by lia)).mono ?_
  rintro _ ⟨a,s3,s5,rfl⟩
  simp! only[]
  exact⟨_,_,⟨_,rfl⟩,rfl⟩
 have:k=0\/k=1:=by lia
 simp! only[↓zbx,↓zdl]
 refine⟨fun h=>?_,fun h=>by lia⟩
 obtain⟨w,ew⟩:∃w:Int,[D.int A,.int B][k]? =some (.int w):=by
  rcases this with rfl|rfl<;>exact⟨_,rfl⟩
 simp! only[ew]
 refine⟨by decide+kernel,by decide+kernel,by decide+kernel,(last _).mono ?_⟩
 rintro _ ⟨d,a,h,rfl⟩
 simp! only[]
 exact⟨_,h,rfl⟩
theorem row_ok (h:Pot ds){m:Nat}(m24:m<=24):Ok (zaP ds [.int m]) fun r=>∃(f:Nat->Int) (ds':List D),Pot ds'/\(∀i,i<m-> -10^59<=f i/\f i<=10^59)/\r=(.own (wI m f),ds'):=by
 simp! only[↓zaP,↓zbw,↓zbI]
 refine(zcd h (m:=3) (by lia) (by lia)).mono ?_
 rintro _ ⟨y,d2,hy,h2,rfl⟩
 have hy':∃z:Int,0<=z/\z<=10^57/\[D.int 1,D.int 1,D.int 1000000000000000000000000000000000000000000000000000000000][y]? =some (.int z):=by
  have:y=0\/y=1\/y=2:=by lia
  rcases this with rfl|rfl|rfl<;>exact⟨_,by decide,by decide,rfl⟩
 obtain⟨g,g0,g1,eg⟩:=hy'
 simp! only[eg]
 refine⟨zaI (by lia) (by lia),by lia,zgx (fun i acc ρ=>∃(f:Nat->Int) (ds':List D) (s:Sl),Pot ds'/\(∀j,j<i-> -10^59<=f j/\f j<=10^59)/\acc=wI i f/\ρ=[.val (.int g),.par ds',s]) ⟨fun _=>0,d2,.emp,h2,fun j hj=>by lia,rfl,rfl⟩ ?_ ?_⟩
 ·rintro i _ _ hi ⟨f,d1,s,h1,bd,rfl,rfl⟩
  simp! only[↓zbK]
  refine(zcd h1 (m:=19) (by lia) (by lia)).mono ?_
  rintro _ ⟨t,d3,ht,h3,rfl⟩
  simp! only[]
  refine⟨zg3 (by lia),?_⟩
  refine(zcd h3 (m:=3) (by lia) (by lia)).mono ?_
  rintro _ ⟨u,d4,hu,h4,rfl⟩
  simp! only[]
  have p1:g*((t:Int)-9)<=g*9:=Int.mul_le_mul_of_nonneg_left (by lia) g0
  have p2:g*(-9)<=g*((t:Int)-9):=Int.mul_le_mul_of_nonneg_left (by lia) g0
  generalize g*((t:Int)-9)=w at p1 p2
  refine⟨_,d4,_,h4,?_,wI_snoc i f _,rfl⟩
  intro j hj
  by_cases z:j<i
  ·rw[if_pos z];exact bd j z
  ·rw[if_neg z];lia
 ·rintro _ _ ⟨f,d1,s,h1,bd,rfl,rfl⟩
  simp! only[]
  exact⟨f,d1,h1,bd,rfl⟩
theorem Lab.join {L:Nat->Int}(h:Lab m K i L)(ok:KOk m K)(hi:i<K.length){one other:Int}(e1:L (hI K i).toNat=one)(e2:L (tI K i).toNat=other):
  Lab m K (i+1) fun v=>if L v=other then one else L v:=by
 obtain⟨o1,o2,o3⟩:=ok i hi
 refine⟨fun j hj=>?_,fun S cl u v hu hv e=>?_⟩
 ·by_cases z:j=i
  ·subst z
   rw[e1,e2,if_pos rfl]
   split<;>rfl
  ·rw[h.one j (by lia)]
 ·have two:=h.two S fun j hj=>cl j (by lia)
  have ci:=cl i (by lia)
  have t1:∀u:Nat,u<=m->L u=one->(S u↔S (hI K i)):=fun u hu z=>by
   have:=two u (hI K i).toNat hu (by lia) (by rw[z,e1])
   rwa[show(((hI K i).toNat:Nat):Int)=hI K i by lia]at this
  have t2:∀u:Nat,u<=m->L u=other->(S u↔S (hI K i)):=fun u hu z=>by
   have:=two u (tI K i).toNat hu (by show(lI K i+1).toNat<=m;lia) (by rw[z,e2])
   rw[show(((tI K i).toNat:Nat):Int)=tI K i from Int.toNat_of_nonneg (by show 0<=lI K i+1;lia)]at this
   exact this.trans ci.symm
  by_cases p:L u=other<;>by_cases q:L v=other
  ·exact(t2 u hu p).trans (t2 v hv q).symm
  ·rw[if_pos p,if_neg q]at e
   exact(t2 u hu p).trans (t1 v hv e.symm).symm
  ·rw[if_neg p,if_pos q]at e
   exact(t1 u hu e).trans (t2 v hv q).symm
  ·rw[if_neg p,if_neg q]at e
   exact two u v hu hv e
def bef (h:Nat->Int):Nat->Int
 |0=>0
 |n+1=>bef h n+(((List.range n).map h).count (h n):Nat)
def aft (g:Nat->Int)(n:Nat):Int:=((List.range n).map fun u=>(((((List.range n).map g).drop (u+1)).count (g u):Nat):Int)).sum
theorem zgb {g h:Nat->Int}{x:Nat}:∀{l:List Nat},(∀u∈l,g u=g x↔h u=h x)->(l.map g).count (g x)=(l.map h).count (h x)
 |[],_=>rfl
 |u::l,a=>by
  rw[List.map_cons,List.map_cons,List.count_cons,List.count_cons,zgb fun v hv=>a v (by simp[hv])]
  have:=a u (by simp)
  by_cases z:g u=g x
  ·simp[z,this.mp z]
  ·have z2:¬h u=h x:=fun q=>z (this.mpr q)
   simp[z,z2]
theorem zjz:∀(l:List Nat) (f g:Nat->Int),(l.map fun u=>f u+g u).sum=(l.map f).sum+(l.map g).sum
 |[],_,_=>rfl
 |u::l,f,g=>by
  simp only[List.map_cons,List.sum_cons,zjz l f g];lia
theorem zjT (g:Nat->Int)(x:Int):∀l:List Nat,(l.map fun u=>if x=g u then(1:Int)else 0).sum=((l.map g).count x:Nat)
 |[]=>rfl
 |u::l=>by
  rw[List.map_cons,List.map_cons,List.sum_cons,zjT g x l,List.count_cons]
  by_cases z:x=g u
  ·simp[z];lia
  ·have:(g u==x)=false:=by simpa using fun q=>z q.symm
   simp[z,this]
theorem aft_succ (g:Nat->Int)(n:Nat):aft g (n+1)=aft g n+(((List.range n).map g).count (g n):Nat):=by
 unfold aft
 rw[<-zjT,<-zjz,List.range_succ,List.map_append,List.sum_append]
 have e0:(((List.range n++[n]).map g).drop (n+1))=[]:=by simp
 simp only[List.map_cons,List.map_nil,List.sum_cons,List.sum_nil]
 rw[e0]
 simp only[List.count_nil]
 have:∀l:List Nat,(∀u∈l,u<n)->(l.map fun u=>((((List.map g (List.range n)++[g n]).drop (u+1)).count (g u):Nat):Int)).sum=(l.map fun u=>(((((List.range n).map g).drop (u+1)).count (g u):Nat):Int)+if g n=g u then(1:Int)else 0).sum:=fun l=>by
  induction l with
  |nil=>intro _;rfl
  |cons u l ih=>
   intro hl
   simp only[List.map_cons,List.sum_cons]
   rw[ih fun v hv=>hl v (by simp[hv])]
   have hu:=hl u (by simp)
   rw[List.drop_append_of_le_length (by simp;lia),List.count_append]
   congr 1
   by_cases z:g n=g u
   ·simp[z]
   ·have:(g n==g u)=false:=by simpa using z
    simp[z,List.count_cons,this]
 have t:=this (List.range n) fun u hu=>List.mem_range.mp hu
 simp only[List.map_append,List.map_cons,List.map_nil]at t ⊢
 lia
theorem zfv {g h:Nat->Int}:∀{n:Nat},(∀u v,u<n->v<n->(g u=g v↔h u=h v))->aft g n=bef h n
 |0,_=>rfl
 |n+1,a=>by
  rw[aft_succ,zfv fun u v hu hv=>a u v (by lia) (by lia)]
  show _=bef h n+_
  rw[zgb fun u hu=>a u n (by have:=List.mem_range.mp hu;lia) (by lia)]
theorem ziU (n99:n<=101)(g:Nat->Int)(ha:a<n)(hb:b<n):Ok (zdJ [.lst (wI n g),.int a,.int b]) fun r=>r= .own (wI n fun v=>if g v=g b then g a else g v):=by
 simp! only[↓zdJ,↓zfG,↓zev]
 refine⟨by lia,zcS (fun ρ=>∃z,ρ=[.val (.lst (wI n g)),.val (.int b),.val (.int a),z]) (fun v=> .int (if g v=g b then g a else g v)) ⟨_,rfl⟩ ?_ ?_⟩
 ·rintro v _ hv ⟨z,rfl⟩
  simp! only[↓zeG,zbC _ ha,zbC _ hb]
  exact⟨fun q=>⟨by rw[if_pos q],_,rfl⟩,fun q=>⟨by rw[if_neg q],_,rfl⟩⟩
 ·rintro _ ⟨z,rfl⟩
  simp! only[]
theorem cnt_ok (l:List Int)(x:Int):dCntI (.lst (l.map .int)) (.int x)=some (.int (l.count x:Nat)):=by
 show(zaM (l.map .int)).map _=_
 rw[za4];rfl
theorem zfZ (n:Nat)(g:Nat->Int):wI n g=((List.range n).map g).map .int:=by rw[List.map_map];rfl
section
variable {m:Nat} (m24:m<=100) {K:Kp} (n60:K.length<=60) (ok:KOk m K)
include m24 n60 ok
theorem zhu:Ok (zaR [.ptr (bkT m (kw K))]) fun r=>∃g,Lab m K K.length g/\r=(.val (.int (aft g (m+1))),[.ptr (bkT m (kw K))]):=by
 simp! only[↓zaR,↓zcM]
 refine⟨zaI (by lia) (by lia),?_⟩
 rw[show((m:Int)+1).toNat=m+1 by lia]
 refine⟨by lia,zcb (fun i ρ=>∃g s2,Lab m K i g/\ρ=[.emp,.val (.lst (wI (m+1) g)),s2]) ⟨fun v=>(v:Int),_,Lab.start m K,rfl⟩ ?_ ?_⟩
 ·rintro i _ hi ⟨g,s2,h,rfl⟩
  obtain⟨o1,o2,o3⟩:=ok i hi
  obtain⟨A,eA⟩:∃A:Nat,hI K i=A:=⟨_,(Int.toNat_of_nonneg o1).symm⟩
  obtain⟨T,eT⟩:∃T:Nat,lI K i+1=T:=⟨_,(Int.toNat_of_nonneg (by lia)).symm⟩
  simp! only[↓zcC,eA,eT]
  refine(ziU (n:=m+1) (by lia) g (a:=A) (b:=T) (by lia) (by lia)).mono ?_
  rintro _ rfl
  simp! only[]
  exact⟨_,_,h.join ok hi (one:=g A) (other:=g T) (by rw[eA];rfl) (by rw[show tI K i=(T:Int)from eT];rfl),rfl⟩
 ·rintro _ ⟨g,s2,h,rfl⟩
  simp! only[↓zct,zg7]
  refine⟨by lia,zcS (fun ρ=>∃s1 s2,ρ=[.val (.lst (wI (m+1) g)),s1,s2]) (fun u=> .int ((((List.range (m+1)).map g).drop (u+1)).count (g u):Nat)) ⟨_,_,rfl⟩ ?_ ?_⟩
  ·rintro u _ hu ⟨s1,s2,rfl⟩
   have e1:cutD (wI (m+1) g) (some ((u:Int)+1)) none=(((List.range (m+1)).map g).drop (u+1)).map .int:=by
    rw[show((u:Int)+1)=((u+1:Nat):Int) by lia,cut_drop,zfZ,List.map_drop]
   simp! only[↓zcu,e1,cnt_ok]
   exact⟨_,_,rfl⟩
  ·rintro _ ⟨s1,s2,rfl⟩
   simp! only[zhl]
   exact⟨g,h,rfl⟩
theorem can_ok:Ok (zbc [.ptr (bkT m (kw K))]) fun r=>r=(.val (.int ((m:Int)-K.length)),[.ptr (bkT m (kw K))]):=by
 simp! only[↓zbc,↓zdQ]
end
theorem ask_ok (n60:K.length<=60)(hab:a<=b)(hb:b<m):Ok (zcF [.ptr (bkT m (kw K)),.val (.int a),.val (.int b)]) fun r=>
  (¬Reach K a ((b:Int)+1)/\r=(.tre (.tup [.d (.str "free"),.d .non]),[.ptr (bkT m (kw K)),.emp,.emp]))\/
  ∃q,Sgs K a ((b:Int)+1) q/\r=(.tre (.tup [.d (.str "sum"),.d (.int (tot K q)),.l (q.map pr)]),[.ptr (bkT m (kw K)),.emp,.emp]):=by
 simp! only[↓zcF,↓zeS]
 refine(zf5 hab hb).mono ?_
 rintro _ rfl
 simp! only[]
 refine(zhe K n60 a b).mono ?_
 rintro _ (⟨nr,rfl⟩|⟨q,s,rfl⟩)
 ·simp! only[kw_fl]
  first|exact .inl ⟨nr,rfl⟩|exact .inl nr
 ·simp! only[pr_fl,kw_fl,↓zdX]
  refine(zhC s.sg n60).mono ?_
  rintro _ rfl
  simp! only[]
  exact .inr ⟨q,s,rfl⟩
section
variable {m:Nat} (m24:m<=100) {K:Kp} (n60:K.length<=60) (ok:KOk m K) {a b:Nat} (hab:a<=b) (hb:b<m)
include m24 n60 ok hab hb
end
def pre (f:Nat->Int):Nat->Int
 |0=>0
 |n+1=>pre f n+f n
def Row (f:Nat->Int)(K:Kp):Prop:=∀i,i<K.length->sI K i=pre f (tI K i).toNat-pre f (hI K i).toNat
theorem Row.tot {a c:Int}(h:Row f K)(s:Sg K a c q):tot K q=pre f c.toNat-pre f a.toNat:=by
 have e:=s.pot fun v=>pre f v.toNat
 rw[<-e]
 unfold Prf.tot
 congr 1
 apply List.map_congr_left
 intro x hx
 rw[h x.1 (s.rng x hx).1,Int.mul_comm]
theorem zka (f:Nat->Int){m a:Nat}:∀{c:Nat},a<=c->c<=m->((((List.range m).map f).drop a).take (c-a)).sum=pre f c-pre f a
 |0,h1,h2=>by
  have:a=0:=by lia
  subst this;simp
 |c+1,h1,h2=>by
  by_cases z:a=c+1
  ·subst z;simp
  ·have ih:=zka f (m:=m) (a:=a) (c:=c) (by lia) (by lia)
   rw[show c+1-a=(c-a)+1 by lia,List.take_add_one,List.sum_append,ih]
   have:(((List.range m).map f).drop a)[c-a]? =some (f c):=by
    rw[List.getElem?_drop,show a+(c-a)=c by lia,List.getElem?_map,List.getElem?_range (by lia)];rfl
   rw[this]
   simp only[Option.toList_some,List.sum_cons,List.sum_nil,pre]
   lia
theorem cut_sum (f:Nat->Int){m a b:Nat}(hab:a<=b)(hb:b<m):∃ns,zaM (cutD (wI m f) (some (a:Int)) (some ((b:Int)+1)))=some ns/\ns.sum=pre f (b+1)-pre f a:=by
 have e:cutD (wI m f) (some (a:Int)) (some ((b:Int)+1))=((((List.range m).map f).drop a).take (b+1-a)).map .int:=by
  have:wI m f=((List.range m).map f).map .int:=zfZ m f
  rw[this]
  unfold cutD
  rw[show((b:Int)+1)=((b+1:Nat):Int) by lia,HT.zeQ,HT.zeQ,List.map_take,List.map_drop]
  simp only[List.length_map,List.length_range]
  rw[Nat.min_eq_left (by lia),Nat.min_eq_left (by lia)]
 exact⟨_,by rw[e,za4],zka f (by lia) (by lia)⟩
theorem Reach.refl (K:Kp)(u:Int):Reach K u u:=fun _ _ h=>h
theorem Reach.trans {u v w:Int}(h:Reach K u v)(g:Reach K v w):Reach K u w:=fun S c s=>g S c (h S c s)
theorem zep (h:i<K.length):hI (K++[x]) i=hI K i/\lI (K++[x]) i=lI K i/\sI (K++[x]) i=sI K i:=by
 simp[hI,lI,sI,List.getD,List.getElem?_append_left h]
theorem zkk (K:Kp)(a b:Nat)(t:Int):hI (K++[(a,b,t)]) K.length=a/\lI (K++[(a,b,t)]) K.length=b/\sI (K++[(a,b,t)]) K.length=t:=by
 simp[hI,lI,sI]
def Rk (m:Nat)(K:Kp):Prop:=∃(g:Nat->Int) (V:List Int),Lab m K K.length g/\V.Nodup/\(∀x,x∈V↔∃v,v<=m/\g v=x)/\V.length+K.length=m+1
theorem Rk.start (m:Nat):Rk m []:=by
 refine⟨fun v=>(v:Int),(List.range (m+1)).map fun v=>((v:Nat):Int),Lab.start m [],?_,fun x=>?_,by simp⟩
 ·rw[List.nodup_iff_pairwise_ne,List.pairwise_map]
  exact(List.nodup_iff_pairwise_ne.mp List.nodup_range).imp fun h=>by lia
 ·rw[List.mem_map]
  constructor
  ·rintro⟨v,hv,rfl⟩;exact⟨v,by have:=List.mem_range.mp hv;lia,rfl⟩
  ·rintro⟨v,hv,rfl⟩;exact⟨v,List.mem_range.mpr (by lia),rfl⟩
theorem Lab.pre {g:Nat->Int}(h:Lab m K K.length g)(x:Nat×Nat×Int):Lab m (K++[x]) K.length g:=by
 have e:∀j,j<K.length->tI (K++[x]) j=tI K j:=fun j hj=>by show lI _ j+1=lI _ j+1;rw[(zep hj).2.1]
 refine⟨fun j hj=>?_,fun S c=>h.two S fun j hj=>?_⟩
 ·rw[(zep hj).1,e j hj];exact h.one j hj
 ·have:=c j hj
  rwa[(zep hj).1,e j hj]at this
theorem Rk.snoc (h:Rk m K)(ok:KOk m K){a b:Nat}(hab:a<=b)(hb:b<m)(t:Int)(nr:¬Reach K a ((b:Int)+1)):Rk m (K++[(a,b,t)]):=by
 obtain⟨g,V,lb,nd,im,ln⟩:=h
 obtain⟨g1,g2,g3⟩:=zkk K a b t
 have ne:¬g a=g (b+1):=fun z=>nr (by have:=(lb.iff ok (u:=a) (v:=b+1) (by lia) (by lia)).mp z;simpa using this)
 have l2:=(lb.pre (a,b,t)).join (ok.snoc hab hb t) (by simp) (one:=g a) (other:=g (b+1)) (by rw[g1];simp) (by rw[show tI (K++[(a,b,t)]) K.length=((b+1:Nat):Int) by show lI _ _+1=_;rw[g2];lia];simp)
 have mo:g (b+1)∈V:=(im _).mpr ⟨b+1,by lia,rfl⟩
 refine⟨_,V.erase (g (b+1)),by rw[List.length_append];exact l2,nd.erase _,fun x=>?_,?_⟩
 ·rw[nd.mem_erase_iff,im]
  constructor
  ·rintro⟨h1,v,hv,rfl⟩
   exact⟨v,hv,by rw[if_neg h1]⟩
  ·rintro⟨v,hv,rfl⟩
   by_cases z:g v=g (b+1)
   ·rw[if_pos z];exact⟨ne,a,by lia,rfl⟩
   ·rw[if_neg z];exact⟨z,v,hv,rfl⟩
 ·rw[List.length_erase_of_mem mo,List.length_append]
  have:0<V.length:=List.length_pos_of_mem mo
  simp;lia
theorem zgo {u:Nat}:∀{v:Nat},u<=v->(∀p,u<=p->p<v->Reach K (p:Nat) ((p:Int)+1))->Reach K u v
 |0,h,_=>by
  have:u=0:=by lia
  subst this;exact Reach.refl _ _
 |v+1,h,a=>by
  by_cases z:u=v+1
  ·subst z;exact Reach.refl _ _
  ·have:=(zgo (u:=u) (v:=v) (by lia) fun p h1 h2=>a p h1 (by lia)).trans (a v (by lia) (by lia))
   simpa using this
theorem zfN (c:Int):∀n:Nat,2*bef (fun _=>c) n=(n:Int)*n-n
 |0=>rfl
 |n+1=>by
  show 2*(bef (fun _=>c) n+(((List.range n).map fun _=>c).count c:Nat))=_
  have:((List.range n).map fun _=>c).count c=n:=by simp[List.map_const']
  rw[this,Int.mul_add,zfN c n]
  have:((n+1:Nat):Int)*((n+1:Nat):Int)=(n:Int)*n+2*n+1:=by
   rw[Int.natCast_add,Int.mul_add,Int.add_mul,Int.add_mul];lia
  rw[this];lia
theorem aft_full {m:Nat}{g:Nat->Int}(lb:Lab m K K.length g)(ok:KOk m K)(al:∀p,p<m->Reach K (p:Nat) ((p:Int)+1)):aft g (m+1)=((m:Int)*((m:Int)+1))/2:=by
 have e:aft g (m+1)=bef (fun _=>0) (m+1):=zfv fun u v hu hv=>by
  have same:∀v,v<=m->g v=g 0:=fun v hv=>((lb.iff ok (u:=0) (v:=v) (by lia) hv).mpr (zgo (by lia) fun p _ h2=>al p (by lia))).symm
  simp[same u (by lia),same v (by lia)]
 have t:=zfN 0 (m+1)
 rw[e]
 have:((m+1:Nat):Int)*((m+1:Nat):Int)-((m+1:Nat):Int)=(m:Int)*((m:Int)+1):=by
  rw[Int.natCast_add,Int.mul_add,Int.add_mul,Int.mul_add];lia
 rw[this]at t
 lia
def nI (x:Nat):D:= .int x
theorem map_nI (l:List Nat):l.map nI=wL l.length fun i=> .int ((l.getD i 0:Nat):Int):=by
 apply List.ext_getElem?
 intro i
 by_cases h:i<l.length
 ·rw[zbC _ h,List.getElem?_map,List.getElem?_eq_getElem h]
  simp[nI,List.getD,h]
 ·rw[List.getElem?_eq_none (by simp;lia),List.getElem?_eq_none (by rw[zco];lia)]
theorem er_map {α β:Type}(f:α->β):∀(l:List α) (k:Nat),(l.map f).eraseIdx k=(l.eraseIdx k).map f
 |[],_=>by simp
 |_::_,0=>rfl
 |x::l,k+1=>by simp[er_map f l k]
theorem zjB {α:Type}:∀{l:List α} {k:Nat} (h:k<l.length),([l[k]]++l.eraseIdx k).Perm l
 |x::l,0,_=> .refl _
 |x::l,k+1,h=>((List.Perm.swap x _ _).trans ((zjB (l:=l) (k:=k) (by simpa using h)).cons x))
theorem order_ok (h:Pot ds){m:Nat}(m9:m<=100):Ok (zbi ds [.int (m:Nat)]) fun x=>∃(l:List Nat) (ds':List D),Pot ds'/\l.Perm (List.range m)/\x=(.own (l.map nI),ds'):=by
 simp! only[↓zbi,↓zcE,↓zcA]
 refine⟨zaI (by lia) (by lia),by lia,zaI (by lia) (by lia),by lia,zgx (fun j acc ρ=>∃(a r:List Nat) (ds':List D) (s:Sl),zbH [s]=true/\Pot ds'/\(a++r).Perm (List.range m)/\a.length=j/\acc=a.map nI/\ρ=[.par (r.map nI),.par ds',s]) ⟨[],List.range m,ds,.emp,rfl,h,.refl _,rfl,rfl,?_⟩ ?_ ?_⟩
 ·rfl
 ·rintro j _ _ hj ⟨a,r,d1,s,no,h1,pm,al,rfl,rfl⟩
  have ll:r.length=m-j:=by have:=pm.length_eq;simp at this;lia
  simp! only[↓zcr,ll]
  refine(zcd h1 (m:=((m-j:Nat):Int)) (by lia) (by lia)).mono ?_
  rintro _ ⟨k,d2,hk,h2,rfl⟩
  have kl:k<r.length:=by lia
  have ex:(r.map nI)[k]? =some (.int ((r[k]:Nat):Int)):=by rw[List.getElem?_map,List.getElem?_eq_getElem kl];rfl
  simp! only[ll,ex]
  refine⟨⟨by lia,by lia,by lia⟩,a++[r[k]],r.eraseIdx k,d2,.val (.int j),rfl,h2,?_,by simp;lia,by simp[nI],by rw[er_map]⟩
  refine List.Perm.trans ?_ pm
  rw[List.append_assoc]
  exact List.Perm.append_left a (zjB kl)
 ·rintro _ _ ⟨a,r,d1,s,no,h1,pm,al,rfl,rfl⟩
  simp! only[]
  have rl:r=[]:=List.eq_nil_of_length_eq_zero (by have:=pm.length_eq;simp at this;lia)
  subst rl
  refine⟨a,d1,h1,by simpa using pm,rfl⟩
def ed (k:Nat)(f:Nat->Int)(a:Nat):Nat×Nat×Int:=(a,a+k-1,pre f (a+k)-pre f a)
section
variable {k:Nat} (k2:1<=k) {f:Nat->Int} {L:List Nat}
include k2
theorem zdx (h:i<L.length):hI (L.map (ed k f)) i=L[i]/\tI (L.map (ed k f)) i=(L[i]:Int)+k:=by
 have:(L.map (ed k f)).getD i (0,0,0)=ed k f L[i]:=by simp[List.getD,h]
 unfold tI hI lI
 rw[this]
 refine⟨rfl,?_⟩
 show(((L[i]+k-1:Nat):Int))+1=_
 lia
theorem ed_cl (h:∀a:Nat,a∈L->(S a↔S ((a:Int)+k))):Cl (L.map (ed k f)) S:=fun i hi=>by
 rw[List.length_map]at hi
 rw[(zdx k2 hi).1,(zdx k2 hi).2]
 exact h _ (List.getElem_mem hi)
theorem ed_step {a:Nat}(h:a∈L):Reach (L.map (ed k f)) a ((a:Int)+k):=fun S c s=>by
 obtain⟨i,hi,e⟩:=List.getElem_of_mem h
 have:=c i (by rw[List.length_map];exact hi)
 rw[(zdx k2 hi).1,(zdx k2 hi).2,e]at this
 exact this.mp s
end
theorem ed_new {k:Nat}(k2:2<=k)(k5:k<=5){at':Nat}(h:at'∉L):¬Reach (L.map (ed k f)) at' ((at':Int)+k):=fun r=>by
 have:=r (fun v=>v<=at'/\(v-at')%k=0) (ed_cl (by lia) fun a ha=>by
  have ne:a≠at':=fun z=>h (z ▸ ha)
  have:k=2\/k=3\/k=4\/k=5:=by lia
  rcases this with rfl|rfl|rfl|rfl<;>lia) ⟨Int.le_refl _,by simp⟩
 lia
theorem ed_row {k:Nat}(k2:1<=k)(f:Nat->Int)(L:List Nat):Row f (L.map (ed k f)):=fun i hi=>by
 rw[List.length_map]at hi
 rw[(zdx k2 hi).1,(zdx k2 hi).2]
 have:sI (L.map (ed k f)) i=pre f (L[i]+k)-pre f L[i]:=by
  unfold sI;simp[List.getD,hi,ed]
 rw[this]
 congr 2
theorem ed_ok {k n:Nat}(k2:1<=k){f:Nat->Int}(h:∀a∈L,a+k<=n):KOk n (L.map (ed k f)):=fun i hi=>by
 rw[List.length_map]at hi
 have e:=zdx (f:=f) k2 hi
 have:=h _ (List.getElem_mem hi)
 rw[e.1]
 have e2:lI (L.map (ed k f)) i=(L[i]:Int)+k-1:=by have:=e.2;unfold tI at this;lia
 rw[e2];lia
theorem zfq {k n:Nat}(k2:2<=k)(k5:k<=5){f:Nat->Int}{L:List Nat}(h:∀a,a+k<=n->a∈L){a c:Nat}(hac:a<=c)(hc:c<=n):Reach (L.map (ed k f)) a c↔(c-a)%k=0:=by
 constructor
 ·intro r
  have:=r (fun v=>(v-a)%k=0) (ed_cl (by lia) fun b _=>by
   have:k=2\/k=3\/k=4\/k=5:=by lia
   rcases this with rfl|rfl|rfl|rfl<;>lia) (by simp)
  have:k=2\/k=3\/k=4\/k=5:=by lia
  rcases this with rfl|rfl|rfl|rfl<;>lia
 ·intro e
  have go:∀j:Nat,a+k*j<=n->Reach (L.map (ed k f)) a ((a+k*j:Nat):Int):=fun j=>by
   induction j with
   |zero=>intro _;exact Reach.refl _ _
   |succ j ih=>
    intro hj
    rw[Nat.mul_succ]at hj
    have:=(ih (by lia)).trans (ed_step (f:=f) (L:=L) (k:=k) (by lia) (h (a+k*j) (by lia)))
    rw[Nat.mul_succ,show((a+(k*j+k):Nat):Int)=((a+k*j:Nat):Int)+k by lia]
    exact this
  have e2:=Nat.div_add_mod (c-a) k
  have:=go ((c-a)/k) (by lia)
  rwa[show a+k*((c-a)/k)=c by lia]at this
theorem ed_rk {k n:Nat}(k2:2<=k)(k5:k<=5){f:Nat->Int}:∀{L:List Nat},L.Nodup->(∀a∈L,a+k<=n)->Rk n (L.map (ed k f)):=by
 suffices ∀(L':List Nat),L'.Nodup->(∀a∈L',a+k<=n)->Rk n (L'.reverse.map (ed k f)) by
  intro L nd h
  have:=this L.reverse ((List.reverse_perm L).nodup_iff.mpr nd) fun a ha=>h a (List.mem_reverse.mp ha)
  rwa[List.reverse_reverse]at this
 intro L
 induction L with
 |nil=>intro _ _;exact Rk.start n
 |cons a L ih=>
  intro nd h
  have nd:=List.nodup_cons.mp nd
  have r:=ih nd.2 fun b hb=>h b (by simp[hb])
  have ha:=h a (by simp)
  rw[List.reverse_cons,List.map_append]
  refine r.snoc (ed_ok (by lia) fun b hb=>h b (by simp[List.mem_reverse.mp hb])) (a:=a) (b:=a+k-1) (by lia) (by lia) _ ?_
  have:=ed_new k2 k5 (f:=f) (L:=L.reverse) (at':=a) (by simpa using nd.1)
  rwa[show(((a+k-1:Nat):Int)+1)=(a:Int)+k by lia]
theorem ne_str (x:Str):dNe (.str x) (.str x)=some (.bl false):=(show Pl 0 (.str x)from⟨rfl,Nat.zero_le _⟩).ne (by decide)
theorem pl_si (x:Str)(i:Int):Pl 1 (.tup [.str x,.int i]):=zhW fun d hd=>by
 simp only[List.mem_cons,List.not_mem_nil,or_false]at hd
 rcases hd with rfl|rfl
 ·exact⟨rfl,Nat.zero_le _⟩
 ·exact zku 0 _
theorem pl_free:Pl 1 (.tup [.str "free",.non]):=zhW fun d hd=>by
 simp only[List.mem_cons,List.not_mem_nil,or_false]at hd
 rcases hd with rfl|rfl<;>exact⟨rfl,Nat.zero_le _⟩
theorem zkw (f:Nat->Int)(i:Nat):∀k:Nat,((List.range k).map fun j=>f (i+j)).sum=pre f (i+k)-pre f i
 |0=>by simp
 |k+1=>by
  rw[List.range_succ,List.map_append,List.sum_append,zkw f i k]
  show _=(pre f (i+k)+f (i+k))-pre f i
  simp;lia
theorem zcG {d:D}{n k:Nat}{r:Nat->Int}(h:Sq d n r)(hk:k<=n)(hn:n<=1000):Ok (zaF [d,.int k]) fun x=>x= .val (.tup (wI (n+1-k) fun i=>pre r (i+k)-pre r i)):=by
 have hl:((n:Int)-(k:Int)+1).toNat=n+1-k:=by lia
 simp! only[↓zaF,↓zdg,↓zc7,hl,h.ln]
 refine⟨zaI (by lia) (by lia),by lia,zcS (fun ρ=>∃s,ρ=[.val d,.val (.int k),s]) (fun i=> .int (pre r (i+k)-pre r i)) ⟨_,rfl⟩ ?_ ?_⟩
 ·rintro i _ hi ⟨s,rfl⟩
  have hc:=cut_w (n:=n) (a:=i) (b:=k) (fun j=> .int (r j)) (by lia)
  obtain⟨d',e1,e2⟩:=h.ct (some (i:Int)) (some ((i:Int)+(k:Int)))
  rw[hc]at e2
  simp! only[↓zc1,e1,e2,zhl,zkw]
  exact⟨_,rfl⟩
 ·rintro _ ⟨s,rfl⟩
  simp! only[]
section
variable {k n:Nat} (k2:2<=k) (k5:k<=5) (kn:k<=n) (n24:n<=24) (f:Nat->Int)
include k2 k5 kn n24
theorem book_ok (h:Pot ds):Ok (zaX [.par ds,.val (.lst (wI n f)),.val (.int k)]) fun r=>∃(L:List Nat) (ds':List D),Pot ds'/\L.Perm (List.range (n+1-k))/\r=(.tre (bkT n (kw (L.map (ed k f)))),[.par ds',.emp,.emp]):=by
 simp! only[↓zaX,↓zbO]
 refine(zcG (Sq.lst n f) kn (by lia)).mono ?_
 rintro _ rfl
 simp! only[↓zb3]
 refine(order_ok h (m:=n+1-k) (by lia)).mono ?_
 rintro _ ⟨L,d2,h2,pm,rfl⟩
 have ll:L.length=n+1-k:=by have:=pm.length_eq;simpa using this
 have nd:L.Nodup:=pm.symm.nodup List.nodup_range
 have lt:∀a∈L,a+k<=n:=fun a ha=>by have:=List.mem_range.mp (pm.mem_iff.mp ha);lia
 simp! only[map_nI,zg7]
 refine zcb (fun i ρ=>∃s5 s6:Sl,ρ=[.par d2,.val (.lst (wI n f)),.val (.int k),.tre (bkT n (kw ((L.take i).map (ed k f)))),.val (.tup (wI (n+1-k) fun i=>pre f (i+k)-pre f i)),s5,s6]) ⟨_,_,rfl⟩ ?_ ?_
 ·rintro i _ hi ⟨s5,s6,rfl⟩
  have hi:i<L.length:=hi
  obtain⟨a,ea⟩:∃a,L[i]=a:=⟨_,rfl⟩
  have eg:L.getD i 0=a:=by simp[List.getD,hi,ea]
  have ha:=lt a (ea ▸ List.getElem_mem hi)
  have at1:(a:Int)+(k:Int)-1=((a+k-1:Nat):Int):=by lia
  simp! only[↓zbW,eg,zbC _ (show a<n+1-k by lia),at1]
  have nin:a∉L.take i:=fun z=>by
   obtain⟨j,hj,e⟩:=List.getElem_of_mem z
   rw[List.length_take]at hj
   rw[List.getElem_take]at e
   have:=(List.getElem_inj (h₀:=by lia) (h₁:=hi) nd).mp (e.trans ea.symm)
   lia
  have tk:L.take (i+1)=L.take i++[a]:=by rw[List.take_add_one,List.getElem?_eq_getElem hi,ea];rfl
  have tl:((L.take i).map (ed k f)).length=i:=by simp;lia
  refine(zjU (m:=n) (K:=(L.take i).map (ed k f)) (by lia) (a:=a) (b:=a+k-1) (by lia) (by lia) (pre f (a+k)-pre f a)).mono ?_
  have un:=ed_new k2 k5 (f:=f) nin
  rw[show(a:Int)+(k:Int)=((a+k-1:Nat):Int)+1 by lia]at un
  rintro _ (⟨nr,rfl⟩|⟨q,s,rfl⟩)
  ·simp! only[tl,(pl_si "new" (i:Int)).ne (by decide:1<=50)]
   rw[show(L.take i).map (ed k f)++[(a,a+k-1,pre f (a+k)-pre f a)]=(L.take (i+1)).map (ed k f) by rw[tk,List.map_append];rfl]
   exact⟨_,_,rfl⟩
  ·exact absurd s.sg.reach un
 ·rintro _ ⟨s5,s6,rfl⟩
  rw[List.take_length]
  simp! only[]
  exact⟨L,d2,h2,pm,rfl⟩
end
def cb (k a j:Nat):Nat:=(List.range j).countP fun t=>(t+1)%k==0
theorem cb_succ (k a j:Nat):cb k a (j+1)=cb k a j+if(j+1)%k=0 then 1 else 0:=by
 unfold cb
 rw[List.range_succ,List.countP_append,List.countP_singleton]
 simp
def cs (k n:Nat):Nat->Int
 |0=>0
 |a+1=>cs k n a+(cb k a (n-a):Nat)
theorem drop_map (h:Nat->Int)(N a:Nat):((List.range N).map h).drop a=(List.range (N-a)).map fun t=>h (a+t):=by
 apply List.ext_getElem?
 intro i
 rw[List.getElem?_drop,List.getElem?_map,List.getElem?_map]
 by_cases z:i<N-a
 ·rw[List.getElem?_range (by lia),List.getElem?_range z];rfl
 ·rw[List.getElem?_eq_none (by simp;lia),List.getElem?_eq_none (by simp;lia)];rfl
theorem Reach.symm (h:Reach K u v):Reach K v u:=fun S c sv=>Classical.byContradiction fun nu=>h (fun w=>¬S w) (fun i hi=>not_congr (c i hi)) nu sv
theorem cs_aft {k:Nat}(k2:2<=k)(k5:k<=5)(n:Nat):aft (fun u=>((u%k:Nat):Int)) (n+1)=cs k n n:=by
 have one:∀u,u<=n->(((((List.range (n+1)).map fun u=>((u%k:Nat):Int)).drop (u+1)).count ((u%k:Nat):Int):Nat):Int)=(cb k u (n-u):Nat):=fun u hu=>by
  rw[drop_map,show n+1-(u+1)=n-u by lia,List.count,List.countP_map]
  congr 1
  unfold cb
  apply List.countP_congr
  intro t _
  have:k=2\/k=3\/k=4\/k=5:=by lia
  simp only[Function.comp,beq_iff_eq]
  rcases this with rfl|rfl|rfl|rfl<;>lia
 have sq:∀(c:Nat->Int) j,((List.range (j+1)).map c).sum=((List.range j).map c).sum+c j:=fun c j=>by
  rw[List.range_succ,List.map_append,List.sum_append];simp
 have sm:∀j,j<=n+1->((List.range j).map fun u=>(((((List.range (n+1)).map fun u=>((u%k:Nat):Int)).drop (u+1)).count ((u%k:Nat):Int):Nat):Int)).sum=cs k n j:=fun j=>by
  induction j with
  |zero=>intro _;rfl
  |succ j ih=>
   intro hj
   rw[sq,ih (by lia),one j (by lia)];rfl
 unfold aft
 rw[sm (n+1) (Nat.le_refl _)]
 show cs k n n+(cb k n (n-n):Nat)=cs k n n
 rw[Nat.sub_self]
 simp[cb]
section
variable {k n:Nat} (k2:2<=k) (k5:k<=5) (kn:k<=n) (n24:n<=24) (f:Nat->Int) {L:List Nat} (pm:L.Perm (List.range (n+1-k)))
include k2 k5 kn n24 pm
theorem zgG:Ok (zaw [.ptr (bkT n (kw (L.map (ed k f)))),.val (.lst (wI n f)),.val (.int k)]) fun r=>r=(.val (.bl true),[.ptr (bkT n (kw (L.map (ed k f)))),.emp,.emp]):=by
 have ll:L.length=n+1-k:=by have:=pm.length_eq;simpa using this
 have ml:(L.map (ed k f)).length=n+1-k:=by rw[List.length_map,ll]
 have lt:∀a∈L,a+k<=n:=fun a ha=>by have:=List.mem_range.mp (pm.mem_iff.mp ha);lia
 have im:∀a,a+k<=n->a∈L:=fun a ha=>pm.mem_iff.mpr (List.mem_range.mpr (by lia))
 have ok:KOk n (L.map (ed k f)):=ed_ok (by lia) lt
 have ro:=ed_row (k:=k) (by lia) f L
 simp! only[↓zaw,↓za9,↓zbp]
 refine⟨zaI (by lia) (by lia),zcb (fun a ρ=>∃s4 s5 s6:Sl,ρ=[.ptr (bkT n (kw (L.map (ed k f)))),.val (.lst (wI n f)),.val (.int k),.val (.int (cs k n a)),s4,s5,s6]) ⟨_,_,_,rfl⟩ ?_ ?_⟩
 ·rintro a _ ha ⟨s4,s5,s6,rfl⟩
  have hna:((n:Int)-(a:Int)).toNat=n-a:=by lia
  simp! only[↓zbf,↓zbk,hna,zkj]
  refine⟨⟨zaI (by lia) (by lia),zaI (by lia) (by lia)⟩,zcb (fun j ρ=>∃s5 s6:Sl,ρ=[.ptr (bkT n (kw (L.map (ed k f)))),.val (.lst (wI n f)),.val (.int k),.val (.int (cs k n a+(cb k a j:Nat))),.val (.int a),s5,s6]) ⟨s5,s6,by simp[cb]⟩ ?_ ?_⟩
  ·rintro j _ hj ⟨s5,s6,rfl⟩
   obtain⟨b,hb⟩:∃b,b=a+j:=⟨_,rfl⟩
   have eb:(a:Int)+(j:Nat)=(b:Nat):=by lia
   have bn:b<n:=by lia
   obtain⟨ns,e1,e2⟩:=cut_sum f (show a<=b by lia) bn
   have kk:k=2\/k=3\/k=4\/k=5:=by lia
   have rc:Reach (L.map (ed k f)) a ((b:Int)+1)↔((b:Int)+1-a)%k=0:=by
    have:=zfq k2 k5 (f:=f) im (show a<=b+1 by lia) (by lia)
    rw[show((b:Int)+1)=((b+1:Nat):Int) by lia,this]
    rcases kk with rfl|rfl|rfl|rfl<;>lia
   have cc:cb k a (j+1)=cb k a j+if((b:Int)+1-a)%k=0 then 1 else 0:=by
    rw[cb_succ]
    congr 1
    by_cases z:(j+1)%k=0
    ·rw[if_pos z,if_pos (by rcases kk with rfl|rfl|rfl|rfl<;>lia)]
    ·rw[if_neg z,if_neg (by rcases kk with rfl|rfl|rfl|rfl<;>lia)]
   simp! only[↓zbl,eb,e1,e2]
   refine⟨by lia,fun z=>?_,fun z=>?_⟩
   ·simp! only[↓zaS]
    refine(ask_ok (m:=n) (K:=L.map (ed k f)) (by lia) (a:=a) (b:=b) (by lia) bn).mono ?_
    rintro _ (⟨nr,rfl⟩|⟨q,s,rfl⟩)
    ·exact absurd (rc.mpr z) nr
    ·have et:tot (L.map (ed k f)) q=pre f (b+1)-pre f a:=by have:=ro.tot s.sg;simpa using this
     have e5:cutD [D.str "sum",D.int (pre f (b+1)-pre f a),D.lst (q.map pr)] none (some 2)=[.str "sum",.int (pre f (b+1)-pre f a)]:=rfl
     simp! only[et,e5,(pl_si "sum" (pre f (b+1)-pre f a)).ne (by decide:1<=50)]
     rw[show cs k n a+(cb k a j:Nat)+1=cs k n a+(cb k a (j+1):Nat) by rw[cc,if_pos z];lia]
     exact⟨_,_,rfl⟩
   ·simp! only[↓zaS]
    refine(ask_ok (m:=n) (K:=L.map (ed k f)) (by lia) (a:=a) (b:=b) (by lia) bn).mono ?_
    rintro _ (⟨nr,rfl⟩|⟨q,s,rfl⟩)
    ·have e5:cutD [D.str "free",D.non] none (some 2)=[.str "free",.non]:=rfl
     simp! only[e5,pl_free.ne (by decide:1<=50)]
     rw[show cb k a (j+1)=cb k a j by rw[cc,if_neg z];rfl]
     exact⟨_,_,rfl⟩
    ·exact absurd (rc.mp s.sg.reach) z
  ·rintro _ ⟨s5,s6,rfl⟩
   exact⟨_,_,_,rfl⟩
 ·rintro _ ⟨s4,s5,s6,rfl⟩
  simp! only[]
  refine(zhu (m:=n) (by lia) (by lia) ok).mono ?_
  rintro _ ⟨g,lb,rfl⟩
  have e:aft g (n+1)=cs k n n:=by
   rw[<-cs_aft k2 k5 n,zfv (h:=fun u=>((u%k:Nat):Int)) fun u v _ _=>Iff.rfl]
   refine zfv fun u v hu hv=>(lb.iff ok (by lia) (by lia)).trans ?_
   have kk:k=2\/k=3\/k=4\/k=5:=by lia
   rcases Nat.le_total u v with z|z
   ·rw[zfq k2 k5 im z (by lia)]
    rcases kk with rfl|rfl|rfl|rfl<;>lia
   ·rw[show Reach (L.map (ed k f)) u v↔Reach (L.map (ed k f)) v u from⟨Reach.symm,Reach.symm⟩,zfq k2 k5 im z (by lia)]
    rcases kk with rfl|rfl|rfl|rfl<;>lia
  simp! only[e]
  refine(can_ok (m:=n) (by lia) (by lia) ok).mono ?_
  rintro _ rfl
  have e2:((n:Int)-(L.length:Nat)==(k:Int)-1)=true:=by rw[beq_iff_eq];lia
  simp! only[e2]
end
def Sp (k r left:Nat)(K:Kp):Prop:=∀i,i<K.length->tI K i=hI K i+k\/(tI K i=hI K i+1/\hI K i%k<r/\hI K i%k≠left)
theorem sp_new {k r left p:Nat}(k2:2<=k)(k5:k<=5)(hr:r<k)(hl:left<k)(ne:r≠left)(sp:Sp k r left K)(hp:p%k=r):¬Reach K p ((p:Int)+1):=fun q=>by
 have kk:k=2\/k=3\/k=4\/k=5:=by lia
 have:=q (fun v=>(if r<left then v%k<=r else(left:Int)<v%k/\v%k<=r)) (fun i hi=>by
  show(if r<left then _ else _)↔(if r<left then _ else _)
  rcases sp i hi with e|⟨e,e1,e2⟩
  ·rw[e]
   rcases kk with rfl|rfl|rfl|rfl<;>(split<;>lia)
  ·rw[e]
   rcases kk with rfl|rfl|rfl|rfl<;>(split<;>lia)) (by
  show(if r<left then _ else _)
  rcases kk with rfl|rfl|rfl|rfl<;>(split<;>lia))
 change (if r<left then _ else _)at this
 rcases kk with rfl|rfl|rfl|rfl<;>(split at this<;>lia)
theorem Sp.snoc {k r left p:Nat}(sp:Sp k r left K)(hp:p%k=r)(ne:r≠left)(t:Int):Sp k (r+1) left (K++[(p,p,t)]):=fun i hi=>by
 by_cases z:i<K.length
 ·rw[(zep z).1,show tI (K++[(p,p,t)]) i=tI K i by show lI _ i+1=lI _ i+1;rw[(zep z).2.1]]
  rcases sp i z with e|⟨e,e1,e2⟩
  ·exact .inl e
  ·exact .inr ⟨e,by lia,e2⟩
 ·have:i=K.length:=by simp at hi;lia
  subst this
  obtain⟨g1,g2,g3⟩:=zkk K p p t
  rw[g1,show tI (K++[(p,p,t)]) K.length=(p:Int)+1 by show lI _ _+1=_;rw[g2]]
  exact .inr ⟨rfl,by lia,by lia⟩
theorem Sp.next {k r left:Nat}(sp:Sp k r left K):Sp k (r+1) left K:=fun i hi=>by
 rcases sp i hi with e|⟨e,e1,e2⟩
 ·exact .inl e
 ·exact .inr ⟨e,by lia,e2⟩
theorem Rk.one (h:Rk m K)(ok:KOk m K)(e:K.length=m){p:Nat}(hp:p<m):Reach K p ((p:Int)+1):=by
 obtain⟨g,V,lb,nd,im,ln⟩:=h
 have v1:V.length=1:=by lia
 obtain⟨x,rfl⟩:=List.length_eq_one_iff.mp v1
 have a1:g p=x:=by simpa using(im (g p)).mpr ⟨p,by lia,rfl⟩
 have a2:g (p+1)=x:=by simpa using(im (g (p+1))).mpr ⟨p+1,by lia,rfl⟩
 have:=(lb.iff ok (u:=p) (v:=p+1) (by lia) (by lia)).mp (by rw[a1,a2])
 simpa using this
theorem zdL {d1 d2 d3:D}{r L G:Nat->Int}(h1:Sq d1 n r)(h2:Sq d2 n L)(h3:Sq d3 n G)(hn:n<=1000)(hin:∀p,p<n->L p<=r p/\r p<=G p):
  Ok (zaO [d1,d2,d3]) fun x=>x= .val (.bl true):=by
 simp! only[↓zaO,↓zcH,h1.ln,h2.ln]
 simp! only[↓zcq,↓zcI,h1.it,h2.it,h3.it]
 refine⟨by lia,zcS (fun ρ=>∃a b c,ρ=[a,b,c]) (fun p=> .bl true) ⟨_,_,_,rfl⟩ ?_ ?_⟩
 ·rintro p _ hp ⟨a,b,c,rfl⟩
  have:=hin p hp
  simp! only[↓zcL,this.1,this.2]
  exact⟨_,_,_,rfl⟩
 ·rintro _ ⟨a,b,c,rfl⟩
  simp! only[zkK]
  rw[show(((List.range n).map fun _=>true).all id)=true by simp]
section
variable {k n:Nat} (k2:2<=k) (k5:k<=5) (kn:k<=n) (n24:n<=24) (f:Nat->Int) (bd:∀i,i<n-> -10^59<=f i/\f i<=10^59)
include k2 k5 kn n24 bd
theorem line_ok:Ok (zbB [.int k,.tup (wI (n+1-k) fun i=>pre f (i+k)-pre f i),.lst (wI n fun _=> -10^59),.lst (wI n fun _=>10^59)]) fun x=>∃d,x= .val d/\Ok (zbh [d,.lst (wI n f)]) fun x=>x= .val (.bl true):=by
 have hs:(n+1-k:Nat)+(k:Int)-1=(n:Int):=by lia
 have kr:Ok (zcz [.int k]) fun x=>x= .val (.bl true):=by
  simp! only[↓zcz,↓zeD,show(2:Int)<=(k:Int) by lia,show(k:Int)<=5 by lia]
 have br:Ok (zaY [.lst (wI n fun _=> -10^59),.lst (wI n fun _=>10^59),.int n]) fun x=>x= .val (.bl true):=by
  simp! only[↓zaY,↓zbT,beq_self_eq_true]
  refine(zdL (Sq.lst n _) (Sq.lst n _) (Sq.lst n _) (by lia) fun p hp=>⟨Int.le_refl _,by decide⟩).mono ?_
  rintro _ rfl
  simp! only[]
 have lp:Ok (zaz [.int k,.tup (wI (n+1-k) fun i=>pre f (i+k)-pre f i),.lst (wI n fun _=> -10^59),.lst (wI n fun _=>10^59)]) fun x=>x= .val (.bl true):=by
  simp! only[↓zaz,↓za8]
  refine kr.mono ?_
  rintro _ rfl
  simp! only[]
  refine⟨fun h=>by lia,fun _=>?_⟩
  simp! only[↓zbj,hs,show(n:Int)<=24 by lia]
  refine br.mono ?_
  rintro _ rfl
  simp! only[]
 simp! only[↓zbB,↓zdj]
 refine lp.mono ?_
 rintro _ rfl
 simp! only[↓zc3]
 refine⟨_,rfl,?_⟩
 simp! only[↓zbh,↓zcK]
 refine(zdL (Sq.lst n f) (Sq.tup n _) (Sq.tup n _) (by lia) bd).mono ?_
 rintro _ rfl
 simp! only[]
 refine(zcG (Sq.lst n f) kn (by lia)).mono ?_
 rintro _ rfl
 simp! only[dEq_wt]
 rw[eqW_iff.mpr fun _ _=>rfl]
end
theorem step_w {r n k:Nat}(hr:r<n)(k1:1<=k):∃c:Nat,1<=c/\zfu (r:Int) (k:Int) (cntS (r:Int) (n:Int) (k:Int))=wL c (fun i=> .int ((r+i*k:Nat):Int))/\(∀i,i<c->r+i*k<n):=by
 refine⟨(n-r-1)/k+1,Nat.succ_le_succ (Nat.zero_le _),?_,fun i hi=>?_⟩
 ·have:cntS (r:Int) (n:Int) (k:Int)=(n-r-1)/k+1:=by
   unfold cntS
   rw[if_pos (by lia),show(n:Int)-(r:Int)-1=((n-r-1:Nat):Int) by lia]
   have:(((n-r-1:Nat):Int)/(k:Int))=(((n-r-1)/k:Nat):Int):=rfl
   rw[this];generalize (n-r-1)/k=e;lia
  rw[this]
  unfold zfu wL
  congr 1
 ·have h1:i<=(n-r-1)/k:=by lia
  have:=(Nat.le_div_iff_mul_le (by lia)).mp h1
  lia
theorem math (ns:List Int)(hl:ns.length<=63):zfX [.scr ns]=some (.val (.bl true)):=by
 have:Ok (zfX [.scr ns]) fun x=>x= .val (.bl true):=by
  simp! only[↓zfX,↓m_law,↓zic]
  refine⟨rfl,zcb (fun i ρ=>∃s1 s2 s3 s4 s5 s6 s7 s8 s9 s10 s11,ρ=[.val (.scr ns),s1,s2,s3,s4,s5,s6,s7,s8,s9,s10,s11]) ⟨_,_,_,_,_,_,_,_,_,_,_,rfl⟩ ?_ ?_⟩
  ·rintro t _ ht ⟨s1,s2,s3,s4,s5,s6,s7,s8,s9,s10,s11,rfl⟩
   simp! only[↓zh2]
   refine(two_ok ns).mono ?_
   rintro _ ⟨A,B,rfl⟩
   simp! only[]
   refine(deal2_ok A B t ht).mono ?_
   rintro _ ⟨d1,h1,rfl⟩
   simp! only[]
   refine(zcd h1 (m:=4) (by lia) (by lia)).mono ?_
   rintro _ ⟨x,d2,hx,h2,rfl⟩
   obtain⟨k,ek⟩:∃k:Nat,(2:Int)+(x:Int)=(k:Nat):=⟨2+x,by lia⟩
   have k2:2<=k:=by lia
   have k5:k<=5:=by lia
   simp! only[ek]
   refine(zcd h2 (m:=4) (by lia) (by lia)).mono ?_
   rintro _ ⟨y,d3,hy,h3,rfl⟩
   obtain⟨w,hw,ew⟩:∃w:Nat,(w=13\/w=25)/\atI [D.int 13,D.int 25] ((y:Int)/3)=some (.int w):=by
    have:y=0\/y=1\/y=2\/y=3:=by lia
    rcases this with rfl|rfl|rfl|rfl
    ·exact⟨13,.inl rfl,rfl⟩
    ·exact⟨13,.inl rfl,rfl⟩
    ·exact⟨13,.inl rfl,rfl⟩
    ·exact⟨25,.inr rfl,rfl⟩
   simp! only[ew]
   refine⟨by decide+kernel,?_⟩
   refine(zcd h3 (m:=(w:Int)-k) (by lia) (by lia)).mono ?_
   rintro _ ⟨z,d4,hz,h4,rfl⟩
   obtain⟨n,en⟩:∃n:Nat,(k:Int)+(z:Int)=(n:Nat):=⟨k+z,by lia⟩
   have kn:k<=n:=by lia
   have n24:n<=24:=by lia
   simp! only[en]
   refine(row_ok h4 n24).mono ?_
   rintro _ ⟨f,d5,h5,bd,rfl⟩
   simp! only[]
   refine(book_ok k2 k5 kn n24 f h5).mono ?_
   rintro _ ⟨L,d6,h6,pm,rfl⟩
   simp! only[]
   refine(zgG k2 k5 kn n24 f pm).mono ?_
   rintro _ rfl
   have ll:L.length=n+1-k:=by have:=pm.length_eq;simpa using this
   have ml:(L.map (ed k f)).length=n+1-k:=by rw[List.length_map,ll]
   have nd:L.Nodup:=pm.symm.nodup List.nodup_range
   have lt:∀a∈L,a+k<=n:=fun a ha=>by have:=List.mem_range.mp (pm.mem_iff.mp ha);lia
   have ok:=ed_ok (f:=f) (k:=k) (by lia) lt
   have rk:=ed_rk (n:=n) k2 k5 (f:=f) nd lt
   have sp:∀left,Sp k 0 left (L.map (ed k f)):=fun left i hi=>by
    rw[List.length_map]at hi
    exact .inl (by rw[(zdx (by lia) hi).1,(zdx (by lia) hi).2])
   generalize L.map (ed k f)=K0 at ml ok rk sp
   simp! only[↓zhA,↓zhK]
   refine(zcd h6 (m:=(k:Int)) (by lia) (by lia)).mono ?_
   rintro _ ⟨left,d7,hleft,h7,rfl⟩
   simp! only[]
   refine⟨zaI (by lia) (by lia),?_⟩
   refine zcb (fun r ρ=>∃(K:Kp) (d:List D) (s7 s8 s9 s10 s11:Sl),KOk n K/\Rk n K/\Sp k r left K/\K.length=n+1-k+(if left<r then r-1 else r)/\Pot d/\ρ=[.val (.scr ns),.val (.int t),.own d,.val (.int k),.val (.lst (wI n f)),.tre (bkT n (kw K)),.val (.int left),s7,s8,s9,s10,s11]) ⟨K0,d7,_,_,_,_,_,ok,rk,sp left,by simpa using ml,h7,rfl⟩ ?_ ?_
   ·rintro r _ hr ⟨K,d,s7,s8,s9,s10,s11,ok,rk,sp,kl,hd,rfl⟩
    simp! only[↓zhx]
    refine⟨fun ne=>?_,fun e=>?_⟩
    ·obtain⟨c,c1,c2,c3⟩:∃c:Nat,1<=c/\zfu (r:Int) (k:Int) (cntS (r:Int) (n:Int) (k:Int))=wL c (fun i=> .int ((r+i*k:Nat):Int))/\(∀i,i<c->r+i*k<n):=step_w (by lia) (by lia)
     have c24:c<=100:=by have:=c3 (c-1) (by lia);have:=Nat.le_mul_of_pos_right (c-1) (show 0<k by lia);lia
     simp! only[c2]
     refine⟨⟨⟨⟨zaI (by lia) (by lia),zaI (by lia) (by lia)⟩,by lia⟩,by lia⟩,by lia,?_⟩
     refine(zcd hd (m:=(c:Int)) (by lia) (by lia)).mono ?_
     rintro _ ⟨i,d8,hi,h8,rfl⟩
     obtain⟨p,ep⟩:∃p,r+i*k=p:=⟨_,rfl⟩
     have pn:p<n:=by have:=c3 i (by lia);lia
     have pk:p%k=r:=by rw[<-ep,Nat.add_mul_mod_self_right];exact Nat.mod_eq_of_lt (by lia)
     simp! only[c2,zbC _ (show i<c by lia),ep,zbC _ pn]
     have nr:=sp_new k2 k5 (show r<k by lia) (show left<k by lia) (by lia) sp pk
     have kl24:K.length<=60:=by rw[kl];split<;>lia
     refine(zjU (m:=n) (K:=K) kl24 (a:=p) (b:=p) (Nat.le_refl _) pn (f p)).mono ?_
     rintro _ (⟨_,rfl⟩|⟨q,s,rfl⟩)
     ·simp! only[ne_str]
      refine⟨_,d8,_,_,_,_,_,ok.snoc (Nat.le_refl _) pn _,rk.snoc ok (Nat.le_refl _) pn _ nr,sp.snoc pk (by lia) _,?_,h8,rfl⟩
      rw[List.length_append,kl]
      show _+1=_
      by_cases z:left<r
      ·rw[if_pos z,if_pos (by lia)];lia
      ·rw[if_neg z,if_neg (by lia)];lia
     ·exact absurd s.sg.reach nr
    ·have e:r=left:=by lia
     subst e
     exact⟨K,d,_,_,_,_,_,ok,rk,sp.next,by rw[kl,if_neg (by lia),if_pos (by lia)];lia,hd,rfl⟩
   ·rintro _ ⟨K,d,s7,s8,s9,s10,s11,ok,rk,sp,kl,hd,rfl⟩
    have kl:K.length=n:=by rw[kl,if_pos (by lia)];lia
    simp! only[]
    refine(zhu (m:=n) (by lia) (by lia) ok).mono ?_
    rintro _ ⟨g,lb,rfl⟩
    rw[aft_full lb ok fun p hp=>rk.one ok kl hp]
    simp! only[]
    refine⟨zfl (by lia),by decide+kernel,?_⟩
    refine(can_ok (m:=n) (K:=K) (by lia) (by lia) ok).mono ?_
    rintro _ rfl
    have e0:(n:Int)-K.length=0:=by lia
    simp! only[e0,↓zhs,↓zht]
    refine⟨by lia,zcS (fun ρ=>∃z,ρ=[z]) (fun _=> .int (10^59)) ⟨_,rfl⟩ ?_ ?_⟩
    ·rintro i _ hi ⟨z,rfl⟩
     simp! only[↓zh3]
     exact⟨_,rfl⟩
    ·rintro _ ⟨z,rfl⟩
     simp! only[]
     refine(zcG (Sq.lst n f) kn (by lia)).mono ?_
     rintro _ rfl
     simp! only[↓zhh]
     refine⟨by lia,zcS (fun ρ=>∃z,ρ=[z]) (fun _=> .int (-10^59)) ⟨_,rfl⟩ ?_ ?_⟩
     ·rintro i _ hi ⟨z,rfl⟩
      simp! only[↓zhf]
      exact⟨_,rfl⟩
     ·rintro _ ⟨z,rfl⟩
      simp! only[]
      refine(line_ok k2 k5 kn n24 f bd).mono ?_
      rintro _ ⟨dl,rfl,hd2⟩
      simp! only[]
      refine hd2.mono ?_
      rintro _ rfl
      simp! only[]
      exact⟨_,_,_,_,_,_,_,_,_,_,_,rfl⟩
  ·rintro _ ⟨s1,s2,s3,s4,s5,s6,s7,s8,s9,s10,s11,rfl⟩
   simp! only[]
 obtain⟨_,e,rfl⟩:=this
 exact e
end Prf
def PySem.W.Fast.tw3162020466794637573:Nat:=0
def PySem.W.Fast.tw6614794734258917476:Nat:=0
def PySem.W.Fast.tw6942738009329969466:Nat:=0
def PySem.W.Fast.tw12257466504850244415:Nat:=0
def PySem.W.Fast.tw8997588006386767409:Nat:=0
def PySem.W.Fast.tw4509651382556675977:Nat:=0
def PySem.W.Fast.tw15618682854670226661:Nat:=0
def PySem.W.Fast.tw12674408623028802789:Nat:=0
def PySem.W.Fast.tw2482774775217832177:Nat:=0
def PySem.W.Fast.tw18294630388848216349:Nat:=0
def PySem.W.Fast.tw9363607640060243014:Nat:=0
def PySem.W.Fast.tw15117496091332344765:Nat:=0
def PySem.W.Fast.tw9188980483869800315:Nat:=0
def PySem.W.Fast.tw6213416008260949180:Nat:=0
def PySem.W.Fast.tw15014080377525089407:Nat:=0
def PySem.W.Fast.tw17813533830353783437:Nat:=0
def PySem.W.Fast.tw4250309170939310332:Nat:=0
def PySem.W.Fast.tw6256590395637774478:Nat:=0
def PySem.W.Fast.tw15470327440478580268:Nat:=0
def PySem.W.Fast.tw2576929140883623070:Nat:=0
def PySem.W.Fast.tw11913569426830414415:Nat:=0
def PySem.W.Fast.tw15886922147888941725:Nat:=0
def PySem.W.Fast.tw9000589733467200701:Nat:=0
def PySem.W.Fast.tw16389961035204658609:Nat:=0
def PySem.W.Fast.tw10266712862857920079:Nat:=0
def PySem.W.Fast.tw16441853965048473519:Nat:=0
def PySem.W.Fast.tw10191795421707038895:Nat:=0
def PySem.W.Fast.tw9629687195773783934:Nat:=0
def PySem.W.Fast.tw8977916963375539837:Nat:=0
def PySem.W.Fast.tw4359414570234977660:Nat:=0
def PySem.W.Fast.tw1478011174895854239:Nat:=0
def PySem.W.Fast.tw16221256206263950929:Nat:=0
def PySem.W.Fast.tw10304462649060575343:Nat:=0
def PySem.W.Fast.tw5816058302089299426:Nat:=0
def PySem.W.Fast.tw8797395269537643998:Nat:=0
def PySem.W.Fast.tw4729189429842131820:Nat:=0
def PySem.W.Fast.tw7738181233910861242:Nat:=0
def PySem.W.Fast.tw15176453074058149633:Nat:=0
def PySem.W.Fast.tw1344011725586300100:Nat:=0
def PySem.W.Fast.tw279127765389153222:Nat:=0
def PySem.W.Fast.tw965496735269766005:Nat:=0
def PySem.W.Fast.tw8072572034253601879:Nat:=0
def PySem.W.Fast.tw16212253955015680114:Nat:=0
def PySem.W.Fast.tw15557280247155344691:Nat:=0
def PySem.W.Fast.tw8595428896587715311:Nat:=0
def PySem.W.Fast.tw17184898936534598272:Nat:=0
def PySem.W.Fast.tw3678522052218256214:Nat:=0
def PySem.W.Fast.tw16369930986076062607:Nat:=0
def PySem.W.Fast.tw17179028134701831613:Nat:=0
def PySem.W.Fast.tw3569297743215643615:Nat:=0
def PySem.W.Fast.tw13726606010916253499:Nat:=0
def PySem.W.Fast.tw4689485392944259266:Nat:=0
def PySem.W.Fast.tw4319276386302123026:Nat:=0
def PySem.W.Fast.tw14846180584711532084:Nat:=0
def PySem.W.Fast.tw2098062295723697240:Nat:=0
def PySem.W.Fast.tw981183907903051192:Nat:=0
def PySem.W.Fast.tw1025013595652352669:Nat:=0
def PySem.W.Fast.tw15635900363292700959:Nat:=0
def PySem.W.Fast.tw14720366631942402020:Nat:=0
def PySem.W.Fast.tw3858503833114826817:Nat:=0
def PySem.W.Fast.tw10560037320976335505:Nat:=0
def PySem.W.Fast.tw13292174245678180456:Nat:=0
def PySem.W.Fast.tw14823297059395260487:Nat:=0
def PySem.W.Fast.tw15742109908511071371:Nat:=0
def PySem.W.Fast.tw3476385003143397964:Nat:=0
def PySem.W.Fast.tw9179755580303295035:Nat:=0
def PySem.W.Fast.tw12241131385388205751:Nat:=0
def PySem.W.Fast.tw14898029918931712073:Nat:=0
def PySem.W.Fast.tw9432832164825234462:Nat:=0
def PySem.W.Fast.tw115209964980668203:Nat:=0
def PySem.W.Fast.tw2113917673772001219:Nat:=0
def PySem.W.Fast.tw13292551304728070484:Nat:=0
def PySem.W.Fast.tw5075269087831007629:Nat:=0
def PySem.W.Fast.tw12181879619340835359:Nat:=0
def PySem.W.Fast.tw3600331145538052266:Nat:=0
def PySem.W.Fast.tw11712536283012777528:Nat:=0
def PySem.W.Fast.tw11756734787332400365:Nat:=0
def PySem.W.Fast.tw5884085509317038966:Nat:=0
def PySem.W.Fast.tw9665929916145711285:Nat:=0
def PySem.W.Fast.tw1640311913437950441:Nat:=0
def PySem.W.Fast.tw3300003306286554877:Nat:=0
def PySem.W.Fast.tw14181142664021602961:Nat:=0
def PySem.W.Fast.tw8772021454913103635:Nat:=0
def PySem.W.Fast.tw12710018501714625266:Nat:=0
def PySem.W.Fast.tw16801330584677308774:Nat:=0
def PySem.W.Fast.tw9565032816044499025:Nat:=0
def PySem.W.Fast.tw12968409136851423900:Nat:=0
def PySem.W.Fast.tw7609354218224292183:Nat:=0
def PySem.W.Fast.tw3487422678950550395:Nat:=0
def PySem.W.Fast.tw13025827884908060007:Nat:=0
def PySem.W.Fast.tw16721745565724004861:Nat:=0
def PySem.W.Fast.tw17446107711356365035:Nat:=0
def PySem.W.Fast.tw8992233352040250352:Nat:=0
def PySem.W.Fast.tw11922055254692875322:Nat:=0
def PySem.W.Fast.tw4553485986357371313:Nat:=0
def PySem.W.Fast.tw13798188564812942863:Nat:=0
def PySem.W.Fast.tw7970996538669065550:Nat:=0
def PySem.W.Fast.tw495773050900211392:Nat:=0
def PySem.W.Fast.tw16900458140108534280:Nat:=0
def PySem.W.Fast.tw461551570400708170:Nat:=0
def PySem.W.Fast.tw235817195050890763:Nat:=0
def PySem.W.Fast.tw6192602411670000461:Nat:=0
def PySem.W.Fast.tw7044859065435761547:Nat:=0
def PySem.W.Fast.tw15035010761018781786:Nat:=0
def PySem.W.Fast.tw2602480188610981680:Nat:=0
def PySem.W.Fast.tw17637248918784596468:Nat:=0
def PySem.W.Fast.tw7277419960466150525:Nat:=0
def PySem.W.Fast.tw5528193645078601371:Nat:=0
def PySem.W.Fast.tw10181590572770095773:Nat:=0
def PySem.W.Fast.tw582260006733032482:Nat:=0
def PySem.W.Fast.tw7100449499127763377:Nat:=0
def PySem.W.Fast.tw12294804917079612635:Nat:=0
def PySem.W.Fast.tw4448362367504264517:Nat:=0
def PySem.W.Fast.tw10630364376544857933:Nat:=0
def PySem.W.Fast.tw1604854708417867069:Nat:=0
def PySem.W.Fast.tw2459080180981320248:Nat:=0
def PySem.W.Fast.tw799200351264500805:Nat:=0
def PySem.W.Fast.tw14596251935036020166:Nat:=0
def PySem.W.Fast.tw13026967742366051631:Nat:=0
def PySem.W.Fast.tw14884330748297120984:Nat:=0
def PySem.W.Fast.tw6564343093298706748:Nat:=0
def PySem.W.Fast.tw78984298066192272:Nat:=0
def PySem.W.Fast.tw13491922851040284805:Nat:=0
def PySem.W.Fast.tw12671803567954586261:Nat:=0
def PySem.W.Fast.tw1934573966118179739:Nat:=0
def PySem.W.Fast.tw4195739940359352344:Nat:=0
def PySem.W.Fast.tw267174146290391608:Nat:=0
def PySem.W.Fast.tw6642153977049515014:Nat:=0
def PySem.W.Fast.tw2049046278365308765:Nat:=0
open PyProof.Rows PySem PySem.W
set_option maxRecDepth 100000 in
set_option maxHeartbeats 0 in
theorem PySem.Challenge.cw_tellsum_k84_whole_books_of_a_line_holds : PySem.Challenge.rw_tellsum_k84_whole_books_of_a_line.Holds := by
  w_on; o_law; k_head; (case hw => w_witness2)
  k_fill
  refine Prf.walk (l := PySem.Challenge.rw_tellsum_k84_whole_books_of_a_line) rfl rfl Prf.math (fun w h Y => W.kIn_of Y) ?F
  case F =>
    intro w mg fa h KX G hmg
    refine' Prf.all_mk KX G hmg ?h1 ?h2 ?h3 ?h4 ?h5 ?h6 ?h7 ?h8 ?h9 ?h10 ?h11 ?h17 ?h18 ?h19 ?h20 ?h21 ?h22 ?h23 ?h24 ?aC ?pg ?hd ?po ?sa ?mkC ?kc ?nK ?nM ?ainit ?iinit ?linit ?cinit ?kinit ?arefuse_no_stretch ?irefuse_no_stretch ?lrefuse_no_stretch ?crefuse_no_stretch ?krefuse_no_stretch ?atell_sum ?itell_sum ?ltell_sum ?ctell_sum ?ktell_sum ?aask_sum ?iask_sum ?lask_sum ?cask_sum ?kask_sum ?acan_come ?ican_come ?lcan_come ?ccan_come ?kcan_come ?aknown_many ?iknown_many ?lknown_many ?cknown_many ?kknown_many ?z0 ?z1 ?z2 ?z3 ?z4 ?z5 ?z6 ?z7 ?z8 ?y0
    (case h1 | h2 | h3 | h4 | h5 | h6 | h7 | h8 | h9 | h10 | h11 | h17 | h18 | h19 | h20 | h21 | h22 | h23 | h24 =>
      refine' M.FnAt.mk ?a ?l ?c ?k
      (case a => k_is)
      (case l => k_is)
      (case c => k_is)
      (case k => k_is))
    (case aC | pg | hd | po | sa | mkC | kc | nK | nM | ainit | iinit | linit | cinit | kinit | arefuse_no_stretch | irefuse_no_stretch | lrefuse_no_stretch | crefuse_no_stretch | krefuse_no_stretch | atell_sum | itell_sum | ltell_sum | ctell_sum | ktell_sum | aask_sum | iask_sum | lask_sum | cask_sum | kask_sum | acan_come | ican_come | lcan_come | ccan_come | kcan_come | aknown_many | iknown_many | lknown_many | cknown_many | kknown_many | z0 | z1 | z2 | z3 | z4 | z5 | z6 | z7 | z8 | y0 => k_is)
end
