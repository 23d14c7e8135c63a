import PyProof.Rows.All
import Wide.All
import OpenK.AllK
import Wide.FinOn
import Lean
import PyProof.EqAt
import PyProof.EqKinds
import PyProof.TupleCall
import PyProof.Rows.Range3
import PyProof.ZipIter
import PyProof.Draws
import PyProof.EnumMake
import PyProof.Rows.FactsTup
import PyProof.LayNew
import PyProof.Rows.SeqMore2
import PyProof.Rows.RuleIs
import KE.KRevIter
import PyProof.P3In
import KE.KSortTup
import PyProof.Rows.SortWalk
import PyProof.Rows.SetFrom
import KE.KIntText
import PyProof.StrOps2
import PySem.Challenge.RW_tellsum_k59_whole_all_rows_by_base_rows
set_option Elab.async false
set_option linter.all false
set_option bootstrap.genMatcherCode false
set_option compiler.extract_closed false
set_option maxRecDepth 100000
theorem zu0(h:True:=by first|exact .inl rfl|exact .inr rfl|assumption):True:=trivial
theorem zu1(h:True:=by decide):True:=trivial
theorem zu2(h:True:=by first|exact nobehind _ (by decide) (by decide)|rfl):True:=trivial
theorem zu3(h:True:=by rfl):True:=trivial
theorem zu4(h:True:=by intro _;rfl):True:=trivial
theorem zu5(h:True:=by trivial):True:=trivial
theorem zu6(h:True:=by exact fun _ _=>rfl):True:=trivial
theorem zu7(h:True:=by decide+kernel):True:=trivial
theorem zu8(h:True:=by exact fun _=>rfl):True:=trivial
theorem zu9(h:True:=by kernel_rfl):True:=trivial
local macro_rules | `(tactic| trivial) => `(tactic| first|exact Or.inl rfl|exact Or.inr rfl|exact Or.inr (Or.inl rfl)|exact Or.inr (Or.inr rfl))
noncomputable section
namespace L2
open PyProof.Rows PySem PySem.Spec
variable {xs vs:List V} {us its:List Value} {x m qual:Str} {u cd:Value} {H:Hp} {a b L it C dx:Addr} {o:Obj} {w:World} {h base:Heap} {g:Int->Int->Int} {g':Array GenState} {t' i j k n:Nat} {d':Drawn} {ch fp:List Addr} {e c tg:Expr} {pins' pins:List (Addr×Obj)} {N ns ps:List Str} {A:Around} {E Q:Value->Shared->Prop} {v y:V} {X:Cx} {t:TSet} {s s':Shared} {pos pos':Pos} {σ:St} {op:CmpOp} {K:W.Frag} {f:Value->Value->Sem Value} {tc:TT} {es:List Expr} {te:TE} {body:List Stmt} {ta:TA} {p:Addr×Obj} {pl:Sem Bool} {r:V->Hp->VK->Prop} {mA mg:Str->Option Value} {kw:List (Str×Value)} {prog:Program} {outer:List Env} {fd:FuncData} {kindOf:Str->Option NameKind} {sc scope:Scope} {CX:CXT} {params:Arguments}
noncomputable abbrev Key:=Sum Int Str
noncomputable def zme:Key->Value->Bool
 | .inl k,v=>Value.isInt k v
 | .inr x,v=>Value.isStrOf x v
noncomputable def keyH (w:World):Key->Int
 | .inl k=>hashInt k
 | .inr x=>hashStr w x
theorem zaQ:∀{k:Key} {v:Value},zme k v=true->(∃i t,k=Sum.inl i/\v=Value.int i t)\/(∃x t,k=Sum.inr x/\v=Value.str x t)
 | .inl i,v,h=>by
  obtain⟨t,e⟩:=Value.isInt_shape (k:=i) (v:=v) h
  exact .inl ⟨i,t,rfl,e⟩
 | .inr x,v,h=>by
  obtain⟨t,e⟩:=Value.isStrOf_shape (x:=x) (v:=v) h
  exact .inr ⟨x,t,rfl,e⟩
theorem znP (i:Int)(t:Tok):zme (.inl i) (.int i t)=true:=by simp[zme,Value.isInt]
theorem zm1 (x:Str)(t:Tok):zme (.inr x) (.str x t)=true:=by simp[zme,Value.isStrOf]
theorem key_ll (a b:Int):decide ((Sum.inl a:Key)=Sum.inl b)=(a==b):=by
 by_cases e:a=b
 ·subst e;simp
 ·have h:¬(Sum.inl a:Key)=Sum.inl b:=fun q=>e (Sum.inl.inj q)
  rw[decide_eq_false h]
  exact(beq_eq_false_iff_ne.mpr e).symm
theorem key_rr (a b:Str):decide ((Sum.inr a:Key)=Sum.inr b)=decide (a=b):=by
 by_cases e:a=b
 ·subst e;simp
 ·have h:¬(Sum.inr a:Key)=Sum.inr b:=fun q=>e (Sum.inr.inj q)
  rw[decide_eq_false h,decide_eq_false e]
theorem key_lr (a:Int)(b:Str):decide ((Sum.inl a:Key)=Sum.inr b)=false:=decide_eq_false (fun q=>nomatch q)
theorem key_rl (a:Str)(b:Int):decide ((Sum.inr a:Key)=Sum.inl b)=false:=decide_eq_false (fun q=>nomatch q)
noncomputable def zbj (prog:Program)(w:World):PySem.KeyKind prog w Key where
 is:=zme
 hash:=keyH w
 inj:=fun v a b ha hb=>by
  rcases zaQ ha with⟨i,t,rfl,rfl⟩|⟨x,t,rfl,rfl⟩
  ·rcases zaQ hb with⟨j,u,rfl,e⟩|⟨y,u,rfl,e⟩
   ·injection e with e1 _;rw[e1]
   ·exact nomatch e
  ·rcases zaQ hb with⟨j,u,rfl,e⟩|⟨y,u,rfl,e⟩
   ·exact nomatch e
   ·injection e with e1 _;rw[e1]
 byValue:=fun k v h=>by
  rcases zaQ h with⟨i,t,rfl,rfl⟩|⟨x,t,rfl,rfl⟩<;>rfl
 pyHash:=fun hv h=>by
  rcases zaQ hv with⟨i,t,rfl,rfl⟩|⟨x,t,rfl,rfl⟩
  ·exact wpAny_pyHash_int h
  ·exact wpAny_pyHash_str h
 eqBool:=fun hu hv h=>by
  rcases zaQ hu with⟨i,t,rfl,rfl⟩|⟨x,t,rfl,rfl⟩
  ·rcases zaQ hv with⟨j,u,rfl,rfl⟩|⟨y,u,rfl,rfl⟩
   ·rw[key_ll]at h;exact wpAny_eqBool_int h
   ·rw[key_lr]at h;exact SeqAt.EqAt.int_str i t y u _ _ _ _ h
  ·rcases zaQ hv with⟨j,u,rfl,rfl⟩|⟨y,u,rfl,rfl⟩
   ·rw[key_rl]at h;exact SeqAt.EqAt.str_int x t j u _ _ _ _ h
   ·rw[key_rr]at h;exact wpAny_eqBool_str h
 «strs»:=fun k x t v h=>by
  rcases zaQ h with⟨i,u,rfl,e⟩|⟨y,u,rfl,e⟩
  ·exact nomatch e
  ·injection e with e1 _
   subst e1
   cases v<;>rfl
theorem zkq (prog:Program)(w:World)(i:Int)(t:Tok):(zbj prog w).is (.inl i) (.int i t)=true:=znP i t
theorem zkI (prog:Program)(w:World)(x:Str)(t:Tok):(zbj prog w).is (.inr x) (.str x t)=true:=zm1 x t
inductive V where
 |non|bl (b:Bool)|int (i:Int)|str (x:Str)|byt (b:Array UInt8)|flt (b:UInt64)|ref (a:Addr)|ty (n:String)
 deriving DecidableEq
noncomputable def RelV:V->Value->Prop
 | .non,u=>u=Value.none
 | .bl b,u=>u=Value.bool b
 | .int i,u=>∃t,u=Value.int i t
 | .str x,u=>∃t,u=Value.str x t
 | .byt b,u=>∃t,u=Value.bytes b t
 | .flt b,u=>∃t,u=Value.float b t
 | .ref a,u=>u=Value.ref a
 | .ty n,u=>u=Value.type n
noncomputable abbrev Vals:List V->List Value->Prop:=Paired RelV
theorem Vals.length (r:Vals xs us):xs.length=us.length:=Paired.length r
theorem Vals.get:∀{xs:List V} {us:List Value} {i:Nat} {x:V},Vals xs us->xs[i]? =some x->∃u,us[i]? =some u/\RelV x u
 |_,_,_,_,.nil,e=>by simp at e
 |_,_,0,_,.cons r _,e=>by simp at e;subst e;exact⟨_,rfl,r⟩
 |_,_,i+1,x,.cons _ t,e=>by
  obtain⟨u,h1,h2⟩:=Vals.get (i:=i) (x:=x) t (by simpa using e)
  exact⟨u,by simpa using h1,h2⟩
theorem Vals.set {x:V}(r:RelV x u):∀{xs:List V} {us:List Value} (i:Nat),Vals xs us->Vals (xs.set i x) (us.set i u)
 |_,_,_,.nil=> .nil
 |_,_,0,.cons _ t=> .cons r t
 |_,_,i+1,.cons q t=> .cons q (Vals.set r i t)
theorem Vals.append:∀{xs ys:List V} {us ws:List Value},Vals xs us->Vals ys ws->Vals (xs++ys) (us++ws)
 |_,_,_,_,.nil,s=>s
 |_,_,_,_,.cons r t,s=> .cons r (Vals.append t s)
theorem Vals.take:∀{xs:List V} {us:List Value} (n:Nat),Vals xs us->Vals (xs.take n) (us.take n)
 |_,_,0,_=> .nil
 |_,_,_+1,.nil=> .nil
 |_,_,n+1,.cons r t=> .cons r (Vals.take n t)
theorem Vals.drop:∀{xs:List V} {us:List Value} (n:Nat),Vals xs us->Vals (xs.drop n) (us.drop n)
 |_,_,0,r=>r
 |_,_,_+1,.nil=> .nil
 |_,_,n+1,.cons _ t=>Vals.drop n t
noncomputable def RelO:Option V->Option Value->Prop
 |some v,some u=>RelV v u
 |none,none=>True
 |_,_=>False
noncomputable def KV {κ:Type}:List (κ×V)->List (κ×Value)->Prop:=Paired fun(p:κ×V) (q:κ×Value)=>p.1=q.1/\RelV p.2 q.2
noncomputable def kV:Key->V
 | .inl i=> .int i
 | .inr x=> .str x
inductive HO where
 /-- a list -/
 |lst (xs:List V)
 /-- a tuple (never changes) -/
 |tup (xs:List V)
 /-- a dict whose keys are ints and texts; one whose keys are tuples of ints and texts (the empty one is both) -/
 |dK (kvs:List (Key×V))|dT (kvs:List (List Key×V))
 /-- a set of ints: its members, its size -/
 |set (S:Int->Bool) (n:Nat)
 /-- an instance of the class at C, its dict at dx, its attributes -/
 |ins (C dx:Addr) (fs:List (Str×V))
 /-- the dict of the instance at x -/
 |own (x:Addr)
 /-- the dict of an exception -/
 |xd (fs:List (Str×V))
 /-- a bound method, f of x -/
 |met (f x:Addr)
 /-- a range object lo, lo + 1, .. below hi -/
 |rng (lo hi:Int)
 /-- a thing that is known to the object (the script; a dict while a loop walks it): read, never written while it is so -/
 |frz (o:Obj) (u:HO)
 /-- a code object's table -/
 |tbl (ps:Array Value)
 /-- any other thing, by what is true of its one object (a def of one's own: SetO a S n := HO.ext fun h => ..) -/
 |ext (φ:Heap->Prop)
noncomputable abbrev Hp:=Addr->Option HO
noncomputable def upd (H:Hp)(a:Addr)(o:HO):Hp:=fun b=>if b=a then some o else H b
theorem zar {o:HO}:upd H a o a=some o:=by unfold upd;rw[if_pos rfl]
theorem zal {o:HO}(h:b≠a):upd H a o b=H b:=by unfold upd;rw[if_neg h]
theorem zaJ {o:HO}(h:H a=some o)(h':H b=none):a≠b:=by
 intro e;subst e;rw[h]at h';cases h'
section
variable (P:Program) (w:World)
noncomputable def ObjOk (H:Hp)(h:Heap)(a:Addr):HO->Prop
 | .lst xs=>xs.length<=sizeLine/\∃(its:List Value) (n:Nat),Vals xs its/\h.get? a=some {cls:= .type "list",data:= .seq its.toArray n}
 | .tup xs=>xs.length<=sizeLine/\∃its:List Value,Vals xs its/\IsTup h a its.toArray
 | .dK kvs=>kvs.length<=sizeLine/\(a==sysModules)=false/\∃vs,KV kvs vs/\h.DictOf (zbj P w) a vs
 | .dT kvs=>kvs.length<=sizeLine/\(a==sysModules)=false/\∃xs:List (List Key×Addr×Value),
   Paired (fun(p:List Key×V) (q:List Key×Addr×Value)=>p.1=q.1/\H q.2.1=some (.tup (p.1.map kV))/\RelV p.2 q.2.2) kvs xs/\
   ∃o es ep,h.get? a=some o/\o.ExactDict/\o.data= .dict es ep/\es.toList=xs.map (entryOfKey (tupleKind (zbj P w)))/\(xs.map (·.1)).Nodup
 | .set S n=>h.SetOf (intKind P w) a S n
 | .ins C dx fs=>H dx=some (.own a)/\fs.length<=1000/\dx≠a/\h.get? a=some (W.instObj C dx)/\
   ∃mA,h.Ns1 dx mA/\(∀f,RelO (fs.lookup f) (mA f))/\PySem.Within mA (fs.map (·.1))
 | .own _=>∃o,h.get? a=some o
 | .xd fs=>∃mA,h.Ns1 a mA/\∀f,RelO (fs.lookup f) (mA f)
 | .rng lo hi=>∃t u v,h.get? a=some {cls:= .type "range",data:= .fields #[.int lo t,.int hi u,.int 1 v]}
 | .frz o u=>h.get? a=some o/\ObjOk H h a u
 | .tbl ps=>h.get? a=some {cls:= .none,data:= .fields ps}
 | .met f x=>h.get? a=some (W.methodObj (.ref f) (.ref x))
 | .ext φ=>φ h/\(∃o,h.get? a=some o)/\∀h1 h2:Heap,φ h1->(∀o,h1.get? a=some o->h2.get? a=some o)->φ h2
noncomputable def HOk (H:Hp)(h:Heap):Prop:=∀a o,H a=some o->ObjOk P w H h a o
end
section
variable {P:Program} {w:World} {H H':Hp} {h h':Heap} {a:Addr} {o:HO}
theorem ObjOk.lt (x:ObjOk P w H h a o):a<h.objs.size:=by
 cases o with
 |lst xs=>obtain⟨_,_,_,_,e⟩:=x;exact Heap.lt_size e
 |tup xs=>obtain⟨_,_,_,p⟩:=x;exact p.lt
 |dK kvs=>obtain⟨_,_,_,_,o,_,_,e,_⟩:=x;exact Heap.lt_size e
 |dT kvs=>obtain⟨_,_,_,_,o,_,_,e,_⟩:=x;exact Heap.lt_size e
 |set S n=>obtain⟨o,_,_,_,e,_⟩:=x;exact Heap.lt_size e
 |ins C dx fs=>obtain⟨_,_,_,e,_⟩:=x;exact Heap.lt_size e
 |own y=>obtain⟨_,e⟩:=x;exact Heap.lt_size e
 |xd fs=>obtain⟨_,⟨_,_,_,e,_⟩,_⟩:=x;exact Heap.lt_size e
 |rng lo hi=>obtain⟨_,_,_,e⟩:=x;exact Heap.lt_size e
 |frz ob u=>obtain⟨e,_⟩:=x;exact Heap.lt_size e
 |tbl ps=>exact Heap.lt_size (show h.get? a=some _ from x)
 |met f y=>exact Heap.lt_size (show h.get? a=some _ from x)
 |ext φ=>obtain⟨_,⟨_,e⟩,_⟩:=x;exact Heap.lt_size e
theorem Paired.mapP {α β:Type}{F G:α->β->Prop}:∀{l₁:List α} {l₂:List β},Paired F l₁ l₂->(∀a b,F a b->G a b)->Paired G l₁ l₂
 |_,_,.nil,_=> .nil
 |_,_,.cons r t,f=> .cons (f _ _ r) (Paired.mapP t f)
theorem ObjOk.stay (x:ObjOk P w H h a o)(k:∀b u,(b=a\/H b=some (.own a))->h.get? b=some u->h'.get? b=some u)
  (ho:∀b,H b=some (.own a)->H' b=some (.own a)) (ht:∀b xs,H b=some (.tup xs)->H' b=some (.tup xs)):ObjOk P w H' h' a o:=by
 induction o with
 |lst xs=>obtain⟨z,its,n,r,e⟩:=x;exact⟨z,its,n,r,k _ _ (.inl rfl) e⟩
 |tup xs=>obtain⟨z,its,r,ob,e,c⟩:=x;exact⟨z,its,r,ob,k _ _ (.inl rfl) e,c⟩
 |dK kvs=>obtain⟨z,y,vs,r,ob,es,ep,e,c⟩:=x;exact⟨z,y,vs,r,ob,es,ep,k _ _ (.inl rfl) e,c⟩
 |dT kvs=>
  obtain⟨z,y,xs,r,ob,es,ep,e,c⟩:=x
  exact⟨z,y,xs,Paired.mapP r fun p q z=>⟨z.1,ht _ _ z.2.1,z.2.2⟩,ob,es,ep,k _ _ (.inl rfl) e,c⟩
 |set S n=>obtain⟨ob,es,ep,t,e,c⟩:=x;exact⟨ob,es,ep,t,k _ _ (.inl rfl) e,c⟩
 |ins C dx fs=>
  obtain⟨d,z,ne,e,mA,⟨od,es,ep,e2,c⟩,r⟩:=x
  exact⟨ho _ d,z,ne,k _ _ (.inl rfl) e,mA,⟨od,es,ep,k _ _ (.inr d) e2,c⟩,r⟩
 |own y=>obtain⟨ob,e⟩:=x;exact⟨ob,k _ _ (.inl rfl) e⟩
 |xd fs=>obtain⟨mA,⟨od,es,ep,e,c⟩,r⟩:=x;exact⟨mA,⟨od,es,ep,k _ _ (.inl rfl) e,c⟩,r⟩
 |rng lo hi=>obtain⟨t,u,v,e⟩:=x;exact⟨t,u,v,k _ _ (.inl rfl) e⟩
 |frz ob u ih=>obtain⟨e,q⟩:=x;exact⟨k _ _ (.inl rfl) e,ih q⟩
 |tbl ps=>
  have e:h.get? a=some {cls:= .none,data:= .fields ps}:=x
  show h'.get? a=some {cls:= .none,data:= .fields ps}
  exact k a _ (.inl rfl) e
 |met f y=>
  have e:h.get? a=some (W.methodObj (.ref f) (.ref y)):=x
  show h'.get? a=some (W.methodObj (.ref f) (.ref y))
  exact k a _ (.inl rfl) e
 |ext φ=>obtain⟨p,⟨o,e⟩,st⟩:=x;exact⟨st _ _ p fun o q=>k _ _ (.inl rfl) q,⟨o,k _ _ (.inl rfl) e⟩,st⟩
theorem HOk.lt (x:HOk P w H h)(e:H a=some o):a<h.objs.size:=(x a o e).lt
theorem HOk.fresh (x:HOk P w H h)(e:h.objs.size<=a):H a=none:=by
 cases q:H a with
 |none=>rfl
 |some u=>exact absurd (Nat.lt_of_lt_of_le (x.lt q) e) (Nat.lt_irrefl _)
theorem HOk.kept (x:HOk P w H h)(k:∀b u,h.get? b=some u->h'.get? b=some u):HOk P w H h':=fun a o e=>
 (x a o e).stay (fun b u _ q=>k b u q) (fun _ q=>q) fun _ _ q=>q
theorem HOk.laid (x:HOk P w H h)(k:∀b u,h.get? b=some u->h'.get? b=some u)(hp:h.objs.size<=a)(new:ObjOk P w (upd H a o) h' a o):HOk P w (upd H a o) h':=fun b u e=>by
 have hn:=x.fresh hp
 by_cases hb:b=a
 ·subst hb;rw[zar]at e;cases e;exact new
 ·rw[zal hb]at e
  exact(x b u e).stay (fun c v _ q=>k c v q) (fun c q=>by rw[zal (zaJ q hn)];exact q) fun c xs q=>by rw[zal (zaJ q hn)];exact q
end
noncomputable def Rd (H:Hp)(a:Addr)(u:HO):Prop:=H a=some u\/∃o,H a=some (.frz o u)
theorem Rd.ok {P:Program}{u:HO}(r:Rd H a u)(x:HOk P w H h):ObjOk P w H h a u:=by
 rcases r with r|⟨o,r⟩
 ·exact x a u r
 ·obtain⟨_,q⟩:=x a _ r
  exact q
noncomputable def Mut:Option HO->Prop
 |some (.lst _)=>True
 |some (.dK _)=>True
 |some (.dT _)=>True
 |some (.set _ _)=>True
 |some (.ins _ _ _)=>True
 |some (.ext _)=>True
 |_=>False
section
variable {P:Program} {w:World} {H:Hp} {h h':Heap} {x e:Addr} {o':HO}
theorem HOk.write (ok:HOk P w H h)(mu:Mut (H x))(he:e=x\/H e=some (.own x))(k:∀b u,b≠e->h.get? b=some u->h'.get? b=some u)(heo:∃u,h'.get? e=some u)
  (new:ObjOk P w (upd H x o') h' x o'):HOk P w (upd H x o') h':=fun b u q=>by
 have nown:∀c y,H c=some (.own y)->c≠x:=fun c y r z=>by subst z;rw[r]at mu;exact mu
 have ntup:∀c xs,H c=some (.tup xs)->c≠x:=fun c xs r z=>by subst z;rw[r]at mu;exact mu
 by_cases hb:b=x
 ·subst hb;rw[zar]at q;cases q;exact new
 ·rw[zal hb]at q
  by_cases hbe:b=e
  ·have q':H b=some (.own x):=by
    rcases he with z|z
    ·exact absurd (hbe.trans z) hb
    ·rw[hbe];exact z
   rw[q]at q';cases q'
   obtain⟨v,hv⟩:=heo
   exact⟨v,by rw[hbe];exact hv⟩
  ·refine(ok b u q).stay (fun c v hc r=>k c v ?_ r) (fun c r=>by rw[zal (nown c b r)];exact r) fun c xs r=>by rw[zal (ntup c xs r)];exact r
   rcases hc with rfl|hc
   ·exact hbe
   ·rintro rfl
    rcases he with z|z
    ·exact nown c b hc z
    ·rw[hc]at z;cases z;exact hb rfl
end
structure Un (fs ex:List Addr) (H H':Hp) (h h':Heap):Prop where
 keep:∀b o,h.get? b=some o->H b=none->b∉fs->b∉ex->h'.get? b=some o
 slot:∀b o,h.get? b=some o->H b=none->b∈fs->b∉ex->∃sl,h'.get? b=some {o with slots:=sl}
 free:∀b o,h.get? b=some o->H b=none->b∉ex->H' b=none
 there:∀b o,h.get? b=some o->b∉ex->∃o',h'.get? b=some o'
 tups:∀b xs,H b=some (.tup xs)->H' b=some (.tup xs)
 frzs:∀b o u,H b=some (.frz o u)->H' b=some (.frz o u)
 tbls:∀b ps,H b=some (.tbl ps)->∃more,H' b=some (.tbl (ps++more))
section
variable {fs fs' ex ex':List Addr} {H H1 H2:Hp} {h h1 h2 h':Heap} {a x e:Addr} {o:HO}
theorem Un.any (u:Un fs ex H H1 h h1){ob:Obj}(q:h.get? b=some ob)(n:H b=none)(hx:b∉ex):∃sl,h1.get? b=some {ob with slots:=sl}:=by
 by_cases hb:b∈fs
 ·exact u.slot b ob q n hb hx
 ·exact⟨ob.slots,u.keep b ob q n hb hx⟩
theorem Un.kept (k:∀b u,h.get? b=some u->h'.get? b=some u):Un fs ex H H h h':=
 ⟨fun b ob q _ _ _=>k b ob q,fun b ob q _ _ _=>⟨ob.slots,k b ob q⟩,fun _ _ _ n _=>n,fun b ob q _=>⟨ob,k b ob q⟩,fun _ _ q=>q,fun _ _ _ q=>q,fun _ ps q=>⟨#[],by rw[q];simp⟩⟩
theorem Un.refl:Un fs ex H H h h:=Un.kept fun _ _ q=>q
theorem Un.laid (k:∀b u,h.get? b=some u->h'.get? b=some u)(hp:h.objs.size<=a)(hn:H a=none):Un fs ex H (upd H a o) h h' where
 keep:=fun b u q _ _ _=>k b u q
 slot:=fun b u q _ _ _=>⟨u.slots,k b u q⟩
 free:=fun b u q n _=>by rw[zal (Nat.ne_of_lt (Nat.lt_of_lt_of_le (Heap.lt_size q) hp))];exact n
 there:=fun b u q _=>⟨u,k b u q⟩
 tups:=fun b xs q=>by rw[zal (zaJ q hn)];exact q
 frzs:=fun b u xs q=>by rw[zal (zaJ q hn)];exact q
 tbls:=fun b ps q=>⟨#[],by rw[zal (zaJ q hn),q];simp⟩
theorem Un.write (mu:Mut (H x))(he:e=x\/H e=some (.own x))(k:∀b u,b≠e->h.get? b=some u->h'.get? b=some u)(heo:∃u,h'.get? e=some u):Un fs ex H (upd H x o) h h':=by
 have hx:∀b,H b=none->b≠x:=fun b n z=>by subst z;rw[n]at mu;exact mu
 have hb:∀b,H b=none->b≠e:=fun b n z=>by
  subst z
  rcases he with r|r
  ·exact hx b n r
  ·rw[n]at r;cases r
 have hm:∀b u,H b=some u->¬Mut (some u)->b≠x:=fun b u q nm z=>by subst z;rw[q]at mu;exact nm mu
 refine⟨fun b u q n _ _=>k b u (hb b n) q,fun b u q n _ _=>⟨u.slots,k b u (hb b n) q⟩,fun b u q n _=>by rw[zal (hx b n)];exact n,fun b u q _=>?_,
  fun b xs q=>by rw[zal (hm b _ q fun z=>z)];exact q,fun b u xs q=>by rw[zal (hm b _ q fun z=>z)];exact q,fun b ps q=>⟨#[],by rw[zal (hm b _ q fun z=>z),q];simp⟩⟩
 by_cases hbe:b=e
 ·subst hbe;exact heo
 ·exact⟨u,k b u hbe q⟩
end
noncomputable def trk (h:Heap)(H:Hp):List Addr:=(List.range h.objs.size).filter fun a=>(H a).isSome
noncomputable def hidT (h:Heap)(H:Hp):Heap:=W.hideAll h (trk h H)
theorem znr (h:Heap)(H:Hp):(hidT h H).objs.size=h.objs.size:=W.hideAll_size _ _
theorem hidT_get (e:h.get? b=some o)(n:H b=none):(hidT h H).get? b=some o:=
 W.hideAll_get _ e fun hm=>by
  have q:(H b).isSome=true:=(List.mem_filter.mp hm).2
  rw[n]at q;simp at q
theorem of_hidT (e:(hidT h H).get? b=some o):h.get? b=some o/\H b=none:=by
 have e':h.get? b=some o:=W.of_hideAll (trk h H) e
 refine⟨e',?_⟩
 cases q:H b with
 |none=>rfl
 |some x=>
  have hm:b∈trk h H:=List.mem_filter.mpr ⟨List.mem_range.mpr (Heap.lt_size e'),by simp[q]⟩
  have z:(hidT h H).get? b=none:=W.hideAll_none (trk h H) hm
  rw[z]at e;cases e
noncomputable def zop (g h:Heap)(L:Addr):List (Addr×Obj):=(List.range h.objs.size).filterMap fun a=>if a=L\/(g.get? a).isSome=true then none else(h.get? a).map fun o=>(a,o)
theorem zke {g h:Heap}(h1:a≠L)(h2:g.get? a=none)(h3:h.get? a=some o):(a,o)∈zop g h L:=
 List.mem_filterMap.mpr ⟨a,List.mem_range.mpr (Heap.lt_size h3),by simp[h1,h2,h3]⟩
noncomputable def rest (g h:Heap)(L d:Addr):List (Addr×Obj):=(zop g h L).filter fun p=>decide (p.1≠d)
theorem mem_rest {g h:Heap}{L d a:Addr}(h1:a≠L)(h2:g.get? a=none)(h3:h.get? a=some o)(h4:a≠d):(a,o)∈rest g h L d:=
 List.mem_filter.mpr ⟨zke h1 h2 h3,decide_eq_true h4⟩
structure Mod (K:W.Frag) (mg:Str->Option Value) (base:Heap):Prop where
 kin:K.In base
 glob:base.Ns mainGlobals mg
 blt:∃mb,base.Ns builtinsNs mb/\∀x:Str,x≠"__name__"->mb x=bootBuiltins x
 nolimit:base.NoLimit
structure Cx where
 prog:Program
 w:World
 K:W.Frag
 mg:Str->Option Value
 base:Heap
 A:Around
 N:List Str
 s₀:Shared
 H₀:Hp
 env:Env
 outer:List Env
 stack:List Env
 ex:List Addr
 fn:Str->Bool
 calm:Bool
 pn:List (Addr×Obj)
 xe:Value->Shared->Prop
noncomputable def frs (l:List Env):List Addr:=l.filterMap (·.frame)
noncomputable abbrev Cx.fs (X:Cx):List Addr:=frs X.outer
noncomputable def Vis (sc:Scope)(x:Str):Prop:=sc.names.lookup x=some .local\/sc.names.lookup x=some .cell\/sc.names.lookup x=some .free
noncomputable def Loc (sc:Scope)(x:Str):Prop:=sc.names.lookup x=some .local\/sc.names.lookup x=some .cell
noncomputable def Look (env:Env)(h:Heap)(m:Str->Option Value)(x:Str)(u:Value):Prop:=
 (env.kindOf x=some .local/\m x=some u)\/((env.kindOf x=some .cell\/env.kindOf x=some .free)/\∃c,env.cells.lookup x=some c/\h.IsCell c (some u))
structure Cx.Ok (X:Cx):Prop where
 mod:Mod X.K X.mg X.base
 kind:X.env.scope.kind= .function
 glob:X.env.globals=mainGlobals
 blt:X.env.builtins=builtinsNs
 above:X.s₀.heap.objs.size<=X.env.locals
 inj:∀x y c,X.env.cells.lookup x=some c->X.env.cells.lookup y=some c->x=y
 has:∀x,(X.env.kindOf x=some .cell\/X.env.kindOf x=some .free)->∃c,X.env.cells.lookup x=some c
 cab:∀x c,X.fn x=true->X.env.cells.lookup x=some c->X.s₀.heap.objs.size<=c
 hd:X.calm=true->X.A.handled=none
 frames:X.A.frames=some X.stack
 stk:X.stack=X.outer\/(X.stack=X.env::X.outer/\X.env.frame=some X.env.locals)
 exf:∀b∈X.ex,b≠X.env.locals/\∀x c,X.env.cells.lookup x=some c->c≠b
 bs:∀b o,X.base.get? b=some o->X.s₀.heap.get? b=some o/\X.H₀ b=none
 bsz:X.base.objs.size<=X.s₀.heap.objs.size
 noex:∀b o,X.base.get? b=some o->b∉X.ex
 exfs:∀b∈X.ex,b∉X.fs
 funs:X.s₀.heap.FunFrames X.base X.outer
 frf:∀b∈X.fs,X.H₀ b=none
structure Inv (X:Cx) (pins:List (Addr×Obj)) (σ:List (Option V)) (H:Hp) (s:Shared):Prop where
 ok:X.Ok
 os:s.os=X.s₀.os
 bare:AllBare s.gens
 base:Un X.fs X.ex X.H₀ H X.s₀.heap s.heap
 loc:∃m,s.heap.Ns X.env.locals m/\∀(i:Nat) (x:Str) (v:V),X.N[i]? =some x->σ[i]? =some (some v)->Vis X.env.scope x->∃u,RelV v u/\Look X.env s.heap m x u
 cell:∀x c,X.env.cells.lookup x=some c->∃v,s.heap.IsCell c v
 free:H X.env.locals=none
 freeC:∀x c,X.env.cells.lookup x=some c->H c=none
 pin:∀p∈X.pn++pins,s.heap.get? p.1=some p.2/\H p.1=none/\p.1≠X.env.locals/\p.1∉X.fs/\∀v,p.2.data≠ .cell v
 hok:HOk X.prog X.w H s.heap
 len:σ.length=X.N.length
section
variable {X:Cx} {pins:List (Addr×Obj)} {σ:List (Option V)} {H H':Hp} {s:Shared} {h':Heap}
theorem Cx.Ok.nofr (ok:X.Ok)(e:X.base.get? b=some o):b∉X.fs:=fun hb=>by
 have:=(ok.funs.mem hb).1
 rw[e]at this;cases this
theorem Inv.bs (I:Inv X pins σ H s):∀b o,X.base.get? b=some o->s.heap.get? b=some o/\H b=none:=fun b o e=>
 ⟨I.base.keep b o (I.ok.bs b o e).1 (I.ok.bs b o e).2 (I.ok.nofr e) (I.ok.noex b o e),I.base.free b o (I.ok.bs b o e).1 (I.ok.bs b o e).2 (I.ok.noex b o e)⟩
theorem Inv.bk (I:Inv X pins σ H s):∀b o,X.base.get? b=some o->s.heap.get? b=some o:=fun b o e=>(I.bs b o e).1
theorem Inv.mod (I:Inv X pins σ H s):Mod X.K X.mg X.base:=I.ok.mod
theorem Inv.kIn (I:Inv X pins σ H s):X.K.In s.heap:=I.ok.mod.kin.keeps I.bk
theorem Inv.lt (I:Inv X pins σ H s):X.env.locals<s.heap.objs.size:=let⟨_,hn,_⟩:=I.loc;hn.lt
theorem Inv.sz (I:Inv X pins σ H s):X.s₀.heap.objs.size<=s.heap.objs.size:=Nat.le_trans I.ok.above (Nat.le_of_lt I.lt)
theorem Inv.nofs (I:Inv X pins σ H s)(h:s.heap.objs.size<=a):a∉X.fs:=fun hb=>by
 obtain⟨_,o,ho,_⟩:=I.ok.funs.mem hb
 exact absurd (Nat.lt_of_lt_of_le (Heap.lt_size ho) (Nat.le_trans I.sz h)) (Nat.lt_irrefl _)
theorem Inv.cne (I:Inv X pins σ H s):∀x c,X.env.cells.lookup x=some c->c≠X.env.locals:=fun x c e z=>by
 obtain⟨v,o,ho,hd⟩:=I.cell x c e
 obtain⟨m,⟨o',es,ep,ho',hd',_⟩,_⟩:=I.loc
 rw[z,ho']at ho;cases ho;rw[hd']at hd;cases hd
theorem Inv.funs (I:Inv X pins σ H s):s.heap.FunFrames X.base X.outer:=by
 have all:∀(l:List Env),(∀b∈frs l,b∈X.fs)->X.s₀.heap.FunFrames X.base l->s.heap.FunFrames X.base l:=by
  intro l
  induction l with
  |nil=>intro _ _;trivial
  |cons env r ih=>
   intro hs hl
   obtain⟨hk,⟨L,o,hf,hn,ho,hd⟩,hr⟩:=hl
   have hL:L∈X.fs:=hs L (by unfold frs;rw[List.filterMap_cons,hf];exact List.mem_cons_self)
   obtain⟨sl,e⟩:=I.base.slot L o ho (I.ok.frf L hL) hL fun z=>I.ok.exfs L z hL
   exact⟨hk,⟨L,_,hf,hn,e,hd⟩,ih (fun b hb=>hs b (by unfold frs;rw[List.filterMap_cons,hf];exact List.mem_cons_of_mem _ hb)) hr⟩
 exact all X.outer (fun _ hb=>hb) I.ok.funs
theorem Inv.stack (I:Inv X pins σ H s):s.heap.FunFrames X.base X.stack:=by
 rcases I.ok.stk with e|⟨e,hf⟩
 ·rw[e];exact I.funs
 ·rw[e]
  obtain⟨m,hn,_⟩:=I.loc
  refine .cons (by rw[I.ok.kind];decide) hf hn ?_ I.funs
  exact Heap.get?_none_of_le (Nat.le_trans I.ok.bsz I.ok.above)
theorem Inv.stkSub (I:Inv X pins σ H s):∀b∈frs X.stack,b∈X.env.locals::X.fs:=fun b hb=>by
 rcases I.ok.stk with e|⟨e,hf⟩
 ·rw[e]at hb;exact List.mem_cons_of_mem _ hb
 ·rw[e]at hb
  unfold frs at hb
  rw[List.filterMap_cons,hf]at hb
  exact hb
theorem Inv.stkFree (I:Inv X pins σ H s):∀b∈frs X.stack,H b=none:=fun b hb=>by
 rcases List.mem_cons.mp (I.stkSub b hb)with e|hb
 ·rw[e];exact I.free
 ·obtain⟨_,o,ho,_⟩:=I.ok.funs.mem hb
  exact I.base.free b o ho (I.ok.frf b hb) fun z=>I.ok.exfs b z hb
theorem Inv.step (I:Inv X pins σ H s)
  (hch:∀b∈ch,(b∈X.ex\/X.s₀.heap.objs.size<=b)/\b≠X.env.locals/\(∀x c,X.env.cells.lookup x=some c->c≠b)/\∀p∈X.pn++pins,p.1≠b)
  (keep:∀b o,b≠X.env.locals->b∉X.fs->b∉ch->s.heap.get? b=some o->H b=none->h'.get? b=some o)
  (slot:∀b o,b≠X.env.locals->b∈X.fs->b∉ch->s.heap.get? b=some o->H b=none->∃sl,h'.get? b=some {o with slots:=sl}) (free:∀b o,b∉ch->s.heap.get? b=some o->H b=none->H' b=none)
  (there:∀b o,b∉ch->s.heap.get? b=some o->∃o',h'.get? b=some o')
  (tups:∀b xs,H b=some (.tup xs)->H' b=some (.tup xs)) (frzs:∀b o u,H b=some (.frz o u)->H' b=some (.frz o u)) (tbls:∀b ps,H b=some (.tbl ps)->∃more,H' b=some (.tbl (ps++more)))
  (ns:∀m,s.heap.Ns X.env.locals m->h'.Ns X.env.locals m) (hok:HOk X.prog X.w H' h') (hg:AllBare g'):
  Inv X pins σ H' {s with heap:=h',gens:=g',drawn:=d',toks:=t'}:=by
 have neL:∀b o,X.s₀.heap.get? b=some o->b≠X.env.locals:=fun b o e=>Nat.ne_of_lt (Nat.lt_of_lt_of_le (Heap.lt_size e) I.ok.above)
 have neC:∀b o,X.s₀.heap.get? b=some o->b∉X.ex->b∉ch:=fun b o e hx hb=>by
  rcases(hch b hb).1 with z|z
  ·exact hx z
  ·exact absurd (Nat.lt_of_lt_of_le (Heap.lt_size e) z) (Nat.lt_irrefl _)
 have cellK:∀x c,X.env.cells.lookup x=some c->∀v,s.heap.IsCell c v->h'.IsCell c v:=fun x c e v ⟨o,ho,hd⟩=>by
  have nch:c∉ch:=fun z=>(hch c z).2.2.1 x c e rfl
  by_cases hc:c∈X.fs
  ·obtain⟨sl,q⟩:=slot c o (I.cne x c e) hc nch ho (I.freeC x c e)
   exact⟨_,q,hd⟩
  ·exact⟨o,keep c o (I.cne x c e) hc nch ho (I.freeC x c e),hd⟩
 refine⟨I.ok,I.os,hg,⟨fun b o e n hb hx=>?_,fun b o e n hb hx=>?_,fun b o e n hx=>?_,fun b o e hx=>?_,fun b xs e=>tups b xs (I.base.tups b xs e),fun b o xs e=>frzs b o xs (I.base.frzs b o xs e),fun b ps e=>?_⟩,?_,fun x c e=>?_,?_,fun x c e=>?_,fun p hp=>?_,hok,I.len⟩
 ·exact keep b o (neL b o e) hb (neC b o e hx) (I.base.keep b o e n hb hx) (I.base.free b o e n hx)
 ·obtain⟨sl,e1⟩:=I.base.slot b o e n hb hx
  obtain⟨sl',e2⟩:=slot b _ (neL b o e) hb (neC b o e hx) e1 (I.base.free b o e n hx)
  exact⟨sl',e2⟩
 ·obtain⟨o',e1⟩:=I.base.there b o e hx
  exact free b o' (neC b o e hx) e1 (I.base.free b o e n hx)
 ·obtain⟨o',e1⟩:=I.base.there b o e hx
  exact there b o' (neC b o e hx) e1
 ·obtain⟨m1,e1⟩:=I.base.tbls b ps e
  obtain⟨m2,e2⟩:=tbls b _ e1
  exact⟨m1++m2,by rw[e2,Array.append_assoc]⟩
 ·obtain⟨m,hn,hl⟩:=I.loc
  refine⟨m,ns m hn,fun i x v e1 e2 e3=>?_⟩
  obtain⟨u,r,l⟩:=hl i x v e1 e2 e3
  refine⟨u,r,?_⟩
  rcases l with l|⟨k,c,e,z⟩
  ·exact .inl l
  ·exact .inr ⟨k,c,e,cellK x c e _ z⟩
 ·obtain⟨v,z⟩:=I.cell x c e
  exact⟨v,cellK x c e v z⟩
 ·obtain⟨m,⟨o,_,_,ho,_⟩,_⟩:=I.loc
  exact free _ o (fun z=>(hch _ z).2.1 rfl) ho I.free
 ·obtain⟨v,o,ho,hd⟩:=I.cell x c e
  exact free c o (fun z=>(hch c z).2.2.1 x c e rfl) ho (I.freeC x c e)
 ·obtain⟨e,n,ne,nf,d⟩:=I.pin p hp
  have nch:p.1∉ch:=fun z=>(hch p.1 z).2.2.2 p hp rfl
  exact⟨keep p.1 p.2 ne nf nch e n,free p.1 p.2 nch e n,ne,nf,d⟩
theorem Inv.un (I:Inv X pins σ H s)(u:Un X.fs [] H H' s.heap h')(hok:HOk X.prog X.w H' h'):Inv X pins σ H' {s with heap:=h',toks:=t'}:=by
  obtain⟨m,⟨o,es,ep,ho,r⟩,_⟩:=id I.loc
  obtain⟨sl,hL⟩:=u.any ho I.free (by simp)
  exact I.step (g':=s.gens) (d':=s.drawn) (ch:=[]) (fun _ z=>nomatch z) (fun b o _ hb _ e n=>u.keep b o e n hb (by simp)) (fun b o _ hb _ e n=>u.slot b o e n hb (by simp)) (fun b o _ e n=>u.free b o e n (by simp)) (fun b o _ e=>u.there b o e (by simp)) u.tups u.frzs u.tbls (fun m' hm=>by
    obtain⟨o',es',ep',ho',r'⟩:=hm
    rw[ho]at ho';cases ho'
    exact⟨_,es',ep',hL,r'⟩) hok I.bare
theorem Inv.call {ch:List Addr}(I:Inv X pins σ H s)(u:Un (frs X.stack) ch H H' s.heap h')(hok:HOk X.prog X.w H' h')(hg:AllBare g')
  (hch:∀b∈ch,(b∈X.ex\/X.s₀.heap.objs.size<=b)/\b≠X.env.locals/\(∀x c,X.env.cells.lookup x=some c->c≠b)/\∀p∈X.pn++pins,p.1≠b):
  Inv X pins σ H' {s with heap:=h',gens:=g',drawn:=d',toks:=t'}:=by
 obtain⟨m,⟨o,es,ep,ho,r⟩,_⟩:=id I.loc
 obtain⟨sl,hL⟩:=u.any ho I.free fun z=>(hch _ z).2.1 rfl
 exact I.step (ch:=ch) hch (fun b o hL hb hc e n=>u.keep b o e n (fun z=>(List.mem_cons.mp (I.stkSub b z)).elim hL hb) hc) (fun b o _ _ hc e n=>u.any e n hc) (fun b o hc e n=>u.free b o e n hc) (fun b o hc e=>u.there b o e hc) u.tups u.frzs u.tbls (fun m' hm=>by
  obtain⟨o',es',ep',ho',r'⟩:=hm
  rw[ho]at ho';cases ho'
  exact⟨_,es',ep',hL,r'⟩) hok hg
theorem Inv.turned (I:Inv X pins σ H s)(k:∀b o,b≠it->s.heap.get? b=some o->h'.get? b=some o)(hn:H it=none)(hL:it≠X.env.locals)
  (h1:it∈X.ex\/X.s₀.heap.objs.size<=it) (h2:∀x c,X.env.cells.lookup x=some c->c≠it) (h3:∀p∈X.pn++pins,p.1≠it):Inv X pins σ H {s with heap:=h',toks:=t'}:=by
 have nit:∀b u,H b=some u->b≠it:=fun b u e z=>by rw[z,hn]at e;cases e
 refine I.step (g':=s.gens) (d':=s.drawn) (ch:=[it]) (fun b hb=>?_) (fun b o _ _ hc e _=>k b o (fun z=>hc (by simp[z])) e) (fun b o _ _ hc e _=>⟨o.slots,k b o (fun z=>hc (by simp[z])) e⟩) (fun _ _ _ _ n=>n)
  (fun b o hc e=>⟨o,k b o (fun z=>hc (by simp[z])) e⟩) (fun _ _ e=>e) (fun _ _ _ e=>e) (fun b ps e=>⟨#[],by rw[e];simp⟩) (fun m hm=>?_) (fun b u e=>?_) I.bare
 ·have e:b=it:=by simpa using hb
  subst e
  exact⟨h1,hL,h2,h3⟩
 ·obtain⟨o,es,ep,ho,r⟩:=hm
  exact⟨o,es,ep,k _ o (Ne.symm hL) ho,r⟩
 ·refine(I.hok b u e).stay (fun c v hc q=>k c v ?_ q) (fun _ q=>q) fun _ _ q=>q
  rcases hc with z|z
  ·rw[z];exact nit b u e
  ·exact nit c _ z
theorem Inv.tok (I:Inv X pins σ H s)(t:Nat):Inv X pins σ H {s with toks:=t}:=I.un (h':=s.heap) (t':=t) Un.refl I.hok
theorem Inv.kept (I:Inv X pins σ H s)(k:∀b u,s.heap.get? b=some u->h'.get? b=some u):Inv X pins σ H {s with heap:=h',toks:=t'}:=I.un (Un.kept k) (I.hok.kept k)
theorem Inv.laid {o:HO}(I:Inv X pins σ H s)(k:∀b u,s.heap.get? b=some u->h'.get? b=some u)(hp:s.heap.objs.size<=a)(new:ObjOk X.prog X.w (upd H a o) h' a o):
  Inv X pins σ (upd H a o) {s with heap:=h',toks:=t'}:=I.un (Un.laid k hp (I.hok.fresh hp)) (I.hok.laid k hp new)
theorem Inv.write {x e:Addr}{o:HO}(I:Inv X pins σ H s)(mu:Mut (H x))(he:e=x\/H e=some (.own x))(k:∀b u,b≠e->s.heap.get? b=some u->h'.get? b=some u)(heo:∃u,h'.get? e=some u)
  (new:ObjOk X.prog X.w (upd H x o) h' x o):Inv X pins σ (upd H x o) {s with heap:=h',toks:=t'}:=I.un (Un.write mu he k heo) (I.hok.write mu he k heo new)
theorem Inv.pins_of (I:Inv X pins σ H s)(h:∀p∈pins',s.heap.get? p.1=some p.2/\H p.1=none/\p.1≠X.env.locals/\p.1∉X.fs/\∀v,p.2.data≠ .cell v):Inv X pins' σ H s:=
 ⟨I.ok,I.os,I.bare,I.base,I.loc,I.cell,I.free,I.freeC,fun p hp=>(List.mem_append.mp hp).elim (fun z=>I.pin p (List.mem_append_left _ z)) (h p),I.hok,I.len⟩
theorem zlG (hN:N.Nodup)(a:N[i]? =some x)(b:N[j]? =some x):i=j:=by
 obtain⟨h1,e1⟩:=List.getElem?_eq_some_iff.mp a
 obtain⟨h2,e2⟩:=List.getElem?_eq_some_iff.mp b
 exact(List.getElem_inj hN).mp (e1.trans e2.symm)
theorem zoV {M:Model}{Q:Unit->Shared->Prop}(I:Inv X pins σ H s)(hN:X.N.Nodup)(hi:X.N[i]? =some x)(hx:Loc X.env.scope x)(r:RelV v u)
    (h:∀s',Inv X pins (σ.set i (some v)) H s'->(∃a,Heap.SameBut a s.heap s'.heap/\(a=X.env.locals\/X.env.cells.lookup x=some a))->Q () s') (hf:autoParam (X.fn x=true\/X.env.scope.names.lookup x=some .local) zu0._auto_1):wpAny M A (storeName X.env x u) Q E s:=by
  obtain⟨m,hn,hl⟩:=id I.loc
  have hcls:(X.env.scope.kind== .class||(X.env.scope.kind== .module&&X.env.locals !=X.env.globals))=false:=by rw[I.ok.kind];rfl
  have hiσ:i<σ.length:=by rw[I.len];exact(List.getElem?_eq_some_iff.mp hi).1
  have cne:=I.cne
  have tracked:∀{a:Addr} {h':Heap},(∃o,s.heap.get? a=some o/\H a=none)->Heap.SameBut a s.heap h'->HOk X.prog X.w H h':=fun{a h'} ha hs b ob e=>by
    obtain⟨_,_,hfree⟩:=ha
    refine(I.hok b ob e).stay (fun c w' hc q=>(hs.2 c ?_).trans q) (fun _ q=>q) fun _ _ q=>q
    rintro rfl
    rcases hc with rfl|hc
    . rw[hfree]at e;cases e
    . rw[hfree]at hc;cases hc
  rcases hx with hk|hk
  . refine wpAny_storeName_local hk hn (fun h' hn' hs=>?_) hcls
    obtain⟨oL,_,_,hoL,_⟩:=id hn
    refine h _ ⟨I.ok,I.os,I.bare,⟨fun b o e n hb hx=>?_,fun b o e n hb hx=>?_,I.base.free,fun b o e hx=>?_,I.base.tups,I.base.frzs,I.base.tbls⟩,⟨_,hn',fun j y v' e1 e2 e3=>?_⟩,fun y c e=>?_,I.free,I.freeC,fun p hp=>?_,tracked ⟨oL,hoL,I.free⟩ hs,by simpa using I.len⟩ ⟨_,hs,.inl rfl⟩
    . exact(hs.2 b (Nat.ne_of_lt (Nat.lt_of_lt_of_le (Heap.lt_size e) I.ok.above))).trans (I.base.keep b o e n hb hx)
    . obtain⟨sl,e1⟩:=I.base.slot b o e n hb hx
      exact⟨sl,(hs.2 b (Nat.ne_of_lt (Nat.lt_of_lt_of_le (Heap.lt_size e) I.ok.above))).trans e1⟩
    . obtain⟨o',e1⟩:=I.base.there b o e hx
      exact⟨o',(hs.2 b (Nat.ne_of_lt (Nat.lt_of_lt_of_le (Heap.lt_size e) I.ok.above))).trans e1⟩
    . by_cases hj:j=i
      . subst hj
        rw[hi]at e1;cases e1
        rw[List.getElem?_set_self hiσ]at e2
        cases e2
        exact⟨u,r,.inl ⟨hk,by simp⟩⟩
      . rw[List.getElem?_set_ne (Ne.symm hj)]at e2
        obtain⟨u',r',q⟩:=hl j y v' e1 e2 e3
        refine⟨u',r',?_⟩
        rcases q with⟨k,e⟩|⟨k,c,e,z⟩
        . refine .inl ⟨k,?_⟩
          have:y≠x:=fun e=>hj (zlG hN e1 (e ▸ hi))
          simp[this,e]
        . exact .inr ⟨k,c,e,z.sameBut hs (cne y c e)⟩
    . obtain⟨w',z⟩:=I.cell y c e
      exact⟨w',z.sameBut hs (cne y c e)⟩
    . obtain⟨e,n,ne,nf,d⟩:=I.pin p hp
      exact⟨(hs.2 p.1 ne).trans e,n,ne,nf,d⟩
  . have hfn:X.fn x=true:=by
      rcases hf with z|z
      . exact z
      . rw[z]at hk;cases hk
    obtain⟨c,hc⟩:=I.ok.has x (.inl hk)
    obtain⟨w',z⟩:=I.cell x c hc
    refine wpAny_storeName_cell I.ok.kind hk hc z (fun h' hc' hs=>?_)
    obtain⟨oc,hoc,hocd⟩:=id z
    refine h {s with heap:=h'} ⟨I.ok,I.os,I.bare,⟨fun b o e n hb hx=>?_,fun b o e n hb hx=>?_,I.base.free,fun b o e hx=>?_,I.base.tups,I.base.frzs,I.base.tbls⟩,⟨m,hn.sameBut hs (Ne.symm (cne x c hc)),fun j y v' e1 e2 e3=>?_⟩,fun y c' e=>?_,I.free,I.freeC,fun p hp=>?_,tracked ⟨oc,hoc,I.freeC x c hc⟩ hs,by simpa using I.len⟩ ⟨c,hs,.inr hc⟩
    . exact(hs.2 b (Nat.ne_of_lt (Nat.lt_of_lt_of_le (Heap.lt_size e) (I.ok.cab x c hfn hc)))).trans (I.base.keep b o e n hb hx)
    . obtain⟨sl,e1⟩:=I.base.slot b o e n hb hx
      exact⟨sl,(hs.2 b (Nat.ne_of_lt (Nat.lt_of_lt_of_le (Heap.lt_size e) (I.ok.cab x c hfn hc)))).trans e1⟩
    . obtain⟨o',e1⟩:=I.base.there b o e hx
      exact⟨o',(hs.2 b (Nat.ne_of_lt (Nat.lt_of_lt_of_le (Heap.lt_size e) (I.ok.cab x c hfn hc)))).trans e1⟩
    . by_cases hj:j=i
      . subst hj
        rw[hi]at e1;cases e1
        rw[List.getElem?_set_self hiσ]at e2
        cases e2
        exact⟨u,r,.inr ⟨.inl hk,c,hc,hc'⟩⟩
      . rw[List.getElem?_set_ne (Ne.symm hj)]at e2
        obtain⟨u',r',q⟩:=hl j y v' e1 e2 e3
        refine⟨u',r',?_⟩
        rcases q with q|⟨k,c',e,z'⟩
        . exact .inl q
        . refine .inr ⟨k,c',e,z'.sameBut hs ?_⟩
          rintro rfl
          exact hj (zlG hN e1 (I.ok.inj _ _ _ e hc ▸ hi))
    . by_cases hcc:c'=c
      . subst hcc;exact⟨_,hc'⟩
      . obtain⟨w2,z2⟩:=I.cell y c' e
        exact⟨w2,z2.sameBut hs hcc⟩
    . obtain⟨e,n,ne,nf,d⟩:=I.pin p hp
      refine⟨(hs.2 p.1 ?_).trans e,n,ne,nf,d⟩
      intro q
      rw[q,hoc]at e
      have q':oc=p.2:=Option.some.inj e
      exact d w' (by rw[<-q'];exact hocd)
theorem zje {M:Model}{Q:Unit->Shared->Prop}(I:Inv X pins σ H s)(hN:X.N.Nodup)(hi:X.N[i]? =some x)(hx:Loc X.env.scope x)(r:RelV v u)
  (h:∀s',Inv X pins (σ.set i (some v)) H s'->Q () s') (hf:autoParam (X.fn x=true\/X.env.scope.names.lookup x=some .local) zu0._auto_1):wpAny M A (storeName X.env x u) Q E s:=
 zoV I hN hi hx r (fun s' I' _=>h s' I') hf
end
noncomputable abbrev XK:=Value->Option Addr->Hp->Prop
noncomputable abbrev St:=List (Option V)
noncomputable abbrev VK:=V->Hp->Prop
noncomputable abbrev TE:=St->Hp->VK->Prop
noncomputable abbrev TT:=St->Hp->(Bool->Hp->Prop)->Prop
noncomputable abbrev TA:=St->Hp->(List V->Hp->Prop)->Prop
structure Ends where
 nx:St->Hp->Prop
 rt:VK
 bk:St->Hp->Prop:=fun _ _=>False
 ct:St->Hp->Prop:=fun _ _=>False
noncomputable abbrev TS:=Ends->St->Hp->Prop
noncomputable def EP (X:Cx)(pins:List (Addr×Obj))(σ:St)(Q:VK)(u:Value)(s':Shared):Prop:=∃v H',Inv X pins σ H' s'/\RelV v u/\Q v H'
noncomputable def TP (X:Cx)(pins:List (Addr×Obj))(σ:St)(Q:Bool->Hp->Prop)(b:Bool)(s':Shared):Prop:=∃H',Inv X pins σ H' s'/\Q b H'
noncomputable def AP (X:Cx)(pins:List (Addr×Obj))(σ:St)(Q:List V->Hp->Prop)(us:List Value)(s':Shared):Prop:=∃vs H',Inv X pins σ H' s'/\Vals vs us/\Q vs H'
noncomputable def SP (X:Cx)(pins:List (Addr×Obj))(D:Ends)(f:Flow)(s':Shared):Prop:=
 match f with
 | .next=>∃σ' H',Inv X pins σ' H' s'/\D.nx σ' H'
 | .brk=>∃σ' H',Inv X pins σ' H' s'/\D.bk σ' H'
 | .cont=>∃σ' H',Inv X pins σ' H' s'/\D.ct σ' H'
 | .ret u=>∃v σ' H',Inv X pins σ' H' s'/\RelV v u/\D.rt v H'
noncomputable def PE (X:Cx)(e:Expr)(t:TE):Prop:=
 ∀(pins:List (Addr×Obj)) (s:Shared) (σ:St) (H:Hp) (Q:VK),Inv X pins σ H s->t σ H Q->wpAny (model X.prog X.w) X.A (eval e X.env) (EP X pins σ Q) X.xe s
noncomputable def PT (X:Cx)(e:Expr)(t:TT):Prop:=
 ∀(pins:List (Addr×Obj)) (s:Shared) (σ:St) (H:Hp) (Q:Bool->Hp->Prop),Inv X pins σ H s->t σ H Q->wpAny (model X.prog X.w) X.A (isTrue e X.env (eval e X.env)) (TP X pins σ Q) X.xe s
noncomputable def PW (X:Cx)(e:Expr)(t:TT):Prop:=
 ∀(whole:Sem Value) (pins:List (Addr×Obj)) (s:Shared) (σ:St) (H:Hp) (Q:Bool->Hp->Prop),Inv X pins σ H s->t σ H Q->wpAny (model X.prog X.w) X.A (isTrue e X.env whole) (TP X pins σ Q) X.xe s
theorem PW.pt {t:TT}(h:PW X e t):PT X e t:=h _
noncomputable def PA (X:Cx)(es:List Expr)(t:TA):Prop:=
 ∀(pos:Pos) (pins:List (Addr×Obj)) (s:Shared) (σ:St) (H:Hp) (Q:List V->Hp->Prop),Inv X pins σ H s->t σ H Q->wpAny (model X.prog X.w) X.A (spliced (backTo pos (starEach es X.env))) (AP X pins σ Q) X.xe s
noncomputable def PS (X:Cx)(st:Stmt)(t:TS):Prop:=
 ∀(pins:List (Addr×Obj)) (s:Shared) (σ:St) (H:Hp) (D:Ends),Inv X pins σ H s->t D σ H->wpAny (model X.prog X.w) X.A (exec st X.env) (SP X pins D) X.xe s
noncomputable def PSs (X:Cx)(st:List Stmt)(t:TS):Prop:=
 ∀(pins:List (Addr×Obj)) (s:Shared) (σ:St) (H:Hp) (D:Ends),Inv X pins σ H s->t D σ H->wpAny (model X.prog X.w) X.A (execs st X.env) (SP X pins D) X.xe s
theorem thn {α:Type}{t:Sem α}{Q Q':α->Shared->Prop}{M:Model}(h:wpAny M A t Q E s)(hQ:∀a s,Q a s->Q' a s):wpAny M A t Q' E s:=wpAny_mono h hQ fun _ _ x=>x
section
variable {X:Cx}
noncomputable def tVar (i:Nat):TE:=fun σ H Q=>∃v,σ[i]? =some (some v)/\Q v H
noncomputable def tC (v:V):TE:=fun _ H Q=>Q v H
theorem zb3 (hN:X.N[i]? =some x)(hv:Vis X.env.scope x)(hd:autoParam ((x==("__debug__":Str))=false) zu1._auto_1)(hcd:autoParam ((x==("__classdict__":Str))=false) zu1._auto_1):PE X (.Name x pos) (tVar i):=by
 intro pins s σ H Q I h
 obtain⟨v,e,h⟩:=h
 obtain⟨m,hn,hl⟩:=I.loc
 obtain⟨u,r,l⟩:=hl i x v hN e hv
 have fin:EP X pins σ Q u s:=⟨v,H,I,r,h⟩
 rcases l with⟨hk,hm⟩|⟨hk,c,hc,hcell⟩
 ·exact wpAny_Name (wpAny_loadName_local I.ok.kind hk hn hm fin) hd
 ·rcases hk with hk|hk
  ·exact wpAny_Name (wpAny_loadName_cell I.ok.kind hk hc hcell fin) hd
  ·exact wpAny_Name (wpAny_loadName_free I.ok.kind hk hc hcell fin hcd) hd
theorem pe_int {i j pos}:PE X (.Constant (.int i) j pos) (tC (.int i)):=fun _ _ _ H _ I h=>wpAny_Constant_int ⟨.int i,H,I.tok _,⟨_,rfl⟩,h⟩
theorem pe_bl {b j pos}:PE X (.Constant (.bool b) j pos) (tC (.bl b)):=fun _ _ _ H _ I h=>Constant_bool ⟨.bl b,H,I,rfl,h⟩
theorem pe_non {j pos}:PE X (.Constant .none j pos) (tC .non):=fun _ _ _ H _ I h=>Constant_none ⟨.non,H,I,rfl,h⟩
theorem pe_str {x j pos}:PE X (.Constant (.str x) j pos) (tC (.str x)):=fun _ _ _ H _ I h=>Calls.Constant_str ⟨.str x,H,I.tok _,⟨_,rfl⟩,h⟩
noncomputable def Gl (X:Cx)(x:Str):Prop:=X.env.kindOf x=some .globalImplicit
theorem zoN (I:Inv X pins σ H s)(hg:Gl X x)(hm:X.mg x=some u)(h:Q u s)
  (hd:autoParam ((x==("__debug__":Str))=false) zu1._auto_1):wpAny (model X.prog X.w) X.A (eval (.Name x pos) X.env) Q E s:=
 Calls.Name_function_global I.ok.kind hg (Calls.loadGlobal_global (by rw[I.ok.glob];exact I.mod.glob.keeps I.bk) hm h) hd
theorem ziu (I:Inv X pins σ H s)(hg:Gl X x)(hm:X.mg x=none)(hv:bootBuiltins x=some u)(h:Q u s)
  (hn:autoParam (x≠"__name__") zu1._auto_1) (hd:autoParam ((x==("__debug__":Str))=false) zu1._auto_1):wpAny (model X.prog X.w) X.A (eval (.Name x pos) X.env) Q E s:=by
 obtain⟨mb,h1,h2⟩:=I.mod.blt
 exact Calls.Name_function_global I.ok.kind hg (Calls.loadGlobal_builtin (by rw[I.ok.glob];exact I.mod.glob.keeps I.bk) hm (by rw[I.ok.blt];exact h1.keeps I.bk) ((h2 x hn).trans hv) h) hd
variable {a b:Expr} {ta tb:TE} {pos:Pos}
noncomputable def PC (X:Cx)(op:CmpOp)(a b:Expr)(t:TE):Prop:=
 ∀(pins:List (Addr×Obj)) (s:Shared) (σ:St) (H:Hp) (Q:VK),Inv X pins σ H s->t σ H Q->
  wpAny (model X.prog X.w) X.A (eval a X.env) (fun v s₁=>wpAny (model X.prog X.w) X.A (eval b X.env) (fun u s₂=>wpAny (model X.prog X.w) X.A (compareOp op v u) (EP X pins σ Q) X.xe s₂) X.xe s₁) X.xe s
theorem nobehind (b:Expr)(h:op≠ .In)(h2:op≠ .NotIn):behindInMarks op b=false:=by
 have e1:(op==CmpOp.In)=false:=by cases op<;>first|rfl|exact absurd rfl h
 have e2:(op==CmpOp.NotIn)=false:=by cases op<;>first|rfl|exact absurd rfl h2
 cases b<;>simp[behindInMarks,e1,e2]
noncomputable def tB (t:TE):TT:=fun σ H Q=>t σ H fun x H1=>∃c,x= .bl c/\Q c H1
theorem pt_cmp {t:TE}(h:PC X op a b t)(h1:autoParam (behindInMarks op b=false) zu2._auto_1):PT X (.Compare a [op] [b] pos) (tB t):=by
  intro pins s σ H Q I hw
  refine wpAny_isTrue_Compare1 (thn (h pins s σ H _ I hw) fun v s1 h1=>thn h1 fun u s2 h2=>thn h2 fun c s3 ⟨x,H1,I1,r1,q1⟩=>?_) h1
  obtain⟨d,rfl,q⟩:=q1
  cases r1
  exact wpAny_truthy_bool ⟨H1,I1,q⟩
variable {tA tB':TT} {rest:List Expr}
noncomputable def tAnd (t u:TT):TT:=fun σ H Q=>t σ H fun c H1=>if c=true then u σ H1 Q else Q false H1
noncomputable def tOr (t u:TT):TT:=fun σ H Q=>t σ H fun c H1=>if c=true then Q true H1 else u σ H1 Q
noncomputable def tNot (t:TT):TT:=fun σ H Q=>t σ H fun c H1=>Q (!c) H1
theorem pw_and1 (ha:PT X a tA):PW X (.BoolOp .And [a] pos) tA:=by
 intro wh pins s σ H Q I h
 refine isTrue_and (thn (ha pins s σ H Q I h) fun c s1 e=>?_)
 cases c with
 |true=>exact isTrue_and_nil e
 |false=>exact e
theorem pw_or1 (ha:PT X a tA):PW X (.BoolOp .Or [a] pos) tA:=by
 intro wh pins s σ H Q I h
 refine isTrue_or (thn (ha pins s σ H Q I h) fun c s1 e=>?_)
 cases c with
 |false=>exact isTrue_or_nil e
 |true=>exact e
theorem pw_and (ha:PT X a tA)(hb:PW X (.BoolOp .And (b::rest) pos) tB'):PW X (.BoolOp .And (a::b::rest) pos) (tAnd tA tB'):=by
 intro wh pins s σ H Q I h
 refine isTrue_and (thn (ha pins s σ H _ I h) fun c s1 ⟨H1,I1,q1⟩=>?_)
 cases c with
 |true=>exact hb wh pins s1 σ H1 Q I1 q1
 |false=>exact⟨H1,I1,q1⟩
theorem pw_or (ha:PT X a tA)(hb:PW X (.BoolOp .Or (b::rest) pos) tB'):PW X (.BoolOp .Or (a::b::rest) pos) (tOr tA tB'):=by
 intro wh pins s σ H Q I h
 refine isTrue_or (thn (ha pins s σ H _ I h) fun c s1 ⟨H1,I1,q1⟩=>?_)
 cases c with
 |true=>exact⟨H1,I1,q1⟩
 |false=>exact hb wh pins s1 σ H1 Q I1 q1
theorem pt_not (ha:PT X a tA):PT X (.UnaryOp .Not a pos) (tNot tA):=by
 intro pins s σ H Q I h
 exact isTrue_not (ha pins s σ H (fun c H1=>Q (!c) H1) I h)
noncomputable def tIf (t:TT)(ta tb:TE):TE:=fun σ H Q=>t σ H fun c H1=>if c=true then ta σ H1 Q else tb σ H1 Q
theorem pe_ifExp (hc:PT X c tA)(ha:PE X a ta)(hb:PE X b tb):PE X (.IfExp c a b pos) (tIf tA ta tb):=by
 intro pins s σ H Q I h
 refine wpAny_IfExp (thn (hc pins s σ H _ I h) fun d s1 ⟨H1,I1,q1⟩=>?_)
 cases d with
 |true=>exact ha pins s1 σ H1 Q I1 q1
 |false=>exact hb pins s1 σ H1 Q I1 q1
end
noncomputable def SqL (K:W.Frag)(H:Hp)(a:Addr)(xs:List V):Prop:=
 Rd H a (.lst xs)\/
  ∃(o:Obj) (its:Array Value) (n:Nat),K.lookup a=some o/\o.cls= .type "list"/\o.dict=none/\o.data= .seq its n/\its.size<=sizeLine/\Vals xs its.toList
noncomputable def SqT (K:W.Frag)(H:Hp)(a:Addr)(xs:List V):Prop:=
 Rd H a (.tup xs)\/
  ∃(o:Obj) (its:Array Value) (n:Nat),K.lookup a=some o/\o.cls= .type "tuple"/\o.data= .seq its n/\its.size<=sizeLine/\Vals xs its.toList
noncomputable def absV:Value->Option V
 | .none=>some .non
 | .bool b=>some (.bl b)
 | .int i _=>some (.int i)
 | .str x _=>some (.str x)
 | .bytes b _=>some (.byt b)
 | .float b _=>some (.flt b)
 | .ref a=>some (.ref a)
 | .type n=>some (.ty n)
 |_=>none
theorem RelV.abs {x:V}(r:RelV x u):absV u=some x:=by
 cases x with
 |non=>cases r;rfl
 |bl _=>cases r;rfl
 |int _=>obtain⟨t,rfl⟩:=r;rfl
 |str _=>obtain⟨t,rfl⟩:=r;rfl
 |byt _=>obtain⟨t,rfl⟩:=r;rfl
 |flt _=>obtain⟨t,rfl⟩:=r;rfl
 |ref _=>cases r;rfl
 |ty _=>cases r;rfl
theorem RelV.inj {x y:V}(r:RelV x u)(q:RelV y u):x=y:=Option.some.inj (r.abs.symm.trans q.abs)
theorem Vals.inj:∀{xs ys:List V} {us:List Value},Vals xs us->Vals ys us->xs=ys
 |_,_,_,.nil,.nil=>rfl
 |_,_,_,.cons r t,.cons r' t'=>by rw[r.inj r',Vals.inj t t']
section
variable {X:Cx} {pins:List (Addr×Obj)} {σ:St} {H:Hp} {s:Shared} {a:Addr} {xs ys:List V}
theorem SqL.of (h:H a=some (.lst xs)):SqL K H a xs:= .inl (.inl h)
theorem SqT.of (h:H a=some (.tup xs)):SqT K H a xs:= .inl (.inl h)
theorem Inv.list (I:Inv X pins σ H s)(h:SqL X.K H a xs):∃its:List Value,Vals xs its/\PlainL s.heap a its.toArray/\xs.length<=sizeLine:=by
 rcases h with h|⟨o,its,n,hk,hc,hd,hs,hz,r⟩
 ·obtain⟨z,its,n,r,e⟩:=h.ok I.hok
  exact⟨its,r,⟨_,n,e,rfl,rfl,rfl⟩,z⟩
 ·refine⟨its.toList,r,⟨o,n,I.kIn a o hk,hc,hd,by simpa using hs⟩,?_⟩
  have e:=r.length
  simp only[Array.length_toList]at e
  lia
theorem Inv.tuple (I:Inv X pins σ H s)(h:SqT X.K H a xs):∃its:List Value,Vals xs its/\IsTup s.heap a its.toArray/\xs.length<=sizeLine:=by
 rcases h with h|⟨o,its,n,hk,hc,hs,hz,r⟩
 ·obtain⟨z,its,r,p⟩:=h.ok I.hok
  exact⟨its,r,p,z⟩
 ·refine⟨its.toList,r,⟨o,I.kIn a o hk,hc,n,by simpa using hs⟩,?_⟩
  have e:=r.length
  simp only[Array.length_toList]at e
  lia
theorem Inv.list_inj (I:Inv X pins σ H s)(h:SqL X.K H a xs)(h':SqL X.K H a ys):xs=ys:=by
 obtain⟨its,r,⟨o,n,e,_,_,d⟩,_⟩:=I.list h
 obtain⟨its',r',⟨o',n',e',_,_,d'⟩,_⟩:=I.list h'
 rw[e]at e';cases e'
 rw[d]at d'
 injection d' with d1 _
 have:its=its':=by simpa using congrArg Array.toList d1
 subst this
 exact r.inj r'
theorem Inv.tuple_inj (I:Inv X pins σ H s)(h:SqT X.K H a xs)(h':SqT X.K H a ys):xs=ys:=by
 obtain⟨its,r,⟨o,e,_,n,d⟩,_⟩:=I.tuple h
 obtain⟨its',r',⟨o',e',_,n',d'⟩,_⟩:=I.tuple h'
 rw[e]at e';cases e'
 rw[d]at d'
 injection d' with d1 _
 have:its=its':=by simpa using congrArg Array.toList d1
 subst this
 exact r.inj r'
end
noncomputable abbrev Cx.wish (X:Cx)(E:Value->Shared->Prop):Cx:={X with xe:=E}
noncomputable abbrev Cx.nox (X:Cx):Cx:=X.wish fun _ _=>False
theorem Cx.Ok.wish (ok:X.Ok)(E:Value->Shared->Prop):(X.wish E).Ok:=
 ⟨ok.mod,ok.kind,ok.glob,ok.blt,ok.above,ok.inj,ok.has,ok.cab,ok.hd,ok.frames,ok.stk,ok.exf,ok.bs,ok.bsz,ok.noex,ok.exfs,ok.funs,ok.frf⟩
theorem Cx.Ok.unwish (ok:(X.wish E).Ok):X.Ok:=
 ⟨ok.mod,ok.kind,ok.glob,ok.blt,ok.above,ok.inj,ok.has,ok.cab,ok.hd,ok.frames,ok.stk,ok.exf,ok.bs,ok.bsz,ok.noex,ok.exfs,ok.funs,ok.frf⟩
section
variable {X:Cx} {pins:List (Addr×Obj)} {σ:St} {H:Hp} {s:Shared} {E:Value->Shared->Prop}
theorem Inv.wish (I:Inv X pins σ H s)(E:Value->Shared->Prop):Inv (X.wish E) pins σ H s:=⟨I.ok.wish E,I.os,I.bare,I.base,I.loc,I.cell,I.free,I.freeC,I.pin,I.hok,I.len⟩
theorem Inv.unwish (I:Inv (X.wish E) pins σ H s):Inv X pins σ H s:=⟨I.ok.unwish,I.os,I.bare,I.base,I.loc,I.cell,I.free,I.freeC,I.pin,I.hok,I.len⟩
theorem SP.unwish {D:Ends}{f:Flow}(h:SP (X.wish E) pins D f s'):SP X pins D f s':=by
 cases f with
 |next=>obtain⟨σ',H',I,q⟩:=h;exact⟨σ',H',I.unwish,q⟩
 |brk=>obtain⟨σ',H',I,q⟩:=h;exact⟨σ',H',I.unwish,q⟩
 |cont=>obtain⟨σ',H',I,q⟩:=h;exact⟨σ',H',I.unwish,q⟩
 |ret u=>obtain⟨v,σ',H',I,r,q⟩:=h;exact⟨v,σ',H',I.unwish,r,q⟩
theorem PSs.nox {st:List Stmt}{t:TS}(h:PSs X.nox st t):PSs X st t:=fun pins s σ H D I hw=>
 wpAny_mono (h pins s σ H D (I.wish _) hw) (fun _ _ q=>q.unwish) fun _ _ z=>False.elim z
end
section
variable {X:Cx} {st:Stmt} {rest:List Stmt} {t u:TS} {e:Expr} {te:TE} {pos:Pos}
noncomputable def tNext:TS:=fun D σ H=>D.nx σ H
noncomputable def tSeq (t u:TS):TS:=fun D σ H=>t {D with nx:=u D} σ H
theorem pss_nil:PSs X [] tNext:=fun _ _ σ H _ I h=>wpAny_execs_nil ⟨σ,H,I,h⟩
theorem pss_cons (h1:PS X st t)(h2:PSs X rest u):PSs X (st::rest) (tSeq t u):=by
 intro pins s σ H D I h
 refine wpAny_execs_cons (thn (h1 pins s σ H {D with nx:=u D} I h) fun f s1 q=>?_)
 cases f with
 |next=>
  obtain⟨σ',H',I',q⟩:=q
  exact h2 pins s1 σ' H' D I' q
 |ret v=>exact q
 |brk=>exact q
 |cont=>exact q
theorem pss_one (h1:PS X st t):PSs X [st] t:=by
 intro pins s σ H D I h
 refine wpAny_execs_cons (thn (h1 pins s σ H D I h) fun f s1 q=>?_)
 cases f with
 |next=>exact wpAny_execs_nil q
 |ret v=>exact q
 |brk=>exact q
 |cont=>exact q
theorem Inv.quiet (I:Inv X pins σ H s):interactive X.env=false:=by simp[interactive,I.ok.kind]
noncomputable def tDrop (te:TE):TS:=fun D σ H=>te σ H fun _ H1=>D.nx σ H1
theorem zkj (he:PE X e te)(hs:autoParam (swapsWith e none pos.line X.env=pure false) zu3._auto_1):PS X (.Expr e pos) (tDrop te):=by
 intro pins s σ H D I h
 exact wpAny_Expr_any (thn (he pins s σ H _ I h) fun v s1 ⟨x,H1,I1,r1,q1⟩=>⟨σ,H1,I1,q1⟩) I.quiet hs
noncomputable def tRet (te:TE):TS:=fun D σ H=>te σ H D.rt
theorem zoJ (he:PE X e te):PS X (.Return (some e) pos) (tRet te):=by
 intro pins s σ H D I h
 exact wpAny_Return_some (thn (he pins s σ H _ I h) fun v s1 ⟨x,H1,I1,r1,q1⟩=>⟨x,σ,H1,I1,r1,q1⟩)
noncomputable def tIfS (c:TT)(t u:TS):TS:=fun D σ H=>c σ H fun b H1=>if b=true then t D σ H1 else u D σ H1
theorem ps_if {a b:List Stmt}(hc:PT X c tc)(ha:PSs X a t)(hb:PSs X b u):PS X (.If c a b pos) (tIfS tc t u):=by
 intro pins s σ H D I h
 refine wpAny_If (thn (hc pins s σ H _ I h) fun d s1 ⟨H1,I1,q1⟩=>?_)
 cases d with
 |true=>exact ha pins s1 σ H1 D I1 q1
 |false=>exact hb pins s1 σ H1 D I1 q1
end
noncomputable abbrev TG:=V->St->Hp->(St->Hp->Prop)->Prop
noncomputable abbrev TGs:=List V->St->Hp->(St->Hp->Prop)->Prop
noncomputable def PG (X:Cx)(target:Expr)(t:TG):Prop:=
 ∀(pins:List (Addr×Obj)) (s:Shared) (σ:St) (H:Hp) (v:V) (u:Value) (Q:St->Hp->Prop),Inv X pins σ H s->RelV v u->t v σ H Q->
  wpAny (model X.prog X.w) X.A (assign target X.env u) (fun _ s'=>∃σ' H',Inv X pins σ' H' s'/\Q σ' H') X.xe s
noncomputable def PGs (X:Cx)(ts:List Expr)(t:TGs):Prop:=
 ∀(pins:List (Addr×Obj)) (s:Shared) (σ:St) (H:Hp) (vs:List V) (us:List Value) (Q:St->Hp->Prop),Inv X pins σ H s->Vals vs us->t vs σ H Q->
  wpAny (model X.prog X.w) X.A (assignInOrder ((assignEach ts X.env).map (·.2)) us) (fun _ s'=>∃σ' H',Inv X pins σ' H' s'/\Q σ' H') X.xe s
noncomputable abbrev TSet:=V->V->V->Hp->(Hp->Prop)->Prop
noncomputable def PSet (X:Cx)(t:TSet):Prop:=
 ∀(pins:List (Addr×Obj)) (s:Shared) (σ:St) (H:Hp) (o i v:V) (ov iv u:Value) (Q:Hp->Prop),Inv X pins σ H s->RelV o ov->RelV i iv->RelV v u->t o i v H Q->
  wpAny (model X.prog X.w) X.A (setItem ov iv u) (fun _ s'=>∃H',Inv X pins σ H' s'/\Q H') X.xe s
noncomputable abbrev TIp:=V->V->Hp->VK->Prop
noncomputable def PIp (X:Cx)(op:Operator)(t:TIp):Prop:=
 ∀(pins:List (Addr×Obj)) (s:Shared) (σ:St) (H:Hp) (x y:V) (v u:Value) (Q:VK),Inv X pins σ H s->RelV x v->RelV y u->t x y H Q->
  wpAny (model X.prog X.w) X.A (inplaceOp op v u) (EP X pins σ Q) X.xe s
section
variable {X:Cx} {pos:Pos}
noncomputable def gName (i:Nat):TG:=fun v σ H Q=>Q (σ.set i (some v)) H
theorem zn6 (hN:X.N.Nodup)(hi:X.N[i]? =some x)(hx:Loc X.env.scope x)(hf:autoParam (X.fn x=true\/X.env.scope.names.lookup x=some .local) zu0._auto_1):PG X (.Name x pos) (gName i):=by
  intro pins s σ H v u Q I r h
  exact wpAny_assign_Name (zje I hN hi hx r (fun s' I'=>⟨_,H,I',h⟩) hf)
noncomputable def gNil:TGs:=fun vs σ H Q=>vs=[]/\Q σ H
noncomputable def gCons (t:TG)(u:TGs):TGs:=fun vs σ H Q=>∃v r,vs=v::r/\t v σ H fun σ' H'=>u r σ' H' Q
theorem pgs_nil:PGs X [] gNil:=by
 intro pins s σ H vs us Q I r h
 obtain⟨e,h⟩:=h
 subst e
 cases r
 exact assignInOrder_nil ⟨σ,H,I,h⟩
theorem pgs_cons {t:TG}{u:TGs}(h1:PG X e t)(h2:PGs X es u)
  (hs:autoParam ((assignEach (e::es) X.env).map (·.2)=assign e X.env::(assignEach es X.env).map (·.2)) zu3._auto_1):PGs X (e::es) (gCons t u):=by
 intro pins s σ H vs us Q I r h
 obtain⟨v,vr,e1,h⟩:=h
 subst e1
 cases r with
 |cons r rr=>
  rw[hs]
  refine assignInOrder_cons (thn (h1 pins s σ H _ _ _ I r h) fun _ s1 ⟨σ1,H1,I1,q1⟩=>?_)
  exact h2 pins s1 σ1 H1 _ _ Q I1 rr q1
noncomputable def gTup (K:W.Frag)(n:Nat)(t:TGs):TG:=fun v σ H Q=>∃a xs,v= .ref a/\SqT K H a xs/\xs.length=n/\t xs σ H Q
theorem pg_tup {t:TGs}(hc:X.calm=true)(h:PGs X es t)
  (hn:autoParam ((assignEach es X.env).length=n) zu3._auto_1) (hst:autoParam ((assignEach es X.env).findIdx? (·.1)=none) zu3._auto_1):PG X (.Tuple es k pos) (gTup X.K n t):=by
 intro pins s σ H v u Q I r hw
 obtain⟨a,xs,e1,hq,hl,hw⟩:=hw
 subst e1
 cases r
 obtain⟨its,rv,ht,hz⟩:=I.tuple hq
 refine assign_Tuple_tuple (I.ok.hd hc) ht (by simp[hn,<-hl,rv.length]) hst fun h' hx=>?_
 have I1:Inv X pins σ H {s with heap:=h'}:=I.kept (t':=s.toks) fun b o e=>hx b o (Nat.ne_of_lt (Heap.lt_size e)) e
 exact h pins _ σ H xs _ Q I1 (by simpa using rv) hw
noncomputable def gSub (to ti:TE)(t:TSet):TG:=fun v σ H Q=>to σ H fun o H1=>ti σ H1 fun i H2=>t o i v H2 fun H3=>Q σ H3
theorem zm9 {o i:Expr}{to ti:TE}(ho:PE X o to)(hi:PE X i ti)(hs:PSet X t)
    (ha :autoParam (∀ v, assign (.Subscript o i pos) X.env v = (do
      let ov<-holding [v] (eval o X.env)
      let iv<-holding [v,ov] (eval i X.env)
      standAt pos
      holding [v,ov,iv] (setItem ov iv v)
      release [v,ov,iv] [])) zu4._auto_1):PG X (.Subscript o i pos) (gSub to ti t):=by
  intro pins s σ H v u Q I r h
  rw[ha]
  refine wpAny_bind (wpAny_holding (thn (ho pins s σ H _ I h) fun ov s1 ⟨x,H1,I1,r1,q1⟩=>?_))
  refine wpAny_bind (wpAny_holding (thn (hi pins s1 σ H1 _ I1 q1) fun iv s2 ⟨y,H2,I2,r2,q2⟩=>?_))
  refine wpAny_bind (wpAny_standAt (wpAny_bind (wpAny_holding (thn (hs pins s2 σ H2 x y v ov iv u _ I2 r1 r2 r q2) fun _ s3 ⟨H3,I3,q3⟩=>?_))))
  exact wpAny_release ⟨σ,H3,I3,q3⟩
noncomputable def tAsg (te:TE)(g:TG):TS:=fun D σ H=>te σ H fun x H1=>g x σ H1 D.nx
theorem znm {g:TG}(he:PE X e te)(hg:PG X tg g)(hs:autoParam (swapsWithSole [tg] e pos.line X.env=pure false) zu3._auto_1)(hw:autoParam (swappedStores [tg] e X.env=pure none) zu3._auto_1)
  (h1:autoParam ((assignEach [tg] X.env).map (·.2)=[assign tg X.env]) zu3._auto_1):PS X (.Assign [tg] e pos) (tAsg te g):=by
 intro pins s σ H D I h
 refine wpAny_Assign_stores (thn (he pins s σ H _ I h) fun v s1 ⟨x,H1,I1,r1,q1⟩=>?_) hs hw
 rw[h1]
 exact thn (hg pins s1 σ H1 x v _ I1 r1 q1) fun _ s2 q=>q
theorem zot (hN:X.N.Nodup)(hi:X.N[i]? =some x)(hx:Loc X.env.scope x)(he:PE X e te)(hs:autoParam (swapsWith e (some (.Name x pos')) pos.line X.env=pure false) zu3._auto_1)(hf:autoParam (X.fn x=true\/X.env.scope.names.lookup x=some .local) zu0._auto_1):
  PS X (.Assign [.Name x pos'] e pos) (tAsg te (gName i)):=by
 intro pins s σ H D I h
 refine wpAny_Assign_Name (thn (he pins s σ H _ I h) fun v s1 ⟨y,H1,I1,r1,q1⟩=>?_) hs
 exact zje I1 hN hi hx r1 (fun s2 I2=>⟨_,H1,I2,q1⟩) hf
noncomputable def tAug (i:Nat)(te:TE)(ti:TIp):TS:=fun D σ H=>∃x,σ[i]? =some (some x)/\te σ H fun y H1=>ti x y H1 fun z H2=>D.nx (σ.set i (some z)) H2
theorem ps_aug {op:Operator}{ti:TIp}(hN:X.N.Nodup)(hi:X.N[i]? =some x)(hx:Loc X.env.scope x)(he:PE X e te)(ho:PIp X op ti)(hf:autoParam (X.fn x=true\/X.env.scope.names.lookup x=some .local) zu0._auto_1):
  PS X (.AugAssign (.Name x pos') op e pos) (tAug i te ti):=by
 intro pins s σ H D I h
 obtain⟨v,e1,h⟩:=h
 obtain⟨m,hn,hl⟩:=I.loc
 have vis:Vis X.env.scope x:=by rcases hx with k|k;exact .inl k;exact .inr (.inl k)
 obtain⟨u,r,l⟩:=hl i x v hi e1 vis
 refine wpAny_AugAssign_Name ?_
 have go:wpAny (model X.prog X.w) X.A (eval e X.env) (fun w s₂=>wpAny (model X.prog X.w) X.A (inplaceOp op u w) (fun r s₃=>wpAny (model X.prog X.w) X.A (storeName X.env x r) (fun _=>SP X pins D .next) X.xe s₃) X.xe s₂) X.xe s:=by
  refine thn (he pins s σ H _ I h) fun w s1 ⟨y,H1,I1,r1,q1⟩=>?_
  refine thn (ho pins s1 σ H1 v y u w _ I1 r r1 q1) fun z s2 ⟨zv,H2,I2,r2,q2⟩=>?_
  exact zje I2 hN hi hx r2 (fun s3 I3=>⟨_,H2,I3,q2⟩) hf
 rcases l with⟨hk,hm⟩|⟨hk,c,hc,hcell⟩
 ·exact wpAny_loadName_local I.ok.kind hk hn hm go
 ·rcases hk with hk|hk
  ·exact wpAny_loadName_cell I.ok.kind hk hc hcell go
  ·rcases hx with k|k
   ·have:X.env.scope.names.lookup x=some .free:=hk
    rw[k]at this;cases this
   ·have:X.env.scope.names.lookup x=some .free:=hk
    rw[k]at this;cases this
noncomputable def ipI (f:Int->Int->Int):TIp:=fun x y H Q=>∃i j,x= .int i/\y= .int j/\Q (.int (f i j)) H
theorem ip_add:PIp X .Add (ipI fun i j=>i+j):=by
 intro pins s σ H x y v u Q I r1 r2 h
 obtain⟨i,j,e1,e2,q⟩:=h
 subst e1;subst e2
 obtain⟨t,rfl⟩:=r1
 obtain⟨t',rfl⟩:=r2
 exact iadd_int ⟨.int _,H,I.tok _,⟨_,rfl⟩,q⟩
end
section
variable {X:Cx} {pos:Pos}
noncomputable def tWhile (c:TT)(tb:TS):TS:=fun D σ H=>∃W:Nat->St->Hp->Prop,(∃m,W m σ H)/\∀m σ H,W m σ H->
 c σ H fun b H1=>if b=true then ∃N:St->Hp->Prop,(∀σ' H',N σ' H'->∃m',m'<m/\W m' σ' H')/\tb {D with nx:=N,ct:=N,bk:=D.nx} σ H1 else D.nx σ H1
theorem ps_while {tb:TS}(hp:PassesOwn (model X.prog X.w) X.A X.env X.xe)(hc:PT X c tc)(hb:PSs X body tb):PS X (.While c body [] pos) (tWhile tc tb):=by
 intro pins s σ H D I h
 obtain⟨W,⟨m0,w0⟩,turn⟩:=h
 refine wpAny_While (codeAny_whileLoop (fun n s'=>∃σ' H',Inv X pins σ' H' s'/\W n σ' H') ?_ m0 ⟨σ,H,I,w0⟩)
 rintro n s1 ⟨σ1,H1,I1,w1⟩
 refine wpAny_passesOwn hp (thn (hc pins s1 σ1 H1 _ I1 (turn n σ1 H1 w1)) fun b s2 ⟨H2,I2,q2⟩=>?_)
 cases b with
 |true=>
  obtain⟨N,hN,q2⟩:=q2
  rw[if_pos rfl]
  refine wpAny_passesOwn hp (thn (hb pins s2 σ1 H2 _ I2 q2) fun f s3 q3=>?_)
  cases f with
  |next=>
   obtain⟨σ3,H3,I3,n3⟩:=q3
   obtain⟨m',hm,w3⟩:=hN σ3 H3 n3
   exact⟨m',hm,σ3,H3,I3,w3⟩
  |cont=>
   obtain⟨σ3,H3,I3,n3⟩:=q3
   obtain⟨m',hm,w3⟩:=hN σ3 H3 n3
   exact⟨m',hm,σ3,H3,I3,w3⟩
  |brk=>exact q3
  |ret v=>exact q3
 |false=>
  rw[if_neg Bool.false_ne_true]
  exact wpAny_execs_nil ⟨σ1,H2,I2,q2⟩
end
structure It where
 go:Nat->Hp->Prop
 yld:Nat->Hp->V->Hp->Prop
 stop:Nat->Hp->Prop
noncomputable def FpOk (X:Cx)(pins:List (Addr×Obj))(H:Hp)(b:Addr):Prop:=
 H b=none/\b≠X.env.locals/\b∉X.fs/\(b∈X.ex\/X.s₀.heap.objs.size<=b)/\(∀x c,X.env.cells.lookup x=some c->c≠b)/\∀p∈X.pn++pins,p.1≠b
theorem Inv.fpOk {H H':Hp}(I:Inv X pins σ H s)(hb:s.heap.objs.size<=b)(hn:H' b=none):FpOk X pins H' b:=by
 refine⟨hn,Nat.ne_of_gt (Nat.lt_of_lt_of_le I.lt hb),I.nofs hb,.inr (Nat.le_trans I.sz hb),fun x c e z=>?_,fun p hp z=>?_⟩
 ·obtain⟨v,q⟩:=I.cell x c e
  exact absurd (Nat.lt_of_lt_of_le q.lt (by rw[z];exact hb)) (Nat.lt_irrefl _)
 ·exact absurd (Nat.lt_of_lt_of_le (Heap.lt_size (I.pin p hp).1) (by rw[z];exact hb)) (Nat.lt_irrefl _)
structure Turn (P:Program) (w:World) (K:W.Frag) (tg:Expr) (J:It) (fp:List Addr) (it:Addr) (tn:Nat->Heap->Prop):Prop where
 mem:it∈fp
 obj:∀i h,tn i h->∀b∈fp,∃o,h.get? b=some o/\∀v,o.data≠ .cell v
 keep:∀i h h',tn i h->(∀b∈fp,∀o,h.get? b=some o->h'.get? b=some o)->tn i h'
 item:∀(X:Cx),X.prog=P->X.w=w->X.K=K->X.calm=true->∀(i:Nat) (pins:List (Addr×Obj)) (s:Shared) (σ:St) (H:Hp) (E:Value->Shared->Prop),Inv X pins σ H s->(∀b∈fp,FpOk X pins H b)->tn i s.heap->J.go i H->
  wpAny (model P w) X.A (pyNext (.ref it)) (fun r s1=>∃u,r=some u/\
   wpAny (model P w) X.A (letOwnedTupleGo tg (.ref it) u) (fun _ s2=>∃x H',Inv X pins σ H' s2/\RelV x u/\J.yld i H x H'/\tn (i+1) s2.heap/\∀b∈fp,H' b=none) E s1) E s
 done:∀(X:Cx),X.prog=P->X.w=w->X.K=K->X.calm=true->∀(i:Nat) (pins:List (Addr×Obj)) (s:Shared) (σ:St) (H:Hp) (E:Value->Shared->Prop),Inv X pins σ H s->(∀b∈fp,FpOk X pins H b)->tn i s.heap->J.stop i H->
  wpAny (model P w) X.A (pyNext (.ref it)) (fun r s1=>r=none/\Inv X pins σ H s1) E s
 self:∀(A:Around) (i:Nat) (s:Shared) (Q:Value->Shared->Prop) (E:Value->Shared->Prop),tn i s.heap->Q (.ref it) s->wpAny (model P w) A (pyIter (.ref it)) Q E s
noncomputable abbrev TI:=St->Hp->(It->Hp->Prop)->Prop
noncomputable def PIE (X:Cx)(pins:List (Addr×Obj))(σ:St)(tg:Expr)(R:It->Hp->Prop)(itv:Value)(s2:Shared):Prop:=
 ∃(it:Addr) (fp:List Addr) (tn:Nat->Heap->Prop) (J:It) (H':Hp),itv= .ref it/\Inv X pins σ H' s2/\Turn X.prog X.w X.K tg J fp it tn/\tn 0 s2.heap/\(∀b∈fp,FpOk X pins H' b)/\R J H'
noncomputable def PI (X:Cx)(tg iter:Expr)(wi:TI):Prop:=
 ∀(pins:List (Addr×Obj)) (s:Shared) (σ:St) (H:Hp) (R:It->Hp->Prop),Inv X pins σ H s->wi σ H R->
  wpAny (model X.prog X.w) X.A (eval iter X.env) (fun v s1=>wpAny (model X.prog X.w) X.A (pyIter v) (PIE X pins σ tg R) X.xe s1) X.xe s
theorem go_of {M:Model}{n:String}{vs:Array Value}{Q:Unit->Shared->Prop}(ho:s.heap.get? it=some o)(hc:o.cls= .type n)(hd:o.data= .fields vs)
    (hn:["enumerate","zip","dict_itemiterator","dict_reverseitemiterator","odict_iterator","itertools.zip_longest","itertools.pairwise"].contains n=false) (hQ:Q () s):wpAny M A (letOwnedTupleGo tg (.ref it) u) Q E s:=by
  unfold letOwnedTupleGo
  cases tg<;>first
    |exact wpAny_pure hQ
    | (cases u <;> first
        |exact wpAny_pure hQ
        | (refine wpAny_bind (wpAny_load ho ?_)
           rw[hc,hd]
           show wpAny M A (if(["enumerate","zip","dict_itemiterator","dict_reverseitemiterator","odict_iterator","itertools.zip_longest","itertools.pairwise"].contains n&&vs[0]? ==some (rawInt _))=true then _ else _) Q E s
           rw[if_neg (by intro h;rw[hn,Bool.false_and]at h;cases h)]
           exact wpAny_pure hQ))
noncomputable def Itl (K:W.Frag)(a:Addr):It:=
 ⟨fun i H=>∃xs x,SqL K H a xs/\xs[i]? =some x,fun i H x H'=>H'=H/\∀xs,SqL K H a xs->xs[i]? =some x,fun i H=>∃xs,SqL K H a xs/\xs.length<=i⟩
noncomputable def Itt (K:W.Frag)(a:Addr):It:=
 ⟨fun i H=>∃xs x,SqT K H a xs/\xs[i]? =some x,fun i H x H'=>H'=H/\∀xs,SqT K H a xs->xs[i]? =some x,fun i H=>∃xs,SqT K H a xs/\xs.length<=i⟩
noncomputable def Itr (lo:Int)(n:Nat):It:=⟨fun i _=>i<n,fun i H x H'=>H'=H/\x= .int (lo+i),fun i _=>n<=i⟩
theorem zom {P:Program}(a it:Addr):Turn P w K tg (Itl K a) [it] it (fun i h=>h.IsListIter it a i) where
 mem:=by simp
 obj:=fun i h st b hb=>by
  have e:b=it:=by simpa using hb
  subst e
  obtain⟨o,e,c,d⟩:=st
  exact⟨o,e,fun v z=>by rw[d]at z;cases z⟩
 keep:=fun i h h' st k=>st.at fun o e=>k it (by simp) o e
 item:=by
  intro X hP hw hK hc i pins s σ H E I hf st hg
  subst hP hw hK
  obtain⟨xs,x,hq,hx⟩:=hg
  obtain⟨its,rv,p,hz⟩:=I.list hq
  obtain⟨u,hu,ru⟩:=rv.get hx
  obtain⟨f0,f1,f2,f3,f4,f5⟩:=hf it (by simp)
  refine wpAny_pyNext_list_item st p.isList (x:=u) (by simpa using hu) fun h' st' sb=>?_
  have I1:Inv X pins σ H {s with heap:=h'}:=I.turned (t':=s.toks) (fun b o hb e=>(sb.2 b hb).trans e) f0 f1 f3 f4 f5
  obtain⟨o,e,c,d⟩:=id st'
  exact⟨u,rfl,go_of (s:={s with heap:=h'}) e c d (by decide) ⟨x,H,I1,ru,⟨rfl,fun ys hy=>by rw[I.list_inj hy hq];exact hx⟩,st',fun b hb=>(hf b hb).1⟩⟩
 done:=by
  intro X hP hw hK hc i pins s σ H E I hf st hg
  subst hP hw hK
  obtain⟨xs,hq,hx⟩:=hg
  obtain⟨its,rv,p,hz⟩:=I.list hq
  obtain⟨f0,f1,f2,f3,f4,f5⟩:=hf it (by simp)
  have hl:=rv.length
  exact wpAny_pyNext_list_end (I.ok.hd hc) st p.isList (by simp;lia) fun h' eb=>⟨rfl,I.turned (t':=s.toks) (fun b o hb e=>eb b o hb e) f0 f1 f3 f4 f5⟩
 self:=fun _ _ _ _ _ st h=>wpAny_pyIter_listiter st h
theorem zl9 {P:Program}(a it:Addr):Turn P w K tg (Itt K a) [it] it (fun i h=>h.IsTupleIter it a i) where
 mem:=by simp
 obj:=fun i h st b hb=>by
  have e:b=it:=by simpa using hb
  subst e
  obtain⟨o,e,c,d⟩:=st
  exact⟨o,e,fun v z=>by rw[d]at z;cases z⟩
 keep:=fun i h h' st k=>st.at fun o e=>k it (by simp) o e
 item:=by
  intro X hP hw hK hc i pins s σ H E I hf st hg
  subst hP hw hK
  obtain⟨xs,x,hq,hx⟩:=hg
  obtain⟨its,rv,p,hz⟩:=I.tuple hq
  obtain⟨u,hu,ru⟩:=rv.get hx
  obtain⟨f0,f1,f2,f3,f4,f5⟩:=hf it (by simp)
  refine wpAny_pyNext_tuple_item st (show s.heap.IsTuple a its.toArray from p) (x:=u) (by simpa using hu) fun h' st' sb=>?_
  have I1:Inv X pins σ H {s with heap:=h'}:=I.turned (t':=s.toks) (fun b o hb e=>(sb.2 b hb).trans e) f0 f1 f3 f4 f5
  obtain⟨o,e,c,d⟩:=id st'
  exact⟨u,rfl,go_of (s:={s with heap:=h'}) e c d (by decide) ⟨x,H,I1,ru,⟨rfl,fun ys hy=>by rw[I.tuple_inj hy hq];exact hx⟩,st',fun b hb=>(hf b hb).1⟩⟩
 done:=by
  intro X hP hw hK hc i pins s σ H E I hf st hg
  subst hP hw hK
  obtain⟨xs,hq,hx⟩:=hg
  obtain⟨its,rv,p,hz⟩:=I.tuple hq
  obtain⟨f0,f1,f2,f3,f4,f5⟩:=hf it (by simp)
  have hl:=rv.length
  exact wpAny_pyNext_tuple_end (I.ok.hd hc) st (show s.heap.IsTuple a its.toArray from p) (by simp;lia) fun h' eb=>⟨rfl,I.turned (t':=s.toks) (fun b o hb e=>eb b o hb e) f0 f1 f3 f4 f5⟩
 self:=fun _ _ _ _ _ st h=>wpAny_pyIter_tupleiter st h
theorem zmp {P:Program}{w:World}(it:Addr)(lo:Int)(n:Nat):Turn P w K tg (Itr lo n) [it] it (fun i h=>IsRangeIter h it (lo+(i:Nat)*1) ((n:Int)-(i:Nat)) 1) where
 mem:=by simp
 obj:=fun i h st b hb=>by
  have e:b=it:=by simpa using hb
  subst e
  exact⟨_,st,fun v z=>by
   have z':Data.fields _=Data.cell v:=z
   cases z'⟩
 keep:=fun i h h' st k=>k it (by simp) _ st
 item:=by
  intro X hP hw hK hc i pins s σ H E I hf st hg
  subst hP hw hK
  obtain⟨f0,f1,f2,f3,f4,f5⟩:=hf it (by simp)
  have W:=Walks.range (prog:=X.prog) (w:=X.w) (I.ok.hd hc) it lo 1 n
  refine W.item i s _ _ hg st fun v h' tk hv st' kk=>?_
  obtain⟨t,rfl⟩:=hv
  have I1:Inv X pins σ H {s with heap:=h',toks:=tk}:=I.turned (fun b o hb e=>kk b o (by simpa using hb) e) f0 f1 f3 f4 f5
  refine⟨_,rfl,go_of (s:={s with heap:=h',toks:=tk}) (n:="range_iterator") st' rfl rfl (by decide) ⟨.int (lo+i),H,I1,⟨t,?_⟩,⟨rfl,rfl⟩,st',fun b hb=>(hf b hb).1⟩⟩
  rw[Int.mul_one]
 done:=by
  intro X hP hw hK hc i pins s σ H E I hf st hg
  subst hP hw hK
  obtain⟨f0,f1,f2,f3,f4,f5⟩:=hf it (by simp)
  exact wpAny_pyNext_range_end (I.ok.hd hc) st (by have:n<=i:=hg;lia) fun h' eb=>⟨rfl,I.turned (t':=s.toks) (fun b o hb e=>eb b o hb e) f0 f1 f3 f4 f5⟩
 self:=fun _ _ _ _ _ st h=>wpAny_pyIter_rangeiter st h
section
variable {X:Cx} {tg:Expr}
theorem zlS {R:It->Hp->Prop}{lo hi:Int}{t u v:Tok}{tk:Nat}(I:Inv X pins σ H s)(h1: -(2^62)<=lo)(h2:lo<2^62)(h3: -(2^62)<=hi)(h4:hi<2^62)
  (q:R (Itr lo (hi-lo).toNat) H):wpAny (model X.prog X.w) X.A (pyIter (.ref s.heap.objs.size)) (PIE X pins σ tg R) E {s with heap:=s.heap.push {cls:= .type "range",data:= .fields #[.int lo t,.int hi u,.int 1 v]},toks:=tk}:=by
 refine wpAny_pyIter_range (IsRange.new ..) (small_one h1 h2 h3 h4) ?_
 have I1:Inv X pins σ H {s with heap:=s.heap.push {cls:= .type "range",data:= .fields #[.int lo t,.int hi u,.int 1 v]},toks:=tk}:=I.kept fun b o e=>Heap.get?_push_of_some _ e
 refine⟨(s.heap.push {cls:= .type "range",data:= .fields #[.int lo t,.int hi u,.int 1 v]}).objs.size,[(s.heap.push {cls:= .type "range",data:= .fields #[.int lo t,.int hi u,.int 1 v]}).objs.size],_,_,H,rfl,
  I1.kept (t':=tk) fun b o e=>Heap.get?_push_of_some _ e,zmp _ lo (hi-lo).toNat,?_,fun b hb=>?_,q⟩
 ·have e1:lo+((0:Nat):Int)*1=lo:=by simp
  have e2:(((hi-lo).toNat:Nat):Int)-((0:Nat):Int)=Builtin.Range.rangeSize lo hi 1:=by rw[rangeSize_one];split<;>lia
  show IsRangeIter _ _ (lo+((0:Nat):Int)*1) ((((hi-lo).toNat:Nat):Int)-((0:Nat):Int)) 1
  rw[e1,e2]
  exact Heap.get?_push_size _ rfl
 ·have e:b=(s.heap.push {cls:= .type "range",data:= .fields #[.int lo t,.int hi u,.int 1 v]}).objs.size:=by simpa using hb
  subst e
  exact I1.fpOk (Nat.le_refl _) (I1.hok.fresh (Nat.le_refl _))
noncomputable def iRng1 (ta:TA):TI:=fun σ H R=>ta σ H fun vs H1=>∃j:Int,vs=[.int j]/\ -(2^62)<=j/\j<2^62/\R (Itr 0 j.toNat) H1
noncomputable def iRng2 (ta:TA):TI:=fun σ H R=>ta σ H fun vs H1=>∃i j:Int,vs=[.int i,.int j]/\(-(2^62)<=i/\i<2^62/\ -(2^62)<=j/\j<2^62)/\R (Itr i (j-i).toNat) H1
theorem zoC {a:Expr}{p pos:Pos}(hg:Gl X "range")(hm:X.mg "range"=none)(ha:PA X [a] ta)(hs:autoParam (starEach [a] X.env=[(false,eval a X.env)]) zu3._auto_1):PI X tg (.Call (.Name "range" p) [a] [] pos) (iRng1 ta):=by
 intro pins s σ H R I h
 refine Call_ (ziu I hg hm boot_range (PyProof.Rows.callWith_type1 (thn (ha pos pins s σ H _ I h) fun us s1 ⟨vs,H1,I1,r1,q1⟩=>?_) hs rfl))
 obtain⟨j,e,q1,q2,q⟩:=q1
 subst e
 cases r1 with
 |cons r rr=>
  cases rr
  obtain⟨t,rfl⟩:=r
  exact call_range_1 (zlS I1 (by lia) (by lia) q1 q2 (by simpa using q))
theorem znb {a b:Expr}{p pos:Pos}(hg:Gl X "range")(hm:X.mg "range"=none)(ha:PA X [a,b] ta)(hs:autoParam (starEach [a,b] X.env=[(false,eval a X.env),(false,eval b X.env)]) zu3._auto_1)(hs2:autoParam (starEach [b] X.env=[(false,eval b X.env)]) zu3._auto_1):
  PI X tg (.Call (.Name "range" p) [a,b] [] pos) (iRng2 ta):=by
 intro pins s σ H R I h
 refine Call_ (ziu I hg hm boot_range (PyProof.Rows.callWith_type1 (thn (ha pos pins s σ H _ I h) fun us s1 ⟨vs,H1,I1,r1,q1⟩=>?_) (by rw[hs,hs2]) (by rw[hs2];rfl)))
 obtain⟨i,j,e,⟨q1,q2,q3,q4⟩,q⟩:=q1
 subst e
 cases r1 with
 |cons r rr=>
  cases rr with
  |cons r' rr=>
   cases rr
   obtain⟨t,rfl⟩:=r
   obtain⟨t',rfl⟩:=r'
   exact call_range_2 (zlS I1 q1 q2 q3 q4 q)
noncomputable def tFor (wi:TI)(g:TG)(tb:TS):TS:=fun D σ H=>wi σ H fun J H1=>∃W:Nat->Nat->St->Hp->Prop,(∃m,W 0 m σ H1)/\∀i m σ H,W i m σ H->
 (J.stop i H/\D.nx σ H)\/(J.go i H/\∃N:St->Hp->Prop,(∀σ' H',N σ' H'->∃m',m'<m/\W (i+1) m' σ' H')/\∀x H',J.yld i H x H'->g x σ H' fun σ2 H2=>tb {D with nx:=N,ct:=N,bk:=D.nx} σ2 H2)
noncomputable def zjg (fp:List Addr)(h:Heap):List (Addr×Obj):=fp.filterMap fun b=>(h.get? b).map fun o=>(b,o)
theorem zeh (hb:b∈fp)(e:h.get? b=some o):(b,o)∈zjg fp h:=List.mem_filterMap.mpr ⟨b,hb,by rw[e];rfl⟩
theorem znj (hp:p∈zjg fp h):p.1∈fp/\h.get? p.1=some p.2:=by
 obtain⟨b,hb,e⟩:=List.mem_filterMap.mp hp
 cases q:h.get? b with
 |none=>rw[q]at e;cases e
 |some o=>
  rw[q]at e
  have e':(b,o)=p:=Option.some.inj e
  subst e'
  exact⟨hb,q⟩
theorem Inv.pinned (I:Inv X pins σ H s)(hf:∀b∈fp,FpOk X pins H b)(ho:∀b∈fp,∃o,s.heap.get? b=some o/\∀v,o.data≠ .cell v):Inv X (pins++zjg fp s.heap) σ H s:=
 I.pins_of fun p hp=>(List.mem_append.mp hp).elim (fun z=>I.pin p (List.mem_append_right _ z)) fun z=>by
  obtain⟨hb,e⟩:=znj z
  obtain⟨f0,f1,f2,_⟩:=hf p.1 hb
  obtain⟨o,e',d⟩:=ho p.1 hb
  rw[e]at e';cases e'
  exact⟨e,f0,f1,f2,d⟩
theorem Inv.unpinned {pins pl:List (Addr×Obj)}(I:Inv X (pins++pl) σ H s):Inv X pins σ H s:=I.pins_of fun p hp=>I.pin p (List.mem_append_right _ (List.mem_append_left _ hp))
theorem ps_for {iter:Expr}{wi:TI}{g:TG}{tb:TS}(hp:PassesOwn (model X.prog X.w) X.A X.env X.xe)(hc:X.calm=true)(hi:PI X tg iter wi)(hg:PG X tg g)(hb:PSs X body tb)
    (hs:autoParam (∀x,foldedSetIterable iter X.env x=pure x) zu4._auto_1):PS X (.For tg iter body [] pos) (tFor wi g tb):=by
  intro pins s σ H D I h
  refine wpAny_For (thn (hi pins s σ H _ I h) fun v s1 h1=>thn h1 fun itv s2 h2=>?_) hs
  obtain⟨it,fp,tn,J,H2,e,I2,T,st2,f2,W,⟨m0,w0⟩,turn⟩:=h2
  subst e
  have stat:∀{H':Hp},(∀b∈fp,H' b=none)->∀b∈fp,FpOk X pins H' b:=fun hn b hb=>⟨hn b hb,(f2 b hb).2⟩
  refine codeAny_forLoop_any (fun n s'=>∃i σ' H',Inv X pins σ' H' s'/\tn i s'.heap/\(∀b∈fp,H' b=none)/\W i n σ' H') ?_ m0 ⟨0,σ,H2,I2,st2,fun b hb=>(f2 b hb).1,w0⟩
  rintro n s3 ⟨i,σ3,H3,I3,st3,fr3,w3⟩
  rcases turn i n σ3 H3 w3 with⟨stop,qn⟩|⟨go,N,hN,step⟩
  . refine wpAny_passesOwn hp (thn (T.done X rfl rfl rfl hc i pins s3 σ3 H3 X.xe I3 (stat fr3) st3 stop) fun r s4 ⟨hr,I4⟩=>?_)
    subst hr
    exact wpAny_execs_nil ⟨σ3,H3,I4,qn⟩
  . refine wpAny_passesOwn hp (thn (T.item X rfl rfl rfl hc i pins s3 σ3 H3 X.xe I3 (stat fr3) st3 go) fun r s4 ⟨u,hr,h4⟩=>?_)
    subst hr
    refine wpAny_passesOwn hp (thn h4 fun _ s5 ⟨x,H5,I5,r5,y5,st5,fr5⟩=>?_)
    have I5':=I5.pinned (stat fr5) (T.obj _ _ st5)
    refine wpAny_passesOwn hp (thn (hg _ s5 σ3 H5 x u _ I5' r5 (step x H5 y5)) fun _ s6 ⟨σ6,H6,I6,q6⟩=>?_)
    refine wpAny_passesOwn hp (thn (hb _ s6 σ6 H6 _ I6 q6) fun f s7 q7=>?_)
    have again:∀{σ7:St} {H7:Hp},Inv X (pins++zjg fp s5.heap) σ7 H7 s7->N σ7 H7->∃m,m<n/\∃i σ' H',Inv X pins σ' H' s7/\tn i s7.heap/\(∀b∈fp,H' b=none)/\W i m σ' H':=fun{σ7 H7} I7 n7=>by
      obtain⟨m',hm,w7⟩:=hN σ7 H7 n7
      refine⟨m',hm,i+1,σ7,H7,I7.unpinned,T.keep _ _ _ st5 fun b hb o e=>(I7.pin (b,o) (List.mem_append_right _ (List.mem_append_right _ (zeh hb e)))).1,fun b hb=>?_,w7⟩
      obtain⟨o,e,d⟩:=T.obj _ _ st5 b hb
      exact(I7.pin (b,o) (List.mem_append_right _ (List.mem_append_right _ (zeh hb e)))).2.1
    cases f with
    |next=>obtain⟨σ7,H7,I7,n7⟩:=q7;exact again I7 n7
    |cont=>obtain⟨σ7,H7,I7,n7⟩:=q7;exact again I7 n7
    |brk=>obtain⟨σ7,H7,I7,q7⟩:=q7;exact⟨σ7,H7,I7.unpinned,q7⟩
    |ret v=>obtain⟨x7,σ7,H7,I7,r7,q7⟩:=q7;exact⟨x7,σ7,H7,I7.unpinned,r7,q7⟩
end
noncomputable abbrev R2:=V->V->Hp->VK->Prop
noncomputable def OpR (X:Cx)(f:Value->Value->Sem Value)(r:R2):Prop:=
 ∀(pins:List (Addr×Obj)) (s:Shared) (σ:St) (H:Hp) (x y:V) (v u:Value) (Q:VK),Inv X pins σ H s->RelV x v->RelV y u->r x y H Q->
  wpAny (model X.prog X.w) X.A (f v u) (EP X pins σ Q) X.xe s
noncomputable def UnR (X:Cx)(f:Value->Sem Value)(r:V->Hp->VK->Prop):Prop:=
 ∀(pins:List (Addr×Obj)) (s:Shared) (σ:St) (H:Hp) (x:V) (v:Value) (Q:VK),Inv X pins σ H s->RelV x v->r x H Q->
  wpAny (model X.prog X.w) X.A (f v) (EP X pins σ Q) X.xe s
noncomputable def zeo (X:Cx)(f:Value)(r:List V->Hp->VK->Prop):Prop:=
 ∀(pins:List (Addr×Obj)) (s:Shared) (σ:St) (H:Hp) (xs:List V) (us:List Value) (Q:VK),Inv X pins σ H s->Vals xs us->r xs H Q->
  wpAny (model X.prog X.w) X.A (call f us) (EP X pins σ Q) X.xe s
noncomputable def TruR (X:Cx)(r:V->Hp->(Bool->Hp->Prop)->Prop):Prop:=
 ∀(pins:List (Addr×Obj)) (s:Shared) (σ:St) (H:Hp) (x:V) (v:Value) (Q:Bool->Hp->Prop),Inv X pins σ H s->RelV x v->r x H Q->
  wpAny (model X.prog X.w) X.A (truthy v) (TP X pins σ Q) X.xe s
noncomputable def tOp (r:R2)(ta tb:TE):TE:=fun σ H Q=>ta σ H fun x H1=>tb σ H1 fun y H2=>r x y H2 Q
noncomputable def tUn (r:V->Hp->VK->Prop)(ta:TE):TE:=fun σ H Q=>ta σ H fun x H1=>r x H1 Q
noncomputable def rI (C:Int->Int->Prop)(g:Int->Int->V):R2:=fun x y H Q=>∃i j,x= .int i/\y= .int j/\C i j/\Q (g i j) H
noncomputable def rI0 (g:Int->Int->V):R2:=fun x y H Q=>∃i j,x= .int i/\y= .int j/\Q (g i j) H
noncomputable def rU (g:Int->V):V->Hp->VK->Prop:=fun x H Q=>∃i,x= .int i/\Q (g i) H
section
variable {X:Cx} {a b c:Expr} {ta tb tc:TE} {pos:Pos}
theorem binT (ha:PE X a ta)(hb:PE X b tb){R:V->V->Hp->Prop}(I:Inv X pins σ H s)
  (h:ta σ H fun x H1=>tb σ H1 fun y H2=>R x y H2) {Q:Value->Shared->Prop} {f:Value->Value->Sem Value}
  (hf:∀v u s2 x y H2,Inv X pins σ H2 s2->RelV x v->RelV y u->R x y H2->wpAny (model X.prog X.w) X.A (f v u) Q X.xe s2):
  wpAny (model X.prog X.w) X.A (eval a X.env) (fun v s₁=>wpAny (model X.prog X.w) X.A (eval b X.env) (fun u s₂=>wpAny (model X.prog X.w) X.A (f v u) Q X.xe s₂) X.xe s₁) X.xe s:=by
 refine thn (ha pins s σ H _ I h) fun v s1 ⟨x,H1,I1,r1,q1⟩=>?_
 refine thn (hb pins s1 σ H1 _ I1 q1) fun u s2 ⟨y,H2,I2,r2,q2⟩=>?_
 exact hf v u s2 x y H2 I2 r1 r2 q2
theorem pe_op {op:Operator}{r:R2}(ho:OpR X (binaryOp op) r)(ha:PE X a ta)(hb:PE X b tb):PE X (.BinOp a op b pos) (tOp r ta tb):=by
 intro pins s σ H Q I h
 exact wpAny_BinOp (binT ha hb I h fun v u s2 x y H2 I2 rx ry q=>ho pins s2 σ H2 x y v u Q I2 rx ry q)
theorem pe_un {op:UnaryOp}(ho:UnR X (unaryOp op) r)(ha:PE X a ta):PE X (.UnaryOp op a pos) (tUn r ta):=by
 intro pins s σ H Q I h
 exact UnaryOp_ (thn (ha pins s σ H _ I h) fun v s1 ⟨x,H1,I1,r1,q1⟩=>ho pins s1 σ H1 x v Q I1 r1 q1)
theorem opI {C:Int->Int->Prop}
  (rule:∀(i j:Int) (t u:Tok) (s:Shared) (Q:Value->Shared->Prop) (E:Value->Shared->Prop),C i j->Q (.int (g i j) s.toks) {s with toks:=s.toks+1}->wpAny (model X.prog X.w) X.A (f (.int i t) (.int j u)) Q E s):
  OpR X f (rI C fun i j=> .int (g i j)):=by
 intro pins s σ H x y v u Q I rx ry h
 obtain⟨i,j,rfl,rfl,hc,q⟩:=h
 obtain⟨t,rfl⟩:=rx
 obtain⟨t',rfl⟩:=ry
 exact rule i j t t' s _ _ hc ⟨.int (g i j),H,I.tok _,⟨_,rfl⟩,q⟩
theorem opI0
  (rule:∀(i j:Int) (t u:Tok) (s:Shared) (Q:Value->Shared->Prop) (E:Value->Shared->Prop),Q (.int (g i j) s.toks) {s with toks:=s.toks+1}->wpAny (model X.prog X.w) X.A (f (.int i t) (.int j u)) Q E s):
  OpR X f (rI0 fun i j=> .int (g i j)):=by
 intro pins s σ H x y v u Q I rx ry h
 obtain⟨i,j,rfl,rfl,q⟩:=h
 obtain⟨t,rfl⟩:=rx
 obtain⟨t',rfl⟩:=ry
 exact rule i j t t' s _ _ ⟨.int (g i j),H,I.tok _,⟨_,rfl⟩,q⟩
theorem opB0 {g:Int->Int->Bool}
  (rule:∀(i j:Int) (t u:Tok) (s:Shared) (Q:Value->Shared->Prop) (E:Value->Shared->Prop),Q (.bool (g i j)) s->wpAny (model X.prog X.w) X.A (f (.int i t) (.int j u)) Q E s):
  OpR X f (rI0 fun i j=> .bl (g i j)):=by
 intro pins s σ H x y v u Q I rx ry h
 obtain⟨i,j,rfl,rfl,q⟩:=h
 obtain⟨t,rfl⟩:=rx
 obtain⟨t',rfl⟩:=ry
 exact rule i j t t' s _ _ ⟨.bl (g i j),H,I,rfl,q⟩
noncomputable def CPow (i j:Int):Prop:=0<=j/\j<=1000000/\i.natAbs<2^64
theorem zmG (k:Nat):(0:Int)<=2^k:=by
 rw[two_pow_cast]
 exact Int.natCast_nonneg _
theorem op_add:OpR X (binaryOp .Add) (rI0 fun i j=> .int (i+j)):=opI0 fun _ _ _ _ _ _ _ q=>add_int q
theorem op_sub:OpR X (binaryOp .Sub) (rI0 fun i j=> .int (i-j)):=opI0 fun _ _ _ _ _ _ _ q=>sub_int q
theorem op_mod:OpR X (binaryOp .Mod) (rI (fun _ j=>0<j) fun i j=> .int (i%j)):=opI fun i j _ _ _ _ _ hc q=>by
 have h1:(0:Int)<j:=hc
 exact mod_int' (by lia) (by rw[Int.fmod_eq_emod_of_nonneg i (by lia)];exact q)
theorem op_modN:OpR X (binaryOp .Mod) (rI (fun _ j=>j≠0) fun i j=> .int (i.fmod j)):=opI fun _ _ _ _ _ _ _ hc q=>mod_int' hc q
theorem op_pow:OpR X (binaryOp .Pow) (rI CPow fun i j=> .int (i^j.toNat)):=opI fun _ _ _ _ _ _ _ hc q=>pow_int_small hc.1 hc.2.1 hc.2.2 q
theorem op_shl:OpR X (binaryOp .LShift) (rI CPow fun i j=> .int (i*2^j.toNat)):=opI fun _ _ _ _ _ _ _ hc q=>lshift_int_small hc.1 hc.2.1 hc.2.2 q
theorem op_shr:OpR X (binaryOp .RShift) (rI (fun _ j=>0<=j) fun i j=> .int (i/2^j.toNat)):=opI fun i j _ _ _ _ _ hc q=>
 rshift_int hc (by rw[Int.fdiv_eq_ediv_of_nonneg i (zmG _)];exact q)
theorem op_and:OpR X (binaryOp .BitAnd) (rI0 fun i j=> .int (Builtin.bitAnd i j)):=opI0 fun _ _ _ _ _ _ _ q=>and_int q
theorem unI {f:Value->Sem Value}{g:Int->Int}
  (rule:∀(i:Int) (t:Tok) (s:Shared) (Q:Value->Shared->Prop) (E:Value->Shared->Prop),Q (.int (g i) s.toks) {s with toks:=s.toks+1}->wpAny (model X.prog X.w) X.A (f (.int i t)) Q E s):
  UnR X f (rU fun i=> .int (g i)):=by
 intro pins s σ H x v Q I rx h
 obtain⟨i,rfl,q⟩:=h
 obtain⟨t,rfl⟩:=rx
 exact rule i t s _ _ ⟨.int (g i),H,I.tok _,⟨_,rfl⟩,q⟩
theorem un_neg:UnR X (unaryOp .USub) (rU fun i=> .int (-i)):=unI fun _ _ _ _ _ q=>neg_int q
end
section
variable {X:Cx} {a b c:Expr} {ta tb tc:TE} {pos:Pos}
theorem fin_bl {Q:VK}{k k':Bool}(I:Inv X pins σ H s)(q:Q (.bl k) H)(e:k=k'):EP X pins σ Q (.bool k') s:=by
 subst e
 exact⟨.bl k,H,I,rfl,q⟩
theorem op_lt:OpR X (compareOp .Lt) (rI0 fun i j=> .bl (decide (i<j))):=opB0 fun _ _ _ _ _ _ _ q=>lt_int q
theorem op_gt:OpR X (compareOp .Gt) (rI0 fun i j=> .bl (decide (j<i))):=opB0 fun _ _ _ _ _ _ _ q=>gt_int q
theorem op_ge:OpR X (compareOp .GtE) (rI0 fun i j=> .bl (decide (j<=i))):=opB0 fun _ _ _ _ _ _ _ q=>ge_int q
theorem op_notN:OpR X (compareOp .IsNot) (fun x y H Q=>y= .non/\Q (.bl (!decide (x= .non))) H):=by
 intro pins s σ H x y v u Q I rx ry h
 obtain⟨rfl,q⟩:=h
 cases ry
 refine isnot_none_gen (fin_bl I q ?_)
 cases x<;>first
  |(cases rx;rfl)
  |(obtain⟨t,rfl⟩:=rx;rfl)
noncomputable def isObj:HO->Bool
 | .lst _=>true
 | .ins _ _ _=>true
 |_=>false
theorem OpR.or {r r':R2}(h:OpR X f r)(h':OpR X f r'):OpR X f (fun x y H Q=>r x y H Q\/r' x y H Q):=by
 intro pins s σ H x y v u Q I rx ry q
 rcases q with q|q
 ·exact h pins s σ H x y v u Q I rx ry q
 ·exact h' pins s σ H x y v u Q I rx ry q
theorem zjn (b:Expr)(h:autoParam (op≠ .In) zu1._auto_1)(h2:autoParam (op≠ .NotIn) zu1._auto_1):behindInMarks op b=false:=by
 have e1:(op==CmpOp.In)=false:=by cases op<;>first|rfl|exact absurd rfl h
 have e2:(op==CmpOp.NotIn)=false:=by cases op<;>first|rfl|exact absurd rfl h2
 cases b<;>simp[behindInMarks,e1,e2]
theorem pe_cmpR {r:R2}(ho:OpR X (compareOp op) r)(ha:PE X a ta)(hb:PE X b tb)(hm:behindInMarks op b=false):PE X (.Compare a [op] [b] pos) (tOp r ta tb):=by
 intro pins s σ H Q I h
 exact wpAny_Compare1 (binT ha hb I h fun v u s2 x y H2 I2 rx ry q=>ho pins s2 σ H2 x y v u Q I2 rx ry q) hm
noncomputable def tTest (t:TE):TT:=fun σ H Q=>t σ H fun x H'=>∃k,x= .bl k/\Q k H'
theorem pt_cmpR {r:R2}(ho:OpR X (compareOp op) r)(ha:PE X a ta)(hb:PE X b tb)(hm:behindInMarks op b=false):PT X (.Compare a [op] [b] pos) (tTest (tOp r ta tb)):=by
 intro pins s σ H Q I h
 refine wpAny_isTrue_Compare1 (thn (ha pins s σ H _ I h) fun v s1 ⟨x,H1,I1,r1,q1⟩=>thn (hb pins s1 σ H1 _ I1 q1) fun u s2 ⟨y,H2,I2,r2,q2⟩=>
  thn (ho pins s2 σ H2 x y v u _ I2 r1 r2 q2) fun c s3 ⟨z,H3,I3,r3,k,e,q3⟩=>?_) hm
 subst e
 cases r3
 exact wpAny_truthy_bool ⟨H3,I3,q3⟩
noncomputable def TruV (K:W.Frag)(x:V)(H:Hp)(k:Bool):Prop:=
 match x with
 | .non=>k=false
 | .bl b=>k=b
 | .int i=>k=(i !=0)
 | .str y=>y.length<=sizeLine/\k=((y.length:Int) !=0)
 | .byt y=>y.size<=sizeLine/\k=((y.size:Int) !=0)
 | .ref p=>(∃xs,SqL K H p xs/\k=!xs.isEmpty)\/(∃xs,SqT K H p xs/\k=!xs.isEmpty)\/∃kvs,H p=some (.dK kvs)/\k=!kvs.isEmpty
 |_=>False
theorem zmv {κ:Type}{kvs:List (κ×V)}{vs:List (κ×Value)}(r:KV kvs vs):(!vs.isEmpty)=!kvs.isEmpty:=by
 cases r<;>rfl
theorem ziC (r:Vals xs its):(!its.toArray.isEmpty)=!xs.isEmpty:=by
 cases r<;>simp
theorem ziA:(sizeLine:Nat)<2^63:=by rw[sizeLine_eq];decide
theorem tru_ok:TruR X (fun x H Q=>∃k,TruV X.K x H k/\Q k H):=by
 intro pins s σ H x v Q I rx h
 obtain⟨k,e,q⟩:=h
 have hl:=ziA
 have hs:sizeLine=16777216:=sizeLine_eq
 cases x with
 |non=>
  cases rx
  have e':k=false:=e
  subst e'
  exact truthy_none ⟨H,I,q⟩
 |bl b=>
  cases rx
  have e':k=b:=e
  subst e'
  exact wpAny_truthy_bool ⟨H,I,q⟩
 |int i=>
  obtain⟨t,rfl⟩:=rx
  have e':k=(i !=0):=e
  subst e'
  exact PySem.P.truthy_int ⟨H,I,q⟩
 |str y=>
  obtain⟨t,rfl⟩:=rx
  obtain⟨hy,e'⟩:y.length<=sizeLine/\k=((y.length:Int) !=0):=e
  subst e'
  exact PySem.P.truthy_str (by lia) ⟨H,I.tok _,q⟩
 |byt y=>
  obtain⟨t,rfl⟩:=rx
  obtain⟨hy,e'⟩:y.size<=sizeLine/\k=((y.size:Int) !=0):=e
  subst e'
  exact W.truthy_bytes (by lia) ⟨H,I.tok _,q⟩
 |ref p=>
  cases rx
  have e':(∃xs,SqL X.K H p xs/\k=!xs.isEmpty)\/(∃xs,SqT X.K H p xs/\k=!xs.isEmpty)\/∃kvs,H p=some (.dK kvs)/\k=!kvs.isEmpty:=e
  rcases e' with⟨xs,hx,e'⟩|⟨xs,hx,e'⟩|⟨kvs,hx,e'⟩
  ·subst e'
   obtain⟨its,r,pl,hz⟩:=I.list hx
   have hlen:=r.length
   exact wpAny_truthy_list pl.isList (by simp only[List.size_toArray];lia) ⟨H,I.tok _,by rw[ziC r];exact q⟩
  ·subst e'
   obtain⟨its,r,pl,hz⟩:=I.tuple hx
   have hlen:=r.length
   exact truthy_tuple pl (by simp only[List.size_toArray];lia) ⟨H,I.tok _,by rw[ziC r];exact q⟩
  ·subst e'
   obtain⟨hz,hS,vs,r,m⟩:kvs.length<=sizeLine/\(p==sysModules)=false/\∃vs,KV kvs vs/\s.heap.DictOf (zbj X.prog X.w) p vs:=I.hok p _ hx
   have hlen:kvs.length=vs.length:=Paired.length r
   exact wpAny_truthy_dict hS m (by lia) ⟨H,I.tok _,by rw[zmv r];exact q⟩
 |_=>exact(show False from e).elim
theorem pt_truth (ha:PE X a ta)(he:∀whole,isTrue a X.env whole=(do let v<-whole;standAt a.pos;holding [v] (truthy v))):
  PT X a (fun σ H Q=>ta σ H fun x H'=>∃k,TruV X.K x H' k/\Q k H'):=by
 intro pins s σ H Q I h
 exact isTrue_plain (thn (ha pins s σ H _ I h) fun v s1 ⟨x,H1,I1,r1,q1⟩=>tru_ok pins s1 σ H1 x v Q I1 r1 q1) (he _)
theorem zmC:OpR X (binaryOp .Add) (fun x y H Q=>∃i j,x= .str i/\y= .str j/\i.length+j.length<=sizeLine/\Q (.str (i++j)) H):=by
 intro pins s σ H x y v u Q I rx ry h
 obtain⟨i,j,rfl,rfl,hz,q⟩:=h
 obtain⟨t,rfl⟩:=rx
 obtain⟨t',rfl⟩:=ry
 exact add_str (fun t' tk=>⟨.str (i++j),H,I.tok _,⟨_,rfl⟩,q⟩) hz
theorem zib {x:V}(r:Vals [x] us):∃u,us=[u]/\RelV x u:=by
 cases r with
 |cons r1 r2=>cases r2;exact⟨_,rfl,r1⟩
theorem vals2 {x y:V}(r:Vals [x,y] us):∃u w',us=[u,w']/\RelV x u/\RelV y w':=by
 cases r with
 |cons r1 r2=>
  cases r2 with
  |cons r3 r4=>cases r4;exact⟨_,_,rfl,r1,r3⟩
theorem call_abs:zeo X (.builtin "abs") (fun xs H Q=>∃i,xs=[.int i]/\Q (.int (if i<0 then-i else i)) H):=by
 intro pins s σ H xs us Q I r h
 obtain⟨i,rfl,q⟩:=h
 obtain⟨u,rfl,t,rfl⟩:=zib r
 exact call_abs_int fun u tk=>⟨.int (if i<0 then-i else i),H,I.tok _,⟨_,rfl⟩,q⟩
theorem znB (hc:X.calm=true):zeo X (.builtin "max") (fun xs H Q=>∃i j,xs=[.int i,.int j]/\Q (.int (if j>i then j else i)) H):=by
 intro pins s σ H xs us Q I r h
 obtain⟨i,j,rfl,q⟩:=h
 obtain⟨u,w',rfl,⟨t,rfl⟩,⟨t',rfl⟩⟩:=vals2 r
 refine max_two_ints (I.ok.hd hc) fun h' tk k=>⟨_,H,I.kept k,?_,q⟩
 by_cases hj:j>i
 ·rw[if_pos hj,if_pos hj];exact⟨_,rfl⟩
 ·rw[if_neg hj,if_neg hj];exact⟨_,rfl⟩
theorem znJ (hc:X.calm=true):zeo X (.builtin "min") (fun xs H Q=>∃i j,xs=[.int i,.int j]/\Q (.int (if j<i then j else i)) H):=by
 intro pins s σ H xs us Q I r h
 obtain⟨i,j,rfl,q⟩:=h
 obtain⟨u,w',rfl,⟨t,rfl⟩,⟨t',rfl⟩⟩:=vals2 r
 refine min_two_ints (I.ok.hd hc) fun h' tk k=>⟨_,H,I.kept k,?_,q⟩
 by_cases hj:j<i
 ·rw[if_pos hj,if_pos hj];exact⟨_,rfl⟩
 ·rw[if_neg hj,if_neg hj];exact⟨_,rfl⟩
theorem znd:zeo X (.type "int") (fun xs H Q=>(∃i,xs=[.int i]/\Q (.int i) H)\/∃k,xs=[.bl k]/\Q (.int (if k then 1 else 0)) H):=by
 intro pins s σ H xs us Q I r h
 rcases h with⟨i,rfl,q⟩|⟨k,rfl,q⟩
 ·obtain⟨u,rfl,t,rfl⟩:=zib r
  exact call_int_int ⟨.int i,H,I,⟨_,rfl⟩,q⟩
 ·obtain⟨u,rfl,r1⟩:=zib r
  cases r1
  exact call_int_bool ⟨.int (if k then 1 else 0),H,I.tok _,⟨_,rfl⟩,q⟩
end
structure ObjM (h:Heap) (x dx C:Addr) (mA:Str->Option Value):Prop where
 obj:h.get? x=some (W.instObj C dx)
 ns:h.Ns1 dx mA
 ne:dx≠x
theorem zn2 (n:h.Ns1 dx mA):∃od,h.get? dx=some od/\∀name,W.lookIn name od=some (mA name):=by
 obtain⟨o,es,ep,ho,hd,hk,_,hm⟩:=n
 refine⟨o,ho,fun name=>?_⟩
 have e:=hm name
 unfold nsFind findBy at e
 rw[<-Array.find?_toList]at e
 unfold W.lookIn
 rw[hd]
 dsimp only
 split
 ·rename_i y q
  rw[q]at e
  exact congrArg some e
 ·rename_i q
  rw[q]at e
  have a:es.toList.any (·.refKey)=false:=by
   rw[List.any_eq_false]
   intro y hy
   obtain⟨z,t,hkey⟩:=hk y (Array.mem_toList_iff.mp hy)
   simp[DictEntry.refKey,hkey]
  have a':¬es.toList.any (·.refKey)=true:=by rw[a];exact Bool.false_ne_true
  rw[if_neg a']
  exact congrArg some e
theorem ObjM.look {x dx C:Addr}(I:ObjM h x dx C mA):∃od,W.InstAt h x (W.instObj C dx) C (some od)/\∀name,W.lookIn name od=some (mA name):=
 let⟨od,ho,hl⟩:=zn2 I.ns
 ⟨od,⟨I.obj,rfl,rfl,ho⟩,hl⟩
section
variable {prog:Program} {w:World} {A:Around} {E:Value->Shared->Prop} {s:Shared} {K:W.Frag} {x dx C f:Addr} {mA:Str->Option Value} {name:Str} {v:Value}
theorem get_map {expr:Bool}(X:K.In s.heap)(I:ObjM s.heap x dx C mA)(hg:W.plainGet K C name=true)(hh:W.hasDictIn K C=true)
  (ha:W.findIn K (.ref C) name=some none) (hv:mA name=some v) (hv':W.handedIn v=true) (h:Q v {s with toks:=s.toks+1}):
  wpAny (model prog w) A (getAttr (.ref x) name expr) Q E s:=by
 obtain⟨od,J,hl⟩:=I.look
 exact W.get_value X J (W.plainGet_of hg).1 (W.findObj_own hh ha rfl (by rw[hl,hv])) hv' h
theorem get_meth {Q:Value×List Value->Shared->Prop}(X:K.In s.heap)(I:ObjM s.heap x dx C mA)(hg:W.plainGet K C name=true)
  (hf:W.findIn K (.ref C) name=some (some (.ref f))) (ht:W.isFn K (.ref f)=true) (hv:mA name=none) (h:Q (.ref f,[.ref x]) s):
  wpAny (model prog w) A (getMethod (.ref x) name pl) Q E s:=by
 obtain⟨od,J,hl⟩:=I.look
 exact W.method_fn X J (W.plainGet_of hg).1 (W.plainGet_of hg).2 hf (beq_iff_eq.mp ht) (by show(W.lookIn name od).map (·.isSome)=some false;rw[hl,hv];rfl) h
theorem set_map {Q:Unit->Shared->Prop}(X:K.In s.heap)(I:ObjM s.heap x dx C mA)
  (hs:W.findIn K (.ref C) "__setattr__"=some (some (.builtin "object.__setattr__"))) (hp:W.plainOver K C=true) (ht:W.takerIn K C name=some none) (hh:W.hasDictIn K C=true)
  (hw:PySem.Within mA ns) (hsz:ns.length<=sizeLine)
  (h:∀h',ObjM h' x dx C (fun y=>if y=name then some v else mA y)->Heap.SameBut dx s.heap h'->Q () {s with heap:=h',toks:=s.toks+2}):
  wpAny (model prog w) A (setAttr (.ref x) name v) Q E s:=by
 obtain⟨od,J,hl⟩:=I.look
 refine W.set_plain X J hs (W.osa_open (s:={s with toks:=s.toks+1}) (r:=none) X J hp ht fun b=>?_)
 obtain⟨cd,hc,hd'⟩:=W.any_some hh
 have hx:s.heap.get? x=some ⟨.ref C,some dx,.plain,#[]⟩:=I.obj
 refine wpAny_bind (wpAny_pure (wpAny_bind (wpAny_bind (wpAny_loadPart hx (wpAny_bind (W.Looks.here (s:={s with toks:=s.toks+1}) (W.looks_clsIn X hc) ?_))))))
 rw[hd']
 refine wpAny_pure (a:=some dx) (wpAny_bind (wpAny_pure (wpAny_bind ?_)))
 refine wpAny_nsSet1 (s:={s with toks:=s.toks+1}) I.ns fun h' hn2 hs2=>?_
 obtain⟨oD,esD,epD,hoD,hdD,hcD⟩:=hn2.count (PySem.Within.cons name v hw)
 refine wpAny_bind (wpAny_lookBehind hoD (by rw[hdD];exact pastItsLine_dict (Nat.le_trans hcD (by rw[List.length_cons];lia))) ?_)
 exact wpAny_pure (h _ ⟨(hs2.2 _ (Ne.symm I.ne)).trans I.obj,hn2,I.ne⟩ hs2)
theorem make_map {R:Result->Shared->Prop}{vs:List Value}(X:K.In s.heap)(hm:W.makesIn K C=true)
  (hi:W.findIn K (.ref C) "__init__"=some (some (.ref f))) (hf:W.typeIn K (.ref f)=some (.type "function"))
  (h : codeAny (model prog w) (A.under (.builtin "type.__call__" ⟨.ref C :: vs, kw⟩)) (.call (.ref f) ⟨.ref (s.heap.objs.size + 1) :: vs, kw⟩) (W.InitBack (s.heap.objs.size + 1) R)
   {s with heap:=(s.heap.push W.emptyDict).push (W.instObj C s.heap.objs.size)}):
  codeAny (model prog w) A (.call (.ref C) ⟨vs,kw⟩) R s:=by
 obtain⟨hh,g,d,t,os⟩:=s
 exact W.make_core (W.makes_of X hm) (W.looks_findIn X hi) (fun self=>W.bind_fn X self hf) (.inl rfl) h
end
noncomputable def putF (f:Str)(v:V):List (Str×V)->List (Str×V)
 |[]=>[(f,v)]
 |(g,x)::r=>if g=f then(g,v)::r else(g,x)::putF f v r
theorem zh2 (f g:Str)(v:V):∀fs:List (Str×V),(putF f v fs).lookup g=if g=f then some v else fs.lookup g
 |[]=>by
  show List.lookup g [(f,v)]=_
  by_cases h:g=f
  ·have hb:(g==f)=true:=beq_iff_eq.mpr h
   simp only[List.lookup,hb,if_pos h]
  ·have hb:(g==f)=false:=beq_eq_false_iff_ne.mpr h
   simp only[List.lookup,hb,if_neg h]
 |(k,x)::r=>by
  have ih:=zh2 f g v r
  rw[show putF f v ((k,x)::r)=(if k=f then(k,v)::r else(k,x)::putF f v r)from rfl]
  by_cases hk:k=f
  ·rw[if_pos hk]
   by_cases h:g=k
   ·have hb:(g==k)=true:=beq_iff_eq.mpr h
    simp only[List.lookup,hb,if_pos (h.trans hk)]
   ·have hb:(g==k)=false:=beq_eq_false_iff_ne.mpr h
    simp only[List.lookup,hb,if_neg (fun e:g=f=>h (e.trans hk.symm))]
  ·rw[if_neg hk]
   by_cases h:g=k
   ·have hb:(g==k)=true:=beq_iff_eq.mpr h
    simp only[List.lookup,hb,if_neg (fun e:g=f=>hk (h.symm.trans e))]
   ·have hb:(g==k)=false:=beq_eq_false_iff_ne.mpr h
    simp only[List.lookup,hb]
    exact ih
theorem zh4 (f:Str)(v:V):∀fs:List (Str×V),f∈(putF f v fs).map (·.1)/\∀g,g∈fs.map (·.1)->g∈(putF f v fs).map (·.1)
 |[]=>⟨by simp[putF],fun g h=>by simp at h⟩
 |(k,x)::r=>by
  obtain⟨i1,i2⟩:=zh4 f v r
  rw[show putF f v ((k,x)::r)=(if k=f then(k,v)::r else(k,x)::putF f v r)from rfl]
  by_cases hk:k=f
  ·rw[if_pos hk]
   subst hk
   exact⟨by simp,fun g h=>by simpa using h⟩
  ·rw[if_neg hk]
   refine⟨?_,fun g h=>?_⟩
   ·rw[List.map_cons]
    exact List.mem_cons_of_mem _ i1
   ·rw[List.map_cons]at h ⊢
    rcases List.mem_cons.mp h with e|e
    ·exact List.mem_cons.mpr (.inl e)
    ·exact List.mem_cons_of_mem _ (i2 g e)
theorem zhO (f:Str)(v:V):∀fs:List (Str×V),(putF f v fs).length<=fs.length+1
 |[]=>by simp[putF]
 |(k,x)::r=>by
  have ih:=zhO f v r
  rw[show putF f v ((k,x)::r)=(if k=f then(k,v)::r else(k,x)::putF f v r)from rfl]
  by_cases hk:k=f
  ·rw[if_pos hk,List.length_cons,List.length_cons];lia
  ·rw[if_neg hk,List.length_cons,List.length_cons];lia
theorem RelO.some_of {o:Option Value}(r:RelO (some v) o):∃u,o=some u/\RelV v u:=by
 cases o with
 |none=>exact(show False from r).elim
 |some u=>exact⟨u,rfl,r⟩
theorem RelO.none_of {o:Option Value}(r:RelO none o):o=none:=by
 cases o with
 |none=>rfl
 |some u=>exact(show False from r).elim
theorem zni (r:RelV v u):W.handedIn u=true:=by
 cases v with
 |non=>cases(show u=Value.none from r);rfl
 |bl b=>cases(show u=Value.bool b from r);rfl
 |int i=>obtain⟨t,e⟩:=(show ∃t,u=Value.int i t from r);cases e;rfl
 |str x=>obtain⟨t,e⟩:=(show ∃t,u=Value.str x t from r);cases e;rfl
 |byt b=>obtain⟨t,e⟩:=(show ∃t,u=Value.bytes b t from r);cases e;rfl
 |flt b=>obtain⟨t,e⟩:=(show ∃t,u=Value.float b t from r);cases e;rfl
 |ref a=>cases(show u=Value.ref a from r);rfl
 |ty n=>cases(show u=Value.type n from r);rfl
section
variable {P:Program} {w:World} {H H':Hp} {h h':Heap} {a C dx:Addr} {fs fs':List (Str×V)}
theorem zkQ (hok:HOk P w H h)(e:H a=some (.ins C dx fs)):∃mA,ObjM h a dx C mA/\(∀f,RelO (fs.lookup f) (mA f))/\PySem.Within mA (fs.map (·.1))/\fs.length<=1000/\H dx=some (.own a):=by
 obtain⟨d,z,ne,ob,mA,n,r,q⟩:=(show ObjOk P w H h a (.ins C dx fs)from hok a _ e)
 exact⟨mA,⟨ob,n,ne⟩,r,q,z,d⟩
end
structure Cls (K:W.Frag) (C:Addr):Prop where
 pg:W.plainGet K C Str.empty=true
 hd:W.hasDictIn K C=true
 po:W.plainOver K C=true
 sa:W.findIn K (.ref C) "__setattr__"=some (some (.builtin "object.__setattr__"))
theorem Cls.get (c:Cls K C)(f:Str):W.plainGet K C f=true:=c.pg
noncomputable def NoAttr (K:W.Frag)(C:Addr)(f:Str):Prop:=W.findIn K (.ref C) f=some none
theorem NoAttr.taker {f:Str}(n:NoAttr K C f):W.takerIn K C f=some none:=by
 unfold W.takerIn
 rw[show W.findIn K (.ref C) f=some none from n]
 rfl
structure Meth (K:W.Frag) (C:Addr) (m:Str) (f:Addr):Prop where
 at_:W.findIn K (.ref C) m=some (some (.ref f))
 fn:W.isFn K (.ref f)=true
 kp:W.keepIn K (.ref f)=true
section
variable {X:Cx} {pins:List (Addr×Obj)} {σ:St} {H:Hp} {s:Shared} {a C dx:Addr} {fs:List (Str×V)} {f:Str} {v:V} {A:Around} {E:Value->Shared->Prop}
theorem zl4 {b:Bool}(I:Inv X pins σ H s)(e:H a=some (.ins C dx fs))(c:Cls X.K C)(n:NoAttr X.K C f)(l:fs.lookup f=some v)
  (h:∀u s',Inv X pins σ H s'->RelV v u->Q u s'):wpAny (model X.prog X.w) A (getAttr (.ref a) f b) Q E s:=by
 obtain⟨mA,O,r,_,_,_⟩:=zkQ I.hok e
 obtain⟨u,hu,ru⟩:=RelO.some_of (v:=v) (o:=mA f) (by rw[<-l];exact r f)
 exact get_map I.kIn O (c.get f) c.hd n hu (zni ru) (h u _ (I.tok _) ru)
theorem ziq {g:Addr}{Q:Value×List Value->Shared->Prop}(I:Inv X pins σ H s)(e:H a=some (.ins C dx fs))(c:Cls X.K C)(k:Meth X.K C m g)(l:fs.lookup m=none)
  (h:Q (.ref g,[.ref a]) s):wpAny (model X.prog X.w) A (getMethod (.ref a) m pl) Q E s:=by
 obtain⟨mA,O,r,_,_,_⟩:=zkQ I.hok e
 have hn:mA m=none:=RelO.none_of (by rw[<-l];exact r m)
 exact get_meth I.kIn O (c.get m) k.at_ k.fn hn h
theorem zma {Q:Unit->Shared->Prop}(I:Inv X pins σ H s)(e:H a=some (.ins C dx fs))(c:Cls X.K C)(n:NoAttr X.K C f)(hl:fs.length<1000)(ry:RelV y u)
  (h:∀s',Inv X pins σ (upd H a (.ins C dx (putF f y fs))) s'->Q () s'):wpAny (model X.prog X.w) A (setAttr (.ref a) f u) Q E s:=by
 obtain⟨mA,O,r,wi,_,ho⟩:=zkQ I.hok e
 have hz:(fs.map (·.1)).length<=sizeLine:=by rw[List.length_map,sizeLine_eq];lia
 refine set_map I.kIn O c.sa c.po n.taker c.hd wi hz fun h' O' sb=>h _ ?_
 have hd:∃o,h'.get? dx=some o:=let⟨o,_,_,e',_⟩:=O'.ns;⟨o,e'⟩
 refine I.write (x:=a) (e:=dx) (by rw[e];exact True.intro) (.inr ho) (fun b q hb z=>(sb.2 b hb).trans z) hd ?_
 refine⟨by rw[zal O.ne];exact ho,?_,O.ne,O'.obj,_,O'.ns,fun g=>?_,fun g hg=>?_⟩
 ·have:=zhO f y fs;lia
 ·show RelO ((putF f y fs).lookup g) (if g=f then some u else mA g)
  rw[zh2]
  by_cases q:g=f
  ·rw[if_pos q,if_pos q];exact ry
  ·rw[if_neg q,if_neg q];exact r g
 ·by_cases q:g=f
  ·rw[q];exact(zh4 f y fs).1
  ·refine(zh4 f y fs).2 g (wi g fun z=>hg ?_)
   show(if g=f then some u else mA g)=none
   rw[if_neg q];exact z
theorem Inv.made (I:Inv X pins σ H s):Inv X pins σ (upd (upd H s.heap.objs.size (.own (s.heap.objs.size+1))) (s.heap.objs.size+1) (.ins C s.heap.objs.size []))
  {s with heap:=(s.heap.push W.emptyDict).push (W.instObj C s.heap.objs.size)}:=by
 have e1:(s.heap.push W.emptyDict).get? s.heap.objs.size=some W.emptyDict:=Heap.get?_push_size s.heap rfl
 have e2:((s.heap.push W.emptyDict).push (W.instObj C s.heap.objs.size)).get? (s.heap.objs.size+1)=some (W.instObj C s.heap.objs.size):=by
  have:=Heap.get?_push_size (s.heap.push W.emptyDict) (o:=W.instObj C s.heap.objs.size) rfl
  rwa[Heap.size_push]at this
 have e3:(s.heap.push W.emptyDict).Ns s.heap.objs.size (fun _=>none):=⟨W.emptyDict,#[],_,e1,rfl,(fun e he=>absurd he (by simp)),fun _=>rfl⟩
 have I1:=I.laid (a:=s.heap.objs.size) (o:= .own (s.heap.objs.size+1)) (h':=s.heap.push W.emptyDict) (t':=s.toks) (fun b u q=>Heap.get?_push_of_some _ q) (Nat.le_refl _) ⟨_,e1⟩
 refine I1.laid (a:=s.heap.objs.size+1) (o:= .ins C s.heap.objs.size []) (t':=s.toks) (fun b u q=>Heap.get?_push_of_some _ q) (Nat.le_of_eq (Heap.size_push _ _)) ?_
 have ne:s.heap.objs.size≠s.heap.objs.size+1:=Nat.ne_of_lt (Nat.lt_succ_self _)
 refine⟨by rw[zal ne,zar],Nat.zero_le _,ne,e2,fun _=>none,(Heap.Ns1.of_empty e3).at fun o q=>Heap.get?_push_of_some _ q,fun _=>True.intro,fun y hy=>absurd rfl hy⟩
theorem attr_of {env:Env}{f:Str}(hb:attributeBase e f env (eval e env)=eval e env)
  (h:wpAny (model prog w) A (eval e env) (fun o s₁=>wpAny (model prog w) A (getAttr o f true) Q E s₁) E s):wpAny (model prog w) A (eval (.Attribute e f pos) env) Q E s:=
 Attribute_any_ h (by rw[arm_eval_Attribute,hb])
end
noncomputable def tFld (K:W.Frag)(ta:TE)(f:Str):TE:=fun σ H Q=>ta σ H fun x H1=>∃a C dx fs v,x= .ref a/\H1 a=some (.ins C dx fs)/\Cls K C/\NoAttr K C f/\fs.lookup f=some v/\Q v H1
noncomputable def sFld (K:W.Frag)(ta tv:TE)(f:Str):TS:=fun D σ H=>tv σ H fun y H1=>ta σ H1 fun x H2=>∃a C dx fs,x= .ref a/\H2 a=some (.ins C dx fs)/\Cls K C/\NoAttr K C f/\fs.length<1000/\
 D.nx σ (upd H2 a (.ins C dx (putF f y fs)))
section
variable {X:Cx} {o e value:Expr} {f:Str} {pos pos' tpos:Pos} {ta tv:TE}
theorem zk7 (he:PE X e ta)(hb:attributeBase e f X.env (eval e X.env)=eval e X.env):PE X (.Attribute e f pos) (tFld X.K ta f):=by
 intro pins s σ H Q I h
 refine attr_of hb (thn (he pins s σ H _ I h) fun u s1 ⟨x,H1,I1,rx,a,C,dx,fs,v,ex,ea,c,n,l,q⟩=>?_)
 subst ex
 obtain rfl:u=Value.ref a:=rx
 exact zl4 I1 ea c n l fun u' s2 I2 ru=>⟨v,H1,I2,ru,q⟩
theorem zns (ha:PE X o ta)(hv:PE X value tv)(hs:swapsWith value (some (.Attribute o f pos')) pos.line X.env=pure false):PS X (.Assign [.Attribute o f pos'] value pos) (sFld X.K ta tv f):=by
 intro pins s σ H D I h
 refine plainObj_wpAny_Assign_Attribute (thn (hv pins s σ H _ I h) fun u s1 ⟨y,H1,I1,ry,q⟩=>thn (ha pins s1 σ H1 _ I1 q) fun ov s2 ⟨x,H2,I2,rx,a,C,dx,fs,ex,ea,c,n,l,q2⟩=>?_) hs
 subst ex
 obtain rfl:ov=Value.ref a:=rx
 exact zma I2 ea c n l ry fun s3 I3=>⟨σ,_,I3,q2⟩
end
structure Room (k:Nat) (A:Around):Prop where
 hd:A.handled=none
 dp:A.depth+3*k+5<recursionLimit
 un:A.units+16*k+200<cLine
 gd:A.guards=some []
theorem Room.mono (r:Room k A)(h:j<=k):Room j A:=⟨r.hd,by have:=r.dp;lia,by have:=r.un;lia,r.gd⟩
theorem Room.deeper (r:Room (k+1) A)(env:Env):Room k (A.deeper env):=
 ⟨r.hd,by have:=r.dp;show A.depth+1+3*k+5<_;lia,by have:=r.un;show A.units+3+16*k+200<_;lia,r.gd⟩
theorem zmg {C:Addr}:(A.under (.builtin "type.__call__" ⟨.ref C::us,kw⟩)).depth=A.depth+1:=by
 first|rfl|simp[Around.under,Code.weight,Code.isCreation,Code.isGuard,Code.isCaller,Code.frames,Code.isFrame,guardIds]
theorem zmM {C:Addr}:(A.under (.builtin "type.__call__" ⟨.ref C::us,kw⟩)).units=A.units+1:=by
 first|rfl|simp[Around.under,Code.cUnits,Code.frames,Code.isFrame]
theorem zkm {C:Addr}:(A.under (.builtin "type.__call__" ⟨.ref C::us,kw⟩)).guards=A.guards:=by
 first|rfl|simp[Around.under,Code.guards,Code.isGuard,guardIds,pushGuards]
theorem Room.make (r:Room (k+1) A)(C:Addr)(us:List Value)(kw:List (Str×Value)):Room k (A.under (.builtin "type.__call__" ⟨.ref C::us,kw⟩)):=
 ⟨r.hd,by have:=r.dp;rw[zmg];lia,by have:=r.un;rw[zmM];lia,by rw[zkm];exact r.gd⟩
theorem Room.depth (r:Room k A):A.depth<recursionLimit:=by have:=r.dp;lia
theorem Room.units (r:Room k A):A.units+64<cLine:=by have:=r.un;lia
noncomputable def tNil:TA:=fun _ H Q=>Q [] H
noncomputable def tCons (ta:TE)(tr:TA):TA:=fun σ H Q=>ta σ H fun x H1=>tr σ H1 fun xs H2=>Q (x::xs) H2
section
variable {X:Cx} {e:Expr} {es:List Expr} {te:TE} {t:TA} {pos:Pos}
theorem zjy:PA X [] tNil:=fun _ _ _ _ H Q I h=>Calls.spliced_nil ⟨[],H,I,.nil,h⟩
theorem zgf (ha:PE X e te)(hr:PA X es t)(hs:autoParam (starEach (e::es) X.env=(false,eval e X.env)::starEach es X.env) zu3._auto_1):PA X (e::es) (tCons te t):=by
 intro pos pins s σ H Q I h
 rw[hs]
 show wpAny _ _ (spliced ((false,eval e X.env)::backTo pos (starEach es X.env))) _ _ s
 refine Calls.spliced_cons (thn (ha pins s σ H _ I h) fun u s1 ⟨x,H1,I1,r1,q1⟩=>?_)
 exact thn (hr pos pins s1 σ H1 _ I1 q1) fun us s2 ⟨xs,H2,I2,r2,q2⟩=>⟨x::xs,H2,I2,.cons r1 r2,q2⟩
noncomputable def tTup (t:TA):TE:=fun σ H Q=>t σ H fun xs H1=>xs.length<=sizeLine/\∀p,H1 p=none->Q (.ref p) (upd H1 p (.tup xs))
noncomputable def tLst (t:TA):TE:=fun σ H Q=>t σ H fun xs H1=>xs.length<=sizeLine/\∀p,H1 p=none->Q (.ref p) (upd H1 p (.lst xs))
theorem pe_tup {x1}(h:PA X es t):PE X (.Tuple es x1 pos) (tTup t):=by
 intro pins s σ H Q I hq
 refine wpAny_Tuple_spliced (thn (h pos pins s σ H _ I hq) fun us s1 ⟨xs,H1,I1,r,z,q⟩=>⟨by rw[<-r.length];exact z,?_⟩)
 have hf:H1 s1.heap.objs.size=none:=I1.hok.fresh (Nat.le_refl _)
 refine⟨.ref s1.heap.objs.size,upd H1 s1.heap.objs.size (.tup xs),I1.laid (t':=s1.toks) (fun b u e=>Heap.get?_push_of_some _ e) (Nat.le_refl _) ?_,rfl,q _ hf⟩
 exact⟨z,us,r,⟨_,Heap.get?_push_size _ rfl,rfl,_,rfl⟩⟩
theorem pe_lst (h:PA X es t):PE X (.List es pos) (tLst t):=by
 intro pins s σ H Q I hq
 refine wpAny_List_spliced (thn (h pos pins s σ H _ I hq) fun us s1 ⟨xs,H1,I1,r,z,q⟩=>⟨by rw[<-r.length];exact z,?_⟩)
 have hf:H1 s1.heap.objs.size=none:=I1.hok.fresh (Nat.le_refl _)
 refine⟨.ref s1.heap.objs.size,upd H1 s1.heap.objs.size (.lst xs),I1.laid (t':=s1.toks) (fun b u e=>Heap.get?_push_of_some _ e) (Nat.le_refl _) ?_,rfl,q _ hf⟩
 exact⟨z,us,0,r,Heap.get?_push_size _ rfl⟩
end
noncomputable abbrev Sp:=List V->Hp->VK->XK->Prop
noncomputable abbrev CXT:=List Env->Hp->Shared->XK->Value->Shared->Prop
structure Env0 (P:Program) (w:World) (K:W.Frag) (mg:Str->Option Value) (base:Heap) (A:Around) (outer:List Env) (s:Shared) (H:Hp):Prop where
 frames:A.frames=some outer
 mod:Mod K mg base
 bs:∀b o,base.get? b=some o->s.heap.get? b=some o/\H b=none
 bsz:base.objs.size<=s.heap.objs.size
 funs:s.heap.FunFrames base outer
 frf:∀b∈frs outer,H b=none
 hok:HOk P w H s.heap
 bare:AllBare s.gens
noncomputable def CE (outer:List Env)(P:Program)(w:World)(H:Hp)(s:Shared)(Q:VK)(u:Value)(s':Shared):Prop:=
 ∃v H',s'.os=s.os/\AllBare s'.gens/\Un (frs outer) [] H H' s.heap s'.heap/\HOk P w H' s'.heap/\RelV v u/\Q v H'
noncomputable def CR (CX:CXT)(outer:List Env)(P:Program)(w:World)(H:Hp)(s:Shared)(Q:VK)(E:XK)(r:Result)(s':Shared):Prop:=
 match r with
 | .ok (.ret u)=>CE outer P w H s Q u s'
 | .ok _=>False
 | .error e=>CX outer H s E e s'
structure FnOk (P:Program) (w:World) (K:W.Frag) (mg:Str->Option Value) (base:Heap) (CX:CXT) (k:Nat) (f:Addr) (fd:FuncData) (ps:List Str) (sp:Sp):Prop where
 len:∀vs H Q E,sp vs H Q E->vs.length=ps.length
 run:∀(A:Around) (outer:List Env) (s:Shared) (H:Hp) (args:Args) (us:List Value) (vs:List V) (Q:VK) (E:XK),Room k A->Env0 P w K mg base A outer s H->BindsTo s fd args (ps.zip us)->Vals vs us->sp vs H Q E->
  codeAny (model P w) A (.call (.ref f) args) (CR CX outer P w H s Q E) s
theorem Env0.make {P:Program}(e:Env0 P w K mg base A outer s H)(C:Addr)(us:List Value)(kw:List (Str×Value)):
  Env0 P w K mg base (A.under (.builtin "type.__call__" ⟨.ref C::us,kw⟩)) outer s H:=⟨by first|exact e.frames|(simpa[Around.under,Code.envs,Code.isFrame,pushEnvs]using e.frames),e.mod,e.bs,e.bsz,e.funs,e.frf,e.hok,e.bare⟩
section
variable {X:Cx} {pins:List (Addr×Obj)} {σ:St} {H:Hp} {s s':Shared}
theorem Inv.env0 (I:Inv X pins σ H s):Env0 X.prog X.w X.K X.mg X.base X.A X.stack s H:=
 ⟨I.ok.frames,I.ok.mod,I.bs,Nat.le_trans I.ok.bsz I.sz,I.stack,I.stkFree,I.hok,I.bare⟩
theorem Inv.after {Q:VK}(I:Inv X pins σ H s)(h:CE X.stack X.prog X.w H s Q u s'):EP X pins σ Q u s':=by
 obtain⟨v,H',os,bare,un,hok,r,q⟩:=h
 obtain⟨hh,g,d,t,os'⟩:=s'
 obtain rfl:os'=s.os:=os
 exact⟨v,H',I.call (h':=hh) (g':=g) (d':=d) (t':=t) (ch:=[]) un hok bare (fun b z=>absurd z (by simp)),r,q⟩
end
noncomputable def tCall (sp:Sp)(dvs:List V)(E:XK)(t:TA):TE:=fun σ H Q=>t σ H fun vs H1=>sp (vs++dvs) H1 Q E
noncomputable def tMeth (C:Addr)(m:Str)(sp:Sp)(dvs:List V)(E:XK)(ta:TE)(t:TA):TE:=fun σ H Q=>ta σ H fun x H1=>∃a dx fs,x= .ref a/\H1 a=some (.ins C dx fs)/\fs.lookup m=none/\
 t σ H1 fun vs H2=>sp (x::(vs++dvs)) H2 Q E
noncomputable def tMake (C:Addr)(sp:Sp)(dvs:List V)(E:XK)(t:TA):TE:=fun σ H Q=>t σ H fun vs H1=>∀x dx,H1 x=none->H1 dx=none->dx≠x->
 sp (.ref x::(vs++dvs)) (upd (upd H1 dx (.own x)) x (.ins C dx [])) (fun v H2=>v= .non/\Q (.ref x) H2) E
noncomputable def Binds (K:W.Frag)(fd:FuncData)(ps:List Str)(ds:List Value):Prop:=
 ∀(s:Shared) (us:List Value),K.In s.heap->(us++ds).length=ps.length->BindsTo s fd ⟨us,[]⟩ (ps.zip (us++ds))
theorem Binds.all (h:∀us:List Value,us.length=ps.length->bindArgs fd ⟨us,[]⟩=pure (ps.zip us)):Binds K fd ps []:=fun s us _ hl=>by
 rw[List.append_nil]at hl ⊢
 exact .of_eq (h us hl)
noncomputable def zhS (CX:CXT)(X:Cx)(E:XK):Prop:=∀(pins:List (Addr×Obj)) (σ:St) (H:Hp) (s:Shared) (e:Value) (s':Shared),Inv X pins σ H s->CX X.stack H s E e s'->X.xe e s'
section
variable {X:Cx} {CX:CXT} {k:Nat} {f C:Addr} {fd:FuncData} {ps:List Str} {sp:Sp} {dvs:List V} {ds:List Value} {E:XK} {x m:Str} {p pos apos:Pos} {e o:Expr} {es:List Expr} {ta:TE} {t:TA}
theorem zoi {Q:VK}(F:FnOk X.prog X.w X.K X.mg X.base CX k f fd ps sp)(hr:Room k X.A)(hb:Binds X.K fd ps ds)(hd:Vals dvs ds)(hx:zhS CX X E)
  (I:Inv X pins σ H s) (r:Vals vs us) (h:sp (vs++dvs) H Q E):wpAny (model X.prog X.w) X.A (call (.ref f) us) (EP X pins σ Q) X.xe s:=by
 have r2:Vals (vs++dvs) (us++ds):=r.append hd
 have hl:(us++ds).length=ps.length:=by rw[<-r2.length];exact F.len _ _ _ _ h
 refine wpAny_call (codeAny_mono (F.run X.A X.stack s H ⟨us,[]⟩ (us++ds) (vs++dvs) Q E hr I.env0 (hb s us I.kIn hl) r2 h) fun r s' hq=>?_)
 cases r with
 |error e=>exact hx pins σ H s e s' I hq
 |ok fl=>
  cases fl with
  |ret u=>exact I.after hq
  |next=>exact False.elim hq
  |brk=>exact False.elim hq
  |cont=>exact False.elim hq
theorem zks (F:FnOk X.prog X.w X.K X.mg X.base CX k f fd ps sp)(hr:Room k X.A)(hg:Gl X x)(hm:X.mg x=some (.ref f))(hk:W.keepIn X.K (.ref f)=true)(hb:Binds X.K fd ps ds)(hd:Vals dvs ds)(hx:zhS CX X E)
  (ha:PA X (e::es) t) (hdb:autoParam ((x==("__debug__":Str))=false) zu1._auto_1) (he:autoParam (starEach (e::es) X.env=(false,eval e X.env)::starEach es X.env) zu3._auto_1) (hpl:autoParam ((backTo pos (starEach es X.env)).any (·.1)=false) zu3._auto_1):
  PE X (.Call (.Name x p) (e::es) [] pos) (tCall sp dvs E t):=by
 intro pins s σ H Q I h
 refine wpAny_Call_Name_kw (zoN I hg hm ?_ hdb)
 refine W.callWith_K (h₀:=X.base) I.ok.mod.kin hk (thn (ha pos pins s σ H _ I h) fun us s1 ⟨vs,H1,I1,r,q⟩=>⟨I1.kIn,?_⟩) he hpl
 exact zoi F hr hb hd hx I1 r q
theorem zoH {pl:Sem Bool}(he:PE X o ta)(c:Cls X.K C)(hm:Meth X.K C m f)(F:FnOk X.prog X.w X.K X.mg X.base CX k f fd ps sp)(hr:Room k X.A)(hb:Binds X.K fd ps ds)(hd:Vals dvs ds)(hx:zhS CX X E)(ha:PA X (e::es) t)
  (hst:autoParam (starEach (e::es) X.env=(false,eval e X.env)::starEach es X.env) zu3._auto_1) (hpl:autoParam ((backTo pos (starEach es X.env)).any (·.1)=false) zu3._auto_1)
  (ht :autoParam (eval (.Call (.Attribute o m apos) (e :: es) [] pos) X.env = (do
   let ov<-eval o X.env
   standAt apos.atName
   let(f,first)<-holding [ov] (getMethod ov m pl)
   callWith pos f first (backTo pos (starEach (e::es) X.env)) (backToKw pos (keywordEach [] X.env)))) zu3._auto_1):
  PE X (.Call (.Attribute o m apos) (e::es) [] pos) (tMeth C m sp dvs E ta t):=by
 intro pins s σ H Q I h
 refine W.methodCall_KW (pl:=pl) (thn (he pins s σ H _ I h) fun u s1 ⟨x,H1,I1,rx,a,dx,fs,ex,ea,l,q⟩=>?_) ht
 subst ex
 obtain rfl:u=Value.ref a:=rx
 refine ziq I1 ea c hm l ?_
 refine W.callWith_K (first:=[.ref a]) (h₀:=X.base) I.ok.mod.kin hm.kp (thn (ha pos pins s1 σ H1 _ I1 q) fun us s2 ⟨vs,H2,I2,r,q2⟩=>⟨I2.kIn,?_⟩) hst hpl
 exact zoi (us:= .ref a::us) (vs:= .ref a::vs) F hr hb hd hx I2 (.cons rfl r) q2
theorem pe_meth0 {pl:Sem Bool}(he:PE X o ta)(c:Cls X.K C)(hm:Meth X.K C m f)(F:FnOk X.prog X.w X.K X.mg X.base CX k f fd ps sp)(hr:Room k X.A)(hb:Binds X.K fd ps ds)(hd:Vals dvs ds)(hx:zhS CX X E)
  (ht :autoParam (eval (.Call (.Attribute o m apos) [] [] pos) X.env = (do
   let ov<-eval o X.env
   standAt apos.atName
   let(f,first)<-holding [ov] (getMethod ov m pl)
   callWith pos f first (backTo pos (starEach [] X.env)) (backToKw pos (keywordEach [] X.env)))) zu3._auto_1):
  PE X (.Call (.Attribute o m apos) [] [] pos) (tMeth C m sp dvs E ta tNil):=by
 intro pins s σ H Q I h
 refine W.methodCall_KW (pl:=pl) (thn (he pins s σ H _ I h) fun u s1 ⟨x,H1,I1,rx,a,dx,fs,ex,ea,l,q⟩=>?_) ht
 subst ex
 obtain rfl:u=Value.ref a:=rx
 refine ziq I1 ea c hm l ?_
 exact W.callWith_K0 (first:=[.ref a]) I1.kIn hm.kp (zoi (us:=[.ref a]) (vs:=[.ref a]) F hr hb hd hx I1 (.cons rfl .nil) q)
structure Mk (K:W.Frag) (C f:Addr):Prop where
 makes:W.makesIn K C=true
 init:W.findIn K (.ref C) "__init__"=some (some (.ref f))
 fn:W.isFn K (.ref f)=true
 kp:W.keepIn K (.ref C)=true
theorem run_make {Q:VK}(M:Mk X.K C f)(F:FnOk X.prog X.w X.K X.mg X.base CX k f fd ps sp)(hr:Room (k+1) X.A)(hb:Binds X.K fd ps ds)(hd:Vals dvs ds)
  (hx:zhS CX X E) (I:Inv X pins σ H s) (r:Vals vs us)
  (h:∀x dx,H x=none->H dx=none->dx≠x->sp (.ref x::(vs++dvs)) (upd (upd H dx (.own x)) x (.ins C dx [])) (fun v H2=>v= .non/\Q (.ref x) H2) E):
  wpAny (model X.prog X.w) X.A (call (.ref C) us) (EP X pins σ Q) X.xe s:=by
 have hq:=h (s.heap.objs.size+1) s.heap.objs.size (I.hok.fresh (Nat.le_succ _)) (I.hok.fresh (Nat.le_refl _)) (Nat.ne_of_lt (Nat.lt_succ_self _))
 have I2:=Inv.made (C:=C) I
 have r2:Vals (V.ref (s.heap.objs.size+1)::(vs++dvs)) (Value.ref (s.heap.objs.size+1)::(us++ds)):= .cons rfl (r.append hd)
 have hl:(Value.ref (s.heap.objs.size+1)::us++ds).length=ps.length:=by
  have e:=r2.length
  rw[F.len _ _ _ _ hq]at e
  exact e.symm
 refine wpAny_call (make_map (f:=f) I.kIn M.makes M.init (beq_iff_eq.mp M.fn) (codeAny_mono (F.run _ X.stack _ _ ⟨Value.ref (s.heap.objs.size+1)::us,[]⟩ (Value.ref (s.heap.objs.size+1)::(us++ds)) _ _ E (hr.make C us [])
  (I2.env0.make C us []) (hb _ (Value.ref (s.heap.objs.size+1)::us) I2.kIn hl) r2 hq) fun r s' hq'=>?_))
 cases r with
 |error e=>exact hx pins σ _ _ e s' I2 hq'
 |ok fl=>
  cases fl with
  |ret u=>
   obtain⟨v,H',I3,rv,ev,q3⟩:=I2.after hq'
   subst ev
   exact⟨rv,⟨V.ref (s.heap.objs.size+1),H',I3,rfl,q3⟩⟩
  |next=>exact False.elim hq'
  |brk=>exact False.elim hq'
  |cont=>exact False.elim hq'
theorem pe_make (M:Mk X.K C f)(F:FnOk X.prog X.w X.K X.mg X.base CX k f fd ps sp)(hr:Room (k+1) X.A)(hg:Gl X x)(hm:X.mg x=some (.ref C))(hb:Binds X.K fd ps ds)(hd:Vals dvs ds)(hx:zhS CX X E)
  (ha:PA X (e::es) t) (hdb:autoParam ((x==("__debug__":Str))=false) zu1._auto_1) (he:autoParam (starEach (e::es) X.env=(false,eval e X.env)::starEach es X.env) zu3._auto_1) (hpl:autoParam ((backTo pos (starEach es X.env)).any (·.1)=false) zu3._auto_1):
  PE X (.Call (.Name x p) (e::es) [] pos) (tMake C sp dvs E t):=by
 intro pins s σ H Q I h
 refine wpAny_Call_Name_kw (zoN I hg hm ?_ hdb)
 refine W.callWith_K (h₀:=X.base) I.ok.mod.kin M.kp (thn (ha pos pins s σ H _ I h) fun us s1 ⟨vs,H1,I1,r,q⟩=>⟨I1.kIn,?_⟩) he hpl
 exact run_make M F hr hb hd hx I1 r q
end
structure FnScope (N P:List Str) (sc:Scope):Prop where
 kind:sc.kind= .function
 co:sc.isCoroutine=false
 gen:sc.isGenerator=false
 nd:N.Nodup
 pre:N.take P.length=P
 par:∀x∈P,sc.names.lookup x=some .local\/sc.names.lookup x=some .cell
 nofree:∀y∈sc.names,y.2≠ .free
theorem zjR:∀{binds:List (Str×Value)} {m:Str->Option Value},(∀v,(x,v)∉binds)->bindL kindOf binds m x=m x
 |[],_,_=>rfl
 |(n,v)::r,m,h=>by
  unfold bindL
  rw[zjR fun w hw=>h w (List.mem_cons_of_mem _ hw)]
  split
  ·have:x≠n:=by rintro rfl;exact h v List.mem_cons_self
   simp[this]
  ·rfl
theorem zjm:∀{binds:List (Str×Value)} {m:Str->Option Value},(∀v,(x,v)∉binds)->bindC kindOf binds m x=m x
 |[],_,_=>rfl
 |(n,v)::r,m,h=>by
  unfold bindC
  rw[zjm fun w hw=>h w (List.mem_cons_of_mem _ hw)]
  split
  ·rfl
  ·have:x≠n:=by rintro rfl;exact h v List.mem_cons_self
   simp[this]
theorem zjP {v:Value}:∀{P:List Str} {vs:List Value} {i:Nat} {m:Str->Option Value},P.Nodup->P[i]? =some x->vs[i]? =some v->kindOf x=some .local->
  bindL kindOf (P.zip vs) m x=some v
 |[],_,_,_,_,h,_,_=>by simp at h
 |_::_,[],_,_,_,_,h,_=>by simp at h
 |p::P,w::vs,0,m,nd,h1,h2,hk=>by
  simp at h1 h2;subst h1;subst h2
  show bindL kindOf ((p,w)::P.zip vs) m p=_
  unfold bindL
  rw[zjR fun v hv=>(List.nodup_cons.mp nd).1 (List.of_mem_zip hv).1,if_pos hk]
  simp
 |p::P,w::vs,i+1,m,nd,h1,h2,hk=>by
  show bindL kindOf ((p,w)::P.zip vs) m x=_
  unfold bindL
  exact zjP (i:=i) (List.nodup_cons.mp nd).2 (by simpa using h1) (by simpa using h2) hk
theorem zj5 {v:Value}:∀{P:List Str} {vs:List Value} {i:Nat} {m:Str->Option Value},P.Nodup->P[i]? =some x->vs[i]? =some v->kindOf x≠some .local->
  bindC kindOf (P.zip vs) m x=some v
 |[],_,_,_,_,h,_,_=>by simp at h
 |_::_,[],_,_,_,_,h,_=>by simp at h
 |p::P,w::vs,0,m,nd,h1,h2,hk=>by
  simp at h1 h2;subst h1;subst h2
  show bindC kindOf ((p,w)::P.zip vs) m p=_
  unfold bindC
  rw[zjm fun v hv=>(List.nodup_cons.mp nd).1 (List.of_mem_zip hv).1,if_neg hk]
  simp
 |p::P,w::vs,i+1,m,nd,h1,h2,hk=>by
  show bindC kindOf ((p,w)::P.zip vs) m x=_
  unfold bindC
  exact zj5 (i:=i) (List.nodup_cons.mp nd).2 (by simpa using h1) (by simpa using h2) hk
noncomputable def start (N:List Str)(vs:List V):St:=vs.map some++List.replicate (N.length-vs.length) none
noncomputable def cxOf (CX:CXT)(P:Program)(w:World)(K:W.Frag)(mg:Str->Option Value)(base:Heap)(N:List Str)(qual:Str)(scope:Scope)(f:Addr)(cd:Value)(A:Around)(outer:List Env)(s:Shared)(H:Hp)(E:XK):Cx where
 prog:=P
 w:=w
 K:=K
 mg:=mg
 base:=base
 A:=A.deeper (envOfC qual scope s.heap.objs.size f cd)
 N:=N
 s₀:=s
 H₀:=H
 env:=envOfC qual scope s.heap.objs.size f cd
 outer:=outer
 stack:=envOfC qual scope s.heap.objs.size f cd::outer
 ex:=[]
 calm:=true
 fn:=fun _=>true
 pn:=[]
 xe:=fun e s'=>wpAny (model P w) (A.deeper (envOfC qual scope s.heap.objs.size f cd)) (leaving (envOfC qual scope s.heap.objs.size f cd) e) (fun _ s''=>CX outer H s E e s'') (fun e' s''=>CX outer H s E e' s'') s'
theorem zk0 (h:sc.names.lookup x=some .cell):∃c,(cellsFrom n sc.names []).lookup x=some c:=by
 have q:=W.cellsFrom_some sc.names n [] (.inl h)
 exact Option.isSome_iff_exists.mp q
theorem zmV {P:Program}{f:Addr}{s s1:Shared}{E:XK}
  (S:FnScope N ps scope) (hd:A.handled=none) (e0:Env0 P w K mg base A outer s H) (hl:vs.length=ps.length) (r:Vals vs us)
  (x:InCallC s s.heap.objs.size (bindL (envOfC qual scope s.heap.objs.size f cd).kindOf (ps.zip us) fun _=>none) (cellsFrom (s.heap.objs.size+1) scope.names []) (bindC (envOfC qual scope s.heap.objs.size f cd).kindOf (ps.zip us) fun _=>none) s1):
  Inv (cxOf CX P w K mg base N qual scope f cd A outer s H E) [] (start N vs) H s1:=by
 have hpl:ps.length<=N.length:=by have:=congrArg List.length S.pre;rw[List.length_take]at this;lia
 obtain⟨h1,tk,rfl,hk⟩:=x.done
 have noA:∀b:Addr,b∉(cxOf CX P w K mg base N qual scope f cd A outer s H E).ex:=fun b z=>absurd (show b∈([]:List Addr)from z) (by simp)
 refine⟨⟨e0.mod,S.kind,rfl,rfl,Nat.le_refl _,fun y z c h1 h2=>?_,fun y hy=>?_,fun y c _ h=>?_,fun _=>hd,Around.frames_deeper e0.frames,.inr ⟨rfl,rfl⟩,fun b z=>absurd z (noA b),e0.bs,e0.bsz,fun b _ _=>noA b,fun b z=>absurd z (noA b),e0.funs,e0.frf⟩,
  rfl,e0.bare,Un.kept hk,⟨_,x.toInCall.ns,fun i y v h1 h2 h3=>?_⟩,fun y c h=>⟨_,x.cell y c h⟩,e0.hok.fresh (Nat.le_refl _),fun y c h=>?_,fun p hp=>absurd (show p∈([]:List (Addr×Obj))from hp) (by simp),e0.hok.kept hk,?_⟩
 ·exact name_of_addr x.apart (PySem.mem_of_lookup h1) (PySem.mem_of_lookup h2)
 ·have hy:scope.names.lookup y=some .cell\/scope.names.lookup y=some .free:=hy
  rcases hy with hy|hy
  ·exact zk0 hy
  ·exact absurd rfl (S.nofree _ (PySem.mem_of_lookup hy))
 ·exact Nat.le_of_lt (x.above y c (PySem.mem_of_lookup h))
 ·have hi:i<vs.length:=by
   unfold start at h2
   by_cases hi:i<vs.length
   ·exact hi
   ·rw[List.getElem?_append_right (by simpa using hi)]at h2
    rw[List.getElem?_replicate]at h2
    split at h2<;>cases h2
  have ha:vs[i]? =some v:=by
   unfold start at h2
   rw[List.getElem?_append_left (by simpa using hi),List.getElem?_map]at h2
   cases e:vs[i]? with
   |none=>rw[e]at h2;cases h2
   |some a=>rw[e]at h2;cases h2;rfl
  obtain⟨u,hu,rv⟩:=r.get ha
  have hp:ps[i]? =some y:=by
   rw[<-S.pre,List.getElem?_take_of_lt (by lia)];exact h1
  have ndP:ps.Nodup:=by rw[<-S.pre];exact S.nd.sublist (List.take_sublist _ _)
  refine⟨u,rv,?_⟩
  rcases S.par y (List.mem_of_getElem? hp)with k|k
  ·exact .inl ⟨k,zjP ndP hp hu k⟩
  ·obtain⟨c,e⟩:=zk0 (n:=s.heap.objs.size+1) k
   refine .inr ⟨.inl k,c,e,?_⟩
   have q:=x.cell y c e
   rw[zj5 ndP hp hu (by show scope.names.lookup y≠_;rw[k];decide)]at q
   exact q
 ·exact e0.hok.fresh (Nat.le_of_lt (x.above y c (PySem.mem_of_lookup h)))
 ·unfold start
  show _=N.length
  rw[List.length_append,List.length_map,List.length_replicate]
  lia
theorem fn_of {P:Program}{f:Addr}{name qual:Str}{dV kV doc pm cdv ct oc:Value}{an od:Option Addr}
  {osl:Array (Option Value)} {N ps:List Str} {sp:Sp} (lk:K.lookup f=some ⟨oc,od,.func (W.fnOf name qual params body scope dV kV doc pm an cdv ct),osl⟩) (hcd:W.codeIn K cdv qual=true) (S:FnScope N ps scope)
  (len:∀vs H Q E,sp vs H Q E->vs.length=ps.length)
  (hbody : ∀ (A : Around) (outer : List Env) (s : Shared) (H : Hp) (vs : List V) (Q : VK) (E : XK), Room k (A.deeper (envOfC qual scope s.heap.objs.size f cdv)) -> sp vs H Q E ->
   ∃t,PSs (cxOf CX P w K mg base N qual scope f cdv A outer s H E) body t/\t {nx:=fun _ H'=>Q .non H',rt:=Q} (start N vs) H):
  FnOk P w K mg base CX (k+1) f (W.fnOf name qual params body scope dV kV doc pm an cdv ct) ps sp:=by
 refine⟨len,fun A outer s H args us vs Q E hr e0 hb r hsp=>?_⟩
 have hl:=len _ _ _ _ hsp
 have KX:K.In s.heap:=e0.mod.kin.keeps fun b o e=>(e0.bs b o e).1
 have lim:s.heap.NoLimit:=e0.mod.nolimit.keeps fun b o e=>(e0.bs b o e).1
 have hkind:∀y∈ps.zip us,scope.names.lookup y.1=some .local\/(scope.names.lookup y.1=some .cell/\((cellsFrom (s.heap.objs.size+1) scope.names []).lookup y.1).isSome=true):=fun⟨n,v⟩ hy=>by
  rcases S.par n (List.of_mem_zip hy).1 with q|q
  ·exact .inl q
  ·exact .inr ⟨q,W.cellsFrom_some _ _ _ (.inl q)⟩
 refine codeAny_call_function hr.depth (KX _ _ lk) rfl S.co S.gen rfl (W.codeRec_of KX hcd) (hb _ _ _ _ ?_)
 refine wpAny_newFunctionEnv_cells S.kind hkind fun env he s1 x=>?_
 subst he
 refine⟨lim.keeps x.toInCall.keep,codeAny_func ?_⟩
 obtain⟨t,ht,hq⟩:=hbody A outer s H vs Q E (hr.deeper _) hsp
 have I:Inv (cxOf CX P w K mg base N qual scope f cdv A outer s H E) [] (start N vs) H s1:=zmV S hr.hd e0 hl r x
 refine wpAny_mono (ht [] s1 (start N vs) H _ I hq) (fun fl s' hs=>?_) fun e s' hs=>hs
 have fin:∀{σ':St} {H':Hp} {v:V} {u:Value},Inv (cxOf CX P w K mg base N qual scope f cdv A outer s H E) [] σ' H' s'->RelV v u->Q v H'->CE outer P w H s Q u s':=
  fun{σ' H' v u} J rv q=>⟨v,H',J.os,J.bare,J.base,J.hok,rv,q⟩
 cases fl with
 |ret u=>
  obtain⟨v,σ',H',J,rv,q⟩:=hs
  exact fin J rv q
 |next=>
  obtain⟨σ',H',J,q⟩:=hs
  exact fin (v:=V.non) (u:=Value.none) J rfl q
 |brk=>
  obtain⟨_,_,_,q⟩:=hs
  exact False.elim q
 |cont=>
  obtain⟨_,_,_,q⟩:=hs
  exact False.elim q
section
variable {X:Cx} {x:Str} {p pos:Pos} {e:Expr} {es:List Expr} {t:TA} {id T:String} {r:List V->Hp->VK->Prop}
noncomputable def tCB (r:List V->Hp->VK->Prop)(t:TA):TE:=fun σ H Q=>t σ H fun vs H1=>r vs H1 Q
theorem zlV (hc:zeo X (.builtin id) r)(hg:Gl X x)(hm:X.mg x=none)(hv:bootBuiltins x=some (.builtin id))(ha:PA X (e::es) t)(hn:autoParam (x≠"__name__") zu1._auto_1)(hdb:autoParam ((x==("__debug__":Str))=false) zu1._auto_1)
  (he:autoParam (starEach (e::es) X.env=(false,eval e X.env)::starEach es X.env) zu3._auto_1) (hpl:autoParam ((backTo pos (starEach es X.env)).any (·.1)=false) zu3._auto_1):PE X (.Call (.Name x p) (e::es) [] pos) (tCB r t):=by
 intro pins s σ H Q I h
 refine wpAny_Call_Name_kw (ziu I hg hm hv ?_ hn hdb)
 exact PyProof.Rows.callWith_builtin1 (thn (ha pos pins s σ H _ I h) fun us s1 ⟨vs,H1,I1,r1,q1⟩=>hc pins s1 σ H1 vs us Q I1 r1 q1) he hpl
theorem zf0 (hc:zeo X (.type T) r)(hg:Gl X x)(hm:X.mg x=none)(hv:bootBuiltins x=some (.type T))(ha:PA X (e::es) t)(hn:autoParam (x≠"__name__") zu1._auto_1)(hdb:autoParam ((x==("__debug__":Str))=false) zu1._auto_1)
  (he:autoParam (starEach (e::es) X.env=(false,eval e X.env)::starEach es X.env) zu3._auto_1) (hpl:autoParam ((backTo pos (starEach es X.env)).any (·.1)=false) zu3._auto_1):PE X (.Call (.Name x p) (e::es) [] pos) (tCB r t):=by
 intro pins s σ H Q I h
 refine wpAny_Call_Name_kw (ziu I hg hm hv ?_ hn hdb)
 exact PyProof.Rows.callWith_type1 (thn (ha pos pins s σ H _ I h) fun us s1 ⟨vs,H1,I1,r1,q1⟩=>hc pins s1 σ H1 vs us Q I1 r1 q1) he hpl
end
end L2
namespace HT
open PyProof.Rows PySem
noncomputable def zbG:List Int->List Int->Bool
 |[],[]=>false
 |[],_::_=>true
 |_::_,[]=>false
 |x::xs,y::ys=>if x=y then zbG xs ys else decide (x<y)
theorem zmA (x y:Int)(xs ys:List Int):zbG (x::xs) (y::ys)=if x=y then zbG xs ys else decide (x<y):=rfl
theorem zi9:zbG [] []=false:=rfl
theorem zig (y:Int)(ys:List Int):zbG [] (y::ys)=true:=rfl
theorem zih (x:Int)(xs:List Int):zbG (x::xs) []=false:=rfl
theorem eqAt_int (A:Around)(s:Shared)(a:Int)(t:Tok)(c:Int)(u:Tok):∃e,SeqAt.EqAt A s (.int a t) (.int c u) e/\(e=true↔a=c):=
 ⟨(a==c),SeqAt.EqAt.int_int a t c u,by simp⟩
theorem rcLt_int (A:Around)(s:Shared)(a:Int)(t:Tok)(c:Int)(u:Tok)(prog:Program)(w:World)(E:Value->Shared->Prop)(Q:Value->Shared->Prop)(h:Q (.bool (decide (a<c))) s):
  wpAny (model prog w) A (richCompare .Lt (.int a t) (.int c u)) Q E s:=
 (PyProof.Rows.lt_int h:wpAny (model prog w) A (compareOp .Lt (.int a t) (.int c u)) Q E s)
section
open PySem.SeqAt
open PySem.AutoSeq1 (wpAny_loadPart')
open PySem.MeetsSeq PySem.MeetsSeq2 PySem.MeetsSeq3
theorem ziO (l b:Addr)(items items2:Array Value)(n n2:Nat)(dd dd2:Option Addr)(sl sl2:Array (Option Value))(ns ms:List Int)(hi:IntsAre items.toList ns)(hj:IntsAre items2.toList ms):
  Meets (Builtin.«tuple.__lt__» ⟨[.ref l,.ref b],[]⟩)
   (fun _ R s => s.heap.get? l = some { cls := .type "tuple", dict := dd, data := .seq items n, slots := sl } /\ s.heap.get? b = some { cls := .type "tuple", dict := dd2, data := .seq items2 n2, slots := sl2 } /\
    R (.ok (.ret (.bool (zbG ns ms)))) s):=
 .of_wp fun prog w A R s h=>by
  obtain⟨hp,g,d,tk,os⟩:=s;obtain⟨hl,hb,h⟩:=h
  have f2:=AutoSeq1.sub_tuple_tuple
  have z1:items.size=ns.length:=by rw[<-hi.length];simp
  have z2:items2.size=ms.length:=by rw[<-hj.length];simp
  wp_walk using wpAny_loadPart' hl,wpAny_loadPart' hb,wpAny_forIn_list _ (fun rest b s'=>b.1=none/\s'=⟨hp,g,d,tk,os⟩/\∃(vs ws:List Value) (ns' ms':List Int),rest=vs.zip ws/\
   IntsAre vs ns'/\IntsAre ws ms'/\ns'.length+items2.size=ms'.length+items.size/\R (.ok (.ret (.bool (zbG ns' ms')))) ⟨hp,g,d,tk,os⟩) _
  case turn=>
   rintro⟨y,x⟩ rest b s' ⟨hb',rfl,vs,ws,ns',ms',hz,hvi,hwi,hlen,hR⟩
   cases hvi with
   |nil=>rw[List.zip_nil_left]at hz;cases hz
   |cons a t hvi'=>
    cases hwi with
    |nil=>rw[List.zip_nil_right]at hz;cases hz
    |cons c u hwi'=>
     rw[List.zip_cons_cons]at hz
     injection hz with hyx hrest
     injection hyx with hy hx
     subst hy hx
     rw[zmA]at hR
     simp only[List.length_cons]at hlen
     obtain⟨e,he,hiff⟩:=eqAt_int A.in1 ⟨hp,g,d,tk,os⟩ a t c u
     refine wpAny_bind (he prog w _ _ ?_)
     cases e with
     |true=>
      rw[if_pos (hiff.mp rfl)]at hR
      wp_walk
      exact⟨rfl,rfl,_,_,_,_,hrest,hvi',hwi',by lia,hR⟩
     |false=>
      rw[if_neg (fun q=>absurd (hiff.mpr q) Bool.false_ne_true)]at hR
      have hri:=rcLt_int A.in1 ⟨hp,g,d,tk,os⟩ a t c u prog w
      wp_walk using hri
      exact⟨_,rfl,by simpa using hR⟩
  case fin=>
   rintro⟨b1,b2⟩ s' ⟨hb',rfl,vs,ws,ns',ms',hz,hvi,hwi,hlen,hR⟩
   simp only at hb'
   subst hb'
   have hv:zbG ns' ms'=decide (items.size<items2.size):=by
    cases hvi with
    |nil=>
     cases hwi with
     |nil=>
      simp only[List.length_nil]at hlen
      rw[zi9]
      exact(decide_eq_false (by lia)).symm
     |cons c u hw=>
      simp only[List.length_nil,List.length_cons]at hlen
      rw[zig]
      exact(decide_eq_true (by lia)).symm
    |cons a t hv=>
     cases hwi with
     |nil=>
      simp only[List.length_nil,List.length_cons]at hlen
      rw[zih]
      exact(decide_eq_false (by lia)).symm
     |cons c u hw=>
      rw[List.zip_cons_cons]at hz
      cases hz
   rw[hv]at hR
   wp_walk
   exact⟨_,rfl,by simpa[Builtin.Tuple.tupleCompareSizes]using hR⟩
  case h=>
   exact⟨rfl,rfl,items.toList,items2.toList,ns,ms,rfl,hi,hj,by lia,h⟩
end
section
variable {prog:Program} {w:World} {A:Around} {E:Value->Shared->Prop} {s:Shared}
theorem zmE {l b:Addr}{items items2:Array Value}{ns ms:List Int}{Q:Value->Shared->Prop}(hl:IsTup s.heap l items)(hb:IsTup s.heap b items2)(hi:IntsAre items.toList ns)(hj:IntsAre items2.toList ms)
  (hu:A.units<cLine) (h:Q (.bool (zbG ns ms)) s):wpAny (model prog w) A (compareOp .Lt (.ref l) (.ref b)) Q E s:=by
 obtain⟨⟨cls,dd,data,sl⟩,ho,hc,n,hd⟩:=id hl
 obtain⟨⟨cls2,dd2,data2,sl2⟩,ho2,hc2,n2,hd2⟩:=id hb
 simp only at hc hd hc2 hd2
 subst hc hd hc2 hd2
 exact richCompare_meets_room (op:= .Lt) ⟨_,ho,rfl⟩ ⟨_,ho2,rfl⟩ PySem.F.slot_tuple_lt PySem.F.entry_tuple_lt (PySem.F.args_tuple_lt_2 _ _) (ziO l b items items2 n n2 dd dd2 sl sl2 ns ms hi hj)
  ⟨ho,ho2,show Value.bool (zbG ns ms)≠Value.notImplemented/\Q (.bool (zbG ns ms)) s from⟨(fun x=>nomatch x),h⟩⟩ hu
theorem cat_tup {t b:Addr}{vs ws:List Value}{Q:Value->Shared->Prop}(ht:IsTup s.heap t vs.toArray)(hb:IsTup s.heap b ws.toArray)(hv:vs≠[])
  (h1:ws=[]->Q (.ref t) s) (h2:ws≠[]->Q (.ref s.heap.objs.size) {s with heap:=s.heap.push {cls:= .type "tuple",data:= .seq (vs++ws).toArray}})
  (hsz:vs.length+ws.length<=sizeLine):wpAny (model prog w) A (binaryOp .Add (.ref t) (.ref b)) Q E s:=by
 obtain⟨⟨cls,dd,data,sl⟩,ho,hc,n,hd⟩:=id ht
 obtain⟨⟨cls2,dd2,data2,sl2⟩,ho2,hc2,n2,hd2⟩:=id hb
 simp only at hc hd hc2 hd2
 subst hc hd hc2 hd2
 have e:vs.toArray++ws.toArray=(vs++ws).toArray:=by simp
 by_cases hw:ws=[]
 ·exact concat_meets ⟨_,ho,rfl⟩ ⟨_,ho2,rfl⟩ noFill_tuple_add seq_tuple_add PySem.F.slot_tuple_add PySem.F.entry_tuple_add (PySem.F.args_tuple_add_2 _ _)
   (tuple_addW1 t b vs.toArray ws.toArray n n2 dd dd2 sl sl2 (by simpa using hv) (by simp[hw])) ⟨ho,ho2,h1 hw⟩
 ·refine concat_meets ⟨_,ho,rfl⟩ ⟨_,ho2,rfl⟩ noFill_tuple_add seq_tuple_add PySem.F.slot_tuple_add PySem.F.entry_tuple_add (PySem.F.args_tuple_add_2 _ _)
   (tuple_addW2 t b vs.toArray ws.toArray n n2 dd dd2 sl sl2 (by simpa using hv) (by simpa using hw) (by rw[List.size_toArray,List.size_toArray];exact hsz)) ⟨ho,ho2,?_⟩
  rw[e]
  exact h2 hw
noncomputable def sIx (n d:Nat):Option Int->Nat
 |none=>d
 |some v=>if v<0 then(v+(n:Int)).toNat else min v.toNat n
theorem zlQ (n d:Nat):sIx n d none=d:=rfl
theorem znV (n d k:Nat):sIx n d (some (k:Int))=min k n:=by
 show(if(k:Int)<0 then((k:Int)+(n:Int)).toNat else min (k:Int).toNat n)=min k n
 rw[if_neg (by lia),Int.toNat_natCast]
theorem sIx_le (n d:Nat)(hd:d<=n)(o:Option Int):sIx n d o<=n:=by
 cases o with
 |none=>exact hd
 |some v=>
  show(if v<0 then(v+(n:Int)).toNat else min v.toNat n)<=n
  by_cases hv:v<0
  ·rw[if_pos hv];lia
  ·rw[if_neg hv];exact Nat.min_le_right _ _
theorem znY (v:Int)(n d:Nat):(if v<0 then max (v+(n:Int)) 0 else min v (n:Int))=((sIx n d (some v):Nat):Int):=by
 show(if v<0 then max (v+(n:Int)) 0 else min v (n:Int))=(((if v<0 then(v+(n:Int)).toNat else min v.toNat n):Nat):Int)
 by_cases hv:v<0
 ·simp only[if_pos hv];lia
 ·simp only[if_neg hv];lia
theorem zl7 (lo hi:Option Int)(n:Nat):Builtin.Slice.sliceAdjust lo hi 1 (n:Int)=(((sIx n 0 lo:Nat):Int),((sIx n n hi:Nat):Int)):=by
 have h1:¬((1:Int)<0):=by lia
 unfold Builtin.Slice.sliceAdjust
 simp only[h1,if_false]
 refine Prod.ext ?_ ?_
 ·cases lo with
  |none=>rfl
  |some v=>exact znY v n 0
 ·cases hi with
  |none=>rfl
  |some v=>exact znY v n n
theorem zmH (i j:Nat):Builtin.Slice.slicePlaces (i:Int) (j:Int) 1=j-i:=by
 unfold Builtin.Slice.slicePlaces
 have h1:(1:Int)>0:=by lia
 simp only[h1,if_true,Int.ediv_one]
 split<;>lia
theorem zim {v:Value}{o:Option Int}{Q:Option Int->Shared->Prop}(p:IsPart v o)(h:Q o s):wpAny (model prog w) A (Builtin.Slice.slicePartIndex v) Q E s:=by
 cases p with
 |none=>exact slicePart_none h
 |int i t=>exact slicePart_int h
theorem zdt {sl:Addr}{vl vu:Value}{lo hi:Option Int}{n:Nat}{Q:Int×Int×Nat->Shared->Prop}(hs:s.heap.IsSliceOf sl vl vu .none)(pl:IsPart vl lo)(pu:IsPart vu hi)
  (h:Q (((sIx n 0 lo:Nat):Int),1,sIx n n hi-sIx n 0 lo) s):wpAny (model prog w) A (Builtin.Slice.sliceApplied (.ref sl) (pure (n:Int))) Q E s:=by
 obtain⟨os,hos,hcs,hds⟩:=id hs
 unfold Builtin.Slice.sliceApplied Builtin.Slice.sliceFields
 refine wpAny_bind (wpAny_bind (wpAny_field hos hds (x:=vl) rfl (wpAny_bind (wpAny_field hos hds (x:=vu) rfl (wpAny_bind (wpAny_field hos hds (x:= .none) rfl (wpAny_pure ?_)))))))
 refine wpAny_bind (slicePart_none ?_)
 show wpAny _ _ (if((1:Int)==0)=true then _ else _) _ _ s
 rw[if_neg (by decide)]
 refine wpAny_bind (zim pl (wpAny_bind (zim pu (wpAny_bind (wpAny_pure ?_)))))
 show wpAny _ _ (match Builtin.Slice.sliceAdjust lo hi 1 (n:Int)with|(lo,hi)=>pure (lo,(1:Int),Builtin.Slice.slicePlaces lo hi 1)) _ _ s
 rw[zl7 lo hi n]
 show wpAny _ _ (pure (((sIx n 0 lo:Nat):Int),(1:Int),Builtin.Slice.slicePlaces ((sIx n 0 lo:Nat):Int) ((sIx n n hi:Nat):Int) 1)) _ _ s
 rw[zmH]
 exact wpAny_pure h
theorem pick_gen (xs:Array Value)(i k:Nat):((List.range k).filterMap fun(m:Nat)=>xs[((i:Int)+(m:Int)*1).toNat]?).toArray=((xs.toList.drop i).take k).toArray:=by
 have e:(fun(m:Nat)=>xs[((i:Int)+(m:Int)*1).toNat]?)=fun m=>xs[i+m]?:=by
  funext m
  have:((i:Int)+(m:Int)*1).toNat=i+m:=by lia
  rw[this]
 rw[e]
 have:=pick_run xs i k
 rw[List.filterMap_map]at this
 have e2:((fun x=>xs[x]?) ∘ fun x=>i+x)=fun m=>xs[i+m]?:=rfl
 rw[e2]at this
 rw[this]
theorem zf9 {t sl:Addr}{items:Array Value}{vl vu:Value}{lo hi:Option Int}{Q:Value->Shared->Prop}(ht:IsTup s.heap t items)(hs:s.heap.IsSliceOf sl vl vu .none)(pl:IsPart vl lo)(pu:IsPart vu hi)
  (hw:¬(sIx items.size 0 lo=0/\sIx items.size items.size hi=items.size))
  (h:Q (.ref s.heap.objs.size) {s with heap:=s.heap.push {cls:= .type "tuple",data:= .seq ((items.toList.drop (sIx items.size 0 lo)).take (sIx items.size items.size hi-sIx items.size 0 lo)).toArray}})
  (hsz:items.size<=sizeLine):wpAny (model prog w) A (getItem (.ref t) (.ref sl)) Q E s:=by
 have htake:sizeOk (.seq ((items.toList.drop (sIx items.size 0 lo)).take (sIx items.size items.size hi-sIx items.size 0 lo)).toArray):=by
  show((items.toList.drop (sIx items.size 0 lo)).take (sIx items.size items.size hi-sIx items.size 0 lo)).toArray.size<=sizeLine
  rw[List.size_toArray,List.length_take,List.length_drop,Array.length_toList]
  lia
 have hj:sIx items.size items.size hi<=items.size:=sIx_le _ _ (Nat.le_refl _) hi
 obtain⟨os,hos,hcs,hds⟩:=id hs
 have hTs:s.TypeIs (.ref sl) "slice":=⟨os,hos,hcs⟩
 unfold getItem
 try with_reducible refine wpAny_holding ?_
 first|refine wpAny_bind (wpAny_pure ?_)|skip
 refine wpAny_bind (wpAny_sequenceKey ht.typeIs (by decide) ?_)
 refine wpAny_bind (wpAny_callSpecial?_slot (name:=Str.ofString "__getitem__") ht.typeIs PyProof.Rows.slot_tuple_getitem
  (wpAny_call_entry PyProof.Rows.slot_tuple_getitem ht.typeIs entry_tuple_getitem ?_ (args_tuple_getitem _ _)))
 show wpAny _ _ (Builtin.Tuple.tupleItemsOf (.ref t)>>=_) _ _ s
 refine wpAny_bind (tupleItemsOf_ ht ?_)
 refine wpAny_bind (wpAny_typeOf hTs ?_)
 rw[if_pos (by decide)]
 refine wpAny_bind (zdt hs pl pu ?_)
 have hno:¬((((sIx items.size 0 lo:Nat):Int)==0&&(1:Int)==1&&(sIx items.size items.size hi-sIx items.size 0 lo)==items.size)=true):=by
  intro q
  rw[Bool.and_eq_true,Bool.and_eq_true]at q
  have q1:((sIx items.size 0 lo:Nat):Int)=0:=eq_of_beq q.1.1
  have q2:sIx items.size items.size hi-sIx items.size 0 lo=items.size:=eq_of_beq q.2
  exact hw ⟨by lia,by lia⟩
 show wpAny _ _ (if(((sIx items.size 0 lo:Nat):Int)==0&&(1:Int)==1&&(sIx items.size items.size hi-sIx items.size 0 lo)==items.size)=true then _ else _) _ _ s
 rw[if_neg hno,pick_gen]
 first
  |exact wpAny_bind (m:=Builtin.Tuple.tupleExact _) (wpAny_newObj_type (wpAny_pure ⟨_,rfl,wpAny_pure h⟩) htake)
  |exact wpAny_bind (m:=Builtin.Tuple.tupleExact _) (wpAny_newObj_type (wpAny_bind (wpAny_pure (wpAny_pure ⟨_,rfl,wpAny_pure h⟩))) htake)
  |exact wpAny_bind (wpAny_bind (m:=Builtin.Tuple.tupleExact _) (wpAny_newObj_type (wpAny_pure (wpAny_pure ⟨_,rfl,wpAny_pure h⟩)) htake))
  |exact wpAny_bind (wpAny_bind (m:=Builtin.Tuple.tupleExact _) (wpAny_newObj_type (wpAny_pure ⟨_,rfl,wpAny_pure h⟩) htake))
end
end HT
namespace L2
open PyProof.Rows PySem PySem.Spec
variable {ns:List Int} {r r':V->Option Int->Option Int->Hp->VK->Prop} {xs:List V} {us its its':List Value} {n j t':Nat} {i:Int} {pins:List (Addr×Obj)} {σ:St} {H:Hp} {s:Shared} {p:Addr} {f:Array Value->Array Value} {A:Around} {y x:V} {u v:Value}
noncomputable abbrev TO:=St->Hp->(Option Int->Hp->Prop)->Prop
noncomputable def PO (X:Cx)(e:Option Expr)(t:TO):Prop:=
 ∀(pins:List (Addr×Obj)) (s:Shared) (σ:St) (H:Hp) (Q:Option Int->Hp->Prop),Inv X pins σ H s->t σ H Q->
  wpAny (model X.prog X.w) X.A (evalPart e X.env) (fun u s'=>∃o H',Inv X pins σ H' s'/\IsPart u o/\Q o H') X.xe s
noncomputable def tNoPart:TO:=fun _ H Q=>Q none H
noncomputable def tPart (t:TE):TO:=fun σ H Q=>t σ H fun x H1=>∃i,x= .int i/\Q (some i) H1
theorem zin:∀{us:List Value},Vals (ns.map V.int) us->IntsAre us ns:=by
 induction ns with
 |nil=>intro us r;rw[List.map_nil]at r;cases r;exact .nil
 |cons n ns ih=>
  intro us r
  rw[List.map_cons]at r
  cases r with
  |cons r1 r2=>
   obtain⟨t,e⟩:=r1
   subst e
   exact .cons n t (ih r2)
section
variable {X:Cx} {e:Expr} {te:TE} {lo hi:Option Expr} {tl th:TO} {pos p2:Pos}
theorem po_none:PO X none tNoPart:=by
 intro pins s σ H Q I h
 rw[evalPart_none]
 exact wpAny_pure ⟨none,H,I,.none,h⟩
theorem po_some (h:PE X e te):PO X (some e) (tPart te):=by
 intro pins s σ H Q I hw
 rw[evalPart_some]
 refine thn (h pins s σ H _ I hw) fun u s1 ⟨x,H1,I1,r1,q1⟩=>?_
 obtain⟨i,rfl,q⟩:=q1
 obtain⟨t,rfl⟩:=r1
 exact⟨some i,H1,I1,.int i t,q⟩
noncomputable def SlR (X:Cx)(r:V->Option Int->Option Int->Hp->VK->Prop):Prop:=
 ∀(pins:List (Addr×Obj)) (s:Shared) (σ:St) (H:Hp) (x:V) (v vl vu:Value) (lo hi:Option Int) (sl:Addr) (Q:VK),Inv X pins σ H s->RelV x v->s.heap.IsSliceOf sl vl vu .none->IsPart vl lo->IsPart vu hi->r x lo hi H Q->
  ∃T id,typeLookup (.type T) "__getitem__"=pure (some (.builtin id))/\s.TypeIs v T/\wpAny (model X.prog X.w) X.A (getItem v (.ref sl)) (EP X pins σ Q) X.xe s
theorem SlR.or (h:SlR X r)(h':SlR X r'):SlR X (fun x lo hi H Q=>r x lo hi H Q\/r' x lo hi H Q):=by
 intro pins s σ H x v vl vu lo hi sl Q I rx hs pl pu q
 rcases q with q|q
 ·exact h pins s σ H x v vl vu lo hi sl Q I rx hs pl pu q
 ·exact h' pins s σ H x v vl vu lo hi sl Q I rx hs pl pu q
noncomputable def tSl (r:V->Option Int->Option Int->Hp->VK->Prop)(te:TE)(tl th:TO):TE:=fun σ H Q=>te σ H fun x H1=>tl σ H1 fun l H2=>th σ H2 fun u H3=>r x l u H3 Q
theorem pe_slice (hr:SlR X r)(he:PE X e te)(hl:PO X lo tl)(hu:PO X hi th):PE X (.Subscript e (.Slice lo hi none p2) pos) (tSl r te tl th):=by
 intro pins s σ H Q I h
 refine Subscript_ (thn (he pins s σ H _ I h) fun v s1 ⟨x,H1,I1,r1,q1⟩=>?_)
 refine wpAny_Slice (thn (hl pins s1 σ H1 _ I1 q1) fun vl s2 ⟨l,H2,I2,pl,q2⟩=>thn (hu pins s2 σ H2 _ I2 q2) fun vu s3 ⟨u,H3,I3,pu,q3⟩=>?_)
 rw[evalPart_none]
 refine wpAny_pure ?_
 have I4:Inv X pins σ H3 {s3 with heap:=s3.heap.push {cls:= .type "slice",data:= .fields #[vl,vu,.none]}}:=I3.kept (t':=s3.toks) fun b ob q=>Heap.get?_push_of_some _ q
 obtain⟨T,id,hT,ht,hg⟩:=hr pins {s3 with heap:=s3.heap.push {cls:= .type "slice",data:= .fields #[vl,vu,.none]}} σ H3 x v vl vu l u s3.heap.objs.size Q I4 r1 (Heap.IsSliceOf.new ..) pl pu q3
 show wpAny (model X.prog X.w) X.A (subscriptTail e (.Slice lo hi none p2) v (.ref s3.heap.objs.size)) (EP X pins σ Q) X.xe {s3 with heap:=s3.heap.push {cls:= .type "slice",data:= .fields #[vl,vu,.none]}}
 exact tail_any (ops:=[.ref s3.heap.objs.size,v]) ht hT hg (by with_unfolding_all rfl)
noncomputable def cutV (xs:List V)(lo hi:Option Int):List V:=(xs.drop (HT.sIx xs.length 0 lo)).take (HT.sIx xs.length xs.length hi-HT.sIx xs.length 0 lo)
theorem zhZ (xs:List V)(lo hi:Option Int):(cutV xs lo hi).length<=xs.length:=by
 unfold cutV
 rw[List.length_take,List.length_drop]
 lia
noncomputable def rSlT (K:W.Frag):V->Option Int->Option Int->Hp->VK->Prop:=fun x lo hi H Q=>∃a xs,x= .ref a/\SqT K H a xs/\
 ¬(HT.sIx xs.length 0 lo=0/\HT.sIx xs.length xs.length hi=xs.length)/\∀p,H p=none->Q (.ref p) (upd H p (.tup (cutV xs lo hi)))
theorem sl_tup:SlR X (rSlT X.K):=by
 intro pins s σ H x v vl vu lo hi sl Q I rx hs pl pu h
 obtain⟨a,xs,rfl,hx,hw,q⟩:=h
 cases rx
 obtain⟨its,r,ht,hz⟩:=I.tuple hx
 have hlen:its.toArray.size=xs.length:=by rw[List.size_toArray];exact r.length.symm
 refine⟨"tuple",_,PyProof.Rows.slot_tuple_getitem.lookup,ht.typeIs,?_⟩
 refine HT.zf9 ht hs pl pu (by rw[hlen];exact hw) ?_ (by rw[hlen];exact hz)
 rw[hlen]
 refine⟨.ref s.heap.objs.size,_,I.laid (t':=s.toks) (o:= .tup (cutV xs lo hi)) (fun b ob q=>Heap.get?_push_of_some _ q) (Nat.le_refl _) ?_,rfl,q _ (I.hok.fresh (Nat.le_refl _))⟩
 exact⟨Nat.le_trans (zhZ xs lo hi) hz,_,(r.drop (HT.sIx xs.length 0 lo)).take (HT.sIx xs.length xs.length hi-HT.sIx xs.length 0 lo),IsTup.new _ _⟩
noncomputable def rCatT (K:W.Frag):R2:=fun x y H Q=>∃a b xs ys,x= .ref a/\y= .ref b/\SqT K H a xs/\SqT K H b ys/\xs≠[]/\xs.length+ys.length<=sizeLine/\
 (ys=[]->Q (.ref a) H)/\(ys≠[]->∀p,H p=none->Q (.ref p) (upd H p (.tup (xs++ys))))
theorem Vals.nil_iff (r:Vals xs us):us=[]↔xs=[]:=by
 cases r with
 |nil=>simp
 |cons _ _=>simp
theorem op_catT:OpR X (binaryOp .Add) (rCatT X.K):=by
 intro pins s σ H x y v u Q I rx ry h
 obtain⟨a,b,xs,ys,rfl,rfl,ha,hb,hx,hz,q1,q2⟩:=h
 cases rx
 cases ry
 obtain⟨its,r1,p1,_⟩:=I.tuple ha
 obtain⟨its2,r2,p2,_⟩:=I.tuple hb
 refine HT.cat_tup p1 p2 (fun z=>hx (r1.nil_iff.mp z)) (fun z=>⟨.ref a,H,I,rfl,q1 (r2.nil_iff.mp z)⟩) (fun z=>?_) (by rw[<-r1.length,<-r2.length];exact hz)
 refine⟨.ref s.heap.objs.size,_,I.laid (t':=s.toks) (o:= .tup (xs++ys)) (fun b ob q=>Heap.get?_push_of_some _ q) (Nat.le_refl _) ?_,rfl,q2 (fun w=>z (r2.nil_iff.mpr w)) _ (I.hok.fresh (Nat.le_refl _))⟩
 exact⟨by rw[List.length_append];exact hz,_,r1.append r2,IsTup.new _ _⟩
end
noncomputable def ixN (n:Nat)(i:Int):Option Nat:=if 0<=i then(if i<n then some i.toNat else none)else if-(n:Int)<=i then some (i+n).toNat else none
noncomputable def atI {α:Type}(xs:List α)(i:Int):Option α:=(ixN xs.length i).bind fun j=>xs[j]?
theorem zmW {n:Nat}(h:ixN n i=some j):seqIndex? i n=some j/\j<n/\ -(n:Int)<=i/\i<n:=by
 unfold ixN at h
 by_cases h0:0<=i
 ·rw[if_pos h0]at h
  by_cases h1:i<n
  ·rw[if_pos h1]at h
   have e:i.toNat=j:=Option.some.inj h
   exact⟨by rw[seqIndex_of h0 h1,e],by lia,by lia,h1⟩
  ·rw[if_neg h1]at h;cases h
 ·rw[if_neg h0]at h
  by_cases h1: -(n:Int)<=i
  ·rw[if_pos h1]at h
   have e:(i+n).toNat=j:=Option.some.inj h
   exact⟨by rw[seqIndex_neg (by lia) h1,e],by lia,h1,by lia⟩
  ·rw[if_neg h1]at h;cases h
theorem zkO {α:Type}{xs:List α}{v:α}(h:atI xs i=some v):∃j,seqIndex? i xs.length=some j/\xs[j]? =some v/\j<xs.length/\ -(xs.length:Int)<=i/\i<xs.length:=by
 unfold atI at h
 cases e:ixN xs.length i with
 |none=>rw[e]at h;cases h
 |some j=>
  rw[e]at h
  obtain⟨h1,h2,h3,h4⟩:=zmW e
  exact⟨j,h1,h,h2,h3,h4⟩
noncomputable def ziY (b:Expr):Prop:=∀o i,subscripted b false o i=operate [o,i] (getItem o i)
noncomputable def IxR (X:Cx)(r:R2):Prop:=
 ∀(value slice:Expr) (pins:List (Addr×Obj)) (s:Shared) (σ:St) (H:Hp) (x y:V) (v u:Value) (Q:VK),Inv X pins σ H s->RelV x v->RelV y u->r x y H Q->
  subscripted slice false v u=operate [v,u] (getItem v u)->wpAny (model X.prog X.w) X.A (subscriptTail value slice v u) (EP X pins σ Q) X.xe s
noncomputable def MtR (X:Cx)(id:String)(r:V->List V->Hp->VK->Prop):Prop:=
 ∀(pins:List (Addr×Obj)) (s:Shared) (σ:St) (H:Hp) (x:V) (xs:List V) (v:Value) (us:List Value) (Q:VK),Inv X pins σ H s->RelV x v->Vals xs us->r x xs H Q->
  wpAny (model X.prog X.w) X.A (call (.builtin id) (v::us)) (EP X pins σ Q) X.xe s
section
variable {X:Cx} {a b:Expr} {ta tb:TE} {pos:Pos}
theorem IxR.or {r r':R2}(h:IxR X r)(h':IxR X r'):IxR X (fun x y H Q=>r x y H Q\/r' x y H Q):=by
 intro value slice pins s σ H x y v u Q I rx ry q hs
 rcases q with q|q
 ·exact h value slice pins s σ H x y v u Q I rx ry q hs
 ·exact h' value slice pins s σ H x y v u Q I rx ry q hs
theorem pe_ix {r:R2}(hr:IxR X r)(ha:PE X a ta)(hb:PE X b tb)(hs:ziY b):PE X (.Subscript a b pos) (tOp r ta tb):=by
 intro pins s σ H Q I h
 exact Subscript_ (binT ha hb I h fun v u s2 x y H2 I2 rx ry q=>hr a b pins s2 σ H2 x y v u Q I2 rx ry q (hs _ _))
noncomputable def rIxL (K:W.Frag):R2:=fun x y H Q=>∃p xs i v,x= .ref p/\y= .int i/\SqL K H p xs/\atI xs i=some v/\Q v H
noncomputable def rIxT (K:W.Frag):R2:=fun x y H Q=>∃p xs i v,x= .ref p/\y= .int i/\SqT K H p xs/\atI xs i=some v/\Q v H
noncomputable def rIxS:R2:=fun x y H Q=>∃z i c,x= .str z/\y= .int i/\z.length<=sizeLine/\atI z.cps.toList i=some c/\Q (.str ⟨#[c]⟩) H
theorem ix_list:IxR X (rIxL X.K):=by
 intro value slice pins s σ H x y v u Q I rx ry h hs
 obtain⟨p,xs,i,z,rfl,rfl,hq,he,q⟩:=h
 cases rx
 obtain⟨t,rfl⟩:=ry
 obtain⟨its,r,pl,hz⟩:=I.list hq
 obtain⟨j,h1,h2,h3,h4,h5⟩:=zkO he
 obtain⟨w,ew,rw'⟩:=r.get h2
 have hl:=r.length
 have hn:=ziA
 have fin:EP X pins σ Q w s:=⟨z,H,I,rw',q⟩
 by_cases h0:0<=i
 ·have hj:i.toNat=j:=by
   rw[seqIndex_of h0 h5]at h1
   exact Option.some.inj h1
  exact item_listR pl.isList h0 (by lia) (by rw[hj];simpa using ew) fin hs
 ·have hj:(i+(its.toArray.size:Int)).toNat=j:=by
   rw[seqIndex_neg (by lia) h4]at h1
   rw[List.size_toArray,<-hl]
   exact Option.some.inj h1
  exact subscriptTail_builtinR (x:=w) pl.isList.typeIs slot_list_getitem.lookup
   (wpAny_getItem_list_neg (Q:=fun r s'=>r=w/\EP X pins σ Q r s') pl.isList (by lia) (by rw[List.size_toArray]<;>lia) (by lia) (by rw[hj];simpa using ew) ⟨rfl,fin⟩) hs
theorem ix_tup:IxR X (rIxT X.K):=by
 intro value slice pins s σ H x y v u Q I rx ry h hs
 obtain⟨p,xs,i,z,rfl,rfl,hq,he,q⟩:=h
 cases rx
 obtain⟨t,rfl⟩:=ry
 obtain⟨its,r,pl,hz⟩:=I.tuple hq
 obtain⟨j,h1,h2,h3,h4,h5⟩:=zkO he
 obtain⟨w,ew,rw'⟩:=r.get h2
 have hl:=r.length
 have hn:=ziA
 have fin:EP X pins σ Q w s:=⟨z,H,I,rw',q⟩
 exact subscriptTail_builtinR (x:=w) pl.typeIs slot_tuple_getitem.lookup
  (getItem_tuple (j:=j) (Q:=fun r s'=>r=w/\EP X pins σ Q r s') pl (by lia) (by lia) (by rw[List.size_toArray,<-hl];exact h1) (by simpa using ew) ⟨rfl,fin⟩) hs
theorem ix_str:IxR X rIxS:=by
 intro value slice pins s σ H x y v u Q I rx ry h hs
 obtain⟨z,i,c,rfl,rfl,hz,he,q⟩:=h
 obtain⟨t,rfl⟩:=rx
 obtain⟨t',rfl⟩:=ry
 obtain⟨j,h1,h2,h3,h4,h5⟩:=zkO he
 have hl:z.cps.toList.length=z.length:=by simp[Str.length]
 rw[hl]at h1 h4 h5
 have hn:=ziA
 exact tail_any (typeIs_str s z t) slot_str_getitem.lookup (getItem_str (c:=c) (by
  have e1:decide (i< -(2^63:Int))=false:=decide_eq_false (by lia)
  have e2:decide (i>=2^63)=false:=decide_eq_false (by lia)
  rw[e1,e2,Bool.or_false]) (by rw[h1];simpa using h2) ⟨.str ⟨#[c]⟩,H,I.tok _,⟨_,rfl⟩,q⟩) hs
noncomputable def rIx (K:W.Frag):R2:=fun x y H Q=>rIxL K x y H Q\/rIxT K x y H Q\/rIxS x y H Q
theorem ix_seq:IxR X (rIx X.K):=ix_list.or (ix_tup.or ix_str)
theorem zmo (its:List Value)(n j:Nat)(u:Value):Obj.mapSeq (·.setIfInBounds j u) {cls:= .type "list",data:= .seq its.toArray n}={cls:= .type "list",data:= .seq (its.set j u).toArray n}:=by
 simp[Obj.mapSeq]
theorem Inv.lst (I:Inv X pins σ H s)(h:H p=some (.lst xs)):
  ∃(its:List Value) (n:Nat),Vals xs its/\s.heap.get? p=some {cls:= .type "list",data:= .seq its.toArray n}/\xs.length<=sizeLine:=by
 obtain⟨z,its,n,r,e⟩:=I.hok p _ h
 exact⟨its,n,r,e,z⟩
theorem Inv.lstUpd {xs ys:List V}{n n':Nat}{f:Obj->Obj}(I:Inv X pins σ H s)(h:H p=some (.lst xs))
  (ho:s.heap.get? p=some {cls:= .type "list",data:= .seq its.toArray n}) (hf:f {cls:= .type "list",data:= .seq its.toArray n}={cls:= .type "list",data:= .seq its'.toArray n'}) (r:Vals ys its') (hz:ys.length<=sizeLine) (t:Nat):
  Inv X pins σ (upd H p (.lst ys)) {s with heap:=s.heap.update p f,toks:=t}:=by
 have e:(s.heap.update p f).get? p=some {cls:= .type "list",data:= .seq its'.toArray n'}:=by
  rw[Heap.get?_update_self f ho (by rw[hf]<;>rfl),hf]
 refine I.write (x:=p) (e:=p) (by rw[h];trivial) (.inl rfl) (fun b u hb q=>(Heap.get?_update_other _ _ (Ne.symm hb)).trans q) ⟨_,e⟩ ?_
 exact⟨hz,its',n',r,e⟩
noncomputable def rSetL:V->V->V->Hp->(Hp->Prop)->Prop:=fun o i v H Q=>∃p xs k j,o= .ref p/\i= .int k/\H p=some (.lst xs)/\ixN xs.length k=some j/\Q (upd H p (.lst (xs.set j v)))
theorem ziL:PSet X rSetL:=by
 intro pins s σ H o i v ov iv u Q I ro ri rv h
 obtain⟨p,xs,k,j,rfl,rfl,hp,hj,q⟩:=h
 cases ro
 obtain⟨t,rfl⟩:=ri
 obtain⟨its,n,r,ho,hz⟩:=I.lst hp
 obtain⟨h1,h2,h3,h4⟩:=zmW hj
 have hl:=r.length
 have hn:=ziA
 have I':Inv X pins σ (upd H p (.lst (xs.set j v))) {s with heap:=s.heap.update p (Obj.mapSeq (·.setIfInBounds j u))}:=
  I.lstUpd hp ho (zmo its n j u) (r.set rv j) (by rw[List.length_set];exact hz) s.toks
 by_cases h0:0<=k
 ·have hk:k.toNat=j:=by
   rw[seqIndex_of h0 h4]at h1
   exact Option.some.inj h1
  exact W.ki_setAt ho h0 (by lia) (by rw[List.size_toArray,<-hl];exact h4) (by rw[hk];exact⟨_,I',q⟩)
 ·have hk:(k+(its.toArray.size:Int)).toNat=j:=by
   rw[seqIndex_neg (by lia) h3]at h1
   rw[List.size_toArray,<-hl]
   exact Option.some.inj h1
  exact W.ki_setBack ho (by lia) (by rw[List.size_toArray,<-hl];exact h3) (by lia) (by rw[hk];exact⟨_,I',q⟩)
theorem zjG (lo hi:Option Int)(n:Nat):(sliceBounds lo hi none n).1=((HT.sIx n 0 lo:Nat):Int)/\(sliceBounds lo hi none n).2.1=((HT.sIx n n hi:Nat):Int)/\(sliceBounds lo hi none n).2.2=1:=by
 refine⟨?_,?_,rfl⟩
 ·cases lo with
  |none=>simp[sliceBounds,HT.sIx]
  |some i=>
   simp only[sliceBounds,HT.sIx,Option.getD_none,show(1:Int)>0 by decide,if_true]
   by_cases h:i<0
   ·simp only[h,if_true]<;>lia
   ·simp only[h,if_false]<;>lia
 ·cases hi with
  |none=>simp[sliceBounds,HT.sIx]
  |some i=>
   simp only[sliceBounds,HT.sIx,Option.getD_none,show(1:Int)>0 by decide,if_true]
   by_cases h:i<0
   ·simp only[h,if_true]<;>lia
   ·simp only[h,if_false]<;>lia
theorem zi0 (its:List Value)(lo hi:Option Int):slicePick its.toArray lo hi none=((its.drop (HT.sIx its.length 0 lo)).take (HT.sIx its.length its.length hi-HT.sIx its.length 0 lo)).toArray:=by
 obtain⟨h1,h2,h3⟩:=zjG lo hi its.toArray.size
 unfold slicePick
 rw[h1,h2,h3]
 simp only[sliceRange_one,pick_run,List.size_toArray]<;>rfl
noncomputable def rSlL (K:W.Frag):V->Option Int->Option Int->Hp->VK->Prop:=fun x lo hi H Q=>∃a xs,x= .ref a/\SqL K H a xs/\∀p,H p=none->Q (.ref p) (upd H p (.lst (cutV xs lo hi)))
theorem sl_list:SlR X (rSlL X.K):=by
 intro pins s σ H x v vl vu lo hi sl Q I rx hs pl pu h
 obtain⟨a,xs,rfl,hx,q⟩:=h
 cases rx
 obtain⟨its,r,ht,hz⟩:=I.list hx
 have hlen:=r.length
 refine⟨"list",_,slot_list_getitem.lookup,ht.isList.typeIs,?_⟩
 refine wpAny_getItem_list_slice ht.isList hs pl pu .none (by simp) ?_ (by rw[List.size_toArray]<;>lia)
 rw[zi0,<-hlen]
 refine⟨.ref s.heap.objs.size,_,I.laid (t':=s.toks) (o:= .lst (cutV xs lo hi)) (fun b ob q=>Heap.get?_push_of_some _ q) (Nat.le_refl _) ?_,rfl,q _ (I.hok.fresh (Nat.le_refl _))⟩
 exact⟨Nat.le_trans (zhZ xs lo hi) hz,_,0,(r.drop (HT.sIx xs.length 0 lo)).take (HT.sIx xs.length xs.length hi-HT.sIx xs.length 0 lo),Heap.get?_push_size _ rfl⟩
noncomputable def zia:V->Bool
 | .non=>true
 | .bl _=>true
 | .int _=>true
 | .str _=>true
 |_=>false
noncomputable def eqV:V->V->Bool
 | .non,.non=>true
 | .bl a,.bl b=>a==b
 | .bl a,.int b=>(if a then 1 else 0)==b
 | .int a,.bl b=>a==(if b then 1 else 0)
 | .int a,.int b=>a==b
 | .str a,.str b=>a==b
 |_,_=>false
theorem eqAt_V (ry:RelV y u)(rx:RelV x v)(fy:zia y=true)(fx:zia x=true):SeqAt.EqAt A s u v (eqV y x):=by
 cases y with
 |non=>
  cases ry
  cases x with
  |non=>cases rx;exact SeqAt.EqAt.same _
  |bl b=>cases rx;exact SeqAt.EqAt.none_bool b
  |int b=>obtain⟨t,rfl⟩:=rx;exact SeqAt.EqAt.none_int b t
  |str b=>obtain⟨t,rfl⟩:=rx;exact SeqAt.EqAt.none_str b t
  |_=>exact absurd (show false=true from fx) Bool.false_ne_true
 |bl a=>
  cases ry
  cases x with
  |non=>cases rx;exact SeqAt.EqAt.bool_none a
  |bl b=>cases rx;exact SeqAt.EqAt.bool_bool a b
  |int b=>obtain⟨t,rfl⟩:=rx;exact SeqAt.EqAt.bool_int a b t
  |str b=>obtain⟨t,rfl⟩:=rx;exact SeqAt.EqAt.bool_str a b t
  |_=>exact absurd (show false=true from fx) Bool.false_ne_true
 |int a=>
  obtain⟨t',rfl⟩:=ry
  cases x with
  |non=>cases rx;exact SeqAt.EqAt.int_none a t'
  |bl b=>cases rx;exact SeqAt.EqAt.int_bool a t' b
  |int b=>obtain⟨t,rfl⟩:=rx;exact SeqAt.EqAt.int_int a t' b t
  |str b=>obtain⟨t,rfl⟩:=rx;exact SeqAt.EqAt.int_str a t' b t
  |_=>exact absurd (show false=true from fx) Bool.false_ne_true
 |str a=>
  obtain⟨t',rfl⟩:=ry
  cases x with
  |non=>cases rx;exact SeqAt.EqAt.str_none a t'
  |bl b=>cases rx;exact SeqAt.EqAt.str_bool a t' b
  |int b=>obtain⟨t,rfl⟩:=rx;exact SeqAt.EqAt.str_int a t' b t
  |str b=>obtain⟨t,rfl⟩:=rx;exact SeqAt.EqAt.str_str a t' b t
  |_=>exact absurd (show false=true from fx) Bool.false_ne_true
 |_=>exact absurd (show false=true from fy) Bool.false_ne_true
noncomputable def eqU (x:V)(u:Value):Bool:=match u with
 | .none=>eqV .non x
 | .bool b=>eqV (.bl b) x
 | .int i _=>eqV (.int i) x
 | .str z _=>eqV (.str z) x
 |_=>false
theorem eqU_of (r:RelV y u)(f:zia y=true):eqU x u=eqV y x:=by
 cases y with
 |non=>cases r;rfl
 |bl b=>cases r;rfl
 |int i=>obtain⟨t,rfl⟩:=r;rfl
 |str z=>obtain⟨t,rfl⟩:=r;rfl
 |_=>exact absurd (show false=true from f) Bool.false_ne_true
theorem zhu:∀{xs:List V} {us:List Value},Vals xs us->xs.all zia=true->us.any (eqU x)=xs.any fun y=>eqV y x
 |_,_,.nil,_=>rfl
 |y::xs,u::us,.cons r t,f=>by
  rw[List.all_cons,Bool.and_eq_true]at f
  rw[List.any_cons,List.any_cons,eqU_of r f.1,zhu t f.2]
theorem zft (rx:RelV x v)(fx:zia x=true):∀{xs:List V} {us:List Value},Vals xs us->xs.all zia=true->∀u∈us,SeqAt.EqAt A s u v (eqU x u)
 |_,_,.nil,_=>fun u hu=>by cases hu
 |y::xs,u::us,.cons r t,f=>fun u' hu=>by
  rw[List.all_cons,Bool.and_eq_true]at f
  rcases List.mem_cons.mp hu with rfl|hu
  ·rw[eqU_of r f.1];exact eqAt_V r rx f.1 fx
  ·exact zft rx fx t f.2 u' hu
noncomputable def inV (x:V)(xs:List V):Bool:=xs.any fun y=>eqV y x
noncomputable def rIn (K:W.Frag)(neg:Bool):R2:=fun x y H Q=>∃p xs,y= .ref p/\(SqL K H p xs\/SqT K H p xs)/\zia x=true/\xs.all zia=true/\Q (.bl (if neg then !inV x xs else inV x xs)) H
theorem zjj:OpR X (compareOp .In) (rIn X.K false):=by
 intro pins s σ H x y v u Q I rx ry h
 obtain⟨p,xs,rfl,hq,fx,fs,q⟩:=h
 cases ry
 rcases hq with hq|hq
 ·obtain⟨its,r,pl,hz⟩:=I.list hq
  refine SeqAt.in_listAt (eqU x) pl.isList (fun w hw=>zft rx fx r fs w (by simpa using hw)) ⟨.bl _,H,I,rfl,?_⟩
  rw[show its.toArray.any (eqU x)=its.any (eqU x) by simp,zhu r fs]
  exact q
 ·obtain⟨its,r,pl,hz⟩:=I.tuple hq
  refine SeqAt.in_tupleAt (eqU x) pl (fun w hw=>zft rx fx r fs w (by simpa using hw)) ⟨.bl _,H,I,rfl,?_⟩
  rw[show its.toArray.any (eqU x)=its.any (eqU x) by simp,zhu r fs]
  exact q
theorem zjD:OpR X (compareOp .NotIn) (rIn X.K true):=by
 intro pins s σ H x y v u Q I rx ry h
 obtain⟨p,xs,rfl,hq,fx,fs,q⟩:=h
 cases ry
 rcases hq with hq|hq
 ·obtain⟨its,r,pl,hz⟩:=I.list hq
  refine SeqAt.notIn_listAt (eqU x) pl.isList (fun w hw=>zft rx fx r fs w (by simpa using hw)) ⟨.bl _,H,I,rfl,?_⟩
  rw[show its.toArray.any (eqU x)=its.any (eqU x) by simp,zhu r fs]
  exact q
 ·obtain⟨its,r,pl,hz⟩:=I.tuple hq
  refine SeqAt.notIn_tupleAt (eqU x) pl (fun w hw=>zft rx fx r fs w (by simpa using hw)) ⟨.bl _,H,I,rfl,?_⟩
  rw[show its.toArray.any (eqU x)=its.any (eqU x) by simp,zhu r fs]
  exact q
theorem zgF:zeo X (.builtin "len") (fun xs H Q=>∃p ys,xs=[.ref p]/\(SqL X.K H p ys\/SqT X.K H p ys)/\Q (.int ys.length) H):=by
 intro pins s σ H xs us Q I r h
 obtain⟨p,ys,rfl,hq,q⟩:=h
 obtain⟨u,rfl,rx⟩:=zib r
 cases rx
 have hn:=ziA
 rcases hq with hq|hq
 ·obtain⟨its,r',pl,hz⟩:=I.list hq
  have hlen:=r'.length
  exact Calls.call_len_list pl.isList (by simp only[List.size_toArray]<;>lia) ⟨.int ys.length,H,I.tok _,⟨s.toks+1,by rw[List.size_toArray,hlen]⟩,q⟩
 ·obtain⟨its,r',pl,hz⟩:=I.tuple hq
  have hlen:=r'.length
  exact len_tuple pl (by simp only[List.size_toArray]<;>lia) ⟨.int ys.length,H,I.tok _,⟨s.toks+1,by rw[List.size_toArray,hlen]⟩,q⟩
theorem zjB:zeo X (.type "list") (fun xs H Q=>∃p ys,xs=[.ref p]/\(SqL X.K H p ys\/SqT X.K H p ys)/\∀l,H l=none->Q (.ref l) (upd H l (.lst ys))):=by
 intro pins s σ H xs us Q I r h
 obtain⟨p,ys,rfl,hq,q⟩:=h
 obtain⟨u,rfl,rx⟩:=zib r
 cases rx
 have fin:∀(its:List Value),Vals ys its->ys.length<=sizeLine->∀(h':Heap) (c':Nat),(∀b o',s.heap.get? b=some o'->h'.get? b=some o')->
   h'.get? s.heap.objs.size=some {cls:= .type "list",dict:=none,data:= .seq its.toArray c',slots:= #[]}->EP X pins σ Q (.ref s.heap.objs.size) {s with heap:=h'}:=fun its r' hz h' c' kp e=>
  ⟨.ref s.heap.objs.size,_,I.laid (t':=s.toks) kp (Nat.le_refl _) (show ObjOk X.prog X.w _ h' _ (.lst ys)from⟨hz,its,c',r',e⟩),rfl,q _ (I.hok.fresh (Nat.le_refl _))⟩
 rcases hq with hq|hq
 ·obtain⟨its,r',pl,hz⟩:=I.list hq
  have hlen:=r'.length
  obtain⟨o,ho,hc,n,hd⟩:=pl.isList
  exact call_list_seq p (.inl rfl) ho hc hd (fun h' c' kp e=>fin its r' hz h' c' kp e) (by simp only[List.size_toArray]<;>lia)
 ·obtain⟨its,r',pl,hz⟩:=I.tuple hq
  have hlen:=r'.length
  obtain⟨o,ho,hc,n,hd⟩:=pl
  exact call_list_seq p (.inr rfl) ho hc hd (fun h' c' kp e=>fin its r' hz h' c' kp e) (by simp only[List.size_toArray]<;>lia)
theorem ziZ:zeo X (.type "tuple") (fun xs H Q=>∃p ys,xs=[.ref p]/\((SqL X.K H p ys/\∀l,H l=none->Q (.ref l) (upd H l (.tup ys)))\/(SqT X.K H p ys/\Q (.ref p) H))):=by
 intro pins s σ H xs us Q I r h
 obtain⟨p,ys,rfl,h⟩:=h
 obtain⟨u,rfl,rx⟩:=zib r
 cases rx
 rcases h with⟨hq,q⟩|⟨hq,q⟩
 ·obtain⟨its,r',pl,hz⟩:=I.list hq
  have hlen:=r'.length
  refine call_tuple_list pl.isList (fun h' kp=>?_) (by simp only[List.size_toArray]<;>lia)
  have I1:Inv X pins σ H {s with heap:=h'}:=I.kept (t':=s.toks) kp
  have I2:Inv X pins σ (upd H h'.objs.size (.tup ys)) {s with heap:=h'.push {cls:= .type "tuple",data:= .seq its.toArray}}:=
   I1.laid (t':=s.toks) (fun b o e=>Heap.get?_push_of_some _ e) (Nat.le_refl _) (show ObjOk X.prog X.w _ _ _ (.tup ys)from⟨hz,its,r',IsTup.new _ _⟩)
  exact⟨.ref h'.objs.size,_,I2,rfl,q _ (I1.hok.fresh (Nat.le_refl _))⟩
 ·obtain⟨its,r',pl,hz⟩:=I.tuple hq
  exact call_tuple_same pl ⟨.ref p,H,I,rfl,q⟩
noncomputable def tyV (K:W.Frag)(T:String)(x:V)(H:Hp):Prop:=match x with
 | .str _=>T="str"
 | .int _=>T="int"
 | .ref p=>(T="list"/\∃xs,SqL K H p xs)\/(T="tuple"/\∃o,K.lookup p=some o/\o.cls= .type "tuple"/\o.dict=none)\/
   (T="dict"/\((∃kvs,H p=some (.dK kvs))\/∃kvs,H p=some (.dT kvs)))\/(T="set"/\∃S n,H p=some (.set S n))
 |_=>False
theorem tyV_is {T:String}(I:Inv X pins σ H s)(r:RelV x v)(ty:tyV X.K T x H):
  s.TypeIs v T/\∀a,v= .ref a->∃ob,s.heap.get? a=some ob/\ob.dict=none:=by
 cases x with
 |str z=>
  obtain⟨t,rfl⟩:=r
  cases(show T="str" from ty)
  exact⟨typeIs_str s z t,fun _ e=>nomatch e⟩
 |int i=>
  obtain⟨t,rfl⟩:=r
  cases(show T="int" from ty)
  exact⟨typeIs_int s i t,fun _ e=>nomatch e⟩
 |ref p=>
  cases r
  rcases ty with⟨rfl,xs,hq⟩|⟨rfl,o,hk,hc,hd⟩|⟨rfl,hk⟩|⟨rfl,S,n,hk⟩
  ·obtain⟨its,_,pl,_⟩:=I.list hq
   refine⟨pl.isList.typeIs,fun a e=>?_⟩
   cases e
   obtain⟨o,n,e,c,hd,_⟩:=pl
   exact⟨o,e,hd⟩
  ·refine⟨⟨o,I.kIn p o hk,hc⟩,fun a e=>?_⟩
   cases e
   exact⟨o,I.kIn _ o hk,hd⟩
  ·have z:∃o,s.heap.get? p=some o/\o.ExactDict:=by
    rcases hk with⟨kvs,hk⟩|⟨kvs,hk⟩
    ·obtain⟨_,_,_,_,o,_,_,e,ex,_⟩:=I.hok p _ hk
     exact⟨o,e,ex⟩
    ·obtain⟨_,_,_,_,o,_,_,e,ex,_⟩:=I.hok p _ hk
     exact⟨o,e,ex⟩
   obtain⟨o,e,ex⟩:=z
   refine⟨⟨o,e,ex.1⟩,fun a e2=>?_⟩
   cases e2
   exact⟨o,e,ex.2.1⟩
  ·obtain⟨o,_,_,_,e,ex,_⟩:=I.hok p _ hk
   refine⟨⟨o,e,ex.1⟩,fun a e2=>?_⟩
   cases e2
   exact⟨o,e,ex.2.1⟩
 |_=>exact False.elim ty
noncomputable def tBM (K:W.Frag)(T:String)(r:V->List V->Hp->VK->Prop)(to:TE)(t:TA):TE:=fun σ H Q=>to σ H fun x H1=>tyV K T x H1/\t σ H1 fun xs H2=>r x xs H2 Q
variable {o e:Expr} {es:List Expr} {to:TE} {t:TA} {name:Str} {apos cpos:Pos} {T id:String} {r:V->List V->Hp->VK->Prop}
theorem pe_bm (pa:PlainAttrs T)(slot:Slot T name id)(hty:typeOf (.builtin id)=pure (.type "method_descriptor"))(hm:MtR X id r)(ho:PE X o to)(ha:PA X (e::es) t)
  (hbase:autoParam (attributeBase o name X.env (eval o X.env)=eval o X.env) zu3._auto_1)
  (hfew :autoParam (((backTo cpos (starEach (e :: es) X.env)).all (fun x => !x.1) && (backToKw cpos (keywordEach [] X.env)).all (fun x => x.1.isSome)
   &&decide ((e::es).length+([]:List Keyword).length+(if([]:List Keyword).isEmpty then 0 else 1)<30))=true) zu3._auto_1)
  (hline:autoParam ((apos.endLine==cpos.line)=true) zu3._auto_1) (hs:autoParam (starEach (e::es) X.env=(false,eval e X.env)::starEach es X.env) zu3._auto_1) (hplain:autoParam ((backTo cpos (starEach es X.env)).any (·.1)=false) zu3._auto_1):
  PE X (.Call (.Attribute o name apos) (e::es) [] cpos) (tBM X.K T r to t):=by
 intro pins s σ H Q I h
 refine wpAny_Call_method_late hbase hfew hline rfl (thn (ho pins s σ H _ I h) fun v s1 ⟨x,H1,I1,r1,ty,q1⟩=>?_)
 obtain⟨h1,h2⟩:=tyV_is I1 r1 ty
 refine⟨T,id,pa,slot,hty,h1,h2,?_⟩
 have hA:=ha cpos pins s1 σ H1 _ I1 q1
 rw[hs]at hA ⊢
 refine Calls.callWith_builtin (by show(false||(backTo cpos (starEach es X.env)).any (·.1))=false;rw[hplain]<;>rfl) (Calls.evalArgs_plain ?_)
 exact thn hA fun us s2 ⟨vs,H2,I2,r2,q2⟩=>hm pins s2 σ H2 x vs v us Q I2 r1 r2 q2
end
noncomputable def MtM (X:Cx)(id:String)(r:V->List V->Hp->VK->Prop):Prop:=
 ∀(pins:List (Addr×Obj)) (s:Shared) (σ:St) (H:Hp) (x:V) (xs:List V) (v:Value) (us:List Value) (Q:VK),Inv X pins σ H s->RelV x v->Vals xs us->r x xs H Q->
  wpAny (model X.prog X.w) X.A (call (.builtin id) (v::us)) (EP X pins σ Q) X.xe s
theorem Vals.one:∀{x:V} {us:List Value},Vals [x] us->∃u,us=[u]/\RelV x u
 |_,_,.cons r .nil=>⟨_,rfl,r⟩
theorem Vals.rep (h:Vals xs us):∀k:Nat,Vals (List.replicate k xs).flatten (List.replicate k us).flatten
 |0=> .nil
 |k+1=>by
  rw[List.replicate_succ,List.replicate_succ,List.flatten_cons,List.flatten_cons]
  exact Vals.append h (Vals.rep h k)
theorem zjW (its:List Value):∀(k:Nat) (acc:List Value),
  List.foldl (fun x1 x2=>x1++x2) acc.toArray (List.replicate k its.toArray)=(acc++(List.replicate k its).flatten).toArray
 |0,acc=>by simp
 |k+1,acc=>by
  have e:acc.toArray++its.toArray=(acc++its).toArray:=by simp
  have e2:(acc++its)++(List.replicate k its).flatten=acc++(List.replicate (k+1) its).flatten:=by
   rw[List.replicate_succ,List.flatten_cons,List.append_assoc]
  rw[<-e2,<-zjW its k (acc++its),<-e,List.replicate_succ,List.foldl_cons]
section
variable {X:Cx} {pins:List (Addr×Obj)} {σ:St} {H:Hp} {s:Shared} {l b:Addr} {xs ys zs:List V}
theorem Inv.lset (I:Inv X pins σ H s)(hH:H l=some (.lst xs))
  (e:s.heap.get? l=some {cls:= .type "list",data:= .seq its.toArray n}) (hf:f its.toArray=its'.toArray) (hv:Vals ys its') (hz:ys.length<=sizeLine):
  Inv X pins σ (upd H l (.lst ys)) {s with heap:=s.heap.update l (Obj.mapSeq f),toks:=t'}:=by
 have q:=PySem.IsL.update e f
 rw[hf]at q
 refine I.write (x:=l) (e:=l) (by rw[hH];exact trivial) (.inl rfl) (fun b' u hb hu=>(Heap.get?_update_other s.heap (Obj.mapSeq f) (Ne.symm hb)).trans hu) ⟨_,q⟩ ?_
 exact⟨hz,its',_,hv,q⟩
theorem Inv.lnew (I:Inv X pins σ H s)(hv:Vals ys its)(hz:ys.length<=sizeLine):
  Inv X pins σ (upd H s.heap.objs.size (.lst ys)) {s with heap:=s.heap.push {cls:= .type "list",data:= .seq its.toArray},toks:=t'}:=
 I.laid (fun _ _ q=>Heap.get?_push_of_some _ q) (Nat.le_refl _) ⟨hz,its,0,hv,Heap.get?_push_size _ rfl⟩
theorem Inv.fresh (I:Inv X pins σ H s):H s.heap.objs.size=none:=I.hok.fresh (Nat.le_refl _)
theorem Inv.lstM (I:Inv X pins σ H s)(hH:H l=some (.lst xs)):xs.length<=sizeLine/\∃(its:List Value) (n:Nat),Vals xs its/\xs.length=its.length/\s.heap.get? l=some {cls:= .type "list",data:= .seq its.toArray n}:=by
 obtain⟨z,its,n,r,e⟩:=I.hok l _ hH
 exact⟨z,its,n,r,r.length,e⟩
theorem zlK (h:n<=sizeLine):Builtin.List.listTooLong n=false:=by
 unfold Builtin.List.listTooLong
 exact decide_eq_false (by lia)
end
section
variable {X:Cx}
noncomputable def rAppend:V->List V->Hp->VK->Prop:=fun x vs H Q=>∃l xs y,x= .ref l/\vs=[y]/\H l=some (.lst xs)/\xs.length<sizeLine/\Q .non (upd H l (.lst (xs++[y])))
theorem zjL:MtM X "list.append" rAppend:=by
 intro pins s σ H x vs v us Q I rx rv h
 obtain⟨l,xs,y,rfl,rfl,hH,hz,q⟩:=h
 cases rx
 obtain⟨u,rfl,ru⟩:=rv.one
 obtain⟨z,its,n,r,hl,e⟩:=I.lstM hH
 refine call_meets F.slot_list_append ⟨_,e,rfl⟩ F.entry_list_append (F.args_list_append_2 _ _) (PySem.list_append l its.toArray n u (by rw[List.size_toArray];lia)) ⟨e,?_⟩
 refine⟨.non,_,I.lset (its':=its++[u]) hH e (by simp) (r.append (.cons ru .nil)) ?_,rfl,q⟩
 rw[List.length_append,List.length_singleton]
 lia
noncomputable def rExtend:V->List V->Hp->VK->Prop:=fun x vs H Q=>∃l b xs zs,x= .ref l/\vs=[.ref b]/\H l=some (.lst xs)/\H b=some (.lst zs)/\xs.length+zs.length<=sizeLine/\Q .non (upd H l (.lst (xs++zs)))
theorem zoT:MtM X "list.extend" rExtend:=by
 intro pins s σ H x vs v us Q I rx rv h
 obtain⟨l,b,xs,zs,rfl,rfl,hH,hB,hz,q⟩:=h
 cases rx
 obtain⟨u,rfl,ru⟩:=rv.one
 cases ru
 obtain⟨z,its,n,r,hl,e⟩:=I.lstM hH
 obtain⟨z2,its2,n2,r2,hl2,e2⟩:=I.lstM hB
 have hsz:its.toArray.size+its2.toArray.size<=sizeLine:=by rw[List.size_toArray,List.size_toArray];lia
 have hlong:¬(!its.toArray.isEmpty&&Builtin.List.listTooLong (its.toArray.size+its2.toArray.size))=true:=by
  rw[zlK hsz,Bool.and_false]
  exact Bool.false_ne_true
 refine call_meets F.slot_list_extend ⟨_,e,rfl⟩ F.entry_list_extend (F.args_list_extend_2 _ _)
  (AutoSeq1.list_extend_list_list_0 l its.toArray n b its2.toArray n2 hlong (by rw[List.size_toArray];lia) (by lia)) ⟨e,e2,?_⟩
 refine⟨.non,_,I.lset (its':=its++its2) hH e (by simp) (r.append r2) ?_,rfl,q⟩
 rw[List.length_append]
 lia
noncomputable def rCat:R2:=fun x y H Q=>∃l b xs zs,x= .ref l/\y= .ref b/\H l=some (.lst xs)/\H b=some (.lst zs)/\xs.length+zs.length<=sizeLine/\∀p,H p=none->Q (.ref p) (upd H p (.lst (xs++zs)))
theorem op_cat:OpR X (binaryOp .Add) rCat:=by
 intro pins s σ H x y v u Q I rx ry h
 obtain⟨l,b,xs,zs,rfl,rfl,hH,hB,hz,q⟩:=h
 cases rx
 cases ry
 obtain⟨z,its,n,r,hl,e⟩:=I.lstM hH
 obtain⟨z2,its2,n2,r2,hl2,e2⟩:=I.lstM hB
 refine PySem.P.add_list e e2 ?_ (by rw[List.size_toArray,List.size_toArray];lia)
 have ea:its.toArray++its2.toArray=(its++its2).toArray:=by simp
 rw[ea]
 exact⟨.ref _,_,I.lnew (t':=s.toks) (r.append r2) (by rw[List.length_append];lia),rfl,q _ I.fresh⟩
noncomputable def rRep:R2:=fun x y H Q=>∃l k xs,x= .ref l/\y= .int k/\H l=some (.lst xs)/\ -(2^63)<=k/\k<2^63/\xs.length*k.toNat<=sizeLine/\
 ∀p,H p=none->Q (.ref p) (upd H p (.lst (List.replicate k.toNat xs).flatten))
theorem len_rep {α:Type}(xs:List α)(k:Nat):(List.replicate k xs).flatten.length=k*xs.length:=by
 induction k with
 |zero=>simp
 |succ k ih=>rw[List.replicate_succ,List.flatten_cons,List.length_append,ih,Nat.succ_mul,Nat.add_comm]
theorem op_rep:OpR X (binaryOp .Mult) rRep:=by
 intro pins s σ H x y v u Q I rx ry h
 obtain⟨l,k,xs,rfl,rfl,hH,h1,h2,hz,q⟩:=h
 cases rx
 obtain⟨t,rfl⟩:=ry
 obtain⟨z,its,n,r,hl,e⟩:=I.lstM hH
 have hlen:its.toArray.size*k.toNat<=sizeLine:=by rw[List.size_toArray,<-hl];exact hz
 have hcap:¬its.toArray.size*k.toNat>(2^63-1)/8:=by
  have:(sizeLine:Nat)<=(2^63-1)/8:=by decide
  lia
 have hfit:¬(!Builtin.List.listFitsIndex k)=true:=by
  rw[fitsIndex_both h1 h2]
  exact Bool.false_ne_true
 have hlong:¬Builtin.List.listTooLong (its.toArray.size*k.toNat)=true:=by
  rw[zlK hlen]
  exact Bool.false_ne_true
 have hnew:List.foldl (fun x1 x2=>x1++x2) #[] (List.replicate (if its.toArray.isEmpty=true then 0 else k.toNat) its.toArray)=(List.replicate k.toNat its).flatten.toArray:=by
  have f0:∀m:Nat,List.foldl (fun x1 x2=>x1++x2) #[] (List.replicate m its.toArray)=(List.replicate m its).flatten.toArray:=fun m=>by
   have:=zjW its m []
   rw[List.nil_append]at this
   exact this
  rw[f0]
  cases its with
  |nil=>simp
  |cons a r'=>rw[if_neg (by simp)]
 refine wpAny_binaryOp_repeat_ref (T:="list") (U:="int") (by decide) ⟨_,e,rfl⟩ (fun s'=>typeIs_int s' k t) noFill_list_mul F.fills_int_mul F.slot_int_rmul repeat_list F.slot_int_index.lookup
  (call_meets F.slot_int_rmul (typeIs_int s k t) F.entry_int_rmul (F.args_int_rmul_2 _ _) (int___rmul___int_list k t l its.toArray n)
   ⟨e,rfl,⟨_,e,rfl⟩,call_meets F.slot_list_mul ⟨_,e,rfl⟩ F.entry_list_mul (F.args_list_mul_2 _ _) (AutoListH.list___mul___list_int_3 l its.toArray n k t hfit hcap hlong) ⟨e,?_⟩⟩)
 rw[hnew]
 exact⟨.ref _,_,I.lnew (t':=s.toks) (r.rep k.toNat) (by rw[len_rep,Nat.mul_comm];exact hz),rfl,q _ I.fresh⟩
end
end L2
namespace Att
open PyProof.Rows PySem PySem.Calls PySem.W
theorem zhA {P:Params}{h:Heap}:∀(ns:List Int) (vs:List Value),WellAll P h vs (ns.map WData.int)->IntsAre vs ns:=by
 intro ns
 induction ns with
 |nil=>
  intro vs w
  rw[List.map_nil]at w
  cases w
  exact .nil
 |cons n ns ih=>
  intro vs w
  rw[List.map_cons]at w
  cases w with
  |cons a b=>
   cases a
   exact .cons _ _ (ih _ b)
theorem zny {l:OpenLaw}{n:Nat}(hn:l.most=some n){P:Params}{h:Heap}{args:List WData}{vals:List Value}
  (hpre:l.row.toRowW.claim.pre args=true) (hwl:WellAll P h vals args):
  ∃a vs ns,vals=[Value.ref a]/\args=[WData.list (ns.map WData.int)]/\h.get? a=some {cls:= .type "list",data:= .seq vs.toArray}/\IntsAre vs ns/\ns.length<=n:=by
 have hsh:WShape.hasAll [] args [.list .int]=true:=(pre_splitW hpre).1
 have hc:l.pre.holds [] {args:=args}=true:=(pre_splitW hpre).2
 obtain⟨d,r,rfl,h1,h2⟩:=hasAllW_cons hsh
 obtain rfl:=hasAllW_nil h2
 obtain⟨xs,rfl,h3⟩:=hasW_list h1
 obtain⟨ns,rfl⟩:=items_int h3
 have hlen:ns.length<=n:=by
  unfold OpenLaw.pre at hc
  have h4:(WTm.not (.lt (.lit (.int (n:Int))) (.len (.arg 0)))).holds [] {args:=[.list (ns.map .int)]}=true:=by
   have h4:=(holds_andW hc).1
   rw[hn]at h4
   exact h4
  have h5:=condW_of h4 (w_not (w_lt w_lit (w_len_list (w_arg rfl))))
  rw[List.length_map]at h5
  refine Nat.le_of_not_lt fun q=>?_
  have q':(n:Int)<((ns.length:Nat):Int):=by lia
  first
   |(rw[decide_eq_true q']at h5;exact absurd h5 (by decide))
   |(simp at h5;lia)
 cases hwl with
 |cons w1 w2=>
  cases w2
  cases w1 with
  |list ho hall=>exact⟨_,_,ns,rfl,rfl,ho,zhA ns _ hall,hlen⟩
theorem zm2 (l:OpenLaw)(args:List WData):l.row.toRowW.claim.post args (.bool true) args=true:=
 postW_of (r:=l.row.toRowW) (X:=(true==true))
  (show WShape.has [] (.bool true) .bool=true by first|rfl|decide|simp[WShape.has,WShape.arms,WShape.armsAll])
  (show(WTm.eq .res (.lit (.bool true))).value [] {args:=args,res:=some (.bool true),after:=args}=some (.bool (true==true))from w_eq_bool (w_res rfl) w_lit) rfl
theorem attach_call {l:OpenLaw}{n:Nat}{q:Program}{loose:List Str}{XP:(Str->Option Value)->Heap->Prop}{YP:World->Heap->Prop}{d:DefRec}
  (hn:l.most=some n) (hdf:d.params.defaults=[])
  (call : ∀ (w : World) (s₀ s₁ : Shared) (mg mb : Str -> Option Value) (fa : Addr) (o : Obj) (pm cd doc : Value) (a : Addr) (vs : List Value) (ns : List Int),
   Ground q loose [] XP w s₀ mg mb s₁.heap->YP w s₁.heap->
   s₁.heap.get? fa=some o->o.data= .func (docDef d.name d.params d.body d.scope pm cd doc)->s₁.heap.CodeRec cd d.name->mg d.name=some (.ref fa)->
   s₁.heap.get? a=some {cls:= .type "list",data:= .seq vs.toArray}->IntsAre vs ns->ns.length<=n->s₁.gens= #[]->
   codeAny (model l.prog w) callerA (.call (.ref fa) ⟨[.ref a],[]⟩) (fun r s'=>r= .ok (.ret (.bool true))/\OldK s₁.heap s'.heap/\s'.os=s₁.os/\AllBare s'.gens) s₁):
  WalkO q loose XP YP l.row.toRowW d [] (fun f vs=>PySem.call f vs):=by
 intro w s₀ s₁ mg mb G Y fa o pm cd doc dV kV ho hd hcd hD hmg hg args vals as hpre hlay hrd hwl hlo
 obtain rfl:dV= .none:=Dflts.none hD hdf
 obtain rfl:kV= .none:=Dflts.noKw hD
 obtain⟨a,vs,ns,rfl,rfl,hobj,hints,hlen⟩:=zny hn hpre hwl
 refine enter_call (codeAny_mono (call w s₀ s₁ mg mb fa o pm cd doc a vs ns G Y ho (fd_plain hd) hcd hmg hobj hints hlen hg) fun r s' hq=>?_)
 obtain⟨rfl,h2,h3,h4⟩:=hq
 exact⟨.inl ⟨.bool true,.bool true,[],rfl,fun _=>rfl,.bool true,zm2 l _,fun _=>⟨List.Pairwise.nil,fun _ hm=>(nomatch hm)⟩⟩,h2,h3,h4⟩
end Att
namespace L2
open PyProof.Rows PySem PySem.Spec
variable {w:World} {K:W.Frag} {CX:World->CXT} {k:Nat} {a f:Addr} {fd:FuncData} {x qual:Str} {sp:Sp} {vs:List Value} {ns:List Int} {l:W.OpenLaw} {q prog:Program} {loose ps:List Str} {XP:(Str->Option Value)->Heap->Prop} {YP:World->Heap->Prop} {d:DefRec} {oc u:Value} {osl:Array (Option Value)} {xs:List V} {o:Option V} {y:V} {h':Heap} {A:Around} {E Q:Value->Shared->Prop} {s:Shared}
theorem zfY:∀{vs:List Value} {ns:List Int},IntsAre vs ns->Vals (ns.map V.int) vs
 |_,_,.nil=> .nil
 |_,_,.cons n t h=> .cons ⟨t,rfl⟩ (zfY h)
noncomputable def Only (H:Hp):Prop:=∀b,H b=none\/∃o xs,H b=some (.frz o (.lst xs))
theorem law_call {P:Program}{mg mb:Str->Option Value}{CX:CXT}{fa a:Addr}{s₁:Shared}
  (KX:K.In s₁.heap) (hns:s₁.heap.Ns mainGlobals mg) (hb:s₁.heap.Ns builtinsNs mb) (hbb:∀x:Str,x≠"__name__"->mb x=bootBuiltins x) (hlim:s₁.heap.NoLimit) (hg:s₁.gens= #[])
  (ha:s₁.heap.get? a=some {cls:= .type "list",data:= .seq vs.toArray}) (hi:IntsAre vs ns) (hl:ns.length<=sizeLine) (hr:Room k callerA)
  (F:∀base:Heap,K.In base->base.Ns mainGlobals mg->FnOk P w K mg base CX k fa fd [x] sp) (hbind:∀(s:Shared) (u:Value),BindsTo s fd ⟨[u],[]⟩ [(x,u)])
  (hsp:∀H:Hp,Only H->SqL K H a (ns.map V.int)->sp [.ref a] H (fun v _=>v= .bl true) fun _ _ _=>False)
  (hCX:∀H e s',CX [] H s₁ (fun _ _ _=>False) e s'->False):
  codeAny (model P w) callerA (.call (.ref fa) ⟨[.ref a],[]⟩) (fun r s'=>r= .ok (.ret (.bool true))/\OldK s₁.heap s'.heap/\s'.os=s₁.os/\AllBare s'.gens) s₁:=by
 have rv:=zfY hi
 have lenV:=hi.length
 have core:∀H:Hp,Only H->SqL K H a (ns.map V.int)->HOk P w H s₁.heap->(∀b,H b≠none->b=a)->(H a≠none->K.lookup a=none)->
   codeAny (model P w) callerA (.call (.ref fa) ⟨[.ref a],[]⟩) (fun r s'=>r= .ok (.ret (.bool true))/\OldK s₁.heap s'.heap/\s'.os=s₁.os/\AllBare s'.gens) s₁:=by
  intro H hO hS hok hA hK
  have base_of:∀{b:Addr} {o:Obj},s₁.heap.get? b=some o->H b=none->(hidT s₁.heap H).get? b=some o:=fun e n=>hidT_get e n
  have noA:∀{b:Addr} {o:Obj} {es:Array DictEntry} {ep:Nat},s₁.heap.get? b=some o->o.data= .dict es ep->H b=none:=fun{b o es ep} e d=>by
   cases q:H b with
   |none=>rfl
   |some u=>
    have e':b=a:=hA b (by rw[q];simp)
    subst e'
    rw[ha]at e;cases e
    have d':Data.seq vs.toArray _=Data.dict es ep:=d
    cases d'
  have nsK:∀{b:Addr} {m:Str->Option Value},s₁.heap.Ns b m->(hidT s₁.heap H).Ns b m:=fun{b m} ⟨o,es,ep,e,d,r⟩=>⟨o,es,ep,base_of e (noA e d),d,r⟩
  have hKb:K.In (hidT s₁.heap H):=fun b o e=>base_of (KX b o e) (by
   cases q:H b with
   |none=>rfl
   |some u=>
    have e':b=a:=hA b (by rw[q];simp)
    subst e'
    rw[hK (by rw[q];simp)]at e;cases e)
  have hM:Mod K mg (hidT s₁.heap H):=⟨hKb,nsK hns,⟨mb,nsK hb,hbb⟩,let⟨mc,h1,h2⟩:=hlim;⟨mc,nsK h1,h2⟩⟩
  have e0:Env0 P w K mg (hidT s₁.heap H) callerA [] s₁ H:=⟨rfl,hM,fun b o e=>of_hidT e,Nat.le_of_eq (znr _ _),trivial,fun b hb=>absurd (show b∈([]:List Addr)from hb) (by simp),hok,.of_eq hg⟩
  refine codeAny_mono ((F _ hKb (nsK hns)).run callerA [] s₁ H ⟨[.ref a],[]⟩ [.ref a] [.ref a] _ _ hr e0 (hbind s₁ (.ref a)) (.cons rfl .nil) (hsp H hO hS)) fun r s' h=>?_
  cases r with
  |error e=>exact(hCX H e s' h).elim
  |ok fl=>
   cases fl with
   |next=>exact False.elim h
   |brk=>exact False.elim h
   |cont=>exact False.elim h
   |ret u=>
    obtain⟨v,H',os,bare,un,hok',r',q⟩:=h
    have q':v= .bl true:=q
    subst q'
    obtain rfl:u=Value.bool true:=r'
    refine⟨rfl,OldK.of_keep fun b o e=>?_,os,bare⟩
    cases q:H b with
    |none=>exact un.keep b o e q (by intro z;exact absurd (show b∈([]:List Addr)from z) (by simp)) (by simp)
    |some u=>
     rcases hO b with z|⟨ob,xs,z⟩
     ·rw[q]at z;cases z
     ·have z2:=un.frzs b ob _ z
      obtain⟨e1,_⟩:=hok b _ z
      obtain⟨e2,_⟩:=hok' b _ z2
      rw[e]at e1;cases e1
      exact e2
 cases hk:K.lookup a with
 |some o=>
  have e:=KX a o hk
  rw[ha]at e
  cases e
  refine core (fun _=>none) (fun _=> .inl rfl) (.inr ⟨_,vs.toArray,_,hk,rfl,rfl,rfl,by rw[List.size_toArray,lenV];exact hl,by simpa using rv⟩) (fun b u z=>by have z':(none:Option HO)=some u:=z;cases z') (fun b z=>absurd rfl z) fun z=>absurd rfl z
 |none=>
  refine core (fun b=>if b=a then some (.frz {cls:= .type "list",data:= .seq vs.toArray} (.lst (ns.map V.int)))else none) (fun b=>?_) (.inl (.inr ⟨{cls:= .type "list",data:= .seq vs.toArray},if_pos rfl⟩)) (fun b u z=>?_) (fun b z=>?_) fun _=>hk
  ·by_cases hb:b=a
   ·exact .inr ⟨_,_,if_pos hb⟩
   ·exact .inl (if_neg hb)
  ·by_cases hb:b=a
   ·have z':=(if_pos hb).symm.trans z
    cases z'
    subst hb
    exact⟨ha,by rw[List.length_map];exact hl,vs,_,rv,ha⟩
   ·have z':=(if_neg hb).symm.trans z
    cases z'
  ·by_cases hb:b=a
   ·exact hb
   ·exact absurd (if_neg hb) z
theorem walk_of {n k:Nat}{K:Params->W.Frag}{sp:World->Sp}
  (hn:l.most=some n) (hn2:n<=sizeLine) (hdf:d.params.defaults=[]) (hr:Room k callerA)
  (hY:∀(w:World) (h:Heap),YP w h->(K w.params).In h)
  (F : ∀ (w : World) (mg : Str -> Option Value) (fa : Addr) (h : Heap), (K w.params).In h -> h.Ns mainGlobals mg -> mg d.name = some (.ref fa) ->
   ∃fd:FuncData,(∀(s:Shared) (u:Value),BindsTo s fd ⟨[u],[]⟩ [(x,u)])/\
    ∀base:Heap,(K w.params).In base->base.Ns mainGlobals mg->FnOk l.prog w (K w.params) mg base (CX w) k fa fd [x] (sp w))
  (hsp:∀(w:World) (H:Hp) (a:Addr) (ns:List Int),ns.length<=n->Only H->SqL (K w.params) H a (ns.map V.int)->sp w [.ref a] H (fun v _=>v= .bl true) fun _ _ _=>False)
  (hCX:∀(w:World) (H:Hp) (s:Shared) (e:Value) (s':Shared),CX w [] H s (fun _ _ _=>False) e s'->False):
  W.WalkO q loose XP YP l.row.toRowW d [] (fun f vs=>PySem.call f vs):=by
 refine Att.attach_call hn hdf fun w s₀ s₁ mg mb fa o pm cd doc a vs ns G Y ho hd hcd hmg hobj hints hlen hg=>?_
 have KX:=hY w _ Y
 obtain⟨fd,hb,hF⟩:=F w mg fa _ KX G.T.g hmg
 exact law_call KX G.T.g G.T.b G.T.builtins G.T.nolimit hg hobj hints (Nat.le_trans hlen hn2) hr hF hb (fun H hO hS=>hsp w H a ns hlen hO hS) fun H e s'=>hCX w H s₁ e s'
noncomputable def zdN (s:Stmt)(j:Nat):Stmt:=match s with
 | .ClassDef _ _ _ body _ _ _ _ _ _ _=>body.getD j (.Pass ⟨0,0,0,0⟩)
 |_=> .Pass ⟨0,0,0,0⟩
noncomputable def zaZ (s:Stmt):Arguments:=match s with
 | .FunctionDef _ a _ _ _ _ _ _ _ _=>a
 |_=>{posonlyargs:=[],args:=[],vararg:=none,kwonlyargs:=[],kw_defaults:=[],kwarg:=none,defaults:=[]}
noncomputable def zaH (s:Stmt):List Stmt:=match s with
 | .FunctionDef _ _ b _ _ _ _ _ _ _=>b
 |_=>[]
noncomputable def zan (s:Stmt):Scope:=match s with
 | .FunctionDef _ _ _ _ _ _ sc _ _ _=>sc
 |_=>{kind:= .function,names:=[],isGenerator:=false,isCoroutine:=false}
noncomputable abbrev CX0:CXT:=fun _ _ _ _ _ _=>False
noncomputable abbrev E0:XK:=fun _ _ _=>False
theorem zkK {X:Cx}:zhS CX0 X E0:=fun _ _ _ _ _ _ _ h=>h.elim
structure Fun (K:W.Frag) (x qual:Str) (st:Stmt) (f:Addr) (fd:FuncData):Prop where
 ex:∃(oc:Value) (od:Option Addr) (kV doc pm:Value) (an:Option Addr) (cdv ct:Value) (osl:Array (Option Value)),
  fd=W.fnOf x qual (zaZ st) (zaH st) (zan st) .none kV doc pm an cdv ct/\K.lookup f=some ⟨oc,od,.func fd,osl⟩/\W.codeIn K cdv qual=true
 kp:W.keepIn K (.ref f)=true
section
variable {P:Program} {w:World} {K:W.Frag} {mg:Str->Option Value} {base:Heap}
theorem Fun.ok {st:Stmt}{N ps:List Str}(F:Fun K x qual st f fd)(S:FnScope N ps (zan st))(len:∀vs H Q E,sp vs H Q E->vs.length=ps.length)
  (hbody : ∀ (cdv : Value) (A : Around) (outer : List Env) (s : Shared) (H : Hp) (vs : List V) (Q : VK) (E : XK), Room k (A.deeper (envOfC qual (zan st) s.heap.objs.size f cdv)) -> sp vs H Q E ->
   ∃t,PSs (cxOf CX0 P w K mg base N qual (zan st) f cdv A outer s H E).nox (zaH st) t/\t {nx:=fun _ H'=>Q .non H',rt:=Q} (start N vs) H):FnOk P w K mg base CX0 (k+1) f fd ps sp:=by
 obtain⟨oc,od,kV,doc,pm,an,cdv,ct,osl,rfl,lk,hcd⟩:=F.ex
 refine fn_of lk hcd S len fun A outer s H vs Q E hr hsp=>?_
 obtain⟨t,h,q⟩:=hbody cdv A outer s H vs Q E hr hsp
 exact⟨t,h.nox,q⟩
theorem Fun.binds {st:Stmt}(F:Fun K x qual st f fd)
  (h:∀(kV doc pm:Value) (an:Option Addr) (cdv ct:Value) (us:List Value),us.length=ps.length->bindArgs (W.fnOf x qual (zaZ st) (zaH st) (zan st) .none kV doc pm an cdv ct) ⟨us,[]⟩=pure (ps.zip us)):Binds K fd ps []:=by
 obtain⟨oc,od,kV,doc,pm,an,cdv,ct,osl,rfl,lk,hcd⟩:=F.ex
 exact .all (h kV doc pm an cdv ct)
theorem znf {st:Stmt}{od an:Option Addr}{kV doc pm cdv ct:Value}(l:K.lookup f=some ⟨oc,od,.func (W.fnOf x qual (zaZ st) (zaH st) (zan st) .none kV doc pm an cdv ct),osl⟩)
  (c:W.codeIn K cdv qual=true) (k:W.keepIn K (.ref f)=true):Fun K x qual st f (W.fnOf x qual (zaZ st) (zaH st) (zan st) .none kV doc pm an cdv ct):=⟨⟨oc,od,kV,doc,pm,an,cdv,ct,osl,rfl,l,c⟩,k⟩
end
noncomputable def Same (H H':Hp):Prop:=∀b o,H b=some o->H' b=some o
theorem Same.seq {H H':Hp}(e:Same H H')(h:SqL K H a xs):SqL K H' a xs:=by
 rcases h with(h|⟨o,h⟩)|h
 ·exact .inl (.inl (e _ _ h))
 ·exact .inl (.inr ⟨o,e _ _ h⟩)
 ·exact .inr h
section
variable {κ:Type} [DecidableEq κ]
noncomputable def valV (kvs:List (κ×V))(k:κ):Option V:=(kvs.find? fun kv=>decide (kv.1=k)).map (·.2)
noncomputable def putK (kvs:List (κ×V))(k:κ)(v:V):List (κ×V):=
 if(kvs.any fun kv=>decide (kv.1=k))=true then kvs.map (fun kv=>if kv.1=k then(kv.1,v)else kv)else kvs++[(k,v)]
theorem zlw {p:κ×V}{r:List (κ×V)}{k:κ}(e:p.1=k):valV (p::r) k=some p.2:=by simp[valV,List.find?_cons,e]
theorem zi8 {p:κ×V}{r:List (κ×V)}{k:κ}(e:¬p.1=k):valV (p::r) k=valV r k:=by simp[valV,List.find?_cons,e]
theorem zj9 (kvs:List (κ×V))(k:κ)(v:V):(putK kvs k v).length<=kvs.length+1:=by
 unfold putK
 split
 ·rw[List.length_map];lia
 ·rw[List.length_append,List.length_cons,List.length_nil];lia
theorem RelO.isSome_eq {u:Option Value}(r:RelO o u):o.isSome=u.isSome:=by
 cases o with
 |none=>cases u with
  |none=>rfl
  |some _=>exact(show False from r).elim
 |some _=>cases u with
  |none=>exact(show False from r).elim
  |some _=>rfl
theorem KV.val {kvs:List (κ×V)}{vs:List (κ×Value)}(r:KV kvs vs)(k:κ):RelO (valV kvs k) (valueAt vs k):=by
 unfold KV at r
 induction r with
 |nil=>exact True.intro
 | @cons p q ps qs h t ih=>
  obtain⟨h1,h2⟩:=h
  by_cases e:p.1=k
  ·have e':q.1=k:=h1.symm.trans e
   have b:valueAt (q::qs) k=some q.2:=by simp[valueAt,List.find?_cons,e']
   rw[zlw e,b];exact h2
  ·have e':¬q.1=k:=fun z=>e (h1.trans z)
   have b:valueAt (q::qs) k=valueAt qs k:=by simp[valueAt,List.find?_cons,e']
   rw[zi8 e,b];exact ih
theorem KV.any {kvs:List (κ×V)}{vs:List (κ×Value)}(r:KV kvs vs)(k:κ):(kvs.any fun kv=>decide (kv.1=k))=vs.any fun kv=>decide (kv.1=k):=by
 unfold KV at r
 induction r with
 |nil=>rfl
 |cons h t ih=>rw[List.any_cons,List.any_cons,ih,h.1]
theorem KV.repl {kvs:List (κ×V)}{vs:List (κ×Value)}(r:KV kvs vs)(k:κ)(ry:RelV y u):
  KV (kvs.map fun kv=>if kv.1=k then(kv.1,y)else kv) (vs.map fun kv=>if kv.1=k then(kv.1,u)else kv):=by
 unfold KV at r ⊢
 induction r with
 |nil=>exact .nil
 | @cons p q ps qs h t ih=>
  rw[List.map_cons,List.map_cons]
  refine .cons ?_ ih
  obtain⟨h1,h2⟩:=h
  by_cases e:p.1=k
  ·rw[if_pos e,if_pos (h1.symm.trans e)];exact⟨h1,ry⟩
  ·rw[if_neg e,if_neg (fun z=>e (h1.trans z))];exact⟨h1,h2⟩
theorem KV.put {kvs:List (κ×V)}{vs:List (κ×Value)}(r:KV kvs vs)(k:κ)(ry:RelV y u):KV (putK kvs k y) (stored vs k u):=by
 unfold putK stored
 rw[r.any k]
 by_cases e:(vs.any fun kv=>decide (kv.1=k))=true
 ·rw[if_pos e,if_pos e];exact r.repl k ry
 ·rw[if_neg e,if_neg e];exact Paired.snoc r ⟨rfl,ry⟩
theorem KV.keys {kvs:List (κ×V)}{vs:List (κ×Value)}(r:KV kvs vs):kvs.map (·.1)=vs.map (·.1):=by
 unfold KV at r
 induction r with
 |nil=>rfl
 |cons h t ih=>rw[List.map_cons,List.map_cons,ih,h.1]
theorem KV.length {kvs:List (κ×V)}{vs:List (κ×Value)}(r:KV kvs vs):kvs.length=vs.length:=Paired.length r
end
theorem zn7 {P:Program}{k:Key}(r:RelV (kV k) u):(zbj P w).is k u=true:=by
 cases k with
 |inl i=>obtain⟨t,e⟩:=(show ∃t,u=Value.int i t from r);subst e;exact zkq P w i t
 |inr x=>obtain⟨t,e⟩:=(show ∃t,u=Value.str x t from r);subst e;exact zkI P w x t
section
variable {X:Cx} {pins:List (Addr×Obj)} {σ:St} {H:Hp} {s:Shared} {a:Addr} {y v:V} {u r:Value} {o:Option V} {A:Around} {E:Value->Shared->Prop}
theorem Inv.big (I:Inv X pins σ H s):sysModules<s.heap.objs.size:=by
 have h:mainGlobals<s.heap.objs.size:=(I.mod.glob.keeps I.bk).lt
 exact Nat.lt_trans (by decide) h
theorem d_write {t':Nat}{ob:HO}(I:Inv X pins σ H s)(mu:Mut (H a))(hs:Heap.SameBut a s.heap h')(he:∃q,h'.get? a=some q)(new:ObjOk X.prog X.w (upd H a ob) h' a ob):
  Inv X pins σ (upd H a ob) {s with heap:=h',toks:=t'}:=
 I.write (x:=a) (e:=a) mu (.inl rfl) (fun b q hb z=>(hs.2 b hb).trans z) he new
end
noncomputable def NoSl (i:Expr):Prop:=∀ov iv,subscripted i false ov iv=operate [ov,iv] (getItem ov iv)
theorem subD_of {env:Env}{value slice:Expr}{pos:Pos}{T id:String}
  (hl:typeLookup (.type T) "__getitem__"=pure (some (.builtin id))) (hs:NoSl slice)
  (h:wpAny (model prog w) A (eval value env) (fun o s₁=>wpAny (model prog w) A (eval slice env) (fun i s₂=>s₂.TypeIs o T/\wpAny (model prog w) A (getItem o i) Q E s₂) E s₁) E s):
  wpAny (model prog w) A (eval (.Subscript value slice pos) env) Q E s:=by
 refine Subscript_ (wpAny_mono h (fun o s₁ h₁=>wpAny_mono h₁ (fun i s₂ h₂=>?_) fun _ _ x=>x) fun _ _ x=>x)
 obtain⟨hT,h₂⟩:=h₂
 unfold subscriptTail
 refine wpAny_bind ?_
 rw[getitemInPython_of_ne hT.not_modules]
 refine wpAny_bind (wpAny_specialOf hT hl ?_)
 have fin:wpAny (model prog w) A (subscripted slice false o i) (fun r s₃=>wpAny (model prog w) A (letTemporaryGo value o r>>=fun _=>pure r) Q E s₃) E s₂:=by
  rw[hs o i]
  exact wpAny_operating (wpAny_mono h₂ (fun r s₃ h₃=>wpAny_bind (wpAny_letTemporaryGo (wpAny_pure h₃))) fun _ _ x=>x)
 first
  |exact wpAny_pure (wpAny_bind fin)
  |exact wpAny_bind (wpAny_pure (wpAny_bind fin))
  |exact wpAny_bind fin
end L2
namespace M
open L2 PySem
variable {C:Prop} {c:Ch} {G G' H:Hp} {a p l:Addr} {o:Obj} {xs ys:List V} {ks:List (List Int)} {A A':List Addr} {K:W.Frag} {x v:V} {d:D} {ds es:List D} {i:Nat} {ls:List (List D)} {dk:Option (List Int×List D)} {t:T} {ov:Option (Option V)} {s:Sl} {X:Cx} {e:Expr} {m:MO} {ρ ρ':R} {b:Bool} {f:D->D->Option D} {ma:ME} {op:Operator} {r:V->Hp->VK->Prop} {g:D->Option D}
theorem cBel {α β:Type}{o:Option α}{f:α->Option β}{b:β}(h:o.bind f=some b)(k:∀a,o=some a->f a=some b->C):C:=by
 cases o with
 |none=>cases h
 |some a=>exact k a rfl h
theorem zaz {α α' β:Type}{o:Option (α×α')}{f:α×α'->Option β}{b:β}(h:o.bind f=some b)(k:∀x y,o=some (x,y)->f (x,y)=some b->C):C:=cBel h fun a=>k a.1 a.2
theorem cMel {α β:Type}{o:Option α}{f:α->β}{b:β}(h:o.map f=some b)(k:∀a,o=some a->f a=b->C):C:=by
 cases o with
 |none=>cases h
 |some a=>exact k a rfl (Option.some.inj h)
theorem zdO {α α' β:Type}{o:Option (α×α')}{f:α×α'->β}{b:β}(h:o.map f=some b)(k:∀x y,o=some (x,y)->f (x,y)=b->C):C:=cMel h fun a=>k a.1 a.2
theorem cNN {α:Type}{a:α}(h:none=some a):C:=by cases h
theorem cSp {α β:Type}{a c:α}{b d:β}(h:some (a,b)=some (c,d)):a=c/\b=d:=by cases h;exact⟨rfl,rfl⟩
theorem cIte {α:Type}{c:Prop}[Decidable c]{a:Option α}{b:α}(h:(if c then a else none)=some b)(k:c->a=some b->C):C:=by
 by_cases z:c
 ·rw[if_pos z]at h;exact k z h
 ·rw[if_neg z]at h;exact cNN h
inductive D where
 |non|bl (b:Bool)|int (i:Int)|str (x:Str)|lst (ds:List D)|tup (ds:List D)|scr (ns:List Int)|exc (c:Str)|dic (ks:List Int) (ds:List D)|dit (ks:List (List Int)) (ds:List D)|obj (c:Str) (ns:List Str) (ls:List D) (ks:List Int) (ds:List D)
noncomputable def ExcIs (a C:Addr)(h:Heap):Prop:=∃o,h.get? a=some o/\o.cls= .ref C
noncomputable def kI (n:Int):Key:=Sum.inl n
noncomputable def kn (a:Addr)(o:Obj):HO:= .ext (fun h=>h.get? a=some o)
noncomputable def hI:Key->Int
 | .inl k=>hashInt k
 | .inr _=>0
noncomputable def DtN (o:Obj)(xs:List (List Key×Addr×Value)):Prop:=o.ExactDict/\(∃es ep,o.data= .dict es ep/\es.toList=xs.map fun x=>⟨reduceHash (Builtin.Tuple.tupleHashOf (x.1.map hI)),.ref x.2.1,x.2.2⟩)/\(xs.map (·.1)).Nodup
structure DtI (G:Hp) (a:Addr) (o:Obj) (xs:List (List Key×Addr×Value)) (ks:List (List Int)) (ys:List (List Key×V)):Prop where
 sys:(a==sysModules)=false
 dn:DtN o xs
 len:ys.length<=sizeLine
 key:ys.map (·.1)=ks.map (·.map kI)
 kt:Paired (fun(p:List Key×V) (q:List Key×Addr×Value)=>p.1=q.1/\G q.2.1=some (.tup (p.1.map kV))/\RelV p.2 q.2.2) ys xs
structure DkN (a:Addr) (o:Obj) (zs:List (Int×Tok×Value)) (ks:List Int) (ys:List (Key×V)):Prop where
 sys:(a==sysModules)=false
 ex:o.ExactDict
 dat:∃es ep,o.data= .dict es ep/\es.toList=zs.map fun z=>⟨hashInt z.1,.int z.1 z.2.1,z.2.2⟩
 nd:ks.Nodup
 len:ys.length<=sizeLine
 zk:zs.map (·.1)=ks
 key:ys.map (·.1)=ks.map kI
 kv:Paired (fun(p:Key×V) (q:Int×Tok×Value)=>p.1=kI q.1/\RelV p.2 q.2.2) ys zs
mutual
noncomputable def RepD (K:W.Frag)(G:Hp)(v:V):D->Prop
 | .non=>v= .non
 | .bl b=>v= .bl b
 | .int i=>v= .int i
 | .str x=>v= .str x
 | .lst ds=>∃a xs,v= .ref a/\G a=some (.lst xs)/\RepL K G xs ds
 | .tup ds=>∃a xs,v= .ref a/\G a=some (.tup xs)/\RepL K G xs ds
 | .scr ns=>∃a,v= .ref a/\SqL K G a (ns.map V.int)
 | .exc c=>∃a C,v= .ref a/\W.nsIn K mainGlobals c=some (some (.ref C))/\G a=some (.ext (ExcIs a C))
 | .dic ks ds=>∃a ys,v= .ref a/\Rd G a (.dK ys)/\ys.map (·.1)=ks.map kI/\RepL K G (ys.map (·.2)) ds
 | .dit ks ds=>∃a ys o xs,v= .ref a/\G a=some (kn a o)/\DtI G a o xs ks ys/\RepL K G (ys.map (·.2)) ds
 | .obj c ns ls ks ds=>∃a C dx vs ws p o zs ys,v= .ref a/\W.nsIn K mainGlobals c=some (some (.ref C))/\G a=some (.ins C dx vs)/\vs.map (·.1)=ns/\vs.map (·.2)=ws++[.ref p]/\RepL K G ws ls/\G p=some (kn p o)/\DkN p o zs ks ys/\RepL K G (ys.map (·.2)) ds
noncomputable def RepL (K:W.Frag)(G:Hp)(xs:List V):List D->Prop
 |[]=>xs=[]
 |d::ds=>∃x ys,xs=x::ys/\RepD K G x d/\RepL K G ys ds
end
noncomputable def Fz (G H:Hp):Prop:=∀a o,G a=some o->H a=some o
theorem DtI.mono {xs:List (List Key×Addr×Value)}{ys:List (List Key×V)}(d:DtI G a o xs ks ys)(h:Fz G G'):DtI G' a o xs ks ys:={d with kt:=Paired.mapP d.kt fun _ _ z=>⟨z.1,h _ _ z.2.1,z.2.2⟩}
theorem Fz.refl (G:Hp):Fz G G:=fun _ _ h=>h
theorem Fz.trans {A B C:Hp}(h:Fz A B)(k:Fz B C):Fz A C:=fun a o e=>k a o (h a o e)
theorem Fz.free (h:Fz G H)(e:H p=none):G p=none:=by
 cases q:G p with
 |none=>rfl
 |some o=>rw[h p o q]at e;cases e
theorem Fz.new (e:G p=none)(o:HO):Fz G (upd G p o):=fun a u q=>by
 rw[zal (zaJ q e)];exact q
theorem Fz.upd2 (h:Fz G H)(p:Addr)(o:HO):Fz (upd G p o) (upd H p o):=fun a u q=>by
 by_cases e:a=p
 ·subst e;rw[zar]at q ⊢;exact q
 ·rw[zal e]at q ⊢;exact h a u q
theorem Fz.right (h:Fz G H)(e:G p=none)(o:HO):Fz G (upd H p o):=fun a u q=>by
 rw[zal (zaJ q e)];exact h a u q
theorem Fz.sql {G H:Hp}(h:Fz G H)(q:SqL K G a xs):SqL K H a xs:=Same.seq (H:=G) (H':=H) h q
mutual
theorem RepD.mono (h:Fz G G'):∀{v:V} {d:D},RepD K G v d->RepD K G' v d:=by
 intro v d r
 cases d with
 |lst _=>exact Exists.imp (fun a=>Exists.imp fun xs=>And.imp id (And.imp (h a _) (RepL.mono h))) r
 |tup _=>exact Exists.imp (fun a=>Exists.imp fun xs=>And.imp id (And.imp (h a _) (RepL.mono h))) r
 |scr _=>exact Exists.imp (fun a=>And.imp id h.sql) r
 |exc _=>exact Exists.imp (fun a=>Exists.imp fun C=>And.imp id (And.imp id (h a _))) r
 |dic _ _=>exact Exists.imp (fun a=>Exists.imp fun ys=>And.imp id (And.imp (Or.imp (h a _) (Exists.imp fun o=>h a _)) (And.imp id (RepL.mono h)))) r
 |dit _ _=>exact Exists.imp (fun a=>Exists.imp fun ys=>Exists.imp fun o=>Exists.imp fun xs=>And.imp id (And.imp (h a _) (And.imp (fun f=>f.mono h) (RepL.mono h)))) r
 |obj _ _ _ _ _=>exact Exists.imp (fun a=>Exists.imp fun C=>Exists.imp fun dx=>Exists.imp fun vs=>Exists.imp fun ws=>Exists.imp fun p=>Exists.imp fun o=>Exists.imp fun zs=>Exists.imp fun ys=>And.imp id (And.imp id (And.imp (h a _) (And.imp id (And.imp id (And.imp (RepL.mono h) (And.imp (h p _) (And.imp id (RepL.mono h))))))))) r
 |_=>exact r
theorem RepL.mono (h:Fz G G'):∀{xs:List V} {ds:List D},RepL K G xs ds->RepL K G' xs ds:=by
 intro xs ds r
 cases ds with
 |nil=>exact r
 |cons _ _=>exact Exists.imp (fun x=>Exists.imp fun ys=>And.imp id (And.imp (RepD.mono h) (RepL.mono h))) r
end
section
variable {K:W.Frag} {G:Hp}
theorem RepL.nil:RepL K G [] []:=rfl
theorem RepL.cons {x:V}{d:D}(h:RepD K G x d)(t:RepL K G xs ds):RepL K G (x::xs) (d::ds):=⟨x,xs,rfl,h,t⟩
theorem RepL.length:∀{xs:List V} {ds:List D},RepL K G xs ds->xs.length=ds.length
 |_,[],e=>by cases e;rfl
 |_,_::_,⟨x,ys,e,_,r⟩=>by subst e;rw[List.length_cons,List.length_cons,RepL.length r]
theorem RepL.get:∀{xs:List V} {ds:List D} {i:Nat} {d:D},RepL K G xs ds->ds[i]? =some d->∃x,xs[i]? =some x/\RepD K G x d
 |_,[],_,_,_,h=>by simp at h
 |_,_::_,0,_,⟨x,ys,e,q,r⟩,h=>by subst e;simp at h;subst h;exact⟨x,rfl,q⟩
 |_,_::_,i+1,_,⟨x,ys,e,q,r⟩,h=>by
  subst e
  obtain⟨y,h1,h2⟩:=RepL.get (i:=i) r (by simpa using h)
  exact⟨y,by simpa using h1,h2⟩
theorem RepL.append:∀{xs ys:List V} {ds es:List D},RepL K G xs ds->RepL K G ys es->RepL K G (xs++ys) (ds++es)
 |_,_,[],_,e,r=>by cases e;exact r
 |_,_,_::_,_,⟨x,zs,e,q,r⟩,s=>by subst e;exact⟨x,zs++_,rfl,q,RepL.append r s⟩
theorem RepL.snoc (h:RepL K G xs ds)(q:RepD K G x d):RepL K G (xs++[x]) (ds++[d]):=h.append (.cons q .nil)
theorem RepL.take:∀{xs:List V} {ds:List D} (n:Nat),RepL K G xs ds->RepL K G (xs.take n) (ds.take n)
 |_,_,0,_=>by simp;exact .nil
 |_,[],n+1,e=>by cases e;exact .nil
 |_,_::_,n+1,⟨x,zs,e,q,r⟩=>by subst e;exact⟨x,zs.take n,rfl,q,RepL.take n r⟩
theorem RepL.drop:∀{xs:List V} {ds:List D} (n:Nat),RepL K G xs ds->RepL K G (xs.drop n) (ds.drop n)
 |_,_,0,r=>by simpa using r
 |_,[],n+1,e=>by cases e;exact .nil
 |_,_::_,n+1,⟨x,zs,e,q,r⟩=>by subst e;exact RepL.drop n r
theorem RepL.set:∀{xs:List V} {ds:List D} (i:Nat) {x:V} {d:D},RepL K G xs ds->RepD K G x d->RepL K G (xs.set i x) (ds.set i d)
 |_,[],_,_,_,e,_=>by cases e;exact .nil
 |_,_::_,0,_,_,⟨x,zs,e,q,r⟩,h=>by subst e;exact⟨_,zs,rfl,h,r⟩
 |_,_::_,i+1,_,_,⟨x,zs,e,q,r⟩,h=>by subst e;exact⟨x,_,rfl,q,RepL.set i r h⟩
theorem RepL.rep (h:RepL K G xs ds):∀k:Nat,RepL K G (List.replicate k xs).flatten (List.replicate k ds).flatten
 |0=> .nil
 |k+1=>by rw[List.replicate_succ,List.replicate_succ,List.flatten_cons,List.flatten_cons];exact h.append (RepL.rep h k)
theorem RepL.ints:∀(ns:List Int),RepL K G (ns.map V.int) (ns.map D.int)
 |[]=> .nil
 |n::ns=>⟨.int n,ns.map V.int,rfl,rfl,RepL.ints ns⟩
theorem RepL.ints_eq:∀{ns:List Int} {xs:List V},RepL K G xs (ns.map D.int)->xs=ns.map V.int
 |[],_,e=>e
 |n::ns,_,⟨x,ys,e,q,r⟩=>by subst e;cases(show x=V.int n from q);rw[RepL.ints_eq r];rfl
theorem RepL.at {i:Int}(h:RepL K G xs ds)(e:atI ds i=some d):∃x,atI xs i=some x/\RepD K G x d:=by
 unfold atI at e ⊢
 rw[h.length]
 cases q:ixN ds.length i with
 |none=>rw[q]at e;exact cNN e
 |some j=>rw[q]at e;exact h.get e
end
inductive Ch where
 |d (x:D)|l (xs:List D)|t (xss:List (List D))
inductive T where
 |lst (cs:List Ch)|tup (cs:List Ch)|ins (c:Str) (fs:List (Str×Ch))|dic (ks:List Int) (ds:List D)|dit (ks:List (List Int)) (ds:List D)|obj (c:Str) (ns:List Str) (ls:List (List D)) (dk:Option (List Int×List D))
inductive Sl where
 |emp|val (d:D)|own (ds:List D)|par (ds:List D)|two (ds es:List D)|tre (t:T)|ptr (t:T)
noncomputable abbrev R:=List Sl
noncomputable def Sl.items:Sl->Option (List D)
 | .own ds=>some ds
 | .par ds=>some ds
 |_=>none
structure Bs where
 G:Hp
 H:Hp
 O:List (Nat×Addr)
noncomputable def RepTb (K:W.Frag)(G H:Hp):List V->List (List D)->List Addr->Prop
 |[],[],A=>A=[]
 |x::xs,ds::dss,A=>∃r ys A2,x= .ref r/\H r=some (.lst ys)/\RepL K G ys ds/\RepTb K G H xs dss A2/\A=r::A2
 |_,_,_=>False
noncomputable def RepC (K:W.Frag)(G H:Hp)(x:V):Ch->List Addr->Prop
 | .d y,A=>RepD K G x y/\A=[]
 | .l ds,A=>∃l xs,x= .ref l/\H l=some (.lst xs)/\RepL K G xs ds/\A=[l]
 | .t xss,A=>∃p xs A',x= .ref p/\H p=some (.lst xs)/\RepTb K G H xs xss A'/\A=p::A'
noncomputable def RepCs (K:W.Frag)(G H:Hp):List V->List Ch->List Addr->Prop
 |[],[],A=>A=[]
 |x::xs,c::cs,A=>∃A1 A2,RepC K G H x c A1/\RepCs K G H xs cs A2/\A=A1++A2
 |_,_,_=>False
noncomputable def RepO (K:W.Frag)(G H:Hp)(xs:List V)(ls:List (List D)):Option (List Int×List D)->List Addr->Prop
 |none,A=>RepTb K G H xs ls A
 |some q,A=>∃ws p o zs ys A',xs=ws++[.ref p]/\RepTb K G H ws ls A'/\H p=some (kn p o)/\DkN p o zs q.1 ys/\RepL K G (ys.map (·.2)) q.2/\A=A'++[p]
noncomputable def RepT (K:W.Frag)(G H:Hp)(v:V):T->List Addr->Prop
 | .lst cs,A=>∃p xs A',v= .ref p/\H p=some (.lst xs)/\RepCs K G H xs cs A'/\A=p::A'
 | .tup cs,A=>∃p xs A',v= .ref p/\H p=some (.tup xs)/\RepCs K G H xs cs A'/\A=p::A'
 | .ins c fs,A=>∃p C dx vs A',v= .ref p/\W.nsIn K mainGlobals c=some (some (.ref C))/\H p=some (.ins C dx vs)/\H dx=some (.own p)/\vs.map (·.1)=fs.map (·.1)/\RepCs K G H (vs.map (·.2)) (fs.map (·.2)) A'/\A=p::dx::A'
 | .dic ks ds,A=>∃p ys,v= .ref p/\H p=some (.dK ys)/\ys.map (·.1)=ks.map kI/\RepL K G (ys.map (·.2)) ds/\A=[p]
 | .dit ks ds,A=>∃p ys o xs,v= .ref p/\H p=some (kn p o)/\DtI G p o xs ks ys/\RepL K G (ys.map (·.2)) ds/\A=[p]
 | .obj c ns ls dk,A=>∃p C dx vs A',v= .ref p/\W.nsIn K mainGlobals c=some (some (.ref C))/\H p=some (.ins C dx vs)/\H dx=some (.own p)/\vs.map (·.1)=ns/\RepO K G H (vs.map (·.2)) ls dk A'/\A=p::dx::A'
section
variable {K:W.Frag} {G G' H H':Hp}
theorem RepTb.move:∀{xs:List V} {dss:List (List D)} {A:List Addr},RepTb K G H xs dss A->Fz G G'->(∀a∈A,H' a=H a)->RepTb K G' H' xs dss A
 |[],[],_,h,_,_=>h
 |x::xs,ds::dss,A,⟨r,ys,A2,e1,e2,e3,e4,e5⟩,hg,hh=>⟨r,ys,A2,e1,by rw[hh r (by rw[e5];simp)];exact e2,e3.mono hg,e4.move hg fun a m=>hh a (by rw[e5];simp[m]),e5⟩
 |[],_::_,_,h,_,_=>h.elim
 |_::_,[],_,h,_,_=>h.elim
theorem RepTb.det:∀{xs:List V} {dss:List (List D)} {A A':List Addr},RepTb K G H xs dss A->RepTb K G' H' xs dss A'->A=A'
 |[],[],_,_,h,h'=>by rw[show _=[]from h,show _=[]from h']
 |x::xs,ds::dss,_,_,⟨r,ys,A2,e1,_,_,e4,e5⟩,⟨r',ys',A2',e1',_,_,e4',e5'⟩=>by
  rw[e1]at e1';cases e1'
  rw[e5,e5',e4.det e4']
 |[],_::_,_,_,h,_=>h.elim
 |_::_,[],_,_,h,_=>h.elim
theorem RepTb.here:∀{xs:List V} {dss:List (List D)} {A:List Addr},RepTb K G H xs dss A->∀{a:Addr},a∈A->∃xs,H a=some (.lst xs)
 |[],[],_,h,a,m=>by rw[show _=[]from h]at m;cases m
 |x::xs,ds::dss,_,⟨r,ys,A2,e1,e2,_,e4,e5⟩,a,m=>by
  rw[e5]at m
  rcases List.mem_cons.mp m with rfl|m
  ·exact⟨ys,e2⟩
  ·exact e4.here m
 |[],_::_,_,h,_,_=>h.elim
 |_::_,[],_,h,_,_=>h.elim
theorem RepO.move (h:RepO K G H xs ls dk A)(hg:Fz G G')(hh:∀a∈A,H' a=H a):RepO K G' H' xs ls dk A:=by
 cases dk with
 |none=>exact RepTb.move h hg hh
 |some q=>
  obtain⟨ws,p,o,zs,ys,A',e,r,q1,q2,q3,rfl⟩:=h
  exact⟨ws,p,o,zs,ys,A',e,r.move hg fun a m=>hh a (by simp[m]),by rw[hh p (by simp)];exact q1,q2,q3.mono hg,rfl⟩
theorem RepO.det (h:RepO K G H xs ls dk A)(h':RepO K G' H' xs ls dk A'):A=A':=by
 cases dk with
 |none=>exact RepTb.det h h'
 |some q=>
  obtain⟨ws,p,_,_,ys,B,e,r,_,_,_,rfl⟩:=h
  obtain⟨ws',p',_,_,ys',B',e',r',_,_,_,rfl⟩:=h'
  rw[e]at e'
  obtain⟨rfl,q2⟩:=List.append_inj' e' rfl
  cases q2
  rw[r.det r']
theorem RepO.here (h:RepO K G H xs ls dk A)(m:a∈A):(∃xs,H a=some (.lst xs))\/∃o,H a=some (kn a o):=by
 cases dk with
 |none=>exact .inl (RepTb.here h m)
 |some q=>
  obtain⟨ws,p,o,zs,ys,B,e,r,q1,_,_,rfl⟩:=h
  rcases List.mem_append.mp m with m|m
  ·exact .inl (r.here m)
  ·simp at m;subst m;exact .inr ⟨o,q1⟩
theorem RepC.move (h:RepC K G H x c A)(hg:Fz G G')(hh:∀a∈A,H' a=H a):RepC K G' H' x c A:=by
 cases c with
 |d y=>exact⟨h.1.mono hg,h.2⟩
 |l ds=>obtain⟨l,xs,e,q,r,rfl⟩:=h;exact⟨l,xs,e,by rw[hh l (by simp)];exact q,r.mono hg,rfl⟩
 |t xss=>obtain⟨p,xs,A',e,q,r,rfl⟩:=h;exact⟨p,xs,A',e,by rw[hh p (by simp)];exact q,r.move hg fun a m=>hh a (by simp[m]),rfl⟩
theorem RepCs.move:∀{xs:List V} {cs:List Ch} {A:List Addr},RepCs K G H xs cs A->Fz G G'->(∀a∈A,H' a=H a)->RepCs K G' H' xs cs A
 |[],[],_,h,_,_=>h
 |x::xs,c::cs,A,⟨A1,A2,h1,h2,e⟩,hg,hh=>⟨A1,A2,h1.move hg fun a m=>hh a (by rw[e];exact List.mem_append_left _ m),h2.move hg fun a m=>hh a (by rw[e];exact List.mem_append_right _ m),e⟩
 |[],_::_,_,h,_,_=>h.elim
 |_::_,[],_,h,_,_=>h.elim
theorem RepT.move (h:RepT K G H v t A)(hg:Fz G G')(hh:∀a∈A,H' a=H a):RepT K G' H' v t A:=by
 cases t with
 |lst cs=>obtain⟨p,xs,A',e,q,r,rfl⟩:=h;exact⟨p,xs,A',e,by rw[hh p (by simp)];exact q,r.move hg fun a m=>hh a (by simp[m]),rfl⟩
 |tup cs=>obtain⟨p,xs,A',e,q,r,rfl⟩:=h;exact⟨p,xs,A',e,by rw[hh p (by simp)];exact q,r.move hg fun a m=>hh a (by simp[m]),rfl⟩
 |ins c fs=>obtain⟨p,C,dx,vs,A',e,n,q,q2,f,r,rfl⟩:=h;exact⟨p,C,dx,vs,A',e,n,by rw[hh p (by simp)];exact q,by rw[hh dx (by simp)];exact q2,f,r.move hg fun a m=>hh a (by simp[m]),rfl⟩
 |dic ks ds=>obtain⟨p,ys,e,q,f,r,rfl⟩:=h;exact⟨p,ys,e,by rw[hh p (by simp)];exact q,f,r.mono hg,rfl⟩
 |dit ks ds=>obtain⟨p,ys,o,xs,e,q,f,r,rfl⟩:=h;exact⟨p,ys,o,xs,e,by rw[hh p (by simp)];exact q,f.mono hg,r.mono hg,rfl⟩
 |obj c ns ls dk=>obtain⟨p,C,dx,vs,A',e,n,q,q2,f,r,rfl⟩:=h;exact⟨p,C,dx,vs,A',e,n,by rw[hh p (by simp)];exact q,by rw[hh dx (by simp)];exact q2,f,r.move hg fun a m=>hh a (by simp[m]),rfl⟩
theorem RepC.det (h:RepC K G H x c A)(h':RepC K G' H' x c A')(hh:∀a∈A,H' a=H a):A=A':=by
 cases c with
 |d y=>rw[h.2,h'.2]
 |l ds=>obtain⟨l,xs,e,_,_,rfl⟩:=h;obtain⟨l',xs',e',_,_,rfl⟩:=h';rw[e]at e';cases e';rfl
 |t xss=>
  obtain⟨p,xs,B,e,q,r,rfl⟩:=h;obtain⟨p',xs',B',e',q',r',rfl⟩:=h'
  rw[e]at e';cases e'
  rw[hh p (by simp),q]at q';cases q'
  rw[r.det r']
theorem RepCs.det:∀{xs:List V} {cs:List Ch} {A A':List Addr},RepCs K G H xs cs A->RepCs K G' H' xs cs A'->(∀a∈A,H' a=H a)->A=A'
 |[],[],_,_,h,h',_=>by rw[show _=[]from h,show _=[]from h']
 |x::xs,c::cs,_,_,⟨A1,A2,h1,h2,e⟩,⟨B1,B2,k1,k2,e'⟩,hh=>by rw[e,e',h1.det k1 fun a m=>hh a (by rw[e];exact List.mem_append_left _ m),h2.det k2 fun a m=>hh a (by rw[e];exact List.mem_append_right _ m)]
 |[],_::_,_,_,h,_,_=>h.elim
 |_::_,[],_,_,h,_,_=>h.elim
theorem RepT.det (h:RepT K G H v t A)(h':RepT K G' H' v t A')(hh:∀a∈A,H' a=H a):A=A':=by
 cases t with
 |lst cs=>
  obtain⟨p,xs,B,e,q,r,rfl⟩:=h;obtain⟨p',xs',B',e',q',r',rfl⟩:=h'
  rw[e]at e';cases e'
  rw[hh p (by simp),q]at q';cases q'
  rw[r.det r' fun a m=>hh a (by simp[m])]
 |tup cs=>
  obtain⟨p,xs,B,e,q,r,rfl⟩:=h;obtain⟨p',xs',B',e',q',r',rfl⟩:=h'
  rw[e]at e';cases e'
  rw[hh p (by simp),q]at q';cases q'
  rw[r.det r' fun a m=>hh a (by simp[m])]
 |ins c fs=>
  obtain⟨p,C,dx,vs,B,e,n,q,q2,f,r,rfl⟩:=h;obtain⟨p',C',dx',vs',B',e',n',q',q2',f',r',rfl⟩:=h'
  rw[e]at e';cases e'
  rw[hh p (by simp),q]at q';cases q'
  rw[r.det r' fun a m=>hh a (by simp[m])]
 |dic ks ds=>obtain⟨p,ys,e,q,f,r,rfl⟩:=h;obtain⟨p',ys',e',q',f',r',rfl⟩:=h';rw[e]at e';cases e';rfl
 |dit ks ds=>obtain⟨p,ys,o,xs,e,q,f,r,rfl⟩:=h;obtain⟨p',ys',o',xs',e',q',f',r',rfl⟩:=h';rw[e]at e';cases e';rfl
 |obj c ns ls dk=>
  obtain⟨p,C,dx,vs,B,e,n,q,q2,f,r,rfl⟩:=h;obtain⟨p',C',dx',vs',B',e',n',q',q2',f',r',rfl⟩:=h'
  rw[e]at e';cases e'
  rw[hh p (by simp),q]at q';cases q'
  rw[r.det r']
theorem RepC.here (h:RepC K G H x c A)(m:a∈A):∃xs,H a=some (.lst xs):=by
 cases c with
 |d y=>rw[h.2]at m;cases m
 |l ds=>obtain⟨l,xs,_,q,_,rfl⟩:=h;simp at m;subst m;exact⟨xs,q⟩
 |t xss=>
  obtain⟨p,xs,A',_,q,r,rfl⟩:=h
  rcases List.mem_cons.mp m with rfl|m
  ·exact⟨xs,q⟩
  ·exact r.here m
theorem RepCs.here:∀{xs:List V} {cs:List Ch} {A:List Addr},RepCs K G H xs cs A->∀{a:Addr},a∈A->∃xs,H a=some (.lst xs)
 |[],[],_,h,a,m=>by rw[show _=[]from h]at m;cases m
 |x::xs,c::cs,_,⟨A1,A2,h1,h2,e⟩,a,m=>by
  rw[e]at m
  rcases List.mem_append.mp m with m|m
  ·exact h1.here m
  ·exact h2.here m
 |[],_::_,_,h,_,_=>h.elim
 |_::_,[],_,h,_,_=>h.elim
theorem RepT.here (h:RepT K G H v t A)(m:a∈A):H a≠none:=by
 cases t with
 |lst cs=>
  obtain⟨p,xs,B,e,q,r,rfl⟩:=h
  rcases List.mem_cons.mp m with rfl|m
  ·rw[q];simp
  ·obtain⟨ys,z⟩:=r.here m;rw[z];simp
 |tup cs=>
  obtain⟨p,xs,B,e,q,r,rfl⟩:=h
  rcases List.mem_cons.mp m with rfl|m
  ·rw[q];simp
  ·obtain⟨ys,z⟩:=r.here m;rw[z];simp
 |ins c fs=>
  obtain⟨p,C,dx,vs,B,e,n,q,q2,f,r,rfl⟩:=h
  rcases List.mem_cons.mp m with rfl|m
  ·rw[q];simp
  rcases List.mem_cons.mp m with rfl|m
  ·rw[q2];simp
  ·obtain⟨ys,z⟩:=r.here m;rw[z];simp
 |dic ks ds=>obtain⟨p,ys,e,q,f,r,rfl⟩:=h;simp at m;subst m;rw[q];simp
 |dit ks ds=>obtain⟨p,ys,o,xs,e,q,f,r,rfl⟩:=h;simp at m;subst m;rw[q];simp
 |obj c ns ls dk=>
  obtain⟨p,C,dx,vs,B,e,n,q,q2,f,r,rfl⟩:=h
  rcases List.mem_cons.mp m with rfl|m
  ·rw[q];simp
  rcases List.mem_cons.mp m with rfl|m
  ·rw[q2];simp
  ·rcases r.here m with⟨ys,z⟩|⟨ys,z⟩<;>(rw[z];simp)
end
noncomputable def T.isObj:T->Bool
 | .obj _ _ _ _=>true
 |_=>false
noncomputable def SlotOk (K:W.Frag)(B:Bs)(G H:Hp)(i:Nat)(ov:Option (Option V)):Sl->Prop
 | .emp=>True
 | .two _ _=>True
 | .val d=>∃v,ov=some (some v)/\RepD K G v d
 | .own ds=>∃l xs,ov=some (some (.ref l))/\G l=none/\H l=some (.lst xs)/\RepL K G xs ds/\B.H l=none
 | .par ds=>∃l xs,ov=some (some (.ref l))/\G l=none/\H l=some (.lst xs)/\RepL K G xs ds/\(i,l)∈B.O
 | .tre t=>∃v A,ov=some (some v)/\RepT K G H v t A/\A.Nodup/\∀a∈A,G a=none/\B.H a=none
 | .ptr t=>∃v A,ov=some (some v)/\RepT K G H v t A/\(A.Nodup/\∃p,v= .ref p/\(i+4096,p)∈B.O/\(t.isObj=true->(i+8192,p)∈B.O))/\∀a∈A,G a=none/\((i,a)∈B.O\/(B.H a=none/\∃p,v= .ref p/\(i+8192,p)∈B.O))
noncomputable def Wr (ρ:R)(i:Nat):Prop:=∃s ds,ρ[i]? =some s/\s.items=some ds
noncomputable def OwS (K:W.Frag)(G H:Hp)(ov:Option (Option V))(a:Addr):Sl->Prop
 | .own _=>ov=some (some (.ref a))
 | .par _=>ov=some (some (.ref a))
 | .tre t=>∃v A,ov=some (some v)/\RepT K G H v t A/\a∈A
 | .ptr t=>∃v A,ov=some (some v)/\RepT K G H v t A/\a∈A
 |_=>False
noncomputable def Nw (K:W.Frag)(G H:Hp)(σ:St)(ρ:R)(a:Addr):Prop:=∀(i:Nat) (s:Sl),ρ[i]? =some s->¬OwS K G H σ[i]? a s
structure SI (K:W.Frag) (B:Bs) (G H:Hp) (σ:St) (ρ:R):Prop where
 fz:Fz G H
 g0:Fz B.G G
 new:∀b o,G b=some o->B.G b≠none\/B.H b=none
 keep:∀b o,B.H b=some o->(∀i,(i,b)∉B.O)->H b=some o
 there:∀b,H b=none->B.H b=none
 len:σ.length=ρ.length
 ob:∀i b,(i,b)∈B.O->B.H b≠none
 slot:∀i s,ρ[i]? =some s->SlotOk K B G H i σ[i]? s
 dis:∀(i j:Nat) (s t:Sl) (a:Addr),i≠j->ρ[i]? =some s->ρ[j]? =some t->OwS K G H σ[i]? a s->¬OwS K G H σ[j]? a t
section
variable {K:W.Frag} {B:Bs} {G G' H H':Hp} {σ:St} {ρ:R}
theorem SlotOk.own (h:SlotOk K B G H i ov s)(w:OwS K G H ov a s):G a=none/\H a≠none/\(B.H a=none\/(i,a)∈B.O):=by
 cases s with
 |emp=>exact w.elim
 |two _ _=>exact w.elim
 |val d=>exact w.elim
 |own ds=>obtain⟨l,xs,e,g,k,r,n⟩:=h;rw[show ov=_ from w]at e;cases e;exact⟨g,by rw[k];simp,.inl n⟩
 |par ds=>obtain⟨l,xs,e,g,k,r,n⟩:=h;rw[show ov=_ from w]at e;cases e;exact⟨g,by rw[k];simp,.inr n⟩
 |tre t=>
  obtain⟨v,A,e,r,nd,f⟩:=h
  obtain⟨v',A',e',r',m⟩:=w
  rw[e]at e';cases e'
  rw[<-r.det r' fun _ _=>rfl]at m
  exact⟨(f a m).1,r.here m,.inl (f a m).2⟩
 |ptr t=>
  obtain⟨v,A,e,r,nd,f⟩:=h
  obtain⟨v',A',e',r',m⟩:=w
  rw[e]at e';cases e'
  rw[<-r.det r' fun _ _=>rfl]at m
  exact⟨(f a m).1,r.here m,(f a m).2.elim .inr fun z=> .inl z.1⟩
theorem SlotOk.mono (h:SlotOk K B G H i ov s)(hg:Fz G G')(hw:∀a,OwS K G H ov a s->G a=none->H a≠none->G' a=none/\H' a=H a):SlotOk K B G' H' i ov s:=by
 have ow:=fun a (w:OwS K G H ov a s)=>h.own w
 cases s with
 |emp=>trivial
 |two _ _=>trivial
 |val d=>obtain⟨v,e,r⟩:=h;exact⟨v,e,r.mono hg⟩
 |own ds=>
  obtain⟨l,xs,e,g,k,r,n⟩:=h
  obtain⟨h1,h2⟩:=hw l e g (by rw[k];simp)
  exact⟨l,xs,e,h1,h2.trans k,r.mono hg,n⟩
 |par ds=>
  obtain⟨l,xs,e,g,k,r,n⟩:=h
  obtain⟨h1,h2⟩:=hw l e g (by rw[k];simp)
  exact⟨l,xs,e,h1,h2.trans k,r.mono hg,n⟩
 |tre t=>
  obtain⟨v,A,e,r,nd,f⟩:=h
  have w:=fun a m=>hw a ⟨v,A,e,r,m⟩ (f a m).1 (r.here m)
  exact⟨v,A,e,r.move hg fun a m=>(w a m).2,nd,fun a m=>⟨(w a m).1,(f a m).2⟩⟩
 |ptr t=>
  obtain⟨v,A,e,r,nd,f⟩:=h
  have w:=fun a m=>hw a ⟨v,A,e,r,m⟩ (f a m).1 (r.here m)
  exact⟨v,A,e,r.move hg fun a m=>(w a m).2,nd,fun a m=>⟨(w a m).1,(f a m).2⟩⟩
theorem SlotOk.back (h:SlotOk K B G H i ov s)(hw:∀a,OwS K G H ov a s->G a=none->H a≠none->G' a=none/\H' a=H a)(w:OwS K G' H' ov a s):OwS K G H ov a s:=by
 cases s with
 |emp=>exact w
 |two _ _=>exact w
 |val d=>exact w
 |own ds=>exact w
 |par ds=>exact w
 |tre t=>
  obtain⟨v,A,e,r,nd,f⟩:=h
  obtain⟨v',A',e',r',m⟩:=w
  rw[e]at e';cases e'
  have q:=r.det r' fun a m=>(hw a ⟨v,A,e,r,m⟩ (f a m).1 (r.here m)).2
  subst q
  exact⟨v,A,e,r,m⟩
 |ptr t=>
  obtain⟨v,A,e,r,nd,f⟩:=h
  obtain⟨v',A',e',r',m⟩:=w
  rw[e]at e';cases e'
  have q:=r.det r' fun a m=>(hw a ⟨v,A,e,r,m⟩ (f a m).1 (r.here m)).2
  subst q
  exact⟨v,A,e,r,m⟩
theorem SI.move (I:SI K B G H σ ρ)(fz:Fz G' H')(fg:Fz G G')(new:∀b o,G' b=some o->B.G b≠none\/B.H b=none)(keep:∀b o,B.H b=some o->(∀i,(i,b)∉B.O)->H' b=some o)(there:∀b,H' b=none->B.H b=none)
  (ow:∀(i:Nat) (s:Sl) (a:Addr),ρ[i]? =some s->OwS K G H σ[i]? a s->G a=none->H a≠none->G' a=none/\H' a=H a):SI K B G' H' σ ρ where
 fz:=fz
 g0:=I.g0.trans fg
 new:=new
 keep:=keep
 there:=there
 len:=I.len
 ob:=I.ob
 slot:=fun i s e=>(I.slot i s e).mono fg fun a w g h=>ow i s a e w g h
 dis:=fun i j s t a n e1 e2 w1 w2=>I.dis i j s t a n e1 e2 ((I.slot i s e1).back (fun a w g h=>ow i s a e1 w g h) w1) ((I.slot j t e2).back (fun a w g h=>ow j t a e2 w g h) w2)
theorem SI.chg (I:SI K B G H σ ρ){ov:Option V}{s':Sl}(fz:Fz G' H')(fg:Fz G G')(new:∀b o,G' b=some o->B.G b≠none\/B.H b=none)(keep:∀b o,B.H b=some o->(∀i,(i,b)∉B.O)->H' b=some o)(there:∀b,H' b=none->B.H b=none)
  (ow:∀(j:Nat) (s:Sl) (a:Addr),j≠i->ρ[j]? =some s->OwS K G H σ[j]? a s->G a=none->H a≠none->G' a=none/\H' a=H a/\¬OwS K G' H' (some ov) a s') (sl:SlotOk K B G' H' i (some ov) s'):SI K B G' H' (σ.set i ov) (ρ.set i s'):=by
 have atI:∀{s},(ρ.set i s')[i]? =some s->s=s'/\(σ.set i ov)[i]? =some ov:=fun{s} e=>by
  rw[List.getElem?_set,if_pos rfl]at e ⊢
  split at e
  ·rename_i h;cases e;rw[if_pos (by rw[I.len];exact h)];exact⟨rfl,rfl⟩
  ·exact cNN e
 have atJ:∀{j s},j≠i->(ρ.set i s')[j]? =some s->ρ[j]? =some s/\(σ.set i ov)[j]? =σ[j]?:=fun{j s} n e=>by
  rw[List.getElem?_set_ne (Ne.symm n)]at e ⊢
  exact⟨e,rfl⟩
 refine⟨fz,I.g0.trans fg,new,keep,there,by rw[List.length_set,List.length_set];exact I.len,I.ob,fun j s e=>?_,fun j k s t a n e1 e2 w1 w2=>?_⟩
 ·by_cases z:j=i
  ·subst z;obtain⟨rfl,q⟩:=atI e;rw[q];exact sl
  ·obtain⟨e1,q⟩:=atJ z e
   rw[q]
   exact(I.slot j s e1).mono fg fun a w g h=>⟨(ow j s a z e1 w g h).1,(ow j s a z e1 w g h).2.1⟩
 ·have one:∀j s,j≠i->(ρ.set i s')[j]? =some s->OwS K G' H' (σ.set i ov)[j]? a s->ρ[j]? =some s/\OwS K G H σ[j]? a s:=fun j s z e w=>by
   obtain⟨e1,q⟩:=atJ z e
   rw[q]at w
   exact⟨e1,(I.slot j s e1).back (fun a w g h=>⟨(ow j s a z e1 w g h).1,(ow j s a z e1 w g h).2.1⟩) w⟩
  by_cases z1:j=i
  ·subst z1
   obtain⟨rfl,q1⟩:=atI e1
   obtain⟨f2,w2⟩:=one k t (Ne.symm n) e2 w2
   obtain⟨o1,o2,_⟩:=(I.slot k t f2).own w2
   rw[q1]at w1
   exact(ow k t a (Ne.symm n) f2 w2 o1 o2).2.2 w1
  ·have p1:=one j s z1 e1 w1
   by_cases z2:k=i
   ·subst z2
    obtain⟨rfl,q2⟩:=atI e2
    obtain⟨o1,o2,_⟩:=(I.slot j s p1.1).own p1.2
    rw[q2]at w2
    exact(ow j s a z1 p1.1 p1.2 o1 o2).2.2 w2
   ·have p2:=one k t z2 e2 w2
    exact I.dis j k s t a n p1.1 p2.1 p1.2 p2.2
theorem SI.nw (I:SI K B G H σ ρ)(hp:H p=none):Nw K G H σ ρ p:=fun i s e w=>((I.slot i s e).own w).2.1 hp
theorem SI.nw_move (I:SI K B G H σ ρ)(n:Nw K G H σ ρ p)(ow:∀(i:Nat) (s:Sl) (a:Addr),ρ[i]? =some s->OwS K G H σ[i]? a s->G a=none->H a≠none->G' a=none/\H' a=H a):Nw K G' H' σ ρ p:=
 fun i s e w=>n i s e ((I.slot i s e).back (fun a w g h=>ow i s a e w g h) w)
theorem SI.allocF (I:SI K B G H σ ρ)(hp:H p=none)(o:HO):SI K B (upd G p o) (upd H p o) σ ρ:=
 I.move (I.fz.upd2 p o) (Fz.new (I.fz.free hp) o) (fun b u e=>by
  by_cases q:b=p
  ·subst q;exact .inr (I.there b hp)
  ·rw[zal q]at e;exact I.new b u e) (fun b u e n=>by
  have q:=I.keep b u e n
  rw[zal (zaJ q hp)];exact q) (fun b e=>by
  by_cases q:b=p
  ·subst q;rw[zar]at e;cases e
  ·rw[zal q]at e;exact I.there b e) (fun i s a _ _ g h=>by
  have q:a≠p:=fun z=>h (by rw[z];exact hp)
  rw[zal q,zal q];exact⟨g,rfl⟩)
theorem SI.allocO (I:SI K B G H σ ρ)(hp:H p=none)(o:HO):SI K B G (upd H p o) σ ρ:=
 I.move (I.fz.right (I.fz.free hp) o) (Fz.refl G) I.new (fun b u e n=>by
  have q:=I.keep b u e n
  rw[zal (zaJ q hp)];exact q) (fun b e=>by
  by_cases q:b=p
  ·subst q;rw[zar]at e;cases e
  ·rw[zal q]at e;exact I.there b e) (fun i s a _ _ g h=>by
  have q:a≠p:=fun z=>h (by rw[z];exact hp)
  rw[zal q];exact⟨g,rfl⟩)
theorem SI.frz (I:SI K B G H σ ρ){o:HO}(hl:H l=some o)(hB:B.H l=none)(hn:Nw K G H σ ρ l)(hg:G l=none):SI K B (upd G l o) H σ ρ:=
 I.move (fun a u q=>by
  by_cases e:a=l
  ·subst e;rw[zar]at q;cases q;exact hl
  ·rw[zal e]at q;exact I.fz a u q) (Fz.new hg o) (fun b u e=>by
  by_cases q:b=l
  ·subst q;exact .inr hB
  ·rw[zal q]at e;exact I.new b u e) I.keep I.there (fun i s a e w g _=>by
  refine⟨?_,rfl⟩
  rw[zal (fun z=>?_)]
  ·exact g
  ·subst z;exact hn i s e w)
theorem SI.set (I:SI K B G H σ ρ)(h:RepD K G v d):SI K B G H (σ.set i (some v)) (ρ.set i (.val d)):=
 I.chg I.fz (Fz.refl G) I.new I.keep I.there (fun _ _ _ _ _ _ g _=>⟨g,rfl,id⟩) ⟨v,rfl,h⟩
theorem SI.setO (I:SI K B G H σ ρ)(hg:G l=none)(hl:H l=some (.lst xs))(h:RepL K G xs ds)(hB:B.H l=none)(hn:Nw K G H σ ρ l):
  SI K B G H (σ.set i (some (.ref l))) (ρ.set i (.own ds)):=
 I.chg I.fz (Fz.refl G) I.new I.keep I.there (fun j s a _ e w g _=>⟨g,rfl,fun z=>by cases(show some (some (V.ref l))=some (some (.ref a))from z);exact hn j s e w⟩) ⟨l,xs,rfl,hg,hl,h,hB⟩
theorem SI.wr (I:SI K B G H σ ρ)(e:ρ[i]? =some s)(q:s.items=some ds):∃l xs,σ[i]? =some (some (.ref l))/\G l=none/\H l=some (.lst xs)/\RepL K G xs ds:=by
 have h:=I.slot i s e
 cases s with
 |emp=>exact cNN q
 |two _ _=>exact cNN q
 |val d=>exact cNN q
 |tre _=>exact cNN q
 |ptr _=>exact cNN q
 |own es=>cases q;obtain⟨l,xs,h1,h2,h3,h4,_⟩:=h;exact⟨l,xs,h1,h2,h3,h4⟩
 |par es=>cases q;obtain⟨l,xs,h1,h2,h3,h4,_⟩:=h;exact⟨l,xs,h1,h2,h3,h4⟩
noncomputable def Sl.put (s:Sl)(ds:List D):Sl:=match s with
 | .own _=> .own ds
 | .par _=> .par ds
 |s=>s
theorem zd7 (q:s.items=some ds):OwS K G H ov a s↔ov=some (some (.ref a)):=by
 cases s with
 |own _=>exact Iff.rfl
 |par _=>exact Iff.rfl
 |_=>exact cNN q
theorem zjr (q:s.items=some ds)(es:List D):(s.put es).items=some es:=by
 cases s with
 |own _=>rfl
 |par _=>rfl
 |_=>exact cNN q
theorem zgW {α:Type}{l:List α}{x:α}(e:l[i]? =some x):l.set i x=l:=by
 obtain⟨h,rfl⟩:=List.getElem?_eq_some_iff.mp e
 exact List.set_getElem_self h
theorem SI.chgW (I:SI K B G H σ ρ){i:Nat}(e:ρ[i]? =some s)(q:s.items=some ds)(hl:σ[i]? =some (some (.ref l)))(fz:Fz G' H')(fg:Fz G G')(nw:∀b o,G' b=some o->G b≠none\/H b=none)
  (kp:∀b o,b≠l->H b=some o->H' b=some o) (gl:G' l=none) (hl':H' l=some (.lst ys)) (r:RepL K G' ys es):SI K B G' H' σ (ρ.set i (s.put es)):=by
 obtain⟨l',xs,e1,e2,e3,e4⟩:=I.wr e q
 rw[hl]at e1;cases e1
 have sl:=I.slot i s e
 have nb:∀b o,B.H b=some o->(∀i,(i,b)∉B.O)->b≠l:=fun b o h1 h2 z=>by
  subst z
  rcases(sl.own ((zd7 q).mpr hl)).2.2 with z|z
  ·rw[h1]at z;cases z
  ·exact h2 i z
 have h:=I.chg (i:=i) (ov:=some (.ref l)) (s':=s.put es) (G':=G') (H':=H') fz fg (fun b o k=>?_) (fun b o k1 k2=>kp b o (nb b o k1 k2) (I.keep b o k1 k2)) (fun b k=>?_) (fun j t a z ej w g ha=>?_) ?_
 ·rwa[zgW hl]at h
 ·rcases nw b o k with h|h
  ·cases q2:G b with
   |none=>exact absurd q2 h
   |some u=>exact I.new b u q2
  ·exact .inr (I.there b h)
 ·refine I.there b ?_
  cases q2:H b with
  |none=>rfl
  |some u=>
   by_cases z:b=l
   ·subst z;rw[hl']at k;cases k
   ·rw[kp b u z q2]at k;cases k
 ·have na:a≠l:=fun w'=>by subst w';exact I.dis j i t s a z ej e w ((zd7 q).mpr hl)
  obtain⟨u,hu⟩:=Option.ne_none_iff_exists'.mp ha
  refine⟨?_,(kp a u na hu).trans hu.symm,fun z=>na ?_⟩
  ·cases q2:G' a with
   |none=>rfl
   |some u=>
    rcases nw a u q2 with z|z
    ·exact absurd g z
    ·exact absurd z ha
  ·cases(zd7 (zjr q es)).mp z;rfl
 ·cases s with
  |own es'=>obtain⟨l',xs',k1,k2,k3,k4,k5⟩:=sl;rw[hl]at k1;cases k1;exact⟨_,ys,rfl,gl,hl',r,k5⟩
  |par es'=>obtain⟨l',xs',k1,k2,k3,k4,k5⟩:=sl;rw[hl]at k1;cases k1;exact⟨_,ys,rfl,gl,hl',r,k5⟩
  |_=>cases q
theorem SI.write (I:SI K B G H σ ρ)(e:ρ[i]? =some s)(q:s.items=some ds)(hl:σ[i]? =some (some (.ref l)))(h:RepL K G ys es):
  SI K B G (upd H l (.lst ys)) σ (ρ.set i (s.put es)):=by
 obtain⟨l',xs,e1,e2,e3,e4⟩:=I.wr e q
 rw[hl]at e1;cases e1
 exact I.chgW e q hl (I.fz.right e2 _) (Fz.refl G) (fun b o k=> .inl (by rw[k];simp)) (fun b o z k=>by rw[zal z];exact k) e2 zar h
theorem SI.freeze (I:SI K B G H σ ρ){i:Nat}(e:ρ[i]? =some (.own ds)):∃l xs,σ[i]? =some (some (.ref l))/\Fz G (upd G l (.lst xs))/\RepD K (upd G l (.lst xs)) (.ref l) (.lst ds)/\
  SI K B (upd G l (.lst xs)) H σ (ρ.set i (.val (.lst ds))):=by
 obtain⟨l,xs,h1,h2,h3,h4,h5⟩:=I.slot i _ e
 have fz:=Fz.new h2 (.lst xs)
 have rep:RepD K (upd G l (.lst xs)) (.ref l) (.lst ds):=⟨l,xs,rfl,zar,h4.mono fz⟩
 refine⟨l,xs,h1,fz,rep,?_⟩
 have h:=I.chg (i:=i) (ov:=some (.ref l)) (s':= .val (.lst ds)) (G':=upd G l (.lst xs)) (H':=H) (fun a u q=>?_) fz (fun b u q=>?_) I.keep I.there (fun j t a z ej w g _=>⟨?_,rfl,id⟩) ⟨.ref l,rfl,rep⟩
 ·rwa[zgW h1]at h
 ·by_cases z:a=l
  ·subst z;rw[zar]at q;cases q;exact h3
  ·rw[zal z]at q;exact I.fz a u q
 ·by_cases z:b=l
  ·subst z;exact .inr h5
  ·rw[zal z]at q;exact I.new b u q
 ·rw[zal (fun q=>by subst q;exact I.dis j i t _ a z ej e w h1)];exact g
end
noncomputable abbrev ME:=R->Option (D×R)
noncomputable abbrev MO:=R->Option (List D×R)
noncomputable abbrev MT:=R->Option (Bool×R)
noncomputable abbrev MA:=R->Option (List D×R)
noncomputable def SEb (X:Cx)(e:Expr)(m:ME)(t:TE):Prop:=∀B G H σ ρ d ρ' (Q:VK),SI X.K B G H σ ρ->m ρ=some (d,ρ')->(∀G' H' v,SI X.K B G' H' σ ρ'->Fz G G'->RepD X.K G' v d->Q v H')->t σ H Q
noncomputable def SE (X:Cx)(e:Expr)(m:ME):Prop:=∃t,PE X e t/\SEb X e m t
theorem SE.el {m:ME}(h:SE X e m)(k:∀t,PE X e t->SEb X e m t->C):C:=h.elim fun t q=>k t q.1 q.2
noncomputable def SOb (X:Cx)(e:Expr)(m:MO)(t:TE):Prop:=∀B G H σ ρ ds ρ' (Q:VK),SI X.K B G H σ ρ->m ρ=some (ds,ρ')->
  (∀G' H' l xs,SI X.K B G' H' σ ρ'->Fz G G'->G' l=none->H' l=some (.lst xs)->RepL X.K G' xs ds->B.H l=none->Nw X.K G' H' σ ρ' l->Q (.ref l) H')->t σ H Q
noncomputable def SO (X:Cx)(e:Expr)(m:MO):Prop:=∃t,PE X e t/\SOb X e m t
theorem SO.el (h:SO X e m)(k:∀t,PE X e t->SOb X e m t->C):C:=h.elim fun t q=>k t q.1 q.2
noncomputable def STtb (X:Cx)(e:Expr)(m:MT)(t:TT):Prop:=∀B G H σ ρ d ρ' (Q:Bool->Hp->Prop),SI X.K B G H σ ρ->m ρ=some (d,ρ')->(∀G' H',SI X.K B G' H' σ ρ'->Fz G G'->Q d H')->t σ H Q
noncomputable def STt (X:Cx)(e:Expr)(m:MT):Prop:=∃t,PT X e t/\STtb X e m t
theorem STt.el {m:MT}(h:STt X e m)(k:∀t,PT X e t->STtb X e m t->C):C:=h.elim fun t q=>k t q.1 q.2
noncomputable def SAb (X:Cx)(es:List Expr)(m:MA)(t:TA):Prop:=∀B G H σ ρ ds ρ' (Q:List V->Hp->Prop),SI X.K B G H σ ρ->m ρ=some (ds,ρ')->(∀G' H' vs,SI X.K B G' H' σ ρ'->Fz G G'->RepL X.K G' vs ds->Q vs H')->t σ H Q
noncomputable def SA (X:Cx)(es:List Expr)(m:MA):Prop:=∃t,PA X es t/\SAb X es m t
theorem SA.el {es:List Expr}{m:MA}(h:SA X es m)(k:∀t,PA X es t->SAb X es m t->C):C:=h.elim fun t q=>k t q.1 q.2
theorem zgK {B:Bs}{σ:St}(I:SI K B G H σ ρ)(hg:G l=none)(hl:H l=some (.lst xs))(h:RepL K G xs ds)(hB:B.H l=none)(hn:Nw K G H σ ρ l):
  SI K B (upd G l (.lst xs)) H σ ρ/\Fz G (upd G l (.lst xs))/\RepD K (upd G l (.lst xs)) (.ref l) (.lst ds):=
 ⟨I.frz hl hB hn hg,Fz.new hg _,⟨l,xs,rfl,zar,h.mono (Fz.new hg _)⟩⟩
noncomputable def eFz (m:MO):ME:=fun ρ=>(m ρ).map fun p=>(.lst p.1,p.2)
theorem SO.se (h:SO X e m):SE X e (eFz m):=by
 refine h.el fun t p s=>?_
 refine⟨t,p,fun B G H σ ρ d ρ' Q I hm k=>?_⟩
 unfold eFz at hm
 cases q:m ρ with
 |none=>rw[q]at hm;exact cNN hm
 |some r=>
  obtain⟨ds,ρ1⟩:=r
  rw[q]at hm
  obtain⟨rfl,rfl⟩:=cSp hm
  refine s B G H σ ρ ds _ Q I q fun G' H' l xs I' fz hg hl hr hB hn=>?_
  obtain⟨I2,f2,r2⟩:=zgK I' hg hl hr hB hn
  exact k _ _ _ I2 (fz.trans f2) r2
noncomputable def eC (d:D):ME:=fun ρ=>some (d,ρ)
noncomputable def eVar (i:Nat):ME:=fun ρ=>match ρ[i]? with
 |some (.val d)=>some (d,ρ)
 |some (.own ds)=>some (.lst ds,ρ.set i (.val (.lst ds)))
 |_=>none
section
variable {X:Cx} {pos:Pos}
theorem zaa (i:Nat){x:Str}(hN:autoParam (X.N[i]? =some x) zu3._auto_1)(hv:autoParam (Vis X.env.scope x) zu5._auto_1)(hd:autoParam ((x==("__debug__":Str))=false) zu1._auto_1)
  (hcd:autoParam ((x==("__classdict__":Str))=false) zu1._auto_1):SE X (.Name x pos) (eVar i):=by
 refine⟨_,zb3 hN hv hd hcd,fun B G H σ ρ d ρ' Q I hm k=>?_⟩
 unfold eVar at hm
 cases e:ρ[i]? with
 |none=>rw[e]at hm;exact cNN hm
 |some s=>
  rw[e]at hm
  cases s with
  |emp=>exact cNN hm
  |two _ _=>exact cNN hm
  |tre _=>exact cNN hm
  |ptr _=>exact cNN hm
  |par ds=>exact cNN hm
  |val d'=>
   obtain⟨rfl,rfl⟩:=cSp hm
   obtain⟨v,h1,h2⟩:=I.slot i _ e
   exact⟨v,h1,k G H v I (Fz.refl G) h2⟩
  |own ds=>
   obtain⟨rfl,rfl⟩:=cSp hm
   obtain⟨l,xs,h1,f,r,I'⟩:=I.freeze e
   exact⟨.ref l,h1,k _ H _ I' f r⟩
theorem zah {i:Int}{j}:SE X (.Constant (.int i) j pos) (eC (.int i)):=⟨_,pe_int,fun B G H σ ρ d ρ' Q I hm k=>by obtain⟨rfl,rfl⟩:=cSp hm;exact k G H _ I (Fz.refl G) rfl⟩
theorem zji {j}:SE X (.Constant (.bool b) j pos) (eC (.bl b)):=⟨_,pe_bl,fun B G H σ ρ d ρ' Q I hm k=>by obtain⟨rfl,rfl⟩:=cSp hm;exact k G H _ I (Fz.refl G) rfl⟩
theorem se_non {j}:SE X (.Constant .none j pos) (eC .non):=⟨_,pe_non,fun B G H σ ρ d ρ' Q I hm k=>by obtain⟨rfl,rfl⟩:=cSp hm;exact k G H _ I (Fz.refl G) rfl⟩
theorem se_str {x:Str}{j}:SE X (.Constant (.str x) j pos) (eC (.str x)):=⟨_,pe_str,fun B G H σ ρ d ρ' Q I hm k=>by obtain⟨rfl,rfl⟩:=cSp hm;exact k G H _ I (Fz.refl G) rfl⟩
end
noncomputable def aNil:MA:=fun ρ=>some ([],ρ)
noncomputable def zaf (m:ME)(r:MA):MA:=fun ρ=>(m ρ).bind fun p=>(r p.2).map fun q=>(p.1::q.1,q.2)
section
variable {X:Cx} {e:Expr} {es:List Expr} {m:ME} {r:MA}
theorem zag:SA X [] aNil:=⟨_,zjy,fun B G H σ ρ ds ρ' Q I hm k=>by obtain⟨rfl,rfl⟩:=cSp hm;exact k G H [] I (Fz.refl G) .nil⟩
theorem zab (h:SE X e m)(hr:SA X es r)(hs:autoParam (starEach (e::es) X.env=(false,eval e X.env)::starEach es X.env) zu3._auto_1):SA X (e::es) (zaf m r):=by
 refine h.el fun t p s=>?_
 refine hr.el fun u q z=>?_
 refine⟨_,zgf p q hs,fun B G H σ ρ ds ρ' Q I hm k=>?_⟩
 unfold zaf at hm
 cases e1:m ρ with
 |none=>rw[e1]at hm;exact cNN hm
 |some a=>
  obtain⟨d,ρ1⟩:=a
  rw[e1]at hm
  cases e2:r ρ1 with
  |none=>simp[e2]at hm
  |some b=>
   obtain⟨es',ρ2⟩:=b
   simp only[Option.bind_some,e2,Option.map_some,Option.some.injEq,Prod.mk.injEq]at hm
   obtain⟨rfl,rfl⟩:=hm
   exact s B G H σ ρ d ρ1 _ I e1 fun G1 H1 v I1 f1 r1=>z B G1 H1 σ ρ1 es' ρ2 _ I1 e2 fun G2 H2 vs I2 f2 r2=>k G2 H2 (v::vs) I2 (f1.trans f2) (.cons (r1.mono f2) r2)
end
noncomputable def V2 (X:Cx)(r:R2)(f:D->D->Option D):Prop:=∀B G H σ ρ x y a b d (Q:VK),SI X.K B G H σ ρ->RepD X.K G x a->RepD X.K G y b->f a b=some d->(∀G' H' v,SI X.K B G' H' σ ρ->Fz G G'->RepD X.K G' v d->Q v H')->r x y H Q
noncomputable def V1 (X:Cx)(r:V->Hp->VK->Prop)(f:D->Option D):Prop:=∀B G H σ ρ x a d (Q:VK),SI X.K B G H σ ρ->RepD X.K G x a->f a=some d->(∀G' H' v,SI X.K B G' H' σ ρ->Fz G G'->RepD X.K G' v d->Q v H')->r x H Q
noncomputable def VC (X:Cx)(r:List V->Hp->VK->Prop)(f:List D->Option D):Prop:=∀B G H σ ρ xs ds d (Q:VK),SI X.K B G H σ ρ->RepL X.K G xs ds->f ds=some d->(∀G' H' v,SI X.K B G' H' σ ρ->Fz G G'->RepD X.K G' v d->Q v H')->r xs H Q
noncomputable def m2 (f:D->D->Option D)(ma mb:ME):ME:=fun ρ=>(ma ρ).bind fun p=>(mb p.2).bind fun q=>(f p.1 q.1).map fun d=>(d,q.2)
noncomputable def m1 (f:D->Option D)(ma:ME):ME:=fun ρ=>(ma ρ).bind fun p=>(f p.1).map fun d=>(d,p.2)
noncomputable def mC (f:List D->Option D)(ma:MA):ME:=fun ρ=>(ma ρ).bind fun p=>(f p.1).map fun d=>(d,p.2)
theorem m2_inv {ma mb:ME}(h:m2 f ma mb ρ=some (d,ρ')):∃a ρ1 b,ma ρ=some (a,ρ1)/\mb ρ1=some (b,ρ')/\f a b=some d:=by
 unfold m2 at h
 cases e1:ma ρ with
 |none=>rw[e1]at h;exact cNN h
 |some p=>
  obtain⟨a,ρ1⟩:=p
  rw[e1]at h
  cases e2:mb ρ1 with
  |none=>simp[e2]at h
  |some q=>
   obtain⟨b,ρ2⟩:=q
   simp only[Option.bind_some,e2]at h
   cases e3:f a b with
   |none=>rw[e3]at h;exact cNN h
   |some c=>rw[e3]at h;obtain⟨rfl,rfl⟩:=cSp h;exact⟨a,ρ1,b,rfl,e2,e3⟩
theorem m1_inv {f:D->Option D}(h:m1 f ma ρ=some (d,ρ')):∃a,ma ρ=some (a,ρ')/\f a=some d:=by
 unfold m1 at h
 cases e1:ma ρ with
 |none=>rw[e1]at h;exact cNN h
 |some p=>
  obtain⟨a,ρ1⟩:=p
  rw[e1]at h
  simp only[Option.bind_some]at h
  cases e3:f a with
  |none=>rw[e3]at h;exact cNN h
  |some c=>rw[e3]at h;obtain⟨rfl,rfl⟩:=cSp h;exact⟨a,rfl,e3⟩
theorem mC_inv {f:List D->Option D}{ma:MA}(h:mC f ma ρ=some (d,ρ')):∃a,ma ρ=some (a,ρ')/\f a=some d:=by
 unfold mC at h
 cases e1:ma ρ with
 |none=>rw[e1]at h;exact cNN h
 |some p=>
  obtain⟨a,ρ1⟩:=p
  rw[e1]at h
  simp only[Option.bind_some]at h
  cases e3:f a with
  |none=>rw[e3]at h;exact cNN h
  |some c=>rw[e3]at h;obtain⟨rfl,rfl⟩:=cSp h;exact⟨a,rfl,e3⟩
section
variable {X:Cx} {a b:Expr} {ma mb:ME} {pos:Pos} {f:D->D->Option D}
theorem zlm {r:R2}{ta tb:TE}(hv:V2 X r f)
  (sa:∀B G H σ ρ d ρ' (Q:VK),SI X.K B G H σ ρ->ma ρ=some (d,ρ')->(∀G' H' v,SI X.K B G' H' σ ρ'->Fz G G'->RepD X.K G' v d->Q v H')->ta σ H Q)
  (sb:∀B G H σ ρ d ρ' (Q:VK),SI X.K B G H σ ρ->mb ρ=some (d,ρ')->(∀G' H' v,SI X.K B G' H' σ ρ'->Fz G G'->RepD X.K G' v d->Q v H')->tb σ H Q):
  ∀B G H σ ρ d ρ' (Q:VK),SI X.K B G H σ ρ->m2 f ma mb ρ=some (d,ρ')->(∀G' H' v,SI X.K B G' H' σ ρ'->Fz G G'->RepD X.K G' v d->Q v H')->tOp r ta tb σ H Q:=by
 intro B G H σ ρ d ρ' Q I hm k
 obtain⟨x,ρ1,y,e1,e2,e3⟩:=m2_inv hm
 exact sa B G H σ ρ x ρ1 _ I e1 fun G1 H1 v I1 f1 r1=>sb B G1 H1 σ ρ1 y ρ' _ I1 e2 fun G2 H2 u I2 f2 r2=>
  hv B G2 H2 σ ρ' v u x y d Q I2 (r1.mono f2) r2 e3 fun G3 H3 z I3 f3 r3=>k G3 H3 z I3 (f1.trans (f2.trans f3)) r3
theorem zgZ {r:R2}(ho:OpR X (binaryOp op) r)(hv:V2 X r f)(ha:SE X a ma)(hb:SE X b mb):SE X (.BinOp a op b pos) (m2 f ma mb):=by
 refine ha.el fun ta pa sa=>?_
 refine hb.el fun tb pb sb=>?_
 exact⟨_,pe_op ho pa pb,zlm hv sa sb⟩
theorem se_cmp {op:CmpOp}{r:R2}(ho:OpR X (compareOp op) r)(hv:V2 X r f)(ha:SE X a ma)(hb:SE X b mb)(hm:behindInMarks op b=false):SE X (.Compare a [op] [b] pos) (m2 f ma mb):=by
 refine ha.el fun ta pa sa=>?_
 refine hb.el fun tb pb sb=>?_
 exact⟨_,pe_cmpR ho pa pb hm,zlm hv sa sb⟩
theorem se_un {op:UnaryOp}(ho:UnR X (unaryOp op) r)(hv:V1 X r g)(ha:SE X a ma):SE X (.UnaryOp op a pos) (m1 g ma):=by
 refine ha.el fun ta pa sa=>?_
 refine⟨_,pe_un ho pa,fun B G H σ ρ d ρ' Q I hm k=>?_⟩
 obtain⟨x,e1,e2⟩:=m1_inv hm
 exact sa B G H σ ρ x ρ' _ I e1 fun G1 H1 v I1 f1 r1=>hv B G1 H1 σ ρ' v x d Q I1 r1 e2 fun G2 H2 z I2 f2 r2=>k G2 H2 z I2 (f1.trans f2) r2
theorem se_ix {r:R2}(hr:IxR X r)(hv:V2 X r f)(ha:SE X a ma)(hb:SE X b mb)(hs:ziY b):SE X (.Subscript a b pos) (m2 f ma mb):=by
 refine ha.el fun ta pa sa=>?_
 refine hb.el fun tb pb sb=>?_
 exact⟨_,pe_ix hr pa pb hs,zlm hv sa sb⟩
end
section
variable {X:Cx} {x:Str} {p pos:Pos} {e:Expr} {es:List Expr} {ma:MA} {id T:String} {r:List V->Hp->VK->Prop} {f:List D->Option D}
theorem soundC {t:TA}(hv:VC X r f)(sa:∀B G H σ ρ ds ρ' (Q:List V->Hp->Prop),SI X.K B G H σ ρ->ma ρ=some (ds,ρ')->(∀G' H' vs,SI X.K B G' H' σ ρ'->Fz G G'->RepL X.K G' vs ds->Q vs H')->t σ H Q):
  ∀B G H σ ρ d ρ' (Q:VK),SI X.K B G H σ ρ->mC f ma ρ=some (d,ρ')->(∀G' H' v,SI X.K B G' H' σ ρ'->Fz G G'->RepD X.K G' v d->Q v H')->tCB r t σ H Q:=by
 intro B G H σ ρ d ρ' Q I hm k
 obtain⟨ds,e1,e2⟩:=mC_inv hm
 exact sa B G H σ ρ ds ρ' _ I e1 fun G1 H1 vs I1 f1 r1=>hv B G1 H1 σ ρ' vs ds d Q I1 r1 e2 fun G2 H2 z I2 f2 r2=>k G2 H2 z I2 (f1.trans f2) r2
theorem zda (hc:zeo X (.builtin id) r)(hv:VC X r f)(hb:bootBuiltins x=some (.builtin id))(hm:X.mg x=none)(ha:SA X (e::es) ma)(hg:autoParam (Gl X x) zu3._auto_1)(hn:autoParam (x≠"__name__") zu1._auto_1)(hdb:autoParam ((x==("__debug__":Str))=false) zu1._auto_1)
  (he:autoParam (starEach (e::es) X.env=(false,eval e X.env)::starEach es X.env) zu3._auto_1) (hpl:autoParam ((backTo pos (starEach es X.env)).any (·.1)=false) zu3._auto_1):SE X (.Call (.Name x p) (e::es) [] pos) (mC f ma):=by
 refine ha.el fun t pa sa=>?_
 exact⟨_,zlV hc hg hm hb pa hn hdb he hpl,soundC hv sa⟩
theorem zj2 (hc:zeo X (.type T) r)(hv:VC X r f)(hb:bootBuiltins x=some (.type T))(hm:X.mg x=none)(ha:SA X (e::es) ma)(hg:autoParam (Gl X x) zu3._auto_1)(hn:autoParam (x≠"__name__") zu1._auto_1)(hdb:autoParam ((x==("__debug__":Str))=false) zu1._auto_1)
  (he:autoParam (starEach (e::es) X.env=(false,eval e X.env)::starEach es X.env) zu3._auto_1) (hpl:autoParam ((backTo pos (starEach es X.env)).any (·.1)=false) zu3._auto_1):SE X (.Call (.Name x p) (e::es) [] pos) (mC f ma):=by
 refine ha.el fun t pa sa=>?_
 exact⟨_,zf0 hc hg hm hb pa hn hdb he hpl,soundC hv sa⟩
end
end M
namespace M
open L2 PySem PySem.Spec
open PyProof.Rows hiding St
variable {v:V} {ds cs out:List D} {p pos pos':Pos} {xs vs ys:List V} {c:Int->Int->Bool} {g:D->R->Option R} {x qual:Str} {d:D} {C:Prop} {X:Cx} {a b e tg it:Expr} {ma:MA} {k i j n t:Nat} {K:W.Frag} {G H H' G' Hc Gc:Hp} {us its:List Value} {u:Value} {A:Around} {B:Bs} {σ σc:St} {ρ ρ':R} {s:Sl} {Q E:Value->Shared->Prop} {f:D->R->Option (Option D×R)} {op:CmpOp} {m:MS} {mc:MT} {tgs es ifs:List Expr} {h:List D->R->Option R} {body:List Stmt} {l DD:Addr} {N ps:List Str} {fd:FuncData} {env:Env} {scope:Scope} {cl:List (Str×Addr)} {h':Heap} {prog:Program} {w:World} {use:Option (Value->Sem Unit)} {ov:Option (Option V)} {cap:List Nat} {o:Option D} {O:List (Nat×Addr)} {tg':Addr->Shared->Hp->List Addr->TG} {tt:Addr->Shared->Hp->List Addr->TT} {te:Addr->Shared->Hp->List Addr->TE} {JJ:Hp->Hp->St->R->Prop} {wi:TI} {ns:List Int}
section
variable {X:Cx} {K:W.Frag} {B:Bs} {G H:Hp} {σ:St} {ρ:R}
theorem SI.lst (I:SI K B G H σ ρ)(h:RepD K G v (.lst ds)):∃a xs,v= .ref a/\H a=some (.lst xs)/\RepL K G xs ds:=by
 obtain⟨a,xs,e,q,r⟩:=h
 exact⟨a,xs,e,I.fz a _ q,r⟩
theorem SI.tup (I:SI K B G H σ ρ)(h:RepD K G v (.tup ds)):∃a xs,v= .ref a/\H a=some (.tup xs)/\RepL K G xs ds:=by
 obtain⟨a,xs,e,q,r⟩:=h
 exact⟨a,xs,e,I.fz a _ q,r⟩
theorem SI.newT (I:SI K B G H σ ρ){p:Addr}(hp:H p=none)(h:RepL K G xs ds):SI K B (upd G p (.tup xs)) (upd H p (.tup xs)) σ ρ/\Fz G (upd G p (.tup xs))/\RepD K (upd G p (.tup xs)) (.ref p) (.tup ds):=
 ⟨I.allocF hp _,Fz.new (I.fz.free hp) _,⟨p,xs,rfl,zar,h.mono (Fz.new (I.fz.free hp) _)⟩⟩
theorem SI.newL (I:SI K B G H σ ρ){p:Addr}(hp:H p=none)(h:RepL K G xs ds):SI K B (upd G p (.lst xs)) (upd H p (.lst xs)) σ ρ/\Fz G (upd G p (.lst xs))/\RepD K (upd G p (.lst xs)) (.ref p) (.lst ds):=
 ⟨I.allocF hp _,Fz.new (I.fz.free hp) _,⟨p,xs,rfl,zar,h.mono (Fz.new (I.fz.free hp) _)⟩⟩
end
noncomputable def dI2 (c:Int->Int->Bool)(g:Int->Int->D):D->D->Option D
 | .int i,.int j=>if c i j then some (g i j)else none
 |_,_=>none
theorem zlZ {g:Int->Int->D}{x y d:D}(h:dI2 c g x y=some d)(k:∀i j,x= .int i->y= .int j->c i j=true->g i j=d->C):C:=by
 cases x with
 |int i=>cases y with
  |int j=>exact cIte h fun z h=>k i j rfl rfl z (Option.some.inj h)
  |_=>exact cNN h
 |_=>exact cNN h
theorem zgJ {C:Int->Int->Prop}{g:Int->Int->Int}(hc:∀i j,c i j=true->C i j):V2 X (rI C fun i j=> .int (g i j)) (dI2 c fun i j=> .int (g i j)):=fun B G H σ ρ x y a b d Q I ra rb hf k=>zlZ hf fun i j ea eb h ed=>by
 subst ea eb ed
 exact⟨i,j,ra,rb,hc i j h,k G H _ I (Fz.refl G) rfl⟩
theorem zmT {g:Int->Int->Int}:V2 X (rI0 fun i j=> .int (g i j)) (dI2 (fun _ _=>true) fun i j=> .int (g i j)):=fun B G H σ ρ x y a b d Q I ra rb hf k=>zlZ hf fun i j ea eb h ed=>by
 subst ea eb ed
 exact⟨i,j,ra,rb,k G H _ I (Fz.refl G) rfl⟩
theorem zoc {g:Int->Int->Bool}:V2 X (rI0 fun i j=> .bl (g i j)) (dI2 (fun _ _=>true) fun i j=> .bl (g i j)):=fun B G H σ ρ x y a b d Q I ra rb hf k=>zlZ hf fun i j ea eb h ed=>by
 subst ea eb ed
 exact⟨i,j,ra,rb,k G H _ I (Fz.refl G) rfl⟩
noncomputable def dSub:D->D->Option D:=dI2 (fun _ _=>true) fun i j=> .int (i-j)
noncomputable def divOk (j:Int):Bool:=decide (0<j)&&decide (j.natAbs.log2<9000)
theorem op_fdivW:OpR X (binaryOp .FloorDiv) (rI (fun _ j=>0<j/\j.natAbs.log2<9000) fun i j=> .int (i/j)):=opI fun i j _ _ _ _ _ hc q=>by
 have h1:(0:Int)<j:=hc.1
 exact PyProof.Rows.floordiv_int (by lia) (by rw[Int.fdiv_eq_ediv_of_nonneg i (by lia)];exact q) (.inl (PyProof.noPylong_of_log2 hc.2))
noncomputable def dDiv:D->D->Option D:=dI2 (fun _ j=>divOk j) fun i j=> .int (i/j)
noncomputable def dMod:D->D->Option D:=dI2 (fun _ j=>decide (0<j)) fun i j=> .int (i%j)
noncomputable def dPow:D->D->Option D:=dI2 (fun i j=>decide (0<=j)&&decide (j<=1000000)&&decide (i.natAbs<2^64)) fun i j=> .int (i^j.toNat)
noncomputable def dShl:D->D->Option D:=dI2 (fun i j=>decide (0<=j)&&decide (j<=1000000)&&decide (i.natAbs<2^64)) fun i j=> .int (i*2^j.toNat)
noncomputable def dShr:D->D->Option D:=dI2 (fun _ j=>decide (0<=j)) fun i j=> .int (i/2^j.toNat)
noncomputable def dAnd:D->D->Option D:=dI2 (fun _ _=>true) fun i j=> .int (Builtin.bitAnd i j)
noncomputable def dLt:D->D->Option D:=dI2 (fun _ _=>true) fun i j=> .bl (decide (i<j))
noncomputable def dGt:D->D->Option D:=dI2 (fun _ _=>true) fun i j=> .bl (decide (j<i))
noncomputable def dGe:D->D->Option D:=dI2 (fun _ _=>true) fun i j=> .bl (decide (j<=i))
section
variable {X:Cx} {a b:Expr} {ma mb:ME} {pos:Pos}
theorem zee (ha:SE X a ma)(hb:SE X b mb):SE X (.BinOp a .Sub b pos) (m2 dSub ma mb):=zgZ op_sub zmT ha hb
theorem se_div (ha:SE X a ma)(hb:SE X b mb):SE X (.BinOp a .FloorDiv b pos) (m2 dDiv ma mb):=zgZ op_fdivW (zgJ fun i j h=>by simpa[divOk]using h) ha hb
theorem zgD (ha:SE X a ma)(hb:SE X b mb):SE X (.BinOp a .Mod b pos) (m2 dMod ma mb):=zgZ op_mod (zgJ fun i j h=>by simpa using h) ha hb
theorem zeI (ha:SE X a ma)(hb:SE X b mb):SE X (.BinOp a .Pow b pos) (m2 dPow ma mb):=zgZ op_pow (zgJ fun i j h=>by simp only[Bool.and_eq_true,decide_eq_true_eq]at h;exact⟨h.1.1,h.1.2,h.2⟩) ha hb
theorem se_shl (ha:SE X a ma)(hb:SE X b mb):SE X (.BinOp a .LShift b pos) (m2 dShl ma mb):=zgZ op_shl (zgJ fun i j h=>by simp only[Bool.and_eq_true,decide_eq_true_eq]at h;exact⟨h.1.1,h.1.2,h.2⟩) ha hb
theorem se_shr (ha:SE X a ma)(hb:SE X b mb):SE X (.BinOp a .RShift b pos) (m2 dShr ma mb):=zgZ op_shr (zgJ fun i j h=>by simpa using h) ha hb
theorem ziD (ha:SE X a ma)(hb:SE X b mb):SE X (.BinOp a .BitAnd b pos) (m2 dAnd ma mb):=zgZ op_and zmT ha hb
end
noncomputable def dNeg:D->Option D
 | .int i=>some (.int (-i))
 |_=>none
theorem zlB {ma:ME}(ha:SE X a ma):SE X (.UnaryOp .USub a pos) (m1 dNeg ma):=
 se_un un_neg (fun B G H σ ρ x a d Q I ra hf k=>by
  cases a<;>simp only[dNeg]at hf<;>try cases hf
  exact⟨_,ra,k G H _ I (Fz.refl G) rfl⟩) ha
noncomputable def zie (i j:Int):Bool:=(decide (i.natAbs<2^64)||decide (j.natAbs<2^64))||(decide (i.natAbs<2^4000)&&decide (j.natAbs<2^4000))
noncomputable def dMul:D->D->Option D
 | .int i,.int j=>if zie i j then some (.int (i*j))else none
 | .lst ds,.int k=>if decide (-1000000<=k)&&decide (k<=1000000)&&decide (ds.length*k.toNat<=1000000)then some (.lst (List.replicate k.toNat ds).flatten)else none
 |_,_=>none
theorem zit {k:Int}(h:k.natAbs<2^4000):Builtin.Int.intBits k<=4000:=by
 unfold Builtin.Int.intBits
 split
 ·exact Nat.zero_le _
 ·have:k.natAbs.log2<4000:=by
   rcases Nat.eq_zero_or_pos k.natAbs with h0|hp
   ·rw[h0];decide
   ·exact(Nat.log2_lt (Nat.ne_of_gt hp)).mpr h
  lia
theorem mulOk_ok {i j:Int}(h:zie i j=true):IntMulOk i j:=by
 unfold zie at h
 simp only[Bool.or_eq_true,Bool.and_eq_true,decide_eq_true_eq]at h
 rcases h with(h|h)|⟨h1,h2⟩
 ·exact .of_left (intBits_le_64 (by lia) (by lia))
 ·exact .of_right (intBits_le_64 (by lia) (by lia))
 ·have b1:=zit h1
  have b2:=zit h2
  unfold IntMulOk
  intro z
  simp only[Bool.and_eq_true]at z
  have z2:=z.2
  unfold Builtin.Int.intTooBig at z2
  revert z2
  generalize Builtin.Int.intBits i=p at*
  generalize Builtin.Int.intBits j=q at*
  intro z2
  have z3:=of_decide_eq_true z2
  have hb:=bitsLine_eq
  lia
theorem op_mulG:OpR X (binaryOp .Mult) (rI IntMulOk fun i j=> .int (i*j)):=opI fun _ _ _ _ _ _ _ hc q=>mul_int q hc
theorem zbL {ma mb:ME}(ha:SE X a ma)(hb:SE X b mb):SE X (.BinOp a .Mult b pos) (m2 dMul ma mb):=by
 refine zgZ (op_mulG.or op_rep) (fun B G H σ ρ x y a b d Q I ra rb hf k=>?_) ha hb
 cases a with
 |int i=>cases b with
  |int j=>
   refine cIte hf fun h hf=>?_
   obtain rfl:=Option.some.inj hf
   exact .inl ⟨i,j,ra,rb,mulOk_ok h,k G H _ I (Fz.refl G) rfl⟩
  |_=>exact cNN hf
 |lst ds=>cases b with
  |int j=>
   refine cIte hf fun h hf=>?_
   obtain rfl:=Option.some.inj hf
   simp only[Bool.and_eq_true,decide_eq_true_eq]at h
   obtain⟨a,xs,rfl,ha,r⟩:=I.lst ra
   have hl:=r.length
   refine .inr ⟨a,j,xs,rfl,rb,ha,by lia,by lia,by rw[hl,sizeLine_eq];lia,fun p hp=>?_⟩
   obtain⟨I2,f2,r2⟩:=I.newL hp (r.rep j.toNat)
   exact k _ _ _ I2 f2 r2
  |_=>exact cNN hf
 |_=>exact cNN hf
noncomputable def dAdd:D->D->Option D
 | .int i,.int j=>some (.int (i+j))
 | .tup a,.tup b=>if a.length+b.length<=16777216 then some (.tup (a++b))else none
 | .lst a,.lst b=>if a.length+b.length<=16777216 then some (.lst (a++b))else none
 | .str a,.str b=>if a.length+b.length<=16777216 then some (.str (a++b))else none
 |_,_=>none
theorem op_catT0:OpR X (binaryOp .Add) (fun x y H Q=>∃a b ys,x= .ref a/\y= .ref b/\SqT X.K H a []/\SqT X.K H b ys/\Q (.ref b) H):=by
 intro pins s σ H x y v u Q I rx ry h
 obtain⟨a,b,ys,rfl,rfl,ha,hb,q⟩:=h
 cases rx
 cases ry
 obtain⟨its,r1,p1,_⟩:=I.tuple ha
 obtain⟨its2,r2,p2,_⟩:=I.tuple hb
 obtain rfl:its=[]:=by cases r1;rfl
 obtain⟨⟨cls,dd,data,sl⟩,ho,hc,n,hd⟩:=id p1
 obtain⟨⟨cls2,dd2,data2,sl2⟩,ho2,hc2,n2,hd2⟩:=id p2
 simp only at hc hd hc2 hd2
 subst hc hd hc2 hd2
 exact concat_meets ⟨_,ho,rfl⟩ ⟨_,ho2,rfl⟩ noFill_tuple_add seq_tuple_add PySem.F.slot_tuple_add PySem.F.entry_tuple_add (PySem.F.args_tuple_add_2 _ _)
   (tuple_addW0 a b _ _ n n2 dd dd2 sl sl2 (by simp)) ⟨ho,ho2,⟨.ref b,H,I,rfl,q⟩⟩
theorem zbz {ma mb:ME}(ha:SE X a ma)(hb:SE X b mb):SE X (.BinOp a .Add b pos) (m2 dAdd ma mb):=by
 refine zgZ (op_add.or (op_catT.or (op_catT0.or (op_cat.or zmC)))) (fun B G H σ ρ x y a b d Q I ra rb hf k=>?_) ha hb
 cases a with
 |int i=>cases b with
  |int j=>obtain rfl:=Option.some.inj hf;exact .inl ⟨_,_,ra,rb,k G H _ I (Fz.refl G) rfl⟩
  |_=>exact cNN hf
 |str i=>cases b with
  |str j=>
   refine cIte hf fun h hf=>?_
   obtain rfl:=Option.some.inj hf
   exact .inr (.inr (.inr (.inr ⟨i,j,ra,rb,by rw[sizeLine_eq];exact h,k G H _ I (Fz.refl G) rfl⟩)))
  |_=>exact cNN hf
 |lst as=>cases b with
  |lst bs=>
   refine cIte hf fun h hf=>?_
   obtain rfl:=Option.some.inj hf
   obtain⟨a,xs,rfl,ha,r⟩:=I.lst ra
   obtain⟨b,ys,rfl,hb,r2⟩:=I.lst rb
   refine .inr (.inr (.inr (.inl ⟨a,b,xs,ys,rfl,rfl,ha,hb,by rw[r.length,r2.length,sizeLine_eq];exact h,fun p hp=>?_⟩)))
   obtain⟨I2,f2,r2⟩:=I.newL hp (r.append r2)
   exact k _ _ _ I2 f2 r2
  |_=>exact cNN hf
 |tup as=>cases b with
  |tup bs=>
   refine cIte hf fun h hf=>?_
   obtain rfl:=Option.some.inj hf
   obtain⟨a,xs,rfl,ha,r⟩:=I.tup ra
   obtain⟨b,ys,rfl,hb,r2⟩:=I.tup rb
   by_cases z:xs=[]
   ·subst z
    have z':as=[]:=List.eq_nil_of_length_eq_zero r.length.symm
    subst z'
    exact .inr (.inr (.inl ⟨a,b,ys,rfl,rfl,SqT.of ha,SqT.of hb,k G H _ I (Fz.refl G) rb⟩))
   ·refine .inr (.inl ⟨a,b,xs,ys,rfl,rfl,SqT.of ha,SqT.of hb,z,by rw[r.length,r2.length,sizeLine_eq];exact h,fun w=>?_,fun w p hp=>?_⟩)
    ·subst w
     have w':bs=[]:=List.eq_nil_of_length_eq_zero r2.length.symm
     subst w'
     rw[List.append_nil]at k
     exact k G H _ I (Fz.refl G) ra
    ·obtain⟨I2,f2,r2⟩:=I.newT hp (r.append r2)
     exact k _ _ _ I2 f2 r2
  |_=>exact cNN hf
 |_=>exact cNN hf
mutual
noncomputable def noS:D->Bool
 | .scr _=>false
 | .exc _=>false
 | .dic _ _=>false
 | .dit _ _=>false
 | .obj _ _ _ _ _=>false
 | .lst ds=>noSL ds
 | .tup ds=>noSL ds
 |_=>true
noncomputable def noSL:List D->Bool
 |[]=>true
 |d::ds=>noS d&&noSL ds
end
mutual
noncomputable def eqB:D->D->Bool
 | .non,.non=>true
 | .bl a,.bl b=>a==b
 | .int a,.int b=>a==b
 | .str a,.str b=>a==b
 | .bl a,.int b=>(if a then 1 else 0)==b
 | .int a,.bl b=>a==(if b then 1 else 0)
 | .lst a,.lst b=>eqBL a b
 | .tup a,.tup b=>eqBL a b
 |_,_=>false
noncomputable def eqBL:List D->List D->Bool
 |[],[]=>true
 |a::as,b::bs=>eqB a b&&eqBL as bs
 |_,_=>false
end
theorem zf4:∀{as bs:List D},as.length≠bs.length->eqBL as bs=false
 |[],[],h=>absurd rfl h
 |[],_::_,_=>rfl
 |_::_,[],_=>rfl
 |a::as,b::bs,h=>by
  have:=zf4 (as:=as) (bs:=bs) (fun e=>h (by simp[e]))
  simp[eqBL,this]
mutual
theorem ziI:∀d,noS d=true->eqB d d=true
 | .non,_=>rfl
 | .bl b,_=>by simp[eqB]
 | .int b,_=>by simp[eqB]
 | .str b,_=>by simp[eqB]
 | .lst ds,h=>by simp only[noS]at h;simp only[eqB];exact zhi ds h
 | .tup ds,h=>by simp only[noS]at h;simp only[eqB];exact zhi ds h
 | .scr _,h=>by simp[noS]at h
 | .exc _,h=>by simp[noS]at h
 |(.dic _ _),h=>by simp[noS]at h
 |(.dit _ _),h=>by simp[noS]at h
 |(.obj _ _ _ _ _),h=>by simp[noS]at h
theorem zhi:∀ds,noSL ds=true->eqBL ds ds=true
 |[],_=>rfl
 |d::ds,h=>by
  simp only[noSL,Bool.and_eq_true]at h
  simp only[eqBL,Bool.and_eq_true]
  exact⟨ziI d h.1,zhi ds h.2⟩
end
mutual
noncomputable def depth:D->Nat
 | .lst ds=>zfC ds+1
 | .tup ds=>zfC ds+1
 |_=>0
noncomputable def zfC:List D->Nat
 |[]=>0
 |d::ds=>max (depth d) (zfC ds)
end
theorem zil:∀{l:List D} {i:Nat} {d:D},l[i]? =some d->depth d<=zfC l
 |[],_,_,h=>by simp at h
 |c::l,0,d,h=>by simp at h;subst h;simp only[zfC];lia
 |c::l,i+1,d,h=>by
  have:=zil (l:=l) (i:=i) (d:=d) (by simpa using h)
  simp only[zfC];lia
theorem zfT:∀{l:List D} {i:Nat} {d:D},l[i]? =some d->noSL l=true->noS d=true
 |[],_,_,h,_=>by simp at h
 |c::l,0,d,h,z=>by simp at h;subst h;simp only[noSL,Bool.and_eq_true]at z;exact z.1
 |c::l,i+1,d,h,z=>by simp only[noSL,Bool.and_eq_true]at z;exact zfT (l:=l) (i:=i) (by simpa using h) z.2
mutual
theorem RepD.inj:∀{a b:D} {x:V},noS a=true->noS b=true->RepD K G x a->RepD K G x b->a=b
 | .non,b,x,_,nb,ra,rb=>by
  cases(show x=V.non from ra)
  cases b<;>simp_all [RepD,noS]
 | .bl c,b,x,_,nb,ra,rb=>by
  cases(show x=V.bl c from ra)
  cases b<;>simp_all [RepD,noS]
 | .int c,b,x,_,nb,ra,rb=>by
  cases(show x=V.int c from ra)
  cases b<;>simp_all [RepD,noS]
 | .str c,b,x,_,nb,ra,rb=>by
  cases(show x=V.str c from ra)
  cases b<;>simp_all [RepD,noS]
 | .lst ds,b,x,na,nb,ra,rb=>by
  obtain⟨p,xs,rfl,q,r⟩:=ra
  cases b with
  |lst es=>
   obtain⟨p2,ys,e,q2,r2⟩:=rb
   cases e
   rw[q]at q2
   cases q2
   simp only[noS]at na nb
   rw[RepL.inj na nb r r2]
  |tup es=>
   obtain⟨p2,ys,e,q2,r2⟩:=rb
   cases e
   rw[q]at q2
   cases q2
  |scr _=>simp[noS]at nb
  |exc _=>simp[noS]at nb
  |dic _ _=>simp[noS]at nb
  |dit _ _=>simp[noS]at nb
  |obj _ _ _ _ _=>simp[noS]at nb
  |non=>simp[RepD]at rb
  |bl _=>simp[RepD]at rb
  |int _=>simp[RepD]at rb
  |str _=>simp[RepD]at rb
 | .tup ds,b,x,na,nb,ra,rb=>by
  obtain⟨p,xs,rfl,q,r⟩:=ra
  cases b with
  |tup es=>
   obtain⟨p2,ys,e,q2,r2⟩:=rb
   cases e
   rw[q]at q2
   cases q2
   simp only[noS]at na nb
   rw[RepL.inj na nb r r2]
  |lst es=>
   obtain⟨p2,ys,e,q2,r2⟩:=rb
   cases e
   rw[q]at q2
   cases q2
  |scr _=>simp[noS]at nb
  |exc _=>simp[noS]at nb
  |dic _ _=>simp[noS]at nb
  |dit _ _=>simp[noS]at nb
  |obj _ _ _ _ _=>simp[noS]at nb
  |non=>simp[RepD]at rb
  |bl _=>simp[RepD]at rb
  |int _=>simp[RepD]at rb
  |str _=>simp[RepD]at rb
 | .scr _,_,_,na,_,_,_=>by simp[noS]at na
 | .exc _,_,_,na,_,_,_=>by simp[noS]at na
 |(.dic _ _),_,_,na,_,_,_=>by simp[noS]at na
 |(.dit _ _),_,_,na,_,_,_=>by simp[noS]at na
 |(.obj _ _ _ _ _),_,_,na,_,_,_=>by simp[noS]at na
theorem RepL.inj:∀{as bs:List D} {xs:List V},noSL as=true->noSL bs=true->RepL K G xs as->RepL K G xs bs->as=bs
 |[],[],_,_,_,_,_=>rfl
 |[],_::_,xs,_,_,e,h=>by
  obtain⟨_,_,e2,_⟩:=h
  cases(show xs=[]from e)
  cases e2
 |_::_,[],xs,_,_,h,e=>by
  obtain⟨_,_,e2,_⟩:=h
  cases(show xs=[]from e)
  cases e2
 |a::as,b::bs,xs,na,nb,h,h2=>by
  obtain⟨x,ys,e,q,r⟩:=h
  obtain⟨x2,ys2,e2,q2,r2⟩:=h2
  subst e
  cases e2
  simp only[noSL,Bool.and_eq_true]at na nb
  rw[RepD.inj na.1 nb.1 q q2,RepL.inj na.2 nb.2 r r2]
end
noncomputable def eqJ (ds es:List D)(j:Nat):Bool:=match ds[j]?,es[j]? with
 |some a,some b=>eqB a b
 |_,_=>false
theorem zcM:∀(as bs:List D),as.length=bs.length->(List.range as.length).all (eqJ as bs)=eqBL as bs
 |[],[],_=>by simp[eqBL]
 |a::as,b::bs,h=>by
  have ih:=zcM as bs (by simpa using h)
  rw[List.length_cons,List.range_succ_eq_map,List.all_cons,List.all_map]
  simp only[eqBL,<-ih]
  congr 1
 |[],_::_,h=>by simp at h
 |_::_,[],h=>by simp at h
section
variable {X:Cx} {pins:List (Addr×Obj)} {σ:St} {H G:Hp} {s:Shared}
theorem zoE (r:Vals xs us)(h:RepL X.K G xs ds)(e:us[j]? =some u):∃x d,ds[j]? =some d/\RelV x u/\RepD X.K G x d:=by
 have hl:=r.length
 have hl2:=h.length
 have hj:j<us.length:=(List.getElem?_eq_some_iff.mp e).1
 have ej:ds[j]? =some ds[j]:=List.getElem?_eq_getElem (by lia)
 obtain⟨x,q1,q2⟩:=h.get ej
 obtain⟨u',h1,h2⟩:=r.get q1
 have:u'=u:=by rw[h1]at e;exact Option.some.inj e
 subst this
 exact⟨x,_,ej,h2,q2⟩
inductive Sh (K:W.Frag) (G:Hp) (s:Shared):D->Value->Prop
 |non:Sh K G s .non .none
 |bl (c:Bool):Sh K G s (.bl c) (.bool c)
 |int (c:Int) (t:Tok):Sh K G s (.int c) (.int c t)
 |str (c:Str) (t:Tok):Sh K G s (.str c) (.str c t)
 |lst {ds:List D} {p:Addr} {xs:List V} {its:List Value} (q:G p=some (.lst xs)) (r:RepL K G xs ds) (rv:Vals xs its) (pl:PlainL s.heap p its.toArray):Sh K G s (.lst ds) (.ref p)
 |tup {ds:List D} {p:Addr} {xs:List V} {its:List Value} (q:G p=some (.tup xs)) (r:RepL K G xs ds) (rv:Vals xs its) (pl:IsTup s.heap p its.toArray):Sh K G s (.tup ds) (.ref p)
theorem zmn (I:Inv X pins σ H s)(fz:Fz G H){x:V}(na:noS d=true)(ra:RepD X.K G x d)(rx:RelV x u):Sh X.K G s d u:=by
 cases d with
 |non=>rw[show x=V.non from ra]at rx;rw[show u=Value.none from rx];exact .non
 |bl c=>rw[show x=V.bl c from ra]at rx;rw[show u=Value.bool c from rx];exact .bl c
 |int c=>rw[show x=V.int c from ra]at rx;exact Exists.elim rx fun t e=>by rw[e];exact .int c t
 |str c=>rw[show x=V.str c from ra]at rx;exact Exists.elim rx fun t e=>by rw[e];exact .str c t
 |lst ds=>
  obtain⟨p,xs,e,q,r⟩:=ra
  rw[e]at rx;rw[show u=Value.ref p from rx]
  exact(I.list (SqL.of (fz _ _ q))).elim fun its h=> .lst q r h.1 h.2.1
 |tup ds=>
  obtain⟨p,xs,e,q,r⟩:=ra
  rw[e]at rx;rw[show u=Value.ref p from rx]
  exact(I.tuple (SqT.of (fz _ _ q))).elim fun its h=> .tup q r h.1 h.2.1
 |_=>exact nomatch (show false=true from na)
theorem ziN (I:Inv X pins σ H s)(fz:Fz G H)(ih:∀(a b:D) (u v:Value),depth a<n->noS a=true->noS b=true->Sh X.K G s a u->Sh X.K G s b v->SeqAt.EqAt A s u v (eqB a b))
  {ds es:List D} {xs ys:List V} {its its2:List Value} (hd:zfC ds<n) (nd:noSL ds=true) (ne:noSL es=true) (r:RepL X.K G xs ds) (r2:RepL X.K G ys es) (rv:Vals xs its) (rv2:Vals ys its2) (j:Nat) (h1:j<its.toArray.size) (h2:j<its2.toArray.size):SeqAt.EqAt A s its.toArray[j] its2.toArray[j] (eqJ ds es j):=by
 rw[List.size_toArray]at h1 h2
 obtain⟨x1,d1,e1,k1,m1⟩:=zoE rv r (j:=j) (u:=its[j]) (List.getElem?_eq_getElem h1)
 obtain⟨x2,d2,e2,k2,m2⟩:=zoE rv2 r2 (j:=j) (u:=its2[j]) (List.getElem?_eq_getElem h2)
 rw[show eqJ ds es j=eqB d1 d2 by unfold eqJ;rw[e1,e2]]
 exact ih d1 d2 _ _ (Nat.lt_of_le_of_lt (zil e1) hd) (zfT e1 nd) (zfT e2 ne) (zmn I fz (zfT e1 nd) m1 k1) (zmn I fz (zfT e2 ne) m2 k2)
theorem znv (I:Inv X pins σ H s)(fz:Fz G H)(n:Nat):∀(A:Around) (a b:D) (u v:Value),depth a<n->noS a=true->noS b=true->A.units+n<cLine->Sh X.K G s a u->Sh X.K G s b v->
  SeqAt.EqAt A s u v (eqB a b)/\SeqAt.RcAt A s u v (eqB a b):=by
 induction n with
 |zero=>intro A a b u v hd;exact absurd hd (Nat.not_lt_zero _)
 |succ n ih=>
  intro A a b u v hd na nb hu ha hb
  have hu':A.units<cLine:=by lia
  cases ha with
  |non=>cases hb with
   |non=>exact⟨.same _,.none_none⟩
   |bl c=>exact⟨.none_bool _,.none_bool _⟩
   |int c t=>exact⟨.none_int _ _,.none_int _ _⟩
   |str c t=>exact⟨.none_str _ _,.none_str _ _⟩
   |lst _ _ _ pl=>exact⟨.none_list pl.isList hu',.none_list pl.isList hu'⟩
   |tup _ _ _ pl=>exact⟨.none_tuple pl hu',.none_tuple pl hu'⟩
  |bl c0=>cases hb with
   |non=>exact⟨.bool_none _,.bool_none _⟩
   |bl c=>exact⟨.bool_bool _ _,.bool_bool _ _⟩
   |int c t=>exact⟨.bool_int _ _ _,.bool_int _ _ _⟩
   |str c t=>exact⟨.bool_str _ _ _,.bool_str _ _ _⟩
   |lst _ _ _ pl=>exact⟨.bool_list _ pl.isList hu',.bool_list _ pl.isList hu'⟩
   |tup _ _ _ pl=>exact⟨.bool_tuple _ pl hu',.bool_tuple _ pl hu'⟩
  |int c0 t0=>cases hb with
   |non=>exact⟨.int_none _ _,.int_none _ _⟩
   |bl c=>exact⟨.int_bool _ _ _,.int_bool _ _ _⟩
   |int c t=>exact⟨.int_int _ _ _ _,.int_int _ _ _ _⟩
   |str c t=>exact⟨.int_str _ _ _ _,.int_str _ _ _ _⟩
   |lst _ _ _ pl=>exact⟨.int_list _ _ pl.isList hu',.int_list _ _ pl.isList hu'⟩
   |tup _ _ _ pl=>exact⟨.int_tuple _ _ pl hu',.int_tuple _ _ pl hu'⟩
  |str c0 t0=>cases hb with
   |non=>exact⟨.str_none _ _,.str_none _ _⟩
   |bl c=>exact⟨.str_bool _ _ _,.str_bool _ _ _⟩
   |int c t=>exact⟨.str_int _ _ _ _,.str_int _ _ _ _⟩
   |str c t=>exact⟨.str_str _ _ _ _,.str_str _ _ _ _⟩
   |lst _ _ _ pl=>exact⟨.str_list _ _ pl.isList hu',.str_list _ _ pl.isList hu'⟩
   |tup _ _ _ pl=>exact⟨.str_tuple _ _ pl hu',.str_tuple _ _ pl hu'⟩
  | @lst ds p xs its q r rv pl=>cases hb with
   |non=>exact⟨.list_none pl.isList hu',.list_none pl.isList hu'⟩
   |bl c=>exact⟨.list_bool _ pl.isList hu',.list_bool _ pl.isList hu'⟩
   |int c t=>exact⟨.list_int _ _ pl.isList hu',.list_int _ _ pl.isList hu'⟩
   |str c t=>exact⟨.list_str _ _ pl.isList hu',.list_str _ _ pl.isList hu'⟩
   |tup _ _ _ pl2=>exact⟨.list_tuple pl.isList pl2 hu',.list_tuple pl.isList pl2 hu'⟩
   | @lst es p2 ys its2 q2 r2 rv2 pl2=>
    have l1:=rv.length;have l2:=r.length;have l3:=rv2.length;have l4:=r2.length
    have rc:SeqAt.RcAt A s (.ref p) (.ref p2) (eqBL ds es):=by
     by_cases hl:ds.length=es.length
     ·have z:=SeqAt.RcAt.lists (A:=A) (s:=s) (e:=eqJ ds es) pl.isList pl2.isList (by rw[List.size_toArray,List.size_toArray];lia) hu' (ziN I fz (fun a b u v h1 h2 h3 h4 h5=>(ih A.in1 a b u v h1 h2 h3 (by show A.units+1+n<cLine;lia) h4 h5).1) (Nat.lt_of_succ_lt_succ hd) na nb r r2 rv rv2)
      rw[List.size_toArray,<-l1,l2,zcM ds es hl]at z
      exact z
     ·rw[zf4 hl]
      refine .lists_lengths pl.isList pl2.isList ?_ hu'
      rw[List.size_toArray,List.size_toArray,bne_iff_ne]
      lia
    refine⟨?_,rc⟩
    by_cases hp:p=p2
    ·subst hp
     rw[show D.lst ds= .lst es from RepD.inj na nb ⟨p,xs,rfl,q,r⟩ ⟨p,ys,rfl,q2,r2⟩,ziI _ nb]
     exact .same _
    ·exact .of_refs hp rc
  | @tup ds p xs its q r rv pl=>cases hb with
   |non=>exact⟨.tuple_none pl hu',.tuple_none pl hu'⟩
   |bl c=>exact⟨.tuple_bool _ pl hu',.tuple_bool _ pl hu'⟩
   |int c t=>exact⟨.tuple_int _ _ pl hu',.tuple_int _ _ pl hu'⟩
   |str c t=>exact⟨.tuple_str _ _ pl hu',.tuple_str _ _ pl hu'⟩
   |lst _ _ _ pl2=>exact⟨.tuple_list pl pl2.isList hu',.tuple_list pl pl2.isList hu'⟩
   | @tup es p2 ys its2 q2 r2 rv2 pl2=>
    have l1:=rv.length;have l2:=r.length;have l3:=rv2.length;have l4:=r2.length
    have rc:SeqAt.RcAt A s (.ref p) (.ref p2) (eqBL ds es):=by
     have z:=SeqAt.RcAt.tuples (A:=A) (s:=s) (e:=eqJ ds es) pl pl2 hu' (ziN I fz (fun a b u v h1 h2 h3 h4 h5=>(ih A.in1 a b u v h1 h2 h3 (by show A.units+1+n<cLine;lia) h4 h5).1) (Nat.lt_of_succ_lt_succ hd) na nb r r2 rv rv2)
     rw[List.size_toArray,List.size_toArray]at z
     by_cases hl:ds.length=es.length
     ·rw[show min its.length its2.length=ds.length by lia,show(its.length==its2.length)=true from beq_iff_eq.mpr (by lia),Bool.and_true,zcM ds es hl]at z
      exact z
     ·rw[show(its.length==its2.length)=false from beq_eq_false_iff_ne.mpr (by lia),Bool.and_false]at z
      rw[zf4 hl]
      exact z
    refine⟨?_,rc⟩
    by_cases hp:p=p2
    ·subst hp
     rw[show D.tup ds= .tup es from RepD.inj na nb ⟨p,xs,rfl,q,r⟩ ⟨p,ys,rfl,q2,r2⟩,ziI _ nb]
     exact .same _
    ·exact .of_refs hp rc
theorem eqAt_D (I:Inv X pins σ H s)(fz:Fz G H)(n:Nat)(A:Around)(a b:D)(x y:V)(u v:Value)(hd:depth a<=n)(na:noS a=true)(nb:noS b=true)(hu:A.units+n+1<cLine)(ra:RepD X.K G x a)(rb:RepD X.K G y b)(rx:RelV x u)(ry:RelV y v):
  SeqAt.EqAt A s u v (eqB a b)/\SeqAt.RcAt A s u v (eqB a b):=znv I fz (n+1) A a b u v (Nat.lt_succ_of_le hd) na nb hu (zmn I fz na ra rx) (zmn I fz nb rb ry)
end
noncomputable def dEq (a b:D):Option D:=if noS a&&noS b&&decide (depth a<=50)then some (.bl (eqB a b))else none
noncomputable def dNe (a b:D):Option D:=if noS a&&noS b&&decide (depth a<=50)then some (.bl (!eqB a b))else none
noncomputable def rEqD (K:W.Frag)(c:Bool->Bool):R2:=fun x y H Q=>∃G a b,Fz G H/\RepD K G x a/\RepD K G y b/\noS a=true/\noS b=true/\depth a<=50/\Q (.bl (c (eqB a b))) H
theorem op_eqD (hu:X.A.units+64<cLine):OpR X (compareOp .Eq) (rEqD X.K id):=by
 intro pins s σ H x y v u Q I rx ry h
 obtain⟨G,a,b,fz,ra,rb,na,nb,hd,q⟩:=h
 exact(eqAt_D I fz 50 X.A a b x y v u hd na nb (by lia) ra rb rx ry).2 _ _ _ _ ⟨.bl _,H,I,rfl,q⟩
section
variable {X:Cx} {pins:List (Addr×Obj)} {σ:St} {H G:Hp} {s:Shared}
theorem neAt_Sh (I:Inv X pins σ H s)(fz:Fz G H)(A:Around)(a b:D)(u v:Value)(hd:depth a<=50)(na:noS a=true)(nb:noS b=true)(hu:A.units+64<cLine)(ha:Sh X.K G s a u)(hb:Sh X.K G s b v):SeqAt.RcNeAt A s u v (!eqB a b):=by
 have hu':A.units<cLine:=by lia
 have ih:∀(a b:D) (u v:Value),depth a<50->noS a=true->noS b=true->Sh X.K G s a u->Sh X.K G s b v->SeqAt.EqAt A.in1 s u v (eqB a b):=fun a b u v h1 h2 h3 h4 h5=>(znv I fz 50 A.in1 a b u v h1 h2 h3 (by show A.units+1+50<cLine;lia) h4 h5).1
 cases ha with
 |non=>cases hb with
  |non=>exact .none_none
  |bl c=>exact .none_bool _
  |int c t=>exact .none_int _ _
  |str c t=>exact .none_str _ _
  |lst _ _ _ pl=>exact .none_list pl.isList hu'
  |tup _ _ _ pl=>exact .none_tuple pl hu'
 |bl c0=>cases hb with
  |non=>exact .bool_none _
  |bl c=>exact .bool_bool _ _
  |int c t=>exact .bool_int _ _ _
  |str c t=>exact .bool_str _ _ _
  |lst _ _ _ pl=>exact .bool_list _ pl.isList hu'
  |tup _ _ _ pl=>exact .bool_tuple _ pl hu'
 |int c0 t0=>cases hb with
  |non=>exact .int_none _ _
  |bl c=>exact .int_bool _ _ _
  |int c t=>exact .int_int _ _ _ _
  |str c t=>exact .int_str _ _ _ _
  |lst _ _ _ pl=>exact .int_list _ _ pl.isList hu'
  |tup _ _ _ pl=>exact .int_tuple _ _ pl hu'
 |str c0 t0=>cases hb with
  |non=>exact .str_none _ _
  |bl c=>exact .str_bool _ _ _
  |int c t=>exact .str_int _ _ _ _
  |str c t=>exact .str_str _ _ _ _
  |lst _ _ _ pl=>exact .str_list _ _ pl.isList hu'
  |tup _ _ _ pl=>exact .str_tuple _ _ pl hu'
 | @lst ds p xs its q r rv pl=>cases hb with
  |non=>exact .list_none pl.isList hu'
  |bl c=>exact .list_bool _ pl.isList hu'
  |int c t=>exact .list_int _ _ pl.isList hu'
  |str c t=>exact .list_str _ _ pl.isList hu'
  |tup _ _ _ pl2=>exact .list_tuple pl.isList pl2 hu'
  | @lst es p2 ys its2 q2 r2 rv2 pl2=>
   have l1:=rv.length;have l2:=r.length;have l3:=rv2.length;have l4:=r2.length
   show SeqAt.RcNeAt A s (.ref p) (.ref p2) (!eqBL ds es)
   by_cases hl:ds.length=es.length
   ·have z:=SeqAt.RcNeAt.lists (A:=A) (s:=s) (e:=eqJ ds es) pl.isList pl2.isList (by rw[List.size_toArray,List.size_toArray];lia) hu' (ziN I fz ih (Nat.lt_of_succ_le hd) na nb r r2 rv rv2)
    rw[List.size_toArray,<-l1,l2,zcM ds es hl]at z
    exact z
   ·rw[zf4 hl]
    refine .lists_lengths pl.isList pl2.isList ?_ hu'
    rw[List.size_toArray,List.size_toArray,bne_iff_ne]
    lia
 | @tup ds p xs its q r rv pl=>cases hb with
  |non=>exact .tuple_none pl hu'
  |bl c=>exact .tuple_bool _ pl hu'
  |int c t=>exact .tuple_int _ _ pl hu'
  |str c t=>exact .tuple_str _ _ pl hu'
  |lst _ _ _ pl2=>exact .tuple_list pl pl2.isList hu'
  | @tup es p2 ys its2 q2 r2 rv2 pl2=>
   have l1:=rv.length;have l2:=r.length;have l3:=rv2.length;have l4:=r2.length
   show SeqAt.RcNeAt A s (.ref p) (.ref p2) (!eqBL ds es)
   have z:=SeqAt.RcNeAt.tuples (A:=A) (s:=s) (e:=eqJ ds es) pl pl2 hu' (ziN I fz ih (Nat.lt_of_succ_le hd) na nb r r2 rv rv2)
   rw[List.size_toArray,List.size_toArray]at z
   by_cases hl:ds.length=es.length
   ·rw[show min its.length its2.length=ds.length by lia,show(its.length==its2.length)=true from beq_iff_eq.mpr (by lia),Bool.and_true,zcM ds es hl]at z
    exact z
   ·rw[show(its.length==its2.length)=false from beq_eq_false_iff_ne.mpr (by lia),Bool.and_false]at z
    rw[zf4 hl]
    exact z
theorem neAt_D (I:Inv X pins σ H s)(fz:Fz G H)(A:Around)(a b:D)(x y:V)(u v:Value)(hd:depth a<=50)(na:noS a=true)(nb:noS b=true)(hu:A.units+64<cLine)(ra:RepD X.K G x a)(rb:RepD X.K G y b)(rx:RelV x u)(ry:RelV y v):
  SeqAt.RcNeAt A s u v (!eqB a b):=neAt_Sh I fz A a b u v hd na nb hu (zmn I fz na ra rx) (zmn I fz nb rb ry)
end
theorem op_neD (hu:X.A.units+64<cLine):OpR X (compareOp .NotEq) (rEqD X.K not):=by
 intro pins s σ H x y v u Q I rx ry h
 obtain⟨G,a,b,fz,ra,rb,na,nb,hd,q⟩:=h
 exact neAt_D I fz X.A a b x y v u hd na nb hu ra rb rx ry _ _ _ _ ⟨.bl _,H,I,rfl,q⟩
theorem v2_ne:V2 X (rEqD X.K not) dNe:=by
 intro B G H σ ρ x y a b d Q I ra rb hf k
 unfold dNe at hf
 refine cIte hf fun h hf=>?_
 simp only[Bool.and_eq_true,decide_eq_true_eq]at h
 cases hf
 exact⟨G,a,b,I.fz,ra,rb,h.1.1,h.1.2,h.2,k G H _ I (Fz.refl G) rfl⟩
theorem v2_eq:V2 X (rEqD X.K id) dEq:=by
 intro B G H σ ρ x y a b d Q I ra rb hf k
 unfold dEq at hf
 refine cIte hf fun h hf=>?_
 simp only[Bool.and_eq_true,decide_eq_true_eq]at h
 cases hf
 exact⟨G,a,b,I.fz,ra,rb,h.1.1,h.1.2,h.2,k G H _ I (Fz.refl G) rfl⟩
noncomputable def dIx:D->D->Option D
 | .lst ds,.int i=>atI ds i
 | .tup ds,.int i=>atI ds i
 | .scr ns,.int i=>(atI ns i).map .int
 |_,_=>none
theorem atI_map {α β:Type}(f:α->β){xs:List α}{i:Int}{v:α}(h:atI xs i=some v):atI (xs.map f) i=some (f v):=by
 unfold atI at h ⊢
 rw[List.length_map]
 cases q:ixN xs.length i with
 |none=>rw[q]at h;exact cNN h
 |some j=>
  rw[q]at h
  show(xs.map f)[j]? =_
  rw[List.getElem?_map,show xs[j]? =some v from h]
  rfl
noncomputable def ReadD (K:W.Frag)(G H:Hp)(v:V):D->Prop
 | .lst ds=>∃a xs,v= .ref a/\H a=some (.lst xs)/\RepL K G xs ds
 |d=>RepD K G v d
theorem ReadD.of (fz:Fz G H)(h:RepD K G v d):ReadD K G H v d:=by
 cases d with
 |lst ds=>obtain⟨a,xs,e,q,r⟩:=h;exact⟨a,xs,e,fz a _ q,r⟩
 |_=>exact h
noncomputable def Sl.read:Sl->Option D
 | .emp=>none
 | .two _ _=>none
 | .tre _=>none
 | .ptr _=>none
 | .val d=>some d
 | .own ds=>some (.lst ds)
 | .par ds=>some (.lst ds)
noncomputable def hasV (ρ:R)(j:Nat):Bool:=match ρ[j]? with
 |some (.val _)=>true
 |some (.own _)=>true
 |some (.par _)=>true
 |_=>false
theorem SI.has (I:SI K B G H σ ρ)(h:hasV ρ j=true):∃v,σ[j]? =some (some v):=by
 unfold hasV at h
 cases e:ρ[j]? with
 |none=>rw[e]at h;cases h
 |some s=>
  rw[e]at h
  have q:=I.slot j s e
  cases s with
  |emp=>cases h
  |two _ _=>cases h
  |tre _=>cases h
  |ptr _=>cases h
  |val d=>obtain⟨v,e,_⟩:=q;exact⟨v,e⟩
  |own d=>obtain⟨l,_,e,_⟩:=q;exact⟨_,e⟩
  |par d=>obtain⟨l,_,e,_⟩:=q;exact⟨_,e⟩
theorem SI.read (I:SI K B G H σ ρ)(hv:σ[j]? =some (some v))(e:ρ[j]? =some s)(q:s.read=some d):ReadD K G H v d:=by
 have h:=I.slot j s e
 cases s with
 |emp=>exact cNN q
 |two _ _=>exact cNN q
 |tre _=>exact cNN q
 |ptr _=>exact cNN q
 |val d'=>
  cases q
  obtain⟨w,e1,r⟩:=h
  rw[hv]at e1;cases e1
  exact .of I.fz r
 |own ds=>
  cases q
  obtain⟨l,xs,e1,_,h3,h4,_⟩:=h
  rw[hv]at e1;cases e1
  exact⟨l,xs,rfl,h3,h4⟩
 |par ds=>
  cases q
  obtain⟨l,xs,e1,_,h3,h4,_⟩:=h
  rw[hv]at e1;cases e1
  exact⟨l,xs,rfl,h3,h4⟩
theorem zm3 {x y:V}{a b d:D}{Q:VK}(I:SI K B G H σ ρ)(ra:ReadD K G H x a)(rb:RepD K G y b)(hf:dIx a b=some d)(k:∀v,RepD K G v d->Q v H):rIx K x y H Q:=by
 cases a<;>cases b<;>simp only[dIx]at hf<;>try exact cNN hf
 ·rename_i ds i
  obtain⟨p,xs,rfl,hp,r⟩:=ra
  obtain⟨v,e,q⟩:=r.at hf
  exact .inl ⟨p,xs,i,v,rfl,rb,SqL.of hp,e,k _ q⟩
 ·rename_i ds i
  obtain⟨p,xs,rfl,hp,r⟩:=I.tup ra
  obtain⟨v,e,q⟩:=r.at hf
  exact .inr (.inl ⟨p,xs,i,v,rfl,rb,SqT.of hp,e,k _ q⟩)
 ·rename_i ns i
  obtain⟨p,rfl,hp⟩:=ra
  cases e:atI ns i with
  |none=>rw[e]at hf;exact cNN hf
  |some n=>
   rw[e]at hf
   cases hf
   exact .inl ⟨p,_,i,.int n,rfl,rb,I.fz.sql hp,atI_map V.int e,k _ rfl⟩
theorem v2_ix:V2 X (rIx X.K) dIx:=fun B G H σ ρ x y a b d Q I ra rb hf k=>zm3 I (.of I.fz ra) rb hf fun v q=>k G H v I (Fz.refl G) q
theorem zas {ma mb:ME}(ha:SE X a ma)(hb:SE X b mb)(hs:autoParam (ziY b) zu6._auto_1):SE X (.Subscript a b pos) (m2 dIx ma mb):=se_ix ix_seq v2_ix ha hb hs
noncomputable def eIxV (j:Nat)(mi:ME):ME:=fun ρ=>if hasV ρ j then(mi ρ).bind fun p=>(p.2[j]?.bind Sl.read).bind fun d=>(dIx d p.1).map fun e=>(e,p.2)else none
theorem zap {mb:ME}(j:Nat)(hb:SE X b mb)(hN:autoParam (X.N[j]? =some x) zu3._auto_1)(hv:autoParam (Vis X.env.scope x) zu5._auto_1)(hd:autoParam ((x==("__debug__":Str))=false) zu1._auto_1)
    (hcd:autoParam ((x==("__classdict__":Str))=false) zu1._auto_1) (hs:autoParam (ziY b) zu6._auto_1):SE X (.Subscript (.Name x pos') b pos) (eIxV j mb):=by
  refine hb.el fun tb pb sb=>?_
  refine⟨_,pe_ix ix_seq (zb3 hN hv hd hcd) pb hs,fun B G H σ ρ d ρ' Q I hm k=>?_⟩
  unfold eIxV at hm
  refine cIte hm fun hh hm=>?_
  obtain⟨v,ev⟩:=I.has hh
  cases e1:mb ρ with
  |none=>rw[e1]at hm;exact cNN hm
  |some q=>
    obtain⟨i,ρ1⟩:=q
    rw[e1]at hm
    simp only[Option.bind_some]at hm
    cases e2:ρ1[j]? with
    |none=>rw[e2]at hm;exact cNN hm
    |some s=>
      rw[e2]at hm
      simp only[Option.bind_some]at hm
      cases e3:s.read with
      |none=>rw[e3]at hm;exact cNN hm
      |some a=>
        rw[e3]at hm
        simp only[Option.bind_some]at hm
        cases e4:dIx a i with
        |none=>rw[e4]at hm;exact cNN hm
        |some c=>
          rw[e4]at hm
          cases hm
          exact⟨v,ev,sb B G H σ ρ i ρ' _ I e1 fun G1 H1 y I1 f1 r1=>zm3 I1 (I1.read ev e2 e3) r1 e4 fun w q=>k G1 H1 w I1 f1 q⟩
noncomputable def dLen:List D->Option D
 |[.lst ds]=>some (.int ds.length)
 |[.tup ds]=>some (.int ds.length)
 |[.scr ns]=>some (.int ns.length)
 |_=>none
theorem zlR {x:V}{a d:D}{Q:VK}(I:SI K B G H σ ρ)(ra:ReadD K G H x a)(hf:dLen [a]=some d)(k:∀v,RepD K G v d->Q v H):
  ∃p ys,[x]=[V.ref p]/\(SqL K H p ys\/SqT K H p ys)/\Q (.int ys.length) H:=by
 cases a<;>simp only[dLen]at hf<;>try cases hf
 ·obtain⟨p,xs,rfl,hp,r⟩:=ra
  exact⟨p,xs,rfl,.inl (SqL.of hp),by rw[r.length];exact k _ rfl⟩
 ·obtain⟨p,xs,rfl,hp,r⟩:=I.tup ra
  exact⟨p,xs,rfl,.inr (SqT.of hp),by rw[r.length];exact k _ rfl⟩
 ·obtain⟨p,rfl,hp⟩:=ra
  exact⟨p,_,rfl,.inl (I.fz.sql hp),by rw[List.length_map];exact k _ rfl⟩
theorem RepL.one (h:RepL K G xs [d]):∃x,xs=[x]/\RepD K G x d:=by
 obtain⟨x,ys,e,q,r⟩:=h
 cases(show ys=[]from r)
 exact⟨x,e,q⟩
theorem RepL.two {a b:D}(h:RepL K G xs [a,b]):∃x y,xs=[x,y]/\RepD K G x a/\RepD K G y b:=by
 obtain⟨x,ys,e,q,r⟩:=h
 obtain⟨y,e2,q2⟩:=r.one
 subst e2
 exact⟨x,y,e,q,q2⟩
theorem dLen_one (h:dLen ds=some d):∃a,ds=[a]:=by
 match ds,h with
 |[a],_=>exact⟨a,rfl⟩
 |[],h=>exact cNN h
 |_::_::_,h=>simp[dLen]at h
theorem vc_len:VC X (fun xs H Q=>∃p ys,xs=[.ref p]/\(SqL X.K H p ys\/SqT X.K H p ys)/\Q (.int ys.length) H) dLen:=by
 intro B G H σ ρ xs ds d Q I r hf k
 obtain⟨a,rfl⟩:=dLen_one hf
 obtain⟨x,rfl,ra⟩:=r.one
 exact zlR I (.of I.fz ra) hf fun v q=>k G H v I (Fz.refl G) q
theorem zjX (ml:X.mg "len"=none)(ha:SA X [e] ma)(hg:autoParam (Gl X "len") zu3._auto_1)(he:autoParam (starEach [e] X.env=(false,eval e X.env)::starEach [] X.env) zu3._auto_1):SE X (.Call (.Name "len" p) [e] [] pos) (mC dLen ma):=
 zda zgF vc_len PySem.boot_len ml ha hg (by decide) (by decide) he rfl
noncomputable def zjY (j:Nat):ME:=fun ρ=>(ρ[j]?.bind Sl.read).bind fun d=>(dLen [d]).map fun e=>(e,ρ)
theorem zhY (j:Nat)(ml:X.mg "len"=none)(hN:autoParam (X.N[j]? =some x) zu3._auto_1)(hv:autoParam (Vis X.env.scope x) zu5._auto_1)(hd:autoParam ((x==("__debug__":Str))=false) zu1._auto_1)
  (hcd:autoParam ((x==("__classdict__":Str))=false) zu1._auto_1) (hg:autoParam (Gl X "len") zu3._auto_1) (he:autoParam (starEach [.Name x pos'] X.env=(false,eval (.Name x pos') X.env)::starEach [] X.env) zu3._auto_1):SE X (.Call (.Name "len" p) [.Name x pos'] [] pos) (zjY j):=by
 refine⟨_,zlV zgF hg ml PySem.boot_len (zgf (zb3 hN hv hd hcd) zjy he) (by decide) (by decide) he rfl,fun B G H σ ρ d ρ' Q I hm k=>?_⟩
 unfold zjY at hm
 cases e2:ρ[j]? with
 |none=>rw[e2]at hm;exact cNN hm
 |some s=>
  rw[e2]at hm
  simp only[Option.bind_some]at hm
  cases e3:s.read with
  |none=>rw[e3]at hm;exact cNN hm
  |some a=>
   rw[e3]at hm
   simp only[Option.bind_some]at hm
   cases e4:dLen [a]with
   |none=>rw[e4]at hm;exact cNN hm
   |some c=>
    rw[e4]at hm
    obtain⟨rfl,rfl⟩:=cSp hm
    have hh:hasV ρ j=true:=by
     unfold hasV
     rw[e2]
     cases s<;>first|rfl|exact cNN e3
    obtain⟨v,ev⟩:=I.has hh
    exact⟨v,ev,zlR I (I.read ev e2 e3) e4 fun w q=>k G H w I (Fz.refl G) q⟩
noncomputable def zbW:List D->Option D
 |[.lst ds]=>some (.tup ds)
 |[.tup ds]=>some (.tup ds)
 |[.scr ns]=>some (.tup (ns.map .int))
 |_=>none
theorem vc_tuple:VC X (fun xs H Q=>∃p ys,xs=[.ref p]/\((SqL X.K H p ys/\∀l,H l=none->Q (.ref l) (upd H l (.tup ys)))\/(SqT X.K H p ys/\Q (.ref p) H))) zbW:=by
 intro B G H σ ρ xs ds d Q I r hf k
 match ds,hf with
 |[a],hf=>
  obtain⟨x,rfl,ra⟩:=r.one
  cases a<;>simp only[zbW]at hf<;>try cases hf
  ·obtain⟨p,ys,rfl,hp,q⟩:=I.lst ra
   refine⟨p,ys,rfl,.inl ⟨SqL.of hp,fun l hl=>?_⟩⟩
   obtain⟨I2,f2,r2⟩:=I.newT hl q
   exact k _ _ _ I2 f2 r2
  ·obtain⟨p,ys,e,hp,q⟩:=I.tup ra
   subst e
   exact⟨p,ys,rfl,.inr ⟨SqT.of hp,k G H _ I (Fz.refl G) ra⟩⟩
  ·obtain⟨p,rfl,hp⟩:=ra
   refine⟨p,_,rfl,.inl ⟨I.fz.sql hp,fun l hl=>?_⟩⟩
   obtain⟨I2,f2,r2⟩:=I.newT hl (RepL.ints _)
   exact k _ _ _ I2 f2 r2
 |[],hf=>exact cNN hf
 |_::_::_,hf=>simp[zbW]at hf
theorem zb7 (ml:X.mg "tuple"=none)(ha:SA X [e] ma)(hg:autoParam (Gl X "tuple") zu3._auto_1)(he:autoParam (starEach [e] X.env=(false,eval e X.env)::starEach [] X.env) zu3._auto_1)(hb:autoParam (bootBuiltins "tuple"=some (.type "tuple")) zu7._auto_1):
  SE X (.Call (.Name "tuple" p) [e] [] pos) (mC zbW ma):=
 zj2 ziZ vc_tuple hb ml ha hg (by decide) (by decide) he rfl
noncomputable def zaG:List D->Option (List D)
 |[.lst ds]=>some ds
 |[.tup ds]=>some ds
 |[.scr ns]=>some (ns.map .int)
 |_=>none
noncomputable def oC (f:List D->Option (List D))(ma:MA):MO:=fun ρ=>(ma ρ).bind fun p=>(f p.1).map fun d=>(d,p.2)
theorem oC_inv {f:List D->Option (List D)}{d:List D}(h:oC f ma ρ=some (d,ρ')):∃a,ma ρ=some (a,ρ')/\f a=some d:=by
 unfold oC at h
 cases e1:ma ρ with
 |none=>rw[e1]at h;exact cNN h
 |some p=>
  obtain⟨a,ρ1⟩:=p
  rw[e1]at h
  simp only[Option.bind_some]at h
  cases e3:f a with
  |none=>rw[e3]at h;exact cNN h
  |some c=>rw[e3]at h;obtain⟨rfl,rfl⟩:=cSp h;exact⟨a,rfl,e3⟩
theorem SI.newO (I:SI K B G H σ ρ){p:Addr}(hp:H p=none)(xs:List V):SI K B G (upd H p (.lst xs)) σ ρ/\G p=none/\(upd H p (.lst xs)) p=some (.lst xs)/\B.H p=none/\Nw K G (upd H p (.lst xs)) σ ρ p:=
 ⟨I.allocO hp _,I.fz.free hp,zar,I.there p hp,I.nw_move (I.nw hp) fun i s a _ _ g h=>⟨g,zal fun z=>h (by rw[z];exact hp)⟩⟩
theorem zf5 (ml:X.mg "list"=none)(ha:SA X [e] ma)(hg:autoParam (Gl X "list") zu3._auto_1)(he:autoParam (starEach [e] X.env=(false,eval e X.env)::starEach [] X.env) zu3._auto_1)(hb:autoParam (bootBuiltins "list"=some (.type "list")) zu7._auto_1):
  SO X (.Call (.Name "list" p) [e] [] pos) (oC zaG ma):=by
 refine ha.el fun t pa sa=>?_
 refine⟨_,zf0 zjB hg ml hb pa (by decide) (by decide) he rfl,fun B G H σ ρ ds ρ' Q I hm k=>?_⟩
 obtain⟨as,e1,e2⟩:=oC_inv hm
 refine sa B G H σ ρ as ρ' _ I e1 fun G1 H1 vs I1 f1 r1=>?_
 match as,e2 with
 |[a],e2=>
  obtain⟨x,rfl,ra⟩:=r1.one
  have fin:∀(q:Addr) (ys:List V) (sq:SqL X.K H1 q ys\/SqT X.K H1 q ys),x= .ref q->RepL X.K G1 ys ds->∃p ys,[x]=[V.ref p]/\(SqL X.K H1 p ys\/SqT X.K H1 p ys)/\∀l,H1 l=none->Q (.ref l) (upd H1 l (.lst ys)):=fun q ys sq ex r=>by
   refine⟨q,ys,by rw[ex],sq,fun l hl=>?_⟩
   obtain⟨I2,g2,h2,b2,n2⟩:=I1.newO hl ys
   exact k G1 _ l ys I2 f1 g2 h2 r b2 n2
  cases a<;>simp only[zaG]at e2<;>try cases e2
  ·obtain⟨p,ys,ex,hp,q⟩:=I1.lst ra
   exact fin p ys (.inl (SqL.of hp)) ex q
  ·obtain⟨p,ys,ex,hp,q⟩:=I1.tup ra
   exact fin p ys (.inr (SqT.of hp)) ex q
  ·obtain⟨p,ex,hp⟩:=ra
   exact fin p _ (.inl (I1.fz.sql hp)) ex (RepL.ints _)
 |[],e2=>exact cNN e2
 |_::_::_,e2=>simp[zaG]at e2
section
variable {X:Cx} {es:List Expr} {ma:MA} {pos:Pos}
noncomputable def eTup (ma:MA):ME:=fun ρ=>(ma ρ).bind fun p=>if p.1.length<=16777216 then some (.tup p.1,p.2)else none
theorem zcu {x1}(h:SA X es ma):SE X (.Tuple es x1 pos) (eTup ma):=by
 refine h.el fun t pa sa=>?_
 refine⟨_,pe_tup pa,fun B G H σ ρ d ρ' Q I hm k=>?_⟩
 unfold eTup at hm
 cases e1:ma ρ with
 |none=>rw[e1]at hm;exact cNN hm
 |some q=>
  obtain⟨ds,ρ1⟩:=q
  rw[e1]at hm
  simp only[Option.bind_some]at hm
  refine cIte hm fun hl hm=>?_
  cases hm
  refine sa B G H σ ρ ds ρ' _ I e1 fun G1 H1 vs I1 f1 r1=>⟨by rw[r1.length,sizeLine_eq];exact hl,fun p hp=>?_⟩
  obtain⟨I2,f2,r2⟩:=I1.newT hp r1
  exact k _ _ _ I2 (f1.trans f2) r2
noncomputable def oLst (ma:MA):MO:=fun ρ=>(ma ρ).bind fun p=>if p.1.length<=16777216 then some (p.1,p.2)else none
theorem zed (h:SA X es ma):SO X (.List es pos) (oLst ma):=by
 refine h.el fun t pa sa=>?_
 refine⟨_,pe_lst pa,fun B G H σ ρ d ρ' Q I hm k=>?_⟩
 unfold oLst at hm
 cases e1:ma ρ with
 |none=>rw[e1]at hm;exact cNN hm
 |some q=>
  obtain⟨ds,ρ1⟩:=q
  rw[e1]at hm
  simp only[Option.bind_some]at hm
  refine cIte hm fun hl hm=>?_
  cases hm
  refine sa B G H σ ρ _ ρ' _ I e1 fun G1 H1 vs I1 f1 r1=>⟨by rw[r1.length,sizeLine_eq];exact hl,fun p hp=>?_⟩
  obtain⟨I2,g2,h2,b2,n2⟩:=I1.newO hp vs
  exact k G1 _ p vs I2 f1 g2 h2 r1 b2 n2
end
theorem zdm {α β:Type}{o:Option α}{f:α->Option β}{b:β}(h:o.bind f=some b):∃a,o=some a/\f a=some b:=by
 cases o with
 |none=>exact cNN h
 |some a=>exact⟨a,rfl,h⟩
theorem zhg {α β:Type}{o:Option α}{f:α->β}{b:β}(h:o.map f=some b):∃a,o=some a/\f a=b:=by
 cases o with
 |none=>exact cNN h
 |some a=>cases h;exact⟨a,rfl,rfl⟩
noncomputable def dTru:D->Option Bool
 | .bl b=>some b
 | .int i=>some (i !=0)
 | .non=>some false
 | .lst ds=>some (!ds.isEmpty)
 | .tup ds=>some (!ds.isEmpty)
 |_=>none
noncomputable def tTru (ma:ME):MT:=fun ρ=>(ma ρ).bind fun p=>(dTru p.1).map fun b=>(b,p.2)
section
variable {X:Cx} {a b c:Expr} {ma mb mc:ME} {pos:Pos}
theorem znH (h:RepL K G xs ds):(!xs.isEmpty)=!ds.isEmpty:=by
 have:=h.length
 cases xs<;>cases ds<;>simp_all
theorem zg5 (ha:SE X a ma)(he:autoParam (∀whole,isTrue a X.env whole=(do let v<-whole;standAt a.pos;holding [v] (truthy v))) zu8._auto_1):STt X a (tTru ma):=by
  refine ha.el fun ta pa sa=>?_
  refine⟨_,pt_truth pa he,fun B G H σ ρ d ρ' Q I hm k=>?_⟩
  refine zaz hm fun x ρ1 e1 e2=>?_
  refine cMel e2 fun t e3 e4=>?_
  obtain⟨rfl,rfl⟩:=Prod.mk.inj e4
  refine sa B G H σ ρ x ρ1 _ I e1 fun G1 H1 v I1 f1 r1=>⟨t,?_,k G1 H1 I1 f1⟩
  cases x<;>simp only[dTru]at e3<;>try cases e3
  . cases r1;exact rfl
  . cases r1;exact rfl
  . cases r1;exact rfl
  . obtain⟨p,xs,rfl,hp,r⟩:=I1.lst r1
    exact .inl ⟨xs,SqL.of hp,(znH r).symm⟩
  . obtain⟨p,xs,rfl,hp,r⟩:=I1.tup r1
    exact .inr (.inl ⟨xs,SqT.of hp,(znH r).symm⟩)
theorem zgU {r:R2}{f:D->D->Option D}(ho:OpR X (compareOp op) r)(hv:V2 X r f)(hB:∀x y d,f x y=some d->∃t,d= .bl t)(ha:SE X a ma)(hb:SE X b mb)(hm:behindInMarks op b=false):STt X (.Compare a [op] [b] pos) (tTru (m2 f ma mb)):=by
 refine ha.el fun ta pa sa=>?_
 refine hb.el fun tb pb sb=>?_
 refine⟨_,pt_cmpR ho pa pb hm,fun B G H σ ρ d ρ' Q I hm k=>?_⟩
 refine zaz hm fun x ρ1 e1 e2=>?_
 refine cMel e2 fun t e3 e4=>?_
 obtain⟨rfl,rfl⟩:=Prod.mk.inj e4
 obtain⟨_,_,_,_,_,e5⟩:=m2_inv e1
 obtain⟨t',rfl⟩:=hB _ _ _ e5
 obtain rfl:t'=t:=Option.some.inj e3
 refine zlm hv sa sb B G H σ ρ (.bl t') ρ1 _ I e1 fun G1 H1 v I1 f1 r1=>?_
 cases(show v=V.bl t' from r1)
 exact⟨t',rfl,k G1 H1 I1 f1⟩
theorem zon {g:Int->Int->Bool}(x y d:D)(h:dI2 (fun _ _=>true) (fun i j=> .bl (g i j)) x y=some d):∃t,d= .bl t:=zlZ h fun _ _ _ _ _ e=>⟨_,e.symm⟩
theorem bl_eq (x y d:D)(h:dEq x y=some d):∃t,d= .bl t:=by
 unfold dEq at h
 split at h
 ·cases h;exact⟨_,rfl⟩
 ·exact cNN h
theorem bl_ne (x y d:D)(h:dNe x y=some d):∃t,d= .bl t:=by
 unfold dNe at h
 split at h
 ·cases h;exact⟨_,rfl⟩
 ·exact cNN h
theorem st_lt (ha:SE X a ma)(hb:SE X b mb):STt X (.Compare a [.Lt] [b] pos) (tTru (m2 dLt ma mb)):=zgU op_lt zoc zon ha hb (zjn _)
theorem st_gt (ha:SE X a ma)(hb:SE X b mb):STt X (.Compare a [.Gt] [b] pos) (tTru (m2 dGt ma mb)):=zgU op_gt zoc zon ha hb (zjn _)
theorem st_ge (ha:SE X a ma)(hb:SE X b mb):STt X (.Compare a [.GtE] [b] pos) (tTru (m2 dGe ma mb)):=zgU op_ge zoc zon ha hb (zjn _)
theorem zmx (hu:X.A.units+64<cLine)(ha:SE X a ma)(hb:SE X b mb):STt X (.Compare a [.Eq] [b] pos) (tTru (m2 dEq ma mb)):=zgU (op_eqD hu) v2_eq bl_eq ha hb (zjn _)
theorem zgh (hu:X.A.units+64<cLine)(ha:SE X a ma)(hb:SE X b mb):STt X (.Compare a [.NotEq] [b] pos) (tTru (m2 dNe ma mb)):=zgU (op_neD hu) v2_ne bl_ne ha hb (zjn _)
end
noncomputable def STwb (X:Cx)(e:Expr)(m:MT)(t:TT):Prop:=∀B G H σ ρ d ρ' (Q:Bool->Hp->Prop),SI X.K B G H σ ρ->m ρ=some (d,ρ')->(∀G' H',SI X.K B G' H' σ ρ'->Fz G G'->Q d H')->t σ H Q
noncomputable def STw (X:Cx)(e:Expr)(m:MT):Prop:=∃t,PW X e t/\STwb X e m t
theorem STw.el {m:MT}(h:STw X e m)(k:∀t,PW X e t->STwb X e m t->C):C:=h.elim fun t q=>k t q.1 q.2
theorem STw.st {m:MT}(h:STw X e m):STt X e m:=h.el fun t p s=>⟨t,p.pt,s⟩
noncomputable def zor (a b:MT):MT:=fun ρ=>(a ρ).bind fun p=>if p.1 then b p.2 else some (false,p.2)
noncomputable def tOrM (a b:MT):MT:=fun ρ=>(a ρ).bind fun p=>if p.1 then some (true,p.2)else b p.2
noncomputable def zmk (a:MT):MT:=fun ρ=>(a ρ).map fun p=>(!p.1,p.2)
section
variable {X:Cx} {a b c:Expr} {ma mb:MT} {pos:Pos} {rest:List Expr}
theorem zng (h:STt X a ma):STw X (.BoolOp .And [a] pos) ma:=h.el fun t p s=>⟨t,pw_and1 p,s⟩
theorem sw_or1 (h:STt X a ma):STw X (.BoolOp .Or [a] pos) ma:=h.el fun t p s=>⟨t,pw_or1 p,s⟩
theorem sw_and (ha:STt X a ma)(hb:STw X (.BoolOp .And (b::rest) pos) mb):STw X (.BoolOp .And (a::b::rest) pos) (zor ma mb):=by
 refine ha.el fun ta pa sa=>?_
 refine hb.el fun tb pb sb=>?_
 refine⟨_,pw_and pa pb,fun B G H σ ρ d ρ' Q I hm k=>?_⟩
 refine zaz hm fun x ρ1 e1 e2=>?_
 refine sa B G H σ ρ x ρ1 _ I e1 fun G1 H1 I1 f1=>?_
 cases x with
 |true=>exact sb B G1 H1 σ ρ1 d ρ' Q I1 e2 fun G2 H2 I2 f2=>k G2 H2 I2 (f1.trans f2)
 |false=>obtain⟨rfl,rfl⟩:=cSp e2;exact k G1 H1 I1 f1
theorem sw_or (ha:STt X a ma)(hb:STw X (.BoolOp .Or (b::rest) pos) mb):STw X (.BoolOp .Or (a::b::rest) pos) (tOrM ma mb):=by
 refine ha.el fun ta pa sa=>?_
 refine hb.el fun tb pb sb=>?_
 refine⟨_,pw_or pa pb,fun B G H σ ρ d ρ' Q I hm k=>?_⟩
 refine zaz hm fun x ρ1 e1 e2=>?_
 refine sa B G H σ ρ x ρ1 _ I e1 fun G1 H1 I1 f1=>?_
 cases x with
 |false=>exact sb B G1 H1 σ ρ1 d ρ' Q I1 e2 fun G2 H2 I2 f2=>k G2 H2 I2 (f1.trans f2)
 |true=>obtain⟨rfl,rfl⟩:=cSp e2;exact k G1 H1 I1 f1
theorem zld (ha:STt X a ma):STt X (.UnaryOp .Not a pos) (zmk ma):=by
 refine ha.el fun ta pa sa=>?_
 refine⟨_,pt_not pa,fun B G H σ ρ d ρ' Q I hm k=>?_⟩
 refine zdO hm fun x ρ1 e1 e2=>?_
 cases e2
 exact sa B G H σ ρ x ρ1 _ I e1 fun G1 H1 I1 f1=>k G1 H1 I1 f1
end
noncomputable def eAnd (a b:ME):ME:=fun ρ=>(a ρ).bind fun p=>match p.1 with
 | .bl true=>b p.2
 | .bl false=>some (.bl false,p.2)
 |_=>none
noncomputable def eOr (a b:ME):ME:=fun ρ=>(a ρ).bind fun p=>match p.1 with
 | .bl true=>some (.bl true,p.2)
 | .bl false=>b p.2
 |_=>none
section
variable {X:Cx} {a b c:Expr} {ma mb:ME} {pos:Pos} {rest:List Expr} {op:BoolOp}
noncomputable def eIf (c:MT)(a b:ME):ME:=fun ρ=>(c ρ).bind fun p=>if p.1 then a p.2 else b p.2
theorem zlk (hc:STt X c mc)(ha:SE X a ma)(hb:SE X b mb):SE X (.IfExp c a b pos) (eIf mc ma mb):=by
 refine hc.el fun tc pc sc=>?_
 refine ha.el fun ta pa sa=>?_
 refine hb.el fun tb pb sb=>?_
 refine⟨_,pe_ifExp pc pa pb,fun B G H σ ρ d ρ' Q I hm k=>?_⟩
 refine zaz hm fun x ρ1 e1 e2=>?_
 refine sc B G H σ ρ x ρ1 _ I e1 fun G1 H1 I1 f1=>?_
 cases x with
 |true=>exact sa B G1 H1 σ ρ1 d ρ' Q I1 e2 fun G2 H2 v I2 f2 r2=>k G2 H2 v I2 (f1.trans f2) r2
 |false=>exact sb B G1 H1 σ ρ1 d ρ' Q I1 e2 fun G2 H2 v I2 f2 r2=>k G2 H2 v I2 (f1.trans f2) r2
end
noncomputable def eChain (f g:D->D->Option D)(a b c:ME):ME:=fun ρ=>(a ρ).bind fun p=>(b p.2).bind fun q=>(f p.1 q.1).bind fun t=>match t with
 | .bl true=>(c q.2).bind fun r=>(g q.1 r.1).map fun d=>(d,r.2)
 | .bl false=>some (.bl false,q.2)
 |_=>none
inductive Fl where
 |next|brk|cont|ret (r:Sl)
noncomputable abbrev MS:=R->Option (Fl×R)
noncomputable def ResOk (K:W.Frag)(B:Bs)(G H:Hp)(v:V):Sl->Prop
 | .val d=>RepD K G v d
 | .own ds=>∃l xs,v= .ref l/\G l=none/\H l=some (.lst xs)/\RepL K G xs ds/\B.H l=none
 | .tre t=>∃A,RepT K G H v t A/\A.Nodup/\∀a∈A,G a=none/\B.H a=none
 | .two ds es=>∃t l xs m ys,v= .ref t/\H t=some (.tup [.ref l,.ref m])/\l≠m/\G l=none/\H l=some (.lst xs)/\RepL K G xs ds/\B.H l=none/\G m=none/\H m=some (.lst ys)/\RepL K G ys es/\B.H m=none
 |_=>False
noncomputable def Post (K:W.Frag)(B:Bs)(G:Hp)(E:Ends)(fl:Fl)(ρ':R):Prop:=match fl with
 | .next=>∀G' H' σ',SI K B G' H' σ' ρ'->Fz G G'->E.nx σ' H'
 | .brk=>∀G' H' σ',SI K B G' H' σ' ρ'->Fz G G'->E.bk σ' H'
 | .cont=>∀G' H' σ',SI K B G' H' σ' ρ'->Fz G G'->E.ct σ' H'
 | .ret r=>∀G' H' σ' v,SI K B G' H' σ' ρ'->Fz G G'->ResOk K B G' H' v r->E.rt v H'
theorem Post.mono {G G1:Hp}{E:Ends}{fl:Fl}(h:Post K B G E fl ρ')(f:Fz G G1):Post K B G1 E fl ρ':=by
 cases fl with
 |next=>exact fun G' H' σ' I g=>h G' H' σ' I (f.trans g)
 |brk=>exact fun G' H' σ' I g=>h G' H' σ' I (f.trans g)
 |cont=>exact fun G' H' σ' I g=>h G' H' σ' I (f.trans g)
 |ret r=>exact fun G' H' σ' v I g=>h G' H' σ' v I (f.trans g)
noncomputable def SSb (X:Cx)(st:Stmt)(m:MS)(t:TS):Prop:=∀B G H σ ρ fl ρ' (E:Ends),SI X.K B G H σ ρ->m ρ=some (fl,ρ')->Post X.K B G E fl ρ'->t E σ H
noncomputable def SS (X:Cx)(st:Stmt)(m:MS):Prop:=∃t,PS X st t/\SSb X st m t
theorem SS.el {st:Stmt}(h:SS X st m)(k:∀t,PS X st t->SSb X st m t->C):C:=h.elim fun t q=>k t q.1 q.2
noncomputable def SSsb (X:Cx)(st:List Stmt)(m:MS)(t:TS):Prop:=∀B G H σ ρ fl ρ' (E:Ends),SI X.K B G H σ ρ->m ρ=some (fl,ρ')->Post X.K B G E fl ρ'->t E σ H
noncomputable def SSs (X:Cx)(st:List Stmt)(m:MS):Prop:=∃t,PSs X st t/\SSsb X st m t
theorem SSs.el {st:List Stmt}(h:SSs X st m)(k:∀t,PSs X st t->SSsb X st m t->C):C:=h.elim fun t q=>k t q.1 q.2
noncomputable def zdG:MS:=fun ρ=>some (.next,ρ)
noncomputable def sSeq (a b:MS):MS:=fun ρ=>(a ρ).bind fun p=>match p.1 with
 | .next=>b p.2
 |f=>some (f,p.2)
section
variable {X:Cx} {st:Stmt} {rest:List Stmt} {m n:MS} {e:Expr} {me:ME} {pos:Pos}
theorem za7:SSs X [] zdG:=⟨_,pss_nil,fun B G H σ ρ fl ρ' E I hm k=>by obtain⟨rfl,rfl⟩:=cSp hm;exact k G H σ I (Fz.refl G)⟩
theorem zaj (h:SS X st m):SSs X [st] m:=h.el fun t p s=>⟨t,pss_one p,s⟩
theorem zad (h:SS X st m)(hr:SSs X rest n):SSs X (st::rest) (sSeq m n):=by
 refine h.el fun t p s=>?_
 refine hr.el fun u q z=>?_
 refine⟨_,pss_cons p q,fun B G H σ ρ fl ρ' E I hm k=>?_⟩
 refine zaz hm fun f ρ1 e1 e2=>?_
 refine s B G H σ ρ f ρ1 _ I e1 ?_
 cases f with
 |next=>exact fun G1 H1 σ1 I1 f1=>z B G1 H1 σ1 ρ1 fl ρ' E I1 e2 (k.mono f1)
 |brk=>obtain⟨rfl,rfl⟩:=cSp e2;exact k
 |cont=>obtain⟨rfl,rfl⟩:=cSp e2;exact k
 |ret r=>obtain⟨rfl,rfl⟩:=cSp e2;exact k
noncomputable def zmP (m:ME):MS:=fun ρ=>(m ρ).map fun p=>(.next,p.2)
theorem zj7 (h:SE X e me)(hs:autoParam (swapsWith e none pos.line X.env=pure false) zu3._auto_1):SS X (.Expr e pos) (zmP me):=by
 refine h.el fun t p s=>?_
 refine⟨_,zkj p hs,fun B G H σ ρ fl ρ' E I hm k=>?_⟩
 refine zdO hm fun d ρ1 e1 e2=>?_
 cases e2
 exact s B G H σ ρ d ρ1 _ I e1 fun G1 H1 v I1 f1 _=>k G1 H1 σ I1 f1
noncomputable def sRet (m:ME):MS:=fun ρ=>(m ρ).map fun p=>(.ret (.val p.1),p.2)
theorem zaU (h:SE X e me):SS X (.Return (some e) pos) (sRet me):=by
 refine h.el fun t p s=>?_
 refine⟨_,zoJ p,fun B G H σ ρ fl ρ' E I hm k=>?_⟩
 refine zdO hm fun d ρ1 e1 e2=>?_
 cases e2
 exact s B G H σ ρ d ρ1 _ I e1 fun G1 H1 v I1 f1 r1=>k G1 H1 σ v I1 f1 r1
noncomputable def zhr (m:MO):MS:=fun ρ=>(m ρ).map fun p=>(.ret (.own p.1),p.2)
theorem zdj {mo:MO}(h:SO X e mo):SS X (.Return (some e) pos) (zhr mo):=by
 refine h.el fun t p s=>?_
 refine⟨_,zoJ p,fun B G H σ ρ fl ρ' E I hm k=>?_⟩
 refine zdO hm fun d ρ1 e1 e2=>?_
 cases e2
 exact s B G H σ ρ d ρ1 _ I e1 fun G1 H1 l xs I1 f1 g1 h1 r1 b1 _=>k G1 H1 σ _ I1 f1 ⟨l,xs,rfl,g1,h1,r1,b1⟩
theorem SI.emp (I:SI K B G H σ ρ)(i:Nat):SI K B G H σ (ρ.set i .emp):=by
 by_cases hi:i<ρ.length
 ·have hs:σ[i]? =some (σ[i]'(by rw[I.len];exact hi)):=List.getElem?_eq_getElem _
  have h:=I.chg (i:=i) (ov:=σ[i]'(by rw[I.len];exact hi)) (s':= .emp) I.fz (Fz.refl G) I.new I.keep I.there (fun _ _ _ _ _ _ g _=>⟨g,rfl,id⟩) trivial
  rwa[zgW hs]at h
 ·rw[List.set_eq_of_length_le (by lia)];exact I
noncomputable def zic (i:Nat):MS:=fun ρ=>match ρ[i]? with
 |some (.val d)=>some (.ret (.val d),ρ)
 |some (.own ds)=>some (.ret (.own ds),ρ.set i .emp)
 |_=>none
theorem zfg (i:Nat)(hN:autoParam (X.N[i]? =some x) zu3._auto_1)(hv:autoParam (Vis X.env.scope x) zu5._auto_1)(hd:autoParam ((x==("__debug__":Str))=false) zu1._auto_1)
  (hcd:autoParam ((x==("__classdict__":Str))=false) zu1._auto_1):SS X (.Return (some (.Name x pos')) pos) (zic i):=by
 refine⟨_,zoJ (zb3 hN hv hd hcd),fun B G H σ ρ fl ρ' E I hm k=>?_⟩
 unfold zic at hm
 cases e:ρ[i]? with
 |none=>rw[e]at hm;exact cNN hm
 |some s=>
  rw[e]at hm
  have h:=I.slot i s e
  cases s with
  |emp=>exact cNN hm
  |two _ _=>exact cNN hm
  |tre _=>exact cNN hm
  |ptr _=>exact cNN hm
  |par ds=>exact cNN hm
  |val d=>obtain⟨rfl,rfl⟩:=cSp hm;obtain⟨v,h1,h2⟩:=h;exact⟨v,h1,k G H σ v I (Fz.refl G) h2⟩
  |own ds=>
   obtain⟨rfl,rfl⟩:=cSp hm
   obtain⟨l,xs,h1,h2,h3,h4,h5⟩:=h
   exact⟨.ref l,h1,k G H σ _ (I.emp i) (Fz.refl G) ⟨l,xs,rfl,h2,h3,h4,h5⟩⟩
noncomputable def sIf (c:MT)(a b:MS):MS:=fun ρ=>(c ρ).bind fun p=>if p.1 then a p.2 else b p.2
theorem zdH {c:Expr}{a b:List Stmt}{ma mb:MS}(hc:STt X c mc)(ha:SSs X a ma)(hb:SSs X b mb):SS X (.If c a b pos) (sIf mc ma mb):=by
 refine hc.el fun tc pc sc=>?_
 refine ha.el fun ta pa sa=>?_
 refine hb.el fun tb pb sb=>?_
 refine⟨_,ps_if pc pa pb,fun B G H σ ρ fl ρ' E I hm k=>?_⟩
 refine zaz hm fun x ρ1 e1 e2=>?_
 refine sc B G H σ ρ x ρ1 _ I e1 fun G1 H1 I1 f1=>?_
 cases x with
 |true=>exact sa B G1 H1 σ ρ1 fl ρ' E I1 e2 (k.mono f1)
 |false=>exact sb B G1 H1 σ ρ1 fl ρ' E I1 e2 (k.mono f1)
end
noncomputable def SGb (X:Cx)(tg:Expr)(g:D->R->Option R)(t:TG):Prop:=∀B G H σ ρ v d ρ' (Q:St->Hp->Prop),SI X.K B G H σ ρ->RepD X.K G v d->g d ρ=some ρ'->(∀G' H' σ',SI X.K B G' H' σ' ρ'->Fz G G'->Q σ' H')->t v σ H Q
noncomputable def SG (X:Cx)(tg:Expr)(g:D->R->Option R):Prop:=∃t,PG X tg t/\SGb X tg g t
theorem SG.el (h:SG X tg g)(k:∀t,PG X tg t->SGb X tg g t->C):C:=h.elim fun t q=>k t q.1 q.2
noncomputable def SGsb (X:Cx)(tgs:List Expr)(g:List D->R->Option R)(t:TGs):Prop:=∀B G H σ ρ vs ds ρ' (Q:St->Hp->Prop),SI X.K B G H σ ρ->RepL X.K G vs ds->g ds ρ=some ρ'->(∀G' H' σ',SI X.K B G' H' σ' ρ'->Fz G G'->Q σ' H')->t vs σ H Q
noncomputable def SGs (X:Cx)(tgs:List Expr)(g:List D->R->Option R):Prop:=∃t,PGs X tgs t/\SGsb X tgs g t
theorem SGs.el {g:List D->R->Option R}(h:SGs X tgs g)(k:∀t,PGs X tgs t->SGsb X tgs g t->C):C:=h.elim fun t q=>k t q.1 q.2
noncomputable def gN (i:Nat):D->R->Option R:=fun d ρ=>some (ρ.set i (.val d))
noncomputable def zg0:List D->R->Option R:=fun ds ρ=>match ds with
 |[]=>some ρ
 |_=>none
noncomputable def za5 (g:D->R->Option R)(h:List D->R->Option R):List D->R->Option R:=fun ds ρ=>match ds with
 |d::ds=>(g d ρ).bind fun ρ1=>h ds ρ1
 |[]=>none
noncomputable def gT (n:Nat)(g:List D->R->Option R):D->R->Option R:=fun d ρ=>match d with
 | .tup ds=>if ds.length=n then g ds ρ else none
 |_=>none
section
variable {X:Cx} {pos:Pos}
theorem zak (i:Nat)(hN:X.N.Nodup)(hi:autoParam (X.N[i]? =some x) zu3._auto_1)(hx:autoParam (Loc X.env.scope x) zu5._auto_1)(hf:autoParam (X.fn x=true\/X.env.scope.names.lookup x=some .local) zu5._auto_1):SG X (.Name x pos) (gN i):=
 ⟨_,zn6 hN hi hx hf,fun B G H σ ρ v d ρ' Q I r hm k=>by cases hm;exact k G H _ (I.set r) (Fz.refl G)⟩
theorem zcE:SGs X [] zg0:=⟨_,pgs_nil,fun B G H σ ρ vs ds ρ' Q I r hm k=>by
 cases ds with
 |nil=>cases hm;exact⟨r,k G H σ I (Fz.refl G)⟩
 |cons=>exact cNN hm⟩
theorem zaF {e:Expr}(h1:SG X e g)(h2:SGs X es h)(hs:autoParam ((assignEach (e::es) X.env).map (·.2)=assign e X.env::(assignEach es X.env).map (·.2)) zu3._auto_1):SGs X (e::es) (za5 g h):=by
 refine h1.el fun t p s=>?_
 refine h2.el fun u q z=>?_
 refine⟨_,pgs_cons p q hs,fun B G H σ ρ vs ds ρ' Q I r hm k=>?_⟩
 cases ds with
 |nil=>exact cNN hm
 |cons d ds=>
  obtain⟨x,ys,rfl,rx,ry⟩:=r
  refine cBel hm fun ρ1 e1 e2=>?_
  exact⟨x,ys,rfl,s B G H σ ρ x d ρ1 _ I rx e1 fun G1 H1 σ1 I1 f1=>z B G1 H1 σ1 ρ1 ys ds ρ' Q I1 (ry.mono f1) e2 fun G2 H2 σ2 I2 f2=>k G2 H2 σ2 I2 (f1.trans f2)⟩
theorem ze0 {g:List D->R->Option R}(hc:X.calm=true)(h:SGs X es g)(hn:autoParam ((assignEach es X.env).length=n) zu3._auto_1)(hst:autoParam ((assignEach es X.env).findIdx? (·.1)=none) zu3._auto_1):SG X (.Tuple es k pos) (gT n g):=by
 refine h.el fun t p s=>?_
 refine⟨_,pg_tup hc p hn hst,fun B G H σ ρ v d ρ' Q I r hm k=>?_⟩
 cases d<;>try exact cNN hm
 rename_i ds
 simp only[gT]at hm
 refine cIte hm fun hl hm=>?_
 obtain⟨a,xs,e,ha,rx⟩:=I.tup r
 exact⟨a,xs,e,SqT.of ha,by rw[rx.length];exact hl,s B G H σ ρ xs ds ρ' Q I rx hm k⟩
variable {e tg:Expr} {me:ME} {mo:MO}
noncomputable def sAsg (m:ME)(g:D->R->Option R):MS:=fun ρ=>(m ρ).bind fun p=>(g p.1 p.2).map fun ρ'=>(.next,ρ')
theorem ss_asg (he:SE X e me)(hg:SG X tg g)(hs:autoParam (swapsWithSole [tg] e pos.line X.env=pure false) zu3._auto_1)(hw:autoParam (swappedStores [tg] e X.env=pure none) zu3._auto_1)
  (h1:autoParam ((assignEach [tg] X.env).map (·.2)=[assign tg X.env]) zu3._auto_1):SS X (.Assign [tg] e pos) (sAsg me g):=by
 refine he.el fun t p s=>?_
 refine hg.el fun u q z=>?_
 refine⟨_,znm p q hs hw h1,fun B G H σ ρ fl ρ' E I hm k=>?_⟩
 refine zaz hm fun d ρ1 e1 h2=>?_
 refine cMel h2 fun ρ2 e2 e3=>?_
 obtain⟨rfl,rfl⟩:=Prod.mk.inj e3
 exact s B G H σ ρ d ρ1 _ I e1 fun G1 H1 v I1 f1 r1=>z B G1 H1 σ ρ1 v d ρ2 _ I1 r1 e2 fun G2 H2 σ2 I2 f2=>k G2 H2 σ2 I2 (f1.trans f2)
noncomputable def sSet (i:Nat)(m:ME):MS:=fun ρ=>(m ρ).map fun p=>(.next,p.2.set i (.val p.1))
theorem zat (i:Nat)(he:SE X e me)(hN:X.N.Nodup)(hi:autoParam (X.N[i]? =some x) zu3._auto_1)(hx:autoParam (Loc X.env.scope x) zu5._auto_1)(hs:autoParam (swapsWith e (some (.Name x pos')) pos.line X.env=pure false) zu3._auto_1)
    (hf:autoParam (X.fn x=true\/X.env.scope.names.lookup x=some .local) zu5._auto_1):SS X (.Assign [.Name x pos'] e pos) (sSet i me):=by
  refine he.el fun t p s=>?_
  refine⟨_,zot hN hi hx p hs hf,fun B G H σ ρ fl ρ' E I hm k=>?_⟩
  refine zdO hm fun d ρ1 e1 e3=>?_
  cases e3
  exact s B G H σ ρ d ρ1 _ I e1 fun G1 H1 v I1 f1 r1=>k G1 H1 _ (I1.set r1) f1
noncomputable def zju (i:Nat)(m:MO):MS:=fun ρ=>(m ρ).map fun p=>(.next,p.2.set i (.own p.1))
theorem zgg (i:Nat)(he:SO X e mo)(hN:X.N.Nodup)(hi:autoParam (X.N[i]? =some x) zu3._auto_1)(hx:autoParam (Loc X.env.scope x) zu5._auto_1)(hs:autoParam (swapsWith e (some (.Name x pos')) pos.line X.env=pure false) zu3._auto_1)
    (hf:autoParam (X.fn x=true\/X.env.scope.names.lookup x=some .local) zu5._auto_1):SS X (.Assign [.Name x pos'] e pos) (zju i mo):=by
  refine he.el fun t p s=>?_
  refine⟨_,zot hN hi hx p hs hf,fun B G H σ ρ fl ρ' E I hm k=>?_⟩
  refine zdO hm fun d ρ1 e1 e3=>?_
  cases e3
  exact s B G H σ ρ d ρ1 _ I e1 fun G1 H1 l xs I1 f1 g1 h1 r1 b1 n1=>k G1 H1 _ (I1.setO g1 h1 r1 b1 n1) f1
noncomputable def sApp (i:Nat)(m:ME):MS:=fun ρ=>if(ρ[i]?.bind Sl.items).isSome then(m ρ).bind fun p=>p.2[i]?.bind fun s=>s.items.bind fun ds=>if ds.length<16777216 then some (.next,p.2.set i (s.put (ds++[p.1])))else none else none
theorem zlp (i:Nat){pos' apos cpos:Pos}(he:SE X e me)(hN:autoParam (X.N[i]? =some x) zu3._auto_1)(hv:autoParam (Vis X.env.scope x) zu5._auto_1)(hd:autoParam ((x==("__debug__":Str))=false) zu1._auto_1)
  (hcd:autoParam ((x==("__classdict__":Str))=false) zu1._auto_1)
  (hbase:autoParam (attributeBase (.Name x pos') "append" X.env (eval (.Name x pos') X.env)=eval (.Name x pos') X.env) zu3._auto_1)
  (hfew :autoParam (((backTo cpos (starEach [e] X.env)).all (fun x => !x.1) && (backToKw cpos (keywordEach [] X.env)).all (fun x => x.1.isSome)
   &&decide ([e].length+([]:List Keyword).length+(if([]:List Keyword).isEmpty then 0 else 1)<30))=true) zu3._auto_1)
  (hline:autoParam ((apos.endLine==cpos.line)=true) zu3._auto_1) (hs:autoParam (starEach [e] X.env=(false,eval e X.env)::starEach [] X.env) zu3._auto_1):SS X (.Expr (.Call (.Attribute (.Name x pos') "append" apos) [e] [] cpos) pos) (sApp i me):=by
 refine he.el fun t p s=>?_
 refine⟨_,zkj (pe_bm PySem.F.plainAttrs_list PySem.F.slot_list_append PySem.F.type_list_append zjL (zb3 hN hv hd hcd) (zgf p zjy hs) hbase hfew hline hs rfl) (by rfl),fun B G H σ ρ fl ρ' E I hm k=>?_⟩
 unfold sApp at hm
 refine cIte hm fun hso hm=>?_
 obtain⟨ds0,hso⟩:=Option.isSome_iff_exists.mp hso
 refine cBel hso fun s0 e0 q0=>?_
 obtain⟨l,xs0,h1,h2,h3,h4⟩:=I.wr e0 q0
 refine zaz hm fun d ρ1 e1 hm=>?_
 refine cBel hm fun s1 e2 hm=>?_
 refine cBel hm fun ds e3 hm=>?_
 refine cIte hm fun hl hm=>?_
 obtain⟨rfl,rfl⟩:=cSp hm
 refine⟨.ref l,h1,.inl ⟨rfl,_,SqL.of h3⟩,s B G H σ ρ d ρ1 _ I e1 fun G1 H1 v I1 f1 r1=>?_⟩
 obtain⟨l',xs,k1,k2,k3,k4⟩:=I1.wr e2 e3
 rw[h1]at k1;cases k1
 refine⟨l,xs,v,rfl,rfl,k3,by rw[k4.length,sizeLine_eq];exact hl,?_⟩
 exact k G1 _ σ (I1.write e2 e3 h1 (k4.snoc r1)) f1
noncomputable def sPut (j:Nat)(mi me:ME):MS:=fun ρ=>(me ρ).bind fun p=>if hasV p.2 j then(mi p.2).bind fun q=>match q.1 with
 | .int k=>q.2[j]?.bind fun s=>s.items.bind fun ds=>(ixN ds.length k).bind fun n=>some (.next,q.2.set j (s.put (ds.set n p.1)))
 |_=>none else none
theorem ss_put (j:Nat){i:Expr}{mi:ME}{pos' tpos:Pos}(he:SE X e me)(hi:SE X i mi)(hN:autoParam (X.N[j]? =some x) zu3._auto_1)(hv:autoParam (Vis X.env.scope x) zu5._auto_1)(hd:autoParam ((x==("__debug__":Str))=false) zu1._auto_1)
  (hcd:autoParam ((x==("__classdict__":Str))=false) zu1._auto_1)
  (ha :autoParam (∀ v, assign (.Subscript (.Name x pos') i tpos) X.env v = (do
   let ov<-holding [v] (eval (.Name x pos') X.env)
   let iv<-holding [v,ov] (eval i X.env)
   standAt tpos
   holding [v,ov,iv] (setItem ov iv v)
   release [v,ov,iv] [])) zu8._auto_1)
  (hs:autoParam (swapsWithSole [.Subscript (.Name x pos') i tpos] e pos.line X.env=pure false) zu3._auto_1) (hw:autoParam (swappedStores [.Subscript (.Name x pos') i tpos] e X.env=pure none) zu3._auto_1)
  (h1:autoParam ((assignEach [.Subscript (.Name x pos') i tpos] X.env).map (·.2)=[assign (.Subscript (.Name x pos') i tpos) X.env]) zu3._auto_1):SS X (.Assign [.Subscript (.Name x pos') i tpos] e pos) (sPut j mi me):=by
 refine he.el fun t p s=>?_
 refine hi.el fun u q z=>?_
 refine⟨_,znm p (zm9 (zb3 hN hv hd hcd) q ziL ha) hs hw h1,fun B G H σ ρ fl ρ' E I hm k=>?_⟩
 refine zaz hm fun d ρ1 e1 hm=>?_
 refine s B G H σ ρ d ρ1 _ I e1 fun G1 H1 v I1 f1 r1=>?_
 refine cIte hm fun hh hm=>?_
 obtain⟨w,ew⟩:=I1.has hh
 refine zaz hm fun kd ρ2 e2 hm=>?_
 cases kd<;>try exact cNN hm
 rename_i kk
 refine cBel hm fun s2 e3 hm=>?_
 refine cBel hm fun ds e4 hm=>?_
 refine cBel hm fun n e5 hm=>?_
 obtain⟨rfl,rfl⟩:=cSp hm
 refine⟨w,ew,z B G1 H1 σ ρ1 (.int kk) ρ2 _ I1 e2 fun G2 H2 y I2 f2 r2=>?_⟩
 obtain⟨l,xs,k1,k2,k3,k4⟩:=I2.wr e3 e4
 rw[ew]at k1;cases k1
 refine⟨l,xs,kk,n,rfl,r2,k3,by rw[k4.length];exact e5,?_⟩
 exact k G2 _ σ (I2.write e3 e4 ew (k4.set n (r1.mono f2))) (f1.trans f2)
end
structure Itm (K:W.Frag) (J:It) (G:Hp) (items:List D):Prop where
 go:∀H i,Fz G H->i<items.length->J.go i H
 yld:∀H i x H',Fz G H->J.yld i H x H'->∀d,items[i]? =some d->(H'=H/\RepD K G x d)\/∃p xs ds,H p=none/\H'=upd H p (.tup xs)/\x= .ref p/\d= .tup ds/\RepL K G xs ds
 stop:∀H i,Fz G H->items.length<=i->J.stop i H
noncomputable def SItb (X:Cx)(tg it:Expr)(m:MA)(wi:TI):Prop:=∀B G H σ ρ ds ρ' (Q:It->Hp->Prop),SI X.K B G H σ ρ->m ρ=some (ds,ρ')->(∀J G' H',SI X.K B G' H' σ ρ'->Fz G G'->Itm X.K J G' ds->Q J H')->wi σ H Q
noncomputable def SIt (X:Cx)(tg it:Expr)(m:MA):Prop:=∃wi,PI X tg it wi/\SItb X tg it m wi
theorem SIt.el {m:MA}(h:SIt X tg it m)(k:∀wi,PI X tg it wi->SItb X tg it m wi->C):C:=h.elim fun wi q=>k wi q.1 q.2
noncomputable def forM (f:D->R->Option (Fl×R)):List D->R->Option (Fl×R)
 |[],ρ=>some (.next,ρ)
 |d::ds,ρ=>(f d ρ).bind fun p=>match p.1 with
  | .next=>forM f ds p.2
  | .cont=>forM f ds p.2
  | .brk=>some (.next,p.2)
  | .ret r=>some (.ret r,p.2)
noncomputable def sFor (mi:MA)(g:D->R->Option R)(mb:MS):MS:=fun ρ=>(mi ρ).bind fun p=>forM (fun d ρ=>(g d ρ).bind fun ρ'=>mb ρ') p.1 p.2
theorem SI.yld {x:V}(I:SI K B G H σ ρ)
  (h:(H'=H/\RepD K G x d)\/∃p xs ds,H p=none/\H'=upd H p (.tup xs)/\x= .ref p/\d= .tup ds/\RepL K G xs ds):∃G',SI K B G' H' σ ρ/\Fz G G'/\RepD K G' x d:=by
 rcases h with⟨rfl,r⟩|⟨p,xs,ds,hp,rfl,rfl,rfl,r⟩
 ·exact⟨G,I,Fz.refl G,r⟩
 ·obtain⟨I2,f2,r2⟩:=I.newT hp r
  exact⟨_,I2,f2,r2⟩
theorem zcz {mi:MA}{mb:MS}(hp:PassesOwn (model X.prog X.w) X.A X.env X.xe)(hc:X.calm=true)(hi:SIt X tg it mi)(hg:SG X tg g)(hb:SSs X body mb)
    (hs:autoParam (∀x,foldedSetIterable it X.env x=pure x) zu8._auto_1):SS X (.For tg it body [] pos) (sFor mi g mb):=by
  refine hi.el fun wi pi si=>?_
  refine hg.el fun tg' pg sg=>?_
  refine hb.el fun tb pb sb=>?_
  refine⟨_,ps_for hp hc pi pg pb hs,fun B G H σ ρ fl ρ' E I hm k=>?_⟩
  refine zaz hm fun ds ρ1 e1 hm=>?_
  refine si B G H σ ρ ds ρ1 _ I e1 fun J G1 H1 I1 f1 IT=>?_
  refine⟨fun i m σ H=>m=ds.length-i/\i<=ds.length/\∃G2 ρ2,SI X.K B G2 H σ ρ2/\Fz G1 G2/\forM (fun d ρ=>(g d ρ).bind fun ρ'=>mb ρ') (ds.drop i) ρ2=some (fl,ρ'),⟨ds.length,by simp,Nat.zero_le _,G1,ρ1,I1,Fz.refl _,by simpa using hm⟩,?_⟩
  rintro i m σ2 H2 ⟨rfl,hi,G2,ρ2,I2,f2,e2⟩
  by_cases hlt:i<ds.length
  . rw[List.drop_eq_getElem_cons hlt]at e2
    simp only[forM]at e2
    refine zaz e2 fun f ρ3 e3 e4=>?_
    refine cBel e3 fun ρ2' e5 e6=>?_
    have fz2:Fz G1 H2:=f2.trans I2.fz
    refine .inr ⟨IT.go H2 i fz2 hlt,fun σ' H'=>(∃G3,SI X.K B G3 H' σ' ρ3/\Fz G1 G3)/\(f= .next\/f= .cont),?_,fun x H' y=>?_⟩
    . rintro σ' H' ⟨⟨G3,I3,f3⟩,hf⟩
      refine⟨ds.length-(i+1),by lia,rfl,hlt,G3,ρ3,I3,f3,?_⟩
      rcases hf with rfl|rfl<;>exact e4
    . have yy:=IT.yld H2 i x H' fz2 y ds[i] (List.getElem?_eq_getElem hlt)
      have yy2:(H'=H2/\RepD X.K G2 x ds[i])\/∃p xs es,H2 p=none/\H'=upd H2 p (.tup xs)/\x= .ref p/\ds[i]= .tup es/\RepL X.K G2 xs es:=by
        rcases yy with⟨a,b⟩|⟨p,xs,es,a,b,c,d,e⟩
        . exact .inl ⟨a,b.mono f2⟩
        . exact .inr ⟨p,xs,es,a,b,c,d,e.mono f2⟩
      obtain⟨G3,I3,f3,r3⟩:=I2.yld yy2
      refine sg B G3 H' σ2 ρ2 x ds[i] ρ2' _ I3 r3 e5 fun G4 H4 σ4 I4 f4=>sb B G4 H4 σ4 ρ2' f ρ3 _ I4 e6 ?_
      have ff:Fz G1 G4:=f2.trans (f3.trans f4)
      cases f with
      |next=>exact fun G5 H5 σ5 I5 f5=>⟨⟨G5,I5,ff.trans f5⟩,.inl rfl⟩
      |cont=>exact fun G5 H5 σ5 I5 f5=>⟨⟨G5,I5,ff.trans f5⟩,.inr rfl⟩
      |brk=>obtain⟨rfl,rfl⟩:=cSp e4;exact fun G5 H5 σ5 I5 f5=>k G5 H5 σ5 I5 (f1.trans (ff.trans f5))
      |ret r=>obtain⟨rfl,rfl⟩:=cSp e4;exact fun G5 H5 σ5 v I5 f5=>k G5 H5 σ5 v I5 (f1.trans (ff.trans f5))
  . have e:i=ds.length:=by lia
    subst e
    rw[List.drop_length]at e2
    obtain⟨rfl,rfl⟩:=cSp e2
    exact .inl ⟨IT.stop H2 _ (f2.trans I2.fz) (Nat.le_refl _),k G2 H2 σ2 I2 (f1.trans f2)⟩
section
variable {X:Cx} {tg it:Expr} {me:ME}
noncomputable def iSeq (m:ME):MA:=fun ρ=>(m ρ).bind fun p=>(zaG [p.1]).map fun ds=>(ds,p.2)
theorem pi_or {l:Expr}{tl:TE}(hl:PE X l tl):PI X tg l (fun σ H R=>tl σ H fun x H1=>∃a,x= .ref a/\(((∃xs,SqL X.K H1 a xs)/\R (Itl X.K a) H1)\/((∃xs,SqT X.K H1 a xs)/\R (Itt X.K a) H1))):=by
 intro pins s σ H R I h
 refine thn (hl pins s σ H _ I h) fun v s1 ⟨x,H1,I1,r1,q1⟩=>?_
 obtain⟨a,e,q⟩:=q1
 subst e
 cases r1
 rcases q with⟨⟨xs,hq⟩,q⟩|⟨⟨xs,hq⟩,q⟩
 ·obtain⟨its,rv,p,hz⟩:=I1.list hq
  refine wpAny_pyIter_list p.isList ?_
  refine⟨s1.heap.objs.size,[s1.heap.objs.size],_,_,H1,rfl,I1.kept (t':=s1.toks) fun b o e=>Heap.get?_push_of_some _ e,zom a _,⟨_,Heap.get?_push_size _ rfl,rfl,rfl⟩,fun b hb=>?_,q⟩
  have e:b=s1.heap.objs.size:=by simpa using hb
  subst e
  exact I1.fpOk (Nat.le_refl _) (I1.hok.fresh (Nat.le_refl _))
 ·obtain⟨its,rv,p,hz⟩:=I1.tuple hq
  refine wpAny_pyIter_tuple (show s1.heap.IsTuple a its.toArray from p) ?_
  refine⟨s1.heap.objs.size,[s1.heap.objs.size],_,_,H1,rfl,I1.kept (t':=s1.toks) fun b o e=>Heap.get?_push_of_some _ e,zl9 a _,⟨_,Heap.get?_push_size _ rfl,rfl,rfl⟩,fun b hb=>?_,q⟩
  have e:b=s1.heap.objs.size:=by simpa using hb
  subst e
  exact I1.fpOk (Nat.le_refl _) (I1.hok.fresh (Nat.le_refl _))
theorem zlI {a:Addr}(hg:SqL K G a xs)(r:RepL K G xs ds):Itm K (Itl K a) G ds where
 go:=fun H i f hi=>by
  have hl:=r.length
  exact⟨xs,xs[i],f.sql hg,List.getElem?_eq_getElem (by lia)⟩
 yld:=fun H i x H' f y d e=>by
  obtain⟨rfl,y⟩:=y
  have hx:=y xs (f.sql hg)
  obtain⟨x',h1,h2⟩:=r.get e
  rw[hx]at h1;cases h1
  exact .inl ⟨rfl,h2⟩
 stop:=fun H i f hi=>⟨xs,f.sql hg,by rw[r.length];exact hi⟩
theorem itm_tup {a:Addr}(hg:G a=some (.tup xs))(r:RepL K G xs ds):Itm K (Itt K a) G ds where
 go:=fun H i f hi=>by
  have hl:=r.length
  exact⟨xs,xs[i],SqT.of (f _ _ hg),List.getElem?_eq_getElem (by lia)⟩
 yld:=fun H i x H' f y d e=>by
  obtain⟨rfl,y⟩:=y
  have hx:=y xs (SqT.of (f _ _ hg))
  obtain⟨x',h1,h2⟩:=r.get e
  rw[hx]at h1;cases h1
  exact .inl ⟨rfl,h2⟩
 stop:=fun H i f hi=>⟨xs,SqT.of (f _ _ hg),by rw[r.length];exact hi⟩
theorem zba (h:SE X it me):SIt X tg it (iSeq me):=by
 refine h.el fun t p s=>?_
 refine⟨_,pi_or p,fun B G H σ ρ ds ρ' Q I hm k=>?_⟩
 refine zaz hm fun d ρ1 e1 hm=>?_
 refine cMel hm fun es e2 e3=>?_
 cases e3
 refine s B G H σ ρ d ρ1 _ I e1 fun G1 H1 v I1 f1 r1=>?_
 cases d<;>simp only[zaG]at e2<;>try cases e2
 ·obtain⟨a,xs,rfl,ha,r⟩:=r1
  exact⟨a,rfl,.inl ⟨⟨xs,SqL.of (I1.fz _ _ ha)⟩,k _ G1 H1 I1 f1 (zlI (SqL.of ha) r)⟩⟩
 ·obtain⟨a,xs,rfl,ha,r⟩:=r1
  exact⟨a,rfl,.inr ⟨⟨xs,SqT.of (I1.fz _ _ ha)⟩,k _ G1 H1 I1 f1 (itm_tup ha r)⟩⟩
 ·obtain⟨a,rfl,ha⟩:=r1
  exact⟨a,rfl,.inl ⟨⟨_,I1.fz.sql ha⟩,k _ G1 H1 I1 f1 (zlI ha (RepL.ints _))⟩⟩
end
noncomputable def zb0 (lo:Int)(n:Nat):List D:=(List.range n).map fun(i:Nat)=>D.int (lo+(i:Int))
theorem zjx (lo:Int)(n:Nat):Itm K (Itr lo n) G (zb0 lo n) where
 go:=fun H i f hi=>by show i<n;simpa[zb0]using hi
 yld:=fun H i x H' f y d e=>by
  obtain⟨rfl,rfl⟩:=y
  unfold zb0 at e
  rw[List.getElem?_map]at e
  cases q:(List.range n)[i]? with
  |none=>rw[q]at e;exact cNN e
  |some j=>
   rw[q]at e
   have hj:j=i:=by
    have:=List.getElem?_eq_some_iff.mp q
    obtain⟨h1,h2⟩:=this
    simpa using h2.symm
   subst hj
   cases e
   exact .inl ⟨rfl,rfl⟩
 stop:=fun H i f hi=>by show n<=i;simpa[zb0]using hi
noncomputable def zct (j:Int):Bool:=decide (-1000000000000<=j)&&decide (j<=1000000000000)
theorem za8 {j:Int}(h:zct j=true): -(2^62)<=j/\j<2^62:=by
 unfold zct at h
 simp only[Bool.and_eq_true,decide_eq_true_eq]at h
 lia
noncomputable def iR1 (ma:MA):MA:=fun ρ=>(ma ρ).bind fun p=>match p.1 with
 |[.int j]=>if zct j then some (zb0 0 j.toNat,p.2)else none
 |_=>none
noncomputable def iR2 (ma:MA):MA:=fun ρ=>(ma ρ).bind fun p=>match p.1 with
 |[.int i,.int j]=>if zct i&&zct j then some (zb0 i (j-i).toNat,p.2)else none
 |_=>none
section
variable {X:Cx} {tg a b:Expr} {ma:MA} {p pos:Pos}
theorem zaD (hm:X.mg "range"=none)(ha:SA X [a] ma)(hg:autoParam (Gl X "range") zu3._auto_1)(hs:autoParam (starEach [a] X.env=[(false,eval a X.env)]) zu3._auto_1):SIt X tg (.Call (.Name "range" p) [a] [] pos) (iR1 ma):=by
 obtain⟨t,pa,sa⟩:=ha
 refine⟨_,zoC hg hm pa hs,fun B G H σ ρ ds ρ' Q I hm k=>?_⟩
 obtain⟨⟨es,ρ1⟩,e1,h2⟩:=zdm hm
 dsimp only at h2
 refine sa B G H σ ρ es ρ1 _ I e1 fun G1 H1 vs I1 f1 r1=>?_
 split at h2
 ·rename_i j
  split at h2
  ·rename_i hj
   cases h2
   obtain⟨x,rfl,rx⟩:=r1.one
   cases(show x=V.int j from rx)
   exact⟨j,rfl,(za8 hj).1,(za8 hj).2,k _ G1 H1 I1 f1 (zjx 0 _)⟩
  ·exact cNN h2
 ·exact cNN h2
theorem zjw (hm:X.mg "range"=none)(ha:SA X [a,b] ma)(hg:autoParam (Gl X "range") zu3._auto_1)(hs:autoParam (starEach [a,b] X.env=[(false,eval a X.env),(false,eval b X.env)]) zu3._auto_1)(hs2:autoParam (starEach [b] X.env=[(false,eval b X.env)]) zu3._auto_1):SIt X tg (.Call (.Name "range" p) [a,b] [] pos) (iR2 ma):=by
 refine ha.el fun t pa sa=>?_
 refine⟨_,znb hg hm pa hs hs2,fun B G H σ ρ ds ρ' Q I hm k=>?_⟩
 refine zaz hm fun es ρ1 e1 h2=>?_
 dsimp only at h2
 refine sa B G H σ ρ es ρ1 _ I e1 fun G1 H1 vs I1 f1 r1=>?_
 split at h2
 ·rename_i i j
  refine cIte h2 fun hj h2=>?_
  simp only[Bool.and_eq_true]at hj
  obtain⟨rfl,rfl⟩:=cSp h2
  obtain⟨x,y,rfl,rx,ry⟩:=r1.two
  cases(show x=V.int i from rx)
  cases(show y=V.int j from ry)
  exact⟨i,j,rfl,⟨(za8 hj.1).1,(za8 hj.1).2,(za8 hj.2).1,(za8 hj.2).2⟩,k _ G1 H1 I1 f1 (zjx i _)⟩
 ·exact cNN h2
end
noncomputable def ResF (K:W.Frag)(G' H' H:Hp)(v:V):Sl->Prop
 | .val d=>RepD K G' v d
 | .own ds=>∃l xs,v= .ref l/\G' l=none/\H' l=some (.lst xs)/\RepL K G' xs ds/\H l=none
 | .tre t=>∃A,RepT K G' H' v t A/\A.Nodup/\∀a∈A,G' a=none/\H a=none
 | .two ds es=>∃t l xs m ys,v= .ref t/\H' t=some (.tup [.ref l,.ref m])/\l≠m/\G' l=none/\H' l=some (.lst xs)/\RepL K G' xs ds/\H l=none/\G' m=none/\H' m=some (.lst ys)/\RepL K G' ys es/\H m=none
 |_=>False
noncomputable def spP (K:W.Frag)(n:Nat)(F:List D->Option Sl):Sp:=fun vs H Q _=>∃G ds r,F ds=some r/\ds.length=n/\Fz G H/\RepL K G vs ds/\
 ∀G' H' v,Fz G G'->Fz G' H'->(∀b o,G' b=some o->G b≠none\/H b=none)->Fz H H'->ResF K G' H' H v r->Q v H'
noncomputable def spM (K:W.Frag)(n:Nat)(F:List D->List D->Option (Sl×List D)):Sp:=fun vs H Q _=>∃G l xs cs ws ds r out,vs= .ref l::ws/\F cs ds=some (r,out)/\ds.length+1=n/\Fz G H/\G l=none/\H l=some (.lst xs)/\RepL K G xs cs/\RepL K G ws ds/\
 ∀G' H' v ys,Fz G G'->Fz G' H'->(∀b o,G' b=some o->G b≠none\/H b=none)->(∀b o,b≠l->H b=some o->H' b=some o)->G' l=none->H' l=some (.lst ys)->RepL K G' ys out->ResF K G' H' H v r->Q v H'
noncomputable def fP (N:Nat)(m:MS):List D->Option Sl:=fun ds=>(m (ds.map .val++List.replicate (N-ds.length) .emp)).bind fun p=>match p.1 with
 | .ret r=>some r
 | .next=>some (.val .non)
 |_=>none
noncomputable def fM (N:Nat)(m:MS):List D->List D->Option (Sl×List D):=fun cs ds=>(m (.par cs::(ds.map .val++List.replicate (N-(ds.length+1)) .emp))).bind fun p=>match p.1,(p.2[0]?:Option Sl)with
 |Fl.ret r,some (Sl.par out)=>some (r,out)
 |Fl.next,some (Sl.par out)=>some (.val .non,out)
 |_,_=>none
theorem zhs (h:vs.length<=N.length):(L2.start N vs).length=N.length:=by
 unfold L2.start
 rw[List.length_append,List.length_map,List.length_replicate]
 lia
theorem SI.start (fz:Fz G H)(r:RepL K G vs ds)(h:ds.length<=N.length):
  SI K ⟨G,H,[]⟩ G H (L2.start N vs) (ds.map .val++List.replicate (N.length-ds.length) .emp) where
 fz:=fz
 g0:=Fz.refl G
 new:=fun b o e=> .inl (by show G b≠none;rw[e];simp)
 keep:=fun b o e _=>e
 there:=fun b e=>e
 ob:=fun i b m=>by cases m
 len:=by rw[zhs (by rw[r.length];exact h),List.length_append,List.length_map,List.length_replicate];lia
 slot:=fun i s e=>by
  by_cases hi:i<ds.length
  ·rw[List.getElem?_append_left (by simpa using hi),List.getElem?_map,List.getElem?_eq_getElem hi]at e
   cases e
   obtain⟨x,h1,h2⟩:=r.get (List.getElem?_eq_getElem hi)
   refine⟨x,?_,h2⟩
   unfold L2.start
   rw[List.getElem?_append_left (by rw[List.length_map,r.length];exact hi),List.getElem?_map,h1]
   rfl
  ·rw[List.getElem?_append_right (by simpa using hi),List.getElem?_replicate]at e
   split at e
   ·cases e;trivial
   ·exact cNN e
 dis:=fun i j s _ a _ e _ w=>by
  exfalso
  by_cases hi:i<ds.length
  ·rw[List.getElem?_append_left (by simpa using hi),List.getElem?_map,List.getElem?_eq_getElem hi]at e
   cases e;exact w
  ·rw[List.getElem?_append_right (by simpa using hi),List.getElem?_replicate]at e
   split at e
   ·cases e;exact w
   ·exact cNN e
theorem SI.startM (fz:Fz G H)(hg:G l=none)(hl:H l=some (.lst xs))(rc:RepL K G xs cs)(r:RepL K G vs ds)(h:ds.length+1<=N.length):
  SI K ⟨G,H,[(0,l)]⟩ G H (L2.start N (.ref l::vs)) (.par cs::(ds.map .val++List.replicate (N.length-(ds.length+1)) .emp)) where
 fz:=fz
 g0:=Fz.refl G
 new:=fun b o e=> .inl (by show G b≠none;rw[e];simp)
 keep:=fun b o e _=>e
 there:=fun b e=>e
 ob:=fun i b m=>by
  have:b=l:=((by simpa using m):i=0/\b=l).2
  subst this
  show H b≠none
  rw[hl];simp
 len:=by
  have:=r.length
  rw[zhs (by rw[List.length_cons,r.length];exact h),List.length_cons,List.length_append,List.length_map,List.length_replicate];lia
 slot:=fun i s e=>by
  cases i with
  |zero=>simp at e;subst e;exact⟨l,xs,rfl,hg,hl,rc,by simp⟩
  |succ i=>
   rw[List.getElem?_cons_succ]at e
   by_cases hi:i<ds.length
   ·rw[List.getElem?_append_left (by simpa using hi),List.getElem?_map,List.getElem?_eq_getElem hi]at e
    cases e
    obtain⟨x,h1,h2⟩:=r.get (List.getElem?_eq_getElem hi)
    refine⟨x,?_,h2⟩
    unfold L2.start
    rw[List.map_cons,List.cons_append,List.getElem?_cons_succ,List.getElem?_append_left (by rw[List.length_map,r.length];exact hi),List.getElem?_map,h1]
    rfl
   ·rw[List.getElem?_append_right (by simpa using hi),List.getElem?_replicate]at e
    split at e
    ·cases e;trivial
    ·exact cNN e
 dis:=fun i j s t a hij hi hj w1 w2=>by
  have z:∀(i:Nat) (s:Sl),(Sl.par cs::(ds.map .val++List.replicate (N.length-(ds.length+1)) .emp))[i]? =some s->OwS K G H (L2.start N (.ref l::vs))[i]? a s->i=0:=fun i s e q=>by
   cases i with
   |zero=>rfl
   |succ i=>
    exfalso
    rw[List.getElem?_cons_succ]at e
    by_cases hi:i<ds.length
    ·rw[List.getElem?_append_left (by simpa using hi),List.getElem?_map,List.getElem?_eq_getElem hi]at e
     cases e;exact q
    ·rw[List.getElem?_append_right (by simpa using hi),List.getElem?_replicate]at e
     split at e
     ·cases e;exact q
     ·exact cNN e
  exact hij ((z i s hi w1).trans (z j t hj w2).symm)
section
variable {P:Program} {w:World} {K:W.Frag} {mg:Str->Option Value} {base:Heap}
theorem zob {st:Stmt}{f:Addr}(F:Fun K x qual st f fd)(S:FnScope N ps (zan st))(hn:ps.length=n)(hN:n<=N.length)
  (body:∀(cdv:Value) (A:Around) (outer:List Env) (s:Shared) (H:Hp) (E:XK),Room k (A.deeper (envOfC qual (zan st) s.heap.objs.size f cdv))->SSs (cxOf CX0 P w K mg base N qual (zan st) f cdv A outer s H E).nox (zaH st) m):
  FnOk P w K mg base CX0 (k+1) f fd ps (spP K n (fP N.length m)):=by
 refine F.ok S (fun vs H Q E h=>?_) (fun cdv A outer s H vs Q E hr h=>?_)
 ·obtain⟨G,ds,r,_,h2,_,h4,_⟩:=h
  rw[h4.length,h2,hn]
 ·obtain⟨G,ds,r,e1,h2,fz,h4,kk⟩:=h
  obtain⟨t,pt,so⟩:=body cdv A outer s H E hr
  refine⟨t,pt,?_⟩
  refine zaz e1 fun fl ρ' e2 e3=>?_
  refine so ⟨G,H,[]⟩ G H (L2.start N vs) _ fl ρ' _ (SI.start fz h4 (by lia)) e2 ?_
  have fin:∀G' H' σ' v,SI K ⟨G,H,[]⟩ G' H' σ' ρ'->Fz G G'->ResF K G' H' H v r->Q v H':=fun G' H' σ' v I f rr=>kk G' H' v f I.fz I.new (fun b o e=>I.keep b o e (by simp)) rr
  cases fl with
  |next=>cases e3;exact fun G' H' σ' I f=>fin G' H' σ' .non I f rfl
  |brk=>exact cNN e3
  |cont=>exact cNN e3
  |ret r'=>
   cases e3
   refine fun G' H' σ' v I f rr=>fin G' H' σ' v I f ?_
   cases r with
   |val d=>exact rr
   |own ds=>exact rr
   |emp=>exact rr
   |two _ _=>exact rr
   |tre _=>exact rr
   |ptr _=>exact rr
   |par ds=>exact rr
theorem fnM_ok {st:Stmt}{f:Addr}(F:Fun K x qual st f fd)(S:FnScope N ps (zan st))(hn:ps.length=n)(hN:n<=N.length)
  (body:∀(cdv:Value) (A:Around) (outer:List Env) (s:Shared) (H:Hp) (E:XK),Room k (A.deeper (envOfC qual (zan st) s.heap.objs.size f cdv))->SSs (cxOf CX0 P w K mg base N qual (zan st) f cdv A outer s H E).nox (zaH st) m):
  FnOk P w K mg base CX0 (k+1) f fd ps (spM K n (fM N.length m)):=by
 refine F.ok S (fun vs H Q E h=>?_) (fun cdv A outer s H vs Q E hr h=>?_)
 ·obtain⟨G,l,xs,cs,ws,ds,r,out,rfl,_,h2,_,_,_,_,h4,_⟩:=h
  rw[List.length_cons,h4.length,h2,hn]
 ·obtain⟨G,l,xs,cs,ws,ds,r,out,rfl,e1,h2,fz,hg,hl,rc,h4,kk⟩:=h
  obtain⟨t,pt,so⟩:=body cdv A outer s H E hr
  refine⟨t,pt,?_⟩
  refine zaz e1 fun fl ρ' e2 e3=>?_
  refine so ⟨G,H,[(0,l)]⟩ G H _ _ fl ρ' _ (SI.startM fz hg hl rc h4 (by lia)) e2 ?_
  have fin:∀G' H' σ' v,ρ'[0]? =some (.par out)->SI K ⟨G,H,[(0,l)]⟩ G' H' σ' ρ'->Fz G G'->ResF K G' H' H v r->Q v H':=fun G' H' σ' v e0 I f rr=>by
   obtain⟨l',ys,k1,k2,k3,k4,k5⟩:=I.slot 0 _ e0
   have:l'=l:=by simpa using k5
   subst this
   exact kk G' H' v ys f I.fz I.new (fun b o hb e=>I.keep b o e (fun i hm=>by simp at hm;exact hb hm.2)) k2 k3 k4 rr
  cases e0:ρ'[0]? with
  |none=>rw[e0]at e3;cases fl<;>exact cNN e3
  |some s0=>
   rw[e0]at e3
   cases s0 with
   |emp=>cases fl<;>exact cNN e3
   |two _ _=>cases fl<;>exact cNN e3
   |tre _=>cases fl<;>exact cNN e3
   |ptr _=>cases fl<;>exact cNN e3
   |val d=>cases fl<;>exact cNN e3
   |own d=>cases fl<;>exact cNN e3
   |par o2=>
    cases fl with
    |next=>obtain⟨rfl,rfl⟩:=cSp e3;exact fun G' H' σ' I f=>fin G' H' σ' .non e0 I f rfl
    |brk=>exact cNN e3
    |cont=>exact cNN e3
    |ret r'=>
     cases e3
     refine fun G' H' σ' v I f rr=>fin G' H' σ' v e0 I f ?_
     cases r with
     |val d=>exact rr
     |own ds=>exact rr
     |emp=>exact rr
     |two _ _=>exact rr
     |tre _=>exact rr
     |ptr _=>exact rr
     |par ds=>exact rr
end
structure FD (P:Program) (w:World) (K:W.Frag) (mg:Str->Option Value) (base:Heap) (k:Nat) (x:Str) (sp:Sp):Prop where
 ex:∃f fd ps,FnOk P w K mg base CX0 k f fd ps sp/\mg x=some (.ref f)/\W.keepIn K (.ref f)=true/\Binds K fd ps []
theorem znZ (nw:∀b o,G' b=some o->G b≠none\/H b=none)(kp:Fz H H'):∀(i:Nat) (s:Sl) (a:Addr),ρ[i]? =some s->OwS K G H σ[i]? a s->G a=none->H a≠none->G' a=none/\H' a=H a:=fun i s a _ _ g h=>by
 obtain⟨u,hu⟩:=Option.ne_none_iff_exists'.mp h
 refine⟨?_,(kp a u hu).trans hu.symm⟩
 cases q:G' a with
 |none=>rfl
 |some u=>
  rcases nw a u q with z|z
  ·exact absurd g z
  ·exact absurd z h
theorem SI.grow (I:SI K B G H σ ρ)(f:Fz G G')(fz:Fz G' H')(nw:∀b o,G' b=some o->G b≠none\/H b=none)(kp:Fz H H'):SI K B G' H' σ ρ:=
 I.move fz f (fun b o e=>by
  rcases nw b o e with h|h
  ·cases q:G b with
   |none=>exact absurd q h
   |some u=>exact I.new b u q
  ·exact .inr (I.there b h)) (fun b o e n=>kp b o (I.keep b o e n)) (fun b e=>I.there b (kp.free e)) (znZ nw kp)
theorem SI.own_ne (I:SI K B G H σ ρ){p:Addr}(hp:H p=none)(nw:∀b o,G' b=some o->G b≠none\/H b=none)(kp:Fz H H'):Nw K G' H' σ ρ p:=I.nw_move (I.nw hp) (znZ nw kp)
noncomputable def zaY (F:List D->Option Sl)(ma:MA):ME:=fun ρ=>(ma ρ).bind fun p=>(F p.1).bind fun r=>match r with
 | .val d=>some (d,p.2)
 | .own ds=>some (.lst ds,p.2)
 |_=>none
noncomputable def zmt (F:List D->Option Sl)(ma:MA):MO:=fun ρ=>(ma ρ).bind fun p=>(F p.1).bind fun r=>match r with
 | .own ds=>some (ds,p.2)
 |_=>none
section
variable {X:Cx} {x:Str} {p pos:Pos} {e:Expr} {es:List Expr} {ma:MA} {k k' n:Nat} {F:List D->Option Sl}
theorem zau (fd:FD X.prog X.w X.K X.mg X.base k x (spP X.K n F))(hr:Room k' X.A)(ha:SA X (e::es) ma)(hn:autoParam ((e::es).length=n) zu3._auto_1)(hk:autoParam (k<=k') zu1._auto_1)(hg:autoParam (Gl X x) zu3._auto_1)(hdb:autoParam ((x==("__debug__":Str))=false) zu1._auto_1)
  (he:autoParam (starEach (e::es) X.env=(false,eval e X.env)::starEach es X.env) zu3._auto_1) (hpl:autoParam ((backTo pos (starEach es X.env)).any (·.1)=false) zu3._auto_1) (hlen:∀ρ as ρ',ma ρ=some (as,ρ')->as.length=n):SE X (.Call (.Name x p) (e::es) [] pos) (zaY F ma):=by
 obtain⟨f,fdd,ps,G0,h1,h2,h3⟩:=fd.ex
 refine ha.el fun t pa sa=>?_
 refine⟨_,zks G0 (hr.mono hk) hg h1 h2 h3 .nil zkK pa hdb he hpl,fun B G H σ ρ d ρ' Q I hm kk=>?_⟩
 refine zaz hm fun as ρ1 e1 hm=>?_
 refine cBel hm fun r e2 hm=>?_
 refine sa B G H σ ρ as ρ1 _ I e1 fun G1 H1 vs I1 f1 r1=>?_
 show spP X.K n F (vs++[]) H1 Q E0
 rw[List.append_nil]
 refine⟨G1,as,r,e2,hlen ρ as ρ1 e1,I1.fz,r1,fun G2 H2 v f2 fz2 nw kp rr=>?_⟩
 have I2:=I1.grow f2 fz2 nw kp
 cases r with
 |val d'=>obtain⟨rfl,rfl⟩:=cSp hm;exact kk G2 H2 v I2 (f1.trans f2) rr
 |own ds=>
  obtain⟨rfl,rfl⟩:=cSp hm
  obtain⟨l,xs,rfl,g3,h3,r3,b3⟩:=rr
  obtain⟨I3,f3,r4⟩:=zgK I2 g3 h3 r3 (I1.there l b3) (I1.own_ne b3 nw kp)
  exact kk _ H2 _ I3 (f1.trans (f2.trans f3)) r4
 |emp=>exact cNN hm
 |two _ _=>exact cNN hm
 |tre _=>exact cNN hm
 |ptr _=>exact cNN hm
 |par _=>exact cNN hm
theorem zi6 (fd:FD X.prog X.w X.K X.mg X.base k x (spP X.K n F))(hr:Room k' X.A)(ha:SA X (e::es) ma)(hn:autoParam ((e::es).length=n) zu3._auto_1)(hk:autoParam (k<=k') zu1._auto_1)(hg:autoParam (Gl X x) zu3._auto_1)(hdb:autoParam ((x==("__debug__":Str))=false) zu1._auto_1)
  (he:autoParam (starEach (e::es) X.env=(false,eval e X.env)::starEach es X.env) zu3._auto_1) (hpl:autoParam ((backTo pos (starEach es X.env)).any (·.1)=false) zu3._auto_1) (hlen:∀ρ as ρ',ma ρ=some (as,ρ')->as.length=n):SO X (.Call (.Name x p) (e::es) [] pos) (zmt F ma):=by
 obtain⟨f,fdd,ps,G0,h1,h2,h3⟩:=fd.ex
 refine ha.el fun t pa sa=>?_
 refine⟨_,zks G0 (hr.mono hk) hg h1 h2 h3 .nil zkK pa hdb he hpl,fun B G H σ ρ d ρ' Q I hm kk=>?_⟩
 refine zaz hm fun as ρ1 e1 hm=>?_
 refine cBel hm fun r e2 hm=>?_
 refine sa B G H σ ρ as ρ1 _ I e1 fun G1 H1 vs I1 f1 r1=>?_
 show spP X.K n F (vs++[]) H1 Q E0
 rw[List.append_nil]
 refine⟨G1,as,r,e2,hlen ρ as ρ1 e1,I1.fz,r1,fun G2 H2 v f2 fz2 nw kp rr=>?_⟩
 have I2:=I1.grow f2 fz2 nw kp
 cases r with
 |val d'=>exact cNN hm
 |own ds=>
  obtain⟨rfl,rfl⟩:=cSp hm
  obtain⟨l,xs,rfl,g3,h3,r3,b3⟩:=rr
  exact kk G2 H2 l xs I2 (f1.trans f2) g3 h3 r3 (I1.there l b3) (I1.own_ne b3 nw kp)
 |emp=>exact cNN hm
 |two _ _=>exact cNN hm
 |tre _=>exact cNN hm
 |ptr _=>exact cNN hm
 |par _=>exact cNN hm
end
noncomputable def aLen (ma:MA)(n:Nat):Prop:=∀ρ as ρ',ma ρ=some (as,ρ')->as.length=n
theorem zai:aLen aNil 0:=fun ρ as ρ' h=>by obtain⟨rfl,rfl⟩:=cSp h;rfl
theorem zac {m:ME}{r:MA}(h:aLen r n):aLen (zaf m r) (n+1):=fun ρ as ρ' e=>by
 refine zaz e fun d ρ1 _ h2=>?_
 refine zdO h2 fun ds ρ2 e3 e4=>?_
 cases e4
 rw[List.length_cons,h ρ1 ds ρ2 e3]
noncomputable def zbw (F:List D->List D->Option (Sl×List D))(j:Nat)(ma:MA):ME:=fun ρ=>if(ρ[j]?.bind Sl.items).isSome then(ma ρ).bind fun p=>p.2[j]?.bind fun s=>s.items.bind fun cs=>(F cs p.1).bind fun r=>match r.1 with
 | .val d=>some (d,p.2.set j (s.put r.2))
 | .own ds=>some (.lst ds,p.2.set j (s.put r.2))
 |_=>none else none
theorem SI.growW (I:SI K B G H σ ρ)(e:ρ[j]? =some s)(q:s.items=some cs)(hl:σ[j]? =some (some (.ref l)))
  (f:Fz G G') (fz:Fz G' H') (nw:∀b o,G' b=some o->G b≠none\/H b=none) (kp:∀b o,b≠l->H b=some o->H' b=some o) (gl:G' l=none) (hl':H' l=some (.lst ys)) (r:RepL K G' ys out):SI K B G' H' σ (ρ.set j (s.put out)):=
 I.chgW e q hl fz f nw kp gl hl' r
theorem SI.own_neW {l p:Addr}(I:SI K B G H σ ρ)(e:ρ[j]? =some s)(q:s.items=some cs)(hl:σ[j]? =some (some (.ref l)))(hp:H p=none)
  (nw:∀b o,G' b=some o->G b≠none\/H b=none) (kp:∀b o,b≠l->H b=some o->H' b=some o):Nw K G' H' σ (ρ.set j (s.put out)) p:=fun i t et w=>by
 obtain⟨l',xs,e1,e2,e3,e4⟩:=I.wr e q
 rw[hl]at e1;cases e1
 have hpl:p≠l:=fun z=>by rw[z,e3]at hp;cases hp
 by_cases z:i=j
 ·subst z
  rw[List.getElem?_set,if_pos rfl]at et
  split at et
  ·cases et
   have:=(zd7 (zjr q out)).mp w
   rw[hl]at this
   exact hpl (V.ref.inj (Option.some.inj (Option.some.inj this))).symm
  ·cases et
 ·rw[List.getElem?_set_ne (Ne.symm z)]at et
  have sl:=I.slot i t et
  refine(sl.own (sl.back (fun a w g h=>?_) w)).2.1 hp
  have na:a≠l:=fun w'=>by subst w';exact I.dis i j t s a z et e w ((zd7 q).mpr hl)
  obtain⟨u,hu⟩:=Option.ne_none_iff_exists'.mp h
  refine⟨?_,(kp a u na hu).trans hu.symm⟩
  cases q2:G' a with
  |none=>rfl
  |some u=>
   rcases nw a u q2 with z|z
   ·exact absurd g z
   ·exact absurd z h
section
variable {X:Cx} {x y:Str} {p py pos:Pos} {es:List Expr} {ma:MA} {k k' n:Nat} {F:List D->List D->Option (Sl×List D)}
theorem soundM {t:TA}{Q:VK}(sa:∀B G H σ ρ ds ρ' (Q:List V->Hp->Prop),SI X.K B G H σ ρ->ma ρ=some (ds,ρ')->(∀G' H' vs,SI X.K B G' H' σ ρ'->Fz G G'->RepL X.K G' vs ds->Q vs H')->t σ H Q)
  (hlen:∀ρ as ρ',ma ρ=some (as,ρ')->as.length+1=n) (I:SI X.K B G H σ ρ) {ds0:List D} (h0:ρ[j]?.bind Sl.items=some ds0) {as:List D} {ρ1:R} (e1:ma ρ=some (as,ρ1)) {s:Sl} (e2:ρ1[j]? =some s) {cs:List D} (e3:s.items=some cs)
  {r:Sl} {out:List D} (e4:F cs as=some (r,out))
  (kk:∀G' H' v,SI X.K B G' H' σ (ρ1.set j (s.put out))->Fz G G'->True->(∃H1,ResF X.K G' H' H1 v r/\(∀b,H1 b=none->B.H b=none)/\∀b,H1 b=none->Nw X.K G' H' σ (ρ1.set j (s.put out)) b)->Q v H'):
  tCall (spM X.K n F) [] E0 (tCons (tVar j) t) σ H Q:=by
 obtain⟨s0,k0,q0⟩:=zdm h0
 obtain⟨l,xs0,h1,h2,h3,h4⟩:=I.wr k0 q0
 refine⟨.ref l,h1,sa B G H σ ρ as ρ1 _ I e1 fun G1 H1 vs I1 f1 r1=>?_⟩
 show spM X.K n F ((.ref l::vs)++[]) H1 Q E0
 rw[List.append_nil]
 obtain⟨l',xs,m1,m2,m3,m4⟩:=I1.wr e2 e3
 rw[h1]at m1;cases m1
 refine⟨G1,l,xs,cs,vs,as,r,out,rfl,e4,hlen ρ as ρ1 e1,I1.fz,m2,m3,m4,r1,fun G2 H2 v ys f2 fz2 nw kp gl hl r2 rr=>?_⟩
 exact kk G2 H2 v (I1.growW e2 e3 h1 f2 fz2 nw kp gl hl r2) (f1.trans f2) trivial ⟨H1,rr,fun b hb=>I1.there b hb,fun b hb=>I1.own_neW e2 e3 h1 hb nw kp⟩
theorem zaS (j:Nat)(fd:FD X.prog X.w X.K X.mg X.base k x (spM X.K n F))(hr:Room k' X.A)(ha:SA X es ma)(hlen:∀ρ as ρ',ma ρ=some (as,ρ')->as.length+1=n)(hN:autoParam (X.N[j]? =some y) zu3._auto_1)(hv:autoParam (Vis X.env.scope y) zu5._auto_1)(hd:autoParam ((y==("__debug__":Str))=false) zu1._auto_1)
  (hcd:autoParam ((y==("__classdict__":Str))=false) zu1._auto_1) (hk:autoParam (k<=k') zu1._auto_1) (hg:autoParam (Gl X x) zu3._auto_1) (hdb:autoParam ((x==("__debug__":Str))=false) zu1._auto_1)
  (he:autoParam (starEach (.Name y py::es) X.env=(false,eval (.Name y py) X.env)::starEach es X.env) zu3._auto_1) (hpl:autoParam ((backTo pos (starEach es X.env)).any (·.1)=false) zu3._auto_1):SE X (.Call (.Name x p) (.Name y py::es) [] pos) (zbw F j ma):=by
 obtain⟨f,fdd,ps,G0,h1,h2,h3⟩:=fd.ex
 refine ha.el fun t pa sa=>?_
 refine⟨_,zks G0 (hr.mono hk) hg h1 h2 h3 .nil zkK (zgf (zb3 hN hv hd hcd) pa he) hdb he hpl,fun B G H σ ρ d ρ' Q I hm kk=>?_⟩
 unfold zbw at hm
 refine cIte hm fun hso hm=>?_
 obtain⟨ds0,hso⟩:=Option.isSome_iff_exists.mp hso
 refine zaz hm fun as ρ1 e1 hm=>?_
 refine cBel hm fun s e2 hm=>?_
 refine cBel hm fun cs e3 hm=>?_
 refine zaz hm fun r out e4 hm=>?_
 refine soundM sa hlen I hso e1 e2 e3 e4 fun G' H' v I' f' _ ⟨H1,rr,bb,nn⟩=>?_
 cases r with
 |val d'=>obtain⟨rfl,rfl⟩:=cSp hm;exact kk G' H' v I' f' rr
 |own ds=>
  obtain⟨rfl,rfl⟩:=cSp hm
  obtain⟨l,xs,rfl,g3,h3,r3,b3⟩:=rr
  obtain⟨I3,f3,r4⟩:=zgK I' g3 h3 r3 (bb l b3) (nn l b3)
  exact kk _ H' _ I3 (f'.trans f3) r4
 |emp=>exact cNN hm
 |two _ _=>exact cNN hm
 |tre _=>exact cNN hm
 |ptr _=>exact cNN hm
 |par _=>exact cNN hm
end
noncomputable def zdM (env:Env)(cs:List (Str×Addr))(x:Str×NameKind):List (Str×Addr):=if x.2== .free then(x.1,(env.cells.lookup x.1).getD 0)::cs else cs
noncomputable def clOf (scope:Scope)(env:Env):List (Str×Addr):=scope.names.foldl (zdM env) []
theorem zgw:∀(names:List (Str×NameKind)) (cs:List (Str×Addr)),(∀y∈names,y.2= .free->∃c,env.cells.lookup y.1=some c)->
  (forIn names cs (fun x r=>if x.2==NameKind.free then do let a<-cellOf env x.1;pure (ForInStep.yield ((x.1,a)::r))else pure (ForInStep.yield r)):Sem (List (Str×Addr)))=pure (names.foldl (zdM env) cs)
 |[],cs,_=>rfl
 |(n,k)::r,cs,h=>by
  have ih:=fun cs'=>zgw r cs' (fun y hy=>h y (List.mem_cons_of_mem _ hy))
  rw[List.forIn_cons,List.foldl_cons]
  by_cases hk:(k==NameKind.free)=true
  ·obtain⟨c,hc⟩:=h (n,k) List.mem_cons_self (by simpa using hk)
   have e:zdM env cs (n,k)=(n,c)::cs:=by unfold zdM;simp[hk,hc]
   rw[e,<-ih]
   simp only[hk,if_true]
   unfold cellOf
   simp only at hc
   rw[hc]
   rfl
  ·have e:zdM env cs (n,k)=cs:=by unfold zdM;simp[hk]
   rw[e,<-ih]
   simp only[hk]
   rfl
theorem zmw {env:Env}(h:∀y∈scope.names,y.2= .free->∃c,env.cells.lookup y.1=some c):closureFor scope env=pure (clOf scope env):=by
 unfold closureFor clOf
 have e:=zgw (env:=env) scope.names [] h
 simp only[bind_pure]
 exact e
theorem zcF {c:Addr}:∀{names:List (Str×NameKind)} {cs:List (Str×Addr)},(∀y∈names,y.2= .free->∃c,env.cells.lookup y.1=some c)->(cs.lookup x=some c->env.cells.lookup x=some c)->
  (names.foldl (zdM env) cs).lookup x=some c->env.cells.lookup x=some c
 |[],cs,_,h0,h=>h0 h
 |(n,k)::r,cs,hn,h0,h=>by
  rw[List.foldl_cons]at h
  refine zcF (names:=r) (fun y hy=>hn y (List.mem_cons_of_mem _ hy)) ?_ h
  intro q
  unfold zdM at q
  split at q
  ·rename_i hk
   obtain⟨c',hc⟩:=hn (n,k) List.mem_cons_self (by simpa using hk)
   rw[List.lookup_cons]at q
   simp only at hc
   by_cases z:(x==n)=true
   ·rw[z]at q
    have zz:x=n:=by simpa using z
    subst zz
    simp only[hc,Option.getD_some]at q
    rw[hc];exact q
   ·have z':(x==n)=false:=by simpa using z
    rw[z']at q;exact h0 q
  ·exact h0 q
theorem zd9:∀{names:List (Str×NameKind)} {cs:List (Str×Addr)},((x,NameKind.free)∈names\/(cs.lookup x).isSome=true)->((names.foldl (zdM env) cs).lookup x).isSome=true
 |[],cs,h=>by
  rcases h with h|h
  ·simp at h
  ·exact h
 |(n,k)::r,cs,h=>by
  rw[List.foldl_cons]
  refine zd9 (names:=r) ?_
  rcases h with h|h
  ·rcases List.mem_cons.mp h with h|h
   ·cases h
    refine .inr ?_
    unfold zdM
    simp
   ·exact .inl h
  ·refine .inr ?_
   unfold zdM
   split
   ·rw[List.lookup_cons]
    by_cases z:(x==n)=true
    ·rw[z];rfl
    ·have z':(x==n)=false:=by simpa using z
     rw[z'];exact h
   ·exact h
theorem zhN {c:Addr}:∀{names:List (Str×NameKind)} {n:Nat} {acc:List (Str×Addr)},(cellsFrom n names acc).lookup x=some c->(n<=c/\(x,NameKind.cell)∈names)\/acc.lookup x=some c
 |[],n,acc,h=> .inr h
 |(m,k)::r,n,acc,h=>by
  unfold cellsFrom at h
  split at h
  ·rename_i hk
   have hk':k= .cell:=by simpa using hk
   subst hk'
   rcases zhN h with⟨h1,h2⟩|h1
   ·exact .inl ⟨Nat.le_of_succ_le h1,List.mem_cons_of_mem _ h2⟩
   ·rw[List.lookup_cons]at h1
    cases q:x==m with
    |true=>
     rw[q]at h1
     cases h1
     rw[beq_iff_eq.mp q]
     exact .inl ⟨Nat.le_refl _,List.mem_cons_self⟩
    |false=>rw[q]at h1;exact .inr h1
  ·rcases zhN h with⟨h1,h2⟩|h1
   ·exact .inl ⟨h1,List.mem_cons_of_mem _ h2⟩
   ·exact .inr h1
theorem zlo:∀{names:List (Str×NameKind)} {n:Nat} {acc:List (Str×Addr)},(x,NameKind.cell)∉names->(cellsFrom n names acc).lookup x=acc.lookup x
 |[],n,acc,_=>rfl
 |(m,k)::r,n,acc,h=>by
  unfold cellsFrom
  split
  ·rename_i hk
   have hk':k= .cell:=by simpa using hk
   subst hk'
   rw[zlo fun z=>h (List.mem_cons_of_mem _ z),List.lookup_cons]
   cases q:x==m with
   |true=>exact absurd (by rw[beq_iff_eq.mp q];exact List.mem_cons_self) h
   |false=>rfl
  ·exact zlo fun z=>h (List.mem_cons_of_mem _ z)
theorem zly:∀{names:List (Str×NameKind)} {n:Nat} {acc:List (Str×Addr)},(x,NameKind.cell)∈names->∃c,(cellsFrom n names acc).lookup x=some c/\n<=c
 |(m,k)::r,n,acc,h=>by
  unfold cellsFrom
  by_cases hr:(x,NameKind.cell)∈r
  ·split
   ·obtain⟨c,h1,h2⟩:=zly (n:=n+1) (acc:=(m,n)::acc) hr
    exact⟨c,h1,Nat.le_of_succ_le h2⟩
   ·exact zly hr
  ·rcases List.mem_cons.mp h with e|e
   ·cases e
    rw[if_pos (beq_self_eq_true _),zlo hr,List.lookup_cons,beq_self_eq_true]
    exact⟨n,rfl,Nat.le_refl _⟩
   ·exact absurd e hr
theorem znF:∀{names:List (Str×NameKind)} {n:Nat} {acc:List (Str×Addr)},(∀x c,acc.lookup x=some c->c<n)->(∀x y c,acc.lookup x=some c->acc.lookup y=some c->x=y)->
  ∀x y c,(cellsFrom n names acc).lookup x=some c->(cellsFrom n names acc).lookup y=some c->x=y
 |[],n,acc,_,hi=>hi
 |(m,k)::r,n,acc,hl,hi=>by
  unfold cellsFrom
  split
  ·refine znF (fun x c h=>?_) (fun x y c h1 h2=>?_)
   ·rw[List.lookup_cons]at h
    cases q:x==m with
    |true=>rw[q]at h;cases h;exact Nat.lt_succ_self _
    |false=>rw[q]at h;exact Nat.lt_succ_of_lt (hl x c h)
   ·rw[List.lookup_cons]at h1 h2
    cases q:x==m with
    |true=>
     rw[q]at h1
     cases h1
     cases q2:y==m with
     |true=>rw[beq_iff_eq.mp q,beq_iff_eq.mp q2]
     |false=>rw[q2]at h2;exact absurd (hl y n h2) (Nat.lt_irrefl _)
    |false=>
     rw[q]at h1
     cases q2:y==m with
     |true=>rw[q2]at h2;cases h2;exact absurd (hl x n h1) (Nat.lt_irrefl _)
     |false=>rw[q2]at h2;exact hi x y c h1 h2
  ·exact znF hl hi
theorem zkp:∀{names:List (Str×NameKind)} {h:Heap} {acc:List (Str×Addr)},(∀x c,acc.lookup x=some c->∃v,h.IsCell c v)->∀x c,(cellsFrom h.objs.size names acc).lookup x=some c->∃v,(pushCells h names).IsCell c v
 |[],h,acc,ha=>ha
 |(m,k)::r,h,acc,ha=>by
  unfold cellsFrom pushCells
  split
  ·intro x c e
   rw[<-Heap.size_push h {cls:= .type "cell",data:= .cell none}]at e
   refine zkp (fun y d q=>?_) x c e
   rw[List.lookup_cons]at q
   cases z:y==m with
   |true=>rw[z]at q;cases q;exact⟨none,_,Heap.get?_push_size _ rfl,rfl⟩
   |false=>
    rw[z]at q
    obtain⟨v,hv⟩:=ha y d q
    exact⟨v,hv.keeps fun b o e=>Heap.get?_push_of_some _ e⟩
  ·exact zkp ha
theorem zkw {M:Model}{s:Shared}{globals:Addr}{Q:Env->Shared->Prop}
  (hQ : ∀ h' : Heap, h'.Ns s.heap.objs.size (fun _ => none) -> (∀ a o, s.heap.get? a = some o -> h'.get? a = some o) ->
   ((∀x c,cl.lookup x=some c->∃v,s.heap.IsCell c v)->∀x c,(cellsFrom (s.heap.objs.size+1) scope.names cl).lookup x=some c->∃v,h'.IsCell c v)->
   Q (newEnv scope s.heap.objs.size globals (cellsFrom (s.heap.objs.size+1) scope.names cl) qual none .none (some env) builtinsNs) {s with heap:=h'}):
  wpAny M A (newFunctionEnv scope globals cl [] qual none .none (some env)) Q E s:=by
 simp only[newFunctionEnv,Option.isSome_some,if_true]
 refine wpAny_bind (wpAny_alloc ?_)
 refine wpAny_bind (wpAny_layCells _ (fun name kind cells=>by cases hkc:kind==NameKind.cell<;>simp[hkc]) _ _ _ _ ?_)
 rw[show({s with heap:=s.heap.push {cls:= .type "dict",data:= .dict #[]}}:Shared).heap.objs.size=s.heap.objs.size+1 from Heap.size_push ..]
 refine wpAny_bind ?_
 rw[List.forIn_nil]
 refine wpAny_pure (wpAny_pure (hQ _ ((Heap.Ns.new s.heap (.type "dict")).keeps (pushCells_keeps _ _)) (fun a o e=>pushCells_keeps _ _ a o (Heap.get?_push_of_some _ e)) fun hc x c e=>?_))
 rw[<-Heap.size_push s.heap {cls:= .type "dict",data:= .dict #[]}]at e
 refine zkp (fun y d q=>?_) x c e
 obtain⟨v,hv⟩:=hc y d q
 exact⟨v,hv.keeps fun b o e=>Heap.get?_push_of_some _ e⟩
noncomputable def clC (scope:Scope)(env:Env)(C:Addr):List (Str×Addr):=cellsFrom (C+1) scope.names (clOf scope env)
noncomputable def ownC (scope:Scope)(x:Str):Bool:=match scope.names.lookup x with
 |some .cell=>true
 |_=>false
noncomputable def cxC (X:Cx)(N:List Str)(scope:Scope)(C:Addr)(s:Shared)(H:Hp)(fp:List Addr):Cx:=
 {X with N:=N,s₀:=s,H₀:=H,env:=compEnvC scope (clC scope X.env C) C X.env,outer:=X.stack,ex:=fp,fn:=ownC scope,pn:=[],xe:=fun _ _=>False}
structure BlkOk (X:Cx) (scope:Scope):Prop where
 kind:scope.kind= .function
 uniq:∀y∈scope.names,scope.names.lookup y.1=some y.2
 free:∀y∈scope.names,y.2= .free->X.env.kindOf y.1=some .cell\/X.env.kindOf y.1=some .free
theorem zei {α:Type}{v:α}:∀{l:List (Str×α)},l.lookup x=some v->(x,v)∈l
 |[],h=>by simp at h
 |(n,w)::r,h=>by
  rw[List.lookup_cons]at h
  by_cases z:(x==n)=true
  ·rw[z]at h
   have zz:x=n:=by simpa using z
   subst zz
   cases h
   exact List.mem_cons_self
  ·have z':(x==n)=false:=by simpa using z
   rw[z']at h
   exact List.mem_cons_of_mem _ (zei h)
theorem zcH {env:Env}{x:Str}:∀{names:List (Str×NameKind)},(names.map fun(n,k)=>if(k==NameKind.free&&env.scope.kind== .function&&env.kindOf n==some .cell)then(n,NameKind.cell)else(n,k)).lookup x=
  (names.lookup x).map fun k=>if(k==NameKind.free&&env.scope.kind== .function&&env.kindOf x==some .cell)then NameKind.cell else k
 |[]=>rfl
 |(n,k)::r=>by
  have ih:=zcH (env:=env) (x:=x) (names:=r)
  show List.lookup x ((if(k==NameKind.free&&env.scope.kind== .function&&env.kindOf n==some .cell)=true then(n,NameKind.cell)else(n,k))::_)=_
  cases hx:x==n with
  |true=>
   have zz:x=n:=by simpa using hx
   by_cases hc:(k==NameKind.free&&env.scope.kind== .function&&env.kindOf n==some .cell)=true
   ·rw[if_pos hc]
    simp only[List.lookup_cons,hx,Option.map_some]
    rw[zz,if_pos hc]
   ·rw[if_neg hc]
    simp only[List.lookup_cons,hx,Option.map_some]
    rw[zz,if_neg hc]
  |false=>
   by_cases hc:(k==NameKind.free&&env.scope.kind== .function&&env.kindOf n==some .cell)=true
   ·rw[if_pos hc];simp only[List.lookup_cons,hx];exact ih
   ·rw[if_neg hc];simp only[List.lookup_cons,hx];exact ih
section
variable {X:Cx} {pins:List (Addr×Obj)} {σ:St} {H:Hp} {s:Shared} {scope:Scope} {N:List Str} {fp:List Addr} {C:Addr}
theorem zhP (I:Inv X pins σ H s)(b:BlkOk X scope):∀y∈scope.names,y.2= .free->∃c,X.env.cells.lookup y.1=some c:=fun y hy hf=>I.ok.has y.1 (b.free y hy hf)
theorem blk_vis (h:(relabel scope X.env).names.lookup x=some .cell\/(relabel scope X.env).names.lookup x=some .free):(x,NameKind.free)∈scope.names\/(x,NameKind.cell)∈scope.names:=by
 have e:(relabel scope X.env).names.lookup x=(scope.names.lookup x).map fun k=>if(k==NameKind.free&&X.env.scope.kind== .function&&X.env.kindOf x==some .cell)then NameKind.cell else k:=zcH
 rw[e]at h
 cases q:scope.names.lookup x with
 |none=>rw[q]at h;simp at h
 |some k=>
  have hm:=zei q
  by_cases hk:k= .free
  ·subst hk;exact .inl hm
  ·rw[q]at h
   have hkf:(k==NameKind.free)=false:=by simpa using hk
   simp only[Option.map_some,hkf,Bool.false_and,Bool.false_eq_true,if_false,Option.some.injEq]at h
   rcases h with h|h
   ·subst h;exact .inr hm
   ·exact absurd h hk
theorem zfH (I:Inv X pins σ H s)(b:BlkOk X scope){c:Addr}(h:(clOf scope X.env).lookup x=some c):X.env.cells.lookup x=some c:=zcF (zhP I b) (by simp) h
theorem zgc (I:Inv X pins σ H s)(b:BlkOk X scope){c:Addr}(h:(clC scope X.env C).lookup x=some c):C<c\/X.env.cells.lookup x=some c:=by
 rcases zhN h with⟨h1,_⟩|h1
 ·exact .inl h1
 ·exact .inr (zfH I b h1)
theorem zkY (b:BlkOk X scope)(h:(x,NameKind.free)∈scope.names):(clC scope X.env C).lookup x=(clOf scope X.env).lookup x:=zlo fun z=>by
 have h1:=b.uniq _ h
 have h2:=b.uniq _ z
 simp only at h1 h2
 rw[h1]at h2
 cases h2
theorem blk_ok (I:Inv X pins σ H s)(b:BlkOk X scope)(hC:s.heap.objs.size<=C)(hf:∀b∈fp,FpOk X pins H b)(hfC:∀b∈fp,b<C):(cxC X N scope C s H fp).Ok where
 mod:=I.ok.mod
 kind:=b.kind
 glob:=I.ok.glob
 blt:=I.ok.blt
 above:=hC
 inj:=znF (fun x c h=>by
  obtain⟨v,hv⟩:=I.cell x c (zfH I b h)
  exact Nat.lt_succ_of_lt (Nat.lt_of_lt_of_le hv.lt hC)) fun x y c h1 h2=>I.ok.inj x y c (zfH I b h1) (zfH I b h2)
 has:=fun x hx=>by
  rcases blk_vis (x:=x) hx with hm|hm
  ·show ∃c,(clC scope X.env C).lookup x=some c
   rw[zkY b hm]
   exact Option.isSome_iff_exists.mp (zd9 (.inl hm))
  ·obtain⟨c,h,_⟩:=zly (n:=C+1) (acc:=clOf scope X.env) hm
   exact⟨c,h⟩
 cab:=fun x c h e=>by
  have h':ownC scope x=true:=h
  unfold ownC at h'
  split at h'
  ·rename_i q
   obtain⟨c',h1,h2⟩:=zly (n:=C+1) (acc:=clOf scope X.env) (zei q)
   have e':some c'=some c:=h1.symm.trans e
   cases e'
   exact Nat.le_trans hC (Nat.le_of_succ_le h2)
  ·cases h'
 hd:=I.ok.hd
 frames:=I.ok.frames
 stk:= .inl rfl
 exf:=fun a ha=>⟨Nat.ne_of_lt (hfC a ha),fun x c e z=>by
  rcases zgc I b e with q|q
  ·exact Nat.lt_asymm q (z ▸ hfC a ha)
  ·exact(hf a ha).2.2.2.2.1 x c q z⟩
 bs:=I.bs
 bsz:=Nat.le_trans I.ok.bsz I.sz
 noex:=fun a o e ha=>by
  rcases(hf a ha).2.2.2.1 with z|z
  ·exact I.ok.noex a o e z
  ·exact absurd (Nat.lt_of_lt_of_le (Heap.lt_size e) (Nat.le_trans I.ok.bsz z)) (Nat.lt_irrefl _)
 exfs:=fun a ha hs=>by
  rcases List.mem_cons.mp (I.stkSub a hs)with z|z
  ·exact(hf a ha).2.1 z
  ·exact(hf a ha).2.2.1 z
 funs:=I.stack
 frf:=I.stkFree
theorem zoR {tk:Nat}(I:Inv X pins σ H s)(b:BlkOk X scope)(hf:∀b∈fp,FpOk X pins H b)(hfs:∀b∈fp,b<s.heap.objs.size)
  (hns:h'.Ns s.heap.objs.size (fun _=>none)) (hk:∀a o,s.heap.get? a=some o->h'.get? a=some o) (hcl:∀x c,(clC scope X.env s.heap.objs.size).lookup x=some c->∃v,h'.IsCell c v) (hl:σc.length=N.length)
  (hσ:∀(i:Nat) (x:Str) (v:V),N[i]? =some x->σc[i]? =some (some v)->(x,NameKind.free)∈scope.names/\∃j:Nat,X.N[j]? =some x/\σ[j]? =some (some v)) (hloc:∀(i:Nat) (x:Str) (v:V),N[i]? =some x->σc[i]? =some (some v)->¬(relabel scope X.env).names.lookup x=some .local):
  Inv (cxC X N scope s.heap.objs.size s H fp) [] σc H {s with heap:=h',toks:=tk}:=by
 have ok:=blk_ok (N:=N) I b (Nat.le_refl _) hf hfs
 refine⟨ok,rfl,I.bare,Un.kept hk,⟨_,hns,fun i x v h1 h2 h3=>?_⟩,fun x c e=>?_,I.hok.fresh (Nat.le_refl _),fun x c e=>?_,fun p hp=>absurd (show p∈([]:List (Addr×Obj))from hp) (by simp),I.hok.kept hk,hl⟩
 ·obtain⟨hm,j,hj,hv⟩:=hσ i x v h1 h2
  have hkind:=b.free _ hm rfl
  obtain⟨m,hn,hloc'⟩:=I.loc
  have hvis:Vis X.env.scope x:=by
   rcases hkind with z|z
   ·exact .inr (.inl z)
   ·exact .inr (.inr z)
  obtain⟨u,ru,lk⟩:=hloc' j x v hj hv hvis
  refine⟨u,ru,?_⟩
  rcases lk with⟨z,_⟩|⟨_,c,ec,hc⟩
  ·exfalso
   rcases hkind with w|w<;>simp only at w<;>rw[z]at w<;>cases w
  ·refine .inr ⟨?_,c,?_,?_⟩
   ·rcases h3 with z|z|z
    ·exact absurd z (hloc i x v h1 h2)
    ·exact .inl z
    ·exact .inr z
   ·have hs:((clOf scope X.env).lookup x).isSome=true:=zd9 (.inl hm)
    obtain⟨c',ec'⟩:=Option.isSome_iff_exists.mp hs
    have:=zcF (zhP I b) (by simp) ec'
    rw[ec]at this
    cases this
    exact(zkY b hm).trans ec'
   ·obtain⟨o,ho,hd⟩:=hc
    exact⟨o,hk _ _ ho,hd⟩
 ·exact hcl x c e
 ·rcases zgc I b e with q|q
  ·exact I.hok.fresh (Nat.le_of_lt q)
  ·exact I.freeC x c q
theorem znI {h':Heap}{s1:Shared}(I:Inv X pins σ H s)(hf:∀b∈fp,FpOk X pins H b)(J:Inv (cxC X N scope s.heap.objs.size s H fp) [] σc H' s1)(hs:Heap.SameBut s.heap.objs.size s1.heap h'):Inv X pins σ H' {s1 with heap:=h'}:=by
 have kp:∀a o,a≠s.heap.objs.size->s1.heap.get? a=some o->h'.get? a=some o:=fun a o ha e=>hs.extBut a o ha e
 have free:H' s.heap.objs.size=none:=J.free
 have ntr:∀a u,H' a=some u->a≠s.heap.objs.size:=fun a u e z=>by rw[z,free]at e;exact cNN e
 have lt:∀a o,s.heap.get? a=some o->a≠s.heap.objs.size:=fun a o e=>Nat.ne_of_lt (Heap.lt_size e)
 have u:Un (frs X.stack) fp H H' s.heap s1.heap:=J.base
 have u':Un (frs X.stack) fp H H' s.heap h':=by
  refine⟨fun a o e n hb hx=>kp a o (lt a o e) (u.keep a o e n hb hx),fun a o e n hb hx=>?_,u.free,fun a o e hx=>?_,u.tups,u.frzs,u.tbls⟩
  ·obtain⟨sl,q⟩:=u.slot a o e n hb hx
   exact⟨sl,kp a _ (lt a o e) q⟩
  ·obtain⟨o',q⟩:=u.there a o e hx
   exact⟨o',kp a _ (lt a o e) q⟩
 have hok:HOk X.prog X.w H' h':=fun a o e=>(J.hok a o e).stay (fun c v hc q=>by
  refine kp c v ?_ q
  rcases hc with rfl|hc
  ·exact ntr _ _ e
  ·exact ntr _ _ hc) (fun _ q=>q) fun _ _ q=>q
 obtain⟨hh,g,d,t,os'⟩:=s1
 have os:os'=s.os:=J.os
 subst os
 have z:=I.call (h':=h') (g':=g) (d':=d) (t':=t) (ch:=fp) u' hok J.bare (fun a ha=>⟨(hf a ha).2.2.2.1,(hf a ha).2.1,(hf a ha).2.2.2.2.1,(hf a ha).2.2.2.2.2⟩)
 exact z
end
noncomputable def PTs (X:Cx)(ifs:List Expr)(t:TT):Prop:=∀(pins:List (Addr×Obj)) (s:Shared) (σ:St) (H:Hp) (Q:Bool->Hp->Prop),Inv X pins σ H s->t σ H Q->
 wpAny (model X.prog X.w) X.A (forIn ifs true fun c r=>if r=true then do let ok<-isTrue c X.env (eval c X.env);pure (ForInStep.yield ok)else pure (ForInStep.yield r)) (TP X pins σ Q) X.xe s
theorem pts_nil:PTs X [] (fun _ H Q=>Q true H):=fun pins s σ H Q I h=>wpAny_tests_nil ⟨H,I,h⟩
theorem pts_one {c:Expr}{t:TT}(h:PT X c t):PTs X [c] t:=fun pins s σ H Q I hw=>wpAny_tests_one (h pins s σ H Q I hw)
theorem zkH {R:Result->Shared->Prop}{s:Shared}{elt target iter:Expr}{it acc:Value}(I:Nat->Shared->Prop)
  (turn : ∀ n s, I n s -> wpAny (model prog w) A (pyNext it) (fun r s₁ => match r with
   |none=>R (.ok .next) s₁
   | some v => wpAny (model prog w) A (letOwnedTupleGo target it v) (fun _ s₁' => wpAny (model prog w) A (assign target env v) (fun _ s₂ =>
     wpAny (model prog w) A (forIn ifs true fun c r=>if r=true then do let ok<-isTrue c env (eval c env);pure (ForInStep.yield ok)else pure (ForInStep.yield r)) (fun ok s₃=>
      if ok=true then wpAny (model prog w) A (eval elt env) (fun x s₄=>
       wpAny (model prog w) A (call (.builtin "list.append") [acc,x]) (fun _ s₅=>∃m,m<n/\I m s₅) (fun _ _=>False) s₄) (fun _ _=>False) s₃
      else ∃m,m<n/\I m s₃) (fun _ _=>False) s₂) (fun _ _=>False) s₁') (fun _ _=>False) s₁) (fun _ _=>False) s)
  (n:Nat) (h:I n s):codeAny (model prog w) A (.compLoop (.ListComp elt [⟨target,iter,ifs,0⟩] scope pos) 0 it acc env) R s:=by
 refine codeAny_loop rfl I (fun n s hI=>?_) n h
 show wpAny _ A ((compTurn (.ListComp elt [⟨target,iter,ifs,0⟩] scope pos) 0 it acc env).onRaise (fun x=>do noteFrame x env;theTreesLotGoes x)) _ _ s
 refine wpAny_noted ?_
 rw[compTurn_list]
 have no:∀{E:Value->Shared->Prop},∀x s',(fun(_:Value) (_:Shared)=>False) x s'->E x s':=fun _ _ z=>z.elim
 refine wpAny_bind (wpAny_standAt (wpAny_bind (wpAny_mono (turn n s hI) (fun r s₁ h₁=>?_) no)))
 cases r with
 |none=>exact wpAny_pure h₁
 |some v=>
  refine wpAny_bind (wpAny_mono h₁ (fun _ s₁' h₁'=>?_) no)
  refine wpAny_bind (wpAny_mono h₁' (fun _ s₂ h₂=>wpAny_bind (wpAny_mono h₂ (fun ok s₃ h₃=>?_) no)) no)
  cases ok with
  |false=>exact wpAny_pure ⟨rfl,h₃⟩
  |true=>
   exact wpAny_bind (wpAny_bind (wpAny_mono h₃ (fun x s₄ h₄=>wpAny_bind (wpAny_mono h₄ (fun _ s₅ h₅=>wpAny_pure (wpAny_pure ⟨rfl,h₅⟩)) no)) no))
noncomputable def tLC (σ0:St->St)(wi:TI)(g:Addr->Shared->Hp->List Addr->TG)(tt:Addr->Shared->Hp->List Addr->TT)(te:Addr->Shared->Hp->List Addr->TE):TE:=fun σ H Q=>wi σ H fun J H1=>∀D,H1 D=none->∃W:Nat->Nat->St->Hp->Prop,(∃m,W 0 m (σ0 σ) (upd H1 D (.lst [])))/\∀i m σ H,W i m σ H->
 (J.stop i H /\ Q (.ref D) H) \/ (J.go i H /\ ∀ C s₀ H₀ fp x H', J.yld i H x H' -> g C s₀ H₀ fp x σ H' fun σ2 H2 => tt C s₀ H₀ fp σ2 H2 fun ok H3 => if ok = true then te C s₀ H₀ fp σ2 H3 fun v H4 => ∃ xs, H4 D = some (.lst xs) /\ xs.length < sizeLine /\ ∃ m', m' < m /\ W (i + 1) m' σ2 (upd H4 D (.lst (xs ++ [v])))
  else ∃m',m'<m/\W (i+1) m' σ2 H3)
section
variable {X:Cx} {elt iter tg:Expr} {ifs:List Expr} {scope:Scope} {pos:Pos} {N:List Str} {σ0:St->St} {wi:TI} {g:Addr->Shared->Hp->List Addr->TG} {tt:Addr->Shared->Hp->List Addr->TT} {te:Addr->Shared->Hp->List Addr->TE}
structure Cap (X:Cx) (scope:Scope) (N:List Str) (σ0:St->St):Prop where
 len:∀σ,(σ0 σ).length=N.length
 src:∀(σ:St) (i:Nat) (x:Str) (v:V),N[i]? =some x->(σ0 σ)[i]? =some (some v)->(x,NameKind.free)∈scope.names/\∃j:Nat,X.N[j]? =some x/\σ[j]? =some (some v)
 loc:∀(σ:St) (i:Nat) (x:Str) (v:V),N[i]? =some x->(σ0 σ)[i]? =some (some v)->¬(relabel scope X.env).names.lookup x=some .local
theorem zmR {E:Value->Shared->Prop}(hc:X.calm=true)(b:BlkOk X scope)(cap:Cap X scope N σ0)(hi:PI X tg iter wi)(hg:∀C s H fp,PG (cxC X N scope C s H fp) tg (g C s H fp))(ht:∀C s H fp,PTs (cxC X N scope C s H fp) ifs (tt C s H fp))(he:∀C s H fp,PE (cxC X N scope C s H fp) elt (te C s H fp))
  {pins:List (Addr×Obj)} {s:Shared} {σ:St} {H:Hp} {Q:VK} (I:Inv X pins σ H s) (h:tLC σ0 wi g tt te σ H Q) {QQ:Value->Shared->Prop} {p0:Pos}
  (hs:∀x,foldedSetIterable iter X.env x=pure x)
  (fin : match use with
   |none=>∀u s',EP X pins σ Q u s'->QQ u s'
   |some f=>∀(D:Addr) (fp:List Addr) (C:Addr) (H1 H':Hp) (σc:St) (s1 s':Shared),Inv X pins σ H1 s1->(∀b∈fp,FpOk X pins H1 b)->C=s1.heap.objs.size->Inv (cxC X N scope C s1 H1 fp) [] σc H' s'->Q (.ref D) H'->
     wpAny (model X.prog X.w) X.A (f (.ref D)) (fun _ s''=>∃m,s''.heap.Ns C m/\∀h',Heap.SameBut C s''.heap h'->QQ .none {s'' with heap:=h'}) X.xe s'):
  wpAny (model X.prog X.w) X.A (comprehension (.ListComp elt [⟨tg,iter,ifs,0⟩] scope pos) scope X.env p0 (newList []) false (eval iter X.env) use) QQ X.xe s:=by
 refine wpAny_comprehension_free (cl:=clOf scope X.env) (g:=⟨tg,iter,ifs,0⟩) (gs:=[]) rfl hs (zmw (zhP I b)) b.kind (fun x hx hl=>hl ▸ b.uniq x hx) ?_
 refine thn (hi pins s σ H _ I h) fun v s1 h1=>thn h1 fun itv s2 h2=>?_
 obtain⟨it,fp,tn,J,H2,e,I2,T,st2,f2,h3⟩:=h2
 subst e
 refine wpAny_newObj_type ?_ (by show(0:Nat)<=sizeLine;exact Nat.zero_le _)
 have hD:H2 s2.heap.objs.size=none:=I2.fresh
 obtain⟨W,⟨m0,w0⟩,turn⟩:=h3 _ hD
 have I3:Inv X pins σ (upd H2 s2.heap.objs.size (.lst [])) {s2 with heap:=s2.heap.push {cls:= .type "list",data:= .seq ([]:List Value).toArray}}:=I2.lnew (t':=s2.toks) .nil (Nat.zero_le _)
 have f3:∀b∈fp,FpOk X pins (upd H2 s2.heap.objs.size (.lst [])) b:=fun b hb=>by
  obtain⟨a1,a2⟩:=f2 b hb
  obtain⟨o,ho,_⟩:=T.obj _ _ st2 b hb
  exact⟨by rw[zal (Nat.ne_of_lt (Heap.lt_size ho))];exact a1,a2⟩
 have st3:tn 0 (s2.heap.push {cls:= .type "list",data:= .seq ([]:List Value).toArray}):=T.keep _ _ _ st2 fun b hb o e=>Heap.get?_push_of_some _ e
 generalize hs3:({s2 with heap:=s2.heap.push {cls:= .type "list",data:= .seq ([]:List Value).toArray}}:Shared)=s3 at I3
 have hs3':s3.heap=s2.heap.push {cls:= .type "list",data:= .seq ([]:List Value).toArray}:=by rw[<-hs3]
 rw[<-hs3']at st3
 have hfs:∀b∈fp,b<s3.heap.objs.size:=fun b hb=>by
  obtain⟨o,ho,_⟩:=T.obj _ _ st3 b hb
  exact Heap.lt_size ho
 show wpAny _ _ (newFunctionEnv scope X.env.globals (clOf scope X.env) [] X.env.qual none .none (some X.env)) _ _ s3
 refine zkw fun h' hns hk hcl=>?_
 have hcl:=hcl fun x c e=>I3.cell x c (zfH I3 b e)
 generalize hDD:s2.heap.objs.size=DD at*
 have B0:Inv (cxC X N scope s3.heap.objs.size s3 (upd H2 DD (.lst [])) fp) [] (σ0 σ) (upd H2 DD (.lst [])) {s3 with heap:=h'}:=
  zoR (tk:=s3.toks) I3 b f3 hfs hns hk hcl (cap.len σ) (cap.src σ) (cap.loc σ)
 have stat:∀{H':Hp},(∀b∈fp,H' b=none)->∀b∈fp,FpOk (cxC X N scope s3.heap.objs.size s3 (upd H2 DD (.lst [])) fp) [] H' b:=fun hn b' hb=>by
  refine⟨hn b' hb,Nat.ne_of_lt (hfs b' hb),fun z=>?_,.inl hb,fun x c e=>?_,fun p hp=>absurd (show p∈([]:List (Addr×Obj))from hp) (by simp)⟩
  ·rcases List.mem_cons.mp (I3.stkSub b' z)with w|w
   ·exact(f3 b' hb).2.1 w
   ·exact(f3 b' hb).2.2.1 w
  ·intro z
   rcases zgc I3 b e with q|q
   ·exact Nat.lt_asymm q (z ▸ hfs b' hb)
   ·exact(f3 b' hb).2.2.2.2.1 x c q z
 have tn0:tn 0 h':=T.keep _ _ _ st3 fun b' hb o e=>hk b' o e
 have post:∀(s':Shared) (σc:St) (H':Hp),Inv (cxC X N scope s3.heap.objs.size s3 (upd H2 DD (.lst [])) fp) [] σc H' s'->Q (.ref DD) H'->compPost (model X.prog X.w) X.A X.xe use QQ (.ref DD) s3.heap.objs.size (.ok .next) s':=fun s' σc H' J' q=>by
  cases use with
  |none=>
   obtain⟨m,hn,_⟩:=J'.loc
   exact⟨m,hn,fun h'' hs''=>fin _ _ ⟨.ref DD,H',znI I3 f3 J' hs'',rfl,q⟩⟩
  |some f=>exact fin DD fp _ _ H' σc s3 s' I3 f3 rfl J' q
 have loop:codeAny (model X.prog X.w) X.A (.compLoop (.ListComp elt [⟨tg,iter,ifs,0⟩] scope pos) 0 (.ref it) (.ref DD) (compEnvC scope (clC scope X.env s3.heap.objs.size) s3.heap.objs.size X.env)) (compPost (model X.prog X.w) X.A X.xe use QQ (.ref DD) s3.heap.objs.size) {s3 with heap:=h'}:=by
  refine zkH (fun n s'=>∃i σ' H',Inv (cxC X N scope s3.heap.objs.size s3 (upd H2 DD (.lst [])) fp) [] σ' H' s'/\tn i s'.heap/\(∀b∈fp,H' b=none)/\W i n σ' H') ?_ m0 ⟨0,σ0 σ,_,B0,tn0,fun b' hb=>(f3 b' hb).1,w0⟩
  rintro n s5 ⟨i,σ5,H5,I5,st5,fr5,w5⟩
  rcases turn i n σ5 H5 w5 with⟨stop,qn⟩|⟨go,step⟩
  ·refine thn (T.done (cxC X N scope s3.heap.objs.size s3 (upd H2 DD (.lst [])) fp) rfl rfl rfl hc i [] s5 σ5 H5 (fun _ _=>False) I5 (stat fr5) st5 stop) fun r s6 ⟨hr,I6⟩=>?_
   subst hr
   exact post s6 σ5 H5 I6 qn
  ·refine thn (T.item (cxC X N scope s3.heap.objs.size s3 (upd H2 DD (.lst [])) fp) rfl rfl rfl hc i [] s5 σ5 H5 (fun _ _=>False) I5 (stat fr5) st5 go) fun r s6 ⟨u,hr,h6⟩=>?_
   subst hr
   refine thn h6 fun _ s7 ⟨x,H7,I7,r7,y7,st7,fr7⟩=>?_
   have I7':=I7.pinned (stat fr7) (T.obj _ _ st7)
   have again:∀{σ8:St} {H8:Hp} {s8:Shared} {m':Nat},Inv (cxC X N scope s3.heap.objs.size s3 (upd H2 DD (.lst [])) fp) ([]++zjg fp s7.heap) σ8 H8 s8->m'<n->W (i+1) m' σ8 H8->
     ∃m,m<n/\∃i σ' H',Inv (cxC X N scope s3.heap.objs.size s3 (upd H2 DD (.lst [])) fp) [] σ' H' s8/\tn i s8.heap/\(∀b∈fp,H' b=none)/\W i m σ' H':=fun{σ8 H8 s8 m'} I8 hm w8=>by
    refine⟨m',hm,i+1,σ8,H8,I8.unpinned,T.keep _ _ _ st7 fun b' hb o e=>(I8.pin (b',o) (List.mem_append_right _ (List.mem_append_right _ (zeh hb e)))).1,fun b' hb=>?_,w8⟩
    obtain⟨o,e,d⟩:=T.obj _ _ st7 b' hb
    exact(I8.pin (b',o) (List.mem_append_right _ (List.mem_append_right _ (zeh hb e)))).2.1
   refine thn (hg _ _ _ _ _ s7 σ5 H7 x u _ I7' r7 (step _ _ _ _ x H7 y7)) fun _ s8 ⟨σ8,H8,I8,q8⟩=>?_
   refine thn (ht _ _ _ _ _ s8 σ8 H8 _ I8 q8) fun ok s9 ⟨H9,I9,q9⟩=>?_
   cases ok with
   |false=>
    obtain⟨m',hm,w9⟩:=q9
    exact again I9 hm w9
   |true=>
    refine thn (he _ _ _ _ _ s9 σ8 H9 _ I9 q9) fun u10 s10 ⟨v10,H10,I10,r10,xs,hx,hz,m',hm,w10⟩=>?_
    refine thn (zjL _ s10 σ8 H10 (.ref DD) [v10] (.ref DD) [u10] (fun v H'=>v= .non/\H'=upd H10 DD (.lst (xs++[v10]))) I10 rfl (.cons r10 .nil) ⟨DD,xs,v10,rfl,rfl,hx,hz,rfl,rfl⟩) fun _ s11 ⟨_,H11,I11,_,_,e11⟩=>?_
    subst e11
    exact again I11 hm w10
 exact codeAny_compStart_list loop (T.self _ _ _ _ _ tn0 loop)
theorem pe_lc (hc:X.calm=true)(b:BlkOk X scope)(cap:Cap X scope N σ0)(hi:PI X tg iter wi)(hg:∀C s H fp,PG (cxC X N scope C s H fp) tg (g C s H fp))(ht:∀C s H fp,PTs (cxC X N scope C s H fp) ifs (tt C s H fp))(he:∀C s H fp,PE (cxC X N scope C s H fp) elt (te C s H fp))
    (hs:autoParam (∀x,foldedSetIterable iter X.env x=pure x) zu8._auto_1):PE X (.ListComp elt [⟨tg,iter,ifs,0⟩] scope pos) (tLC σ0 wi g tt te):=by
  intro pins s σ H Q I h
  rw[eval_ListComp]
  exact zmR (use:=none) (E:=X.xe) hc b cap hi hg ht he I h hs (fun u s' q=>q)
end
noncomputable def zcG (ρ:R):Bool:=ρ.all fun s=>match s with
 | .own _=>false
 | .par _=>false
 | .tre _=>false
 | .ptr _=>false
 |_=>true
theorem zlx (h:zcG ρ=true){a:Addr}(e:ρ[i]? =some s):¬OwS K G H ov a s:=fun w=>by
 unfold zcG at h
 rw[List.all_eq_true]at h
 have:=h s (List.mem_of_getElem? e)
 cases s with
 |emp=>exact w
 |two _ _=>exact w
 |val d=>exact w
 |_=>exact absurd (show false=true from this) Bool.false_ne_true
theorem zg4 (h:zcG ρ=true)(e:ρ[i]? =some s):(∀t,s≠ .tre t)/\∀t,s≠ .ptr t:=by
 unfold zcG at h
 rw[List.all_eq_true]at h
 have:=h s (List.mem_of_getElem? e)
 constructor
 ·rintro t rfl;exact absurd (show false=true from this) Bool.false_ne_true
 ·rintro t rfl;exact absurd (show false=true from this) Bool.false_ne_true
theorem zha (h:zcG ρ=true):¬Wr ρ i:=fun⟨s,ds,e,q⟩=>by
 unfold zcG at h
 rw[List.all_eq_true]at h
 have:=h s (List.mem_of_getElem? e)
 cases s with
 |emp=>exact cNN q
 |two _ _=>exact cNN q
 |tre _=>exact cNN q
 |ptr _=>exact cNN q
 |val d=>exact cNN q
 |own d=>exact absurd (show false=true from this) Bool.false_ne_true
 |par d=>exact absurd (show false=true from this) Bool.false_ne_true
structure VS (K:W.Frag) (G:Hp) (σ:St) (ρ:R):Prop where
 len:σ.length=ρ.length
 no:zcG ρ=true
 val:∀(i:Nat) d,ρ[i]? =some (.val d)->∃v,σ[i]? =some (some v)/\RepD K G v d
theorem VS.si (h:VS K G σ ρ)(fz:Fz G H):SI K ⟨G,H,[]⟩ G H σ ρ where
 fz:=fz
 g0:=Fz.refl G
 new:=fun b o e=> .inl (by show G b≠none;rw[e];simp)
 keep:=fun b o e _=>e
 there:=fun b e=>e
 ob:=fun i b m=>by cases m
 len:=h.len
 slot:=fun i s e=>by
  cases s with
  |emp=>trivial
  |two _ _=>trivial
  |tre t=>exact absurd rfl ((zg4 h.no e).1 t)
  |ptr t=>exact absurd rfl ((zg4 h.no e).2 t)
  |val d=>exact h.val i d e
  |own ds=>exact absurd ⟨_,ds,e,rfl⟩ (zha h.no (i:=i))
  |par ds=>exact absurd ⟨_,ds,e,rfl⟩ (zha h.no (i:=i))
 dis:=fun i j s _ a _ e _ w=>absurd w (zlx h.no e)
theorem VS.of (I:SI K B G H σ ρ)(h:zcG ρ=true):VS K G σ ρ:=⟨I.len,h,fun i d e=>I.slot i _ e⟩
noncomputable def fz1 (i:Nat)(ρ:R):R:=match ρ[i]? with
 |some (.own ds)=>ρ.set i (.val (.lst ds))
 |_=>ρ
noncomputable def fzL:List Nat->R->R
 |[],ρ=>ρ
 |i::is,ρ=>fzL is (fz1 i ρ)
theorem SI.fz1 (I:SI K B G H σ ρ)(i:Nat):∃G',SI K B G' H σ (M.fz1 i ρ)/\Fz G G':=by
 unfold M.fz1
 cases e:ρ[i]? with
 |none=>exact⟨G,I,Fz.refl G⟩
 |some s=>
  cases s with
  |own ds=>obtain⟨l,xs,_,f,_,I'⟩:=I.freeze e;exact⟨_,I',f⟩
  |emp=>exact⟨G,I,Fz.refl G⟩
  |two _ _=>exact⟨G,I,Fz.refl G⟩
  |tre _=>exact⟨G,I,Fz.refl G⟩
  |ptr _=>exact⟨G,I,Fz.refl G⟩
  |val _=>exact⟨G,I,Fz.refl G⟩
  |par _=>exact⟨G,I,Fz.refl G⟩
theorem SI.fzL:∀(is:List Nat) {G:Hp} {ρ:R},SI K B G H σ ρ->∃G',SI K B G' H σ (M.fzL is ρ)/\Fz G G'
 |[],G,ρ,I=>⟨G,I,Fz.refl G⟩
 |i::is,G,ρ,I=>by
  obtain⟨G1,I1,f1⟩:=I.fz1 i
  obtain⟨G2,I2,f2⟩:=SI.fzL is I1
  exact⟨G2,I2,f1.trans f2⟩
noncomputable def capS (ρ:R)(i:Nat):Sl:=match ρ[i]? with
 |some (.val d)=> .val d
 |_=> .emp
theorem zl3 (ρ:R)(i:Nat):capS ρ i= .emp\/∃d,capS ρ i= .val d:=by
 unfold capS
 split
 ·exact .inr ⟨_,rfl⟩
 ·exact .inl rfl
noncomputable def capR (cap:List Nat)(t:Nat)(ρ:R):R:=cap.map (capS ρ)++List.replicate t .emp
noncomputable def capσ (cap:List Nat)(t:Nat)(σ:St):St:=cap.map (fun i=>(σ[i]?).join)++List.replicate t none
theorem cap_vs (I:SI K B G H σ ρ)(cap:List Nat)(t:Nat):VS K G (capσ cap t σ) (capR cap t ρ) where
 len:=by unfold capσ capR;simp
 no:=by
  unfold zcG capR
  rw[List.all_eq_true]
  intro s hs
  rcases List.mem_append.mp hs with h|h
  ·obtain⟨i,_,rfl⟩:=List.mem_map.mp h
   rcases zl3 ρ i with e|⟨d,e⟩
   ·rw[e]
   ·rw[e]
  ·rw[List.eq_of_mem_replicate h]
 val:=fun i d e=>by
  unfold capR at e
  by_cases hi:i<cap.length
  ·rw[List.getElem?_append_left (by simpa using hi),List.getElem?_map,List.getElem?_eq_getElem hi]at e
   have e':capS ρ cap[i]= .val d:=by simpa using e
   unfold capS at e'
   split at e'
   ·rename_i d' q
    cases e'
    obtain⟨v,h1,h2⟩:=I.slot _ _ q
    refine⟨v,?_,h2⟩
    unfold capσ
    rw[List.getElem?_append_left (by simpa using hi),List.getElem?_map,List.getElem?_eq_getElem hi]
    simp[h1]
   ·cases e'
  ·rw[List.getElem?_append_right (by simpa using hi),List.getElem?_replicate]at e
   split at e
   ·cases e
   ·exact cNN e
noncomputable def zc1 (f:D->R->Option (Option D×R)):List D->R->Option (List D×R)
 |[],ρ=>some ([],ρ)
 |d::ds,ρ=>(f d ρ).bind fun p=>(zc1 f ds p.2).map fun q=>(p.1.toList++q.1,q.2)
noncomputable def turnM (g:D->R->Option R)(mt:MT)(me:ME):D->R->Option (Option D×R):=fun d ρ=>(g d ρ).bind fun ρ1=>(mt ρ1).bind fun p=>if p.1 then(me p.2).bind fun q=>if zcG q.2 then some (some q.1,q.2)else none else if zcG p.2 then some (none,p.2)else none
noncomputable def oLC (cap:List Nat)(t:Nat)(mi:MA)(g:D->R->Option R)(mt:MT)(me:ME):MO:=fun ρ=>(mi ρ).bind fun p=>if p.1.length<=16777216 then(zc1 (turnM g mt me) p.1 (capR cap t (fzL cap p.2))).map fun q=>(q.1,fzL cap p.2)else none
noncomputable def STsb (X:Cx)(ifs:List Expr)(m:MT)(t:TT):Prop:=∀B G H σ ρ d ρ' (Q:Bool->Hp->Prop),SI X.K B G H σ ρ->m ρ=some (d,ρ')->(∀G' H',SI X.K B G' H' σ ρ'->Fz G G'->Q d H')->t σ H Q
noncomputable def STs (X:Cx)(ifs:List Expr)(m:MT):Prop:=∃t,PTs X ifs t/\STsb X ifs m t
noncomputable def zbb:MT:=fun ρ=>some (true,ρ)
theorem zaA:STs X [] zbb:=⟨_,pts_nil,fun B G H σ ρ d ρ' Q I hm k=>by obtain⟨rfl,rfl⟩:=cSp hm;exact k G H I (Fz.refl G)⟩
theorem zd8 {c:Expr}{m:MT}(h:STt X c m):STs X [c] m:=h.el fun t p s=>⟨t,pts_one p,s⟩
noncomputable def blkB (env:Env)(scope:Scope):Bool:=(scope.names.all fun x=>scope.names.lookup x.1==some x.2&&(x.2 != .free||(env.kindOf x.1==some .cell||env.kindOf x.1==some .free)))
theorem zlj (hk:scope.kind= .function)(h:blkB X.env scope=true):BlkOk X scope:=by
 unfold blkB at h
 rw[List.all_eq_true]at h
 refine⟨hk,fun x hx=>?_,fun x hx hf=>?_⟩
 ·have:=h x hx
  simp only[Bool.and_eq_true,Bool.or_eq_true,bne_iff_ne,beq_iff_eq]at this
  exact this.1
 ·have:=h x hx
  simp only[Bool.and_eq_true,Bool.or_eq_true,bne_iff_ne,beq_iff_eq]at this
  exact(this.2).resolve_left (fun z=>z hf)
noncomputable def capB (names:List (Str×NameKind))(N XN:List Str)(cap:List Nat)(t:Nat):Bool:=N.length==cap.length+t&&(cap.zip N).all fun p=>XN[p.1]? ==some p.2&&names.lookup p.2==some .free
theorem zlX (h:capB scope.names N X.N cap t=true):Cap X scope N (capσ cap t):=by
 unfold capB at h
 rw[Bool.and_eq_true,List.all_eq_true]at h
 obtain⟨hl,h⟩:=h
 have hl:N.length=cap.length+t:=by simpa using hl
 have key:∀(σ:St) (i:Nat) (x:Str) (v:V),N[i]? =some x->(capσ cap t σ)[i]? =some (some v)->∃j,cap[i]? =some j/\σ[j]? =some (some v)/\X.N[j]? =some x/\scope.names.lookup x=some .free:=fun σ i x v h1 h2=>by
  unfold capσ at h2
  by_cases hi:i<cap.length
  ·rw[List.getElem?_append_left (by simpa using hi),List.getElem?_map,List.getElem?_eq_getElem hi]at h2
   have h3:(σ[cap[i]]?).join=some v:=by simpa using h2
   have hz:(cap[i],x)∈cap.zip N:=by
    refine List.mem_of_getElem? (i:=i) ?_
    rw[List.getElem?_zip_eq_some]
    exact⟨List.getElem?_eq_getElem hi,h1⟩
   have:=h _ hz
   simp only[Bool.and_eq_true,beq_iff_eq]at this
   refine⟨cap[i],List.getElem?_eq_getElem hi,?_,this.1,this.2⟩
   cases q:σ[cap[i]]? with
   |none=>rw[q]at h3;exact cNN h3
   |some o=>rw[q]at h3;rw[show o=some v from h3]
  ·rw[List.getElem?_append_right (by simpa using hi),List.getElem?_replicate]at h2
   split at h2<;>cases h2
 refine⟨fun σ=>by unfold capσ;simp[hl],fun σ i x v h1 h2=>?_,fun σ i x v h1 h2 z=>?_⟩
 ·obtain⟨j,_,a,b,c⟩:=key σ i x v h1 h2
  exact⟨zei c,j,b,a⟩
 ·obtain⟨j,_,a,b,c⟩:=key σ i x v h1 h2
  have e:(relabel scope X.env).names.lookup x=(scope.names.lookup x).map fun k=>if(k==NameKind.free&&X.env.scope.kind== .function&&X.env.kindOf x==some .cell)then NameKind.cell else k:=zcH
  rw[e,c]at z
  simp only[Option.map_some,Option.some.injEq]at z
  split at z<;>cases z
noncomputable def turnG (ok:R->Bool)(g:D->R->Option R)(mt:MT)(me:ME):D->R->Option (Option D×R):=fun d ρ=>(g d ρ).bind fun ρ1=>(mt ρ1).bind fun p=>if p.1 then(me p.2).bind fun q=>if ok q.2 then some (some q.1,q.2)else none else if ok p.2 then some (none,p.2)else none
theorem cSp2 {α β:Type}{a c:α}{b d:β}(h:some (a,b)=some (c,d))(k:a=c->b=d->C):C:=k (cSp h).1 (cSp h).2
theorem turnG_el {ok:R->Bool}{mt:MT}{me:ME}(h:turnG ok g mt me d ρ=some (o,ρ'))(k:∀ρ1 b ρ2,g d ρ=some ρ1->mt ρ1=some (b,ρ2)->((b=true/\∃dv,me ρ2=some (dv,ρ')/\o=some dv)\/(b=false/\o=none/\ρ2=ρ'))->ok ρ'=true->C):C:=by
 unfold turnG at h
 refine cBel h fun ρ1 e1 h=>zaz h fun b ρ2 e2 h=>?_
 cases b with
 |true=>exact zaz h fun dv ρ3 e3 h=>cIte h fun z h=>cSp2 h fun q1 q2=>by subst q2;exact k ρ1 _ ρ2 e1 e2 (.inl ⟨rfl,dv,e3,q1.symm⟩) z
 |false=>exact cIte h fun z h=>cSp2 h fun q1 q2=>by subst q2;exact k ρ1 _ ρ2 e1 e2 (.inr ⟨rfl,q1.symm,rfl⟩) z
theorem zmc {d:D}(h:zc1 f (d::ds) ρ=some (out,ρ'))(k:∀o ρ1 rest,f d ρ=some (o,ρ1)->zc1 f ds ρ1=some (rest,ρ')->out=o.toList++rest->C):C:=by
 simp only[zc1]at h
 exact zaz h fun o ρ1 e1 h=>zdO h fun rest ρ2 e2 h=>by
  obtain⟨rfl,rfl⟩:=Prod.mk.inj h
  exact k o ρ1 rest e1 e2 rfl
structure LcG (K:W.Frag) (O:List (Nat×Addr)) (G2 H1:Hp) (DD:Addr) (Hc Gc:Hp) (xs:List V):Prop where
 fc:Fz G2 Gc
 fcH:Fz Gc Hc
 nw:∀b o,Gc b=some o->G2 b≠none\/H1 b=none
 kp:∀b o,(∀i,(i,b)∉O)->H1 b=some o->Hc b=some o
 gD:Gc DD=none
 hDc:Hc DD=some (.lst xs)
theorem none_of {b:Addr}(h:∀o,H b=some o->False):H b=none:=by
 cases q:H b with
 |none=>rfl
 |some u=>exact(h u q).elim
theorem LcG.next {G2 H1:Hp}(J:LcG K O G2 H1 DD Hc Gc xs)(hO:∀i,(i,DD)∉O){σ':St}(I:SI K ⟨Gc,Hc,O⟩ G' H' σ' ρ'):LcG K O G2 H1 DD H' G' xs where
 fc:=J.fc.trans I.g0
 fcH:=I.fz
 nw:=fun b o e=>(I.new b o e).elim (fun h=>by
  cases q:Gc b with
  |none=>exact absurd q h
  |some u=>exact J.nw b u q) fun h=> .inr (none_of fun u q=>Classical.byCases (p:=∀i,(i,b)∉O) (fun n=>cNN ((show Hc b=none from h).symm.trans (J.kp b u n q))) fun n=>n fun i m=>I.ob i b m h)
 kp:=fun b o n e=>I.keep b o (J.kp b o n e) n
 gD:=none_of fun u q=>(I.new DD u q).elim (fun h=>h J.gD) fun h=>cNN ((show Hc DD=none from h).symm.trans J.hDc)
 hDc:=I.keep DD _ J.hDc hO
theorem LcG.put {G2 H1:Hp}(J:LcG K O G2 H1 DD Hc Gc xs)(hD:H1 DD=none)(ys:List V):LcG K O G2 H1 DD (upd Hc DD (.lst ys)) Gc ys where
 fc:=J.fc
 fcH:=J.fcH.right J.gD _
 nw:=J.nw
 kp:=fun b o n e=>(zal (zaJ e hD)).trans (J.kp b o n e)
 gD:=J.gD
 hDc:=zar
section
variable {X:Cx} {elt iter tg:Expr} {ifs:List Expr} {scope:Scope} {pos:Pos} {N:List Str} {cap:List Nat} {t:Nat} {mi:MA} {g:D->R->Option R} {mt:MT} {me:ME}
structure LcB (X:Cx) (scope:Scope) (N:List Str) (elt tg:Expr) (ifs:List Expr) (g:D->R->Option R) (mt:MT) (me:ME) (tg':Addr->Shared->Hp->List Addr->TG) (tt:Addr->Shared->Hp->List Addr->TT) (te:Addr->Shared->Hp->List Addr->TE):Prop where
 sg:∀C s H fp,SGb (cxC X N scope C s H fp) tg g (tg' C s H fp)
 st:∀C s H fp,STsb (cxC X N scope C s H fp) ifs mt (tt C s H fp)
 se:∀C s H fp,SEb (cxC X N scope C s H fp) elt me (te C s H fp)
noncomputable def LcW (σs:St)(J:It)(DD:Addr)(H1:Hp)(tg':Addr->Shared->Hp->List Addr->TG)(tt:Addr->Shared->Hp->List Addr->TT)(te:Addr->Shared->Hp->List Addr->TE)(Q:VK):Prop:=∃W:Nat->Nat->St->Hp->Prop,(∃m,W 0 m σs (upd H1 DD (.lst [])))/\∀i m σ H,W i m σ H->
 (J.stop i H /\ Q (.ref DD) H) \/ (J.go i H /\ ∀ C s₀ H₀ fp x H', J.yld i H x H' -> tg' C s₀ H₀ fp x σ H' fun σ2 H2 => tt C s₀ H₀ fp σ2 H2 fun ok H3 => if ok = true then te C s₀ H₀ fp σ2 H3 fun v H4 => ∃ xs, H4 DD = some (.lst xs) /\ xs.length < sizeLine /\ ∃ m', m' < m /\ W (i + 1) m' σ2 (upd H4 DD (.lst (xs ++ [v])))
  else ∃m',m'<m/\W (i+1) m' σ2 H3)
theorem zjM (blk:LcB X scope N elt tg ifs g mt me tg' tt te){ok:R->Bool}{items all:List D}{ρs ρf:R}{G1 G2 H1:Hp}{σs:St}{J:It}{Q:VK}
  (IT:Itm X.K J G1 items) (f2:Fz G1 G2) (fH:Fz G2 H1) (hD:H1 DD=none) (hlen:items.length<=16777216) (hO:∀i,(i,DD)∉O)
  (jsi:∀G H σ ρ,JJ G H σ ρ->Fz G H->SI X.K ⟨G,H,O⟩ G H σ ρ) (joi:∀Gb Hb G H σ ρ,SI X.K ⟨Gb,Hb,O⟩ G H σ ρ->ok ρ=true->JJ G H σ ρ) (jup:∀G H σ ρ xs,JJ G H σ ρ->JJ G (upd H DD (.lst xs)) σ ρ)
  (j0:JJ G2 H1 σs ρs) (e2:zc1 (turnG ok g mt me) items ρs=some (all,ρf))
  (k:∀Gc Hc σc xs,LcG X.K O G2 H1 DD Hc Gc xs->RepL X.K Gc xs all->JJ Gc Hc σc ρf->Q (.ref DD) Hc):LcW σs J DD H1 tg' tt te Q:=by
 refine⟨fun i m σc Hc=>m=items.length-i/\i<=items.length/\∃Gc ρc acc xs rest,LcG X.K O G2 H1 DD Hc Gc xs/\RepL X.K Gc xs acc/\xs.length<=i/\JJ Gc Hc σc ρc/\zc1 (turnG ok g mt me) (items.drop i) ρc=some (rest,ρf)/\all=acc++rest,
  ⟨items.length,rfl,Nat.zero_le _,G2,ρs,[],[],all,⟨Fz.refl _,fH.right (fH.free hD) _,fun b o e=> .inl (by rw[e];exact nofun),fun b o _ e=>(zal (zaJ e hD)).trans e,fH.free hD,zar⟩,.nil,Nat.le_refl _,jup _ _ _ _ _ j0,e2,rfl⟩,?_⟩
 rintro i m σc Hc ⟨rfl,hi,Gc,ρc,acc,xs,rest,J0,ra,hx,jj,ec,eall⟩
 by_cases hlt:i<items.length
 ·refine .inr ⟨IT.go Hc i (f2.trans (J0.fc.trans J0.fcH)) hlt,fun C s₀ H₀ fp x H' y=>?_⟩
  rw[List.drop_eq_getElem_cons hlt]at ec
  refine zmc ec fun o ρ3 rest2 h3 h4 er=>turnG_el h3 fun ρ5 b ρ6 h5 h6 hb hok=>?_
  have f3':Fz G1 Gc:=f2.trans J0.fc
  have yy2:(H'=Hc/\RepD X.K Gc x items[i])\/∃p xs es,Hc p=none/\H'=upd Hc p (.tup xs)/\x= .ref p/\items[i]= .tup es/\RepL X.K Gc xs es:=(IT.yld Hc i x H' (f3'.trans J0.fcH) y items[i] (List.getElem?_eq_getElem hlt)).imp (fun q=>⟨q.1,q.2.mono f3'⟩) fun⟨p,xs,es,a,b,c,d,e⟩=>⟨p,xs,es,a,b,c,d,e.mono f3'⟩
  obtain⟨G3,I3,f3,r3⟩:=(jsi _ _ _ _ jj J0.fcH).yld yy2
  refine blk.sg C s₀ H₀ fp _ G3 H' σc ρc x items[i] ρ5 _ I3 r3 h5 fun G4 H4 σ4 I4 f4=>blk.st C s₀ H₀ fp _ G4 H4 σ4 ρ5 b ρ6 _ I4 h6 fun G5 H5 I5 f5=>?_
  have hlt2:items.length-(i+1)<items.length-i:=by lia
  rcases hb with⟨rfl,dv,h7,rfl⟩|⟨rfl,rfl,rfl⟩
  ·refine blk.se C s₀ H₀ fp _ G5 H5 σ4 ρ6 dv _ _ I5 h7 fun G6 H6 v I6 f6 r6=>?_
   have J1:=J0.next hO I6
   exact⟨xs,J1.hDc,by rw[sizeLine_eq];lia,_,hlt2,rfl,hlt,G6,_,acc++[dv],xs++[v],rest2,J1.put hD _,(ra.mono I6.g0).snoc r6,by rw[List.length_append,List.length_singleton];lia,jup _ _ _ _ _ (joi _ _ _ _ _ _ I6 hok),h4,by rw[eall,er,List.append_assoc];rfl⟩
  ·exact⟨_,hlt2,rfl,hlt,G5,_,acc,xs,rest2,J0.next hO I5,ra.mono I5.g0,by lia,joi _ _ _ _ _ _ I5 hok,h4,by rw[eall,er];rfl⟩
 ·have e:i=items.length:=by lia
  subst e
  rw[List.drop_length]at ec
  have hr:=cSp ec
  obtain⟨q1,q2⟩:=hr
  subst q1 q2
  rw[List.append_nil]at eall
  subst eall
  exact .inl ⟨IT.stop Hc _ (f2.trans (J0.fc.trans J0.fcH)) (Nat.le_refl _),k Gc Hc σc xs J0 ra jj⟩
theorem zjb (si:SItb X tg iter mi wi)(blk:LcB X scope N elt tg ifs g mt me tg' tt te):
  ∀B G H σ ρ ds ρ' (Q:VK),SI X.K B G H σ ρ->oLC cap t mi g mt me ρ=some (ds,ρ')->
   (∀G' H' l xs,SI X.K B G' H' σ ρ'->Fz G G'->G' l=none->H' l=some (.lst xs)->RepL X.K G' xs ds->B.H l=none->Nw X.K G' H' σ ρ' l->Q (.ref l) H')->tLC (capσ cap t) wi tg' tt te σ H Q:=fun B G H σ ρ ds ρ' Q I hm k=>
 zaz hm fun items ρ1 e1 hm=>si B G H σ ρ items ρ1 _ I e1 fun J G1 H1 I1 f1 IT DD hD=>cIte hm fun hlen hm=>zdO hm fun all ρf e2 e3=>by
  obtain⟨rfl,rfl⟩:=Prod.mk.inj e3
  obtain⟨G2,I2,f2⟩:=SI.fzL cap I1
  exact zjM blk (O:=[]) (JJ:=fun G _ σ ρ=>VS X.K G σ ρ) IT f2 I2.fz hD hlen (fun i m=>nomatch m) (fun G H σ ρ h f=>h.si f) (fun _ _ _ _ _ _ I h=>VS.of I h) (fun _ _ _ _ _ h=>h) (cap_vs I2 cap t) e2
   fun Gc Hc σc xs J ra _=>k Gc Hc DD xs (I2.grow J.fc J.fcH J.nw fun b o e=>J.kp b o nofun e) (f1.trans (f2.trans J.fc)) J.gD J.hDc ra (I2.there DD hD) (I2.own_ne hD J.nw fun b o e=>J.kp b o nofun e)
theorem LcB.mk' (hg:∀C s H fp,SG (cxC X N scope C s H fp) tg g)(ht:∀C s H fp,STs (cxC X N scope C s H fp) ifs mt)(he:∀C s H fp,SE (cxC X N scope C s H fp) elt me):LcB X scope N elt tg ifs g mt me (fun C s H fp=>(hg C s H fp).choose) (fun C s H fp=>(ht C s H fp).choose) (fun C s H fp=>(he C s H fp).choose):=⟨fun C s H fp=>(hg C s H fp).choose_spec.2,fun C s H fp=>(ht C s H fp).choose_spec.2,fun C s H fp=>(he C s H fp).choose_spec.2⟩
theorem zbD (cap:List Nat)(t:Nat)(N:List Str)(hc:X.calm=true)(hi:SIt X tg iter mi)(hg:∀C s H fp,SG (cxC X N scope C s H fp) tg g)(ht:∀C s H fp,STs (cxC X N scope C s H fp) ifs mt)(he:∀C s H fp,SE (cxC X N scope C s H fp) elt me)
    (hk:autoParam (scope.kind= .function) zu3._auto_1) (hb:autoParam (blkB X.env scope=true) zu9._auto_1) (hcap:autoParam (capB scope.names N X.N cap t=true) zu9._auto_1)
    (hs:autoParam (∀x,foldedSetIterable iter X.env x=pure x) zu8._auto_1):SO X (.ListComp elt [⟨tg,iter,ifs,0⟩] scope pos) (oLC cap t mi g mt me):=by
  refine hi.el fun wi pi si=>?_
  exact⟨_,pe_lc hc (zlj hk hb) (zlX hcap) pi (fun C s H fp=>(hg C s H fp).choose_spec.1) (fun C s H fp=>(ht C s H fp).choose_spec.1) (fun C s H fp=>(he C s H fp).choose_spec.1) hs,
    zjb si (.mk' hg ht he)⟩
end
section
variable {X:Cx} {elt iter tg:Expr} {ifs:List Expr} {scope:Scope} {pos lpos pos':Pos} {N:List Str} {cap:List Nat} {t:Nat} {mi:MA} {g:D->R->Option R} {mt:MT} {me:ME}
theorem ziT {σ0:St->St}(hN:X.N.Nodup)(hxi:X.N[i]? =some x)(hx:Loc X.env.scope x)(hf:X.fn x=true\/X.env.scope.names.lookup x=some .local)
  (hsw:swapsWith (.ListComp elt [⟨tg,iter,ifs,0⟩] scope lpos) (some (.Name x pos')) pos.line X.env=pure true) (hc:X.calm=true) (b:BlkOk X scope) (cap:Cap X scope N σ0) (hi:PI X tg iter wi) (hg:∀C s H fp,PG (cxC X N scope C s H fp) tg (tg' C s H fp)) (ht:∀C s H fp,PTs (cxC X N scope C s H fp) ifs (tt C s H fp)) (he:∀C s H fp,PE (cxC X N scope C s H fp) elt (te C s H fp))
  (hs:∀x,foldedSetIterable iter X.env x=pure x):PS X (.Assign [.Name x pos'] (.ListComp elt [⟨tg,iter,ifs,0⟩] scope lpos) pos) (fun E σ H=>tLC σ0 wi tg' tt te σ H fun v H'=>E.nx (σ.set i (some v)) H'):=by
 intro pins s σ H E I h
 rw[exec_Assign_Name_used _ _ _ _ hsw]
 refine wpAny_bind (wpAny_standAt (wpAny_bind ?_))
 show wpAny _ _ (do let _<-comprehension (.ListComp elt [⟨tg,iter,ifs,0⟩] scope lpos) scope X.env _ (newList []) false (eval iter X.env) (some (assign (.Name x pos') X.env))) _ _ s
 refine wpAny_bind (thn (zmR (use:=some (assign (.Name x pos') X.env)) (QQ:=fun _ s'=>SP X pins E .next s') (E:=X.xe) hc b cap hi hg ht he I h hs ?_) fun _ s' hq=>wpAny_pure (wpAny_pure hq))
 intro D fp C H1 H' σc s1 s' I1 f1 eC J q
 subst eC
 have I2:Inv X pins σ H' s':=by
  have z:=znI (h':=s'.heap) I1 f1 J (Heap.SameBut.refl _ _)
  exact z
 obtain⟨m,⟨o,es,ep,ho,hd,hrest⟩,_⟩:=J.loc
 have fpk:FpOk X pins H' s1.heap.objs.size:=I1.fpOk (Nat.le_refl _) J.free
 have I3:Inv X (pins++[(s1.heap.objs.size,o)]) σ H' s':=I2.pins_of fun p hp=>by
  rcases List.mem_append.mp hp with hp|hp
  ·exact I2.pin p (List.mem_append_right _ hp)
  ·have e:p=(s1.heap.objs.size,o):=by simpa using hp
   subst e
   exact⟨ho,fpk.1,fpk.2.1,fpk.2.2.1,fun v z=>by rw[hd]at z;cases z⟩
 refine thn (zn6 hN hxi hx hf (pins++[(s1.heap.objs.size,o)]) s' σ H' (.ref D) (.ref D) (fun σ2 H2=>E.nx σ2 H2) I3 rfl q) fun _ s'' ⟨σ2,H2,I4,q4⟩=>?_
 have pC:=I4.pin (s1.heap.objs.size,o) (List.mem_append_right _ (List.mem_append_right _ (by simp)))
 refine⟨m,⟨o,es,ep,pC.1,hd,hrest⟩,fun h' hs'=>?_⟩
 have I5:Inv X pins σ2 H2 s'':=I4.unpinned
 have fp2:FpOk X pins H2 s1.heap.objs.size:=I1.fpOk (Nat.le_refl _) pC.2.1
 have I6:=I5.turned (t':=s''.toks) (h':=h') (it:=s1.heap.objs.size) (fun b' o' hb e=>hs'.extBut b' o' hb e) fp2.1 fp2.2.1 fp2.2.2.2.1 fp2.2.2.2.2.1 fp2.2.2.2.2.2
 exact⟨σ2,H2,I6,q4⟩
end
section
variable {X:Cx} {pins:List (Addr×Obj)} {σ:St} {H:Hp} {s:Shared}
theorem ziG {A:Around}{p:Addr}(hh:A.handled=none)(I:Inv X pins σ H s)(hq:SqL X.K H p ys\/SqT X.K H p ys)
  (k : ∀ (its : List Value) (s₂ : Shared) (St : Nat -> Heap -> Prop), Vals ys its -> Walks X.prog X.w A s.heap.objs.size [s.heap.objs.size, p] [s.heap.objs.size] its.length (fun i v => its[i]? = some v) St -> St 0 s₂.heap -> (∀ b ∈ [s.heap.objs.size, p], b < s₂.heap.objs.size) ->
   (∀h' tk,(∀b o,b∉[s.heap.objs.size]->s₂.heap.get? b=some o->h'.get? b=some o)->Inv X pins σ H {s₂ with heap:=h',toks:=tk})->Q (.ref s.heap.objs.size) s₂):wpAny (model X.prog X.w) A (pyIter (.ref p)) Q E s:=by
 have fin:∀(o:Obj),∀h' tk,(∀b o',b∉[s.heap.objs.size]->(s.heap.push o).get? b=some o'->h'.get? b=some o')->Inv X pins σ H {({s with heap:=s.heap.push o}:Shared)with heap:=h',toks:=tk}:=fun o h' tk hk=>by
  have z:=I.kept (h':=h') (t':=tk) fun b o' e=>hk b o' (by simpa using Nat.ne_of_lt (Heap.lt_size e)) (Heap.get?_push_of_some _ e)
  exact z
 rcases hq with hq|hq
 ·obtain⟨its,r,pl,hz⟩:=I.list hq
  have hlt:p<s.heap.objs.size:=by obtain⟨_,_,e,_⟩:=pl;exact Heap.lt_size e
  refine wpAny_pyIter_list pl.isList (k its _ (fun i h=>h.IsListIter s.heap.objs.size p i/\h.IsList p its.toArray) r ?_ ⟨⟨_,Heap.get?_push_size _ rfl,rfl,rfl⟩,pl.isList.push _⟩ (fun b hb=>?_) (fin _))
  ·have w:=Walks.list (prog:=X.prog) (w:=X.w) (A:=A) hh s.heap.objs.size p (Nat.ne_of_lt hlt) its.toArray
   simpa using w
  ·show b<(s.heap.push _).objs.size
   rw[Heap.size_push]
   simp at hb
   rcases hb with z|z
   ·rw[z];exact Nat.lt_succ_self _
   ·rw[z];exact Nat.lt_succ_of_lt hlt
 ·obtain⟨its,r,pl,hz⟩:=I.tuple hq
  have hlt:p<s.heap.objs.size:=pl.lt
  refine wpAny_pyIter_tuple (show s.heap.IsTuple p its.toArray from pl) (k its _ (fun i h=>h.IsTupleIter s.heap.objs.size p i/\h.IsTuple p its.toArray) r ?_ ⟨⟨_,Heap.get?_push_size _ rfl,rfl,rfl⟩,(show s.heap.IsTuple p its.toArray from pl).push _⟩ (fun b hb=>?_) (fin _))
  ·have w:=Walks.tuple (prog:=X.prog) (w:=X.w) (A:=A) hh s.heap.objs.size p (Nat.ne_of_lt hlt) its.toArray
   simpa using w
  ·show b<(s.heap.push _).objs.size
   rw[Heap.size_push]
   simp at hb
   rcases hb with z|z
   ·rw[z];exact Nat.lt_succ_self _
   ·rw[z];exact Nat.lt_succ_of_lt hlt
end
theorem ziy (ns:List Int):∀j,preSum (fun i=>ns.getD i 0) j=(ns.take j).sum
 |0=>by simp[preSum]
 |j+1=>by
  rw[preSum,ziy ns j]
  by_cases h:j<ns.length
  ·rw[List.take_succ_eq_append_getElem h,List.sum_append]
   simp[h]
  ·rw[List.take_of_length_le (by lia),List.take_of_length_le (by lia)]
   simp[List.getElem?_eq_none (by lia:ns.length<=j)]
theorem ints_get (r:Vals (ns.map V.int) its){v:Value}(e:its[i]? =some v):∃t,v= .int (ns.getD i 0) t:=by
 have hl:=r.length
 have hi:i<its.length:=(List.getElem?_eq_some_iff.mp e).1
 rw[List.length_map]at hl
 have e2:(ns.map V.int)[i]? =some (.int ns[i]):=by rw[List.getElem?_map,List.getElem?_eq_getElem (by lia)];rfl
 obtain⟨u,h1,t,h2⟩:=r.get e2
 rw[e]at h1;cases h1
 exact⟨t,by rw[h2];simp[show i<ns.length by lia]⟩
noncomputable def rSum (K:W.Frag):List V->Hp->VK->Prop:=fun xs H Q=>∃(p:Addr) (ns:List Int),xs=[.ref p]/\(SqL K H p (ns.map V.int)\/SqT K H p (ns.map V.int))/\Q (.int ns.sum) H
theorem zn4 (hc:X.calm=true):zeo X (.builtin "sum") (rSum X.K):=by
 intro pins s σ H xs us Q I r h
 obtain⟨p,ns,rfl,hq,q⟩:=h
 obtain⟨u,rfl,ru⟩:=zib r
 cases ru
 refine call_sum_walkG (ziG (A:=X.A.in1) (I.ok.hd hc) I hq fun its s₂ St rv W st hfp fin=>?_)
 refine⟨_,_,_,_,_,_,fun i=>ns.getD i 0,rfl,W,st,hfp,fun i v e=>ints_get rv e,fun h' tk t' hk=>⟨.int ns.sum,H,fin h' tk hk,⟨t',?_⟩,q⟩⟩
 have hl:=rv.length
 rw[List.length_map]at hl
 rw[ziy,<-hl,List.take_of_length_le (Nat.le_refl _)]
noncomputable def zaW:List D->Option (List Int)
 |[]=>some []
 | .int i::ds=>(zaW ds).map (i:: ·)
 |_=>none
theorem zfA:∀{ds:List D} {ns:List Int},zaW ds=some ns->ds=ns.map .int
 |[],ns,h=>by cases h;rfl
 |d::ds,ns,h=>by
  cases d<;>simp only[zaW]at h<;>try exact cNN h
  refine cMel h fun ms e1 e2=>?_
  subst e2
  rw[zfA e1];rfl
@[simp] theorem intsOf_map:∀(ns:List Int),zaW (ns.map .int)=some ns
 |[]=>rfl
 |n::ns=>by simp[zaW,intsOf_map ns]
noncomputable def dSum:List D->Option D
 |[d]=>(zaG [d]).bind fun ds=>(zaW ds).map fun ns=> .int ns.sum
 |_=>none
theorem ziH (I:SI K B G H σ ρ){x:V}(r:RepD K G x d)(e:zaG [d]=some ds):∃p ys,x= .ref p/\(SqL K H p ys\/SqT K H p ys)/\RepL K G ys ds:=by
 cases d<;>simp only[zaG]at e<;>try cases e
 ·obtain⟨p,ys,ex,hp,q⟩:=I.lst r
  exact⟨p,ys,ex,.inl (SqL.of hp),q⟩
 ·obtain⟨p,ys,ex,hp,q⟩:=I.tup r
  exact⟨p,ys,ex,.inr (SqT.of hp),q⟩
 ·obtain⟨p,ex,hp⟩:=r
  exact⟨p,_,ex,.inl (I.fz.sql hp),RepL.ints _⟩
theorem vc_sum:VC X (rSum X.K) dSum:=by
 intro B G H σ ρ xs ds d Q I r hf k
 match ds,hf with
 |[a],hf=>
  refine cBel hf fun es e1 hf=>?_
  refine cMel hf fun ns e2 e3=>?_
  subst e3
  obtain⟨x,rfl,ra⟩:=r.one
  obtain⟨p,ys,rfl,hq,ry⟩:=ziH I ra e1
  rw[zfA e2]at ry
  rw[RepL.ints_eq ry]at hq
  exact⟨p,ns,rfl,hq,k G H _ I (Fz.refl G) rfl⟩
 |[],hf=>exact cNN hf
 |_::_::_,hf=>exact cNN hf
theorem znK (hc:X.calm=true)(ml:X.mg "sum"=none)(ha:SA X [e] ma)(hg:autoParam (Gl X "sum") zu3._auto_1)(he:autoParam (starEach [e] X.env=(false,eval e X.env)::starEach [] X.env) zu3._auto_1):SE X (.Call (.Name "sum" p) [e] [] pos) (mC dSum ma):=
 zda (zn4 hc) vc_sum (by decide+kernel) ml ha hg (by decide) (by decide) he rfl
noncomputable def zkk:List D->Option (List Bool)
 |[]=>some []
 | .bl b::ds=>(zkk ds).map (b:: ·)
 |_=>none
@[simp] theorem boolsOf_map:∀(bs:List Bool),zkk (bs.map .bl)=some bs
 |[]=>rfl
 |n::ns=>by simp[zkk,boolsOf_map ns]
noncomputable def d2I (g:Int->Int->Int):List D->Option D
 |[.int i,.int j]=>some (.int (g i j))
 |_=>none
theorem vc_2I (g:Int->Int->Int):VC X (fun xs H Q=>∃i j,xs=[.int i,.int j]/\Q (.int (g i j)) H) (d2I g):=by
 intro B G H σ ρ xs ds d Q I r hf k
 unfold d2I at hf
 split at hf
 ·rename_i i j
  cases hf
  obtain⟨x,y,rfl,rx,ry⟩:=r.two
  cases(show x=V.int i from rx)
  cases(show y=V.int j from ry)
  exact⟨i,j,rfl,k G H _ I (Fz.refl G) rfl⟩
 ·exact cNN hf
noncomputable def max2 (i j:Int):Int:=if j>i then j else i
noncomputable def min2 (i j:Int):Int:=if j<i then j else i
theorem se_max2 (hc:X.calm=true)(ml:X.mg "max"=none)(ha:SA X [a,b] ma)(hg:autoParam (Gl X "max") zu3._auto_1)(he:autoParam (starEach [a,b] X.env=(false,eval a X.env)::starEach [b] X.env) zu3._auto_1)(hpl:autoParam ((backTo pos (starEach [b] X.env)).any (·.1)=false) zu3._auto_1):SE X (.Call (.Name "max" p) [a,b] [] pos) (mC (d2I max2) ma):=
 zda (znB hc) (vc_2I max2) (by decide+kernel) ml ha hg (by decide) (by decide) he hpl
theorem zm5 (hc:X.calm=true)(ml:X.mg "min"=none)(ha:SA X [a,b] ma)(hg:autoParam (Gl X "min") zu3._auto_1)(he:autoParam (starEach [a,b] X.env=(false,eval a X.env)::starEach [b] X.env) zu3._auto_1)(hpl:autoParam ((backTo pos (starEach [b] X.env)).any (·.1)=false) zu3._auto_1):SE X (.Call (.Name "min" p) [a,b] [] pos) (mC (d2I min2) ma):=
 zda (znJ hc) (vc_2I min2) (by decide+kernel) ml ha hg (by decide) (by decide) he hpl
noncomputable def abs1 (i:Int):Int:=if i<0 then-i else i
noncomputable def dAbs:List D->Option D
 |[.int i]=>some (.int (abs1 i))
 |_=>none
theorem zkX (ml:X.mg "abs"=none)(ha:SA X [a] ma)(hg:autoParam (Gl X "abs") zu3._auto_1)(he:autoParam (starEach [a] X.env=(false,eval a X.env)::starEach [] X.env) zu3._auto_1):SE X (.Call (.Name "abs" p) [a] [] pos) (mC dAbs ma):=
 zda call_abs (fun B G H σ ρ xs ds d Q I r hf k=>by
  unfold dAbs at hf
  split at hf
  ·rename_i i
   cases hf
   obtain⟨x,rfl,rx⟩:=r.one
   cases(show x=V.int i from rx)
   exact⟨i,rfl,k G H _ I (Fz.refl G) rfl⟩
  ·exact cNN hf) (by decide+kernel) ml ha hg (by decide) (by decide) he rfl
noncomputable def dInt:List D->Option D
 |[.int i]=>some (.int i)
 |[.bl b]=>some (.int (if b then 1 else 0))
 |_=>none
theorem se_intOf (ml:X.mg "int"=none)(ha:SA X [a] ma)(hg:autoParam (Gl X "int") zu3._auto_1)(he:autoParam (starEach [a] X.env=(false,eval a X.env)::starEach [] X.env) zu3._auto_1):SE X (.Call (.Name "int" p) [a] [] pos) (mC dInt ma):=
 zj2 znd (fun B G H σ ρ xs ds d Q I r hf k=>by
  unfold dInt at hf
  split at hf
  ·rename_i i
   cases hf
   obtain⟨x,rfl,rx⟩:=r.one
   cases(show x=V.int i from rx)
   exact .inl ⟨i,rfl,k G H _ I (Fz.refl G) rfl⟩
  ·rename_i b
   cases hf
   obtain⟨x,rfl,rx⟩:=r.one
   cases(show x=V.bl b from rx)
   exact .inr ⟨b,rfl,k G H _ I (Fz.refl G) rfl⟩
  ·exact cNN hf) (by decide+kernel) ml ha hg (by decide) (by decide) he rfl
noncomputable def isI (T:String):D->Bool
 | .non=>false
 | .bl _=>T=="bool"||T=="int"
 | .int _=>T=="int"
 | .str _=>T=="str"
 | .lst _=>T=="list"
 | .tup _=>T=="tuple"
 | .scr _=>T=="list"
 | .exc _=>false
 | .dic _ _=>false
 | .dit _ _=>false
 | .obj _ _ _ _ _=>false
noncomputable def okT (T:String):Bool:=["int","bool","tuple","list","str"].contains T
noncomputable def eIsI (T:String)(ma:ME):ME:=fun ρ=>(ma ρ).bind fun p=>if okT T&&noS1 p.1 then some (.bl (isI T p.1),p.2)else none
where noS1:D->Bool
 | .scr _=>false
 | .exc _=>false
 | .dic _ _=>false
 | .dit _ _=>false
 | .obj _ _ _ _ _=>false
 |_=>true
noncomputable def cutD {α:Type}(xs:List α)(lo hi:Option Int):List α:=(xs.drop (HT.sIx xs.length 0 lo)).take (HT.sIx xs.length xs.length hi-HT.sIx xs.length 0 lo)
theorem RepL.cut (h:RepL K G xs ds)(lo hi:Option Int):RepL K G (cutV xs lo hi) (cutD ds lo hi):=by
 unfold cutV cutD
 rw[h.length]
 exact(h.drop _).take _
section
variable {prog:Program} {w:World} {A:Around} {E:Value->Shared->Prop} {s:Shared}
theorem ze9 {t sl:Addr}{items:Array Value}{vl vu:Value}{lo hi:Option Int}(ht:IsTup s.heap t items)(hs:s.heap.IsSliceOf sl vl vu .none)(pl:IsPart vl lo)(pu:IsPart vu hi)
  (hw:HT.sIx items.size 0 lo=0/\HT.sIx items.size items.size hi=items.size) (h:Q (.ref t) s):wpAny (model prog w) A (getItem (.ref t) (.ref sl)) Q E s:=by
 obtain⟨os,hos,hcs,hds⟩:=id hs
 have hTs:s.TypeIs (.ref sl) "slice":=⟨os,hos,hcs⟩
 unfold getItem
 try with_reducible refine wpAny_holding ?_
 first|refine wpAny_bind (wpAny_pure ?_)|skip
 refine wpAny_bind (wpAny_sequenceKey ht.typeIs (by decide) ?_)
 refine wpAny_bind (wpAny_callSpecial?_slot (name:=Str.ofString "__getitem__") ht.typeIs PyProof.Rows.slot_tuple_getitem
  (wpAny_call_entry PyProof.Rows.slot_tuple_getitem ht.typeIs entry_tuple_getitem ?_ (args_tuple_getitem _ _)))
 show wpAny _ _ (Builtin.Tuple.tupleItemsOf (.ref t)>>=_) _ _ s
 refine wpAny_bind (tupleItemsOf_ ht ?_)
 refine wpAny_bind (wpAny_typeOf hTs ?_)
 rw[if_pos (by decide)]
 refine wpAny_bind (HT.zdt hs pl pu ?_)
 have hyes:(((HT.sIx items.size 0 lo:Nat):Int)==0&&(1:Int)==1&&(HT.sIx items.size items.size hi-HT.sIx items.size 0 lo)==items.size)=true:=by
  rw[hw.1,hw.2];simp
 show wpAny _ _ (if(((HT.sIx items.size 0 lo:Nat):Int)==0&&(1:Int)==1&&(HT.sIx items.size items.size hi-HT.sIx items.size 0 lo)==items.size)=true then _ else _) _ _ s
 rw[if_pos hyes]
 refine wpAny_bind (m:=Builtin.Tuple.tupleIsExact _) ?_
 unfold Builtin.Tuple.tupleIsExact
 refine wpAny_bind (wpAny_typeOf ht.typeIs (wpAny_pure ?_))
 rw[if_pos (by decide)]
 refine wpAny_bind (wpAny_rule ?_)
 exact wpAny_pure ⟨_,rfl,wpAny_pure h⟩
end
noncomputable def rSlTW (K:W.Frag):V->Option Int->Option Int->Hp->VK->Prop:=fun x lo hi H Q=>∃a xs,x= .ref a/\SqT K H a xs/\(HT.sIx xs.length 0 lo=0/\HT.sIx xs.length xs.length hi=xs.length)/\Q (.ref a) H
theorem sl_tupW:SlR X (rSlTW X.K):=by
 intro pins s σ H x v vl vu lo hi sl Q I rx hs pl pu h
 obtain⟨a,xs,rfl,hx,hw,q⟩:=h
 cases rx
 obtain⟨its,r,ht,hz⟩:=I.tuple hx
 have hlen:its.toArray.size=xs.length:=by rw[List.size_toArray];exact r.length.symm
 refine⟨"tuple",_,PyProof.Rows.slot_tuple_getitem.lookup,ht.typeIs,?_⟩
 exact ze9 ht hs pl pu (by rw[hlen];exact hw) ⟨.ref a,H,I,rfl,q⟩
noncomputable abbrev MP:=R->Option (Option Int×R)
noncomputable def SPtb (X:Cx)(e:Option Expr)(m:MP)(t:TO):Prop:=∀B G H σ ρ o ρ' (Q:Option Int->Hp->Prop),SI X.K B G H σ ρ->m ρ=some (o,ρ')->(∀G' H',SI X.K B G' H' σ ρ'->Fz G G'->Q o H')->t σ H Q
noncomputable def SPt (X:Cx)(e:Option Expr)(m:MP):Prop:=∃t,PO X e t/\SPtb X e m t
theorem SPt.el {e:Option Expr}{m:MP}(h:SPt X e m)(k:∀t,PO X e t->SPtb X e m t->C):C:=h.elim fun t q=>k t q.1 q.2
noncomputable def pNo:MP:=fun ρ=>some (none,ρ)
noncomputable def znO (m:ME):MP:=fun ρ=>(m ρ).bind fun p=>match p.1 with
 | .int i=>some (some i,p.2)
 |_=>none
theorem sp_no:SPt X none pNo:=⟨_,po_none,fun B G H σ ρ o ρ' Q I hm k=>by obtain⟨rfl,rfl⟩:=cSp hm;exact k G H I (Fz.refl G)⟩
theorem zkh {m:ME}(h:SE X e m):SPt X (some e) (znO m):=by
 refine h.el fun t p s=>?_
 refine⟨_,po_some p,fun B G H σ ρ o ρ' Q I hm k=>?_⟩
 refine zaz hm fun d ρ1 e1 hm=>?_
 refine s B G H σ ρ d ρ1 _ I e1 fun G1 H1 v I1 f1 r1=>?_
 cases d<;>try cases hm
 rename_i i
 exact⟨i,r1,k G1 H1 I1 f1⟩
noncomputable def dCut (d:D)(lo hi:Option Int):Option D:=match d with
 | .lst ds=>some (.lst (cutD ds lo hi))
 | .tup ds=>some (.tup (cutD ds lo hi))
 | .scr ns=>some (.lst ((cutD ns lo hi).map .int))
 |_=>none
noncomputable def eCut (ma:ME)(ml mh:MP):ME:=fun ρ=>(ma ρ).bind fun p=>(ml p.2).bind fun q=>(mh q.2).bind fun r=>(dCut p.1 q.1 r.1).map fun d=>(d,r.2)
theorem znh (ns:List Int)(lo hi:Option Int):cutV (ns.map V.int) lo hi=(cutD ns lo hi).map V.int:=by
 unfold cutV cutD
 rw[List.length_map,<-List.map_drop,<-List.map_take]
theorem zoK {lo hi:Option Expr}{ma:ME}{ml mh:MP}{pos p2:Pos}(he:SE X e ma)(hl:SPt X lo ml)(hu:SPt X hi mh):SE X (.Subscript e (.Slice lo hi none p2) pos) (eCut ma ml mh):=by
 refine he.el fun ta pa sa=>?_
 refine hl.el fun tl pl sl=>?_
 refine hu.el fun th ph sh=>?_
 refine⟨_,pe_slice (sl_list.or (sl_tup.or sl_tupW)) pa pl ph,fun B G H σ ρ d ρ' Q I hm k=>?_⟩
 refine zaz hm fun x ρ1 e1 hm=>?_
 refine zaz hm fun l ρ2 e2 hm=>?_
 refine zaz hm fun u ρ3 e3 hm=>?_
 refine cMel hm fun c e4 e5=>?_
 obtain⟨rfl,rfl⟩:=Prod.mk.inj e5
 refine sa B G H σ ρ x ρ1 _ I e1 fun G1 H1 v I1 f1 r1=>sl B G1 H1 σ ρ1 l ρ2 _ I1 e2 fun G2 H2 I2 f2=>sh B G2 H2 σ ρ2 u ρ3 _ I2 e3 fun G3 H3 I3 f3=>?_
 have r3:=r1.mono (f2.trans f3)
 dsimp only at e4
 cases x with
 |exc _=>exact cNN e4
 |dic _ _=>exact cNN e4
 |dit _ _=>exact cNN e4
 |obj _ _ _ _ _=>exact cNN e4
 |non=>exact cNN e4
 |bl _=>exact cNN e4
 |int _=>exact cNN e4
 |str _=>exact cNN e4
 |lst ds=>
  cases e4
  obtain⟨a,xs,rfl,ha,r⟩:=I3.lst r3
  refine .inl ⟨a,xs,rfl,SqL.of ha,fun p hp=>?_⟩
  obtain⟨I4,f4,r4⟩:=I3.newL hp (r.cut l u)
  exact k _ _ _ I4 (f1.trans (f2.trans (f3.trans f4))) r4
 |tup ds=>
  cases e4
  obtain⟨a,xs,rfl,ha,r⟩:=I3.tup r3
  by_cases hw:HT.sIx xs.length 0 l=0/\HT.sIx xs.length xs.length u=xs.length
  ·refine .inr (.inr ⟨a,xs,rfl,SqT.of ha,hw,?_⟩)
   have e:cutD ds l u=ds:=by
    unfold cutD
    rw[<-r.length,hw.1,hw.2,List.drop_zero,Nat.sub_zero,List.take_of_length_le (by rw[r.length];exact Nat.le_refl _)]
   rw[e]at k
   exact k G3 H3 _ I3 (f1.trans (f2.trans f3)) r3
  ·refine .inr (.inl ⟨a,xs,rfl,SqT.of ha,hw,fun p hp=>?_⟩)
   obtain⟨I4,f4,r4⟩:=I3.newT hp (r.cut l u)
   exact k _ _ _ I4 (f1.trans (f2.trans (f3.trans f4))) r4
 |scr ns=>
  cases e4
  obtain⟨a,rfl,ha⟩:=r3
  refine .inl ⟨a,_,rfl,I3.fz.sql ha,fun p hp=>?_⟩
  rw[znh]
  obtain⟨I4,f4,r4⟩:=I3.newL hp (RepL.ints (cutD ns l u))
  exact k _ _ _ I4 (f1.trans (f2.trans (f3.trans f4))) r4
theorem zcc (h:aLen ma n):∀ρ as ρ',ma ρ=some (as,ρ')->as.length+1=n+1:=fun ρ as ρ' e=>congrArg (· +1) (h ρ as ρ' e)
section
variable {X:Cx} {elt iter tg:Expr} {ifs:List Expr} {scope:Scope} {pos lpos pos':Pos} {N:List Str} {cap:List Nat} {t:Nat} {mi:MA} {g:D->R->Option R} {mt:MT} {me:ME}
theorem zdU (i:Nat)(cap:List Nat)(t:Nat)(N:List Str)(hc:X.calm=true)(hi:SIt X tg iter mi)(hg:∀C s H fp,SG (cxC X N scope C s H fp) tg g)(ht:∀C s H fp,STs (cxC X N scope C s H fp) ifs mt)(he:∀C s H fp,SE (cxC X N scope C s H fp) elt me)(hN:X.N.Nodup)
    (hxi:autoParam (X.N[i]? =some x) zu3._auto_1) (hx:autoParam (Loc X.env.scope x) zu5._auto_1) (hf:autoParam (X.fn x=true\/X.env.scope.names.lookup x=some .local) zu5._auto_1)
    (hsw:autoParam (swapsWith (.ListComp elt [⟨tg,iter,ifs,0⟩] scope lpos) (some (.Name x pos')) pos.line X.env=pure true) zu3._auto_1)
    (hk:autoParam (scope.kind= .function) zu3._auto_1) (hb:autoParam (blkB X.env scope=true) zu9._auto_1) (hcap:autoParam (capB scope.names N X.N cap t=true) zu9._auto_1)
    (hs:autoParam (∀x,foldedSetIterable iter X.env x=pure x) zu8._auto_1):SS X (.Assign [.Name x pos'] (.ListComp elt [⟨tg,iter,ifs,0⟩] scope lpos) pos) (sSet i (eFz (oLC cap t mi g mt me))):=by
  refine hi.el fun wi pi si=>?_
  refine⟨_,ziT hN hxi hx hf hsw hc (zlj hk hb) (zlX hcap) pi (fun C s H fp=>(hg C s H fp).choose_spec.1) (fun C s H fp=>(ht C s H fp).choose_spec.1) (fun C s H fp=>(he C s H fp).choose_spec.1) hs,fun B G H σ ρ fl ρ' E I hm k=>?_⟩
  refine zdO hm fun d ρ1 e1 e3=>?_
  refine zdO e1 fun ds ρ2 e4 e5=>?_
  obtain⟨rfl,rfl⟩:=Prod.mk.inj e5
  obtain⟨rfl,rfl⟩:=Prod.mk.inj e3
  refine zjb si (.mk' hg ht he) B G H σ ρ ds ρ2 _ I e4 fun G1 H1 l xs I1 f1 g1 h1 r1 b1 n1=>?_
  obtain⟨I2,f2,r2⟩:=zgK I1 g1 h1 r1 b1 n1
  exact k _ H1 _ (I2.set r2) (f1.trans f2)
end
noncomputable def rRng2:List V->Hp->VK->Prop:=fun xs H Q=>∃i j,xs=[.int i,.int j]/\∀p,H p=none->Q (.ref p) (upd H p (.rng i j))
theorem zmS:zeo X (.type "range") rRng2:=by
 intro pins s σ H xs us Q I r h
 obtain⟨i,j,rfl,q⟩:=h
 obtain⟨u,w',rfl,⟨t,rfl⟩,⟨t',rfl⟩⟩:=vals2 r
 refine call_range_2 ⟨.ref s.heap.objs.size,_,I.laid (o:= .rng i j) (fun b o e=>Heap.get?_push_of_some _ e) (Nat.le_refl _) ⟨t,t',s.toks,Heap.get?_push_size _ rfl⟩,rfl,q _ I.fresh⟩
noncomputable def rListR:List V->Hp->VK->Prop:=fun xs H Q=>∃p i j,xs=[.ref p]/\H p=some (.rng i j)/\(-(2^62)<=i/\i<2^62/\ -(2^62)<=j/\j<2^62)/\(j-i).toNat<=16777216/\∀l,H l=none->Q (.ref l) (upd H l (.lst ((List.range (j-i).toNat).map fun(k:Nat)=>V.int (i+k))))
theorem zmK (hc:X.calm=true):zeo X (.type "list") rListR:=by
 intro pins s σ H xs us Q I r h
 obtain⟨p,i,j,rfl,hp,⟨h1,h2,h3,h4⟩,hz,q⟩:=h
 obtain⟨u,rfl,ru⟩:=zib r
 cases ru
 obtain⟨t,t',t'',e⟩:=I.hok p _ hp
 refine call_list_range (a:=i) (b:=j) (c:=1) (t:=t) (u:=t') (v:=t'') (n:=(j-i).toNat) (I.ok.hd hc) e (small_one h1 h2 h3 h4) (by rw[rangeSize_one];split<;>lia) (by lia) fun h' tk acc' c' hk hl ⟨hs1,hs2⟩=>?_
 refine⟨.ref s.heap.objs.size,_,I.laid (h':=h') (t':=tk) (o:= .lst ((List.range (j-i).toNat).map fun(k:Nat)=>V.int (i+k))) hk (Nat.le_refl _) ⟨by rw[List.length_map,List.length_range,sizeLine_eq];exact hz,acc'.toList,c',?_,by simpa using hl⟩,rfl,q _ I.fresh⟩
 have key:∀(n:Nat) (l:List Value),l.length=n->(∀k v,l[k]? =some v->∃t,v=Value.int (i+(k:Nat)*1) t)->Vals ((List.range n).map fun(k:Nat)=>V.int (i+k)) l:=by
  intro n
  induction n with
  |zero=>intro l hl _;have:l=[]:=List.eq_nil_of_length_eq_zero hl;subst this;exact .nil
  |succ n ih=>
   intro l hl hv
   have e:l=l.take n++[l[n]'(by lia)]:=by
    rw[<-List.take_succ_eq_append_getElem (by lia),List.take_of_length_le (by lia)]
   rw[List.range_succ,List.map_append,e]
   refine Vals.append (ih (l.take n) (by rw[List.length_take];lia) fun k v hk=>?_) (.cons ?_ .nil)
   ·have hkn:k<n:=by
     have:=(List.getElem?_eq_some_iff.mp hk).1
     rw[List.length_take]at this;lia
    rw[List.getElem?_take_of_lt hkn]at hk
    exact hv k v hk
   ·obtain⟨t,ht⟩:=hv n _ (List.getElem?_eq_getElem (by lia))
    exact⟨t,by rw[ht,Int.mul_one]⟩
 exact key _ acc'.toList (by rw[Array.length_toList];exact hs1) fun k v hk=>hs2 k v (by simpa using hk)
theorem zl5 (i:Int)(n:Nat):RepL K G ((List.range n).map fun(k:Nat)=>V.int (i+k)) (zb0 i n):=by
 have e1:((List.range n).map fun(k:Nat)=>V.int (i+k))=((List.range n).map fun(k:Nat)=>i+(k:Int)).map V.int:=by rw[List.map_map];rfl
 have e2:zb0 i n=((List.range n).map fun(k:Nat)=>i+(k:Int)).map D.int:=by unfold zb0;rw[List.map_map];rfl
 rw[e1,e2]
 exact RepL.ints _
noncomputable def oR (m:MA):MO:=fun ρ=>(m ρ).bind fun p=>if p.1.length<=16777216 then some p else none
theorem zn9 {p q pos pos':Pos}(ml:X.mg "list"=none)(mr:X.mg "range"=none)(ha:SA X [a,b] ma)(hc:autoParam (X.calm=true) zu3._auto_1)(hg:autoParam (Gl X "list") zu3._auto_1)(hgr:autoParam (Gl X "range") zu3._auto_1)
  (he:autoParam (starEach [a,b] X.env=(false,eval a X.env)::starEach [b] X.env) zu3._auto_1) (hpl:autoParam ((backTo pos' (starEach [b] X.env)).any (·.1)=false) zu3._auto_1)
  (he2:autoParam (starEach [.Call (.Name "range" q) [a,b] [] pos'] X.env=(false,eval (.Call (.Name "range" q) [a,b] [] pos') X.env)::starEach [] X.env) zu3._auto_1):
  SO X (.Call (.Name "list" p) [.Call (.Name "range" q) [a,b] [] pos'] [] pos) (oR (iR2 ma)):=by
 refine ha.el fun t pa sa=>?_
 refine⟨_,zf0 (zmK hc) hg ml (by decide+kernel) (zgf (zf0 zmS hgr mr (by decide+kernel) pa (by decide) (by decide) he hpl) zjy he2) (by decide) (by decide) he2 rfl,fun B G H σ ρ ds ρ' Q I hm k=>?_⟩
 refine zaz hm fun items ρ1 e1 hm=>?_
 refine zaz e1 fun es ρ2 e2 h2=>?_
 dsimp only at hm h2
 refine cIte hm fun hlen hm=>?_
 obtain⟨rfl,rfl⟩:=Prod.mk.inj (Option.some.inj hm)
 refine sa B G H σ ρ es ρ2 _ I e2 fun G1 H1 vs I1 f1 r1=>?_
 split at h2
 ·rename_i i j
  refine cIte h2 fun hj h2=>?_
  simp only[Bool.and_eq_true]at hj
  obtain⟨rfl,rfl⟩:=Prod.mk.inj (Option.some.inj h2)
  obtain⟨x,y,rfl,rx,ry⟩:=r1.two
  cases(show x=V.int i from rx)
  cases(show y=V.int j from ry)
  refine⟨i,j,rfl,fun p hp=>⟨p,i,j,rfl,zar,⟨(za8 hj.1).1,(za8 hj.1).2,(za8 hj.2).1,(za8 hj.2).2⟩,by simpa[zb0]using hlen,fun l hl=>?_⟩⟩
  have I2:=I1.allocO hp (.rng i j)
  obtain⟨I3,g3,h3,b3,n3⟩:=I2.newO hl ((List.range (j-i).toNat).map fun(k:Nat)=>V.int (i+k))
  exact k G1 _ l _ I3 f1 g3 h3 (zl5 i _) b3 n3
 ·exact cNN h2
end M
namespace M
open L2 PySem
@[simp] theorem atI_nat' {α:Type} (xs:List α) (i:Nat):atI xs (i:Int)=xs[i]?:=by
 unfold atI ixN
 rw[if_pos (by lia)]
 by_cases h:i<xs.length
 ·rw[if_pos (by lia)];simp
 ·rw[if_neg (by lia)];simp[List.getElem?_eq_none (by lia:xs.length<=i)]
end M
namespace M
open L2 PyProof.Rows PySem PySem.Spec
noncomputable def znc (i:Nat)(g:Int->Int->Int)(me:ME):MS:=fun ρ=>match ρ[i]? with
 |some (.val (.int a))=>(me ρ).bind fun p=>match p.1 with
  | .int b=>some (.next,p.2.set i (.val (.int (g a b))))
  |_=>none
 |_=>none
section
variable {X:Cx} {e:Expr} {me:ME} {pos:Pos}
theorem ss_augI (i:Nat){x:Str}{pos':Pos}{op:Operator}{g:Int->Int->Int}(ho:PIp X op (ipI g))(he:SE X e me)(hN:X.N.Nodup)(hi:autoParam (X.N[i]? =some x) zu3._auto_1)(hx:autoParam (Loc X.env.scope x) zu5._auto_1)
    (hf:autoParam (X.fn x=true\/X.env.scope.names.lookup x=some .local) zu5._auto_1):SS X (.AugAssign (.Name x pos') op e pos) (znc i g me):=by
  refine he.el fun t p s=>?_
  refine⟨_,ps_aug hN hi hx p ho hf,fun B G H σ ρ fl ρ' E I hm k=>?_⟩
  unfold znc at hm
  split at hm
  . rename_i a e0
    refine zaz hm fun d ρ1 e1 h2=>?_
    dsimp only at h2
    split at h2
    . rename_i b
      obtain⟨rfl,rfl⟩:=cSp h2
      obtain⟨v,h1,hv⟩:=I.slot i _ e0
      cases(show v=V.int a from hv)
      refine⟨_,h1,s B G H σ ρ (.int b) ρ1 _ I e1 fun G1 H1 w I1 f1 r1=>?_⟩
      cases(show w=V.int b from r1)
      exact⟨a,b,rfl,rfl,k G1 H1 _ (I1.set (d:= .int (g a b)) rfl) f1⟩
    . exact cNN h2
  . exact cNN hm
theorem znz (i:Nat){x:Str}{pos':Pos}(he:SE X e me)(hN:X.N.Nodup)(hi:autoParam (X.N[i]? =some x) zu3._auto_1)(hx:autoParam (Loc X.env.scope x) zu5._auto_1)
  (hf:autoParam (X.fn x=true\/X.env.scope.names.lookup x=some .local) zu5._auto_1):SS X (.AugAssign (.Name x pos') .Add e pos) (znc i (fun i j=>i+j) me):=ss_augI i ip_add he hN hi hx hf
end
end M
namespace M
open L2 PySem PySem.Spec
open PyProof.Rows hiding St
noncomputable def oRep (ma mb:ME):MO:=fun ρ=>(ma ρ).bind fun p=>(mb p.2).bind fun q=>match p.1,q.1 with
 | .lst xs,.int k=>if zct k&&decide (xs.length*k.toNat<=16777216)then some ((List.replicate k.toNat xs).flatten,q.2)else none
 |_,_=>none
noncomputable def flV:D->Option V
 | .non=>some .non
 | .bl b=>some (.bl b)
 | .int i=>some (.int i)
 | .str x=>some (.str x)
 |_=>none
noncomputable def zky:List D->Option (List V)
 |[]=>some []
 |d::ds=>(flV d).bind fun v=>(zky ds).map (v:: ·)
theorem flV_ok {K:W.Frag}{G:Hp}{x v:V}{d:D}(r:RepD K G x d)(e:flV d=some v):x=v/\zia v=true:=by
 cases d<;>simp only[flV]at e<;>cases e<;>exact⟨r,rfl⟩
theorem zlN {K:W.Frag}{G:Hp}:∀{ys xs:List V} {ds:List D},RepL K G ys ds->zky ds=some xs->ys=xs/\xs.all zia=true
 |ys,xs,[],r,e=>by cases e;cases(show ys=[]from r);exact⟨rfl,rfl⟩
 |ys,xs,d::ds,r,e=>by
  obtain⟨y,zs,rfl,ry,rz⟩:=r
  refine cBel e fun v e1 e=>?_
  obtain⟨vs,e2,rfl⟩:=zhg e
  obtain⟨rfl,f1⟩:=flV_ok ry e1
  obtain⟨rfl,f2⟩:=zlN rz e2
  exact⟨rfl,by rw[List.all_cons,f1,f2];rfl⟩
noncomputable def dInB (neg:Bool)(a b:D):Option D:=(flV a).bind fun x=>(zaG [b]).bind fun ds=>(zky ds).map fun xs=> .bl (if neg then !inV x xs else inV x xs)
noncomputable def dIn:D->D->Option D:=dInB false
noncomputable def zou:D->D->Option D:=dInB true
theorem v2_in {X:Cx}(neg:Bool):V2 X (rIn X.K neg) (dInB neg):=by
 intro B G H σ ρ x y a b d Q I ra rb hf k
 refine cBel hf fun v e1 hf=>?_
 refine cBel hf fun ds e2 hf=>?_
 obtain⟨xs,e3,rfl⟩:=zhg hf
 obtain⟨rfl,f1⟩:=flV_ok ra e1
 obtain⟨p,ys,rfl,hq,ry⟩:=ziH I rb e2
 obtain⟨rfl,f2⟩:=zlN ry e3
 exact⟨p,ys,rfl,hq,f1,f2,k G H _ I (Fz.refl G) rfl⟩
theorem se_in {X:Cx}{a b:Expr}{ma mb:ME}{pos:Pos}(ha:SE X a ma)(hb:SE X b mb)(hm:autoParam (behindInMarks .In b=false) zu3._auto_1):SE X (.Compare a [.In] [b] pos) (m2 dIn ma mb):=se_cmp zjj (v2_in false) ha hb hm
theorem bl_in (neg:Bool):∀x y d,dInB neg x y=some d->∃t,d= .bl t:=by
 intro x y d hf
 refine cBel hf fun v e1 hf=>?_
 refine cBel hf fun ds e2 hf=>?_
 obtain⟨xs,e3,rfl⟩:=zhg hf
 exact⟨_,rfl⟩
theorem st_in {X:Cx}{a b:Expr}{ma mb:ME}{pos:Pos}(ha:SE X a ma)(hb:SE X b mb)(hm:autoParam (behindInMarks .In b=false) zu3._auto_1):STt X (.Compare a [.In] [b] pos) (tTru (m2 dIn ma mb)):=zgU zjj (v2_in false) (bl_in false) ha hb hm
theorem st_notIn {X:Cx}{a b:Expr}{ma mb:ME}{pos:Pos}(ha:SE X a ma)(hb:SE X b mb)(hm:autoParam (behindInMarks .NotIn b=false) zu3._auto_1):STt X (.Compare a [.NotIn] [b] pos) (tTru (m2 zou ma mb)):=zgU zjD (v2_in true) (bl_in true) ha hb hm
end M
namespace M
open L2 PySem PySem.Spec
open PyProof.Rows hiding St
open Sem (wp)
variable {b N i:Nat} {a it l:Addr} {t:Bool} {h h':Heap} {is xs:Array Value} {Q:Value->Shared->Prop}
theorem nin2 {b x y z:Nat}(h:b∈[x,y])(h1:x≠z)(h2:y≠z):b≠z:=by
 simp at h
 rcases h with rfl|rfl<;>assumption
theorem nA {N a b:Nat}(h:a≠b):N+a≠N+b:=fun e=>h (Nat.add_left_cancel e)
theorem nB (h:0≠b):N≠N+b:=fun e=>h (Nat.add_left_cancel (show N+0=N+b from e))
theorem nC (h:b≠0):N+b≠N:=fun e=>h (Nat.add_left_cancel (show N+b=N+0 from e))
theorem nL {a N b:Nat}(h:a<N):a≠N+b:=Nat.ne_of_lt (Nat.lt_of_lt_of_le h (Nat.le_add_right _ _))
theorem ne_ {a b:Nat}(h:a≠b):a≠b:=h
noncomputable def SrcIt:Bool->Heap->Addr->Addr->Nat->Prop
 |true,h,it,a,i=>h.IsTupleIter it a i
 |false,h,it,a,i=>h.IsListIter it a i
noncomputable def SrcH:Bool->Heap->Addr->Array Value->Prop
 |true,h,a,its=>h.IsTuple a its
 |false,h,a,its=>h.IsList a its
theorem SrcIt.at (x:SrcIt t h it a i)(e:∀o,h.get? it=some o->h'.get? it=some o):SrcIt t h' it a i:=by
 cases t
 ·exact Heap.IsListIter.at x e
 ·exact Heap.IsTupleIter.at x e
theorem SrcH.at (x:SrcH t h a is)(e:∀o,h.get? a=some o->h'.get? a=some o):SrcH t h' a is:=by
 cases t
 ·exact Heap.IsList.at x e
 ·obtain⟨o,ho,r⟩:=x;exact⟨o,e _ ho,r⟩
theorem SrcIt.obj (x:SrcIt t h it a i):∃o,h.get? it=some o/\∀v,o.data≠ .cell v:=by
 cases t<;>(obtain⟨o,e,c,d⟩:=x;exact⟨o,e,fun v z=>by rw[d]at z;cases z⟩)
theorem SrcH.lt (x:SrcH t h a is):a<h.objs.size:=by
 cases t<;>(obtain⟨o,e,_⟩:=x;exact Heap.lt_size e)
section
variable {prog:Program} {w:World} {A:Around} {E:Value->Shared->Prop} {s:Shared}
theorem zlh {items}(hit:s.heap.IsTupleIter it l i)(hl:s.heap.IsTuple l items)
  (k : (∃ x, items[i]? = some x /\ ∀ h', h'.IsTupleIter it l (i + 1) -> Heap.SameBut it s.heap h' -> Q x { s with heap := h' }) \/
   (items[i]? =none/\A.handled=none/\∀h' e,Heap.ExtBut it s.heap h'->(∃o,h'.get? e=some o/\o.cls= .type "StopIteration")->E (.ref e) {s with heap:=h'})):
  wpAny (model prog w) A (Builtin.SmallTypes.nextOf (.ref it)) Q E s:=by
 obtain⟨o,ho,hc,hd⟩:=id hit
 obtain⟨ol,hol,-,nl,hdl⟩:=hl
 have ne:¬((Value.ref l==Value.none)=true):=Bool.false_ne_true
 unfold Builtin.SmallTypes.nextOf
 refine wpAny_bind (wpAny_callSpecial?_slot (name:=Str.ofString "__next__") hit.typeIs slot_tupleiter_next (wpAny_call_entry slot_tupleiter_next hit.typeIs entry_tupleiter_next ?_ (args_tupleiter_next _)))
 refine(?_:wpAny _ _ (field (.ref it) 0>>=_) _ _ s)
 refine wpAny_bind (wpAny_field ho hd (x:= .ref l) rfl (?_:wpAny _ _ (if(Value.ref l==Value.none)=true then _ else _) _ _ s))
 rw[if_neg ne]
 refine(?_:wpAny _ _ (field (.ref it) 1>>=_) _ _ s)
 refine wpAny_bind (wpAny_field ho hd (x:= .int i 0) rfl (?_:wpAny _ _ (seqItems? (.ref l)>>=_) _ _ s))
 refine wpAny_bind (wpAny_seqItems hol hdl ?_)
 rcases k with⟨x,hx,k⟩|⟨hx,hh,k⟩<;>simp only[Int.toNat_natCast,hx]
 ·have upd:∀h':Heap,h'.get? it=some (o.mapFields fun a=>a.setIfInBounds 1 (rawInt (((i:Nat):Int)+1)))->h'.IsTupleIter it l (i+1):=fun h' e=>⟨_,e,(Obj.cls_mapFields ..).trans hc,by rw[Obj.data_mapFields hd];simp[rawInt]⟩
  refine wpAny_bind (wpAny_setField ho hd (by simp) (wpAny_pure ⟨x,rfl,wpAny_pure (k _ ?_ (Heap.SameBut.update ..))⟩))
  refine⟨_,Heap.get?_update_self _ ho (Obj.isFreed_of_fields (Obj.data_mapFields hd _)),(Obj.cls_mapFields ..).trans hc,?_⟩
  rw[Obj.data_mapFields hd]
  simp[rawInt]
 ·refine wpAny_bind (wpAny_rule (wpAny_bind (wpAny_setField ho hd (by simp) (?_:wpAny _ _ (newExc (.type "StopIteration") []>>=_) _ _ _))))
  refine wpAny_bind ?_
  simp only[newExc,newTuple]
  refine wpAny_bind (wpAny_newObj_type (wpAny_bind (m:=firstArgMember _ _) (wpAny_of_eq (a:=Value.none) (by first|rfl|(simp only[firstArgMember];rfl)) (wpAny_newObj_type ?_ (by size_fits)))) (by size_fits))
  simp only[raiseNew]
  refine wpAny_bind (wpAny_handled ?_)
  first|rw[show A.in1.handled=none from hh]|rw[hh]
  exact wpAny_bind (wpAny_pure (wpAny_throw (k _ _ (((Heap.SameBut.update ..).extBut.push _).push _) ⟨_,Heap.get?_push_size _ rfl,rfl⟩)))
theorem zcS (hh:A.handled=none)(it l:Addr)(hne:l≠it)(items:Array Value):Draws prog w A it [it,l] items.size (fun i v=>items[i]? =some v) (fun i h=>SrcIt t h it l i/\SrcH t h l items):=by
 cases t
 ·exact Draws.list hh it l hne items
 ·refine⟨fun _ _ st=>?_,fun _ _ _ st hk=>⟨SrcIt.at st.1 fun o e=>hk it (by simp) o e,SrcH.at st.2 fun o e=>hk l (by simp) o e⟩,fun i s Q E hi st hQ=>?_,fun s Q E st hE=>zlh st.1 st.2 (.inr ⟨by simp,hh,hE⟩)⟩
  ·obtain⟨o,e,-⟩:=SrcIt.obj st.1
   exact⟨o,e⟩
  ·exact zlh st.1 st.2 (.inl ⟨items[i],by simp[hi],fun h' a b=>hQ _ h' s.toks (by simp[hi]) ⟨a,SrcH.at st.2 fun o e=>(b.2 l hne).trans e⟩ b⟩)
noncomputable def srcO (t:Bool)(a:Addr):Obj:={cls:= .type (if t then "tuple_iterator" else "list_iterator"),data:= .fields #[.ref a,.int 0 0]}
theorem zkS (e:h.get? it=some (srcO t a)):SrcIt t h it a 0:=by
 cases t<;>exact⟨_,e,rfl,rfl⟩
theorem zhG (t:Bool)(a:Addr):(srcO t a).isFreed=false:=by cases t<;>rfl
theorem zel {items}(hl:SrcH t s.heap a items)(hQ:Q (.ref s.heap.objs.size) {s with heap:=s.heap.push (srcO t a)}):
  wpAny (model prog w) A (pyIter (.ref a)) Q E s:=by
 cases t
 ·exact wpAny_pyIter_list hl hQ
 ·exact wpAny_pyIter_tuple hl hQ
end
noncomputable abbrev tup_ (vs:Array Value):Obj:={cls:= .type "tuple",data:= .seq vs}
noncomputable abbrev zip_ (ti to:Addr):Obj:={cls:= .type "zip",data:= .fields #[.none,.bool false,.bool false,.ref ti,.ref to]}
noncomputable abbrev z2a (h:Heap)(t1 t2:Bool)(l1 l2:Addr):Heap:=(h.push (srcO t1 l1)).push (srcO t2 l2)
noncomputable abbrev z2b (h:Heap)(t1 t2:Bool)(l1 l2:Addr):Heap:=(z2a h t1 t2 l1 l2).push (tup_ #[.ref h.objs.size,.ref (h.push (srcO t1 l1)).objs.size])
noncomputable abbrev z2c (h:Heap)(t1 t2:Bool)(l1 l2:Addr):Heap:=(z2b h t1 t2 l1 l2).push (tup_ #[.none,.none])
noncomputable abbrev z2d (h:Heap)(t1 t2:Bool)(l1 l2:Addr):Heap:=(z2c h t1 t2 l1 l2).push (zip_ (z2a h t1 t2 l1 l2).objs.size (z2b h t1 t2 l1 l2).objs.size)
theorem zmu (t1 t2:Bool)(l1 l2:Addr)(xs ys:Array Value):Meets (Builtin.«zip.__new__» ⟨[.type "zip",.ref l1,.ref l2],[]⟩) (fun _ R s=>SrcH t1 s.heap l1 xs/\SrcH t2 s.heap l2 ys/\
   R (.ok (.ret (.ref (z2c s.heap t1 t2 l1 l2).objs.size))) {s with heap:=z2d s.heap t1 t2 l1 l2}):=
 .of_wp fun prog w A R s h=>by
  obtain⟨hp,g,d,tk,os⟩:=s
  obtain⟨b1,b2,h⟩:=h
  have hsub:=sub_zip
  have L1:SrcH t1 (Shared.heap ⟨hp,g,d,tk,os⟩) l1 xs:=b1
  have L2:SrcH t2 (Shared.heap ⟨hp.push (srcO t1 l1),g,d,tk,os⟩) l2 ys:=SrcH.at b2 fun o e=>Heap.get?_push_of_some _ e
  wp_walk using zel L1,zel L2
  exact⟨_,rfl,h⟩
section
variable {prog:Program} {w:World} {A:Around} {E:Value->Shared->Prop} {s:Shared}
theorem znR {t1 t2:Bool}{l1 l2:Addr}{xs ys:Array Value}(h1:SrcH t1 s.heap l1 xs)(h2:SrcH t2 s.heap l2 ys)
  (k : ∀ h', IsZip h' (s.heap.objs.size + 4) (s.heap.objs.size + 2) (s.heap.objs.size + 3) .none -> IsPair h' (s.heap.objs.size + 2) (.ref s.heap.objs.size) (.ref (s.heap.objs.size + 1)) ->
   IsPair h' (s.heap.objs.size+3) .none .none->SrcIt t1 h' s.heap.objs.size l1 0->SrcIt t2 h' (s.heap.objs.size+1) l2 0->
   (∀c o,s.heap.get? c=some o->h'.get? c=some o)->Q (.ref (s.heap.objs.size+4)) {s with heap:=h'}):wpAny (model prog w) A (call (.type "zip") [.ref l1,.ref l2]) Q E s:=by
 refine callType_new F.called_zip (by decide) (F.typeCall_zip_2 _ _) (F.newCall_zip_2 _ _) (fun obj=>F.args_object_init_3 obj _ _) F.entry_zip_new (zmu t1 t2 l1 l2 xs ys) ⟨h1,h2,(?_:_/\_)⟩
 have y1:(s.heap.push (srcO t1 l1)).objs.size=s.heap.objs.size+1:=Heap.size_push ..
 have y2:(z2a s.heap t1 t2 l1 l2).objs.size=s.heap.objs.size+2:=by rw[Heap.size_push,y1]
 have y3:(z2b s.heap t1 t2 l1 l2).objs.size=s.heap.objs.size+3:=by rw[Heap.size_push,y2]
 have y4:(z2c s.heap t1 t2 l1 l2).objs.size=s.heap.objs.size+4:=by rw[Heap.size_push,y3]
 have g5:(z2d s.heap t1 t2 l1 l2).get? (z2c s.heap t1 t2 l1 l2).objs.size=some _:=Heap.get?_push_size _ rfl
 have g4:(z2d s.heap t1 t2 l1 l2).get? (z2b s.heap t1 t2 l1 l2).objs.size=some _:=Heap.get?_push_of_some _ (Heap.get?_push_size _ rfl)
 have g3:(z2d s.heap t1 t2 l1 l2).get? (z2a s.heap t1 t2 l1 l2).objs.size=some _:=Heap.get?_push_of_some _ (Heap.get?_push_of_some _ (Heap.get?_push_size _ rfl))
 have g2:(z2d s.heap t1 t2 l1 l2).get? (s.heap.push (srcO t1 l1)).objs.size=some (srcO t2 l2):=Heap.get?_push_of_some _ (Heap.get?_push_of_some _ (Heap.get?_push_of_some _ (Heap.get?_push_size _ (zhG ..))))
 have g1:(z2d s.heap t1 t2 l1 l2).get? s.heap.objs.size=some (srcO t1 l1):=Heap.get?_push_of_some _ (Heap.get?_push_of_some _ (Heap.get?_push_of_some _ (Heap.get?_push_of_some _ (Heap.get?_push_size _ (zhG ..)))))
 rw[y2,y3,y4]at g5
 rw[y1,y2]at g3
 rw[y3]at g4
 rw[y1]at g2
 rw[y4]
 exact⟨⟨_,g5,rfl⟩,k _ g5 g3 g4 (zkS g1) (zkS g2) fun c o x=>Heap.get?_push_of_some _ (Heap.get?_push_of_some _ (Heap.get?_push_of_some _ (Heap.get?_push_of_some _ (Heap.get?_push_of_some _ x))))⟩
noncomputable abbrev en_ (it:Addr):Obj:={cls:= .type "enumerate",data:= .fields #[.none,.bool false,.ref it,rawInt 0,.none,.none]}
theorem zl8 (t:Bool)(l:Addr)(o:Obj)(xs:Array Value):Meets (Builtin.«enumerate.__new__» ⟨[.type "enumerate",.ref l],[]⟩) (fun _ R s=>s.heap.get? l=some o/\SrcH t s.heap l xs/\
   R (.ok (.ret (.ref (s.heap.push (srcO t l)).objs.size))) {s with heap:=(s.heap.push (srcO t l)).push (en_ s.heap.objs.size)}):=
 .of_wp fun prog w A R s h=>by
  obtain⟨hp,g,d,tk,os⟩:=s
  obtain⟨hl,b,h⟩:=h
  have hsub:=sub_enumerate
  have hL:SrcH t (Shared.heap ⟨hp,g,d,tk,os⟩) l xs:=b
  wp_walk using AutoSeq1.wpAny_loadPart' hl
  refine wpAny_stack_any fun st=>wpAny_pure ?_
  split
  ·rename_i c _ _ _ _ _
   cases(c==Value.type "enumerate")<;>(wp_walk using AutoSeq1.wpAny_loadPart' hl,zel hL;exact⟨_,rfl,h⟩)
  ·wp_walk using AutoSeq1.wpAny_loadPart' hl,zel hL
   exact⟨_,rfl,h⟩
theorem zn1 (h1:SrcH t s.heap l xs)
  (k:∀h',IsEnum h' (s.heap.objs.size+1) s.heap.objs.size 0 .none->SrcIt t h' s.heap.objs.size l 0->(∀b o,s.heap.get? b=some o->h'.get? b=some o)->Q (.ref (s.heap.objs.size+1)) {s with heap:=h'}):
  wpAny (model prog w) A (call (.type "enumerate") [.ref l]) Q E s:=by
 have⟨o,ho⟩:∃o,s.heap.get? l=some o:=by cases t<;>(obtain⟨o,e,-⟩:=h1;exact⟨o,e⟩)
 refine callType_new F.called_enumerate (by decide) (F.typeCall_enumerate_1 _) (F.newCall_enumerate_1 _) (fun obj=>F.args_object_init_2 obj _) F.entry_enumerate_new (zl8 t l o xs) ⟨ho,h1,(?_:_/\_)⟩
 have y1:(s.heap.push (srcO t l)).objs.size=s.heap.objs.size+1:=Heap.size_push ..
 have g2:((s.heap.push (srcO t l)).push (en_ s.heap.objs.size)).get? (s.heap.push (srcO t l)).objs.size=some _:=Heap.get?_push_size _ rfl
 have g1:((s.heap.push (srcO t l)).push (en_ s.heap.objs.size)).get? s.heap.objs.size=some (srcO t l):=Heap.get?_push_of_some _ (Heap.get?_push_size _ (zhG ..))
 rw[y1]at g2
 rw[y1]
 exact⟨⟨_,g2,rfl⟩,k _ g2 (zkS g1) fun b o x=>Heap.get?_push_of_some _ (Heap.get?_push_of_some _ x)⟩
end
end M
namespace M
local macro_rules | `(tactic| ac_rfl) => `(tactic| first | exact M.nA (by decide) | exact M.nB (by decide) | exact M.nC (by decide) | exact M.nL (by assumption) | exact Nat.ne_of_lt (by assumption) | lia)
open L2 PySem PySem.Spec
open PyProof.Rows hiding St
open Sem (wp)
variable {t' ek:Nat} {h':Heap} {fp:List Addr} {vs xs:List V} {its:List Value} {t:Bool} {X:Cx} {pins:List (Addr×Obj)} {σ:St} {H:Hp} {s:Shared} {a:Addr} {K:W.Frag} {elts:List Expr} {ep p pos:Pos} {es:List D}
section
variable {X:Cx} {pins:List (Addr×Obj)} {σ:St} {H:Hp} {s:Shared}
theorem zkd (I:Inv X pins σ H s)(k:∀b o,b∉fp->s.heap.get? b=some o->h'.get? b=some o)(hf:∀b∈fp,FpOk X pins H b):Inv X pins σ H {s with heap:=h',toks:=t'}:=by
 have nit:∀b u,H b=some u->b∉fp:=fun b u e z=>by rw[(hf b z).1]at e;exact cNN e
 refine I.step (g':=s.gens) (d':=s.drawn) (ch:=fp) (fun b hb=>?_) (fun b o _ _ hc e _=>k b o hc e) (fun b o _ _ hc e _=>⟨o.slots,k b o hc e⟩) (fun _ _ _ _ n=>n)
  (fun b o hc e=>⟨o,k b o hc e⟩) (fun _ _ e=>e) (fun _ _ _ e=>e) (fun b ps e=>⟨#[],by rw[e];simp⟩) (fun m hm=>?_) (fun b u e=>?_) I.bare
 ·obtain⟨f0,f1,f2,f3,f4,f5⟩:=hf b hb
  exact⟨f3,f1,f4,f5⟩
 ·obtain⟨o,es,ep,ho,r⟩:=hm
  exact⟨o,es,ep,k _ o (fun z=>(hf _ z).2.1 rfl) ho,r⟩
 ·refine(I.hok b u e).stay (fun c v hc q=>k c v ?_ q) (fun _ q=>q) fun _ _ q=>q
  rcases hc with z|z
  ·rw[z];exact nit b u e
  ·exact nit c _ z
theorem zn3 {t':Nat}{h':Heap}{fp:List Addr}(I:Inv X pins σ H s)(k:∀b o,b∉fp->s.heap.get? b=some o->h'.get? b=some o)(hf:∀b∈fp,FpOk X pins H b)(hl:∀b∈fp,b<s.heap.objs.size)
  (hT:h'.get? s.heap.objs.size=some (tup_ its.toArray)) (hz:vs.length<=sizeLine) (r:Vals vs its):Inv X pins σ (upd H s.heap.objs.size (.tup vs)) {s with heap:=h',toks:=t'}:=by
 have I1:=I.laid (t':=s.toks) (a:=s.heap.objs.size) (o:= .tup vs) (h':=s.heap.push (tup_ its.toArray)) (fun b u q=>Heap.get?_push_of_some _ q) (Nat.le_refl _) ⟨hz,its,r,IsTup.new _ _⟩
 refine zkd (s:={s with heap:=s.heap.push (tup_ its.toArray),toks:=s.toks}) (t':=t') (fp:=fp) I1 (fun b o hb e=>?_) fun b hb=>?_
 ·have e':(s.heap.push (tup_ its.toArray)).get? b=some o:=e
  rcases Heap.get?_push_cases e' with⟨rfl,rfl⟩|q
  ·exact hT
  ·exact k b o hb q
 ·obtain⟨f0,fr⟩:=hf b hb
  refine⟨?_,fr⟩
  rw[zal (Nat.ne_of_lt (hl b hb))]
  exact f0
end
noncomputable def SrcSq (t:Bool)(K:W.Frag)(H:Hp)(a:Addr)(xs:List V):Prop:=match t with
 |true=>SqT K H a xs
 |false=>SqL K H a xs
theorem SrcSq.heap (I:Inv X pins σ H s)(h:SrcSq t X.K H a xs):∃its:List Value,Vals xs its/\SrcH t s.heap a its.toArray/\xs.length<=sizeLine:=by
 cases t
 ·obtain⟨its,r,p,z⟩:=I.list h
  exact⟨its,r,p.isList,z⟩
 ·obtain⟨its,r,p,z⟩:=I.tuple h
  exact⟨its,r,p,z⟩
theorem SrcSq.inj {xs ys:List V}(I:Inv X pins σ H s)(h:SrcSq t X.K H a xs)(h':SrcSq t X.K H a ys):xs=ys:=by
 cases t
 ·exact I.list_inj h h'
 ·exact I.tuple_inj h h'
noncomputable def Itz2 (K:W.Frag)(t1:Bool)(a1:Addr)(t2:Bool)(a2:Addr)(n:Nat):It where
 go:=fun i H=>i<n/\∃xs ys,SrcSq t1 K H a1 xs/\SrcSq t2 K H a2 ys/\n=min xs.length ys.length
 yld:=fun i H x H'=>∃p x1 x2,H p=none/\H'=upd H p (.tup [x1,x2])/\x= .ref p/\∀xs ys,SrcSq t1 K H a1 xs->SrcSq t2 K H a2 ys->xs[i]? =some x1/\ys[i]? =some x2
 stop:=fun i H=>n<=i/\∃xs ys,SrcSq t1 K H a1 xs/\SrcSq t2 K H a2 ys/\n=min xs.length ys.length
theorem nin4 {c N:Nat}(h:c∉([N,N+1,N+2,N+3,N+4]:List Nat)):c≠N/\c≠N+1/\c≠N+3/\c≠N+4:=
 ⟨fun e=>h (e ▸ .head _),fun e=>h (e ▸ .tail _ (.head _)),fun e=>h (e ▸ .tail _ (.tail _ (.tail _ (.head _)))),fun e=>h (e ▸ .tail _ (.tail _ (.tail _ (.tail _ (.head _)))))⟩
noncomputable def Ite (K:W.Frag)(t1:Bool)(a1:Addr)(n:Nat):It where
 go:=fun i H=>i<n/\∃xs,SrcSq t1 K H a1 xs/\n=xs.length
 yld:=fun i H x H'=>∃p x1,H p=none/\H'=upd H p (.tup [.int i,x1])/\x= .ref p/\∀xs,SrcSq t1 K H a1 xs->xs[i]? =some x1
 stop:=fun i H=>n<=i/\∃xs,SrcSq t1 K H a1 xs/\n=xs.length
theorem zoj {P:Program}{w:World}(t1:Bool)(a1:Nat)(n N:Nat)(l1:a1<N):
  Turn P w K (.Tuple elts ek ep) (Ite K t1 a1 n) ([N+1,N]:List Nat) (N+1:Nat) (fun i h=>i<=n/\(∃old,IsEnum h (N+1:Nat) N i old)/\SrcIt t1 h N a1 i) where
 mem:=by simp
 obj:=fun i h st b hb=>by
  obtain⟨-,⟨old,h1⟩,h0⟩:=st
  simp only[List.mem_cons,List.not_mem_nil,or_false]at hb
  rcases hb with rfl|rfl
  ·exact⟨_,h1,fun v z=>by cases z⟩
  ·exact h0.obj
 keep:=fun i h h' st k=>by
  obtain⟨hi,⟨old,h1⟩,h0⟩:=st
  exact⟨hi,⟨old,k _ (by simp) _ h1⟩,h0.at fun o e=>k _ (by simp) o e⟩
 item:=by
  intro X hP hw hK hc i pins s σ H E I hf st hg
  subst hP hw hK
  obtain⟨hi,⟨old,h1⟩,h0⟩:=st
  obtain⟨hn,xs,q1,en⟩:=hg
  obtain⟨us,ru,hu,zu⟩:=q1.heap I
  have lu:=ru.length
  have D1:=zcS (prog:=X.prog) (w:=X.w) (A:=X.A.in1) (t:=t1) (I.ok.hd hc) N a1 (ne_ (by ac_rfl)) us.toArray
  refine wpAny_pyNext_enum_itemD D1 h1 ⟨h0,hu⟩ (by simp;lia) (ne_ (by ac_rfl)) (fun z=>nin2 (z:=N+1) z (by lia) (by lia) rfl) fun x h' tk p1 ho g0 gT gz kk=>?_
  obtain⟨x1,hx1⟩:∃x1,xs[i]? =some x1:=⟨xs[i]'(by lia),List.getElem?_eq_getElem _⟩
  obtain⟨u1,hu1,r1⟩:=ru.get hx1
  have e1:u1=x:=by
   have:us[i]? =some x:=by simpa using p1
   rw[hu1]at this;cases this;rfl
  subst e1
  refine⟨_,rfl,wpAny_letOwnedTupleGo_enum (s:={s with heap:=h',toks:=tk+1}) ho fun h'' he' sb=>?_⟩
  replace sb:Heap.SameBut (N+1:Nat) h' h'':=sb
  have lz:N+1<s.heap.objs.size:=Heap.lt_size h1
  have kk':∀b o,b∉([N+1,N]:List Nat)->s.heap.get? b=some o->h''.get? b=some o:=fun b o hb e=>
   (sb.2 b fun z=>hb (by simp[z])).trans (kk b o (fun z=>hb (by simp[z])) (fun z=>hb (by simp[z])) e)
  have I1:=zn3 (t':=tk+1) (vs:=[.int i,x1]) (its:=[.int i tk,u1]) I kk' hf (fun b hb=>by
   have:b=N+1\/b=N:=by simpa using hb
   exact Nat.lt_of_le_of_lt (show(b:Nat)<=N+1 by rcases this with h|h<;>rw[h]<;>simp) lz) ((sb.2 _ (ne_ (by ac_rfl))).trans gT) (by simp;rw[sizeLine_eq];decide) (.cons ⟨_,rfl⟩ (.cons r1 .nil))
  refine⟨.ref s.heap.objs.size,_,I1,rfl,⟨_,x1,I.hok.fresh (Nat.le_refl _),rfl,rfl,fun xs' b1=>?_⟩,⟨hn,⟨_,by simpa using he'⟩,SrcIt.at g0.1 fun o e=>(sb.2 _ (ne_ (by ac_rfl))).trans e⟩,fun b hb=>?_⟩
  ·rw[SrcSq.inj I b1 q1]
   exact hx1
  ·have:b=N+1\/b=N:=by simpa using hb
   rw[zal (Nat.ne_of_lt (Nat.lt_of_le_of_lt (show(b:Nat)<=N+1 by rcases this with h|h<;>rw[h]<;>simp) lz))]
   exact(hf b hb).1
 done:=by
  intro X hP hw hK hc i pins s σ H E I hf st hg
  subst hP hw hK
  obtain⟨hi,⟨old,h1⟩,h0⟩:=st
  obtain⟨hn,xs,q1,en⟩:=hg
  obtain⟨us,ru,hu,zu⟩:=q1.heap I
  have lu:=ru.length
  have D1:=zcS (prog:=X.prog) (w:=X.w) (A:=X.A.in1) (t:=t1) (I.ok.hd hc) N a1 (ne_ (by ac_rfl)) us.toArray
  have W:=WalksT.enumerateD D1 (N+1:Nat) (ne_ (by ac_rfl)) (fun z=>nin2 (z:=N+1) z (by lia) (by lia) rfl) (by simp)
  have ei:i=us.toArray.size:=by simp;lia
  subst ei
  exact W.done s _ _ ⟨⟨old,h1⟩,h0,hu⟩ fun h' tk kk=>⟨rfl,zkd I kk hf⟩
 self:=fun _ _ _ _ _ st h=>by
  obtain⟨hi,⟨old,h1⟩,h0⟩:=st
  exact wpAny_pyIter_enum h1 h
theorem boot_zip:bootBuiltins "zip"=some (.type "zip"):=by decide+kernel
theorem zif:bootBuiltins "enumerate"=some (.type "enumerate"):=by decide+kernel
section
variable {X:Cx} {elts:List Expr} {ek:Nat} {ep:Pos}
theorem pi_enum {a:Expr}{ta:TA}(hg:Gl X "enumerate")(hm:X.mg "enumerate"=none)(ha:PA X [a] ta)(hs:autoParam (starEach [a] X.env=(false,eval a X.env)::starEach [] X.env) zu3._auto_1)(hs2:autoParam ((backTo pos (starEach [] X.env)).any (·.1)=false) zu3._auto_1):
  PI X (.Tuple elts ek ep) (.Call (.Name "enumerate" p) [a] [] pos) (fun σ H R=>ta σ H fun vs H1=>∃t1 a1 xs,vs=[.ref a1]/\SrcSq t1 X.K H1 a1 xs/\R (Ite X.K t1 a1 xs.length) H1):=by
 intro pins s σ H R I h
 refine Call_ (ziu I hg hm zif (PyProof.Rows.callWith_type1 (thn (ha pos pins s σ H _ I h) fun us s1 ⟨vs,H1,I1,r1,q1⟩=>?_) hs hs2))
 obtain⟨t1,a1,xs,e,q1,q⟩:=q1
 subst e
 cases r1 with
 |cons r rr=>
  cases rr
  cases r
  obtain⟨us,ru,hu,-⟩:=q1.heap I1
  refine zn1 hu fun h' g1 g0 kk=>wpAny_pyIter_enum g1 ⟨_,_,_,_,H1,rfl,I1.kept (t':=s1.toks) kk,zoj t1 a1 xs.length s1.heap.objs.size hu.lt,⟨Nat.zero_le _,⟨_,g1⟩,g0⟩,fun b hb=>?_,q⟩
  have:b=s1.heap.objs.size+1\/b=s1.heap.objs.size:=by simpa using hb
  have le:s1.heap.objs.size<=b:=by rcases this with h|h<;>rw[h]<;>simp
  exact I1.fpOk le (I1.hok.fresh le)
end
theorem zoS {G:Hp}{x:V}{d:D}(r:RepD K G x d)(e:zaG [d]=some es):∃t a xs,x= .ref a/\(∀H,Fz G H->SrcSq t K H a xs)/\RepL K G xs es:=by
 cases d<;>simp only[zaG]at e<;>try cases e
 ·obtain⟨a,xs,rfl,ha,r⟩:=r
  exact⟨false,a,xs,rfl,fun H f=>SqL.of (f _ _ ha),r⟩
 ·obtain⟨a,xs,rfl,ha,r⟩:=r
  exact⟨true,a,xs,rfl,fun H f=>SqT.of (f _ _ ha),r⟩
 ·obtain⟨a,rfl,ha⟩:=r
  exact⟨false,a,_,rfl,fun H f=>f.sql ha,RepL.ints _⟩
noncomputable def zkA (xs ys:List D):List D:=List.zipWith (fun x y=>D.tup [x,y]) xs ys
noncomputable def zip3D (xs ys zs:List D):List D:=List.zipWith (fun x (p:D×D)=>D.tup [x,p.1,p.2]) xs (List.zip ys zs)
noncomputable def zkt (xs:List D):List D:=List.zipWith (fun x (i:Nat)=>D.tup [.int i,x]) xs (List.range xs.length)
noncomputable def iZ2 (ma:MA):MA:=fun ρ=>(ma ρ).bind fun p=>match p.1 with
 |[a,b]=>(zaG [a]).bind fun xs=>(zaG [b]).bind fun ys=>some (zkA xs ys,p.2)
 |_=>none
noncomputable def iEn (ma:MA):MA:=fun ρ=>(ma ρ).bind fun p=>(zaG p.1).map fun xs=>(zkt xs,p.2)
theorem ziU {a:Expr}{ma:MA}(hm:X.mg "enumerate"=none)(ha:SA X [a] ma)(hg:autoParam (Gl X "enumerate") zu3._auto_1)(hs:autoParam (starEach [a] X.env=(false,eval a X.env)::starEach [] X.env) zu3._auto_1)(hs2:autoParam ((backTo pos (starEach [] X.env)).any (·.1)=false) zu3._auto_1):
  SIt X (.Tuple elts ek ep) (.Call (.Name "enumerate" p) [a] [] pos) (iEn ma):=by
 refine ha.el fun t pa sa=>?_
 refine⟨_,pi_enum hg hm pa hs hs2,fun B G H σ ρ ds ρ' Q I hm k=>?_⟩
 refine zaz hm fun es ρ1 e1 h2=>?_
 refine cMel h2 fun xs ex h2=>?_
 cases h2
 refine sa B G H σ ρ es ρ1 _ I e1 fun G1 H1 vs I1 f1 r1=>?_
 match es,ex,r1 with
 |[],ex,_=>exact cNN ex
 |_::_::_,ex,_=>exact absurd ex (by simp[zaG])
 |[d],ex,r1=>
  obtain⟨x,rfl,rx⟩:=r1.one
  obtain⟨t1,a1,us,rfl,s1,c1⟩:=zoS rx ex
  have n1:=c1.length
  refine⟨t1,a1,us,rfl,s1 _ I1.fz,k _ G1 H1 I1 f1 ⟨fun H i f hi=>?_,fun H i x H' f y d e=>?_,fun H i f hi=>?_⟩⟩
  ·exact⟨by simp[zkt]at hi;lia,us,s1 _ f,rfl⟩
  ·obtain⟨p,x1,hp,eh,ex',q⟩:=y
   have q1:=q us (s1 _ f)
   have hi:i<us.length:=(List.getElem?_eq_some_iff.mp q1).1
   have g1:xs[i]? =some (xs[i]'(by lia)):=List.getElem?_eq_getElem _
   simp only[zkt,List.getElem?_zipWith]at e
   rw[g1,show(List.range xs.length)[i]? =some i from by rw[List.getElem?_range (by lia)]]at e
   cases e
   obtain⟨v1,b1,r1⟩:=c1.get g1
   rw[q1]at b1;cases b1
   exact .inr ⟨p,_,_,hp,eh,ex',rfl,⟨_,_,rfl,rfl,_,_,rfl,r1,rfl⟩⟩
  ·exact⟨by simp[zkt]at hi;lia,us,s1 _ f,rfl⟩
end M
namespace M
open L2 PySem PySem.Spec
open PyProof.Rows hiding St
variable {K:W.Frag} {G H:Hp} {x:Str} {σ:St} {ρ:R} {b:Nat} {cs:List D} {l:Addr} {ys:List V} {cap:List Nat} {tg':Addr->Shared->Hp->List Addr->TG} {tt:Addr->Shared->Hp->List Addr->TT} {te:Addr->Shared->Hp->List Addr->TE}
noncomputable def isN:D->Bool
 | .non=>true
 |_=>false
theorem isN_ok {x:V}{d:D}(r:RepD K G x d):decide (x= .non)=isN d:=by
 cases d with
 |non=>cases(show x=V.non from r);rfl
 |bl b=>cases(show x=V.bl b from r);rfl
 |int i=>cases(show x=V.int i from r);rfl
 |str s=>cases(show x=V.str s from r);rfl
 |lst ds=>obtain⟨a,xs,rfl,-⟩:=r;rfl
 |tup ds=>obtain⟨a,xs,rfl,-⟩:=r;rfl
 |scr ns=>obtain⟨a,rfl,-⟩:=r;rfl
 |exc c=>obtain⟨a,C,rfl,-⟩:=r;rfl
 |dic _ _=>obtain⟨a,ys,rfl,-⟩:=r;rfl
 |dit _ _=>obtain⟨a,ys,o,xs,rfl,-⟩:=r;rfl
 |obj _ _ _ _ _=>obtain⟨_,_,_,_,_,_,_,_,_,rfl,-⟩:=r;rfl
noncomputable def zkG:D->D->Option D
 |a,.non=>some (.bl (!isN a))
 |_,_=>none
theorem v2_notN {X:Cx}:V2 X (fun x y H Q=>y= .non/\Q (.bl (!decide (x= .non))) H) zkG:=by
 intro B G H σ ρ x y a b d Q I ra rb hf k
 cases b<;>simp only[zkG]at hf<;>cases hf
 exact⟨rb,k G H _ I (Fz.refl G) (by rw[isN_ok ra];rfl)⟩
theorem bl_notN:∀x y d,zkG x y=some d->∃t,d= .bl t:=by
 intro x y d hf
 cases y<;>simp only[zkG]at hf<;>cases hf
 exact⟨_,rfl⟩
section
variable {X:Cx} {a b:Expr} {ma mb:ME} {pos:Pos}
theorem st_isNot (ha:SE X a ma)(hb:SE X b mb)(hm:autoParam (behindInMarks .IsNot b=false) zu3._auto_1):STt X (.Compare a [.IsNot] [b] pos) (tTru (m2 zkG ma mb)):=zgU op_notN v2_notN bl_notN ha hb hm
end
noncomputable def zkN (b:Nat)(ρ:R):Bool:=match ρ[b]? with
 |some (.par _)=>zcG (ρ.set b .emp)
 |_=>false
noncomputable def zoL (b:Nat)(ρ:R):List D:=match ρ[b]? with
 |some (.par cs)=>cs
 |_=>[]
noncomputable def znn (b:Nat)(g:D->R->Option R)(mt:MT)(me:ME):D->R->Option (Option D×R):=fun d ρ=>(g d ρ).bind fun ρ1=>(mt ρ1).bind fun p=>if p.1 then(me p.2).bind fun q=>if zkN b q.2 then some (some q.1,q.2)else none else if zkN b p.2 then some (none,p.2)else none
noncomputable def oLCM (cap:List Nat)(t b w:Nat)(mi:MA)(g:D->R->Option R)(mt:MT)(me:ME):MO:=fun ρ=>(mi ρ).bind fun p=>if p.1.length<=16777216 then
    ((fzL (cap.filter (· !=w)) p.2)[w]?).bind fun s=>s.items.bind fun cs=>(zc1 (znn b g mt me) p.1 ((capR cap t (fzL (cap.filter (· !=w)) p.2)).set b (.par cs))).map fun q=>(q.1,(fzL (cap.filter (· !=w)) p.2).set w (s.put (zoL b q.2)))
  else none
theorem VS.setEmp (h:VS K G σ ρ)(b:Nat):VS K G σ (ρ.set b .emp) where
 len:=by rw[List.length_set];exact h.len
 no:=by
  have h0:=h.no
  unfold zcG at*
  rw[List.all_eq_true]at*
  intro s hs
  rcases List.mem_or_eq_of_mem_set hs with z|z
  ·exact h0 s z
  ·rw[z]
 val:=fun i d e=>by
  rw[List.getElem?_set]at e
  split at e
  ·split at e
   ·cases e
   ·exact cNN e
  ·exact h.val i d e
theorem VS.siP (h:VS K G σ (ρ.set b .emp))(fz:Fz G H)(hb:ρ[b]? =some (.par cs))(hs:σ[b]? =some (some (.ref l)))(gl:G l=none)(hl:H l=some (.lst ys))(r:RepL K G ys cs):SI K ⟨G,H,[(b,l)]⟩ G H σ ρ where
 fz:=fz
 g0:=Fz.refl G
 new:=fun b o e=> .inl (by show G b≠none;rw[e];simp)
 keep:=fun b o e _=>e
 there:=fun b e=>e
 ob:=fun i c m=>by
  have:i=b/\c=l:=by simpa using m
  rw[this.2]
  show H l≠none
  rw[hl];simp
 len:=by rw[h.len,List.length_set]
 slot:=fun i s e=>by
  by_cases z:i=b
  ·subst z
   rw[hb]at e;cases e
   exact⟨l,ys,hs,gl,hl,r,by simp⟩
  ·have e':(ρ.set b .emp)[i]? =some s:=by rw[List.getElem?_set_ne (Ne.symm z)];exact e
   cases s with
   |emp=>trivial
   |two _ _=>trivial
   |tre t=>exact absurd rfl ((zg4 h.no e').1 t)
   |ptr t=>exact absurd rfl ((zg4 h.no e').2 t)
   |val d=>exact h.val i d e'
   |own ds=>exact absurd ⟨_,ds,e',rfl⟩ (zha h.no (i:=i))
   |par ds=>exact absurd ⟨_,ds,e',rfl⟩ (zha h.no (i:=i))
 dis:=fun i j s t a hij e1 e2 w1 w2=>by
  have key:∀(i:Nat) (s:Sl) ov,ρ[i]? =some s->OwS K G H ov a s->i=b:=fun i s ov e w=>by
   by_cases z:i=b
   ·exact z
   ·exact absurd w (zlx h.no (show(ρ.set b .emp)[i]? =some s by rw[List.getElem?_set_ne (Ne.symm z)];exact e))
  exact hij ((key i s _ e1 w1).trans (key j t _ e2 w2).symm)
theorem VS.ofP {B:Bs}(I:SI K B G H σ ρ)(hO:B.O=[(b,l)])(h:zkN b ρ=true):∃cs ys,ρ[b]? =some (.par cs)/\σ[b]? =some (some (.ref l))/\G l=none/\H l=some (.lst ys)/\RepL K G ys cs/\VS K G σ (ρ.set b .emp):=by
 unfold zkN at h
 split at h
 ·rename_i cs e
  obtain⟨l',ys,h1,h2,h3,h4,h5⟩:=I.slot b _ e
  have hl:l'=l:=by rw[hO]at h5;simpa using h5
  subst hl
  refine⟨cs,ys,e,h1,h2,h3,h4,⟨by rw[List.length_set];exact I.len,h,fun i d e'=>?_⟩⟩
  rw[List.getElem?_set]at e'
  split at e'
  ·split at e'
   ·cases e'
   ·exact cNN e'
  ·exact I.slot i _ e'
 ·cases h
noncomputable def PaAt (K:W.Frag)(b:Nat)(l:Addr)(G H:Hp)(σ:St)(ρ:R):Prop:=∃cs ys,ρ[b]? =some (.par cs)/\σ[b]? =some (some (.ref l))/\G l=none/\H l=some (.lst ys)/\RepL K G ys cs
theorem PaAt.upd {l DD:Addr}(h:PaAt K b l G H σ ρ)(n:l≠DD)(xs:List V):PaAt K b l G (L2.upd H DD (.lst xs)) σ ρ:=h.imp fun _ h=>h.imp fun _ h=>⟨h.1,h.2.1,h.2.2.1,(zal n).trans h.2.2.2.1,h.2.2.2.2⟩
theorem capσ_at {b w t:Nat}(h1:cap[b]? =some w)(h2:σ[w]? =some (some (.ref l))):b<cap.length/\(capσ cap t σ)[b]? =some (some (.ref l)):=by
 have hb:b<cap.length:=(List.getElem?_eq_some_iff.mp h1).1
 have hbe:cap[b]=w:=(List.getElem?_eq_some_iff.mp h1).2
 refine⟨hb,?_⟩
 unfold capσ
 rw[List.getElem?_append_left (by rw[List.length_map];exact hb),List.getElem?_map,List.getElem?_eq_getElem hb,hbe,Option.map_some,h2]
 rfl
theorem zkf (cap:List Nat)(t:Nat)(ρ:R):(capR cap t ρ).length=cap.length+t:=by unfold capR;simp
section
variable {X:Cx} {elt iter tg:Expr} {ifs:List Expr} {scope:Scope} {pos:Pos} {N:List Str} {cap:List Nat} {t bk wk:Nat} {mi:MA} {g:D->R->Option R} {mt:MT} {me:ME}
theorem znT (hbw:cap[bk]? =some wk){wi:TI}(si:SItb X tg iter mi wi)(blk:LcB X scope N elt tg ifs g mt me tg' tt te):
    ∀B G H σ ρ ds ρ' (Q:VK),SI X.K B G H σ ρ->oLCM cap t bk wk mi g mt me ρ=some (ds,ρ')->
      (∀G' H' l xs,SI X.K B G' H' σ ρ'->Fz G G'->G' l=none->H' l=some (.lst xs)->RepL X.K G' xs ds->B.H l=none->Nw X.K G' H' σ ρ' l->Q (.ref l) H')->tLC (capσ cap t) wi tg' tt te σ H Q:=fun B G H σ ρ ds ρ' Q I hm k=>
  zaz hm fun items ρ1 e1 hm=>si B G H σ ρ items ρ1 _ I e1 fun J G1 H1 I1 f1 IT DD hD=>cIte hm fun hlen hm=>cBel hm fun sw ew hm=>cBel hm fun cs0 qw hm=>zdO hm fun all ρf e2 e3=>by
    obtain⟨rfl,rfl⟩:=Prod.mk.inj e3
    obtain⟨G2,I2,f2⟩:=SI.fzL (cap.filter (· !=wk)) I1
    obtain⟨l,ys0,hσ,gl0,hl0,rl0⟩:=I2.wr ew qw
    have hlD:l≠DD:=zaJ hl0 hD
    have hb:=capσ_at (t:=t) hbw hσ
    refine zjM blk (O:=[(bk,l)]) (JJ:=fun G H σ ρ=>PaAt X.K bk l G H σ ρ/\VS X.K G σ (ρ.set bk .emp)) IT f2 I2.fz hD hlen (fun i m=>?_) (fun G H σ ρ h f=>?_) (fun _ _ _ _ _ _ I h=>?_) (fun _ _ _ _ xs h=>⟨h.1.upd hlD xs,h.2⟩) ⟨⟨cs0,ys0,?_,hb.2,gl0,hl0,rl0⟩,?_⟩ e2 fun Gc Hc σc xs J ra jj=>?_
    . rw[List.mem_singleton]at m;exact hlD (Prod.mk.inj m).2.symm
    . obtain⟨⟨cs,ys,a1,a2,a3,a4,a5⟩,vs⟩:=h
      exact vs.siP f a1 a2 a3 a4 a5
    . obtain⟨cs',ys',w1,w2,w3,w4,w5,w6⟩:=VS.ofP I rfl h
      exact⟨⟨cs',ys',w1,w2,w3,w4,w5⟩,w6⟩
    . rw[List.getElem?_set,if_pos rfl,if_pos (by rw[zkf];lia)]
    . rw[List.set_set];exact(cap_vs I2 cap t).setEmp bk
    . obtain⟨⟨cs,ys,a1,a2,a3,a4,a5⟩,vs⟩:=jj
      have hp:zoL bk ρf=cs:=by unfold zoL;rw[a1]
      rw[hp]at k
      have kp:∀b o,b≠l->H1 b=some o->Hc b=some o:=fun b o n e=>J.kp b o (fun i m=>n (Prod.mk.inj (List.mem_singleton.mp m)).2) e
      exact k Gc Hc DD xs (I2.growW ew qw hσ J.fc J.fcH J.nw kp a3 a4 a5) (f1.trans (f2.trans J.fc)) J.gD J.hDc ra (I2.there DD hD) (I2.own_neW ew qw hσ hD J.nw kp)
theorem zir (i:Nat){lpos pos':Pos}(cap:List Nat)(t bk wk:Nat)(N:List Str)(hc:X.calm=true)(hi:SIt X tg iter mi)(hg:∀C s H fp,SG (cxC X N scope C s H fp) tg g)(ht:∀C s H fp,STs (cxC X N scope C s H fp) ifs mt)(he:∀C s H fp,SE (cxC X N scope C s H fp) elt me)(hN:X.N.Nodup)(hbw:autoParam (cap[bk]? =some wk) zu3._auto_1)
    (hxi:autoParam (X.N[i]? =some x) zu3._auto_1) (hx:autoParam (Loc X.env.scope x) zu5._auto_1) (hf:autoParam (X.fn x=true\/X.env.scope.names.lookup x=some .local) zu5._auto_1)
    (hsw:autoParam (swapsWith (.ListComp elt [⟨tg,iter,ifs,0⟩] scope lpos) (some (.Name x pos')) pos.line X.env=pure true) zu3._auto_1)
    (hk:autoParam (scope.kind= .function) zu3._auto_1) (hb:autoParam (blkB X.env scope=true) zu9._auto_1) (hcap:autoParam (capB scope.names N X.N cap t=true) zu9._auto_1)
    (hs:autoParam (∀x,foldedSetIterable iter X.env x=pure x) zu8._auto_1):SS X (.Assign [.Name x pos'] (.ListComp elt [⟨tg,iter,ifs,0⟩] scope lpos) pos) (sSet i (eFz (oLCM cap t bk wk mi g mt me))):=by
  refine hi.el fun wi pi si=>?_
  refine⟨_,ziT hN hxi hx hf hsw hc (zlj hk hb) (zlX hcap) pi (fun C s H fp=>(hg C s H fp).choose_spec.1) (fun C s H fp=>(ht C s H fp).choose_spec.1) (fun C s H fp=>(he C s H fp).choose_spec.1) hs,fun B G H σ ρ fl ρ' E I hm k=>?_⟩
  refine zdO hm fun d ρ1 e1 e3=>?_
  refine zdO e1 fun ds ρ2 e4 e5=>?_
  obtain⟨rfl,rfl⟩:=Prod.mk.inj e5
  obtain⟨rfl,rfl⟩:=Prod.mk.inj e3
  refine znT hbw si (.mk' hg ht he) B G H σ ρ ds ρ2 _ I e4 fun G1 H1 l xs I1 f1 g1 h1 r1 b1 n1=>?_
  obtain⟨I2,f2,r2⟩:=zgK I1 g1 h1 r1 b1 n1
  exact k _ H1 _ (I2.set r2) (f1.trans f2)
end
end M
namespace M
open L2 PySem
theorem zf6:∀{ds:List D} {ns:List Int},zaW ds=some ns->ds=ns.map .int
 |[],_,h=>by cases h;rfl
 | .int i::ds,_,h=>by
  refine cMel h fun ms e1 e2=>?_
  cases e2
  rw[zf6 e1];rfl
 | .non::_,_,h=>by exact cNN h
 | .bl _::_,_,h=>by exact cNN h
 | .str _::_,_,h=>by exact cNN h
 | .lst _::_,_,h=>by exact cNN h
 | .tup _::_,_,h=>by exact cNN h
 | .scr _::_,_,h=>by exact cNN h
 | .exc _::_,_,h=>by exact cNN h
 |(.dic _ _)::_,_,h=>by exact cNN h
 |(.dit _ _)::_,_,h=>by exact cNN h
 |(.obj _ _ _ _ _)::_,_,h=>by exact cNN h
noncomputable def sExt (i:Nat)(m:ME):MS:=fun ρ=>if(ρ[i]?.bind Sl.items).isSome then(m ρ).bind fun p=>p.2[i]?.bind fun s=>s.items.bind fun ds=>match p.1 with
 | .lst es=>if ds.length+es.length<=16777216 then some (.next,p.2.set i (s.put (ds++es)))else none
 |_=>none else none
section
variable {X:Cx} {e:Expr} {me:ME} {pos:Pos}
theorem ss_ext (i:Nat){x:Str}{pos' apos cpos:Pos}(he:SE X e me)(hN:autoParam (X.N[i]? =some x) zu3._auto_1)(hv:autoParam (Vis X.env.scope x) zu5._auto_1)(hd:autoParam ((x==("__debug__":Str))=false) zu1._auto_1)
  (hcd:autoParam ((x==("__classdict__":Str))=false) zu1._auto_1)
  (hbase:autoParam (attributeBase (.Name x pos') "extend" X.env (eval (.Name x pos') X.env)=eval (.Name x pos') X.env) zu3._auto_1)
  (hfew :autoParam (((backTo cpos (starEach [e] X.env)).all (fun x => !x.1) && (backToKw cpos (keywordEach [] X.env)).all (fun x => x.1.isSome)
   &&decide ([e].length+([]:List Keyword).length+(if([]:List Keyword).isEmpty then 0 else 1)<30))=true) zu3._auto_1)
  (hline:autoParam ((apos.endLine==cpos.line)=true) zu3._auto_1) (hs:autoParam (starEach [e] X.env=(false,eval e X.env)::starEach [] X.env) zu3._auto_1):SS X (.Expr (.Call (.Attribute (.Name x pos') "extend" apos) [e] [] cpos) pos) (sExt i me):=by
 refine he.el fun t p s=>?_
 refine⟨_,zkj (pe_bm PySem.F.plainAttrs_list PySem.F.slot_list_extend PySem.F.type_list_extend zoT (zb3 hN hv hd hcd) (zgf p zjy hs) hbase hfew hline hs rfl) (by rfl),fun B G H σ ρ fl ρ' E I hm k=>?_⟩
 unfold sExt at hm
 refine cIte hm fun hso hm=>?_
 obtain⟨ds0,hso⟩:=Option.isSome_iff_exists.mp hso
 refine cBel hso fun s0 e0 q0=>?_
 obtain⟨l,xs0,h1,h2,h3,h4⟩:=I.wr e0 q0
 refine zaz hm fun d ρ1 e1 hm=>?_
 refine cBel hm fun s1 e2 hm=>?_
 refine cBel hm fun ds e3 hm=>?_
 cases d with
 |lst es=>
  dsimp only at hm
  refine cIte hm fun hl hm=>?_
  obtain⟨rfl,rfl⟩:=cSp hm
  refine⟨.ref l,h1,.inl ⟨rfl,_,SqL.of h3⟩,s B G H σ ρ (.lst es) ρ1 _ I e1 fun G1 H1 v I1 f1 r1=>?_⟩
  obtain⟨l',xs,k1,k2,k3,k4⟩:=I1.wr e2 e3
  rw[h1]at k1;cases k1
  obtain⟨b,zs,rfl,hb,rb⟩:=r1
  refine⟨l,b,xs,zs,rfl,rfl,k3,I1.fz _ _ hb,by rw[k4.length,rb.length,sizeLine_eq];exact hl,?_⟩
  exact k G1 _ σ (I1.write e2 e3 h1 (k4.append rb)) f1
 |_=>exact cNN hm
end
end M
namespace M
open L2 PySem PySem.Spec
open PyProof.Rows hiding St
noncomputable def iR2L (ma:MA):MA:=fun ρ=>(ma ρ).bind fun p=>match p.1 with
 |[.int i,.int j]=>some (zb0 i (j-i).toNat,p.2)
 |_=>none
end M
namespace HT
open PySem PySem.Spec
noncomputable def LtOn (prog:Program)(w:World)(A:Around)(P:Nat->Value->Prop)(bt:Nat->Nat->Bool)(s₂:Shared)(wr:List Addr):Prop:=
 ∀i j vi vj h' tk (Q E:Value->Shared->Prop),P i vi->P j vj->(∀b o,b∉wr->s₂.heap.get? b=some o->h'.get? b=some o)->Q (.bool (bt i j)) {s₂ with heap:=h',toks:=tk}->
  wpAny (model prog w) A (richCompare .Lt vi vj) Q E {s₂ with heap:=h',toks:=tk}
theorem zg3:(toString "min"++toString ".loop":String)="min.loop":=by decide
section
variable {prog:Program} {w:World} {A:Around} {R:Result->Shared->Prop} {I:Addr} {fp wr:List Addr} {n:Nat} {P:Nat->Value->Prop} {St:Nat->Heap->Prop}
theorem zmX (W:Walks prog w A.in1 I fp wr n P St)(bt:Nat->Nat->Bool)(s₂:Shared)(lt:LtOn prog w A.in1 P bt s₂ wr)(S:Addr)(hSf:S∉fp)(hS0:s₂.heap.get? S=none)
  (hR:∀v h' tk,P (argBest bt (n-1)) v->(∀b o,b∉wr->s₂.heap.get? b=some o->h'.get? b=some o)->R (.ok (.ret v)) {s₂ with heap:=h',toks:=tk}):
  ∀(k j:Nat) (h:Heap) (tk:Nat) (vb:Value) (c:Nat),n-(j+1)=k->j+1<=n->St (j+1) h->P (argBest bt j) vb->
  h.get? S=some {cls:= .type "list",dict:=none,data:= .seq #[vb,vb] c,slots:= #[]}->(∀b o,b∉wr->s₂.heap.get? b=some o->h.get? b=some o)->
  codeAny (model prog w) A (.builtin "min.loop" ⟨[.ref I,.none,.ref S],[]⟩) R {s₂ with heap:=h,toks:=tk}:=by
 have hSw:S∉wr:=fun z=>hSf (W.sub _ z)
 have neS:∀b o,s₂.heap.get? b=some o->S≠b:=fun b o e z=>by rw[<-z,hS0]at e;cases e
 intro k
 induction k with
 |zero=>
  intro j h tk vb c hk hj hst hPb hS hkp
  have hin:j+1=n:=by lia
  refine codeAny_builtin F.entry_min_loop ?_
  rw[Around.under_plainId F.plain_min_loop _]
  show wpAny _ A.in1 (seqItems? (.ref S)>>=_) _ _ _
  refine wpAny_bind (wpAny_seqItems hS rfl ?_)
  show wpAny _ A.in1 (tryCatch (pyNext (.ref I)) _>>=_) _ _ _
  refine wpAny_bind (wpAny_tryCatch (W.done _ _ _ (hin ▸ hst) fun h' tk' hk'=>?_))
  have hS':=hk' S _ hSw hS
  show wpAny _ A.in1 (updateSeq S (fun _=> #[])>>=_) _ _ _
  refine wpAny_bind ?_
  refine wpAny_updateSeq hS' rfl (wpAny_bind (wpAny_letGo (wpAny_pure ?_)))
  exact hR vb _ tk' (by rw[<-hin];exact hPb) fun b o hbw e=>(Heap.get?_update_other _ _ (neS b o e)).trans (hk' b o hbw (hkp b o hbw e))
 |succ k ih=>
  intro j h tk vb c hk hj hst hPb hS hkp
  have hlt:j+1<n:=by lia
  refine codeAny_builtin F.entry_min_loop ?_
  rw[Around.under_plainId F.plain_min_loop _]
  show wpAny _ A.in1 (seqItems? (.ref S)>>=_) _ _ _
  refine wpAny_bind (wpAny_seqItems hS rfl ?_)
  show wpAny _ A.in1 (tryCatch (pyNext (.ref I)) _>>=_) _ _ _
  refine wpAny_bind (wpAny_tryCatch (W.item (j+1) _ _ _ hlt hst fun v h' tk' hP hst' hk'=>?_))
  have hS':=hk' S _ hSw hS
  have hkp':∀b o,b∉wr->s₂.heap.get? b=some o->h'.get? b=some o:=fun b o hb e=>hk' b o hb (hkp b o hb e)
  show wpAny _ A.in1 (tryCatch (holding [v,v] (richCompare .Lt v vb>>=_)) _>>=_) _ _ _
  refine wpAny_bind (wpAny_tryCatch (wpAny_holding (wpAny_bind (lt (j+1) (argBest bt j) v vb h' tk' _ _ hP hPb hkp' ?_))))
  refine wpAny_bind (wpAny_holding (wpAny_truthy_bool ?_))
  refine wpAny_bind (wpAny_letGo (wpAny_pure ?_))
  cases hb:bt (j+1) (argBest bt j)with
  |true=>
   simp only[if_true]
   refine wpAny_bind ?_
   refine wpAny_updateSeq hS' rfl (wpAny_bind (wpAny_letGo ?_))
   rw[zg3]
   refine wpAny_pure ⟨plainId_quiet F.plain_min_loop _,ih (j+1) _ tk' v _ (by lia) hlt (W.frame _ _ _ hst' fun b hbf o e=>?_) (by simp only[argBest,hb,if_true];exact hP) (Heap.get?_update_self _ hS' rfl) fun b o hbw e=>?_⟩
   ·exact(Heap.get?_update_other _ _ (fun z:S=b=>hSf (by rw[z];exact hbf))).trans e
   ·exact(Heap.get?_update_other _ _ (neS b o e)).trans (hkp' b o hbw e)
  |false=>
   simp only[Bool.false_eq_true,if_false]
   refine wpAny_bind (wpAny_letGo ?_)
   rw[zg3]
   exact wpAny_pure ⟨plainId_quiet F.plain_min_loop _,ih (j+1) _ tk' vb c (by lia) hlt hst' (by simp only[argBest,hb,Bool.false_eq_true,if_false];exact hPb) hS' hkp'⟩
end
section
variable {prog:Program} {w:World} {A:Around} {E:Value->Shared->Prop} {s:Shared}
theorem znM {x:Value}{Q:Value->Shared->Prop}
  (h : wpAny (model prog w) A.in1 (pyIter x) (fun it s₂ => ∃ I fp wr n P St bt, it = .ref I /\ Walks prog w A.in1 I fp wr n P St /\ St 0 s₂.heap /\ (∀ b ∈ fp, b < s₂.heap.objs.size) /\ 0 < n /\ LtOn prog w A.in1 P bt s₂ wr /\
   ∀v h' tk,P (argBest bt (n-1)) v->(∀b o,b∉wr->s₂.heap.get? b=some o->h'.get? b=some o)->Q v {s₂ with heap:=h',toks:=tk}) E s):
  wpAny (model prog w) A (call (.builtin "min") [x]) Q E s:=by
 refine call_function_tree F.kind_min F.plain_min F.entry_min (F.args_min1 _) ?_
 show wpAny _ A.in1 (Builtin.Builtins.bindParams "min" ["key","default"] 0 ⟨[],[]⟩>>=_) _ _ s
 refine wpAny_bind (wpAny_of_eq (show Builtin.Builtins.bindParams "min" ["key","default"] 0 ⟨[],[]⟩=pure [none,none]from rfl) ?_)
 refine wpAny_bind (wpAny_pure ?_)
 refine wpAny_bind (wpAny_mono h (fun it s₂ h₂=>?_) fun _ _ e=>e)
 obtain⟨I,fp,wr,n,P,St,bt,rfl,W,hst,hfp,hn,lt,hQ⟩:=h₂
 refine wpAny_bind (wpAny_newObj_type ?_)
 have hSf:s₂.heap.objs.size∉fp:=fun hm=>Nat.lt_irrefl _ (hfp _ hm)
 have hSw:s₂.heap.objs.size∉wr:=fun z=>hSf (W.sub _ z)
 have hS0:s₂.heap.get? s₂.heap.objs.size=none:=by
  cases q:s₂.heap.get? s₂.heap.objs.size with
  |none=>rfl
  |some o=>exact absurd (Heap.lt_size q) (Nat.lt_irrefl _)
 have neS:∀b o,s₂.heap.get? b=some o->s₂.heap.objs.size≠b:=fun b o e z=>by rw[<-z,hS0]at e;cases e
 rw[zg3]
 refine wpAny_pure ⟨plainId_quiet F.plain_min_loop _,codeAny_builtin F.entry_min_loop ?_⟩
 rw[Around.under_plainId F.plain_min_loop _]
 have hS:(s₂.heap.push {cls:= .type "list",data:= .seq #[]}).get? s₂.heap.objs.size=some {cls:= .type "list",data:= .seq #[]}:=Heap.get?_push_size _ rfl
 show wpAny _ A.in1 (seqItems? (.ref s₂.heap.objs.size)>>=_) _ _ _
 refine wpAny_bind (wpAny_seqItems hS rfl ?_)
 show wpAny _ A.in1 (tryCatch (pyNext (.ref I)) _>>=_) _ _ _
 refine wpAny_bind (wpAny_tryCatch (W.item 0 _ _ _ hn (W.frame _ _ _ hst fun b _ o e=>Heap.get?_push_of_some _ e) fun v h' tk hP hst' hk'=>?_))
 have hS':=hk' _ _ hSw hS
 show wpAny _ A.in1 (updateSeq s₂.heap.objs.size (fun _=> #[v,v])>>=_) _ _ _
 refine wpAny_bind ?_
 refine wpAny_updateSeq hS' rfl ?_
 rw[zg3]
 refine wpAny_pure ⟨plainId_quiet F.plain_min_loop _,zmX W bt s₂ lt s₂.heap.objs.size hSf hS0 hQ _ 0 _ tk v _ rfl hn (W.frame _ _ _ hst' fun b hbf o e=>?_) hP (Heap.get?_update_self _ hS' rfl) fun b o hbw e=>?_⟩
 ·exact(Heap.get?_update_other _ _ (fun z:s₂.heap.objs.size=b=>hSf (by rw[z];exact hbf))).trans e
 ·exact(Heap.get?_update_other _ _ (neS b o e)).trans (hk' b o hbw (Heap.get?_push_of_some _ e))
end
end HT
namespace M
open L2 PySem PySem.Spec
open PyProof.Rows hiding St
noncomputable def ziv:List D->Option (List (List Int))
 |[]=>some []
 | .tup ds::r=>(zaW ds).bind fun ns=>(ziv r).map fun nss=>ns::nss
 |_::_=>none
noncomputable def zjS (nss:List (List Int)):Nat:=argBest (fun i j=>HT.zbG (nss.getD i []) (nss.getD j [])) (nss.length-1)
noncomputable def zm0:List D->Option D
 |[.lst ds]=>(ziv ds).bind fun nss=>if nss.isEmpty then none else ds[zjS nss]?
 |_=>none
theorem zjc {as:List Addr}{its:List Value}(r:Vals (as.map V.ref) its){i:Nat}{v:Value}(e:its[i]? =some v):∃a,as[i]? =some a/\v= .ref a:=by
 have hl:=r.length
 have hi:i<its.length:=(List.getElem?_eq_some_iff.mp e).1
 rw[List.length_map]at hl
 have e2:(as.map V.ref)[i]? =some (.ref as[i]):=by rw[List.getElem?_map,List.getElem?_eq_getElem (by lia)];rfl
 obtain⟨u,h1,h2⟩:=r.get e2
 rw[e]at h1
 cases h1
 exact⟨_,List.getElem?_eq_getElem (by lia),h2⟩
theorem zj3 {K:W.Frag}{G:Hp}:∀{ys:List V} {ds:List D} {nss:List (List Int)},RepL K G ys ds->ziv ds=some nss->∃as:List Addr,ys=as.map V.ref/\as.length=nss.length/\∀(i:Nat) a ns,as[i]? =some a->nss[i]? =some ns->G a=some (.tup (ns.map V.int))
 |_,[],nss,r,e=>by cases e;cases r;exact⟨[],rfl,rfl,fun i a ns h=>by simp at h⟩
 |_,d::ds,nss,⟨x,ys,e0,q,r⟩,e=>by
  subst e0
  cases d with
  |tup es=>
   refine cBel e fun ns e1 e=>?_
   refine cMel e fun ms e2 e3=>?_
   subst e3
   obtain⟨as,rfl,hl,h⟩:=zj3 r e2
   obtain⟨a,zs,rfl,ha,rz⟩:=q
   rw[zfA e1]at rz
   rw[RepL.ints_eq rz]at ha
   refine⟨a::as,rfl,by rw[List.length_cons,List.length_cons,hl],fun i b ns' h1 h2=>?_⟩
   cases i with
   |zero=>simp at h1 h2;subst h1 h2;exact ha
   |succ i=>exact h i b ns' (by simpa using h1) (by simpa using h2)
  |non=>exact cNN e
  |bl _=>exact cNN e
  |int _=>exact cNN e
  |str _=>exact cNN e
  |lst _=>exact cNN e
  |scr _=>exact cNN e
  |exc _=>exact cNN e
  |dic _ _=>exact cNN e
  |dit _ _=>exact cNN e
  |obj _ _ _ _ _=>exact cNN e
noncomputable def rMinT (K:W.Frag):List V->Hp->VK->Prop:=fun xs H Q=>∃(p:Addr) (as:List Addr) (nss:List (List Int)),xs=[.ref p]/\nss≠[]/\as.length=nss.length/\SqL K H p (as.map V.ref)/\(∀(i:Nat) a ns,as[i]? =some a->nss[i]? =some ns->SqT K H a (ns.map V.int))/\∀a,as[zjS nss]? =some a->Q (.ref a) H
theorem zn8 {A:Around}(h:A.units+64<cLine):A.in1.units<cLine:=by
 have:A.in1.units=A.units+1\/A.in1.units=A.units:=by first|exact .inr rfl|exact .inl rfl|(simp[Around.in1,Around.units])
 lia
theorem zmF {X:Cx}(hc:X.calm=true)(hu:X.A.units+64<cLine):zeo X (.builtin "min") (rMinT X.K):=by
 intro pins s σ H xs us Q I r h
 obtain⟨p,as,nss,rfl,ne,hl,hq,ht,q⟩:=h
 obtain⟨u,rfl,ru⟩:=zib r
 cases ru
 refine HT.znM (ziG (A:=X.A.in1) (I.ok.hd hc) I (.inl hq) fun its s₂ St rv W st hfp fin=>?_)
 have hl2:=rv.length
 rw[List.length_map]at hl2
 have hp:0<its.length:=by rw[<-hl2,hl];exact List.length_pos_iff.mpr ne
 have hu':X.A.in1.units<cLine:=zn8 hu
 have get:∀i a,as[i]? =some a->SqT X.K H a ((nss.getD i []).map V.int):=fun i a e=>by
  have hi:i<nss.length:=by rw[<-hl];exact(List.getElem?_eq_some_iff.mp e).1
  rw[List.getD_eq_getElem?_getD,List.getElem?_eq_getElem hi]
  exact ht i a _ e (List.getElem?_eq_getElem hi)
 refine⟨_,_,_,_,_,_,fun i j=>HT.zbG (nss.getD i []) (nss.getD j []),rfl,W,st,hfp,hp,fun i j vi vj h' tk Q' E' hi hj hk qq=>?_,fun v h' tk hP hk=>?_⟩
 ·obtain⟨a,ea,rfl⟩:=zjc rv hi
  obtain⟨b,eb,rfl⟩:=zjc rv hj
  have I':=fin h' tk hk
  obtain⟨its1,r1,p1,_⟩:=I'.tuple (get i a ea)
  obtain⟨its2,r2,p2,_⟩:=I'.tuple (get j b eb)
  exact HT.zmE p1 p2 (zin r1) (zin r2) hu' qq
 ·obtain⟨a,ea,rfl⟩:=zjc rv hP
  refine⟨.ref a,H,fin h' tk hk,rfl,q a ?_⟩
  unfold zjS
  rw[<-hl,hl2]
  exact ea
theorem vc_minT {X:Cx}:VC X (rMinT X.K) zm0:=by
 intro B G H σ ρ xs ds d Q I r hf k
 match ds,hf with
 |[.lst es],hf=>
  refine cBel hf fun nss e1 hf=>?_
  split at hf
  ·exact cNN hf
  ·rename_i ne
   obtain⟨x,rfl,ra⟩:=r.one
   obtain⟨p,ys,rfl,hp,ry⟩:=I.lst ra
   obtain⟨as,rfl,hl,h⟩:=zj3 ry e1
   refine⟨p,as,nss,rfl,fun z=>ne (by rw[z];rfl),hl,SqL.of hp,fun i a ns h1 h2=>SqT.of (I.fz _ _ (h i a ns h1 h2)),fun a ea=>?_⟩
   obtain⟨y,e2,ry2⟩:=ry.get hf
   rw[List.getElem?_map,ea]at e2
   cases e2
   exact k G H _ I (Fz.refl G) ry2
 |[],hf=>exact cNN hf
 |[.non],hf=>exact cNN hf
 |[.bl _],hf=>exact cNN hf
 |[.int _],hf=>exact cNN hf
 |[.str _],hf=>exact cNN hf
 |[.tup _],hf=>exact cNN hf
 |[.scr _],hf=>exact cNN hf
 |[.exc _],hf=>exact cNN hf
 |[.dic _ _],hf=>exact cNN hf
 |[.dit _ _],hf=>exact cNN hf
 |[.obj _ _ _ _ _],hf=>exact cNN hf
 |a::b::c,hf=>exact absurd hf (by unfold zm0;simp)
theorem se_minT {X:Cx}{e:Expr}{ma:MA}{p pos:Pos}(hc:X.calm=true)(hu:X.A.units+64<cLine)(ml:X.mg "min"=none)(ha:SA X [e] ma)(hg:autoParam (Gl X "min") zu3._auto_1)(he:autoParam (starEach [e] X.env=(false,eval e X.env)::starEach [] X.env) zu3._auto_1):SE X (.Call (.Name "min" p) [e] [] pos) (mC zm0 ma):=
 zda (zmF hc hu) vc_minT (by decide+kernel) ml ha hg (by decide) (by decide) he rfl
theorem nn {α:Type}{o:Option α}{x:α}(e:o=some x):o≠none:=by rw[e];exact fun z=>by cases z
noncomputable abbrev MX:=R->Option Str
noncomputable def zeR (mc:MT)(mb:MS):Nat->MS
 |0,_=>none
 |n+1,ρ=>(mc ρ).bind fun p=>if p.1 then(mb p.2).bind fun q=>match q.1 with
  | .next=>zeR mc mb n q.2
  | .cont=>zeR mc mb n q.2
  | .brk=>some (.next,q.2)
  | .ret r=>some (.ret r,q.2)
  else some (.next,p.2)
theorem ziW {X:Cx}{c:Expr}{body:List Stmt}{mc:MT}{mb:MS}{pos:Pos}(fuel:Nat)(hp:PassesOwn (model X.prog X.w) X.A X.env X.xe)(hc:STt X c mc)(hb:SSs X body mb):SS X (.While c body [] pos) (zeR mc mb fuel):=by
 refine hc.el fun tc pc sc=>?_
 refine hb.el fun tb pb sb=>?_
 refine⟨_,ps_while hp pc pb,fun B G H σ ρ fl ρ' E I hm k=>?_⟩
 refine⟨fun m σ' H'=>∃G' ρ1,SI X.K B G' H' σ' ρ1/\Fz G G'/\zeR mc mb m ρ1=some (fl,ρ'),⟨fuel,G,ρ,I,Fz.refl G,hm⟩,fun m σ1 H1 w=>?_⟩
 obtain⟨G1,ρ1,I1,f1,e1⟩:=w
 cases m with
 |zero=>exact cNN e1
 |succ m=>
  refine zaz e1 fun b ρ2 e2 e1=>?_
  refine sc B G1 H1 σ1 ρ1 b ρ2 _ I1 e2 fun G2 H2 I2 f2=>?_
  dsimp only at e1
  cases b with
  |false=>
   rw[if_neg (by simp)]at e1 ⊢
   obtain⟨rfl,rfl⟩:=cSp e1
   exact k G2 H2 σ1 I2 (f1.trans f2)
  |true=>
   rw[if_pos rfl]at e1 ⊢
   refine zaz e1 fun f ρ3 e3 e1=>?_
   refine⟨fun σ' H'=>∃G' ρ1,SI X.K B G' H' σ' ρ1/\Fz G G'/\zeR mc mb m ρ1=some (fl,ρ'),fun σ' H' h=>⟨m,Nat.lt_succ_self m,h⟩,?_⟩
   refine sb B G2 H2 σ1 ρ2 f ρ3 _ I2 e3 ?_
   have ff:=f1.trans f2
   cases f with
   |next=>exact fun G' H' σ' I3 f3=>⟨G',ρ3,I3,ff.trans f3,e1⟩
   |cont=>exact fun G' H' σ' I3 f3=>⟨G',ρ3,I3,ff.trans f3,e1⟩
   |brk=>obtain⟨rfl,rfl⟩:=cSp e1;exact fun G' H' σ' I3 f3=>k G' H' σ' I3 (ff.trans f3)
   |ret r=>obtain⟨rfl,rfl⟩:=cSp e1;exact fun G' H' σ' v I3 f3 rr=>k G' H' σ' v I3 (ff.trans f3) rr
noncomputable def gS (j:Nat)(mi:ME):D->R->Option R:=fun d ρ=>if hasV ρ j then(mi ρ).bind fun q=>match q.1 with
 | .int k=>q.2[j]?.bind fun s=>s.items.bind fun ds=>(ixN ds.length k).bind fun n=>some (q.2.set j (s.put (ds.set n d)))
 |_=>none else none
section
variable {X:Cx}
theorem sg_sub (j:Nat){x:Str}{i:Expr}{mi:ME}{pos' tpos:Pos}(hi:SE X i mi)(hN:autoParam (X.N[j]? =some x) zu3._auto_1)(hv:autoParam (Vis X.env.scope x) zu5._auto_1)(hd:autoParam ((x==("__debug__":Str))=false) zu1._auto_1)
    (hcd:autoParam ((x==("__classdict__":Str))=false) zu1._auto_1)
    (ha :autoParam (∀ v, assign (.Subscript (.Name x pos') i tpos) X.env v = (do
      let ov<-holding [v] (eval (.Name x pos') X.env)
      let iv<-holding [v,ov] (eval i X.env)
      standAt tpos
      holding [v,ov,iv] (setItem ov iv v)
      release [v,ov,iv] [])) zu8._auto_1):SG X (.Subscript (.Name x pos') i tpos) (gS j mi):=by
  refine hi.el fun u q z=>?_
  refine⟨_,zm9 (zb3 hN hv hd hcd) q ziL ha,fun B G H σ ρ v d ρ' Q I r1 hm k=>?_⟩
  unfold gS at hm
  refine cIte hm fun hh hm=>?_
  obtain⟨w,ew⟩:=I.has hh
  refine zaz hm fun kd ρ2 e2 hm=>?_
  cases kd<;>try exact cNN hm
  rename_i kk
  refine cBel hm fun s2 e3 hm=>?_
  refine cBel hm fun ds e4 hm=>?_
  refine cBel hm fun n e5 hm=>?_
  cases hm
  refine⟨w,ew,z B G H σ ρ (.int kk) ρ2 _ I e2 fun G2 H2 y I2 f2 r2=>?_⟩
  obtain⟨l,xs,k1,k2,k3,k4⟩:=I2.wr e3 e4
  rw[ew]at k1;cases k1
  refine⟨l,xs,kk,n,rfl,r2,k3,by rw[k4.length];exact e5,?_⟩
  exact k G2 _ σ (I2.write e3 e4 ew (k4.set n (r1.mono f2))) f2
end
end M
namespace M
open L2 PySem
noncomputable def zgY:Sl->Sl->Bool
 | .own ds,.own es=>match zaW ds,zaW es with
  |some a,some b=>a==b
  |_,_=>false
 | .par ds,.par es=>match zaW ds,zaW es with
  |some a,some b=>a==b
  |_,_=>false
 | .own _,_=>false
 | .par _,_=>false
 | .tre _,_=>false
 | .ptr _,_=>false
 |_,_=>true
theorem zjt {ds es:List D}(h:(match zaW ds,zaW es with
  |some a,some b=>a==b
  |_,_=>false)=true):∃ns:List Int,ds=ns.map .int/\es=ns.map .int:=by
 cases a:zaW ds with
 |none=>rw[a]at h;cases h
 |some x=>
  cases b:zaW es with
  |none=>rw[a,b]at h;cases h
  |some y=>
   rw[a,b]at h
   have e:x=y:=by simpa using h
   subst e
   exact⟨x,zf6 a,zf6 b⟩
end M
namespace M
open L2 PySem PySem.Spec
open PyProof.Rows hiding St
noncomputable def Sl.putT (s:Sl)(t:T):Sl:=match s with
 | .tre _=> .tre t
 | .ptr _=> .ptr t
 |s=>s
noncomputable def Sl.tree:Sl->Option T
 | .tre t=>some t
 |_=>none
section
variable {J κ:Type} [DecidableEq J] [DecidableEq κ]
noncomputable def lkD:List J->List D->J->Option D
 |k::ks,d::ds,j=>if k=j then some d else lkD ks ds j
 |_,_,_=>none
noncomputable def ptD (ks:List J)(ds:List D)(j:J)(d:D):List J×List D:=if ks.contains j then(ks,List.zipWith (fun k x=>if k=j then d else x) ks ds)else(ks++[j],ds++[d])
variable {K:W.Frag} {G:Hp} {em:J->κ}
theorem zkx (inj:∀a b,em a=em b->a=b):∀{ks:List J} {ds:List D} {ys:List (κ×V)} {j:J} {d:D},ys.map (·.1)=ks.map em->RepL K G (ys.map (·.2)) ds->lkD ks ds j=some d->∃v,valV ys (em j)=some v/\RepD K G v d
 |[],_,_,_,_,_,_,h=>by exact cNN h
 |_::_,[],_,_,_,_,_,h=>by exact cNN h
 |k::ks,x::ds,[],j,d,e,_,_=>by cases e
 |k::ks,x::ds,y::ys,j,d,e,⟨z,zs,e1,r1,r2⟩,h=>by
  cases e1
  have e2:=List.cons.inj e
  unfold lkD at h
  by_cases q:k=j
  ·rw[if_pos q]at h;cases h
   subst q
   exact⟨y.2,zlw e2.1,r1⟩
  ·rw[if_neg q]at h
   obtain⟨v,h1,h2⟩:=zkx inj e2.2 r2 h
   refine⟨v,?_,h2⟩
   rw[zi8 fun z=>q (inj _ _ (e2.1.symm.trans z)),h1]
theorem zhw (inj:∀a b,em a=em b->a=b):∀{ks:List J} {ds:List D} {ys:List (κ×V)} {j:J},ys.map (·.1)=ks.map em->RepL K G (ys.map (·.2)) ds->lkD ks ds j=none->valV ys (em j)=none
 |[],_,[],_,_,_,_=>rfl
 |[],_,_::_,_,e,_,_=>by cases e
 |_::_,_,[],_,e,_,_=>by cases e
 |k::ks,[],y::ys,_,_,r,_=>by cases r
 |k::ks,x::ds,y::ys,j,e,⟨z,zs,e1,r1,r2⟩,h=>by
  cases e1
  have e2:=List.cons.inj e
  unfold lkD at h
  by_cases q:k=j
  ·rw[if_pos q]at h;cases h
  ·rw[if_neg q]at h
   rw[zi8 fun z=>q (inj _ _ (e2.1.symm.trans z)),zhw inj e2.2 r2 h]
theorem zjA (inj:∀a b,em a=em b->a=b){ks:List J}{ds:List D}{ys:List (κ×V)}{j:J}(e:ys.map (·.1)=ks.map em)(r:RepL K G (ys.map (·.2)) ds):(valV ys (em j)).isSome=(lkD ks ds j).isSome:=by
 cases h:lkD ks ds j with
 |none=>rw[zhw inj e r h];rfl
 |some d=>obtain⟨v,h1,_⟩:=zkx inj e r h;rw[h1];rfl
theorem pt_rep (inj:∀a b,em a=em b->a=b){ks:List J}{ds:List D}{ys:List (κ×V)}{j:J}{v:V}{d:D}(e:ys.map (·.1)=ks.map em)(r:RepL K G (ys.map (·.2)) ds)(rv:RepD K G v d):
  (putK ys (em j) v).map (·.1)=(ptD ks ds j d).1.map em/\RepL K G ((putK ys (em j) v).map (·.2)) (ptD ks ds j d).2:=by
 have any:(ys.any fun kv=>decide (kv.1=em j))=ks.contains j:=by
  clear r
  induction ys generalizing ks with
  |nil=>cases ks with
   |nil=>rfl
   |cons _ _=>cases e
  |cons y ys ih=>cases ks with
   |nil=>cases e
   |cons k ks=>
    have e2:=List.cons.inj e
    rw[List.any_cons,ih e2.2,List.contains_cons]
    congr 1
    by_cases q:j=k
    ·subst q;simp[e2.1]
    ·rw[decide_eq_false (fun z=>q (inj _ _ (e2.1.symm.trans z)).symm)]
     simp[q]
 unfold putK ptD
 rw[any]
 by_cases q:ks.contains j=true
 ·rw[if_pos q,if_pos q]
  constructor
  ·rw[List.map_map,<-e]
   apply List.map_congr_left
   intro a _
   simp only[Function.comp]
   split<;>rfl
  ·clear any q
   rw[List.map_map]
   induction ys generalizing ks ds with
   |nil=>cases ks with
    |nil=>exact RepL.nil
    |cons _ _=>cases e
   |cons y ys ih=>cases ks with
    |nil=>cases e
    |cons k ks=>
     have e2:=List.cons.inj e
     cases ds with
     |nil=>cases r
     |cons x ds=>
      obtain⟨z,zs,e1,r1,r2⟩:=r
      cases e1
      refine RepL.cons ?_ (ih e2.2 r2)
      simp only[Function.comp]
      by_cases q:k=j
      ·rw[if_pos q,if_pos (by rw[<-q];exact e2.1)];exact rv
      ·rw[if_neg q,if_neg fun z=>q (inj _ _ (e2.1.symm.trans z))];exact r1
 ·rw[if_neg q,if_neg q]
  rw[List.map_append,List.map_append,List.map_append,e]
  exact⟨rfl,r.append (.cons rv .nil)⟩
end
theorem zhJ (a b:Int)(h:kI a=kI b):a=b:=by cases h;rfl
noncomputable def Sl.dic:Sl->Option (List Int×List D)
 | .tre (.dic ks ds)=>some (ks,ds)
 | .val (.dic ks ds)=>some (ks,ds)
 |_=>none
noncomputable def tDI (j:Nat)(neg:Bool)(mk:ME):MT:=fun ρ=>(mk ρ).bind fun p=>match p.1 with
 | .int k=>(p.2[j]?.bind Sl.dic).map fun q=>(((lkD q.1 q.2 k).isSome !=neg),p.2)
 |_=>none
noncomputable def fzD (j:Nat)(ρ:R):R:=match ρ[j]? with
 |some (.tre (.dic ks ds))=>ρ.set j (.val (.dic ks ds))
 |_=>ρ
noncomputable def eCallMO (F:List D->List D->Option (Sl×List D))(mo:MO)(ma:MA):ME:=fun ρ=>(mo ρ).bind fun p=>(ma p.2).bind fun q=>(F p.1 q.1).bind fun r=>match r.1 with
 | .val d=>some (d,q.2)
 | .own ds=>some (.lst ds,q.2)
 |_=>none
noncomputable def Ch.sl:Ch->Sl
 | .d x=> .val x
 | .l ds=> .own ds
 | .t xss=> .tre (.lst (xss.map .l))
noncomputable def putCs:List Nat->List Ch->R->R
 |i::is,c::cs,ρ=>putCs is cs (ρ.set i c.sl)
 |_,_,ρ=>ρ
noncomputable def sUnT (j:Nat)(is:List Nat):MS:=fun ρ=>match ρ[j]? with
 |some (.tre (.lst cs))=>if cs.length=is.length then some (.next,putCs is cs (ρ.set j .emp))else none
 |_=>none
end M
namespace M
open L2 PySem PySem.Spec
open PyProof.Rows hiding St
open Classical in
noncomputable def fMT (N:Nat)(m:MS):List D->T->List D->Option (Sl×List D):=fun cs t ds=>(m (.par cs:: .tre t::(ds.map .val++List.replicate (N-(ds.length+2)) .emp))).bind fun p=>match p.1,(p.2[0]?:Option Sl)with
 |Fl.ret r,some (Sl.par out)=>some (r,out)
 |Fl.next,some (Sl.par out)=>some (.val .non,out)
 |_,_=>none
noncomputable abbrev MP':=R->Option (List Ch×R)
end M
namespace M
open L2 PySem PySem.Spec
open PyProof.Rows hiding St
noncomputable def Ch.D:Ch->M.D
 | .d x=>x
 | .l ds=> .lst ds
 | .t xss=> .lst (xss.map .lst)
section
variable {K:W.Frag} {B:Bs} {G G' H H':Hp} {σ:St} {ρ:R}
theorem zlY {Gz:Hp}(fg:Fz G Gz):∀{xs:List V} {dss:List (List D)} {A:List Addr},RepTb K G H xs dss A->(∀a∈A,Gz a=H a)->RepL K Gz xs (dss.map .lst)
 |[],[],_,_,_=>rfl
 |x::xs,ds::dss,_,⟨r,ys,A2,e1,e2,e3,e4,e5⟩,h=>⟨x,xs,rfl,⟨r,ys,e1,by rw[h r (by rw[e5];simp)];exact e2,e3.mono fg⟩,zlY fg e4 fun a m=>h a (by rw[e5];simp[m])⟩
 |[],_::_,_,h,_=>h.elim
 |_::_,[],_,h,_=>h.elim
theorem nw_emp (I:SI K B G H σ ρ){i:Nat}{s:Sl}{a:Addr}(e:ρ[i]? =some s)(w:OwS K G H σ[i]? a s):Nw K G H σ (ρ.set i .emp) a:=fun j t ej w'=>by
 by_cases z:j=i
 ·subst z
  rw[List.getElem?_set,if_pos rfl]at ej
  split at ej
  ·cases ej;exact w'
  ·exact cNN ej
 ·rw[List.getElem?_set_ne (Ne.symm z)]at ej
  exact I.dis j i t s a z ej e w' w
open Classical in
noncomputable def frA (G H:Hp)(A:List Addr):Hp:=fun b=>if b∈A then H b else G b
theorem zgx {G H:Hp}{A:List Addr}{b:Addr}(h:b∈A):frA G H A b=H b:=by unfold frA;rw[if_pos h]
theorem zdg {G H:Hp}{A:List Addr}{b:Addr}(h:b∉A):frA G H A b=G b:=by unfold frA;rw[if_neg h]
theorem znt {G H:Hp}{A:List Addr}(hA:∀a∈A,G a=none):Fz G (frA G H A):=fun b o e=>by
 rw[zdg fun m=>by rw[hA b m]at e;cases e];exact e
theorem SI.frzA (I:SI K B G H σ ρ){A:List Addr}(hA:∀a∈A,G a=none/\B.H a=none/\Nw K G H σ ρ a):SI K B (frA G H A) H σ ρ:=
 I.move (fun a u q=>by
  by_cases m:a∈A
  ·rw[zgx m]at q;exact q
  ·rw[zdg m]at q;exact I.fz a u q) (znt fun a m=>(hA a m).1) (fun b u q=>by
  by_cases m:b∈A
  ·exact .inr (hA b m).2.1
  ·rw[zdg m]at q;exact I.new b u q) I.keep I.there (fun i s a e w g _=>⟨by rw[zdg fun m=>(hA a m).2.2 i s e w];exact g,rfl⟩)
end
noncomputable def sTA (i j:Nat):MS:=fun ρ=>match ρ[i]?,ρ[j]? with
 |some (.tre (.lst cs)),some (.own ds)=>if cs.length<16777216 then some (.next,(ρ.set j .emp).set i (.tre (.lst (cs++[.l ds]))))else none
 |_,_=>none
noncomputable abbrev MQ:=R->Option D
noncomputable def fzT (j:Nat)(ρ:R):R:=match ρ[j]? with
 |some (.tre (.lst cs))=>ρ.set j (.val (.lst (cs.map Ch.D)))
 |_=>ρ
section
variable {X:Cx} {x y:Str} {pos p' q' tpos:Pos}
variable {e:Expr} {es:List Expr} {ma:MA} {k k' n:Nat} {F:List D->Option Sl}
variable {a b:Expr} {mi mk:MQ}
noncomputable def sPar (i j:Nat)(ma:MA):MS:=fun ρ=>(ma ρ).bind fun p=>match p.1 with
 |[c,d]=>some (.next,(p.2.set i (.val c)).set j (.val d))
 |_=>none
end
end M
namespace M
local macro_rules | `(tactic| ac_rfl) => `(tactic| first | exact M.nA (by decide) | exact M.nB (by decide) | exact M.nC (by decide) | exact M.nL (by assumption) | exact Nat.ne_of_lt (by assumption) | lia)
open L2 PySem PySem.Spec
open PyProof.Rows hiding St
open Sem (wp)
variable {a b u:Value} {Q E:Value->Shared->Prop} {i:Nat} {prog:Program} {w:World} {A:Around} {s:Shared} {tg:Expr} {K:W.Frag} {X:Cx} {p pos:Pos}
noncomputable abbrev zcX (h:Heap)(z TI TO:Addr)(f0:Value)(b:Bool):Prop:=h.get? z=some {cls:= .type "zip",data:= .fields #[f0,.bool b,.bool false,.ref TI,.ref TO]}
noncomputable def ZipAt (h:Heap)(z TI TO:Addr):Prop:=∃f0 b,zcX h z TI TO f0 b/\(f0= .none\/∃T:Nat,f0=rawInt T)
section
variable {prog:Program} {w:World} {A:Around} {E:Value->Shared->Prop} {s:Shared}
theorem zoW {a:Addr}{Q:Option Obj->Shared->Prop}(h:Q (s.heap.get? a) s):wpAny (model prog w) A (loadIfAlive a) Q E s:=fun Γ p hΓ=>by
 show Sem.wp _ _ (Sem.loadIfAlive a Sem.pure) _ _ p s
 rw[Sem.wp_loadIfAlive]
 exact(wpAny_pure (M:=model prog w) (A:=A) (E:=E) h) Γ p hΓ
theorem zoQ {z TI TO:Addr}{f0:Value}{b:Bool}(hz:zcX s.heap z TI TO f0 b)(hf:f0= .none\/∃T:Nat,f0=rawInt T){Q:Bool->Shared->Prop}(h1:Q true s)
  (h2:∀h',zcX h' z TI TO f0 true->Heap.SameBut z s.heap h'->Q false {s with heap:=h'}):wpAny (model prog w) A (Builtin.SmallTypes.ownedTupleIsFree (.ref z)) Q E s:=by
 unfold Builtin.SmallTypes.ownedTupleIsFree
 refine wpAny_bind (wpAny_field hz rfl (x:=f0) rfl ?_)
 rcases hf with rfl|⟨T,rfl⟩
 ·exact wpAny_pure h1
 ·refine(?_:wpAny _ _ (loadIfAlive _>>=_) _ _ _)
  refine wpAny_bind (zoW ?_)
  cases e:s.heap.get? (T:Int).toNat with
  |none=>exact wpAny_pure h1
  |some o=>
   refine(?_:wpAny _ _ (field (.ref z) 1>>=_) _ _ _)
   refine wpAny_bind (wpAny_field hz rfl (x:= .bool b) rfl ?_)
   cases b
   ·refine(?_:wpAny _ _ (setField (.ref z) 1 (.bool true)>>=_) _ _ _)
    exact wpAny_bind (wpAny_setField_rec hz (by simp) fun g1 z1 s1=>wpAny_pure (h2 g1 z1 s1))
   ·exact wpAny_pure (h2 s.heap hz ⟨rfl,fun _ _=>rfl⟩)
variable {N a1 a2:Nat} {n1 n2:Nat} {P1 P2:Nat->Value->Prop} {S1 S2:Nat->Heap->Prop}
theorem zmD (D1:Draws prog w A N [N,a1] n1 P1 S1)(D2:Draws prog w A (N+1) [N+1,a2] n2 P2 S2)(l1:a1<N)(l2:a2<N)
  (hz':ZipAt s.heap (N+4) (N+2) (N+3)) (hTI:IsPair s.heap (N+2) (.ref N) (.ref (N+1))) (hTO:IsPair s.heap (N+3) a b) (h1:S1 i s.heap) (h2:S2 i s.heap) (i1:i<n1) (i2:i<n2)
  (k : ∀ x y h' tk, P1 i x -> P2 i y -> ZipAt h' (N + 4) (N + 2) (N + 3) -> (∃ a b, IsPair h' (N + 3) a b) -> S1 (i + 1) h' -> S2 (i + 1) h' -> IsPair h' s.heap.objs.size x y ->
   (∀c o,c≠N->c≠N+1->c≠N+3->c≠N+4->s.heap.get? c=some o->h'.get? c=some o)->Q (.ref s.heap.objs.size) {s with heap:=h',toks:=tk}):
  wpAny (model prog w) A (Builtin.«zip.__next__» ⟨[.ref (N+4)],[]⟩) (fun fin s'=>∃v,fin= .done (.ret v)/\Q v s') E s:=by
 obtain⟨f0,bb,hz,hf⟩:=hz'
 refine(?_:wpAny _ _ (field (.ref (N+4)) 2>>=_) _ _ _)
 refine wpAny_bind (wpAny_field hz rfl (x:= .bool false) rfl (?_:wpAny _ _ (field (.ref (N+4)) 3>>=_) _ _ _))
 refine wpAny_bind (wpAny_field hz rfl (x:= .ref (N+2)) rfl (wpAny_bind (wpAny_seqItems hTI rfl (?_:wpAny _ _ (Builtin.SmallTypes.ownedTupleIsFree (.ref (N+4))>>=_) _ _ _))))
 refine wpAny_bind (zoQ hz hf ?_ fun g0 z0 s0=>?_)
 ·simp only[if_true]
  refine wpAny_bind (wpAny_rule (wpAny_bind (wpAny_field hz rfl (x:= .ref (N+3)) rfl (wpAny_bind (wpAny_setField_rec hz (by simp) fun g1 z1 s1=>wpAny_bind ?_)))))
  replace z1:zcX g1 (N+4) (N+2) (N+3) .ellipsis bb:=z1
  simp only[List.zipIdx_cons,List.zipIdx_nil,List.forIn_cons,List.forIn_nil]
  refine wpAny_bind (wpAny_bind (wpAny_onRaise (?_:wpAny _ _ (Builtin.SmallTypes.nextOf (.ref N)>>=_) _ _ _)))
  have e1:S1 i g1:=D1.frame _ _ _ h1 fun b hb o e=>(s1.2 b (nin2 hb (by ac_rfl) (by ac_rfl))).trans e
  refine wpAny_bind (D1.item i _ _ _ i1 e1 fun x g2 t2 p1 f2 s2=>wpAny_pure ?_)
  have q2:IsPair g2 (N+3) a b:=(s2.2 _ (ne_ (by ac_rfl))).trans ((s1.2 _ (ne_ (by ac_rfl))).trans hTO)
  refine wpAny_bind (wpAny_seqItems q2 rfl (wpAny_bind (wpAny_updateSeq_pair q2 fun g3 q3 s3=>wpAny_bind (wpAny_letGo (wpAny_pure ?_)))))
  replace q3:IsPair g3 (N+3) x b:=q3
  refine wpAny_bind (wpAny_bind (wpAny_onRaise (?_:wpAny _ _ (Builtin.SmallTypes.nextOf (.ref (N+1))>>=_) _ _ _)))
  have e3:S2 i g3:=D2.frame _ _ _ h2 fun b hb o e=>(s3.2 b (nin2 hb (by ac_rfl) (by ac_rfl))).trans ((s2.2 b (nin2 hb (by ac_rfl) (by ac_rfl))).trans ((s1.2 b (nin2 hb (by ac_rfl) (by ac_rfl))).trans e))
  refine wpAny_bind (D2.item i _ _ _ i2 e3 fun y g4 t4 p2 f4 s4=>wpAny_pure ?_)
  have q4:IsPair g4 (N+3) x b:=(s4.2 _ (ne_ (by ac_rfl))).trans q3
  refine wpAny_bind (wpAny_seqItems q4 rfl (wpAny_bind (wpAny_updateSeq_pair q4 fun g5 q5 s5=>wpAny_bind (wpAny_letGo (wpAny_pure (wpAny_pure ?_))))))
  replace q5:IsPair g5 (N+3) x y:=q5
  have sz:g5.objs.size=s.heap.objs.size:=by rw[s5.1,s4.1,s3.1,s2.1,s1.1]
  have z5:zcX g5 (N+4) (N+2) (N+3) .ellipsis bb:=(s5.2 _ (ne_ (by ac_rfl))).trans ((s4.2 _ (ne_ (by ac_rfl))).trans ((s3.2 _ (ne_ (by ac_rfl))).trans ((s2.2 _ (ne_ (by ac_rfl))).trans z1)))
  have zl:(N+4:Nat)<g5.objs.size:=Heap.lt_size z5
  have k5:∀c o,c≠N->c≠N+1->c≠N+3->c≠N+4->s.heap.get? c=some o->g5.get? c=some o:=fun c o c1 c2 c3 c4 e=>(s5.2 c c3).trans ((s4.2 c c2).trans ((s3.2 c c3).trans ((s2.2 c c1).trans ((s1.2 c c4).trans e))))
  have f5:S1 (i+1) g5:=D1.frame _ _ _ f2 fun b hb o e=>(s5.2 b (nin2 hb (by ac_rfl) (by ac_rfl))).trans ((s4.2 b (nin2 hb (by ac_rfl) (by ac_rfl))).trans ((s3.2 b (nin2 hb (by ac_rfl) (by ac_rfl))).trans e))
  have f5':S2 (i+1) g5:=D2.frame _ _ _ f4 fun b hb o e=>(s5.2 b (nin2 hb (by ac_rfl) (by ac_rfl))).trans e
  refine wpAny_bind (wpAny_seqItems q5 rfl (wpAny_bind (wpAny_newTuple (?_:wpAny _ _ (Builtin.SmallTypes.ownedTupleHandOut (.ref (N+4)) (.ref g5.objs.size)>>=_) _ _ _))))
  refine wpAny_bind ?_
  unfold Builtin.SmallTypes.ownedTupleHandOut
  refine wpAny_bind (wpAny_setField_rec (show zcX (g5.push {cls:= .type "tuple",data:= .seq #[x,y]}) (N+4) (N+2) (N+3) .ellipsis bb from Heap.get?_push_of_some _ z5) (by simp) fun g7 z7 s7=>?_)
  replace z7:zcX g7 (N+4) (N+2) (N+3) (rawInt g5.objs.size) bb:=z7
  refine wpAny_setField_rec z7 (by simp) fun g8 z8 s8=>wpAny_pure ⟨_,rfl,?_⟩
  replace z8:zcX g8 (N+4) (N+2) (N+3) (rawInt g5.objs.size) false:=z8
  have up:∀c o,c≠N+4->g5.get? c=some o->g8.get? c=some o:=fun c o c1 e=>(s8.2 c c1).trans ((s7.2 c c1).trans (Heap.get?_push_of_some _ e))
  have T8:IsPair g8 g5.objs.size x y:=(s8.2 _ (ne_ (by ac_rfl))).trans ((s7.2 _ (ne_ (by ac_rfl))).trans (Heap.get?_push_size _ rfl))
  rw[sz]at z8 T8
  refine(?_:Q (.ref g5.objs.size) _)
  rw[sz]
  exact k x y g8 _ p1 p2 ⟨_,_,z8,.inr ⟨_,rfl⟩⟩ ⟨_,_,up _ _ (ne_ (by ac_rfl)) q5⟩ (D1.frame _ _ _ f5 fun b hb o e=>up b o (nin2 hb (by ac_rfl) (by ac_rfl)) e) (D2.frame _ _ _ f5' fun b hb o e=>up b o (nin2 hb (by ac_rfl) (by ac_rfl)) e) T8 fun c o c1 c2 c3 c4 e=>up c o c4 (k5 c o c1 c2 c3 c4 e)
 ·simp only[Bool.false_eq_true,if_false]
  simp only[List.forIn_toArray,List.forIn_cons,List.forIn_nil]
  have e0:S1 i g0:=D1.frame _ _ _ h1 fun b hb o e=>(s0.2 b (nin2 hb (by ac_rfl) (by ac_rfl))).trans e
  refine wpAny_bind (wpAny_bind (wpAny_bind (wpAny_holding (?_:wpAny _ _ (Builtin.SmallTypes.nextOf (.ref N)>>=_) _ _ _))))
  refine wpAny_bind (D1.item i _ _ _ i1 e0 fun x g2 t2 p1 f2 s2=>wpAny_pure (wpAny_pure ?_))
  refine wpAny_bind (wpAny_bind (wpAny_holding (?_:wpAny _ _ (Builtin.SmallTypes.nextOf (.ref (N+1))>>=_) _ _ _)))
  have e3:S2 i g2:=D2.frame _ _ _ h2 fun b hb o e=>(s2.2 b (nin2 hb (by ac_rfl) (by ac_rfl))).trans ((s0.2 b (nin2 hb (by ac_rfl) (by ac_rfl))).trans e)
  refine wpAny_bind (D2.item i _ _ _ i2 e3 fun y g4 t4 p2 f4 s4=>wpAny_pure (wpAny_pure (wpAny_pure ?_)))
  have sz:g4.objs.size=s.heap.objs.size:=by rw[s4.1,s2.1,s0.1]
  have z4:zcX g4 (N+4) (N+2) (N+3) f0 true:=(s4.2 _ (ne_ (by ac_rfl))).trans ((s2.2 _ (ne_ (by ac_rfl))).trans z0)
  have f4':S1 (i+1) g4:=D1.frame _ _ _ f2 fun b hb o e=>(s4.2 b (nin2 hb (by ac_rfl) (by ac_rfl))).trans e
  refine(?_:wpAny _ _ (newTuple [x,y]>>=_) _ _ _)
  refine wpAny_bind (wpAny_newTuple (wpAny_pure ⟨_,rfl,?_⟩))
  have k5:∀c o,c≠N->c≠N+1->c≠N+3->c≠N+4->s.heap.get? c=some o->g4.get? c=some o:=fun c o c1 c2 c3 c4 e=>(s4.2 c c2).trans ((s2.2 c c1).trans ((s0.2 c c4).trans e))
  have q4:IsPair g4 (N+3) a b:=(s4.2 _ (ne_ (by ac_rfl))).trans ((s2.2 _ (ne_ (by ac_rfl))).trans ((s0.2 _ (ne_ (by ac_rfl))).trans hTO))
  have T8:IsPair (g4.push {cls:= .type "tuple",data:= .seq #[x,y]}) g4.objs.size x y:=Heap.get?_push_size _ rfl
  rw[sz]at T8
  refine(?_:Q (.ref g4.objs.size) _)
  rw[sz]
  exact k x y _ _ p1 p2 ⟨_,_,Heap.get?_push_of_some _ z4,hf⟩ ⟨_,_,Heap.get?_push_of_some _ q4⟩ (D1.frame _ _ _ f4' fun b hb o e=>Heap.get?_push_of_some _ e) (D2.frame _ _ _ f4 fun b hb o e=>Heap.get?_push_of_some _ e) T8 fun c o c1 c2 c3 c4 e=>Heap.get?_push_of_some _ (k5 c o c1 c2 c3 c4 e)
theorem zog {Q:Fin->Shared->Prop}(D1:Draws prog w A N [N,a1] n1 P1 S1)(D2:Draws prog w A (N+1) [N+1,a2] n2 P2 S2)(l1:a1<N)(l2:a2<N)
  (hz':ZipAt s.heap (N+4) (N+2) (N+3)) (hTI:IsPair s.heap (N+2) (.ref N) (.ref (N+1))) (hTO:IsPair s.heap (N+3) a b) (h1:S1 i s.heap) (h2:S2 i s.heap) (hi:i=n1\/(i<n1/\i=n2))
  (k:∀h' e tk,(∀c o,c≠N->c≠N+1->c≠N+3->c≠N+4->s.heap.get? c=some o->h'.get? c=some o)->(∃o,h'.get? e=some o/\o.cls= .type "StopIteration")->E (.ref e) {s with heap:=h',toks:=tk}):
  wpAny (model prog w) A (Builtin.«zip.__next__» ⟨[.ref (N+4)],[]⟩) Q E s:=by
 obtain⟨f0,bb,hz,hf⟩:=hz'
 refine(?_:wpAny _ _ (field (.ref (N+4)) 2>>=_) _ _ _)
 refine wpAny_bind (wpAny_field hz rfl (x:= .bool false) rfl (?_:wpAny _ _ (field (.ref (N+4)) 3>>=_) _ _ _))
 refine wpAny_bind (wpAny_field hz rfl (x:= .ref (N+2)) rfl (wpAny_bind (wpAny_seqItems hTI rfl (?_:wpAny _ _ (Builtin.SmallTypes.ownedTupleIsFree (.ref (N+4))>>=_) _ _ _))))
 refine wpAny_bind (zoQ hz hf ?_ fun g0 z0 s0=>?_)
 ·simp only[if_true]
  refine wpAny_bind (wpAny_rule (wpAny_bind (wpAny_field hz rfl (x:= .ref (N+3)) rfl (wpAny_bind (wpAny_setField_rec hz (by simp) fun g1 z1 s1=>wpAny_bind ?_)))))
  replace z1:zcX g1 (N+4) (N+2) (N+3) .ellipsis bb:=z1
  simp only[List.zipIdx_cons,List.zipIdx_nil,List.forIn_cons,List.forIn_nil]
  refine wpAny_bind (wpAny_bind (wpAny_onRaise (?_:wpAny _ _ (Builtin.SmallTypes.nextOf (.ref N)>>=_) _ _ _)))
  have e1:S1 i g1:=D1.frame _ _ _ h1 fun b hb o e=>(s1.2 b (nin2 hb (by ac_rfl) (by ac_rfl))).trans e
  rcases hi with rfl|⟨i1,rfl⟩
  ·refine wpAny_bind (D1.done _ _ _ e1 fun g2 e x2 he=>?_)
   obtain⟨oe,hoe,hce⟩:=he
   have z2:zcX g2 (N+4) (N+2) (N+3) .ellipsis bb:=x2 _ _ (ne_ (by ac_rfl)) z1
   have hez:e≠N+4:=fun x=>by subst x;rw[z2]at hoe;cases hoe;simp at hce
   exact wpAny_setField_rec z2 (by simp) fun g3 _ s3=>k g3 e _ (fun c o c1 c2 c3 c4 x=>(s3.2 c c4).trans (x2 c o c1 ((s1.2 c c4).trans x))) ⟨oe,(s3.2 _ hez).trans hoe,hce⟩
  ·refine wpAny_bind (D1.item i _ _ _ i1 e1 fun x g2 t2 p1 f2 s2=>wpAny_pure ?_)
   have q2:IsPair g2 (N+3) a b:=(s2.2 _ (ne_ (by ac_rfl))).trans ((s1.2 _ (ne_ (by ac_rfl))).trans hTO)
   refine wpAny_bind (wpAny_seqItems q2 rfl (wpAny_bind (wpAny_updateSeq_pair q2 fun g3 q3 s3=>wpAny_bind (wpAny_letGo (wpAny_pure ?_)))))
   replace q3:IsPair g3 (N+3) x b:=q3
   refine wpAny_bind (wpAny_bind (wpAny_onRaise (?_:wpAny _ _ (Builtin.SmallTypes.nextOf (.ref (N+1))>>=_) _ _ _)))
   have e3:S2 i g3:=D2.frame _ _ _ h2 fun b hb o e=>(s3.2 b (nin2 hb (by ac_rfl) (by ac_rfl))).trans ((s2.2 b (nin2 hb (by ac_rfl) (by ac_rfl))).trans ((s1.2 b (nin2 hb (by ac_rfl) (by ac_rfl))).trans e))
   refine wpAny_bind (D2.done _ _ _ e3 fun g4 e x4 he=>?_)
   obtain⟨oe,hoe,hce⟩:=he
   have z3:zcX g3 (N+4) (N+2) (N+3) .ellipsis bb:=(s3.2 _ (ne_ (by ac_rfl))).trans ((s2.2 _ (ne_ (by ac_rfl))).trans z1)
   have z4:zcX g4 (N+4) (N+2) (N+3) .ellipsis bb:=x4 _ _ (ne_ (by ac_rfl)) z3
   have hez:e≠N+4:=fun x=>by subst x;rw[z4]at hoe;cases hoe;simp at hce
   exact wpAny_setField_rec z4 (by simp) fun g5 _ s5=>k g5 e _ (fun c o c1 c2 c3 c4 x=>(s5.2 c c4).trans (x4 c o c2 ((s3.2 c c3).trans ((s2.2 c c1).trans ((s1.2 c c4).trans x))))) ⟨oe,(s5.2 _ hez).trans hoe,hce⟩
 ·simp only[Bool.false_eq_true,if_false,List.forIn_toArray,List.forIn_cons,List.forIn_nil]
  have e0:S1 i g0:=D1.frame _ _ _ h1 fun b hb o e=>(s0.2 b (nin2 hb (by ac_rfl) (by ac_rfl))).trans e
  refine wpAny_bind (wpAny_bind (wpAny_bind (wpAny_holding (?_:wpAny _ _ (Builtin.SmallTypes.nextOf (.ref N)>>=_) _ _ _))))
  rcases hi with rfl|⟨i1,rfl⟩
  ·refine wpAny_bind (D1.done _ _ _ e0 fun g2 e x2 he=>?_)
   exact k g2 e _ (fun c o c1 c2 c3 c4 x=>x2 c o c1 ((s0.2 c c4).trans x)) he
  ·refine wpAny_bind (D1.item i _ _ _ i1 e0 fun x g2 t2 p1 f2 s2=>wpAny_pure (wpAny_pure ?_))
   refine wpAny_bind (wpAny_bind (wpAny_holding (?_:wpAny _ _ (Builtin.SmallTypes.nextOf (.ref (N+1))>>=_) _ _ _)))
   have e3:S2 i g2:=D2.frame _ _ _ h2 fun b hb o e=>(s2.2 b (nin2 hb (by ac_rfl) (by ac_rfl))).trans ((s0.2 b (nin2 hb (by ac_rfl) (by ac_rfl))).trans e)
   refine wpAny_bind (D2.done _ _ _ e3 fun g4 e x4 he=>?_)
   exact k g4 e _ (fun c o c1 c2 c3 c4 x=>x4 c o c2 ((s2.2 c c1).trans ((s0.2 c c4).trans x))) he
end
theorem ZipAt.at {h h':Heap}{z TI TO:Addr}(x:ZipAt h z TI TO)(e:∀o,h.get? z=some o->h'.get? z=some o):ZipAt h' z TI TO:=by
 obtain⟨f0,b,q,r⟩:=x
 exact⟨f0,b,e _ q,r⟩
theorem zkC {z TI TO:Addr}(hz:ZipAt s.heap z TI TO)(h:Q (.ref z) s):wpAny (model prog w) A (pyIter (.ref z)) Q E s:=by
 obtain⟨f0,b,q,r⟩:=hz
 have hT:s.TypeIs (.ref z) "zip":=⟨_,q,rfl⟩
 exact wpAny_pyIter_slot hT F.slot_zip_iter (wpAny_call_entry F.slot_zip_iter hT F.entry_zip_iter (wpAny_pure ⟨.ref z,rfl,"zip",.builtin "zip.__next__",hT,F.slot_zip_next.lookup,h⟩) (F.args_zip_iter_1 (.ref z)))
theorem letGoZ {z TI TO:Addr}{Q:Unit->Shared->Prop}(hz:ZipAt s.heap z TI TO)(h1:Q () s)
  (h2:∀h',ZipAt h' z TI TO->Heap.SameBut z s.heap h'->Q () {s with heap:=h'}):wpAny (model prog w) A (letOwnedTupleGo tg (.ref z) u) Q E s:=by
 obtain⟨f0,b,q,r⟩:=hz
 have core:∀a:Addr,wpAny (model prog w) A (do
   let o<-load z
   match o.cls,o.data with
    |Value.type n,Data.fields vs=>
     if(["enumerate","zip","dict_itemiterator","dict_reverseitemiterator","odict_iterator","itertools.zip_longest","itertools.pairwise"].contains n&&vs[0]? ==some (rawInt ↑a))=true then do
      rule "for.unpacks-the-owned-tuple"
      updateField z 0 Value.none
     else pure ()
    |x,x_1=>pure ()) Q E s:=fun a=>by
  refine wpAny_bind (wpAny_load q ?_)
  dsimp only
  split
  ·refine wpAny_bind (wpAny_rule ?_)
   refine(?_:wpAny _ _ (setField (.ref z) 0 .none) _ _ _)
   exact wpAny_setField_rec q (by simp) fun g1 z1 s1=>h2 g1 ⟨_,_,z1,.inl rfl⟩ s1
  ·exact wpAny_pure h1
 unfold letOwnedTupleGo
 cases tg<;>first|exact wpAny_pure h1|(cases u<;>first|exact wpAny_pure h1|exact core _)
theorem zmI {P:Program}{w:World}(t1:Bool)(a1:Nat)(t2:Bool)(a2:Nat)(n N:Nat)(l1:a1<N)(l2:a2<N):
  Turn P w K tg (Itz2 K t1 a1 t2 a2 n) ([N,N+1,N+2,N+3,N+4]:List Nat) (N+4:Nat)
   (fun i h=>i<=n/\ZipAt h (N+4:Nat) (N+2:Nat) (N+3:Nat)/\IsPair h (N+2:Nat) (.ref N) (.ref (N+1:Nat))/\(∃a b,IsPair h (N+3:Nat) a b)/\SrcIt t1 h N a1 i/\SrcIt t2 h (N+1:Nat) a2 i) where
 mem:=by simp
 obj:=fun i h st b hb=>by
  obtain⟨-,h4,h2,⟨a,c,h3⟩,h0,h1⟩:=st
  simp only[List.mem_cons,List.not_mem_nil,or_false]at hb
  rcases hb with rfl|rfl|rfl|rfl|rfl
  ·exact h0.obj
  ·exact h1.obj
  ·exact⟨_,h2,fun v z=>by cases z⟩
  ·exact⟨_,h3,fun v z=>by cases z⟩
  ·obtain⟨f0,bb,z4,-⟩:=h4
   exact⟨_,z4,fun v z=>by cases z⟩
 keep:=fun i h h' st k=>by
  obtain⟨hi,h4,h2,⟨a,c,h3⟩,h0,h1⟩:=st
  exact⟨hi,h4.at fun o e=>k _ (by simp) o e,k _ (by simp) _ h2,⟨a,c,k _ (by simp) _ h3⟩,h0.at fun o e=>k _ (by simp) o e,h1.at fun o e=>k _ (by simp) o e⟩
 item:=by
  intro X hP hw hK hc i pins s σ H E I hf st hg
  subst hP hw hK
  obtain⟨hi,h4,h2,⟨a,c,h3⟩,h0,h1⟩:=st
  obtain⟨hn,xs,ys,q1,q2,en⟩:=hg
  obtain⟨us,ru,hu,zu⟩:=q1.heap I
  obtain⟨ws,rw',hw',zw⟩:=q2.heap I
  have lu:=ru.length
  have lw:=rw'.length
  have D1:=zcS (prog:=X.prog) (w:=X.w) (A:=X.A.in1) (t:=t1) (I.ok.hd hc) N a1 (ne_ (by ac_rfl)) us.toArray
  have D2:=zcS (prog:=X.prog) (w:=X.w) (A:=X.A.in1) (t:=t2) (I.ok.hd hc) (N+1) a2 (ne_ (by ac_rfl)) ws.toArray
  have z4:=h4
  obtain⟨f0,bb,z4,-⟩:=z4
  have hT:s.TypeIs (.ref (N+4:Nat)) "zip":=⟨_,z4,rfl⟩
  unfold pyNext
  refine wpAny_bind (wpAny_attempt (wpAny_callSpecial?_slot (name:=Str.ofString "__next__") hT F.slot_zip_next (wpAny_call_entry F.slot_zip_next hT F.entry_zip_next
   (zmD D1 D2 l1 l2 h4 h2 h3 ⟨h0,hu⟩ ⟨h1,hw'⟩ (by simp;lia) (by simp;lia) fun x y h' tk p1 p2 g4 g3 g0 g1 gT kk=>wpAny_pure ?_) (F.args_zip_next_1 _))))
  obtain⟨x1,hx1⟩:∃x1,xs[i]? =some x1:=⟨xs[i]'(by lia),List.getElem?_eq_getElem _⟩
  obtain⟨x2,hx2⟩:∃x2,ys[i]? =some x2:=⟨ys[i]'(by lia),List.getElem?_eq_getElem _⟩
  obtain⟨u1,hu1,r1⟩:=ru.get hx1
  obtain⟨u2,hu2,r2⟩:=rw'.get hx2
  have e1:u1=x:=by
   have:us[i]? =some x:=by simpa using p1
   rw[hu1]at this;cases this;rfl
  have e2:u2=y:=by
   have:ws[i]? =some y:=by simpa using p2
   rw[hu2]at this;cases this;rfl
  subst e1 e2
  refine⟨_,rfl,?_⟩
  have fin:∀h'',ZipAt h'' (N+4:Nat) (N+2:Nat) (N+3:Nat)->Heap.SameBut (N+4:Nat) h' h''->∃x H',L2.Inv X pins σ H' {s with heap:=h'',toks:=tk}/\RelV x (.ref s.heap.objs.size)/\(Itz2 X.K t1 a1 t2 a2 n).yld i H x H'/\(i+1<=n/\ZipAt h'' (N+4:Nat) (N+2:Nat) (N+3:Nat)/\IsPair h'' (N+2:Nat) (.ref N) (.ref (N+1:Nat))/\(∃a b,IsPair h'' (N+3:Nat) a b)/\SrcIt t1 h'' N a1 (i+1)/\SrcIt t2 h'' (N+1:Nat) a2 (i+1))/\∀b∈([N,N+1,N+2,N+3,N+4]:List Nat),H' b=none:=fun h'' z'' sb=>by
   have lz:N+4<s.heap.objs.size:=Heap.lt_size z4
   have kk':∀b o,b∉([N,N+1,N+2,N+3,N+4]:List Nat)->s.heap.get? b=some o->h''.get? b=some o:=fun b o hb e=>by
    obtain⟨c1,c2,c3,c4⟩:=nin4 hb
    exact(sb.2 b c4).trans (kk b o c1 c2 c3 c4 e)
   have I1:=zn3 (t':=tk) (vs:=[x1,x2]) (its:=[u1,u2]) I kk' hf (fun b hb=>by
    have:b=N\/b=N+1\/b=N+2\/b=N+3\/b=N+4:=by simpa using hb
    exact Nat.lt_of_le_of_lt (show(b:Nat)<=N+4 by rcases this with h|h|h|h|h<;>rw[h]<;>simp) lz) ((sb.2 _ (ne_ (by ac_rfl))).trans gT) (by simp;rw[sizeLine_eq];decide) (.cons r1 (.cons r2 .nil))
   refine⟨.ref s.heap.objs.size,_,I1,rfl,⟨_,x1,x2,I.hok.fresh (Nat.le_refl _),rfl,rfl,fun xs' ys' b1 b2=>?_⟩,⟨hn,z'',(sb.2 _ (ne_ (by ac_rfl))).trans (kk _ _ (ne_ (by ac_rfl)) (ne_ (by ac_rfl)) (ne_ (by ac_rfl)) (ne_ (by ac_rfl)) h2),(let⟨a',b',e'⟩:=g3;⟨a',b',(sb.2 _ (ne_ (by ac_rfl))).trans e'⟩),SrcIt.at g0.1 fun o e=>(sb.2 _ (ne_ (by ac_rfl))).trans e,SrcIt.at g1.1 fun o e=>(sb.2 _ (ne_ (by ac_rfl))).trans e⟩,fun b hb=>?_⟩
   ·rw[SrcSq.inj I b1 q1,SrcSq.inj I b2 q2]
    exact⟨hx1,hx2⟩
   ·have:b=N\/b=N+1\/b=N+2\/b=N+3\/b=N+4:=by simpa using hb
    rw[zal (Nat.ne_of_lt (Nat.lt_of_le_of_lt (show(b:Nat)<=N+4 by rcases this with h|h|h|h|h<;>rw[h]<;>simp) lz))]
    exact(hf b hb).1
  exact letGoZ (s:={s with heap:=h',toks:=tk}) g4 (fin h' g4 ⟨rfl,fun _ _=>rfl⟩) fun h'' z'' sb=>fin h'' z'' sb
 done:=by
  intro X hP hw hK hc i pins s σ H E I hf st hg
  subst hP hw hK
  obtain⟨hi,h4,h2,⟨a,c,h3⟩,h0,h1⟩:=st
  obtain⟨hn,xs,ys,q1,q2,en⟩:=hg
  obtain⟨us,ru,hu,zu⟩:=q1.heap I
  obtain⟨ws,rw',hw',zw⟩:=q2.heap I
  have lu:=ru.length
  have lw:=rw'.length
  have D1:=zcS (prog:=X.prog) (w:=X.w) (A:=X.A.in1) (t:=t1) (I.ok.hd hc) N a1 (ne_ (by ac_rfl)) us.toArray
  have D2:=zcS (prog:=X.prog) (w:=X.w) (A:=X.A.in1) (t:=t2) (I.ok.hd hc) (N+1) a2 (ne_ (by ac_rfl)) ws.toArray
  have z4:=h4
  obtain⟨f0,bb,z4,-⟩:=z4
  have hT:s.TypeIs (.ref (N+4:Nat)) "zip":=⟨_,z4,rfl⟩
  unfold pyNext
  refine wpAny_bind (wpAny_attempt (wpAny_callSpecial?_slot (name:=Str.ofString "__next__") hT F.slot_zip_next (wpAny_call_entry F.slot_zip_next hT F.entry_zip_next
   (zog D1 D2 l1 l2 h4 h2 h3 ⟨h0,hu⟩ ⟨h1,hw'⟩ (by simp;lia) fun h' e tk kk he=>?_) (F.args_zip_next_1 _))))
  obtain⟨o,ho,hce⟩:=he
  refine wpAny_bind (wpAny_isInstance (T:="StopIteration") (b:=true) ⟨o,ho,hce⟩ isSubtype_stop (wpAny_pure ⟨rfl,zkd I (fun b o hb e=>?_) hf⟩))
  obtain⟨c1,c2,c3,c4⟩:=nin4 hb
  exact kk b o c1 c2 c3 c4 e
 self:=fun _ _ _ _ _ st h=>zkC st.2.1 h
theorem pi_zip2N {a b:Expr}{ta:TA}(hg:Gl X "zip")(hm:X.mg "zip"=none)(ha:PA X [a,b] ta)(hs:autoParam (starEach [a,b] X.env=(false,eval a X.env)::starEach [b] X.env) zu3._auto_1)(hs2:autoParam ((backTo pos (starEach [b] X.env)).any (·.1)=false) zu3._auto_1):
  PI X tg (.Call (.Name "zip" p) [a,b] [] pos) (fun σ H R=>ta σ H fun vs H1=>∃t1 a1 xs t2 a2 ys,vs=[.ref a1,.ref a2]/\SrcSq t1 X.K H1 a1 xs/\SrcSq t2 X.K H1 a2 ys/\R (Itz2 X.K t1 a1 t2 a2 (min xs.length ys.length)) H1):=by
 intro pins s σ H R I h
 refine Call_ (ziu I hg hm boot_zip (PyProof.Rows.callWith_type1 (thn (ha pos pins s σ H _ I h) fun us s1 ⟨vs,H1,I1,r1,q1⟩=>?_) hs hs2))
 obtain⟨t1,a1,xs,t2,a2,ys,e,q1,q2,q⟩:=q1
 subst e
 cases r1 with
 |cons r rr=>
  cases rr with
  |cons r' rr=>
   cases rr
   cases r
   cases r'
   obtain⟨us,ru,hu,-⟩:=q1.heap I1
   obtain⟨ws,rw',hw',-⟩:=q2.heap I1
   refine znR hu hw' fun h' g4 g2 g3 g0 g1 kk=>wpAny_pyIter_zip g4 ⟨_,_,_,_,H1,rfl,I1.kept (t':=s1.toks) kk,zmI t1 a1 t2 a2 (min xs.length ys.length) s1.heap.objs.size hu.lt hw'.lt,⟨Nat.zero_le _,⟨_,_,g4,.inl rfl⟩,g2,⟨_,_,g3⟩,g0,g1⟩,fun b hb=>?_,q⟩
   have:b=s1.heap.objs.size\/b=s1.heap.objs.size+1\/b=s1.heap.objs.size+2\/b=s1.heap.objs.size+3\/b=s1.heap.objs.size+4:=by simpa using hb
   have le:s1.heap.objs.size<=b:=by rcases this with h|h|h|h|h<;>rw[h]<;>simp
   exact I1.fpOk le (I1.hok.fresh le)
theorem zdi {a b:Expr}{ma:MA}(hm:X.mg "zip"=none)(ha:SA X [a,b] ma)(hg:autoParam (Gl X "zip") zu3._auto_1)(hs:autoParam (starEach [a,b] X.env=(false,eval a X.env)::starEach [b] X.env) zu3._auto_1)(hs2:autoParam ((backTo pos (starEach [b] X.env)).any (·.1)=false) zu3._auto_1):
  SIt X tg (.Call (.Name "zip" p) [a,b] [] pos) (iZ2 ma):=by
 refine ha.el fun t pa sa=>?_
 refine⟨_,pi_zip2N hg hm pa hs hs2,fun B G H σ ρ ds ρ' Q I hm k=>?_⟩
 refine zaz hm fun es ρ1 e1 h2=>?_
 dsimp only at h2
 refine sa B G H σ ρ es ρ1 _ I e1 fun G1 H1 vs I1 f1 r1=>?_
 split at h2
 ·refine cBel h2 fun xs ex h2=>?_
  refine cBel h2 fun ys ey h2=>?_
  obtain⟨rfl,rfl⟩:=cSp h2
  obtain⟨x,y,rfl,rx,ry⟩:=r1.two
  obtain⟨t1,a1,us,rfl,s1,c1⟩:=zoS rx ex
  obtain⟨t2,a2,ws,rfl,s2,c2⟩:=zoS ry ey
  have n1:=c1.length
  have n2:=c2.length
  refine⟨t1,a1,us,t2,a2,ws,rfl,s1 _ I1.fz,s2 _ I1.fz,k _ G1 H1 I1 f1 ⟨fun H i f hi=>?_,fun H i x H' f y d e=>?_,fun H i f hi=>?_⟩⟩
  ·exact⟨by simp[zkA]at hi;lia,us,ws,s1 _ f,s2 _ f,rfl⟩
  ·obtain⟨p,x1,x2,hp,eh,ex',q⟩:=y
   obtain⟨q1,q2⟩:=q us ws (s1 _ f) (s2 _ f)
   simp only[zkA,List.getElem?_zipWith]at e
   split at e
   ·rename_i d1 d2 g1 g2
    cases e
    obtain⟨v1,b1,r1⟩:=c1.get g1
    obtain⟨v2,b2,r2⟩:=c2.get g2
    rw[q1]at b1;cases b1
    rw[q2]at b2;cases b2
    exact .inr ⟨p,_,_,hp,eh,ex',rfl,⟨_,_,rfl,r1,_,_,rfl,r2,rfl⟩⟩
   ·exact cNN e
  ·exact⟨by simp[zkA]at hi;lia,us,ws,s1 _ f,s2 _ f,rfl⟩
 ·exact cNN h2
end M
namespace M
open L2 PySem PySem.Spec
open PyProof.Rows hiding St
theorem ndk {l:List Str}(h:autoParam (decide l.Nodup=true) zu9._auto_1):l.Nodup:=of_decide_eq_true h
theorem us_0 {p:List Value->Prop}(h:p []):∀us:List Value,us.length=0->p us:=fun us e=>by
 cases us with
 |nil=>exact h
 |cons=>cases e
theorem us_s {p:List Value->Prop}{n:Nat}(h:∀(a:Value) (us:List Value),us.length=n->p (a::us)):∀us:List Value,us.length=n+1->p us:=fun us e=>by
 cases us with
 |nil=>cases e
 |cons a us=>exact h a us (Nat.succ.inj e)
section
variable {P:Program} {w:World} {K:W.Frag} {mg:Str->Option Value} {base hp:Heap} {x:Str} {st:Stmt} {f:Addr}
noncomputable def FnAt (K:W.Frag)(x:Str)(st:Stmt):Prop:=∃f fd,W.nsIn K mainGlobals x=some (some (.ref f))/\Fun K x x st f fd
theorem FnAt.mk {oc:Value}{od an:Option Addr}{osl:Array (Option Value)}{kV doc pm cdv ct:Value}(a:W.nsIn K mainGlobals x=some (some (.ref f)))(l:K.lookup f=some ⟨oc,od,.func (W.fnOf x x (zaZ st) (zaH st) (zan st) .none kV doc pm an cdv ct),osl⟩)
  (c:W.codeIn K cdv x=true) (k:W.keepIn K (.ref f)=true):FnAt K x st:=⟨f,_,a,znf l c k⟩
noncomputable abbrev BindsAt (x:Str)(st:Stmt)(ps:List Str):Prop:=∀(kV doc pm:Value) (an:Option Addr) (cdv ct:Value) (us:List Value),us.length=ps.length->bindArgs (W.fnOf x x (zaZ st) (zaH st) (zan st) .none kV doc pm an cdv ct) ⟨us,[]⟩=pure (ps.zip us)
theorem FnAt.law (h:FnAt K x st)(X:K.In hp)(G:hp.Ns mainGlobals mg)(hf:mg x=some (.ref f)):∃kV doc pm an cdv ct,Fun K x x st f (W.fnOf x x (zaZ st) (zaH st) (zan st) .none kV doc pm an cdv ct):=by
 obtain⟨f',fd,a,T⟩:=h
 have e:=hf.symm.trans (W.mg_of X G a)
 cases e
 obtain⟨oc,od,kV,doc,pm,an,cdv,ct,osl,rfl,lk,hcd⟩:=id T.ex
 exact⟨kV,doc,pm,an,cdv,ct,T⟩
variable {N:List Str} {k n:Nat} {m:MS}
noncomputable abbrev Bd (P:Program)(w:World)(K:W.Frag)(mg:Str->Option Value)(base:Heap)(x:Str)(st:Stmt)(N:List Str)(k:Nat)(m:MS):Prop:=∀(f:Addr) (cdv:Value) (A:Around) (outer:List Env) (s:Shared) (H:Hp) (E:XK),Room k (A.deeper (PyProof.Rows.envOfC x (zan st) s.heap.objs.size f cdv))->N.Nodup->SSs (cxOf CX0 P w K mg base N x (zan st) f cdv A outer s H E).nox (zaH st) m
structure DefOk (x:Str) (st:Stmt) (N:List Str) (n:Nat):Prop where
 sc:FnScope N (N.take n) (zan st)
 len:(N.take n).length=n
 le:n<=N.length
 bs:BindsAt x st (N.take n)
theorem lawP {fd:FuncData}(F:Fun K x x st f fd)(b:Bd P w K mg base x st N k m)(d:DefOk x st N n:=by exact⟨⟨rfl,rfl,rfl,by decide+kernel,rfl,by decide+kernel,by decide+kernel⟩,rfl,by decide,fun _ _ _ _ _ _=>by repeat (first | exact us_0 rfl | refine us_s fun _ => ?_)⟩):FnOk P w K mg base CX0 (k+1) f fd (N.take n) (spP K n (fP N.length m)):=zob F d.sc d.len d.le fun cdv A outer s H E hr=>b _ cdv A outer s H E hr d.sc.nd
theorem fdP (X:K.In hp)(G:hp.Ns mainGlobals mg)(h:FnAt K x st)(b:Bd P w K mg base x st N k m)(d:DefOk x st N n:=by exact⟨⟨rfl,rfl,rfl,by decide+kernel,rfl,by decide+kernel,by decide+kernel⟩,rfl,by decide,fun _ _ _ _ _ _=>by repeat (first | exact us_0 rfl | refine us_s fun _ => ?_)⟩):FD P w K mg base (k+1) x (spP K n (fP N.length m)):=
 let⟨f,fd,a,T⟩:=h
 ⟨⟨f,fd,_,zob T d.sc d.len d.le fun cdv A outer s H E hr=>b _ cdv A outer s H E hr d.sc.nd,W.mg_of X G a,T.kp,T.binds d.bs⟩⟩
theorem fdM (X:K.In hp)(G:hp.Ns mainGlobals mg)(h:FnAt K x st)(b:Bd P w K mg base x st N k m)(d:DefOk x st N n:=by exact⟨⟨rfl,rfl,rfl,by decide+kernel,rfl,by decide+kernel,by decide+kernel⟩,rfl,by decide,fun _ _ _ _ _ _=>by repeat (first | exact us_0 rfl | refine us_s fun _ => ?_)⟩):FD P w K mg base (k+1) x (spM K n (fM N.length m)):=
 let⟨f,fd,a,T⟩:=h
 ⟨⟨f,fd,_,fnM_ok T d.sc d.len d.le fun cdv A outer s H E hr=>b _ cdv A outer s H E hr d.sc.nd,W.mg_of X G a,T.kp,T.binds d.bs⟩⟩
end
end M
namespace M
open PySem
section
variable {prog:Program} {w:World} {A:Around} {E:Value->Shared->Prop} {s:Shared} {it d:Addr} {i ep:Nat} {es:Array DictEntry} {od:Obj}
theorem raw_item {Q:Option Value->Shared->Prop}(ki:s.heap.IsKeyIter it d i es.size ep)(g1:s.heap.get? d=some od)(g2:od.data= .dict es ep)(hi:i<es.size)
  (k:∀h',h'.IsKeyIter it d (i+1) es.size ep->Heap.SameBut it s.heap h'->Q (some es[i].key) {s with heap:=h'}):wpAny (model prog w) A (pyNext (.ref it)) Q E s:=by
 obtain⟨oi,q1,q2,q3⟩:=id ki
 have no:Builtin.Dict_items.ownsTuple "dict_keyiterator"=false:=by decide
 unfold pyNext
 refine wpAny_bind (wpAny_attempt (wpAny_callSpecial?_slot (name:=Str.ofString "__next__") ki.typeIs F.slot_dict_keyiterator_next (wpAny_call_entry F.slot_dict_keyiterator_next ki.typeIs F.entry_dict_keyiterator_next ?_ (F.args_dict_keyiterator_next_1 _))))
 refine wpAny_bind (wpAny_pure (wpAny_bind (wpAny_bind ?_)))
 first|refine wpAny_bind (wpAny_typeNameOfWhole_keyiter ki.typeIs (wpAny_pure ?_))|refine wpAny_bind (wpAny_typeNameOf_keyiter ki.typeIs (wpAny_pure ?_))
 refine wpAny_bind (wpAny_fieldsOf q1 q3 ?_)
 simp only[no,Bool.false_eq_true,if_false]
 show wpAny _ _ (if(Value.ref d==Value.none)=true then _ else _) _ _ s
 rw[if_neg (show ¬((Value.ref d==Value.none)=true)from Bool.false_ne_true)]
 refine wpAny_bind (wpAny_pure (wpAny_bind (wpAny_dictEntries g1 g2 ?_)))
 rw[if_neg (by simp)]
 refine wpAny_bind (wpAny_pure (wpAny_bind (wpAny_dictEpoch g1 g2 ?_)))
 rw[if_neg (by simp)]
 refine wpAny_pure ?_
 simp only[show ¬((i:Int)<0)from by lia,if_false,Int.toNat_natCast,Array.getElem?_eq_getElem hi]
 refine wpAny_bind ?_
 first|refine wpAny_bind (wpAny_typeNameOfWhole_keyiter ki.typeIs (wpAny_pure ?_))|refine wpAny_bind (wpAny_typeNameOf_keyiter ki.typeIs (wpAny_pure ?_))
 refine wpAny_bind (wpAny_isOneOf_keyiter ki.typeIs ?_)
 show wpAny _ _ (setField (.ref it) 1 (rawInt ((i:Int)+1))>>=_) _ _ s
 refine wpAny_bind (wpAny_setField q1 q3 (by simp) ?_)
 have ki':(s.heap.update it (Obj.mapFields (·.setIfInBounds 1 (rawInt ((i:Int)+1))))).IsKeyIter it d (i+1) es.size ep:=
  ⟨_,Heap.get?_update_self _ q1 (Obj.isFreed_of_fields (Obj.data_mapFields q3 _)),(Obj.cls_mapFields ..).trans q2,by rw[Obj.data_mapFields q3];simp[rawInt]⟩
 refine wpAny_bind (wpAny_holding (wpAny_bind (wpAny_isOneOf_keyiter (s:={s with heap:=s.heap.update it (Obj.mapFields (·.setIfInBounds 1 (rawInt ((i:Int)+1))))}) ki'.typeIs ?_)))
 show wpAny _ _ (pure es[i].key) _ _ _
 exact wpAny_pure (wpAny_pure ⟨_,rfl,wpAny_pure (k _ ki' (Heap.SameBut.update ..))⟩)
theorem raw_end {Q:Option Value->Shared->Prop}(hh:A.handled=none)(ki:s.heap.IsKeyIter it d i es.size ep)(g1:s.heap.get? d=some od)(g2:od.data= .dict es ep)(hi:es.size<=i)
  (k:∀h',Heap.ExtBut it s.heap h'->Q none {s with heap:=h'}):wpAny (model prog w) A (pyNext (.ref it)) Q E s:=by
 obtain⟨oi,q1,q2,q3⟩:=id ki
 have no:Builtin.Dict_items.ownsTuple "dict_keyiterator"=false:=by decide
 unfold pyNext
 refine wpAny_bind (wpAny_attempt (wpAny_callSpecial?_slot (name:=Str.ofString "__next__") ki.typeIs F.slot_dict_keyiterator_next (wpAny_call_entry F.slot_dict_keyiterator_next ki.typeIs F.entry_dict_keyiterator_next ?_ (F.args_dict_keyiterator_next_1 _))))
 refine wpAny_bind (wpAny_pure (wpAny_bind (wpAny_bind ?_)))
 first|refine wpAny_bind (wpAny_typeNameOfWhole_keyiter ki.typeIs (wpAny_pure ?_))|refine wpAny_bind (wpAny_typeNameOf_keyiter ki.typeIs (wpAny_pure ?_))
 refine wpAny_bind (wpAny_fieldsOf q1 q3 ?_)
 simp only[no,Bool.false_eq_true,if_false]
 show wpAny _ _ (if(Value.ref d==Value.none)=true then _ else _) _ _ s
 rw[if_neg (show ¬((Value.ref d==Value.none)=true)from Bool.false_ne_true)]
 refine wpAny_bind (wpAny_pure (wpAny_bind (wpAny_dictEntries g1 g2 ?_)))
 rw[if_neg (by simp)]
 refine wpAny_bind (wpAny_pure (wpAny_bind (wpAny_dictEpoch g1 g2 ?_)))
 rw[if_neg (by simp)]
 refine wpAny_pure ?_
 simp only[show ¬((i:Int)<0)from by lia,if_false,Int.toNat_natCast,Array.getElem?_eq_none hi]
 refine wpAny_bind ?_
 first|refine wpAny_bind (wpAny_typeNameOfWhole_keyiter ki.typeIs (wpAny_pure ?_))|refine wpAny_bind (wpAny_typeNameOf_keyiter ki.typeIs (wpAny_pure ?_))
 show wpAny _ _ (setField (.ref it) 0 .none>>=_) _ _ s
 refine wpAny_bind (wpAny_setField q1 q3 (by simp) ?_)
 show wpAny _ _ (newExc (.type "StopIteration") []>>=_) _ _ _
 refine wpAny_bind ?_
 simp only[newExc,newTuple]
 refine wpAny_bind (wpAny_newObj_type ?_ (by size_fits))
 refine wpAny_bind (m:=firstArgMember _ _) (wpAny_of_eq (a:=Value.none) (by first|rfl|(simp only[firstArgMember];rfl)) ?_)
 refine wpAny_newObj_type ?_ (by size_fits)
 simp only[raiseNew]
 refine wpAny_bind (wpAny_handled ?_)
 rw[show A.in1.handled=none from hh]
 refine wpAny_bind (wpAny_pure (wpAny_throw ?_))
 refine wpAny_bind (wpAny_isInstance (b:=true) (T:="StopIteration") ⟨_,Heap.get?_push_size _ rfl,rfl⟩ isSubtype_stop ?_)
 exact wpAny_pure (k _ (((Heap.SameBut.update ..).extBut.push _).push _))
theorem raw_iter {Q:Value->Shared->Prop}(nm:(d==sysModules)=false)(g1:s.heap.get? d=some od)(g0:od.ExactDict)(g2:od.data= .dict es ep)
  (k:Q (.ref s.heap.objs.size) {s with heap:=s.heap.push {cls:= .type "dict_keyiterator",data:= .fields #[.ref d,.int 0 0,.int es.size 0,.int ep 0]}}):wpAny (model prog w) A (pyIter (.ref d)) Q E s:=by
 have hT:s.TypeIs (.ref d) "dict":=⟨od,g1,g0.1⟩
 refine wpAny_pyIter_slot hT F.slot_dict_iter (wpAny_call_entry F.slot_dict_iter hT F.entry_dict_iter ?_ (F.args_dict_iter_1 _))
 unfold Builtin.«dict.__iter__»
 refine wpAny_bind ?_
 unfold Builtin.Dict.dictSlotNone
 refine wpAny_bind (wpAny_notOrdered_dict hT ?_)
 show wpAny _ _ (pure (Value.ref d)) _ _ s
 refine wpAny_pure ?_
 show wpAny _ _ (Builtin.Dict.showsAll d>>=_) _ _ s
 unfold Builtin.Dict.showsAll
 rw[if_neg (by rw[nm];exact Bool.false_ne_true)]
 refine wpAny_bind (wpAny_pure (wpAny_bind (wpAny_dictEntries g1 g2 (wpAny_bind (wpAny_dictEpoch g1 g2 ?_)))))
 refine wpAny_bind (wpAny_newObj_type (wpAny_pure ⟨_,rfl,"dict_keyiterator",_,⟨_,Heap.get?_push_size _ rfl,rfl⟩,F.slot_dict_keyiterator_next.lookup,?_⟩))
 simpa[rawInt]using k
end
end M
namespace M
open L2 PySem PySem.Spec
open PyProof.Rows hiding St
variable {P:Program} {w:World} {H G:Hp} {h:Heap} {a b:Addr} {o:Obj} {xs:List (List L2.Key×Addr×Value)} {ks:List (List Int)} {ys:List (List L2.Key×V)}
theorem zkE (ok:HOk P w H h)(e:H a=some (kn a o)):h.get? a=some o:=(show ObjOk P w H h a (kn a o)from ok a _ e).1
theorem kn_ok (e:h.get? a=some o):ObjOk P w H h a (kn a o):=⟨e,⟨o,e⟩,fun _ _ e1 k=>k o e1⟩
noncomputable def Sl.dit:Sl->Option (List (List Int)×List D)
 | .tre (.dit ks ds)=>some (ks,ds)
 | .val (.dit ks ds)=>some (ks,ds)
 |_=>none
noncomputable def keyT:D->Option (List Int)
 | .tup es=>zaW es
 |_=>none
noncomputable def sDPT (j:Nat)(mk me:ME):MS:=fun ρ=>(me ρ).bind fun p=>if(p.2[j]?.bind Sl.dit).isSome then(mk p.2).bind fun q=>(keyT q.1).bind fun k=>q.2[j]?.bind fun s=>match s.tree with
  |some (.dit ks ds)=>if ks.length<16777216 then some (.next,q.2.set j (s.putT (.dit (ptD ks ds k p.1).1 (ptD ks ds k p.1).2)))else none
  |_=>none else none
noncomputable def iDKT (j:Nat):MA:=fun ρ=>match ρ[j]? with
 |some (.val (.dit ks ds))=>some (ks.map fun k=> .tup (k.map .int),ρ)
 |_=>none
end M
namespace M
open L2 PySem PySem.Spec
open PyProof.Rows hiding St
noncomputable def fzDT (j:Nat)(ρ:R):R:=match ρ[j]? with
 |some (.tre (.dit ks ds))=>ρ.set j (.val (.dit ks ds))
 |_=>ρ
noncomputable def eCallU (F:List D->Option Sl)(ma:MA):ME:=fun ρ=>(ma ρ).bind fun p=>(F p.1).bind fun r=>match r with
 | .tre (.tup cs)=>some (.tup (cs.map Ch.D),p.2)
 |_=>none
noncomputable def fzU (j:Nat)(ρ:R):R:=match ρ[j]? with
 |some (.tre (.tup cs))=>ρ.set j (.val (.tup (cs.map Ch.D)))
 |_=>ρ
noncomputable def sCp (i j n:Nat)(mb:MS):MS:=fun ρ=>match ρ[i]?,ρ[j]? with
 |some _,some (.tre (.tup cs))=>match cs[n]? with
  |some (.d .non)=>some (.next,ρ.set i (.val .non))
  |some (.l ds)=>mb (ρ.set i (.own ds))
  |_=>none
 |_,_=>none
noncomputable def turnT (g:D->R->Option R)(mt:MT)(mo:MO):D->R->Option (Option (List D)×R):=fun d ρ=>(g d ρ).bind fun ρ1=>(mt ρ1).bind fun p=>if p.1 then(mo p.2).bind fun q=>if zcG q.2 then some (some q.1,q.2)else none else if zcG p.2 then some (none,p.2)else none
noncomputable def rowsOf:List Ch->Option (List (List D))
 |[]=>some []
 | .l ds::cs=>(rowsOf cs).map (ds:: ·)
 |_=>none
noncomputable def zna (b c:Nat)(ρ:R):Bool:=match ρ[b]?,ρ[c]? with
 |some (.par _),some (.par _)=>zcG ((ρ.set b .emp).set c .emp)
 |_,_=>false
noncomputable def turnQ (b c:Nat)(g:D->R->Option R)(mt:MT)(me:ME):D->R->Option (Option D×R):=fun d ρ=>(g d ρ).bind fun ρ1=>(mt ρ1).bind fun p=>if p.1 then(me p.2).bind fun q=>if zna b c q.2 then some (some q.1,q.2)else none else if zna b c p.2 then some (none,p.2)else none
end M
namespace M
open PySem PySem.W
open PyProof.Rows (bubble mirror bubble_size bubble_perm mirror_size mirror_perm getElem?_bubble getElem?_mirror_all)
noncomputable def kv (p:Array Nat)(k:Nat):Nat:=p.getD k 0
end M
namespace HT
open PySem
noncomputable def SIt (h:Heap)(I S:Addr)(first:Value)(i n ep:Nat):Prop:=∃o,h.get? I=some o/\o.cls= .type "set_iterator"/\o.data= .fields #[first,.int i 0,.ref S,.int n 0,.int ep 0]
end HT
namespace HT
open PySem
open PyProof.Rows (IntsAre step_dedup firstMet)
theorem eq_up:∀{l m:List Int},l.Pairwise (· < ·)->m.Pairwise (· < ·)->(∀z,z∈l↔z∈m)->l=m
  |[],[],_,_,_=>rfl
  |[],y::m,_,_,h=>absurd ((h y).mpr List.mem_cons_self) List.not_mem_nil
  |x::l,[],_,_,h=>absurd ((h x).mp List.mem_cons_self) List.not_mem_nil
  |x::l,y::m,hl,hm,h=>by
    have a:=List.pairwise_cons.mp hl
    have b:=List.pairwise_cons.mp hm
    have e:x=y:=by
      have h1:=List.mem_cons.mp ((h x).mp List.mem_cons_self)
      have h2:=List.mem_cons.mp ((h y).mpr List.mem_cons_self)
      rcases h1 with z|z
      . exact z
      . rcases h2 with y'|y'
        . exact y'.symm
        . have:=a.1 y y';have:=b.1 x z;lia
    subst e
    congr 1
    refine eq_up a.2 b.2 fun z=>?_
    have hz:=h z
    rw[List.mem_cons,List.mem_cons]at hz
    constructor
    . intro q
      have:=a.1 z q
      rcases hz.mp (.inr q)with e|e
      . lia
      . exact e
    . intro q
      have:=b.1 z q
      rcases hz.mpr (.inr q)with e|e
      . lia
      . exact e
end HT
namespace M
open L2 PySem PySem.Spec
open PyProof.Rows hiding St
theorem zfY:∀{its:List Value} {ns:List Int},IntsAre its ns->Vals (ns.map V.int) its
 |_,_,.nil=> .nil
 |_,_,.cons n t h=> .cons ⟨t,rfl⟩ (zfY h)
end M
namespace M
open L2 PySem
noncomputable def zoA (f g h:D->D->Option D)(a b c d:ME):ME:=fun ρ=>(a ρ).bind fun p=>(b p.2).bind fun q=>(f p.1 q.1).bind fun t=>match t with
 | .bl true=>(c q.2).bind fun r=>(g q.1 r.1).bind fun t'=>match t' with
  | .bl true=>(d r.2).bind fun s=>(h r.1 s.1).map fun x=>(x,s.2)
  | .bl false=>some (.bl false,r.2)
  |_=>none
 | .bl false=>some (.bl false,q.2)
 |_=>none
end M
namespace M
open L2 PySem PySem.Spec
open PyProof.Rows hiding St
noncomputable def zmb:D->Bool
 | .int _=>true
 |_=>false
noncomputable def flD:D->Bool
 | .non=>true
 | .bl _=>true
 | .int _=>true
 | .str _=>true
 | .tup ds=>ds.all zmb
 |_=>false
noncomputable def flC:Ch->Bool
 | .d x=>flD x
 | .l ds=>ds.all flD
 | .t _=>false
noncomputable def flT:T->Bool
 | .tup cs=>cs.all flC
 | .ins _ fs=>fs.all fun f=>flC f.2
 |_=>false
noncomputable def flS:Sl->Bool
 | .emp=>true
 | .val d=>flD d
 | .own ds=>ds.all flD
 | .par ds=>ds.all flD
 | .tre t=>flT t
 | .ptr t=>flT t
 | .two _ _=>false
open Classical in
section
variable {K:W.Frag} {G Gx G2 H H2:Hp}
theorem RepT.head {v:V}{t:T}{A:List Addr}(r:RepT K G H v t A):∃p,v= .ref p/\p∈A:=by
 cases t with
 |lst cs=>obtain⟨p,xs,A',h1,h2,h3,rfl⟩:=r;exact⟨p,h1,by simp⟩
 |tup cs=>obtain⟨p,xs,A',h1,h2,h3,rfl⟩:=r;exact⟨p,h1,by simp⟩
 |ins c fs=>obtain⟨p,C,dx,ws,A',h1,h2,h3,h4,h5,h6,rfl⟩:=r;exact⟨p,h1,by simp⟩
 |dic ks ds=>obtain⟨p,ys,h1,h2,h3,h4,rfl⟩:=r;exact⟨p,h1,by simp⟩
 |dit ks ds=>obtain⟨p,ys,o,xs,h1,h2,h3,h4,rfl⟩:=r;exact⟨p,h1,by simp⟩
 |obj c ns ls dk=>obtain⟨p,C,dx,ws,A',h1,h2,h3,h4,h5,h6,rfl⟩:=r;exact⟨p,h1,by simp⟩
end
noncomputable abbrev MG:=R->Option (R×R)
noncomputable def Sl.hand:Sl->Option Sl
 | .own ds=>some (.par ds)
 | .par ds=>some (.par ds)
 | .tre t=>if t.isObj then none else some (.ptr t)
 | .ptr t=>if t.isObj then none else some (.ptr t)
 |_=>none
noncomputable def oddC:Ch->Bool
 | .d (.str _)=>true
 | .l _=>true
 |_=>false
noncomputable def Sl.look:Sl->Option D
 | .val d=>some d
 | .own ds=>some (.lst ds)
 | .par ds=>some (.lst ds)
 | .tre (.tup cs)=>if cs.any oddC then some (.tup (cs.map Ch.D))else none
 | .tre (.obj c ns ls (some q))=>some (.obj c ns (ls.map D.lst) q.1 q.2)
 | .ptr (.obj c ns ls (some q))=>some (.obj c ns (ls.map D.lst) q.1 q.2)
 |_=>none
noncomputable def hasA (ρ:R)(j:Nat):Bool:=match ρ[j]? with
 |some (.val _)=>true
 |some (.own _)=>true
 |some (.par _)=>true
 |some (.tre _)=>true
 |some (.ptr _)=>true
 |_=>false
section
variable {K:W.Frag} {B:Bs} {G Gx Gy H:Hp} {σ:St} {ρ:R}
theorem znD {Gz:Hp}(fg:Fz G Gz){p C dx:Addr}{c:Str}{ns:List Str}{vs:List (Str×V)}{ls:List (List D)}{q:List Int×List D}{A:List Addr}(h0:W.nsIn K mainGlobals c=some (some (.ref C)))(h1:Gz p=some (.ins C dx vs))(h2:vs.map (·.1)=ns)(r:RepO K G H (vs.map (·.2)) ls (some q) A)(h:∀a∈A,Gz a=H a):RepD K Gz (.ref p) (.obj c ns (ls.map D.lst) q.1 q.2):=by
 obtain⟨ws,p2,o,zs,ys,A',e,r1,q1,q2,q3,rfl⟩:=r
 exact⟨p,C,dx,vs,ws,p2,o,zs,ys,rfl,h0,h1,h2,e,zlY fg r1 fun a m=>h a (by simp[m]),by rw[h p2 (by simp)];exact q1,q2,q3.mono fg⟩
end
noncomputable def spG (K:W.Frag)(n:Nat)(F:R->Option (Sl×R)):Sp:=fun vs H Q _=>∃G O as r outs,F as=some (r,outs)/\as.length=n/\SI K ⟨G,H,O⟩ G H (vs.map some) as/\
 ∀G' H' v,Fz G G'->Fz G' H'->(∀b o,G' b=some o->G b≠none\/H b=none)->(∀b o,H b=some o->(∀i,(i,b)∉O)->H' b=some o)->(∀b,H' b=none->H b=none)->
  (∀(i:Nat) (s:Sl),outs[i]? =some s->∃ov,SlotOk K ⟨G,H,O⟩ G' H' i ov s)->ResF K G' H' H v r->Q v H'
noncomputable def outS:R->R->Option R
 |[],_=>some []
 | .par _::as,.par ds::ρ=>(outS as ρ).map (.par ds:: ·)
 | .ptr _::as,.ptr t::ρ=>(outS as ρ).map (.ptr t:: ·)
 | .val _::as,_::ρ=>(outS as ρ).map (.emp:: ·)
 |_,_=>none
noncomputable def fG (N:Nat)(m:MS):R->Option (Sl×R):=fun as=>(m (as++List.replicate (N-as.length) .emp)).bind fun p=>match p.1 with
 | .ret r=>(outS as p.2).map fun o=>(r,o)
 | .next=>(outS as p.2).map fun o=>(.val .non,o)
 |_=>none
theorem zi5 {y s:Sl}{o ρ:R}{i:Nat}{u:Sl}(e:(y::o)[i]? =some s)(z:y= .emp\/u=y)(ih:∀{i:Nat} {s:Sl},o[i]? =some s->s= .emp\/ρ[i]? =some s):s= .emp\/(u::ρ)[i]? =some s:=by
 cases i with
 |zero=>rw[List.getElem?_cons_zero]at e ⊢;rw[<-Option.some.inj e];exact z.imp id fun q=>congrArg _ q
 |succ i=>rw[List.getElem?_cons_succ]at e ⊢;exact ih e
theorem outS_get {as ρ os:R}{i:Nat}{s:Sl}(h:outS as ρ=some os)(e:os[i]? =some s):s= .emp\/ρ[i]? =some s:=by
 induction as generalizing ρ os i s with
 |nil=>rw[<-Option.some.inj h,List.getElem?_nil]at e;exact cNN e
 |cons x as ih=>
  cases ρ with
  |nil=>cases x<;>exact cNN h
  |cons y ρ=>
   cases x with
   |val d=>exact cMel h fun o q z=>by subst z;exact zi5 e (.inl rfl) (ih q)
   |par d=>cases y with
    |par d'=>exact cMel h fun o q z=>by subst z;exact zi5 e (.inr rfl) (ih q)
    |_=>exact cNN h
   |ptr d=>cases y with
    |ptr d'=>exact cMel h fun o q z=>by subst z;exact zi5 e (.inr rfl) (ih q)
    |_=>exact cNN h
   |_=>exact cNN h
theorem SI.startG {K:W.Frag}{B:Bs}{G H:Hp}{N:List Str}{vs:List V}{as:R}(I:SI K B G H (vs.map some) as)(h:as.length<=N.length):SI K B G H (L2.start N vs) (as++List.replicate (N.length-as.length) .emp):=by
 have hl:vs.length=as.length:=by simpa using I.len
 have at1:∀{i:Nat} {s:Sl},(as++List.replicate (N.length-as.length) Sl.emp)[i]? =some s->(as[i]? =some s/\(L2.start N vs)[i]? =(vs.map some)[i]?)\/s= .emp:=fun{i s} e=>by
  by_cases hi:i<as.length
  ·rw[List.getElem?_append_left hi]at e
   refine .inl ⟨e,?_⟩
   unfold L2.start
   rw[List.getElem?_append_left (by simpa[hl]using hi)]
  ·rw[List.getElem?_append_right (by lia),List.getElem?_replicate]at e
   split at e
   ·cases e;exact .inr rfl
   ·exact cNN e
 refine⟨I.fz,I.g0,I.new,I.keep,I.there,?_,I.ob,fun i s e=>?_,fun i j s t a n e1 e2 w1 w2=>?_⟩
 ·rw[zhs (by lia),List.length_append,List.length_replicate];lia
 ·rcases at1 e with⟨e1,e2⟩|rfl
  ·rw[e2];exact I.slot i s e1
  ·trivial
 ·rcases at1 e1 with⟨f1,f2⟩|rfl
  ·rcases at1 e2 with⟨g1,g2⟩|rfl
   ·rw[f2]at w1;rw[g2]at w2;exact I.dis i j s t a n f1 g1 w1 w2
   ·exact w2
  ·exact w1
section
variable {P:Program} {w:World} {K:W.Frag} {mg:Str->Option Value} {base:Heap}
theorem fnG_ok {x qual:Str}{st:Stmt}{f:Addr}{fd:FuncData}{N ps:List Str}{k n:Nat}{m:MS}(F:Fun K x qual st f fd)(S:FnScope N ps (zan st))(hn:ps.length=n)(hN:n<=N.length)
  (body:∀(cdv:Value) (A:Around) (outer:List Env) (s:Shared) (H:Hp) (E:XK),Room k (A.deeper (envOfC qual (zan st) s.heap.objs.size f cdv))->SSs (cxOf CX0 P w K mg base N qual (zan st) f cdv A outer s H E).nox (zaH st) m):
  FnOk P w K mg base CX0 (k+1) f fd ps (spG K n (fG N.length m)):=by
 refine F.ok S (fun vs H Q E h=>?_) (fun cdv A outer s H vs Q E hr h=>?_)
 ·obtain⟨G,O,as,r,outs,_,h2,I,_⟩:=h
  have:=I.len
  rw[List.length_map]at this
  lia
 ·obtain⟨G,O,as,r,outs,e1,h2,I,kk⟩:=h
  obtain⟨t,pt,so⟩:=body cdv A outer s H E hr
  refine⟨t,pt,?_⟩
  refine zaz e1 fun fl ρ' e2 e3=>?_
  refine so ⟨G,H,O⟩ G H (L2.start N vs) _ fl ρ' _ (I.startG (by lia)) e2 ?_
  have fin:∀G' H' σ' v,outS as ρ'=some outs->SI K ⟨G,H,O⟩ G' H' σ' ρ'->Fz G G'->ResF K G' H' H v r->Q v H':=fun G' H' σ' v eo J f rr=>
   kk G' H' v f J.fz J.new (fun b o e n=>J.keep b o e n) J.there (fun i s e=>by
    rcases outS_get eo e with rfl|q
    ·exact⟨none,trivial⟩
    ·exact⟨_,J.slot i s q⟩) rr
  cases fl with
  |brk=>exact cNN e3
  |cont=>exact cNN e3
  |next=>
   refine cMel e3 fun o q1 q2=>?_
   cases q2
   exact fun G' H' σ' J f=>fin G' H' σ' .non q1 J f rfl
  |ret r'=>
   refine cMel e3 fun o q1 q2=>?_
   cases q2
   refine fun G' H' σ' v J f rr=>fin G' H' σ' v q1 J f ?_
   cases r with
   |val d=>exact rr
   |own ds=>exact rr
   |emp=>exact rr
   |two _ _=>exact rr
   |tre _=>exact rr
   |ptr _=>exact rr
   |par ds=>exact rr
end
noncomputable def backS (u s:Sl):Sl:=match s with
 | .par ds=>u.put ds
 | .ptr t=>u.putT t
 |_=>u
noncomputable def zko:List (Option Nat)->R->R->R
 | some j :: js, s :: os, ρ => zko js os (match ρ[j]? with
  |some u=>ρ.set j (backS u s)
  |none=>ρ)
 |none::js,_::os,ρ=>zko js os ρ
 |_,_,ρ=>ρ
noncomputable def zmO:R->Option (List D)
 |[]=>some []
 | .val d::as=>(zmO as).map (d:: ·)
 |_=>none
noncomputable def zmh (F:List D->Option Sl):R->Option (Sl×R):=fun as=>(zmO as).bind fun ds=>(F ds).map fun r=>(r,as.map fun _=> .emp)
noncomputable def ckG (ls:List Nat)(z:Sl×R):Bool:=ls.isEmpty||(flS z.1&&z.2.all flS)
noncomputable def bkT (n:Int)(ds:List D):T:= .ins "SumBook" [("many",.d (.int n)),("kept",.l ds)]
noncomputable def T.bk:T->Option (Int×List D)
 | .ins c [(a,.d (.int n)),(b,.l ds)]=>if c="SumBook"/\a="many"/\b="kept" then some (n,ds)else none
 |_=>none
noncomputable def Sl.bk:Sl->Option (Int×List D)
 | .tre t=>t.bk
 | .ptr t=>t.bk
 |_=>none
theorem bkT_bk {n:Int}{ds:List D}:(bkT n ds).bk=some (n,ds):=by
 show(if("SumBook":Str)="SumBook"/\("many":Str)="many"/\("kept":Str)="kept" then some (n,ds)else none)=some (n,ds)
 rw[if_pos ⟨rfl,rfl,rfl⟩]
noncomputable def onlyV (ρ:R):R:=ρ.map fun s=>match s with
 | .val d=> .val d
 |_=> .emp
section
variable {P:Program} {w:World} {K:W.Frag} {mg:Str->Option Value} {base hp:Heap} {x mt:Str} {st:Stmt} {f:Addr} {N:List Str} {k n:Nat} {m:MS}
structure DefOkM (x q:Str) (st:Stmt) (N:List Str) (n:Nat):Prop where
 sc:FnScope N (N.take n) (zan st)
 len:(N.take n).length=n
 le:n<=N.length
 bs:∀(kV doc pm:Value) (an:Option Addr) (cdv ct:Value) (us:List Value),us.length=(N.take n).length->bindArgs (W.fnOf x q (zaZ st) (zaH st) (zan st) .none kV doc pm an cdv ct) ⟨us,[]⟩=pure ((N.take n).zip us)
end
section
variable {K:W.Frag} {B:Bs} {G H:Hp} {σ:St} {ρ:R}
open Classical in
noncomputable def Bs.reA (B:Bs)(K:W.Frag)(G H:Hp)(σ:St)(ρ:R)(A:List Addr):Bs:=⟨G,fun b=>if(∃(i:Nat) (s:Sl),ρ[i]? =some s/\OwS K G H σ[i]? b s)/\B.H b=none then none else H b,B.O.filter fun z=>!A.contains z.2⟩
theorem reA_O {A:List Addr}{z:Nat×Addr}:z∈(B.reA K G H σ ρ A).O↔z∈B.O/\z.2∉A:=by
 unfold Bs.reA
 simp
theorem ziM (I:SI K B G H σ ρ){A:List Addr}{b:Addr}(h:(B.reA K G H σ ρ A).H b=none):B.H b=none:=by
 unfold Bs.reA at h
 dsimp only at h
 split at h
 ·rename_i w;exact w.2
 ·exact I.there b h
theorem SI.reA (I:SI K B G H σ ρ){A:List Addr}(hA:∀a∈A,Nw K G H σ ρ a):SI K (B.reA K G H σ ρ A) G H σ ρ where
 fz:=I.fz
 g0:=Fz.refl G
 new:=fun b o e=> .inl (by show G b≠none;rw[e];simp)
 keep:=fun b o e _=>by
  unfold Bs.reA at e
  dsimp only at e
  split at e
  ·exact cNN e
  ·exact e
 there:=fun b e=>by
  unfold Bs.reA
  dsimp only
  split
  ·rfl
  ·exact e
 ob:=fun i b m=>by
  have hb:=I.ob i b (reA_O.mp m).1
  unfold Bs.reA
  dsimp only
  rw[if_neg fun w=>hb w.2]
  exact fun z=>hb (I.there b z)
 len:=I.len
 slot:=fun i s e=>by
  have h:=I.slot i s e
  have own:∀{a:Addr},OwS K G H σ[i]? a s->B.H a=none->(B.reA K G H σ ρ A).H a=none:=fun{a} w n=>by
   unfold Bs.reA
   dsimp only
   rw[if_pos ⟨⟨i,s,e,w⟩,n⟩]
  have inO:∀{n:Nat} {a:Addr},OwS K G H σ[i]? a s->(n,a)∈B.O->(n,a)∈(B.reA K G H σ ρ A).O:=fun{n a} w m=>reA_O.mpr ⟨m,fun z=>hA a z i s e w⟩
  cases s with
  |emp=>trivial
  |two _ _=>trivial
  |val d=>exact h
  |own ds=>obtain⟨l,xs,k1,k2,k3,k4,k5⟩:=h;exact⟨l,xs,k1,k2,k3,k4,own k1 k5⟩
  |par ds=>obtain⟨l,xs,k1,k2,k3,k4,k5⟩:=h;exact⟨l,xs,k1,k2,k3,k4,inO k1 k5⟩
  |tre t=>obtain⟨v,A',k1,k2,k3,k4⟩:=h;exact⟨v,A',k1,k2,k3,fun a m=>⟨(k4 a m).1,own ⟨v,A',k1,k2,m⟩ (k4 a m).2⟩⟩
  |ptr t=>
   obtain⟨v,A',k1,k2,⟨k3,p,rfl,k5,k6⟩,k4⟩:=h
   obtain⟨p2,q1,q2⟩:=k2.head
   cases q1
   exact⟨_,A',k1,k2,⟨k3,p,rfl,inO ⟨_,A',k1,k2,q2⟩ k5,fun z=>inO ⟨_,A',k1,k2,q2⟩ (k6 z)⟩,fun a m=>⟨(k4 a m).1,(k4 a m).2.imp (inO ⟨_,A',k1,k2,m⟩) fun z=>⟨own ⟨_,A',k1,k2,m⟩ z.1,by
    obtain⟨y1,p3,y2,y3⟩:=z
    cases y2
    exact⟨p,rfl,inO ⟨_,A',k1,k2,q2⟩ y3⟩⟩⟩⟩
 dis:=I.dis
end
noncomputable abbrev MXG:=R->Option (Str×R)
end M
namespace M
open L2 PySem PySem.Spec
open PyProof.Rows hiding St
open Builtin Builtin.Str
noncomputable def sIx (x:Str)(i:Int):Option Str:=(atI x.cps.toList i).map fun c=>⟨#[c]⟩
noncomputable def tS (i:Int):Str:=Str.ofString (toString i)
end M
namespace M
open L2 PySem PySem.Spec
open PyProof.Rows hiding St
variable {ks:List Int} {k j i:Nat} {v:V} {u oc:Value} {K:W.Frag} {tg e:Expr} {X:Cx} {l C p a:Addr} {m:MO} {pl:Sem Bool} {s:Sl} {xs ys:List V} {ds:List D} {vs:List (Str×V)} {o:Obj} {c x:Str} {ns:List Str} {ls:List (List D)} {dk:List Int×List D} {q:Str×List Str×List (List D)×Option (List Int×List D)} {osl:Array (Option Value)}
section
variable {P:Program} {w:World} {H G:Hp} {h:Heap} {a:Addr} {o:Obj} {zs:List (Int×Tok×Value)} {ks:List Int} {ys:List (L2.Key×V)}
noncomputable def enK (z:Int×Tok×Value):DictEntry:=⟨hashInt z.1,.int z.1 z.2.1,z.2.2⟩
noncomputable def vsK (zs:List (Int×Tok×Value)):List (L2.Key×Value):=zs.map fun z=>(kI z.1,z.2.2)
theorem enK_is (z:Int×Tok×Value):(zbj P w).is (kI z.1) (enK z).key=true:=zn7 (k:=kI z.1) ⟨z.2.1,rfl⟩
theorem zjJ:∀zs:List (Int×Tok×Value),Pairs (zbj P w) (zs.map enK) (vsK zs)
 |[]=> .nil
 |z::zs=> .cons (enK_is z) rfl (zjJ zs)
theorem zlC (zs:List (Int×Tok×Value)):(vsK zs).map (·.1)=(zs.map (·.1)).map kI:=by
 unfold vsK;rw[List.map_map,List.map_map];rfl
theorem nodup_kI (h:ks.Nodup):(ks.map kI).Nodup:=by
 induction ks with
 |nil=>exact List.nodup_nil
 |cons k ks ih=>
  rw[List.nodup_cons]at h
  rw[List.map_cons,List.nodup_cons]
  refine⟨fun m=>?_,ih h.2⟩
  obtain⟨j,hj,e⟩:=List.mem_map.mp m
  cases zhJ _ _ e
  exact h.1 hj
theorem zlc:∀{as bs:List Int},as.map kI=bs.map kI->as=bs
 |[],[],_=>rfl
 |[],_::_,h=>by cases h
 |_::_,[],h=>by cases h
 |a::as,b::bs,h=>by
  have e:=List.cons.inj h
  rw[zhJ _ _ e.1,zlc e.2]
theorem DkN.kvs (d:DkN a o zs ks ys):KV ys (vsK zs):=by
 have h:=d.kv
 unfold vsK
 generalize zs=zs at h
 generalize ys=ys at h
 induction h with
 |nil=>exact .nil
 | @cons p q ps qs e _ ih=>exact .cons ⟨e.1,e.2⟩ ih
theorem DkN.of (d:DkN a o zs ks ys)(g:h.get? a=some o):h.DictOf (zbj P w) a (vsK zs):=by
 obtain⟨es,ep,h1,h2⟩:=d.dat
 refine⟨o,es,ep,g,d.ex,h1,fun e m=>?_,?_,?_⟩
 ·have m':e∈es.toList:=Array.mem_toList_iff.mpr m
  rw[h2]at m'
  obtain⟨z,hz,e1⟩:=List.mem_map.mp m'
  subst e1
  exact⟨kI z.1,enK_is z,rfl⟩
 ·rw[h2];exact zjJ zs
 ·rw[zlC,d.zk];exact nodup_kI d.nd
theorem zs_of:∀{es:List DictEntry} {kvs:List (L2.Key×Value)},Pairs (zbj P w) es kvs->(∀e∈es,∃k,(zbj P w).is k e.key=true/\e.hash=(zbj P w).hash k)->(∀q∈kvs,∃n,q.1=kI n)->∃zs,es=zs.map enK/\kvs=vsK zs
 |_,_,.nil,_,_=>⟨[],rfl,rfl⟩
 |_,_,@Pairs.cons _ _ _ _ _ e kv es kvs h1 h2 ht,hk,hn=>by
  obtain⟨zs,e1,e2⟩:=zs_of ht (fun x m=>hk x (List.mem_cons_of_mem _ m)) fun x m=>hn x (List.mem_cons_of_mem _ m)
  obtain⟨n,hn9⟩:=hn kv List.mem_cons_self
  obtain⟨k,q1,q2⟩:=hk e List.mem_cons_self
  rw[hn9]at h1
  obtain rfl:k=kI n:=(zbj P w).inj _ _ _ q1 h1
  rcases zaQ (k:=kI n) (v:=e.key) h1 with⟨i,t,z1,z2⟩|⟨x,t,z1,z2⟩
  ·obtain⟨eh,ek,ev⟩:=e
   obtain⟨kk,vv⟩:=kv
   have z1:n=i:=by unfold kI at z1;exact Sum.inl.inj z1
   subst z1
   dsimp only at h2 hn9 z2 q2
   subst h2 hn9 z2 q2
   exact⟨(n,t,ev)::zs,by rw[e1];rfl,by rw[e2];rfl⟩
  ·exact nomatch (show(Sum.inl n:L2.Key)=Sum.inr x from z1)
theorem DkN.put {k:Int}(d:DkN a o zs ks ys)(hl:ks.length<sizeLine)(rv:RelV v u)(dd:h.DictOf (zbj P w) a (stored (vsK zs) (kI k) u))(ds:List D)(dv:D):∃o' zs',h.get? a=some o'/\DkN a o' zs' (ptD ks ds k dv).1 (putK ys (kI k) v):=by
 obtain⟨o',es,ep,h1,h2,h3,h4,h5,h6⟩:=dd
 have kv:=d.kvs.put (kI k) rv
 have key:(putK ys (kI k) v).map (·.1)=((ptD ks ds k dv).1).map kI:=by
  unfold putK ptD
  have any:(ys.any fun kv=>decide (kv.1=kI k))=ks.contains k:=by
   have e:=d.key
   generalize ys=ys at e
   generalize ks=ks at e
   induction ys generalizing ks with
   |nil=>cases ks with
    |nil=>rfl
    |cons _ _=>cases e
   |cons y ys ih=>cases ks with
    |nil=>cases e
    |cons j ks=>
     have e2:=List.cons.inj e
     rw[List.any_cons,ih ks e2.2,List.contains_cons]
     congr 1
     by_cases q:k=j
     ·subst q;simp[e2.1]
     ·rw[decide_eq_false (fun z=>q (zhJ _ _ (e2.1.symm.trans z)).symm)]
      simp[q]
  rw[any]
  split
  ·rw[<-d.key,List.map_map]
   refine List.map_congr_left fun p _=>?_
   show(if p.1=kI k then(p.1,v)else p).1=p.1
   split<;>rfl
  ·rw[List.map_append,List.map_append,d.key];rfl
 have ik:∀q∈stored (vsK zs) (kI k) u,∃n,q.1=kI n:=fun q m=>by
  have m1:q.1∈(stored (vsK zs) (kI k) u).map (·.1):=List.mem_map.mpr ⟨q,m,rfl⟩
  rw[<-KV.keys kv,key]at m1
  obtain⟨n,_,e⟩:=List.mem_map.mp m1
  exact⟨n,e.symm⟩
 obtain⟨zs',e1,e2⟩:=zs_of h5 (fun e m=>h4 e (Array.mem_toList_iff.mp m)) ik
 rw[e2]at kv h6
 have zk:zs'.map (·.1)=(ptD ks ds k dv).1:=by
  apply zlc
  rw[<-zlC,<-KV.keys kv,key]
 refine⟨o',zs',h1,d.sys,h2,⟨es,ep,h3,e1⟩,?_,?_,zk,key,?_⟩
 ·have:((ptD ks ds k dv).1).Nodup:=by
   unfold ptD
   split
   ·exact d.nd
   ·rename_i c
    rw[List.nodup_append]
    refine⟨d.nd,by simp,fun x hx y hy z=>c ?_⟩
    have:y=k:=by simpa using hy
    subst this;subst z
    exact List.contains_iff_mem.mpr hx
  exact this
 ·have l1:=zj9 ys (kI k) v
  have l2:ys.length=ks.length:=by have:=congrArg List.length d.key;simpa using this
  lia
 ·unfold vsK at kv
  generalize putK ys (kI k) v=yy at kv
  clear zk e1 e2 h6 key
  induction zs' generalizing yy with
  |nil=>cases kv;exact .nil
  |cons z zs' ih=>
   cases kv with
   |cons r t=>exact .cons ⟨r.1,r.2⟩ (ih _ t)
noncomputable def Itn (d:Addr)(o:Obj)(ks:List Int):It:=
 ⟨fun i H=>H d=some (kn d o)/\i<ks.length,fun i H x H'=>H'=H/\∃k,ks[i]? =some k/\x= .int k,fun i H=>H d=some (kn d o)/\ks.length<=i⟩
theorem zms (d it:Addr)(dn:DkN d o zs ks ys):Turn P w K tg (Itn d o ks) [it] it (fun i h=>∃es ep,o.data= .dict es ep/\h.IsKeyIter it d i ks.length ep) where
 mem:=by simp
 obj:=fun i h ⟨es,ep,_,st⟩ b hb=>by
  have e:b=it:=by simpa using hb
  subst e
  obtain⟨o,e,c,d⟩:=st
  exact⟨o,e,fun v z=>by rw[d]at z;cases z⟩
 keep:=fun i h h' ⟨es,ep,q,st⟩ k=>⟨es,ep,q,st.at fun o e=>k it (by simp) o e⟩
 item:=by
  intro X hP hw hK hc i pins s σ H E I hf ⟨es,ep,q,st⟩ hg
  subst hP hw hK
  have g:=zkE I.hok hg.1
  obtain⟨es',ep',h2,he⟩:=dn.dat
  rw[h2]at q;cases q
  have hz:es.size=ks.length:=by have h1:=congrArg List.length he;have h2:=congrArg List.length dn.zk;simp at h1 h2;lia
  obtain⟨f0,f1,f2,f3,f4,f5⟩:=hf it (by simp)
  have hi:i<es.size:=by rw[hz];exact hg.2
  rw[<-hz]at st
  refine raw_item st g h2 hi fun h' st' sb=>?_
  have I1:Inv X pins σ H {s with heap:=h'}:=I.turned (t':=s.toks) (fun b o hb e=>(sb.2 b hb).trans e) f0 f1 f3 f4 f5
  obtain⟨o',e,c,d'⟩:=id st'
  have hx:zs[i]? =some (zs[i]'(by have:=congrArg List.length dn.zk;simp at this;lia)):=List.getElem?_eq_getElem _
  generalize zs[i]'_=z at hx
  have hk:ks[i]? =some z.1:=by rw[<-dn.zk,List.getElem?_map,hx];rfl
  have key:es[i].key= .int z.1 z.2.1:=by
   have h1:es.toList[i]? =some es[i]:=by simp[hi]
   rw[he,List.getElem?_map,hx]at h1
   rw[<-Option.some.inj h1]
  rw[key]
  exact⟨_,rfl,go_of (s:={s with heap:=h'}) e c d' (by decide) ⟨.int z.1,H,I1,⟨_,rfl⟩,⟨rfl,_,hk,rfl⟩,⟨es,ep,h2,by rw[<-hz];exact st'⟩,fun b hb=>(hf b hb).1⟩⟩
 done:=by
  intro X hP hw hK hc i pins s σ H E I hf ⟨es,ep,q,st⟩ hg
  subst hP hw hK
  have g:=zkE I.hok hg.1
  obtain⟨es',ep',h2,he⟩:=dn.dat
  rw[h2]at q;cases q
  have hz:es.size=ks.length:=by have h1:=congrArg List.length he;have h2:=congrArg List.length dn.zk;simp at h1 h2;lia
  obtain⟨f0,f1,f2,f3,f4,f5⟩:=hf it (by simp)
  rw[<-hz]at st
  exact raw_end (I.ok.hd hc) st g h2 (by rw[hz];exact hg.2) fun h' eb=>⟨rfl,I.turned (t':=s.toks) (fun b o hb e=>eb b o hb e) f0 f1 f3 f4 f5⟩
 self:=fun _ _ _ _ _ ⟨_,_,_,st⟩ h=>wpAny_pyIter_keyiter st h
noncomputable def iKnN (tl:TE):TI:=fun σ H R=>tl σ H fun x H1=>∃d o zs ks ys,x= .ref d/\H1 d=some (kn d o)/\DkN d o zs ks ys/\R (Itn d o ks) H1
theorem pi_kn {tg l:Expr}{tl:TE}(hl:PE X l tl):PI X tg l (iKnN tl):=by
 intro pins s σ H R I h
 refine thn (hl pins s σ H _ I h) fun v s1 ⟨x,H1,I1,r1,q1⟩=>?_
 obtain⟨d,o,zs,ks,ys,e,hd,dn,q⟩:=q1
 subst e
 cases r1
 have g:=zkE I1.hok hd
 obtain⟨es,ep,h2,he⟩:=dn.dat
 have hz:es.size=ks.length:=by have h1:=congrArg List.length he;have h2:=congrArg List.length dn.zk;simp at h1 h2;lia
 refine raw_iter dn.sys g dn.ex h2 ?_
 refine⟨s1.heap.objs.size,[s1.heap.objs.size],_,_,H1,rfl,I1.kept (t':=s1.toks) fun b o e=>Heap.get?_push_of_some _ e,zms d _ dn,⟨es,ep,h2,_,Heap.get?_push_size _ rfl,rfl,by rw[hz];rfl⟩,fun b hb=>?_,q⟩
 have e:b=s1.heap.objs.size:=by simpa using hb
 subst e
 exact I1.fpOk (Nat.le_refl _) (I1.hok.fresh (Nat.le_refl _))
end
noncomputable def DkG (H:Hp)(x y:V)(r:Option V):Prop:=∃(a:Addr) (o:Obj) (zs:List (Int×Tok×Value)) (ks:List Int) (ys:List (L2.Key×V)) (k:Int),x= .ref a/\y= .int k/\H a=some (kn a o)/\DkN a o zs ks ys/\r=valV ys (kI k)
section
variable {X:Cx} {e i value:Expr} {td ty tv:TE} {pos pos':Pos}
noncomputable def tDGN (td ty:TE):TE:=fun σ H Q=>td σ H fun x H1=>ty σ H1 fun y H2=>∃v,DkG H2 x y (some v)/\Q v H2
theorem pe_dgetN (ho:PE X e td)(hi:PE X i ty)(hs:NoSl i):PE X (.Subscript e i pos) (tDGN td ty):=by
 intro pins s σ H Q I h
 refine subD_of PySem.F.slot_dict_getitem.lookup hs (thn (ho pins s σ H _ I h) fun u s1 ⟨x,H1,I1,rx,q1⟩=>thn (hi pins s1 σ H1 _ I1 q1) fun iv s2 ⟨y,H2,I2,ry,v,g,q2⟩=>?_)
 obtain⟨a,o,zs,ks,ys,k,rfl,rfl,g1,g2,g4⟩:=g
 obtain rfl:u=Value.ref a:=rx
 have dd:=g2.of (P:=X.prog) (w:=X.w) (zkE I2.hok g1)
 obtain⟨w',hw,rw'⟩:=RelO.some_of (v:=v) (o:=valueAt (vsK zs) (kI k)) (by rw[g4];exact g2.kvs.val (kI k))
 exact⟨dd.typeIs,wpAny_getItem_of (zn7 (k:=kI k) ry) dd.mapOf hw ⟨v,H2,I2.tok _,rw',q2⟩⟩
noncomputable def tDIN (neg:Bool)(ty td:TE):TE:=fun σ H Q=>ty σ H fun y H1=>td σ H1 fun x H2=>∃r,DkG H2 x y r/\Q (.bl (r.isSome !=neg)) H2
theorem pc_dinN (hi:PE X i ty)(ho:PE X e td):PC X .In i e (tDIN false ty td):=by
 intro pins s σ H Q I h
 refine thn (hi pins s σ H _ I h) fun iv s1 ⟨y,H1,I1,ry,q1⟩=>thn (ho pins s1 σ H1 _ I1 q1) fun u s2 ⟨x,H2,I2,rx,r,g,q2⟩=>?_
 obtain⟨a,o,zs,ks,ys,k,rfl,rfl,g1,g2,g4⟩:=g
 obtain rfl:u=Value.ref a:=rx
 have dd:=g2.of (P:=X.prog) (w:=X.w) (zkE I2.hok g1)
 refine wpAny_in_of (zn7 (k:=kI k) ry) g2.sys dd.mapOf ?_
 have q:=(g2.kvs.val (kI k)).isSome_eq
 rw[<-q,<-g4]
 have z:(r.isSome !=false)=r.isSome:=by cases r.isSome<;>rfl
 rw[z]at q2
 exact⟨.bl r.isSome,H2,I2.tok _,rfl,q2⟩
theorem zl2 (hi:PE X i ty)(ho:PE X e td):PC X .NotIn i e (tDIN true ty td):=by
 intro pins s σ H Q I h
 refine thn (hi pins s σ H _ I h) fun iv s1 ⟨y,H1,I1,ry,q1⟩=>thn (ho pins s1 σ H1 _ I1 q1) fun u s2 ⟨x,H2,I2,rx,r,g,q2⟩=>?_
 obtain⟨a,o,zs,ks,ys,k,rfl,rfl,g1,g2,g4⟩:=g
 obtain rfl:u=Value.ref a:=rx
 have dd:=g2.of (P:=X.prog) (w:=X.w) (zkE I2.hok g1)
 refine wpAny_notIn_of (zn7 (k:=kI k) ry) g2.sys dd.mapOf ?_
 have q:=(g2.kvs.val (kI k)).isSome_eq
 rw[<-q,<-g4]
 have z:(r.isSome !=true)=!r.isSome:=by cases r.isSome<;>rfl
 rw[z]at q2
 exact⟨.bl (!r.isSome),H2,I2.tok _,rfl,q2⟩
noncomputable def sDPN (td ty tv:TE):TS:=fun D σ H=>tv σ H fun v H1=>td σ H1 fun x H2=>ty σ H2 fun y H3=>∃(a:Addr) (o:Obj) (zs:List (Int×Tok×Value)) (ks:List Int) (ys:List (L2.Key×V)) (k:Int),x= .ref a/\y= .int k/\H3 a=some (kn a o)/\DkN a o zs ks ys/\ks.length<sizeLine/\∀o' zs' ks' ys',(∀ds dv,ks'=(ptD ks ds k dv).1)->ys'=putK ys (kI k) v->DkN a o' zs' ks' ys'->D.nx σ (upd H3 a (kn a o'))
theorem ptD_fst {J:Type}[DecidableEq J](ks:List J)(ds es:List D)(j:J)(d e:D):(ptD ks ds j d).1=(ptD ks es j e).1:=by unfold ptD;split<;>rfl
theorem ps_dputN (ho:PE X e td)(hi:PE X i ty)(hv:PE X value tv)(hs:swapsWith value (some (.Subscript e i pos')) pos.line X.env=pure false):
  PS X (.Assign [.Subscript e i pos'] value pos) (sDPN td ty tv):=by
 intro pins s σ H D I h
 refine wpAny_Assign_Subscript (thn (hv pins s σ H _ I h) fun r s1 ⟨v,H1,I1,rv,q1⟩=>thn (ho pins s1 σ H1 _ I1 q1) fun u s2 ⟨x,H2,I2,rx,q2⟩=>thn (hi pins s2 σ H2 _ I2 q2) fun iv s3 ⟨y,H3,I3,ry,a,o,zs,ks,ys,k,e1,e2,g1,g2,hl,q3⟩=>?_) hs
 subst e1 e2
 obtain rfl:u=Value.ref a:=rx
 have hz:(vsK zs).length<=sizeLine:=by rw[<-g2.kvs.length];exact g2.len
 refine wpAny_setItem_pairs (hsz:=hz) (zn7 (k:=kI k) ry) (g2.of (zkE I3.hok g1)) fun h' dd' hs=>?_
 obtain⟨o',zs',go,dn⟩:=g2.put hl rv dd' [] .non
 exact⟨σ,_,d_write I3 (by rw[g1];exact True.intro) hs ⟨o',go⟩ (kn_ok go),q3 o' zs' _ _ (fun ds dv=>ptD_fst _ _ _ _ _ _) rfl dn⟩
noncomputable def tDNewn:TE:=fun _ H Q=>∀p o,H p=none->DkN p o [] [] []->Q (.ref p) (upd H p (kn p o))
theorem pe_dnewN:PE X (.Dict [] [] pos) tDNewn:=fun pins s σ H Q I h=>
 wpAny_Dict_empty ⟨.ref s.heap.objs.size,_,I.laid (a:=s.heap.objs.size) (o:=kn s.heap.objs.size {cls:= .type "dict",data:= .dict #[]}) (t':=s.toks) (fun _ _ q=>Heap.get?_push_of_some _ q) (Nat.le_refl _) (kn_ok (Heap.get?_push_size _ rfl)),rfl,h _ _ (I.hok.fresh (Nat.le_refl _)) ⟨beq_eq_false_iff_ne.mpr (Ne.symm (Nat.ne_of_lt I.big)),⟨rfl,rfl,rfl⟩,⟨#[],0,rfl,rfl⟩,List.nodup_nil,Nat.zero_le _,rfl,rfl,.nil⟩⟩
end
noncomputable def OC (K:W.Frag)(c:Str)(ns:List Str):Prop:=∃C,W.nsIn K mainGlobals c=some (some (.ref C))/\Cls K C/\∀f∈ns,NoAttr K C f
theorem zdW:∀{vs:List (Str×V)} {ns:List Str} {k:Nat} {f:Str} {v:V},vs.map (·.1)=ns->ns[k]? =some f->(ns.take k).contains f=false->(vs.map (·.2))[k]? =some v->vs.lookup f=some v
 |[],_,_,_,_,e,h,_,_=>by subst e;simp at h
 |(g,u)::vs,_,0,f,v,e,h,_,q=>by
  subst e
  simp at h q
  subst h q
  simp[List.lookup]
 |(g,u)::vs,_,k+1,f,v,e,h,n,q=>by
  subst e
  rw[List.map_cons,List.take_succ_cons,List.contains_cons,Bool.or_eq_false_iff]at n
  have:=zdW (vs:=vs) rfl (by simpa using h) n.2 (by simpa using q)
  simp only[List.lookup,n.1,this]
theorem zf1:∀{vs:List (Str×V)} {f:Str},(vs.map (·.1)).contains f=false->vs.lookup f=none
 |[],_,_=>rfl
 |(g,u)::vs,f,n=>by
  rw[List.map_cons,List.contains_cons,Bool.or_eq_false_iff]at n
  simp only[List.lookup,n.1,zf1 n.2]
noncomputable def dAt (c:Str)(ns:List Str)(k:Nat):D->Option D
 | .obj c' ns' ls _ _=>if c'=c/\ns'=ns then ls[k]? else none
 |_=>none
noncomputable abbrev MK:=R->Option ((List Int×List D)×R)
noncomputable def SDkb (X:Cx)(e:Expr)(m:MK)(t:TE):Prop:=∀B G H σ ρ q ρ' (Q:VK),SI X.K B G H σ ρ->m ρ=some (q,ρ')->(∀G' H' p o zs ys,SI X.K B G' H' σ ρ'->Fz G G'->G' p=some (kn p o)->DkN p o zs q.1 ys->RepL X.K G' (ys.map (·.2)) q.2->Q (.ref p) H')->t σ H Q
noncomputable def SDk (X:Cx)(e:Expr)(m:MK):Prop:=∃t,PE X e t/\SDkb X e m t
theorem SDk.el {m:MK}{C:Prop}(h:SDk X e m)(k:∀t,PE X e t->SDkb X e m t->C):C:=h.elim fun t q=>k t q.1 q.2
noncomputable def kAt (c:Str)(ns:List Str)(me:ME):MK:=fun ρ=>(me ρ).bind fun p=>match p.1 with
 | .obj c' ns' _ ks ds=>if c'=c/\ns'=ns then some ((ks,ds),p.2)else none
 |_=>none
noncomputable def eKG (md:MK)(mi:ME):ME:=fun ρ=>(md ρ).bind fun p=>(mi p.2).bind fun q=>match q.1 with
 | .int k=>(lkD p.1.1 p.1.2 k).map fun d=>(d,q.2)
 |_=>none
noncomputable def tKI (neg:Bool)(mi:ME)(md:MK):MT:=fun ρ=>(mi ρ).bind fun p=>(md p.2).bind fun q=>match p.1 with
 | .int k=>some (((lkD q.1.1 q.1.2 k).isSome !=neg),q.2)
 |_=>none
noncomputable def iKN (md:MK):MA:=fun ρ=>(md ρ).map fun p=>(p.1.1.map .int,p.2)
structure MV (P:Program) (w:World) (K:W.Frag) (mg:Str->Option Value) (base:Heap) (k:Nat) (c m:Str) (sp:Sp):Prop where
 ex:∃C f fd ps,W.nsIn K mainGlobals c=some (some (.ref C))/\Cls K C/\Meth K C m f/\FnOk P w K mg base CX0 k f fd ps sp/\Binds K fd ps []
noncomputable def zcs (F:List D->Option Sl)(c:Str)(ns:List Str)(mo:ME)(ma:MA):ME:=fun ρ=>(mo ρ).bind fun p=>match p.1 with
 | .obj c' ns' ls ks ds=>if c'=c/\ns'=ns then(ma p.2).bind fun q=>(F (.obj c' ns' ls ks ds::q.1)).bind fun r=>match r with
  | .val d=>some (d,q.2)
  | .own ds=>some (.lst ds,q.2)
  |_=>none else none
 |_=>none
section
variable {X:Cx} {c f mt:Str} {ns:List Str} {e i a:Expr} {es:List Expr} {me mi mo:ME} {ma:MA} {md:MK} {p pos pos' ap:Pos} {k k' n:Nat} {F:List D->Option Sl} {tg:Expr}
theorem zbE (k:Nat)(oc:OC X.K c ns)(he:SE X e me)(hk:autoParam (ns[k]? =some f) zu3._auto_1)(hn:autoParam ((ns.take k).contains f=false) zu7._auto_1)(hb:autoParam (attributeBase e f X.env (eval e X.env)=eval e X.env) zu3._auto_1):SE X (.Attribute e f pos) (m1 (dAt c ns k) me):=by
 obtain⟨C,c1,c2,c3⟩:=oc
 refine he.el fun t pe se=>?_
 refine⟨_,zk7 pe hb,fun B G H σ ρ d ρ' Q I hm kk=>?_⟩
 refine zaz hm fun o ρ1 e1 hm'=>?_
 clear hm;have hm:=hm';clear hm';try dsimp only at hm
 refine cMel hm fun d' e2 e3=>?_
 cases e3
 refine se B G H σ ρ o _ _ I e1 fun G1 H1 v I1 f1 r1=>?_
 cases o<;>try exact cNN e2
 rename_i c' ns' ls ks ds
 unfold dAt at e2
 dsimp only at e2
 split at e2
 ·rename_i h
  obtain⟨rfl,rfl⟩:=h
  obtain⟨a,C2,dx,vs,ws,q,o,zs,ys,rfl,h1,h2,h3,h4,h5,h6,h7,h8⟩:=r1
  rw[c1]at h1;cases h1
  obtain⟨x,g1,g2⟩:=h5.get e2
  refine⟨a,C,dx,vs,x,rfl,I1.fz _ _ h2,c2,c3 f (List.mem_of_getElem? hk),zdW h3 hk hn ?_,kk G1 H1 x I1 f1 g2⟩
  rw[h4,List.getElem?_append_left (List.getElem?_eq_some_iff.mp g1).1,g1]
 ·exact cNN e2
theorem zgy (k:Nat)(oc:OC X.K c ns)(he:SE X e me)(hk:autoParam (ns[k]? =some f) zu3._auto_1)(hl:autoParam (k+1=ns.length) zu3._auto_1)(hn:autoParam ((ns.take k).contains f=false) zu7._auto_1)(hb:autoParam (attributeBase e f X.env (eval e X.env)=eval e X.env) zu3._auto_1):SDk X (.Attribute e f pos) (kAt c ns me):=by
 obtain⟨C,c1,c2,c3⟩:=oc
 refine he.el fun t pe se=>?_
 refine⟨_,zk7 pe hb,fun B G H σ ρ d ρ' Q I hm kk=>?_⟩
 refine zaz hm fun o ρ1 e1 hm'=>?_
 clear hm;have hm:=hm';clear hm';try dsimp only at hm
 try dsimp only at hm
 refine se B G H σ ρ o ρ1 _ I e1 fun G1 H1 v I1 f1 r1=>?_
 cases o<;>try exact cNN hm
 rename_i c' ns' ls ks ds
 dsimp only at hm
 split at hm
 ·rename_i h
  obtain⟨rfl,rfl⟩:=h
  cases hm
  obtain⟨a,C2,dx,vs,ws,q,o,zs,ys,rfl,h1,h2,h3,h4,h5,h6,h7,h8⟩:=r1
  rw[c1]at h1;cases h1
  refine⟨a,C,dx,vs,.ref q,rfl,I1.fz _ _ h2,c2,c3 f (List.mem_of_getElem? hk),zdW h3 hk hn ?_,kk G1 H1 q o zs ys I1 f1 h6 h7 h8⟩
  have l1:=congrArg List.length h3
  have l2:=congrArg List.length h4
  simp at l1 l2
  rw[h4,show k=ws.length by lia]
  simp
 ·exact cNN hm
theorem zg8 (hd:SDk X e md)(hi:SE X i mi)(hs:autoParam (NoSl i) zu6._auto_1):SE X (.Subscript e i pos) (eKG md mi):=by
  refine hd.el fun t pd sd=>?_
  refine hi.el fun u pi si=>?_
  refine⟨_,pe_dgetN pd pi hs,fun B G H σ ρ d ρ' Q I hm kk=>?_⟩
  refine zaz hm fun q ρ1 e1 hm'=>?_
  clear hm;have hm:=hm';clear hm';try dsimp only at hm
  refine zaz hm fun y ρ2 e2 hm'=>?_
  clear hm;have hm:=hm';clear hm';try dsimp only at hm
  refine sd B G H σ ρ q ρ1 _ I e1 fun G1 H1 p o zs ys I1 f1 g1 g2 g3=>si B G1 H1 σ ρ1 y ρ2 _ I1 e2 fun G2 H2 v I2 f2 r2=>?_
  cases y<;>try exact cNN hm
  rename_i n
  refine cMel hm fun d' e3 e4=>?_
  cases e4
  obtain⟨w,h1,h2⟩:=zkx zhJ g2.key (g3.mono f2) e3
  exact⟨w,⟨p,o,zs,q.1,ys,n,rfl,r2,I2.fz _ _ (f2 _ _ g1),g2,h1.symm⟩,kk G2 H2 w I2 (f1.trans f2) h2⟩
theorem st_dkIn (hi:SE X i mi)(hd:SDk X e md)(hm:autoParam (behindInMarks .In e=false) zu3._auto_1):STt X (.Compare i [.In] [e] pos) (tKI false mi md):=by
 refine hd.el fun t pd sd=>?_
 refine hi.el fun u pi si=>?_
 refine⟨_,pt_cmp (pc_dinN pi pd) hm,fun B G H σ ρ b ρ' Q I hm kk=>?_⟩
 refine zaz hm fun y ρ1 e1 hm'=>?_
 clear hm;have hm:=hm';clear hm';try dsimp only at hm
 refine zaz hm fun q ρ2 e2 hm'=>?_
 clear hm;have hm:=hm';clear hm';try dsimp only at hm
 refine si B G H σ ρ y ρ1 _ I e1 fun G1 H1 v I1 f1 r1=>sd B G1 H1 σ ρ1 q ρ2 _ I1 e2 fun G2 H2 p o zs ys I2 f2 g1 g2 g3=>?_
 cases y<;>try cases hm
 rename_i n
 refine⟨valV ys (kI n),⟨p,o,zs,q.1,ys,n,rfl,r1,I2.fz _ _ g1,g2,rfl⟩,_,rfl,?_⟩
 rw[zjA zhJ g2.key g3]
 exact kk G2 H2 I2 (f1.trans f2)
theorem zmq (hi:SE X i mi)(hd:SDk X e md)(hm:autoParam (behindInMarks .NotIn e=false) zu3._auto_1):STt X (.Compare i [.NotIn] [e] pos) (tKI true mi md):=by
 refine hd.el fun t pd sd=>?_
 refine hi.el fun u pi si=>?_
 refine⟨_,pt_cmp (zl2 pi pd) hm,fun B G H σ ρ b ρ' Q I hm kk=>?_⟩
 refine zaz hm fun y ρ1 e1 hm'=>?_
 clear hm;have hm:=hm';clear hm';try dsimp only at hm
 refine zaz hm fun q ρ2 e2 hm'=>?_
 clear hm;have hm:=hm';clear hm';try dsimp only at hm
 refine si B G H σ ρ y ρ1 _ I e1 fun G1 H1 v I1 f1 r1=>sd B G1 H1 σ ρ1 q ρ2 _ I1 e2 fun G2 H2 p o zs ys I2 f2 g1 g2 g3=>?_
 cases y<;>try cases hm
 rename_i n
 refine⟨valV ys (kI n),⟨p,o,zs,q.1,ys,n,rfl,r1,I2.fz _ _ g1,g2,rfl⟩,_,rfl,?_⟩
 rw[zjA zhJ g2.key g3]
 exact kk G2 H2 I2 (f1.trans f2)
theorem it_dk (hd:SDk X e md):SIt X tg e (iKN md):=by
 refine hd.el fun t pd sd=>?_
 refine⟨_,pi_kn pd,fun B G H σ ρ ds ρ' Q I hm kk=>?_⟩
 refine zdO hm fun q ρ1 e1 hm'=>?_
 clear hm;have hm:=hm';clear hm';try dsimp only at hm
 cases hm
 refine sd B G H σ ρ q _ _ I e1 fun G1 H1 p o zs ys I1 f1 g1 g2 g3=>⟨p,o,zs,q.1,ys,rfl,I1.fz _ _ g1,g2,?_⟩
 refine kk _ _ _ I1 f1 ⟨fun H' i f hi=>⟨f _ _ g1,by simpa using hi⟩,fun H' i x H'' f y d ed=>?_,fun H' i f hi=>⟨f _ _ g1,by simpa using hi⟩⟩
 obtain⟨rfl,y,ey,rfl⟩:=y
 refine .inl ⟨rfl,?_⟩
 rw[List.getElem?_map,ey]at ed
 cases ed
 rfl
theorem zlD (hc:ns.contains mt=false)(md:MV X.prog X.w X.K X.mg X.base k c mt (spP X.K n F))(hr:Room k' X.A)(he:SE X e mo)(ha:SA X (a::es) ma)(hn:autoParam ((a::es).length+1=n) zu3._auto_1)(hk:autoParam (k<=k') zu1._auto_1)
  (hst:autoParam (starEach (a::es) X.env=(false,eval a X.env)::starEach es X.env) zu3._auto_1) (hpl:autoParam ((backTo pos (starEach es X.env)).any (·.1)=false) zu3._auto_1) (hlen:∀ρ as ρ',ma ρ=some (as,ρ')->as.length+1=n)
  (ht :autoParam (eval (.Call (.Attribute e mt ap) (a :: es) [] pos) X.env = (do
   let ov<-eval e X.env
   standAt ap.atName
   let(f,first)<-holding [ov] (getMethod ov mt pl)
   callWith pos f first (backTo pos (starEach (a::es) X.env)) (backToKw pos (keywordEach [] X.env)))) zu3._auto_1):SE X (.Call (.Attribute e mt ap) (a::es) [] pos) (zcs F c ns mo ma):=by
 obtain⟨C,f,fdd,ps,c1,c2,c3,c4,c5⟩:=md.ex
 refine ha.el fun t pa sa=>?_
 refine he.el fun u pe se=>?_
 refine⟨_,zoH pe c2 c3 (c4) (hr.mono hk) c5 .nil zkK pa hst hpl ht,fun B G H σ ρ d ρ' Q I hm kk=>?_⟩
 refine zaz hm fun o ρ1 e1 hm'=>?_
 clear hm;have hm:=hm';clear hm';try dsimp only at hm
 refine se B G H σ ρ o ρ1 _ I e1 fun G1 H1 v I1 f1 r1=>?_
 cases o<;>try exact cNN hm
 rename_i c' ns' ls ks ds
 dsimp only at hm
 split at hm
 ·rename_i h
  obtain⟨rfl,rfl⟩:=h
  have r1':=r1
  obtain⟨q,C2,dx,vs,ws,p2,o,zs,ys,rfl,h1,h2,h3,h4⟩:=r1
  rw[c1]at h1;cases h1
  obtain⟨⟨as,ρ2⟩,e2,hm'⟩:=zdm hm
  clear hm;have hm:=hm';clear hm';try dsimp only at hm
  refine cBel hm fun r e3 hm'=>?_
  clear hm;have hm:=hm';clear hm';try dsimp only at hm
  refine⟨q,dx,vs,rfl,I1.fz _ _ h2,zf1 (by rw[h3];exact hc),sa B G1 H1 σ ρ1 as ρ2 _ I1 e2 fun G2 H2 us I2 f2 r2=>?_⟩
  rw[List.append_nil]
  refine⟨G2,_::as,r,e3,by rw[List.length_cons];exact hlen _ _ _ e2,I2.fz,.cons (r1'.mono f2) r2,fun G3 H3 v f3 fz3 nw kp rr=>?_⟩
  have I3:=I2.grow f3 fz3 nw kp
  cases r with
  |val d'=>obtain⟨rfl,rfl⟩:=cSp hm;exact kk G3 H3 v I3 (f1.trans (f2.trans f3)) rr
  |own ds=>
   obtain⟨rfl,rfl⟩:=cSp hm
   obtain⟨l,xs,rfl,g3,h3,r3,b3⟩:=rr
   obtain⟨I4,f4,r4⟩:=zgK I3 g3 h3 r3 (I2.there l b3) (I2.own_ne b3 nw kp)
   exact kk _ H3 _ I4 (f1.trans (f2.trans (f3.trans f4))) r4
  |emp=>exact cNN hm
  |two _ _=>exact cNN hm
  |tre _=>exact cNN hm
  |ptr _=>exact cNN hm
  |par _=>exact cNN hm
 ·exact cNN hm
theorem zcq (hc:ns.contains mt=false)(md:MV X.prog X.w X.K X.mg X.base k c mt (spP X.K 1 F))(hr:Room k' X.A)(he:SE X e mo)(hk:autoParam (k<=k') zu1._auto_1)
  (ht :autoParam (eval (.Call (.Attribute e mt ap) [] [] pos) X.env = (do
   let ov<-eval e X.env
   standAt ap.atName
   let(f,first)<-holding [ov] (getMethod ov mt pl)
   callWith pos f first (backTo pos (starEach [] X.env)) (backToKw pos (keywordEach [] X.env)))) zu3._auto_1):SE X (.Call (.Attribute e mt ap) [] [] pos) (zcs F c ns mo aNil):=by
 obtain⟨C,f,fdd,ps,c1,c2,c3,c4,c5⟩:=md.ex
 refine he.el fun u pe se=>?_
 refine⟨_,pe_meth0 pe c2 c3 c4 (hr.mono hk) c5 .nil zkK ht,fun B G H σ ρ d ρ' Q I hm kk=>?_⟩
 refine zaz hm fun o ρ1 e1 hm'=>?_
 clear hm;have hm:=hm';clear hm';try dsimp only at hm
 refine se B G H σ ρ o ρ1 _ I e1 fun G1 H1 v I1 f1 r1=>?_
 cases o<;>try exact cNN hm
 rename_i c' ns' ls ks ds
 dsimp only at hm
 split at hm
 ·rename_i h
  obtain⟨rfl,rfl⟩:=h
  have r1':=r1
  obtain⟨q,C2,dx,vs,ws,p2,o,zs,ys,rfl,h1,h2,h3,h4⟩:=r1
  rw[c1]at h1;cases h1
  obtain⟨⟨as,ρ2⟩,e2,hm'⟩:=zdm hm
  clear hm;have hm:=hm';clear hm';try dsimp only at hm
  obtain⟨rfl,rfl⟩:=cSp e2
  refine cBel hm fun r e3 hm'=>?_
  clear hm;have hm:=hm';clear hm';try dsimp only at hm
  refine⟨q,dx,vs,rfl,I1.fz _ _ h2,zf1 (by rw[h3];exact hc),?_⟩
  refine⟨G1,[_],r,e3,rfl,I1.fz,.cons r1' .nil,fun G3 H3 v f3 fz3 nw kp rr=>?_⟩
  have I3:=I1.grow f3 fz3 nw kp
  cases r with
  |val d'=>obtain⟨rfl,rfl⟩:=cSp hm;exact kk G3 H3 v I3 (f1.trans f3) rr
  |own ds=>
   obtain⟨rfl,rfl⟩:=cSp hm
   obtain⟨l,xs,rfl,g3,h3,r3,b3⟩:=rr
   obtain⟨I4,f4,r4⟩:=zgK I3 g3 h3 r3 (I1.there l b3) (I1.own_ne b3 nw kp)
   exact kk _ H3 _ I4 (f1.trans (f3.trans f4)) r4
  |emp=>exact cNN hm
  |two _ _=>exact cNN hm
  |tre _=>exact cNN hm
  |ptr _=>exact cNN hm
  |par _=>exact cNN hm
 ·exact cNN hm
end
noncomputable def Sl.ob:Sl->Option (Str×List Str×List (List D)×Option (List Int×List D))
 | .tre (.obj c ns ls dk)=>some (c,ns,ls,dk)
 | .ptr (.obj c ns ls dk)=>some (c,ns,ls,dk)
 |_=>none
structure ObAt (K:W.Frag) (G H:Hp) (p C dx:Addr) (c:Str) (ns:List Str) (ls:List (List D)) (dk:Option (List Int×List D)) (vs:List (Str×V)) (A:List Addr):Prop where
 nc:W.nsIn K mainGlobals c=some (some (.ref C))
 ob:H p=some (.ins C dx vs)
 dx:H dx=some (.own p)
 nm:vs.map (·.1)=ns
 rp:RepO K G H (vs.map (·.2)) ls dk A
section
variable {K:W.Frag} {B:Bs} {G G' H H':Hp} {σ:St} {ρ:R} {p C dx:Addr} {c:Str} {ns ns':List Str} {ls ls':List (List D)} {dk dk':Option (List Int×List D)} {vs vs':List (Str×V)} {A A':List Addr}
theorem ObAt.rep (b:ObAt K G H p C dx c ns ls dk vs A):RepT K G H (.ref p) (.obj c ns ls dk) (p::dx::A):=⟨p,C,dx,vs,A,rfl,b.nc,b.ob,b.dx,b.nm,b.rp,rfl⟩
theorem ob_rep (r:RepT K G H v (.obj c ns ls dk) A):∃p C dx vs A',v= .ref p/\A=p::dx::A'/\ObAt K G H p C dx c ns ls dk vs A':=by
 obtain⟨p,C,dx,vs,A',h1,h2,h3,h4,h5,h6,h7⟩:=r
 exact⟨p,C,dx,vs,A',h1,h7,h2,h3,h4,h5,h6⟩
theorem zoP (q:s.ob=some (c,ns,ls,dk)):s= .tre (.obj c ns ls dk)\/s= .ptr (.obj c ns ls dk):=by
 cases s with
 |tre t=>cases t<;>cases q;exact .inl rfl
 |ptr t=>cases t<;>cases q;exact .inr rfl
 |_=>exact cNN q
theorem SI.obj (I:SI K B G H σ ρ){s:Sl}(e:ρ[j]? =some s)(q:s.ob=some (c,ns,ls,dk)):∃p C dx vs A,σ[j]? =some (some (.ref p))/\ObAt K G H p C dx c ns ls dk vs A/\(p::dx::A).Nodup/\(∀a,OwS K G H σ[j]? a s↔a∈p::dx::A):=by
 have h:=I.slot j s e
 have fin:∀{v:V} {A:List Addr},σ[j]? =some (some v)->RepT K G H v (.obj c ns ls dk) A->A.Nodup->(∀a,OwS K G H σ[j]? a s↔∃v A,σ[j]? =some (some v)/\RepT K G H v (.obj c ns ls dk) A/\a∈A)->∃p C dx vs A,σ[j]? =some (some (.ref p))/\ObAt K G H p C dx c ns ls dk vs A/\(p::dx::A).Nodup/\(∀a,OwS K G H σ[j]? a s↔a∈p::dx::A):=fun{v A} h1 h2 h3 h4=>by
  have h2':=h2
  obtain⟨p,C,dx,vs,A',rfl,rfl,b⟩:=ob_rep h2
  refine⟨p,C,dx,vs,A',h1,b,h3,fun a=>(h4 a).trans ⟨fun⟨v2,A2,k1,k2,k3⟩=>?_,fun m=>⟨_,_,h1,h2',m⟩⟩⟩
  rw[h1]at k1;cases k1
  rwa[h2'.det k2 fun _ _=>rfl]
 rcases zoP q with rfl|rfl
 ·obtain⟨v,A,h1,h2,h3,_⟩:=h
  exact fin h1 h2 h3 fun a=>Iff.rfl
 ·obtain⟨v,A,h1,h2,h3,_⟩:=h
  exact fin h1 h2 h3.1 fun a=>Iff.rfl
theorem SI.chO (I:SI K B G H σ ρ)(e:ρ[j]? =some s)(q:s.ob=some (c,ns,ls,dk))(hp:σ[j]? =some (some (.ref p)))(b:ObAt K G H p C dx c ns ls dk vs A)(nd:(p::dx::A).Nodup)(ow:∀a,OwS K G H σ[j]? a s↔a∈p::dx::A)
  (fz:Fz G H') (kp:∀x o,x∉p::dx::A->H x=some o->H' x=some o) (th:∀x,H' x=none->H x=none) (b':ObAt K G H' p C dx c ns' ls' dk' vs' A') (nd':(p::dx::A').Nodup) (sub:∀a∈A',a∈A\/(G a=none/\B.H a=none/\Nw K G H σ ρ a)):
  SI K B G H' σ (ρ.set j (s.putT (.obj c ns' ls' dk'))):=by
 have sl:=I.slot j s e
 have sub2:∀a∈p::dx::A',a∈p::dx::A\/(G a=none/\B.H a=none/\Nw K G H σ ρ a):=fun a m=>by
  rcases List.mem_cons.mp m with rfl|m
  ·exact .inl (by simp)
  rcases List.mem_cons.mp m with rfl|m
  ·exact .inl (by simp)
  ·exact(sub a m).imp (fun z=>by simp[z]) id
 have g':∀a∈p::dx::A',G a=none:=fun a m=>(sub2 a m).elim (fun z=>(sl.own ((ow a).mpr z)).1) fun z=>z.1
 have h:=I.chg (i:=j) (ov:=some (.ref p)) (s':=s.putT (.obj c ns' ls' dk')) (G':=G) (H':=H') fz (Fz.refl G) I.new (fun x o k1 k2=>kp x o (fun m=>?_) (I.keep x o k1 k2)) (fun x k=>I.there x (th x k)) (fun i t a z ei w g ha=>?_) ?_
 ·rwa[zgW hp]at h
 ·rcases(sl.own ((ow x).mpr m)).2.2 with z|z
  ·rw[k1]at z;cases z
  ·exact k2 j z
 ·have na:a∉p::dx::A:=fun m=>I.dis i j t s a z ei e w ((ow a).mpr m)
  obtain⟨x,hx⟩:=Option.ne_none_iff_exists'.mp ha
  refine⟨g,(kp a x na hx).trans hx.symm,fun w'=>?_⟩
  have:∃v A,some (some (V.ref p))=some (some v)/\RepT K G H' v (.obj c ns' ls' dk') A/\a∈A:=by
   rcases zoP q with rfl|rfl<;>exact w'
  obtain⟨v2,A2,k1,k2,k3⟩:=this
  cases k1
  rw[<-b'.rep.det k2 fun _ _=>rfl]at k3
  rcases sub2 a k3 with y|y
  ·exact na y
  ·exact y.2.2 i t ei w
 ·rcases zoP q with rfl|rfl
  ·obtain⟨v,A0,h1,h2,h3,h4⟩:=sl
   rw[hp]at h1;cases h1
   have eA:p::dx::A=A0:=b.rep.det h2 fun _ _=>rfl
   subst eA
   exact⟨.ref p,_,rfl,b'.rep,nd',fun a m=>⟨g' a m,(sub2 a m).elim (fun z=>(h4 a z).2) fun z=>z.2.1⟩⟩
  ·obtain⟨v,A0,h1,h2,h3,h4⟩:=sl
   rw[hp]at h1;cases h1
   have eA:p::dx::A=A0:=b.rep.det h2 fun _ _=>rfl
   subst eA
   obtain⟨h3,p2,y1,y2,y3⟩:=h3
   cases y1
   exact⟨.ref p,_,rfl,b'.rep,⟨nd',p,rfl,y2,fun _=>y3 rfl⟩,fun a m=>⟨g' a m,(sub2 a m).elim (fun z=>(h4 a z).2) fun z=> .inr ⟨z.2.1,p,rfl,y3 rfl⟩⟩⟩
theorem zfu:∀{xs:List V} {dss:List (List D)} {A:List Addr} {k:Nat} {ds:List D},RepTb K G H xs dss A->dss[k]? =some ds->∃l ys,xs[k]? =some (.ref l)/\A[k]? =some l/\H l=some (.lst ys)/\RepL K G ys ds
 |[],[],_,_,_,_,e=>by simp at e
 |x::xs,d::dss,A,0,ds,⟨r,ys,A2,e1,e2,e3,e4,e5⟩,e=>by
  simp at e
  subst e
  exact⟨r,ys,by rw[e1];rfl,by rw[e5];rfl,e2,e3⟩
 |x::xs,d::dss,A,k+1,ds,⟨r,ys,A2,e1,e2,e3,e4,e5⟩,e=>by
  obtain⟨l,zs,h1,h2,h3,h4⟩:=zfu (k:=k) e4 (by simpa using e)
  exact⟨l,zs,by simpa using h1,by rw[e5];simpa using h2,h3,h4⟩
 |[],_::_,_,_,_,h,_=>h.elim
 |_::_,[],_,_,_,h,_=>h.elim
theorem zhc:∀{xs:List V} {dss:List (List D)} {A:List Addr},RepTb K G H xs dss A->xs.length=dss.length/\A.length=dss.length
 |[],[],_,h=>by rw[show _=[]from h];exact⟨rfl,rfl⟩
 |x::xs,d::dss,A,⟨r,ys,A2,e1,e2,e3,e4,e5⟩=>by
  obtain⟨h1,h2⟩:=zhc e4
  rw[e5]
  exact⟨by simp[h1],by simp[h2]⟩
 |[],_::_,_,h=>h.elim
 |_::_,[],_,h=>h.elim
theorem zhK:∀{xs:List V} {dss:List (List D)} {A:List Addr} {k:Nat} {l l':Addr} {ys:List V} {ds:List D},RepTb K G H xs dss A->A[k]? =some l->Fz G G'->(∀a∈A,a≠l->H' a=H a)->A.Nodup->H' l'=some (.lst ys)->RepL K G' ys ds->RepTb K G' H' (xs.set k (.ref l')) (dss.set k ds) (A.set k l')
 |[],[],_,_,_,_,_,_,h,e,_,_,_,_,_=>by rw[show _=[]from h]at e;simp at e
 |x::xs,d::dss,A,0,l,l',ys,ds,⟨r,zs,A2,e1,e2,e3,e4,e5⟩,e,fg,hh,nd,hl,rr=>by
  subst e5
  simp at e
  subst e
  rw[List.nodup_cons]at nd
  exact⟨l',ys,A2,rfl,hl,rr,e4.move fg fun a m=>hh a (by simp[m]) fun z=>nd.1 (z ▸ m),rfl⟩
 |x::xs,d::dss,A,k+1,l,l',ys,ds,⟨r,zs,A2,e1,e2,e3,e4,e5⟩,e,fg,hh,nd,hl,rr=>by
  subst e5
  rw[List.nodup_cons]at nd
  have e':A2[k]? =some l:=by simpa using e
  exact⟨r,zs,A2.set k l',e1,by rw[hh r (by simp) fun z=>nd.1 (z ▸ List.mem_of_getElem? e')];exact e2,e3.mono fg,zhK e4 e' fg (fun a m=>hh a (by simp[m])) nd.2 hl rr,rfl⟩
 |[],_::_,_,_,_,_,_,_,h,_,_,_,_,_,_=>h.elim
 |_::_,[],_,_,_,_,_,_,h,_,_,_,_,_,_=>h.elim
theorem zj1:∀{xs:List V} {dss:List (List D)} {A:List Addr} {l:Addr} {ys:List V} {ds:List D},RepTb K G H xs dss A->H l=some (.lst ys)->RepL K G ys ds->RepTb K G H (xs++[.ref l]) (dss++[ds]) (A++[l])
 |[],[],_,l,ys,ds,h,h1,h2=>by rw[show _=[]from h];exact⟨l,ys,[],rfl,h1,h2,rfl,rfl⟩
 |x::xs,d::dss,A,l,ys,ds,⟨r,zs,A2,e1,e2,e3,e4,e5⟩,h1,h2=>by
  subst e5
  exact⟨r,zs,A2++[l],e1,e2,e3,zj1 e4 h1 h2,rfl⟩
 |[],_::_,_,_,_,_,h,_,_=>h.elim
 |_::_,[],_,_,_,_,h,_,_=>h.elim
theorem zlA (r:RepO K G H xs ls dk A)(e:ls[k]? =some ds):∃l ys,xs[k]? =some (.ref l)/\A[k]? =some l/\H l=some (.lst ys)/\RepL K G ys ds:=by
 cases dk with
 |none=>exact zfu (show RepTb K G H xs ls A from r) e
 |some q=>
  obtain⟨ws,p,o,zs,ys,A',rfl,r1,q1,q2,q3,rfl⟩:=r
  obtain⟨l,ys,h1,h2,h3,h4⟩:=zfu r1 e
  exact⟨l,ys,by rw[List.getElem?_append_left (List.getElem?_eq_some_iff.mp h1).1];exact h1,by rw[List.getElem?_append_left (List.getElem?_eq_some_iff.mp h2).1];exact h2,h3,h4⟩
theorem zk3 {l l':Addr}(r:RepO K G H xs ls dk A)(hk:k<ls.length)(e:A[k]? =some l)(fg:Fz G G')(hh:∀a∈A,a≠l->H' a=H a)(nd:A.Nodup)(hl:H' l'=some (.lst ys))(rr:RepL K G' ys ds):RepO K G' H' (xs.set k (.ref l')) (ls.set k ds) dk (A.set k l'):=by
 cases dk with
 |none=>exact zhK (show RepTb K G H xs ls A from r) e fg hh nd hl rr
 |some q=>
  obtain⟨ws,p,o,zs,ys',A',rfl,r1,q1,q2,q3,rfl⟩:=r
  obtain⟨l1,l2⟩:=zhc r1
  have hA:k<A'.length:=by lia
  have e':A'[k]? =some l:=by rw[List.getElem?_append_left hA]at e;exact e
  rw[List.nodup_append]at nd
  have pl:p≠l:=fun z=>nd.2.2 l (List.mem_of_getElem? e') p (by simp) z.symm
  exact⟨ws.set k (.ref l'),p,o,zs,ys',A'.set k l',List.set_append_left _ _ (by lia),zhK r1 e' fg (fun a m=>hh a (by simp[m])) nd.1 hl rr,by rw[hh p (by simp) pl];exact q1,q2,q3.mono fg,List.set_append_left _ _ hA⟩
end
noncomputable def isLst:D->Bool
 | .lst _=>true
 |_=>false
noncomputable def okLs (ls:List (List D)):Bool:=ls.all fun l=>l.any isLst
noncomputable def fl2:D->Bool
 | .lst ds=>ds.all zmb
 |d=>flD d
noncomputable def obD (c:Str)(ns:List Str)(ls:List (List D))(q:List Int×List D):D:= .obj c ns (ls.map D.lst) q.1 q.2
noncomputable def eLkO (j:Nat)(m:ME):ME:=fun ρ=>match ρ[j]?.bind Sl.ob with
 |some (c,ns,ls,some dk)=>(m (ρ.set j (.val (obD c ns ls dk)))).bind fun p=>if okLs ls&&fl2 p.1&&((ρ.set j .emp).zip p.2).all (fun q=>zgY q.1 q.2)then some (p.1,ρ)else none
 |_=>none
noncomputable def oLkO (j:Nat)(m:MO):MO:=fun ρ=>match ρ[j]?.bind Sl.ob with
 |some (c,ns,ls,some dk)=>(m (ρ.set j (.val (obD c ns ls dk)))).bind fun p=>if okLs ls&&p.1.all fl2&&((ρ.set j .emp).zip p.2).all (fun q=>zgY q.1 q.2)then some (p.1,ρ)else none
 |_=>none
noncomputable def Od2 (o:HO):Prop:=(∀xs,o≠ .tup xs)/\∀xs,o= .lst xs->¬ ∀x∈xs,∃i,x=V.int i
theorem od_ins {C dx:Addr}:Od2 (.ins C dx vs):=by constructor<;>(intro xs z;cases z)
theorem od_own:Od2 (.own p):=by constructor<;>(intro xs z;cases z)
theorem od_kn:Od2 (kn p o):=by constructor<;>(intro xs z;cases z)
theorem od_lst (h:¬ ∀x∈ys,∃i,x=V.int i):Od2 (.lst ys):=by
 constructor
 ·intro xs z;cases z
 ·intro xs z;cases z;exact h
section
variable {K:W.Frag} {B B2:Bs} {G G' G2 H H' H2:Hp} {σ:St} {ρ:R}
theorem zmi {s s1:Sl}(lk:zgY s s1=true)(q:SlotOk K B G H i σ[i]? s)(q1:SlotOk K B2 G2 H2 i σ[i]? s1)(w:OwS K G H σ[i]? a s):G2 a=none/\H2 a=H a:=by
 cases s with
 |emp=>exact w.elim
 |two _ _=>exact w.elim
 |val d=>exact w.elim
 |tre _=>cases s1<;>cases lk
 |ptr _=>cases s1<;>cases lk
 |own d0=>
  cases s1 with
  |own d1=>
   obtain⟨ns,rfl,rfl⟩:=zjt lk
   obtain⟨a1,xs1,m1,m2,m3,m4,m5⟩:=q1
   obtain⟨a0,xs0,n1,n2,n3,n4,n5⟩:=q
   cases n1.symm.trans (show σ[i]? =some (some (.ref a))from w)
   cases n1.symm.trans m1
   exact⟨m2,by rw[m3,n3,RepL.ints_eq m4,RepL.ints_eq n4]⟩
  |_=>cases lk
 |par d0=>
  cases s1 with
  |par d1=>
   obtain⟨ns,rfl,rfl⟩:=zjt lk
   obtain⟨a1,xs1,m1,m2,m3,m4,m5⟩:=q1
   obtain⟨a0,xs0,n1,n2,n3,n4,n5⟩:=q
   cases n1.symm.trans (show σ[i]? =some (some (.ref a))from w)
   cases n1.symm.trans m1
   exact⟨m2,by rw[m3,n3,RepL.ints_eq m4,RepL.ints_eq n4]⟩
  |_=>cases lk
theorem zhf:∀{ds:List D},ds.all zmb=true->∃ns:List Int,ds=ns.map .int
 |[],_=>⟨[],rfl⟩
 |d::ds,h=>by
  rw[List.all_cons,Bool.and_eq_true]at h
  obtain⟨ns,e⟩:=zhf h.2
  cases d with
  |int n=>exact⟨n::ns,by rw[e];rfl⟩
  |_=>exact nomatch h.1
theorem zln (h:∀a o,G a=some o->G' a=some o\/Od2 o){d:D}(e:fl2 d=true)(r:RepD K G v d):RepD K G' v d:=by
 cases d with
 |non=>exact r
 |bl _=>exact r
 |int _=>exact r
 |str _=>exact r
 |tup ds=>
  obtain⟨ns,rfl⟩:=zhf (show ds.all zmb=true from e)
  obtain⟨a,xs,rfl,g,r⟩:=r
  rcases h a _ g with z|z
  ·exact⟨a,xs,rfl,z,by rw[RepL.ints_eq r];exact RepL.ints ns⟩
  ·exact absurd rfl (z.1 xs)
 |lst ds=>
  obtain⟨ns,rfl⟩:=zhf (show ds.all zmb=true from e)
  obtain⟨a,xs,rfl,g,r⟩:=r
  rcases h a _ g with z|z
  ·exact⟨a,xs,rfl,z,by rw[RepL.ints_eq r];exact RepL.ints ns⟩
  ·refine absurd (fun x m=>?_) (z.2 xs rfl)
   rw[RepL.ints_eq r]at m
   obtain⟨n,_,e⟩:=List.mem_map.mp m
   exact⟨n,e.symm⟩
 |_=>exact nomatch e
theorem zjq (h:∀a o,G a=some o->G' a=some o\/Od2 o):∀{ds:List D} {xs:List V},ds.all fl2=true->RepL K G xs ds->RepL K G' xs ds
 |[],_,_,r=>r
 |d::ds,_,e,⟨x,ys,e1,e2,e3⟩=>by
  rw[List.all_cons,Bool.and_eq_true]at e
  exact⟨x,ys,e1,zln h e.1 e2,zjq h e.2 e3⟩
theorem lst_odd (h:ds.any isLst=true)(r:RepL K G xs ds):¬ ∀x∈xs,∃i,x=V.int i:=fun z=>by
 obtain⟨d,m,e⟩:=List.any_eq_true.mp h
 obtain⟨i,hi,rfl⟩:=List.mem_iff_getElem.mp m
 obtain⟨x,h1,h2⟩:=r.get (List.getElem?_eq_getElem hi)
 cases q:ds[i]with
 |lst es=>
  rw[q]at h2
  obtain⟨a,ys,e2,_⟩:=h2
  obtain⟨n,e3⟩:=z x (List.mem_of_getElem? h1)
  rw[e2]at e3;cases e3
 |_=>rw[q]at e;cases e
noncomputable def Bs.lkO (B:Bs)(K:W.Frag)(G H:Hp)(σ:St)(ρ:R)(A:List Addr):Bs:=⟨frA G H A,(B.reA K G H σ ρ A).H,(B.reA K G H σ ρ A).O⟩
theorem ziz (I:SI K B G H σ ρ)(e:ρ[j]? =some s)(q:s.ob=some (c,ns,ls,some dk))(ok:okLs ls=true):
  ∃A:List Addr,(∀a,OwS K G H σ[j]? a s↔a∈A)/\(∀a∈A,∃o,H a=some o/\Od2 o)/\SI K (B.lkO K G H σ (ρ.set j .emp) A) (frA G H A) H σ (ρ.set j (.val (obD c ns ls dk)))/\Fz G (frA G H A):=by
 obtain⟨p,C,dx,vs,A,hp,b,nd,ow⟩:=I.obj e q
 have sl:=I.slot j s e
 have gn:∀a∈p::dx::A,G a=none:=fun a m=>(sl.own ((ow a).mpr m)).1
 have fg:=znt (G:=G) (H:=H) gn
 have I0:=I.emp j
 have nw:∀a∈p::dx::A,Nw K G H σ (ρ.set j .emp) a:=fun a m=>nw_emp I e ((ow a).mpr m)
 have J0:=I0.reA nw
 refine⟨p::dx::A,ow,fun a m=>?_,?_,fg⟩
 ·rcases List.mem_cons.mp m with rfl|m
  ·exact⟨_,b.ob,od_ins⟩
  rcases List.mem_cons.mp m with rfl|m
  ·exact⟨_,b.dx,od_own⟩
  ·obtain⟨ws,p2,o,zs,ys,A',e1,r1,q1,q2,q3,rfl⟩:=b.rp
   rcases List.mem_append.mp m with m|m
   ·obtain⟨k,hk,rfl⟩:=List.mem_iff_getElem.mp m
    have hk2:k<ls.length:=by rw[<-(zhc r1).2];exact hk
    obtain⟨l,zs,h1,h2,h3,h4⟩:=zfu r1 (List.getElem?_eq_getElem hk2)
    rw[List.getElem?_eq_getElem hk]at h2;cases h2
    exact⟨_,h3,od_lst (lst_odd (List.all_eq_true.mp ok _ (List.getElem_mem hk2)) h4)⟩
   ·simp at m;subst m
    exact⟨_,q1,od_kn⟩
 ·have I1:SI K (B.lkO K G H σ (ρ.set j .emp) (p::dx::A)) (frA G H (p::dx::A)) H σ (ρ.set j .emp):=by
   refine⟨fun a u z=>?_,Fz.refl _,fun b o z=> .inl (by show frA G H (p::dx::A) b≠none;rw[z];simp),J0.keep,J0.there,J0.len,J0.ob,fun i t ei=>?_,fun i k t u a n e1 e2 w1 w2=>?_⟩
   ·by_cases m:a∈p::dx::A
    ·rw[zgx m]at z;exact z
    ·rw[zdg m]at z;exact I.fz a u z
   ·have h:=(J0.slot i t ei).mono (G':=frA G H (p::dx::A)) (H':=H) fg fun a w g h=>⟨by rw[zdg fun m=>nw a m i t ei w];exact g,rfl⟩
    exact h
   ·have bk:=fun{i:Nat} {t:Sl} (ei:(ρ.set j .emp)[i]? =some t) {a:Addr} (w:OwS K (frA G H (p::dx::A)) H σ[i]? a t)=>(J0.slot i t ei).back (G':=frA G H (p::dx::A)) (H':=H) (fun a w g h=>⟨by rw[zdg fun m=>nw a m i t ei w];exact g,rfl⟩) w
    exact J0.dis i k t u a n e1 e2 (bk e1 w1) (bk e2 w2)
  have I2:=I1.set (i:=j) (v:= .ref p) (d:=obD c ns ls dk) (znD fg b.nc (by rw[zgx (by simp)];exact b.ob) b.nm b.rp fun a m=>zgx (by simp[m]))
  rwa[zgW hp,List.set_set]at I2
theorem zlt (I:SI K B G H σ ρ){A:List Addr}{ρ1:R}{G3 H3:Hp}(e:ρ[j]? =some s)(ow:∀a,OwS K G H σ[j]? a s↔a∈A)(od:∀a∈A,∃o,H a=some o/\Od2 o)(J:SI K (B.lkO K G H σ (ρ.set j .emp) A) G3 H3 σ ρ1)(f3:Fz (frA G H A) G3)(al:((ρ.set j .emp).zip ρ1).all (fun q=>zgY q.1 q.2)=true):
  ∃G',SI K B G' H3 σ ρ/\Fz G G'/\Fz G' G3/\(∀a,a∉A->G' a=G3 a)/\(∀a o,G3 a=some o->G' a=some o\/Od2 o)/\∀(i:Nat) (t:Sl) (a:Addr),ρ[i]? =some t->OwS K G H σ[i]? a t->G' a=none/\H3 a=H a:=by
 have gn:∀a∈A,G a=none:=fun a m=>((I.slot j s e).own ((ow a).mpr m)).1
 have h3:∀a∈A,G3 a=H a:=fun a m=>by
  obtain⟨o,ho,_⟩:=od a m
  rw[ho];exact f3 a o (by rw[zgx m];exact ho)
 have hh3:∀a∈A,H3 a=H a:=fun a m=>by
  obtain⟨o,ho,_⟩:=od a m
  rw[ho];exact J.fz a o (by rw[h3 a m];exact ho)
 have I0:=I.emp j
 have nwA:∀a∈A,Nw K G H σ (ρ.set j .emp) a:=fun a m=>nw_emp I e ((ow a).mpr m)
 have hin:∀a,a∈A->(if a∈A then none else G3 a)=none:=fun a m=>if_pos m
 have hout:∀a,a∉A->(if a∈A then none else G3 a)=G3 a:=fun a m=>if_neg m
 have fg:Fz G (fun a=>if a∈A then none else G3 a):=fun a o ea=>by
  have n:a∉A:=fun m=>by rw[gn a m]at ea;exact cNN ea
  show(if a∈A then none else G3 a)=_
  rw[hout a n]
  exact f3 a o (by rw[zdg n];exact ea)
 have sub:Fz (fun a=>if a∈A then none else G3 a) G3:=fun a o ea=>by
  dsimp only at ea
  split at ea
  ·exact cNN ea
  ·exact ea
 have len1:ρ1.length=ρ.length:=by rw[<-J.len,I.len]
 have kpO:∀(i:Nat) (t:Sl) (a:Addr),ρ[i]? =some t->OwS K G H σ[i]? a t->(if a∈A then none else G3 a)=none/\H3 a=H a:=fun i t a es w=>by
  by_cases hi:i=j
  ·subst hi
   rw[e]at es;cases es
   have m:=(ow a).mp w
   exact⟨hin a m,hh3 a m⟩
  have il:i<ρ.length:=(List.getElem?_eq_some_iff.mp es).1
  have es1:ρ1[i]? =some (ρ1[i]'(by lia)):=List.getElem?_eq_getElem _
  have lk:zgY t (ρ1[i]'(by lia))=true:=
   List.all_eq_true.mp al (t,ρ1[i]'(by lia)) (by
    apply List.mem_of_getElem? (i:=i)
    rw[List.getElem?_zip_eq_some]
    exact⟨by rw[List.getElem?_set_ne (Ne.symm hi)];exact es,es1⟩)
  obtain⟨z1,z2⟩:=zmi lk (I.slot i t es) (J.slot i _ es1) w
  refine⟨?_,z2⟩
  by_cases m:a∈A
  ·exact hin a m
  ·rw[hout a m];exact z1
 refine⟨_,I.move (sub.trans J.fz) fg (fun b o eb=>?_) (fun b o eb n=>J.keep b o (by
   unfold Bs.lkO Bs.reA
   dsimp only
   rw[if_neg fun w=>by rw[w.2]at eb;cases eb]
   exact I.keep b o eb n) fun i m=>n i (reA_O (K:=K) (G:=G) (H:=H) (σ:=σ) (ρ:=ρ.set j .emp) (A:=A)|>.mp m).1) (fun b eb=>ziM (A:=A) I0 (J.there b eb)) fun i t a es w _ _=>kpO i t a es w,fg,sub,hout,fun a o ea=>?_,kpO⟩
 ·have n:b∉A:=fun m=>by rw[hin b m]at eb;exact cNN eb
  rcases J.new b o (sub b o eb)with z|z
  ·have z:frA G H A b≠none:=z
   rw[zdg n]at z
   obtain⟨u,hu⟩:=Option.ne_none_iff_exists'.mp z
   exact I.new b u hu
  ·exact .inr (ziM (A:=A) I0 z)
 ·by_cases m:a∈A
  ·obtain⟨u,hu,od⟩:=od a m
   rw[h3 a m,hu]at ea
   cases ea
   exact .inr od
  ·exact .inl (by show(if a∈A then none else G3 a)=some o;rw[hout a m];exact ea)
end
section
variable {X:Cx} {e:Expr}
theorem zbJ {m:ME}(j:Nat)(h:SE X e m):SE X e (eLkO j m):=by
 refine h.el fun t pt so=>?_
 refine⟨t,pt,fun B G H σ ρ d ρ' Q I hm kk=>?_⟩
 unfold eLkO at hm
 split at hm
 ·rename_i c ns ls dk e0
  refine cBel e0 fun s e1 e2=>?_
  refine zaz hm fun d' ρ1 e3 hm=>?_
  dsimp only at hm
  refine cIte hm fun al hm=>?_
  cases hm
  rw[Bool.and_eq_true,Bool.and_eq_true]at al
  obtain⟨⟨ok,fl⟩,al⟩:=al
  obtain⟨A,ow,od,I1,f1⟩:=ziz I e1 e2 ok
  refine so _ _ H σ _ d ρ1 _ I1 e3 fun G3 H3 v I3 f3 r3=>?_
  obtain⟨G',J,fg,sub,_,th,_⟩:=zlt I e1 ow od I3 f3 al
  exact kk G' H3 v J fg (zln th fl r3)
 ·exact cNN hm
theorem zhm {t:TE}(j:Nat)(so:∀B G H σ ρ ds ρ' (Q:VK),SI K B G H σ ρ->m ρ=some (ds,ρ')->
  (∀G' H' l xs,SI K B G' H' σ ρ'->Fz G G'->G' l=none->H' l=some (.lst xs)->RepL K G' xs ds->B.H l=none->Nw K G' H' σ ρ' l->Q (.ref l) H')->t σ H Q):
  ∀B G H σ ρ ds ρ' (Q:VK),SI K B G H σ ρ->oLkO j m ρ=some (ds,ρ')->
  (∀G' H' l xs,SI K B G' H' σ ρ'->Fz G G'->G' l=none->H' l=some (.lst xs)->RepL K G' xs ds->B.H l=none->Nw K G' H' σ ρ' l->Q (.ref l) H')->t σ H Q:=by
 intro B G H σ ρ ds ρ' Q I hm kk
 unfold oLkO at hm
 split at hm
 ·rename_i c ns ls dk e0
  obtain⟨s,e1,e2⟩:=zdm e0
  obtain⟨⟨d',ρ1⟩,e3,hm⟩:=zdm hm
  dsimp only at hm
  split at hm
  ·rename_i al
   cases hm
   rw[Bool.and_eq_true,Bool.and_eq_true]at al
   obtain⟨⟨ok,fl⟩,al⟩:=al
   obtain⟨A,ow,od,I1,f1⟩:=ziz I e1 e2 ok
   refine so _ _ H σ _ ds ρ1 _ I1 e3 fun G3 H3 l xs I3 f3 g3 h3 r3 b3 n3=>?_
   obtain⟨G',J,fg,sub,out,th,kpO⟩:=zlt I e1 ow od I3 f3 al
   have nA:l∉A:=fun m=>by
    obtain⟨o,ho,_⟩:=od l m
    rw[f3 l o (by rw[zgx m];exact ho)]at g3
    cases g3
   refine kk G' H3 l xs J fg (by rw[out l nA];exact g3) h3 (zjq th fl r3) (ziM (A:=A) (I.emp j) b3) fun i t ei w=>?_
   have w0:=(I.slot i t ei).back (fun a w _ _=>kpO i t a ei w) w
   by_cases hi:i=j
   ·subst hi
    rw[e1]at ei;cases ei
    exact nA ((ow l).mp w0)
   have il:i<ρ.length:=(List.getElem?_eq_some_iff.mp ei).1
   have len1:ρ1.length=ρ.length:=by rw[<-I3.len,I.len]
   have es1:ρ1[i]? =some (ρ1[i]'(by lia)):=List.getElem?_eq_getElem _
   have lk:zgY t (ρ1[i]'(by lia))=true:=
    List.all_eq_true.mp al (t,ρ1[i]'(by lia)) (by
     apply List.mem_of_getElem? (i:=i)
     rw[List.getElem?_zip_eq_some]
     exact⟨by rw[List.getElem?_set_ne (Ne.symm hi)];exact ei,es1⟩)
   refine n3 i _ es1 ?_
   generalize ρ1[i]'(by lia)=u at lk es1
   cases t with
   |own d0=>cases u with
    |own d1=>exact w0
    |_=>cases lk
   |par d0=>cases u with
    |par d1=>exact w0
    |_=>cases lk
   |tre _=>cases u<;>cases lk
   |ptr _=>cases u<;>cases lk
   |_=>exact w0.elim
  ·cases hm
 ·cases hm
theorem so_lookO (j:Nat)(h:SO X e m):SO X e (oLkO j m):=by
 refine h.el fun t pt so=>?_
 exact⟨t,pt,zhm j so⟩
end
noncomputable def sOFs (c:Str)(ns:List Str)(j k i:Nat)(me:ME):MS:=fun ρ=>(me ρ).bind fun p=>match p.2[j]?.bind Sl.ob,p.2[i]? with
 |some (c',ns',ls,dk),some (.val (.int n))=>if c'=c/\ns'=ns then(ls[k]?).bind fun ds=>(ixN ds.length n).bind fun m=>(p.2[j]?).map fun s=>(.next,p.2.set j (s.putT (.obj c ns (ls.set k (ds.set m p.1)) dk)))else none
 |_,_=>none
noncomputable def sOFr (c:Str)(ns:List Str)(j k:Nat)(mo:MO):MS:=fun ρ=>(mo ρ).bind fun p=>match p.2[j]?.bind Sl.ob with
 |some (c',ns',ls,dk)=>if c'=c/\ns'=ns/\k<ls.length then(p.2[j]?).map fun s=>(.next,p.2.set j (s.putT (.obj c ns (ls.set k p.1) dk)))else none
 |_=>none
noncomputable def sOFa (c:Str)(ns ns2:List Str)(j:Nat)(mo:MO):MS:=fun ρ=>(mo ρ).bind fun p=>match p.2[j]?.bind Sl.ob with
 |some (c',ns',ls,none)=>if c'=c/\ns'=ns then(p.2[j]?).map fun s=>(.next,p.2.set j (s.putT (.obj c ns2 (ls++[p.1]) none)))else none
 |_=>none
noncomputable def sOFd (c:Str)(ns ns2:List Str)(j:Nat):MS:=fun ρ=>match ρ[j]?.bind Sl.ob with
 |some (c',ns',ls,none)=>if c'=c/\ns'=ns then(ρ[j]?).map fun s=>(.next,ρ.set j (s.putT (.obj c ns2 ls (some ([],[])))))else none
 |_=>none
noncomputable def sOFk (c:Str)(ns:List Str)(j i:Nat)(me:ME):MS:=fun ρ=>(me ρ).bind fun p=>match p.2[j]?.bind Sl.ob,p.2[i]? with
 |some (c',ns',ls,some q),some (.val (.int n))=>if c'=c/\ns'=ns/\q.1.length<16777216 then(p.2[j]?).map fun s=>(.next,p.2.set j (s.putT (.obj c ns ls (some (ptD q.1 q.2 n p.1)))))else none
 |_,_=>none
theorem ziK:∀{vs:List (Str×V)} {f:Str} {v:V},(vs.map (·.1)).contains f=false->putF f v vs=vs++[(f,v)]
 |[],_,_,_=>rfl
 |(g,u)::vs,f,v,n=>by
  rw[List.map_cons,List.contains_cons,Bool.or_eq_false_iff]at n
  have:¬g=f:=fun z=>by subst z;simp at n
  show(if g=f then _ else _)=_
  rw[if_neg this,ziK n.2]
  rfl
theorem znu:∀{vs:List (Str×V)} {ns:List Str} {k:Nat} {f:Str} {v:V},vs.map (·.1)=ns->ns[k]? =some f->(ns.take k).contains f=false->(putF f v vs).map (·.1)=ns/\(putF f v vs).map (·.2)=(vs.map (·.2)).set k v
 |[],_,_,_,_,e,h,_=>by subst e;simp at h
 |(g,u)::vs,_,0,f,v,e,h,_=>by
  subst e
  simp at h
  subst h
  have e2:putF g v ((g,u)::vs)=(g,v)::vs:=by unfold putF;rw[if_pos rfl]
  rw[e2]
  exact⟨rfl,rfl⟩
 |(g,u)::vs,_,k+1,f,v,e,h,n=>by
  subst e
  rw[List.map_cons,List.take_succ_cons,List.contains_cons,Bool.or_eq_false_iff]at n
  obtain⟨h1,h2⟩:=znu (vs:=vs) (v:=v) rfl (by simpa using h) n.2
  have:¬g=f:=fun z=>by subst z;simp at n
  unfold putF
  rw[if_neg this]
  exact⟨by rw[List.map_cons,h1,List.map_cons],by rw[List.map_cons,h2,List.map_cons,List.set_cons_succ]⟩
theorem zis:∀{A:List Addr},A.Nodup->l∉A->∀k:Nat,(A.set k l).Nodup
 |[],h,_,_=>h
 |a::A,h,n,0=>by
  rw[List.nodup_cons]at h
  rw[List.set_cons_zero,List.nodup_cons]
  exact⟨fun m=>n (by simp[m]),h.2⟩
 |a::A,h,n,k+1=>by
  rw[List.nodup_cons]at h
  rw[List.set_cons_succ,List.nodup_cons]
  refine⟨fun m=>?_,zis h.2 (fun m=>n (by simp[m])) k⟩
  rcases List.mem_or_eq_of_mem_set m with z|z
  ·exact h.1 z
  ·exact n (by simp[z])
section
variable {K:W.Frag} {B:Bs} {G H:Hp} {σ:St} {ρ:R}
theorem SI.obHas (h:ρ[j]?.bind Sl.ob=some q):∃s,ρ[j]? =some s/\s.ob=some (q.1,q.2.1,q.2.2.1,q.2.2.2):=by
 refine cBel h fun s e1 e2=>?_
 exact⟨s,e1,by rw[e2]⟩
end
section
variable {X:Cx} {c f x y:Str} {ns ns2:List Str} {e:Expr} {me:ME} {mo:MO} {p p2 p3 pos ap tpos:Pos} {k:Nat}
theorem zg1 (j k i:Nat)(oc:OC X.K c ns)(he:SE X e me)(hk:autoParam (ns[k]? =some f) zu3._auto_1)(hn:autoParam ((ns.take k).contains f=false) zu7._auto_1)(hN:autoParam (X.N[j]? =some x) zu3._auto_1)(hv:autoParam (Vis X.env.scope x) zu5._auto_1)(hd:autoParam ((x==("__debug__":Str))=false) zu1._auto_1)
    (hcd:autoParam ((x==("__classdict__":Str))=false) zu1._auto_1) (hN2:autoParam (X.N[i]? =some y) zu3._auto_1) (hv2:autoParam (Vis X.env.scope y) zu5._auto_1) (hd2:autoParam ((y==("__debug__":Str))=false) zu1._auto_1)
    (hcd2:autoParam ((y==("__classdict__":Str))=false) zu1._auto_1) (hb:autoParam (attributeBase (.Name x p) f X.env (eval (.Name x p) X.env)=eval (.Name x p) X.env) zu3._auto_1)
    (ha :autoParam (∀ v, assign (.Subscript (.Attribute (.Name x p) f ap) (.Name y p2) tpos) X.env v = (do
      let ov<-holding [v] (eval (.Attribute (.Name x p) f ap) X.env)
      let iv<-holding [v,ov] (eval (.Name y p2) X.env)
      standAt tpos
      holding [v,ov,iv] (setItem ov iv v)
      release [v,ov,iv] [])) zu8._auto_1)
    (hs:autoParam (swapsWithSole [.Subscript (.Attribute (.Name x p) f ap) (.Name y p2) tpos] e pos.line X.env=pure false) zu3._auto_1) (hw:autoParam (swappedStores [.Subscript (.Attribute (.Name x p) f ap) (.Name y p2) tpos] e X.env=pure none) zu3._auto_1)
    (h1:autoParam ((assignEach [.Subscript (.Attribute (.Name x p) f ap) (.Name y p2) tpos] X.env).map (·.2)=[assign (.Subscript (.Attribute (.Name x p) f ap) (.Name y p2) tpos) X.env]) zu3._auto_1):
    SS X (.Assign [.Subscript (.Attribute (.Name x p) f ap) (.Name y p2) tpos] e pos) (sOFs c ns j k i me):=by
  obtain⟨C,c1,c2,c3⟩:=oc
  refine he.el fun t pt so=>?_
  refine⟨_,znm pt (zm9 (zk7 (zb3 hN hv hd hcd) hb) (zb3 hN2 hv2 hd2 hcd2) ziL ha) hs hw h1,fun B G H σ ρ fl ρ' E I hm kk=>?_⟩
  refine zaz hm fun d ρ1 e1 hm=>?_
  refine so B G H σ ρ d ρ1 _ I e1 fun G1 H1 v I1 f1 r1=>?_
  dsimp only at hm
  split at hm
  . rename_i c' ns' ls dk n e2 e3
    refine cIte hm fun h hm=>?_
    obtain⟨rfl,rfl⟩:=h
    refine cBel hm fun ds e4 hm=>?_
    refine cBel hm fun m e5 hm=>?_
    refine cMel hm fun s e6 hm=>?_
    cases hm
    obtain⟨s',e7,e8⟩:=SI.obHas e2
    rw[e6]at e7;cases e7
    obtain⟨q,C2,dx,vs,A,hp,b,nd,ow⟩:=I1.obj e6 e8
    have h2:=b.nc
    rw[c1]at h2;cases h2
    obtain⟨l,xs,g1,g2,g3,g4⟩:=zlA b.rp e4
    obtain⟨w,k1,k2⟩:=I1.slot i _ e3
    cases(show w=V.int n from k2)
    have lA:l∈A:=List.mem_of_getElem? g2
    have gl:G1 l=none:=((I1.slot j s e6).own ((ow l).mpr (by simp[lA]))).1
    rw[List.nodup_cons,List.nodup_cons]at nd
    have pl:q≠l:=fun z=>nd.1 (by rw[z];simp[lA])
    have dl:dx≠l:=fun z=>nd.2.1 (z ▸ lA)
    have hk2:k<ls.length:=(List.getElem?_eq_some_iff.mp e4).1
    refine⟨.ref q,hp,q,C,dx,vs,.ref l,rfl,b.ob,c2,c3 f (List.mem_of_getElem? hk),zdW b.nm hk hn g1,.int n,k1,l,xs,n,m,rfl,rfl,g3,by rw[g4.length];exact e5,?_⟩
    have lk:A.set k l=A:=zgW g2
    have b':ObAt X.K G1 (upd H1 l (.lst (xs.set m v))) q C dx c' ns' (ls.set k (ds.set m d)) dk vs A:=by
      refine⟨b.nc,by rw[zal pl];exact b.ob,by rw[zal dl];exact b.dx,b.nm,?_⟩
      have:=zk3 (H':=upd H1 l (.lst (xs.set m v))) b.rp hk2 g2 (Fz.refl G1) (fun a _ n=>zal n) nd.2.2 zar (g4.set m r1)
      rw[lk]at this
      rwa[zgW g1]at this
    exact kk G1 _ σ (I1.chO e6 e8 hp b (by rw[List.nodup_cons,List.nodup_cons];exact nd) ow (I1.fz.right gl _) (fun z o n hz=>by rw[zal (fun y=>n (by rw[y];simp[lA]))];exact hz) (fun z hz=>by
      by_cases y:z=l
      . subst y;rw[zar]at hz;cases hz
      . rw[zal y]at hz;exact hz) b' (by rw[List.nodup_cons,List.nodup_cons];exact nd) fun a m=> .inl m) f1
  . exact cNN hm
theorem ss_obRep (j k:Nat)(oc:OC X.K c ns)(he:SO X e mo)(hk:autoParam (ns[k]? =some f) zu3._auto_1)(hn:autoParam ((ns.take k).contains f=false) zu7._auto_1)(hl:autoParam (ns.length<1000) zu1._auto_1)(hN:autoParam (X.N[j]? =some x) zu3._auto_1)(hv:autoParam (Vis X.env.scope x) zu5._auto_1)(hd:autoParam ((x==("__debug__":Str))=false) zu1._auto_1)
    (hcd:autoParam ((x==("__classdict__":Str))=false) zu1._auto_1) (hs:autoParam (swapsWith e (some (.Attribute (.Name x p) f ap)) pos.line X.env=pure false) zu3._auto_1):
    SS X (.Assign [.Attribute (.Name x p) f ap] e pos) (sOFr c ns j k mo):=by
  obtain⟨C,c1,c2,c3⟩:=oc
  refine he.el fun t pt so=>?_
  refine⟨_,zns (zb3 hN hv hd hcd) pt hs,fun B G H σ ρ fl ρ' E I hm kk=>?_⟩
  refine zaz hm fun ds ρ1 e1 hm=>?_
  refine so B G H σ ρ ds ρ1 _ I e1 fun G1 H1 l xs I1 f1 gl hl1 r1 bl nl=>?_
  dsimp only at hm
  split at hm
  . rename_i c' ns' ls dk e2
    refine cIte hm fun h hm=>?_
    obtain⟨rfl,rfl,hk2⟩:=h
    refine cMel hm fun s e6 hm=>?_
    cases hm
    obtain⟨s',e7,e8⟩:=SI.obHas e2
    rw[e6]at e7;cases e7
    obtain⟨q,C2,dx,vs,A,hp,b,nd,ow⟩:=I1.obj e6 e8
    have h2:=b.nc
    rw[c1]at h2;cases h2
    obtain⟨l0,xs0,g1,g2,g3,g4⟩:=zlA b.rp (List.getElem?_eq_getElem hk2)
    have nown:l∉q::dx::A:=fun m=>nl j s e6 ((ow l).mpr m)
    have gq:G1 q=none:=((I1.slot j s e6).own ((ow q).mpr (by simp))).1
    have lv:vs.length<1000:=by have:=congrArg List.length b.nm;simp at this;lia
    obtain⟨n1,n2⟩:=znu (v:= .ref l) b.nm hk hn
    rw[List.nodup_cons,List.nodup_cons]at nd
    have qA:q∉A:=fun z=>nd.1 (by simp[z])
    have qd:q≠dx:=fun z=>nd.1 (by simp[z])
    have lq:l≠q:=fun z=>nown (by simp[z])
    refine⟨.ref q,hp,q,C,dx,vs,rfl,b.ob,c2,c3 f (List.mem_of_getElem? hk),lv,?_⟩
    have b':ObAt X.K G1 (upd H1 q (.ins C dx (putF f (.ref l) vs))) q C dx c' ns' (ls.set k ds) dk (putF f (.ref l) vs) (A.set k l):=by
      refine⟨b.nc,zar,by rw[zal (Ne.symm qd)];exact b.dx,n1,?_⟩
      rw[n2]
      exact zk3 b.rp hk2 g2 (Fz.refl G1) (fun a m _=>zal fun z=>qA (z ▸ m)) nd.2.2 (by rw[zal lq];exact hl1) r1
    have sub:∀a∈A.set k l,a∈A\/a=l:=fun a m=>List.mem_or_eq_of_mem_set m
    refine kk G1 _ σ (I1.chO e6 e8 hp b (by rw[List.nodup_cons,List.nodup_cons];exact nd) ow (I1.fz.right gq _) (fun z o n hz=>by rw[zal (fun y=>n (by rw[y];simp))];exact hz) (fun z hz=>by
      by_cases y:z=q
      . subst y;rw[zar]at hz;cases hz
      . rw[zal y]at hz;exact hz) b' ?_ fun a m=>(sub a m).imp id fun z=>by subst z;exact⟨gl,bl,nl⟩) f1
    rw[List.nodup_cons,List.nodup_cons]
    refine⟨fun m=>?_,fun m=>?_,?_⟩
    . rcases List.mem_cons.mp m with z|m
      . exact qd z
      . exact(sub q m).elim qA fun z=>lq z.symm
    . exact(sub dx m).elim nd.2.1 fun z=>nown (by simp[z])
    . exact zis nd.2.2 (fun m=>nown (by simp[m])) k
  . exact cNN hm
theorem zg2 (j:Nat)(ns2:List Str)(oc:OC X.K c ns2)(he:SO X e mo)(hk:autoParam (ns2=ns++[f]) zu3._auto_1)(hn:autoParam (ns.contains f=false) zu7._auto_1)(hl:autoParam (ns.length<1000) zu1._auto_1)(hN:autoParam (X.N[j]? =some x) zu3._auto_1)(hv:autoParam (Vis X.env.scope x) zu5._auto_1)(hd:autoParam ((x==("__debug__":Str))=false) zu1._auto_1)
    (hcd:autoParam ((x==("__classdict__":Str))=false) zu1._auto_1) (hs:autoParam (swapsWith e (some (.Attribute (.Name x p) f ap)) pos.line X.env=pure false) zu3._auto_1):
    SS X (.Assign [.Attribute (.Name x p) f ap] e pos) (sOFa c ns ns2 j mo):=by
  obtain⟨C,c1,c2,c3⟩:=oc
  refine he.el fun t pt so=>?_
  refine⟨_,zns (zb3 hN hv hd hcd) pt hs,fun B G H σ ρ fl ρ' E I hm kk=>?_⟩
  refine zaz hm fun ds ρ1 e1 hm2=>?_
  clear hm
  refine so B G H σ ρ ds ρ1 _ I e1 fun G1 H1 l xs I1 f1 gl hl1 r1 bl nl=>?_
  dsimp only at hm2
  split at hm2
  . rename_i c' ns' ls e2
    split at hm2
    . rename_i h
      obtain⟨rfl,rfl⟩:=h
      obtain⟨s,e6,hm2⟩:=zhg hm2
      cases hm2
      obtain⟨s',e7,e8⟩:=SI.obHas e2
      rw[e6]at e7;cases e7
      obtain⟨q,C2,dx,vs,A,hp,b,nd,ow⟩:=I1.obj e6 e8
      have h2:=b.nc
      rw[c1]at h2;cases h2
      have nown:l∉q::dx::A:=fun m=>nl j s e6 ((ow l).mpr m)
      have gq:G1 q=none:=((I1.slot j s e6).own ((ow q).mpr (by simp))).1
      have lv:vs.length<1000:=by have:=congrArg List.length b.nm;simp at this;lia
      have pf:=ziK (v:= .ref l) (by rw[b.nm];exact hn)
      rw[List.nodup_cons,List.nodup_cons]at nd
      have qA:q∉A:=fun z=>nd.1 (by simp[z])
      have qd:q≠dx:=fun z=>nd.1 (by simp[z])
      have lq:l≠q:=fun z=>nown (by simp[z])
      refine⟨.ref q,hp,q,C,dx,vs,rfl,b.ob,c2,c3 f (by rw[hk];simp),lv,?_⟩
      have b':ObAt X.K G1 (upd H1 q (.ins C dx (putF f (.ref l) vs))) q C dx c' ns2 (ls++[ds]) none (putF f (.ref l) vs) (A++[l]):=by
        refine⟨b.nc,zar,by rw[zal (Ne.symm qd)];exact b.dx,by rw[pf,List.map_append,b.nm,hk];rfl,?_⟩
        rw[pf,List.map_append]
        refine zj1 (RepTb.move (show RepTb X.K G1 H1 (vs.map (·.2)) ls A from b.rp) (Fz.refl G1) fun a m=>zal fun z=>qA (z ▸ m)) (by rw[zal lq];exact hl1) r1
      refine kk G1 _ σ (I1.chO e6 e8 hp b (by rw[List.nodup_cons,List.nodup_cons];exact nd) ow (I1.fz.right gq _) (fun z o n hz=>by rw[zal (fun y=>n (by rw[y];simp))];exact hz) (fun z hz=>by
        by_cases y:z=q
        . subst y;rw[zar]at hz;cases hz
        . rw[zal y]at hz;exact hz) b' ?_ fun a m=>(List.mem_append.mp m).imp id fun z=>by
          have:a=l:=by simpa using z
          subst this;exact⟨gl,bl,nl⟩) f1
      rw[<-List.cons_append,<-List.cons_append,List.nodup_append]
      refine⟨by rw[List.nodup_cons,List.nodup_cons];exact nd,by simp,fun a ha b hb z=>nown ?_⟩
      have:b=l:=by simpa using hb
      rw[<-this,<-z];exact ha
    . exact cNN hm2
  . exact cNN hm2
theorem ss_obDic (j:Nat)(ns2:List Str)(oc:OC X.K c ns2)(hk:autoParam (ns2=ns++[f]) zu3._auto_1)(hn:autoParam (ns.contains f=false) zu7._auto_1)(hl:autoParam (ns.length<1000) zu1._auto_1)(hN:autoParam (X.N[j]? =some x) zu3._auto_1)(hv:autoParam (Vis X.env.scope x) zu5._auto_1)(hd:autoParam ((x==("__debug__":Str))=false) zu1._auto_1)
    (hcd:autoParam ((x==("__classdict__":Str))=false) zu1._auto_1) (hs:autoParam (swapsWith (.Dict [] [] tpos) (some (.Attribute (.Name x p) f ap)) pos.line X.env=pure false) zu3._auto_1):
    SS X (.Assign [.Attribute (.Name x p) f ap] (.Dict [] [] tpos) pos) (sOFd c ns ns2 j):=by
  obtain⟨C,c1,c2,c3⟩:=oc
  refine⟨_,zns (zb3 hN hv hd hcd) pe_dnewN hs,fun B G H σ ρ fl ρ' E I hm kk=>?_⟩
  unfold sOFd at hm
  split at hm
  . rename_i c' ns' ls e2
    split at hm
    . rename_i h
      obtain⟨rfl,rfl⟩:=h
      obtain⟨s,e6,hm⟩:=zhg hm
      cases hm
      obtain⟨s',e7,e8⟩:=SI.obHas e2
      rw[e6]at e7;cases e7
      intro l o hl0 dn
      have I1:=I.allocO hl0 (kn l o)
      have nl:Nw X.K G (upd H l (kn l o)) σ ρ l:=I.nw_move (I.nw hl0) fun i s a _ _ g h=>⟨g,zal fun z=>h (by rw[z];exact hl0)⟩
      have gl:G l=none:=I.fz.free hl0
      have bl:B.H l=none:=I.there l hl0
      obtain⟨q,C2,dx,vs,A,hp,b,nd,ow⟩:=I1.obj e6 e8
      have h2:=b.nc
      rw[c1]at h2;cases h2
      have nown:l∉q::dx::A:=fun m=>nl j s e6 ((ow l).mpr m)
      have gq:G q=none:=((I1.slot j s e6).own ((ow q).mpr (by simp))).1
      have lv:vs.length<1000:=by have:=congrArg List.length b.nm;simp at this;lia
      have pf:=ziK (v:= .ref l) (by rw[b.nm];exact hn)
      rw[List.nodup_cons,List.nodup_cons]at nd
      have qA:q∉A:=fun z=>nd.1 (by simp[z])
      have qd:q≠dx:=fun z=>nd.1 (by simp[z])
      have lq:l≠q:=fun z=>nown (by simp[z])
      refine⟨.ref q,hp,q,C,dx,vs,rfl,b.ob,c2,c3 f (by rw[hk];simp),lv,?_⟩
      have b':ObAt X.K G (upd (upd H l (kn l o)) q (.ins C dx (putF f (.ref l) vs))) q C dx c' ns2 ls (some ([],[])) (putF f (.ref l) vs) (A++[l]):=by
        refine⟨b.nc,zar,by rw[zal (Ne.symm qd)];exact b.dx,by rw[pf,List.map_append,b.nm,hk];rfl,?_⟩
        rw[pf,List.map_append]
        exact⟨vs.map (·.2),l,o,[],[],A,rfl,RepTb.move (show RepTb X.K G (upd H l (kn l o)) (vs.map (·.2)) ls A from b.rp) (Fz.refl G) fun a m=>zal fun z=>qA (z ▸ m),by rw[zal lq];exact zar,dn,RepL.nil,rfl⟩
      refine kk G _ σ (I1.chO e6 e8 hp b (by rw[List.nodup_cons,List.nodup_cons];exact nd) ow (I1.fz.right gq _) (fun z o n hz=>by rw[zal (fun y=>n (by rw[y];simp))];exact hz) (fun z hz=>by
        by_cases y:z=q
        . subst y;rw[zar]at hz;cases hz
        . rw[zal y]at hz;exact hz) b' ?_ fun a m=>(List.mem_append.mp m).imp id fun z=>by
          have:a=l:=by simpa using z
          subst this;exact⟨gl,bl,nl⟩) (Fz.refl G)
      rw[<-List.cons_append,<-List.cons_append,List.nodup_append]
      refine⟨by rw[List.nodup_cons,List.nodup_cons];exact nd,by simp,fun a ha b hb z=>nown ?_⟩
      have:b=l:=by simpa using hb
      rw[<-this,<-z];exact ha
    . exact cNN hm
  . exact cNN hm
theorem ss_obPut (j k i:Nat)(oc:OC X.K c ns)(he:SE X e me)(hk:autoParam (ns[k]? =some f) zu3._auto_1)(hkl:autoParam (k+1=ns.length) zu3._auto_1)(hn:autoParam ((ns.take k).contains f=false) zu7._auto_1)(hN:autoParam (X.N[j]? =some x) zu3._auto_1)(hv:autoParam (Vis X.env.scope x) zu5._auto_1)(hd:autoParam ((x==("__debug__":Str))=false) zu1._auto_1)
    (hcd:autoParam ((x==("__classdict__":Str))=false) zu1._auto_1) (hN2:autoParam (X.N[i]? =some y) zu3._auto_1) (hv2:autoParam (Vis X.env.scope y) zu5._auto_1) (hd2:autoParam ((y==("__debug__":Str))=false) zu1._auto_1)
    (hcd2:autoParam ((y==("__classdict__":Str))=false) zu1._auto_1) (hb:autoParam (attributeBase (.Name x p) f X.env (eval (.Name x p) X.env)=eval (.Name x p) X.env) zu3._auto_1)
    (hs:autoParam (swapsWith e (some (.Subscript (.Attribute (.Name x p) f ap) (.Name y p2) tpos)) pos.line X.env=pure false) zu3._auto_1):
    SS X (.Assign [.Subscript (.Attribute (.Name x p) f ap) (.Name y p2) tpos] e pos) (sOFk c ns j i me):=by
  obtain⟨C,c1,c2,c3⟩:=oc
  refine he.el fun t pt so=>?_
  refine⟨_,ps_dputN (zk7 (zb3 hN hv hd hcd) hb) (zb3 hN2 hv2 hd2 hcd2) pt hs,fun B G H σ ρ fl ρ' E I hm kk=>?_⟩
  refine zaz hm fun d ρ1 e1 hm=>?_
  refine so B G H σ ρ d ρ1 _ I e1 fun G1 H1 v I1 f1 r1=>?_
  dsimp only at hm
  split at hm
  . rename_i c' ns' ls qd n e2 e3
    refine cIte hm fun h hm=>?_
    obtain⟨rfl,rfl,hln⟩:=h
    refine cMel hm fun s e6 hm=>?_
    cases hm
    obtain⟨s',e7,e8⟩:=SI.obHas e2
    rw[e6]at e7;cases e7
    obtain⟨q,C2,dx,vs,A,hp,b,nd,ow⟩:=I1.obj e6 e8
    have h2:=b.nc
    rw[c1]at h2;cases h2
    obtain⟨w,k1,k2⟩:=I1.slot i _ e3
    cases(show w=V.int n from k2)
    have rp:=b.rp
    obtain⟨ws,l,o,zs,ys,A',g1,g2,g3,g4,g5,rfl⟩:=rp
    have lA:l∈A'++[l]:=by simp
    have gl:G1 l=none:=((I1.slot j s e6).own ((ow l).mpr (by simp))).1
    have nd0:=nd
    rw[List.nodup_cons,List.nodup_cons]at nd
    have pl:q≠l:=fun z=>nd.1 (by rw[z];simp)
    have dl:dx≠l:=fun z=>nd.2.1 (by rw[z];simp)
    have l1:=congrArg List.length b.nm
    have l2:=congrArg List.length g1
    simp at l1 l2
    have g0:(vs.map (·.2))[k]? =some (.ref l):=by rw[g1,show k=ws.length by lia];simp
    refine⟨.ref q,hp,q,C,dx,vs,.ref l,rfl,b.ob,c2,c3 f (List.mem_of_getElem? hk),zdW b.nm hk hn g0,.int n,k1,l,o,zs,qd.1,ys,n,rfl,rfl,g3,g4,by rw[sizeLine_eq];exact hln,fun o' zs' ks' ys' hks hys dn=>?_⟩
    obtain rfl:=hks qd.2 d
    subst hys
    obtain⟨m1,m2⟩:=pt_rep zhJ (j:=n) g4.key g5 r1
    have nA':∀a∈A',a≠l:=fun a m z=>by
      have:=nd.2.2
      rw[List.nodup_append]at this
      exact this.2.2 a m l (by simp) z
    have b':ObAt X.K G1 (upd H1 l (kn l o')) q C dx c' ns' ls (some (ptD qd.1 qd.2 n d)) vs (A'++[l]):=
      ⟨b.nc,by rw[zal pl];exact b.ob,by rw[zal dl];exact b.dx,b.nm,ws,l,o',zs',_,A',g1,g2.move (Fz.refl G1) fun a m=>zal (nA' a m),zar,dn,m2,rfl⟩
    exact kk G1 _ σ (I1.chO e6 e8 hp b nd0 ow (I1.fz.right gl _) (fun z o n hz=>by rw[zal (fun y=>n (by rw[y];simp))];exact hz) (fun z hz=>by
      by_cases y:z=l
      . subst y;rw[zar]at hz;cases hz
      . rw[zal y]at hz;exact hz) b' nd0 fun a m=> .inl m) f1
  . exact cNN hm
end
section
variable {K:W.Frag} {B:Bs} {G H:Hp} {σ:St} {ρ:R} {p:Addr} {t t3:T} {A:List Addr} {vs:List V} {ds:List D} {F:R->Option (Sl×R)} {d:D} {rest:R} {Q:VK} {E:XK}
theorem coreO (fz:Fz G H)(r:RepT K G H (.ref p) t A)(nd:A.Nodup)(gA:∀a∈A,G a=none)(rv:RepL K G vs ds)(eF:F (.ptr t::ds.map .val)=some (.val d,.ptr t3::rest))
  (kk:∀G2 H2 v A3,Fz G G2->Fz G2 H2->(∀b o,G2 b=some o->G b≠none\/H b=none)->(∀b o,H b=some o->b∉A->H2 b=some o)->(∀b,H2 b=none->H b=none)->RepT K G2 H2 (.ref p) t3 A3->A3.Nodup->(∀a∈A3,G2 a=none/\(a∈A\/H a=none))->RepD K G2 v d->Q v H2):spG K (ds.length+1) F (.ref p::vs) H Q E:=by
 have hd:p∈A:=by obtain⟨p2,e,m⟩:=r.head;cases e;exact m
 have mO:∀{i:Nat} {b:Addr},(i,b)∈A.map (fun a=>((0:Nat),a))++[(4096,p),(8192,p)]->(i=0/\b∈A)\/(i=4096/\b=p)\/(i=8192/\b=p):=fun{i b} m=>by
  rcases List.mem_append.mp m with m|m
  ·obtain⟨a,m,e⟩:=List.mem_map.mp m
   cases e;exact .inl ⟨rfl,m⟩
  ·simp at m;exact .inr m
 have inA:∀{i:Nat} {b:Addr},(i,b)∈A.map (fun a=>((0:Nat),a))++[(4096,p),(8192,p)]->b∈A:=fun{i b} m=>by
  rcases mO m with z|z|z
  ·exact z.2
  ·rw[z.2];exact hd
  ·rw[z.2];exact hd
 have at0:∀{i:Nat} {s:Sl},(Sl.ptr t::ds.map .val)[i]? =some s->(i=0/\s= .ptr t)\/∃k x,i=k+1/\ds[k]? =some x/\s= .val x:=fun{i s} e=>by
  cases i with
  |zero=>simp at e;exact .inl ⟨rfl,e.symm⟩
  |succ k=>
   rw[List.getElem?_cons_succ,List.getElem?_map]at e
   refine cMel e fun x h1 h2=>?_
   exact .inr ⟨k,x,rfl,h1,h2.symm⟩
 refine⟨G,A.map (fun a=>((0:Nat),a))++[(4096,p),(8192,p)],_,_,_,eF,by simp,⟨fz,Fz.refl G,fun b o e=> .inl (by show G b≠none;rw[e];simp),fun b o e _=>e,fun b e=>e,by simp[rv.length],fun i b m=>r.here (inA m),fun i s e=>?_,fun i k s u a n e1 e2 w1 w2=>?_⟩,fun G2 H2 v f2 fz2 nw kp th so rr=>?_⟩
 ·rcases at0 e with⟨rfl,rfl⟩|⟨k,x,rfl,h1,rfl⟩
  ·exact⟨.ref p,A,rfl,r,⟨nd,p,rfl,by simp,fun _=>by simp⟩,fun a m=>⟨gA a m,.inl (by simp[m])⟩⟩
  ·obtain⟨y,g1,g2⟩:=rv.get h1
   exact⟨y,by simp[g1],g2⟩
 ·rcases at0 e1 with⟨rfl,rfl⟩|⟨k1,x,rfl,h1,rfl⟩
  ·rcases at0 e2 with⟨rfl,rfl⟩|⟨k2,x,rfl,h1,rfl⟩
   ·exact n rfl
   ·exact w2
  ·exact w1
 ·obtain⟨ov,so⟩:=so 0 (.ptr t3) rfl
  obtain⟨v3,A3,h1,h2,⟨h3,p3,rfl,h4,h5⟩,h6⟩:=so
  have e3:p3=p:=by
   rcases mO h4 with z|z|z
   ·lia
   ·exact z.2
   ·lia
  subst e3
  refine kk G2 H2 v A3 f2 fz2 nw (fun b o hb n=>kp b o hb fun i m=>n (inA m)) th h2 h3 (fun a m=>⟨(h6 a m).1,(h6 a m).2.imp inA fun z=>z.1⟩) rr
theorem callO (I:SI K B G H σ ρ){c c3:Str}{ns ns3:List Str}{ls l3:List (List D)}{dk d3:Option (List Int×List D)}(e:ρ[j]? =some s)(q:s.ob=some (c,ns,ls,dk))(hp:σ[j]? =some (some (.ref p)))(rv:RepL K G vs ds)(eF:F (.ptr (.obj c ns ls dk)::ds.map .val)=some (.val d,.ptr (.obj c3 ns3 l3 d3)::rest))
  (kk:∀G2 H2 v,SI K B G2 H2 σ (ρ.set j (s.putT (.obj c3 ns3 l3 d3)))->Fz G G2->RepD K G2 v d->Q v H2):spG K (ds.length+1) F (.ref p::vs) H Q E:=by
 obtain⟨p1,C,dx,ws,A,hp1,b,nd,ow⟩:=I.obj e q
 rw[hp]at hp1;cases hp1
 have sl:=I.slot j s e
 refine coreO I.fz b.rep nd (fun a m=>(sl.own ((ow a).mpr m)).1) rv eF fun G2 H2 v A3 f2 fz2 nw kp th r3 nd3 h3 rr=>kk G2 H2 v ?_ f2 rr
 have sub:∀a∈A3,a∈p::dx::A\/H a=none:=fun a m=>(h3 a m).2
 have h:=I.chg (i:=j) (ov:=some (.ref p)) (s':=s.putT (.obj c3 ns3 l3 d3)) (G':=G2) (H':=H2) fz2 f2 (fun x o hx=>?_) (fun x o k1 k2=>kp x o (I.keep x o k1 k2) fun m=>?_) (fun x k=>I.there x (th x k)) (fun i t a z ei w g ha=>?_) ?_
 ·rwa[zgW hp]at h
 ·rcases nw x o hx with z|z
  ·obtain⟨u,hu⟩:=Option.ne_none_iff_exists'.mp z
   exact I.new x u hu
  ·exact .inr (I.there x z)
 ·rcases(sl.own ((ow x).mpr m)).2.2 with z|z
  ·rw[k1]at z;cases z
  ·exact k2 j z
 ·have na:a∉p::dx::A:=fun m=>I.dis i j t s a z ei e w ((ow a).mpr m)
  obtain⟨x,hx⟩:=Option.ne_none_iff_exists'.mp ha
  refine⟨?_,(kp a x hx na).trans hx.symm,fun w'=>?_⟩
  ·cases y:G2 a with
   |none=>rfl
   |some o=>
    rcases nw a o y with y|y
    ·exact absurd g y
    ·exact absurd y ha
  ·have:∃v A,some (some (V.ref p))=some (some v)/\RepT K G2 H2 v (.obj c3 ns3 l3 d3) A/\a∈A:=by
    rcases zoP q with rfl|rfl<;>exact w'
   obtain⟨v2,A2,k1,k2,k3⟩:=this
   cases k1
   rw[<-r3.det k2 fun _ _=>rfl]at k3
   rcases sub a k3 with y|y
   ·exact na y
   ·exact ha y
 ·rcases zoP q with rfl|rfl
  ·obtain⟨v,A0,k1,k2,k3,k4⟩:=sl
   rw[hp]at k1;cases k1
   have eA:p::dx::A=A0:=b.rep.det k2 fun _ _=>rfl
   subst eA
   exact⟨.ref p,_,rfl,r3,nd3,fun a m=>⟨(h3 a m).1,(sub a m).elim (fun z=>(k4 a z).2) fun z=>I.there a z⟩⟩
  ·obtain⟨v,A0,k1,k2,k3,k4⟩:=sl
   rw[hp]at k1;cases k1
   have eA:p::dx::A=A0:=b.rep.det k2 fun _ _=>rfl
   subst eA
   obtain⟨k3,p2,y1,y2,y3⟩:=k3
   cases y1
   exact⟨.ref p,_,rfl,r3,⟨nd3,p,rfl,y2,fun _=>y3 rfl⟩,fun a m=>⟨(h3 a m).1,(sub a m).elim (fun z=>(k4 a z).2) fun z=> .inr ⟨I.there a z,p,rfl,y3 rfl⟩⟩⟩
end
noncomputable def zgv (F:R->Option (Sl×R))(c:Str)(ns:List Str)(j:Nat)(ma:MA):ME:=fun ρ=>match ρ[j]?.bind Sl.ob with
 |some (c',ns',_,_)=>if c'=c/\ns'=ns then(ma ρ).bind fun q=>match q.2[j]?.bind Sl.ob with
  |some (c2,ns2,l2,d2)=>(F (.ptr (.obj c2 ns2 l2 d2)::q.1.map .val)).bind fun z=>match z with
   |(.val d,.ptr (.obj c3 ns3 l3 d3)::_)=>(q.2[j]?).map fun s=>(d,q.2.set j (s.putT (.obj c3 ns3 l3 d3)))
   |_=>none
  |none=>none else none
 |none=>none
noncomputable def sMkO (i:Nat)(c:Str)(ns:List Str)(F:R->Option (Sl×R))(ma:MA):MS:=fun ρ=>(ma ρ).bind fun q=>(F (.ptr (.obj c [] [] none)::q.1.map .val)).bind fun z=>match z with
 |(.val .non,.ptr (.obj c3 ns3 l3 (some d3))::_)=>if c3=c/\ns3=ns then some (.next,q.2.set i (.val (obD c ns l3 d3)))else none
 |_=>none
structure MkO (P:Program) (w:World) (K:W.Frag) (mg:Str->Option Value) (base:Heap) (k:Nat) (c:Str) (sp:Sp):Prop where
 ex:∃C f fd ps,W.nsIn K mainGlobals c=some (some (.ref C))/\mg c=some (.ref C)/\Mk K C f/\FnOk P w K mg base CX0 k f fd ps sp/\Binds K fd ps []
section
variable {X:Cx} {c x y mt:Str} {ns:List Str} {a:Expr} {es:List Expr} {ma:MA} {p py pos ap tpos:Pos} {k k' n:Nat} {F:R->Option (Sl×R)}
theorem zi7 (j:Nat)(hc:ns.contains mt=false)(md:MV X.prog X.w X.K X.mg X.base k c mt (spG X.K n F))(hr:Room k' X.A)(ha:SA X (a::es) ma)(hlen:∀ρ as ρ',ma ρ=some (as,ρ')->as.length+1=n)(hN:autoParam (X.N[j]? =some x) zu3._auto_1)(hv:autoParam (Vis X.env.scope x) zu5._auto_1)(hd:autoParam ((x==("__debug__":Str))=false) zu1._auto_1)
  (hcd:autoParam ((x==("__classdict__":Str))=false) zu1._auto_1) (hk:autoParam (k<=k') zu1._auto_1)
  (hst:autoParam (starEach (a::es) X.env=(false,eval a X.env)::starEach es X.env) zu3._auto_1) (hpl:autoParam ((backTo pos (starEach es X.env)).any (·.1)=false) zu3._auto_1)
  (ht :autoParam (eval (.Call (.Attribute (.Name x p) mt ap) (a :: es) [] pos) X.env = (do
   let ov<-eval (.Name x p) X.env
   standAt ap.atName
   let(f,first)<-holding [ov] (getMethod ov mt pl)
   callWith pos f first (backTo pos (starEach (a::es) X.env)) (backToKw pos (keywordEach [] X.env)))) zu3._auto_1):SE X (.Call (.Attribute (.Name x p) mt ap) (a::es) [] pos) (zgv F c ns j ma):=by
 obtain⟨C,f,fdd,ps,c1,c2,c3,c4,c5⟩:=md.ex
 refine ha.el fun t pa sa=>?_
 refine⟨_,zoH (zb3 hN hv hd hcd) c2 c3 c4 (hr.mono hk) c5 .nil zkK pa hst hpl ht,fun B G H σ ρ d ρ' Q I hm kk=>?_⟩
 unfold zgv at hm
 split at hm
 ·rename_i c' ns' ls dk e0
  split at hm
  ·rename_i h
   obtain⟨rfl,rfl⟩:=h
   obtain⟨s0,e1,e2⟩:=SI.obHas e0
   obtain⟨q,C2,dx,vs,A,hp,b,nd,ow⟩:=I.obj e1 e2
   have h2:=b.nc
   rw[c1]at h2;cases h2
   obtain⟨⟨as,ρ1⟩,e3,hm2⟩:=zdm hm
   clear hm
   refine⟨.ref q,hp,q,dx,vs,rfl,b.ob,zf1 (by rw[b.nm];exact hc),sa B G H σ ρ as ρ1 _ I e3 fun G1 H1 us I1 f1 r1=>?_⟩
   dsimp only at hm2
   split at hm2
   ·rename_i c2' ns2 l2 d2 e4
    refine cBel hm2 fun z e5 hm3=>?_
    clear hm2
    split at hm3
    ·rename_i d' c3' ns3 l3 d3 rest
     refine cMel hm3 fun s1 e6 e7=>?_
     cases e7
     obtain⟨s2,e8,e9⟩:=SI.obHas e4
     rw[e6]at e8;cases e8
     have hl:=hlen _ _ _ e3
     rw[List.append_nil,<-hl]
     exact callO I1 e6 e9 hp r1 e5 fun G2 H2 v I2 f2 rr=>kk G2 H2 v I2 (f1.trans f2) rr
    ·exact cNN hm3
   ·exact cNN hm2
  ·exact cNN hm
 ·exact cNN hm
theorem ss_mkO (i:Nat)(mk:MkO X.prog X.w X.K X.mg X.base k c (spG X.K n F))(hr:Room k' X.A)(ha:SA X (a::es) ma)(hlen:∀ρ as ρ',ma ρ=some (as,ρ')->as.length+1=n)(hN:X.N.Nodup)(hi:autoParam (X.N[i]? =some x) zu3._auto_1)(hx:autoParam (Loc X.env.scope x) zu5._auto_1)(hf:autoParam (X.fn x=true\/X.env.scope.names.lookup x=some .local) zu5._auto_1)(hk:autoParam (k+1<=k') zu1._auto_1)(hg:autoParam (Gl X c) zu3._auto_1)(hdb:autoParam ((c==("__debug__":Str))=false) zu1._auto_1)
  (hs:autoParam (swapsWith (.Call (.Name c p) (a::es) [] pos) (some (.Name x py)) tpos.line X.env=pure false) zu3._auto_1) (hst:autoParam (starEach (a::es) X.env=(false,eval a X.env)::starEach es X.env) zu3._auto_1) (hpl:autoParam ((backTo pos (starEach es X.env)).any (·.1)=false) zu3._auto_1):SS X (.Assign [.Name x py] (.Call (.Name c p) (a::es) [] pos) tpos) (sMkO i c ns F ma):=by
 obtain⟨C,f,fd,ps,c1,c2,c3,c4,c5⟩:=mk.ex
 refine ha.el fun t pa sa=>?_
 refine⟨_,zot hN hi hx (pe_make c3 c4 (hr.mono hk) hg c2 c5 .nil zkK pa hdb hst hpl) hs hf,fun B G H σ ρ fl ρ' E I hm kk=>?_⟩
 refine zaz hm fun as ρ1 e1 hm2=>?_
 clear hm
 refine cBel hm2 fun z e2 hm3=>?_
 clear hm2
 split at hm3
 ·rename_i c3' ns3 l3 d3 rest
  refine cIte hm3 fun h hm3=>?_
  obtain⟨rfl,rfl⟩:=h
  obtain⟨rfl,rfl⟩:=cSp hm3
  refine sa B G H σ ρ as ρ1 _ I e1 fun G1 H1 us I1 f1 r1=>?_
  intro q dx hq hdx nq
  have hl:=hlen _ _ _ e1
  rw[List.append_nil,<-hl]
  have hH:∀b,(upd (upd H1 dx (.own q)) q (.ins C dx [])) b=none->H1 b=none:=fun b hb=>by
   by_cases y:b=q
   ·subst y;rw[zar]at hb;cases hb
   ·rw[zal y]at hb
    by_cases y2:b=dx
    ·subst y2;rw[zar]at hb;cases hb
    ·rwa[zal y2]at hb
  have hH2:∀b o,H1 b=some o->(upd (upd H1 dx (.own q)) q (.ins C dx [])) b=some o/\b∉[q,dx]:=fun b o hb=>by
   have n1:b≠q:=fun z=>by rw[z,hq]at hb;exact cNN hb
   have n2:b≠dx:=fun z=>by rw[z,hdx]at hb;exact cNN hb
   exact⟨by rw[zal n1,zal n2];exact hb,by simp[n1,n2]⟩
  refine coreO (A:=[q,dx]) (t:= .obj _ [] [] none) (fun a o ea=>(hH2 a o (I1.fz a o ea)).1) ⟨q,C,dx,[],[],rfl,c1,zar,by rw[zal nq];exact zar,rfl,rfl,rfl⟩ (by simp[Ne.symm nq]) (fun a m=>?_) r1 e2 fun G2 H2 v A3 f2 fz2 nw kp th r3 nd3 h3 rr=>⟨rr,?_⟩
  ·have:a=q\/a=dx:=by simpa using m
   rcases this with rfl|rfl
   ·exact I1.fz.free hq
   ·exact I1.fz.free hdx
  ·have nw':∀b o,G2 b=some o->G1 b≠none\/H1 b=none:=fun b o e=>(nw b o e).imp id (hH b)
   have kp':∀b o,H1 b=some o->H2 b=some o:=fun b o e=>kp b o (hH2 b o e).1 (hH2 b o e).2
   have I2:=I1.grow f2 fz2 nw' kp'
   have fr:∀a∈A3,H1 a=none:=fun a m=>by
    rcases(h3 a m).2 with y|y
    ·have:a=q\/a=dx:=by simpa using y
     rcases this with rfl|rfl
     ·exact hq
     ·exact hdx
    ·exact hH a y
   have hA:∀a∈A3,G2 a=none/\B.H a=none/\Nw X.K G2 H2 σ ρ1 a:=fun a m=>⟨(h3 a m).1,I1.there a (fr a m),I1.own_ne (fr a m) nw' kp'⟩
   have fg:=znt (G:=G2) (H:=H2) fun a m=>(hA a m).1
   obtain⟨q2,C2,dx2,vs2,A2,e4,rfl,b2⟩:=ob_rep r3
   cases e4
   have I3:=(I2.frzA hA).set (i:=i) (v:= .ref q) (d:=obD c3' ns3 l3 d3) (znD fg b2.nc (by rw[zgx (by simp)];exact b2.ob) b2.nm b2.rp fun a m=>zgx (by simp[m]))
   exact kk _ H2 _ I3 (f1.trans (f2.trans fg))
 ·exact cNN hm3
end
section
variable {P:Program} {w:World} {K:W.Frag} {mg:Str->Option Value} {base hp:Heap} {c x mt:Str} {st:Stmt} {f:Addr} {N:List Str} {k n:Nat} {m:MS}
noncomputable def MAtC (K:W.Frag)(c mt q:Str)(st:Stmt):Prop:=∃C f fd,W.nsIn K mainGlobals c=some (some (.ref C))/\Cls K C/\Meth K C mt f/\Fun K mt q st f fd
theorem MAtC.mk {q:Str}{od an:Option Addr}{kV doc pm cdv ct:Value}(n:W.nsIn K mainGlobals c=some (some (.ref C)))(cl:Cls K C)(a:W.findIn K (.ref C) mt=some (some (.ref f)))(i:W.isFn K (.ref f)=true)(l:K.lookup f=some ⟨oc,od,.func (W.fnOf mt q (zaZ st) (zaH st) (zan st) .none kV doc pm an cdv ct),osl⟩)
  (cc:W.codeIn K cdv q=true) (k:W.keepIn K (.ref f)=true):MAtC K c mt q st:=⟨C,f,_,n,cl,⟨a,i,k⟩,znf l cc k⟩
theorem mvG {q:Str}(h:MAtC K c mt q st)(b:Bd P w K mg base q st N k m)(d:DefOkM mt q st N n:=by exact⟨⟨rfl,rfl,rfl,by decide+kernel,rfl,by decide+kernel,by decide+kernel⟩,rfl,by decide,fun _ _ _ _ _ _=>by repeat (first | exact us_0 rfl | refine us_s fun _ => ?_)⟩):MV P w K mg base (k+1) c mt (spG K n (fG N.length m)):=
 let⟨C,f,fd,a1,a2,a3,T⟩:=h
 ⟨⟨C,f,fd,_,a1,a2,a3,fnG_ok T d.sc d.len d.le fun cdv A outer s H E hr=>b _ cdv A outer s H E hr d.sc.nd,T.binds d.bs⟩⟩
theorem mvP {q:Str}(h:MAtC K c mt q st)(b:Bd P w K mg base q st N k m)(d:DefOkM mt q st N n:=by exact⟨⟨rfl,rfl,rfl,by decide+kernel,rfl,by decide+kernel,by decide+kernel⟩,rfl,by decide,fun _ _ _ _ _ _=>by repeat (first | exact us_0 rfl | refine us_s fun _ => ?_)⟩):MV P w K mg base (k+1) c mt (spP K n (fP N.length m)):=
 let⟨C,f,fd,a1,a2,a3,T⟩:=h
 ⟨⟨C,f,fd,_,a1,a2,a3,zob T d.sc d.len d.le fun cdv A outer s H E hr=>b _ cdv A outer s H E hr d.sc.nd,T.binds d.bs⟩⟩
structure IAtC (K:W.Frag) (mg:Str->Option Value) (c q:Str) (st:Stmt):Prop where
 ex:∃C f fd,W.nsIn K mainGlobals c=some (some (.ref C))/\mg c=some (.ref C)/\Mk K C f/\Fun K "__init__" q st f fd
theorem mkG {q:Str}(h:IAtC K mg c q st)(b:Bd P w K mg base q st N k m)(d:DefOkM "__init__" q st N n:=by exact⟨⟨rfl,rfl,rfl,by decide+kernel,rfl,by decide+kernel,by decide+kernel⟩,rfl,by decide,fun _ _ _ _ _ _=>by repeat (first | exact us_0 rfl | refine us_s fun _ => ?_)⟩):MkO P w K mg base (k+1) c (spG K n (fG N.length m)):=
 let⟨C,f,fd,a1,a2,a3,T⟩:=h.ex
 ⟨⟨C,f,fd,_,a1,a2,a3,fnG_ok T d.sc d.len d.le fun cdv A outer s H E hr=>b _ cdv A outer s H E hr d.sc.nd,T.binds d.bs⟩⟩
end
noncomputable def zbO (i j:Int):Bool:=decide (i.natAbs.log2<60000000)&&decide (j.natAbs.log2<60000000)
theorem znq {i j:Int}(h:zbO i j=true):IntMulOk i j:=by
 unfold zbO at h
 rw[Bool.and_eq_true,decide_eq_true_eq,decide_eq_true_eq]at h
 have bits:∀k:Int,k.natAbs.log2<60000000->Builtin.Int.intBits k<=60000000:=fun k h=>by
  unfold Builtin.Int.intBits
  split
  ·exact Nat.zero_le _
  ·lia
 have b1:=bits i h.1
 have b2:=bits j h.2
 unfold IntMulOk
 intro z
 simp only[Bool.and_eq_true]at z
 have z2:=z.2
 unfold Builtin.Int.intTooBig at z2
 revert z2
 generalize Builtin.Int.intBits i=p at*
 generalize Builtin.Int.intBits j=q at*
 intro z2
 have z3:=of_decide_eq_true z2
 have hb:=bitsLine_eq
 lia
noncomputable def zhl:D->D->Option D:=dI2 zbO fun i j=> .int (i*j)
noncomputable def zhn (j:Int):Bool:=decide (j≠0)&&decide (j.natAbs.log2<9000)
theorem op_fdivF:OpR X (binaryOp .FloorDiv) (rI (fun _ j=>j≠0/\j.natAbs.log2<9000) fun i j=> .int (i.fdiv j)):=opI fun i j _ _ _ _ _ hc q=>
 PyProof.Rows.floordiv_int hc.1 q (.inl (PyProof.noPylong_of_log2 hc.2))
noncomputable def zka:D->D->Option D:=dI2 (fun _ j=>zhn j) fun i j=> .int (i.fdiv j)
noncomputable def dModF:D->D->Option D:=dI2 (fun _ j=>decide (j≠0)) fun i j=> .int (i.fmod j)
section
variable {X:Cx} {a b:Expr} {ma mb:ME} {pos:Pos}
theorem zdf (ha:SE X a ma)(hb:SE X b mb):SE X (.BinOp a .Mult b pos) (m2 zhl ma mb):=zgZ op_mulG (zgJ fun i j h=>znq h) ha hb
theorem zhq (ha:SE X a ma)(hb:SE X b mb):SE X (.BinOp a .FloorDiv b pos) (m2 zka ma mb):=zgZ op_fdivF (zgJ fun i j h=>by simpa[zhn]using h) ha hb
theorem se_modF (ha:SE X a ma)(hb:SE X b mb):SE X (.BinOp a .Mod b pos) (m2 dModF ma mb):=zgZ op_modN (zgJ fun i j h=>by simpa using h) ha hb
end
section
variable {X:Cx} {elt tg iter:Expr} {ifs:List Expr} {scope:Scope} {lpos pos pos':Pos} {mi:MA} {g:D->R->Option R} {mt:MT} {me:ME}
theorem zjN (j i:Nat)(cap:List Nat)(t:Nat)(N:List Str)(hc:X.calm=true)(hi:SIt X tg iter mi)(hg:∀C s H fp,SG (cxC X N scope C s H fp) tg g)(ht:∀C s H fp,STs (cxC X N scope C s H fp) ifs mt)(he:∀C s H fp,SE (cxC X N scope C s H fp) elt me)(hN:X.N.Nodup)
    (hxi:autoParam (X.N[i]? =some x) zu3._auto_1) (hx:autoParam (Loc X.env.scope x) zu5._auto_1) (hf:autoParam (X.fn x=true\/X.env.scope.names.lookup x=some .local) zu5._auto_1)
    (hsw:autoParam (swapsWith (.ListComp elt [⟨tg,iter,ifs,0⟩] scope lpos) (some (.Name x pos')) pos.line X.env=pure true) zu3._auto_1)
    (hk:autoParam (scope.kind= .function) zu3._auto_1) (hb:autoParam (blkB X.env scope=true) zu9._auto_1) (hcap:autoParam (capB scope.names N X.N cap t=true) zu9._auto_1)
    (hs:autoParam (∀x,foldedSetIterable iter X.env x=pure x) zu8._auto_1):SS X (.Assign [.Name x pos'] (.ListComp elt [⟨tg,iter,ifs,0⟩] scope lpos) pos) (sSet i (eFz (oLkO j (oLC cap t mi g mt me)))):=by
  refine hi.el fun wi pi si=>?_
  refine⟨_,ziT hN hxi hx hf hsw hc (zlj hk hb) (zlX hcap) pi (fun C s H fp=>(hg C s H fp).choose_spec.1) (fun C s H fp=>(ht C s H fp).choose_spec.1) (fun C s H fp=>(he C s H fp).choose_spec.1) hs,fun B G H σ ρ fl ρ' E I hm k=>?_⟩
  refine zdO hm fun d ρ1 e1 e3=>?_
  refine zdO e1 fun ds ρ2 e4 e5=>?_
  obtain⟨rfl,rfl⟩:=Prod.mk.inj e5
  obtain⟨rfl,rfl⟩:=Prod.mk.inj e3
  refine zhm j (zjb si (.mk' hg ht he)) B G H σ ρ ds ρ2 _ I e4 fun G1 H1 l xs I1 f1 g1 h1 r1 b1 n1=>?_
  obtain⟨I2,f2,r2⟩:=zgK I1 g1 h1 r1 b1 n1
  exact k _ H1 _ (I2.set r2) (f1.trans f2)
end
noncomputable def slC:Str:="Slant"
noncomputable def slN:List Str:=["block","weights","ways","backs","slants"]
theorem OC.take (h:OC K c ns)(k:Nat):OC K c (ns.take k):=by
 obtain⟨C,c1,c2,c3⟩:=h
 exact⟨C,c1,c2,fun f m=>c3 f (List.mem_of_mem_take m)⟩
noncomputable def bigF:Nat:=2^10000
end M
namespace M
open L2 PySem
open PyProof.Rows hiding St
noncomputable def rAnyI (K:W.Frag):List V->Hp->VK->Prop:=fun xs H Q=>∃(p:Addr) (ns:List Int),xs=[.ref p]/\(SqL K H p (ns.map V.int)\/SqT K H p (ns.map V.int))/\Q (.bl (ns.any fun n=>n !=0)) H
theorem znE {X:Cx}(hc:X.calm=true):zeo X (.builtin "any") (rAnyI X.K):=by
 intro pins s σ H xs us Q I r h
 obtain⟨p,ns,rfl,hq,q⟩:=h
 obtain⟨u,rfl,ru⟩:=zib r
 cases ru
 refine call_any_walk (ziG (A:=X.A.in1) (I.ok.hd hc) I hq fun its s₂ St rv W st hfp fin=>?_)
 have hl:=rv.length
 rw[List.length_map]at hl
 refine⟨_,_,_,_,_,_,fun i=>((ns.map fun n=>n !=0)[i]?).getD false,rfl,W,st,fun i v s' Q' E' hP hQ=>?_,fun h' tk hk=>⟨.bl (ns.any fun n=>n !=0),H,fin h' tk hk,?_,q⟩⟩
 ·have hi:i<its.length:=(List.getElem?_eq_some_iff.mp hP).1
  have e2:(ns.map V.int)[i]? =some (.int ns[i]):=by rw[List.getElem?_map,List.getElem?_eq_getElem (by lia)];rfl
  obtain⟨u,h1,h2⟩:=rv.get e2
  rw[hP]at h1;cases h1
  obtain⟨t,rfl⟩:=(show ∃t,v=Value.int ns[i] t from h2)
  have e3:(ns.map fun n=>n !=0)[i]? =some (ns[i] !=0):=by rw[List.getElem?_map,List.getElem?_eq_getElem (by lia)];rfl
  simp only[e3,Option.getD_some]at hQ
  exact PySem.P.truthy_int hQ
 ·have h2:its.length=(ns.map fun n=>n !=0).length:=by rw[List.length_map];lia
  rw[h2,LSm.range_any,List.any_map];rfl
noncomputable def zmJ:List D->Option D
 |[d]=>(zaG [d]).bind fun ds=>(zaW ds).map fun ns=> .bl (ns.any fun n=>n !=0)
 |_=>none
theorem vc_anyI {X:Cx}:VC X (rAnyI X.K) zmJ:=by
 intro B G H σ ρ xs ds d Q I r hf k
 match ds,hf with
 |[a],hf=>
  refine cBel hf fun es e1 hf=>?_
  refine cMel hf fun ns e2 e3=>?_
  subst e3
  obtain⟨x,rfl,ra⟩:=r.one
  obtain⟨p,ys,rfl,hq,ry⟩:=ziH I ra e1
  rw[zfA e2]at ry
  rw[RepL.ints_eq ry]at hq
  exact⟨p,ns,rfl,hq,k G H _ I (Fz.refl G) rfl⟩
 |[],hf=>exact cNN hf
 |_::_::_,hf=>exact cNN hf
theorem zj8 {X:Cx}{e:Expr}{ma:MA}{p pos:Pos}(hc:X.calm=true)(ml:X.mg "any"=none)(ha:SA X [e] ma)(hg:autoParam (Gl X "any") zu3._auto_1)(he:autoParam (starEach [e] X.env=(false,eval e X.env)::starEach [] X.env) zu3._auto_1):SE X (.Call (.Name "any" p) [e] [] pos) (mC zmJ ma):=
 zda (znE hc) vc_anyI (by decide+kernel) ml ha hg (by decide) (by decide) he rfl
end M
namespace M
open L2 PySem
variable {c d x:D} {b:MS} {z:Bool} {Q:Fl×R->Prop} {a i n j N k:Nat} {f:D->R->Option (Option D×R)} {g:D->R->Option R} {mt:MT} {me m:ME} {ρ:R} {r:Sl} {h:List D->R->Option R} {ds xs ys:List D} {mi ma:MA} {t:Option Sl} {F:List D->Option Sl} {cap:List Nat} {I:R->Prop}
noncomputable abbrev Rt {α:Type}(_:α->Prop):Type:=Option α
noncomputable def OkQ {α:Type}(Q:α->Prop)(o:Rt Q):Prop:=∃a,o=some a/\Q a
noncomputable def Ok {α:Type}(o:Option α)(Q:α->Prop):Prop:=OkQ Q o
noncomputable abbrev RtS {α:Sort u}(_:α):Type:=Option Sl
section
variable {α β:Type} {o:Option α} {Q Q':α->Prop}
theorem ok_some {a:α}:OkQ Q (some a)=Q a:=propext ⟨fun⟨_,e,q⟩=>by cases e;exact q,fun q=>⟨a,rfl,q⟩⟩
theorem ok_none:OkQ Q (none:Option α)=False:=propext ⟨fun⟨_,e,_⟩=>(by cases e),False.elim⟩
theorem ok_bind {f:α->Option β}{Q:β->Prop}:OkQ Q (o.bind f)=OkQ (fun a=>OkQ Q (f a)) o:=by
 cases o with
 |none=>exact propext ⟨fun⟨_,e,_⟩=>(by cases e),fun⟨_,e,_⟩=>(by cases e)⟩
 |some a=>exact propext ⟨fun h=>⟨a,rfl,h⟩,fun⟨_,e,h⟩=>by cases e;exact h⟩
theorem ok_map {f:α->β}{Q:β->Prop}:OkQ Q (o.map f)=OkQ (fun a=>Q (f a)) o:=by
 cases o with
 |none=>exact propext ⟨fun⟨_,e,_⟩=>(by cases e),fun⟨_,e,_⟩=>(by cases e)⟩
 |some a=>exact propext ⟨fun h=>⟨a,rfl,ok_some.mp h⟩,fun⟨_,e,h⟩=>by cases e;exact ok_some.mpr h⟩
theorem zdQ {c:Prop}[Decidable c]:OkQ Q (if c then o else none)=(c/\OkQ Q o):=by
 by_cases h:c
 ·rw[if_pos h];exact propext ⟨fun k=>⟨h,k⟩,fun k=>k.2⟩
 ·rw[if_neg h];exact propext ⟨fun k=>(ok_none.mp k).elim,fun k=>absurd k.1 h⟩
theorem ok_Q:Ok o Q=OkQ Q o:=rfl
noncomputable def gd {α:Type}(b:Bool)(o:Option α):Option α:=if b then o else none
theorem ok_gd {b:Bool}(h:b=true):OkQ Q (gd b o)=OkQ Q o:=by subst h;rfl
theorem Ok.mono (h:Ok o Q)(k:∀a,Q a->Q' a):Ok o Q':=by
 obtain⟨a,e,q⟩:=h;exact⟨a,e,k a q⟩
theorem zax {Q':α->Prop}(h:∀a,Q a=Q' a):OkQ Q o=OkQ Q' o:=by rw[funext h]
end
section
variable {c:MT} {a b:MS} {ρ:R}
theorem zjo {α:Type}{o u:Option α}{Q:α->Prop}:OkQ Q (if z then o else u)=((z=true->OkQ Q o)/\(z=false->OkQ Q u)):=by cases z<;>simp
theorem ok_sIf:OkQ Q (sIf c a b ρ)=(OkQ (fun p=>(p.1=true->OkQ Q (a p.2))/\(p.1=false->OkQ Q (b p.2))) (c ρ)):=by
 unfold sIf;rw[ok_bind];exact zax fun p=>zjo
theorem ok_eIf {a b:ME}{Q:D×R->Prop}:OkQ Q (eIf c a b ρ)=(OkQ (fun p=>(p.1=true->OkQ Q (a p.2))/\(p.1=false->OkQ Q (b p.2))) (c ρ)):=by
 unfold eIf;rw[ok_bind];exact zax fun p=>zjo
theorem ok_tAnd {a b:MT}{Q:Bool×R->Prop}:OkQ Q (zor a b ρ)=(OkQ (fun p=>(p.1=true->OkQ Q (b p.2))/\(p.1=false->Q (false,p.2))) (a ρ)):=by
 unfold zor;rw[ok_bind];exact zax fun p=>by rw[zjo,ok_some]
theorem ok_tOr {a b:MT}{Q:Bool×R->Prop}:OkQ Q (tOrM a b ρ)=(OkQ (fun p=>(p.1=true->Q (true,p.2))/\(p.1=false->OkQ Q (b p.2))) (a ρ)):=by
 unfold tOrM;rw[ok_bind];exact zax fun p=>by rw[zjo,ok_some]
theorem ok_eAnd {a b:ME}{Q:D×R->Prop}:OkQ Q (eAnd a b ρ)=(OkQ (fun p=>∃z,p.1= .bl z/\(z=true->OkQ Q (b p.2))/\(z=false->Q (.bl false,p.2))) (a ρ)):=by
 unfold eAnd;rw[ok_bind]
 have:∀p:D×R,Ok (match p.1 with
  | .bl true=>b p.2
  | .bl false=>some (.bl false,p.2)
  |_=>none) Q↔∃z,p.1= .bl z/\(z=true->Ok (b p.2) Q)/\(z=false->Q (.bl false,p.2)):=by
  rintro⟨d,ρ⟩
  cases d with
  |bl z=>cases z<;>simp[ok_Q,ok_some]
  |_=>simp[ok_Q,ok_none]
 exact zax fun p=>propext (this p)
theorem ok_eOr {a b:ME}{Q:D×R->Prop}:OkQ Q (eOr a b ρ)=(OkQ (fun p=>∃z,p.1= .bl z/\(z=true->Q (.bl true,p.2))/\(z=false->OkQ Q (b p.2))) (a ρ)):=by
 unfold eOr;rw[ok_bind]
 have:∀p:D×R,Ok (match p.1 with
  | .bl true=>some (.bl true,p.2)
  | .bl false=>b p.2
  |_=>none) Q↔∃z,p.1= .bl z/\(z=true->Q (.bl true,p.2))/\(z=false->Ok (b p.2) Q):=by
  rintro⟨d,ρ⟩
  cases d with
  |bl z=>cases z<;>simp[ok_Q,ok_some]
  |_=>simp[ok_Q,ok_none]
 exact zax fun p=>propext (this p)
theorem ok_chain {f g:D->D->Option D}{a b c:ME}{Q:D×R->Prop}:OkQ Q (eChain f g a b c ρ)=(OkQ (fun p=>OkQ (fun q=>OkQ (fun t=>∃z,t= .bl z/\(z=true->OkQ (fun r=>OkQ (fun d=>Q (d,r.2)) (g q.1 r.1)) (c q.2))/\(z=false->Q (.bl false,q.2))) (f p.1 q.1)) (b p.2)) (a ρ)):=by
 unfold eChain;rw[ok_bind]
 have:∀(p q:D×R) (t:D),Ok (match t with
  | .bl true=>(c q.2).bind fun r=>(g q.1 r.1).map fun d=>(d,r.2)
  | .bl false=>some (.bl false,q.2)
  |_=>none) Q↔∃z,t= .bl z/\(z=true->Ok (c q.2) fun r=>Ok (g q.1 r.1) fun d=>Q (d,r.2))/\(z=false->Q (.bl false,q.2)):=by
  intro p q t
  cases t with
  |bl z=>
   cases z
   ·simp[ok_Q,ok_some]
   ·simp only[ok_Q,ok_bind,D.bl.injEq,exists_eq_left',forall_const,reduceCtorEq,false_implies,and_true]
    exact iff_of_eq (zax fun r=>ok_map)
  |_=>simp[ok_Q,ok_none]
 exact zax fun p=>by rw[ok_bind];exact zax fun q=>by rw[ok_bind];exact zax fun t=>propext (this p q t)
theorem ok_turnM {Q:Option D×R->Prop}:OkQ Q (turnM g mt me d ρ)=(OkQ (fun ρ1=>OkQ (fun p=>(p.1=true->OkQ (fun q=>zcG q.2=true/\Q (some q.1,q.2)) (me p.2))/\(p.1=false->zcG p.2=true/\Q (none,p.2))) (mt ρ1)) (g d ρ)):=by
 unfold turnM;rw[ok_bind];exact zax fun ρ1=>by rw[ok_bind];exact zax fun p=>by rw[zjo,ok_bind,zdQ,ok_some];congr 1;exact propext (imp_congr Iff.rfl (iff_of_eq (zax fun q=>by rw[zdQ,ok_some])))
theorem ok_turnP {bk:Nat}{Q:Option D×R->Prop}:OkQ Q (znn bk g mt me d ρ)=(OkQ (fun ρ1=>OkQ (fun p=>(p.1=true->OkQ (fun q=>zkN bk q.2=true/\Q (some q.1,q.2)) (me p.2))/\(p.1=false->zkN bk p.2=true/\Q (none,p.2))) (mt ρ1)) (g d ρ)):=by
 unfold znn;rw[ok_bind];exact zax fun ρ1=>by rw[ok_bind];exact zax fun p=>by rw[zjo,ok_bind,zdQ,ok_some];congr 1;exact propext (imp_congr Iff.rfl (iff_of_eq (zax fun q=>by rw[zdQ,ok_some])))
theorem zmd (n:Nat):Int.natAbs (no_index (OfNat.ofNat n))=n:=rfl
end
section
theorem ok_sNext:OkQ Q (zdG ρ)=(Q (.next,ρ)):=ok_some
noncomputable def SeqK (b:MS)(Q:Fl×R->Prop)(p:Fl×R):Prop:=OkQ Q (match p.1 with
 | .next=>b p.2
 |f=>some (f,p.2))
theorem zov:SeqK b Q (.next,ρ)=(OkQ Q (b ρ)):=rfl
theorem seqK_ret:SeqK b Q (.ret r,ρ)=(Q (.ret r,ρ)):=ok_some
theorem seqK_brk:SeqK b Q (.brk,ρ)=(Q (.brk,ρ)):=ok_some
theorem znw:SeqK b Q (.cont,ρ)=(Q (.cont,ρ)):=ok_some
theorem ok_sSeq {a b:MS}:OkQ Q (sSeq a b ρ)=(OkQ (SeqK b Q) (a ρ)):=ok_bind
theorem ok_sExpr:OkQ Q (zmP m ρ)=(OkQ (fun p=>Q (.next,p.2)) (m ρ)):=ok_map
theorem ok_sRet:OkQ Q (sRet m ρ)=(OkQ (fun p=>Q (.ret (.val p.1),p.2)) (m ρ)):=ok_map
theorem ok_sRetO {m:MO}:OkQ Q (zhr m ρ)=(OkQ (fun p=>Q (.ret (.own p.1),p.2)) (m ρ)):=ok_map
theorem ok_sRetV:OkQ Q (zic i ρ)=OkQ Q (match ρ[i]? with
 |some (.val d)=>some (.ret (.val d),ρ)
 |some (.own ds)=>some (.ret (.own ds),ρ.set i .emp)
 |_=>none):=rfl
theorem ok_gN {Q:R->Prop}:OkQ Q (gN i d ρ)=(Q (ρ.set i (.val d))):=ok_some
theorem ok_gsNil {ds:List D}{ρ:R}{Q:R->Prop}:OkQ Q (zg0 ds ρ)=OkQ Q (match ds with
 |[]=>some ρ
 |_=>none):=rfl
theorem znN {Q:R->Prop}:OkQ Q (za5 g h ds ρ)=OkQ Q (match ds with
 |d::ds=>(g d ρ).bind fun ρ1=>h ds ρ1
 |[]=>none):=rfl
theorem ok_gT {g:List D->R->Option R}{Q:R->Prop}:OkQ Q (gT n g d ρ)=OkQ Q (match d with
 | .tup ds=>if ds.length=n then g ds ρ else none
 |_=>none):=rfl
theorem ok_sAsg:OkQ Q (sAsg m g ρ)=(OkQ (fun p=>OkQ (fun ρ'=>Q (.next,ρ')) (g p.1 p.2)) (m ρ)):=ok_bind.trans (zax fun _=>ok_map)
theorem ok_sSet:OkQ Q (sSet i m ρ)=(OkQ (fun p=>Q (.next,p.2.set i (.val p.1))) (m ρ)):=ok_map
theorem ok_sSetO {m:MO}:OkQ Q (zju i m ρ)=(OkQ (fun p=>Q (.next,p.2.set i (.own p.1))) (m ρ)):=ok_map
theorem ok_sApp:OkQ Q (sApp i m ρ)=OkQ Q (gd ((ρ[i]?.bind Sl.items).isSome) ((m ρ).bind fun p=>p.2[i]?.bind fun s=>s.items.bind fun ds=>if ds.length<16777216 then some (.next,p.2.set i (s.put (ds++[p.1])))else none)):=rfl
theorem ok_sPut {mi me:ME}:OkQ Q (sPut j mi me ρ)=OkQ Q ((me ρ).bind fun p=>gd (hasV p.2 j) ((mi p.2).bind fun q=>match q.1 with
 | .int k=>q.2[j]?.bind fun s=>s.items.bind fun ds=>(ixN ds.length k).bind fun n=>some (.next,q.2.set j (s.put (ds.set n p.1)))
 |_=>none)):=rfl
theorem ok_eC {Q:D×R->Prop}:OkQ Q (eC d ρ)=(Q (d,ρ)):=ok_some
noncomputable def eVQ (Q:D×R->Prop)(s:RtS Q)(ρ:R)(i:Nat):Prop:=match s with
 |some (.val d)=>Q (d,ρ)
 |some (.own ds)=>Q (.lst ds,ρ.set i (.val (.lst ds)))
 |_=>False
theorem zhV {Q:D×R->Prop}:eVQ Q (some (.val d)) ρ i=Q (d,ρ):=rfl
theorem eVQ_own {Q:D×R->Prop}:eVQ Q (some (.own ds)) ρ i=Q (.lst ds,ρ.set i (.val (.lst ds))):=rfl
theorem zh5 {Q:D×R->Prop}:OkQ Q (eVar i ρ)=eVQ Q ρ[i]? ρ i:=by
 unfold eVar eVQ
 cases ρ[i]? with
 |none=>exact ok_none
 |some s=>cases s<;>first|exact ok_some|exact ok_none
noncomputable def Vb (Q:D->D->Prop)(P:Prop)(s:RtS Q)(t:Option Sl):Prop:=match s,t with
 |some (.val x),some (.val y)=>Q x y
 |_,_=>P
theorem Vb_val {Q:D->D->Prop}{P:Prop}{x y:D}:Vb Q P (some (.val x)) (some (.val y))=Q x y:=rfl
theorem Vb_own {Q:D->D->Prop}{P:Prop}:Vb Q P (some (.own xs)) t=P:=rfl
theorem Vb_own2 {Q:D->D->Prop}{P:Prop}:Vb Q P (some (.val x)) (some (.own ys))=P:=rfl
noncomputable def Va (Q:D->Prop)(P:Prop)(s:RtS Q):Prop:=match s with
 |some (.val x)=>Q x
 |_=>P
theorem Va_val {Q:D->Prop}{P:Prop}:Va Q P (some (.val x))=Q x:=rfl
theorem Va_own {Q:D->Prop}{P:Prop}:Va Q P (some (.own xs))=P:=rfl
theorem ok_aNil {Q:List D×R->Prop}:OkQ Q (aNil ρ)=(Q ([],ρ)):=ok_some
theorem ok_aCons {r:MA}{Q:List D×R->Prop}:OkQ Q (zaf m r ρ)=(OkQ (fun p=>OkQ (fun q=>Q (p.1::q.1,q.2)) (r p.2)) (m ρ)):=ok_bind.trans (zax fun _=>ok_map)
theorem ok_m2 {f:D->D->Option D}{ma mb:ME}{Q:D×R->Prop}:OkQ Q (m2 f ma mb ρ)=(OkQ (fun p=>OkQ (fun q=>OkQ (fun d=>Q (d,q.2)) (f p.1 q.1)) (mb p.2)) (ma ρ)):=ok_bind.trans (zax fun _=>ok_bind.trans (zax fun _=>ok_map))
theorem ok_m2VV {f:D->D->Option D}{a b:Nat}{Q:D×R->Prop}:OkQ Q (m2 f (eVar a) (eVar b) ρ)=Vb (fun x y=>OkQ (fun d=>Q (d,ρ)) (f x y)) (OkQ (fun p=>OkQ (fun q=>OkQ (fun d=>Q (d,q.2)) (f p.1 q.1)) (eVar b p.2)) (eVar a ρ)) ρ[a]? ρ[b]?:=by
 rw[ok_m2,Vb.eq_def]
 split
 ·rename_i x y h1 h2
  rw[zh5,h1,zhV,zh5,h2,zhV]
 ·rfl
theorem ok_m2VC {f:D->D->Option D}{Q:D×R->Prop}:OkQ Q (m2 f (eVar a) (eC c) ρ)=Va (fun x=>OkQ (fun d=>Q (d,ρ)) (f x c)) (OkQ (fun p=>OkQ (fun d=>Q (d,p.2)) (f p.1 c)) (eVar a ρ)) ρ[a]?:=by
 rw[ok_m2,Va.eq_def,show(fun p:D×R=>OkQ (fun q=>OkQ (fun d=>Q (d,q.2)) (f p.1 q.1)) (eC c p.2))=fun p=>OkQ (fun d=>Q (d,p.2)) (f p.1 c)from funext fun p=>ok_eC]
 split
 ·rename_i x h1
  rw[zh5,h1,zhV]
 ·rfl
theorem ok_m2CV {f:D->D->Option D}{Q:D×R->Prop}:OkQ Q (m2 f (eC c) (eVar a) ρ)=Va (fun x=>OkQ (fun d=>Q (d,ρ)) (f c x)) (OkQ (fun p=>OkQ (fun d=>Q (d,p.2)) (f c p.1)) (eVar a ρ)) ρ[a]?:=by
 rw[ok_m2,Va.eq_def,ok_eC]
 split
 ·rename_i x h1
  rw[zh5,h1,zhV]
 ·rfl
theorem ok_m1 {f:D->Option D}{ma:ME}{Q:D×R->Prop}:OkQ Q (m1 f ma ρ)=(OkQ (fun p=>OkQ (fun d=>Q (d,p.2)) (f p.1)) (ma ρ)):=ok_bind.trans (zax fun _=>ok_map)
theorem ok_mC {f:List D->Option D}{Q:D×R->Prop}:OkQ Q (mC f ma ρ)=(OkQ (fun p=>OkQ (fun d=>Q (d,p.2)) (f p.1)) (ma ρ)):=ok_bind.trans (zax fun _=>ok_map)
theorem ok_eIxV {mi:ME}{Q:D×R->Prop}:OkQ Q (eIxV j mi ρ)=OkQ Q (gd (hasV ρ j) ((mi ρ).bind fun p=>(p.2[j]?.bind Sl.read).bind fun d=>(dIx d p.1).map fun e=>(e,p.2))):=Eq.trans rfl rfl
noncomputable def ixR (s:Option Sl)(c:D):Option D:=match s with
 |some (.val d)=>dIx d c
 |some (.own ds)=>dIx (.lst ds) c
 |some (.par ds)=>dIx (.lst ds) c
 |_=>none
theorem ixR_val:ixR (some (.val d)) c=dIx d c:=rfl
theorem ixR_own:ixR (some (.own ds)) c=dIx (.lst ds) c:=rfl
theorem ixR_par:ixR (some (.par ds)) c=dIx (.lst ds) c:=rfl
theorem zlq:(if hasV ρ j then(ρ[j]?.bind Sl.read).bind fun d=>(dIx d c).map fun e=>(e,ρ)else none)=(ixR ρ[j]? c).map fun e=>(e,ρ):=by
 unfold hasV
 cases ρ[j]? with
 |none=>rfl
 |some s=>cases s<;>rfl
theorem ok_eIxC {Q:D×R->Prop}:OkQ Q (eIxV j (eC c) ρ)=OkQ (fun e=>Q (e,ρ)) (ixR ρ[j]? c):=by
 rw[show eIxV j (eC c) ρ=(ixR ρ[j]? c).map fun e=>(e,ρ)from zlq,ok_map]
theorem ok_eIxE {Q:D×R->Prop}:OkQ Q (eIxV j (eVar i) ρ)=Va (fun c=>OkQ (fun e=>Q (e,ρ)) (ixR ρ[j]? c)) (OkQ Q (gd (hasV ρ j) ((eVar i ρ).bind fun p=>(p.2[j]?.bind Sl.read).bind fun d=>(dIx d p.1).map fun e=>(e,p.2)))) ρ[i]?:=by
 rw[Va.eq_def]
 split
 ·rename_i x h1
  rw[show eIxV j (eVar i) ρ=(ixR ρ[j]? x).map fun e=>(e,ρ) by
   rw[<-zlq];unfold eIxV;rw[show eVar i ρ=some (x,ρ) by unfold eVar;rw[h1]];rfl,ok_map]
 ·rfl
theorem ok_eLenV {Q:D×R->Prop}:OkQ Q (zjY j ρ)=OkQ Q ((ρ[j]?.bind Sl.read).bind fun d=>(dLen [d]).map fun e=>(e,ρ)):=rfl
theorem ok_oC {f:List D->Option (List D)}{Q:List D×R->Prop}:OkQ Q (oC f ma ρ)=(OkQ (fun p=>OkQ (fun d=>Q (d,p.2)) (f p.1)) (ma ρ)):=ok_bind.trans (zax fun _=>ok_map)
theorem ok_eTup {Q:D×R->Prop}:OkQ Q (eTup ma ρ)=(OkQ (fun p=>p.1.length<=16777216/\Q (.tup p.1,p.2)) (ma ρ)):=ok_bind.trans (zax fun _=>by rw[zdQ,ok_some])
theorem ok_oLst {Q:List D×R->Prop}:OkQ Q (oLst ma ρ)=(OkQ (fun p=>p.1.length<=16777216/\Q (p.1,p.2)) (ma ρ)):=ok_bind.trans (zax fun _=>by rw[zdQ,ok_some])
theorem ok_tTru {ma:ME}{Q:Bool×R->Prop}:OkQ Q (tTru ma ρ)=(OkQ (fun p=>OkQ (fun b=>Q (b,p.2)) (dTru p.1)) (ma ρ)):=ok_bind.trans (zax fun _=>ok_map)
theorem ok_tNotM {a:MT}{Q:Bool×R->Prop}:OkQ Q (zmk a ρ)=(OkQ (fun p=>Q (!p.1,p.2)) (a ρ)):=ok_map
theorem ok_eCall {Q:D×R->Prop}:OkQ Q (zaY F ma ρ)=OkQ Q ((ma ρ).bind fun p=>(F p.1).bind fun r=>match r with
 | .val d=>some (d,p.2)
 | .own ds=>some (.lst ds,p.2)
 |_=>none):=rfl
theorem ok_oCall {Q:List D×R->Prop}:OkQ Q (zmt F ma ρ)=OkQ Q ((ma ρ).bind fun p=>(F p.1).bind fun r=>match r with
 | .own ds=>some (ds,p.2)
 |_=>none):=rfl
theorem zn5 {F:List D->List D->Option (Sl×List D)}{Q:D×R->Prop}:OkQ Q (zbw F j ma ρ)=OkQ Q (gd ((ρ[j]?.bind Sl.items).isSome) ((ma ρ).bind fun p=>p.2[j]?.bind fun s=>s.items.bind fun cs=>(F cs p.1).bind fun r=>match r.1 with
 | .val d=>some (d,p.2.set j (s.put r.2))
 | .own ds=>some (.lst ds,p.2.set j (s.put r.2))
 |_=>none)):=rfl
theorem ok_iR2L {Q:List D×R->Prop}:OkQ Q (iR2L ma ρ)=OkQ Q ((ma ρ).bind fun p=>match p.1 with
 |[.int i,.int j]=>some (zb0 i (j-i).toNat,p.2)
 |_=>none):=rfl
theorem ok_eFz {m:MO}{Q:D×R->Prop}:OkQ Q (eFz m ρ)=(OkQ (fun p=>Q (.lst p.1,p.2)) (m ρ)):=ok_map
theorem ok_eCut {ma:ME}{ml mh:MP}{Q:D×R->Prop}:OkQ Q (eCut ma ml mh ρ)=OkQ Q ((ma ρ).bind fun p=>(ml p.2).bind fun q=>(mh q.2).bind fun r=>(dCut p.1 q.1 r.1).map fun d=>(d,r.2)):=rfl
theorem ok_pNo {Q:Option Int×R->Prop}:OkQ Q (pNo ρ)=(Q (none,ρ)):=ok_some
theorem ok_pSome {Q:Option Int×R->Prop}:OkQ Q (znO m ρ)=OkQ Q ((m ρ).bind fun p=>match p.1 with
 | .int i=>some (some i,p.2)
 |_=>none):=rfl
theorem ok_iSeq {Q:List D×R->Prop}:OkQ Q (iSeq m ρ)=(OkQ (fun p=>OkQ (fun ds=>Q (ds,p.2)) (zaG [p.1])) (m ρ)):=ok_bind.trans (zax fun _=>ok_map)
theorem ok_iR1 {Q:List D×R->Prop}:OkQ Q (iR1 ma ρ)=OkQ Q ((ma ρ).bind fun p=>match p.1 with
 |[.int j]=>if zct j then some (zb0 0 j.toNat,p.2)else none
 |_=>none):=rfl
theorem ok_iR2 {Q:List D×R->Prop}:OkQ Q (iR2 ma ρ)=OkQ Q ((ma ρ).bind fun p=>match p.1 with
 |[.int i,.int j]=>if zct i&&zct j then some (zb0 i (j-i).toNat,p.2)else none
 |_=>none):=rfl
theorem ok_sFor {mb:MS}:OkQ Q (sFor mi g mb ρ)=(OkQ (fun p=>OkQ Q (forM (fun d ρ=>(g d ρ).bind fun ρ'=>mb ρ') p.1 p.2)) (mi ρ)):=ok_bind
theorem ok_oLC {t:Nat}{Q:List D×R->Prop}:OkQ Q (oLC cap t mi g mt me ρ)=OkQ Q ((mi ρ).bind fun p=>if p.1.length<=16777216 then(zc1 (turnM g mt me) p.1 (capR cap t (fzL cap p.2))).map fun q=>(q.1,fzL cap p.2)else none):=rfl
theorem ok_oR {m:MA}{Q:List D×R->Prop}:OkQ Q (oR m ρ)=OkQ Q ((m ρ).bind fun p=>if p.1.length<=16777216 then some p else none):=rfl
theorem ok_tTrue {Q:Bool×R->Prop}:OkQ Q (zbb ρ)=(Q (true,ρ)):=ok_some
theorem ok_sAugI {g:Int->Int->Int}:OkQ Q (znc i g me ρ)=OkQ Q (match ρ[i]? with
 |some (.val (.int a))=>(me ρ).bind fun p=>match p.1 with
  | .int b=>some (.next,p.2.set i (.val (.int (g a b))))
  |_=>none
 |_=>none):=rfl
theorem ok_oRep {ma mb:ME}{Q:List D×R->Prop}:OkQ Q (oRep ma mb ρ)=OkQ Q ((ma ρ).bind fun p=>(mb p.2).bind fun q=>match p.1,q.1 with
 | .lst xs,.int k=>if zct k&&decide (xs.length*k.toNat<=16777216)then some ((List.replicate k.toNat xs).flatten,q.2)else none
 |_,_=>none):=rfl
theorem ok_iZ2 {Q:List D×R->Prop}:OkQ Q (iZ2 ma ρ)=OkQ Q ((ma ρ).bind fun p=>match p.1 with
 |[a,b]=>(zaG [a]).bind fun xs=>(zaG [b]).bind fun ys=>some (zkA xs ys,p.2)
 |_=>none):=rfl
theorem ok_iEn {Q:List D×R->Prop}:OkQ Q (iEn ma ρ)=OkQ Q ((ma ρ).bind fun p=>(zaG p.1).map fun xs=>(zkt xs,p.2)):=rfl
theorem ok_oLCM {t b w:Nat}{Q:List D×R->Prop}:OkQ Q (oLCM cap t b w mi g mt me ρ)=OkQ Q ((mi ρ).bind fun p=>if p.1.length<=16777216 then
    ((fzL (cap.filter (· !=w)) p.2)[w]?).bind fun s=>s.items.bind fun cs=>(zc1 (znn b g mt me) p.1 ((capR cap t (fzL (cap.filter (· !=w)) p.2)).set b (.par cs))).map fun q=>(q.1,(fzL (cap.filter (· !=w)) p.2).set w (s.put (zoL b q.2)))
  else none):=rfl
noncomputable def zjs:Nat->List D->R
 |N,[]=>List.replicate N .emp
 |N,d::ds=> .val d::zjs (N-1) ds
theorem zix {d:D}:zjs N (d::ds)= .val d::zjs (N-1) ds:=rfl
theorem zoy:zjs N []=List.replicate N .emp:=rfl
theorem zg7:∀(N:Nat) (ds:List D),ds.map .val++List.replicate (N-ds.length) .emp=zjs N ds
 |_,[]=>rfl
 |N,d::ds=>by rw[zix,<-zg7 (N-1) ds,List.map_cons,List.length_cons,Nat.sub_sub,Nat.add_comm 1];rfl
theorem znS {α β:Type}{f:α->β}{a:α}{l:List α}:(a::l).map f=f a::l.map f:=rfl
theorem map_nilR {α β:Type}{f:α->β}:[].map f=[]:=rfl
theorem ok_fP {m:MS}{Q:Sl->Prop}:OkQ Q (fP N m ds)=OkQ Q ((m (zjs N ds)).bind fun p=>match p.1 with
 | .ret r=>some r
 | .next=>some (.val .non)
 |_=>none):=by rw[<-zg7];rfl
theorem ok_fM {m:MS}{cs:List D}{Q:Sl×List D->Prop}:OkQ Q (fM N m cs ds)=OkQ Q ((m (.par cs::zjs (N-1) ds)).bind fun p=>match p.1,(p.2[0]?:Option Sl)with
 |Fl.ret r,some (Sl.par out)=>some (r,out)
 |Fl.next,some (Sl.par out)=>some (.val .non,out)
 |_,_=>none):=by rw[<-zg7,Nat.sub_sub,Nat.add_comm 1];rfl
end
noncomputable def Turn (I:R->Prop)(Q:Fl×R->Prop)(p:Fl×R):Prop:=match p.1 with
 | .next=>I p.2
 | .cont=>I p.2
 | .brk=>Q (.next,p.2)
 | .ret r=>Q (.ret r,p.2)
theorem zoa:Turn I Q (.next,ρ)=(I ρ):=rfl
theorem znx:Turn I Q (.cont,ρ)=(I ρ):=rfl
theorem turn_brk:Turn I Q (.brk,ρ)=(Q (.next,ρ)):=rfl
theorem turn_ret:Turn I Q (.ret r,ρ)=(Q (.ret r,ρ)):=rfl
theorem znQ {α:Type}{f:D->R->Option (Fl×R)}(enc:α->D)(I:Nat->R->Prop):∀(l:List α) (b:Nat) (ρ:R),I b ρ->
  (∀i a ρ,l[i]? =some a->I (b+i) ρ->Ok (f (enc a) ρ) (Turn (I (b+i+1)) Q))->(∀ρ,I (b+l.length) ρ->Q (.next,ρ))->Ok (forM f (l.map enc) ρ) Q
 |[],b,ρ,h0,_,hq=>ok_some.mpr (hq ρ h0)
 |a::l,b,ρ,h0,hs,hq=>by
  obtain⟨p,e,t⟩:=hs 0 a ρ rfl h0
  obtain⟨fl,ρ1⟩:=p
  have go:∀ρ1,I (b+1) ρ1->Ok (forM f (l.map enc) ρ1) Q:=fun ρ1 h1=>znQ enc I l (b+1) ρ1 h1 (fun i a' ρ' hi hp=>by
   have:=hs (i+1) a' ρ' (by simpa using hi) (by rw[show b+(i+1)=b+1+i by lia];exact hp)
   rw[show b+(i+1)+1=b+1+i+1 by lia]at this
   exact this) (fun ρ h=>hq ρ (by rw[List.length_cons,show b+(l.length+1)=b+1+l.length by lia];exact h))
  have e':forM f ((a::l).map enc) ρ=(f (enc a) ρ).bind fun p=>match p.1 with
   | .next=>forM f (l.map enc) p.2
   | .cont=>forM f (l.map enc) p.2
   | .brk=>some (.next,p.2)
   | .ret r=>some (.ret r,p.2):=rfl
  rw[e',e]
  cases fl with
  |next=>exact go ρ1 t
  |cont=>exact go ρ1 t
  |brk=>exact ok_some.mpr t
  |ret r=>exact ok_some.mpr t
theorem ziw {α:Type}{f:D->R->Option (Fl×R)}{enc:α->D}{l:List α}(I:Nat->R->Prop)(h0:I 0 ρ)
  (hs:∀i a ρ,l[i]? =some a->I i ρ->Ok (f (enc a) ρ) (Turn (I (i+1)) Q)) (hq:∀ρ,I l.length ρ->Q (.next,ρ)):Ok (forM f (l.map enc) ρ) Q:=
 znQ enc I l 0 ρ h0 (fun i a ρ hi h=>by rw[Nat.zero_add]at h ⊢;exact hs i a ρ hi h) (fun ρ h=>hq ρ (by rw[Nat.zero_add]at h;exact h))
theorem zjv {α:Type}(enc:α->D){Q:List D×R->Prop}(I:Nat->List D->R->Prop):∀(l:List α) (b:Nat) (acc:List D) (ρ:R),I b acc ρ->
  (∀i a acc ρ,l[i]? =some a->I (b+i) acc ρ->Ok (f (enc a) ρ) fun p=>I (b+i+1) (acc++p.1.toList) p.2)->(∀ds ρ,I (b+l.length) (acc++ds) ρ->Q (ds,ρ))->Ok (zc1 f (l.map enc) ρ) Q
 |[],b,acc,ρ,h0,_,hq=>ok_some.mpr (hq [] ρ (by rw[List.append_nil];exact h0))
 |a::l,b,acc,ρ,h0,hs,hq=>by
  obtain⟨p,e,t⟩:=hs 0 a acc ρ rfl h0
  have go:=zjv enc (Q:=fun q=>Q (p.1.toList++q.1,q.2)) I l (b+1) (acc++p.1.toList) p.2 t (fun i a' acc' ρ' hi hp=>by
   have:=hs (i+1) a' acc' ρ' (by simpa using hi) (by rw[show b+(i+1)=b+1+i by lia];exact hp)
   rw[show b+(i+1)+1=b+1+i+1 by lia]at this
   exact this) (fun ds ρ h=>hq _ ρ (by rw[List.length_cons,show b+(l.length+1)=b+1+l.length by lia,<-List.append_assoc];exact h))
  have e':zc1 f ((a::l).map enc) ρ=(f (enc a) ρ).bind fun p=>(zc1 f (l.map enc) p.2).map fun q=>(p.1.toList++q.1,q.2):=rfl
  rw[e',e]
  exact ok_map.mpr go
theorem zl0 {α:Type}{enc:α->D}{l:List α}{Q:List D×R->Prop}(I:Nat->List D->R->Prop)(h0:I 0 [] ρ)
  (hs:∀i a acc ρ,l[i]? =some a->I i acc ρ->Ok (f (enc a) ρ) fun p=>I (i+1) (acc++p.1.toList) p.2) (hq:∀ds ρ,I l.length ds ρ->Q (ds,ρ)):Ok (zc1 f (l.map enc) ρ) Q:=
 zjv enc I l 0 [] ρ h0 (fun i a acc ρ hi h=>by rw[Nat.zero_add]at h ⊢;exact hs i a acc ρ hi h) (fun ds ρ h=>hq ds ρ (by rw[Nat.zero_add]at h;exact h))
theorem zaX {α β:Type}{f g:α->Option β}:∀(l:List α),(∀a∈l,f a=g a)->l.filterMap f=l.filterMap g
 |[],_=>rfl
 |a::l,h=>by rw[List.filterMap_cons,List.filterMap_cons,h a List.mem_cons_self,zaX l fun b hb=>h b (List.mem_cons_of_mem _ hb)]
theorem zfD {α:Type}{enc:α->D}{l:List α}{Q:List D×R->Prop}(P:R->Prop)(g:α->Option D)(h0:P ρ)
  (hs:∀a ρ,a∈l->P ρ->Ok (f (enc a) ρ) fun p=>p.1=g a/\P p.2) (hq:∀ρ,P ρ->Q (l.filterMap g,ρ)):Ok (zc1 f (l.map enc) ρ) Q:=
 zl0 (fun i ds ρ=>ds=(l.take i).filterMap g/\P ρ) ⟨rfl,h0⟩ (fun i a acc ρ hi ⟨e,p⟩=>by
  refine(hs a ρ (List.mem_of_getElem? hi) p).mono fun r h=>⟨?_,h.2⟩
  obtain⟨h1,h2⟩:=List.getElem?_eq_some_iff.mp hi
  rw[h.1,e,List.take_add_one,hi,List.filterMap_append]
  cases q:g a<;>simp[q]) (fun ds ρ ⟨e,p⟩=>by rw[List.take_length]at e;rw[e];exact hq ρ p)
theorem zfq {α:Type}{enc:α->D}{l:List α}{Q:List D×R->Prop}(P:R->Prop)(g:α->D)(h0:P ρ)
  (hs:∀a ρ,a∈l->P ρ->Ok (f (enc a) ρ) fun p=>p.1=some (g a)/\P p.2) (hq:∀ρ,P ρ->Q (l.map g,ρ)):Ok (zc1 f (l.map enc) ρ) Q:=
 zfD P (fun a=>some (g a)) h0 hs (fun ρ p=>by rw[<-Function.comp_def some g,List.filterMap_eq_map];exact hq ρ p)
theorem dEq_int (i j:Int):dEq (.int i) (.int j)=some (.bl (i==j)):=by
 unfold dEq
 rw[show noS (.int i)=true from rfl,show noS (.int j)=true from rfl,show depth (.int i)=0 from rfl]
 rfl
theorem dNe_int (i j:Int):dNe (.int i) (.int j)=some (.bl (i !=j)):=by
 unfold dNe
 rw[show noS (.int i)=true from rfl,show noS (.int j)=true from rfl,show depth (.int i)=0 from rfl]
 rfl
theorem atI_n {α:Type}(xs:List α)(i:Nat):atI xs (i:Int)=xs[i]?:=by
 unfold atI ixN
 rw[if_pos (by lia)]
 by_cases h:i<xs.length
 ·rw[if_pos (by lia)];simp
 ·rw[if_neg (by lia)];simp[List.getElem?_eq_none (by lia:xs.length<=i)]
theorem atI_lit {α:Type}(xs:List α)(n:Nat):atI xs (no_index (@OfNat.ofNat Int n _))=xs[n]?:=atI_n xs n
theorem atI_n1 {α:Type}(xs:List α)(i:Nat):atI xs ((i:Int)+1)=xs[i+1]?:=atI_n xs (i+1)
theorem ixN_n (n i:Nat):ixN n (i:Int)=if i<n then some i else none:=by
 unfold ixN
 rw[if_pos (by lia)]
 by_cases h:i<n
 ·rw[if_pos (by lia),if_pos h];simp
 ·rw[if_neg (by lia),if_neg h]
theorem ixN_lit (n i:Nat):ixN n (no_index (@OfNat.ofNat Int i _))=if i<n then some i else none:=ixN_n n i
theorem zho {i j:Int}(h:i.natAbs<18446744073709551616):zie i j=true:=by
 unfold zie
 have:decide (i.natAbs<2^64)=true:=decide_eq_true h
 rw[this];rfl
theorem zmZ {i j:Int}(h:j.natAbs<18446744073709551616):zie i j=true:=by
 unfold zie
 have:decide (j.natAbs<2^64)=true:=decide_eq_true h
 rw[this];simp
theorem zav {j:Int}(h1: -1000000000000<=j)(h2:j<=1000000000000):zct j=true:=by
 unfold zct;rw[decide_eq_true h1,decide_eq_true h2];rfl
noncomputable def wL (n:Nat)(f:Nat->D):List D:=(List.range n).map f
noncomputable abbrev wI (n:Nat)(f:Nat->Int):List D:=wL n fun i=> .int (f i)
theorem zay (n:Nat)(f:Nat->D):(wL n f).length=n:=by simp[wL]
theorem zao (f:Nat->D)(h:i<n):(wL n f)[i]? =some (f i):=by simp[wL,h]
theorem zos (n:Nat)(f:Nat->D):wL (n+1) f=wL n f++[f n]:=by simp[wL,List.range_succ]
theorem zbt {f g:Nat->D}(h:∀i,i<n->f i=g i):wL n f=wL n g:=List.map_congr_left fun i hi=>h i (List.mem_range.mp hi)
theorem zoG (n:Nat)(f:Nat->D)(x:D):wL n f++[x]=wL (n+1) fun j=>if j<n then f j else x:=by
 rw[zos];congr 1
 ·exact zbt fun i hi=>by rw[if_pos hi]
 ·rw[if_neg (by lia)]
theorem zii (f:Nat->D)(x:D)(h:i<n):(wL n f).set i x=wL n fun j=>if j=i then x else f j:=by
 apply List.ext_getElem?
 intro j
 by_cases hj:j<n
 ·rw[zao _ hj,List.getElem?_set]
  by_cases e:i=j
  ·subst e;simp[zay,h]
  ·simp[e,zao _ hj,Ne.symm e]
 ·rw[List.getElem?_eq_none (by simp[zay];lia),List.getElem?_eq_none (by simp[zay];lia)]
theorem enumD_w (n:Nat)(f:Nat->D):zkt (wL n f)=wL n fun i=> .tup [.int (i:Nat),f i]:=by
 apply List.ext_getElem?
 intro j
 unfold zkt
 by_cases hj:j<n
 ·rw[List.getElem?_zipWith,zao _ hj,zao _ hj]
  simp[zay,hj]
 ·rw[List.getElem?_eq_none (by simp[zay];lia),List.getElem?_eq_none (by simp[zay];lia)]
theorem ze5 (n:Nat)(f g:Nat->D):zkA (wL n f) (wL n g)=wL n fun i=> .tup [f i,g i]:=by
 apply List.ext_getElem?
 intro j
 unfold zkA
 by_cases hj:j<n
 ·rw[List.getElem?_zipWith,zao _ hj,zao _ hj,zao _ hj]
 ·rw[List.getElem?_eq_none (by simp[zay];lia),List.getElem?_eq_none (by simp[zay];lia)]
theorem zk1 {α:Type}(xs:List α)(i:Nat):cutD xs none (some (i:Int))=xs.take i:=by
 unfold cutD
 rw[HT.znV,HT.zlQ,Nat.sub_zero,List.drop_zero]
 by_cases h:i<=xs.length
 ·rw[Nat.min_eq_left h]
 ·rw[Nat.min_eq_right (by lia),List.take_of_length_le (Nat.le_refl _),List.take_of_length_le (by lia)]
theorem zls {α:Type}(xs:List α)(i:Nat):cutD xs (some (i:Int)) none=xs.drop i:=by
 unfold cutD
 rw[HT.znV,HT.zlQ]
 by_cases h:i<=xs.length
 ·rw[Nat.min_eq_left h,List.take_of_length_le (by simp)]
 ·rw[Nat.min_eq_right (by lia),List.drop_of_length_le (Nat.le_refl _),List.drop_of_length_le (by lia)];simp
theorem zck:∀(l:List Int),zaW (l.map .int)=some l
 |[]=>rfl
 |i::l=>by simp[zaW,zck l]
theorem zh3 (bt:Nat->Nat->Bool):∀n,argBest bt n<=n
 |0=>Nat.le_refl 0
 |n+1=>by
  have:=zh3 bt n
  unfold argBest
  split<;>lia
mutual
theorem zlf:∀(d:D),noS d=true->eqB d d=true
 | .non,_=>rfl
 | .bl b,_=>by simp[eqB]
 | .int i,_=>by simp[eqB]
 | .str s,_=>by simp[eqB]
 | .lst ds,h=>by simp only[eqB];exact zh6 ds (by simpa[noS]using h)
 | .tup ds,h=>by simp only[eqB];exact zh6 ds (by simpa[noS]using h)
 | .scr _,h=>by simp[noS]at h
 | .exc _,h=>by simp[noS]at h
theorem zh6:∀(ds:List D),noSL ds=true->eqBL ds ds=true
 |[],_=>rfl
 |d::ds,h=>by
  simp only[noSL,Bool.and_eq_true]at h
  simp only[eqBL,Bool.and_eq_true]
  exact⟨zlf d h.1,zh6 ds h.2⟩
end
theorem dNe_same (h:noS d=true)(k:depth d<=50):dNe d d=some (.bl false):=by simp[dNe,h,k,zlf d h]
theorem zkr:∀{ds:List D},(∀d∈ds,noS d=true)->noSL ds=true
 |[],_=>rfl
 |d::ds,h=>by simp only[noSL,Bool.and_eq_true];exact⟨h d List.mem_cons_self,zkr fun e he=>h e (List.mem_cons_of_mem _ he)⟩
theorem zhX:∀{ds:List D},(∀d∈ds,depth d<=k)->zfC ds<=k
 |[],_=>Nat.zero_le _
 |d::ds,h=>by simp only[zfC];exact Nat.max_le.mpr ⟨h d List.mem_cons_self,zhX fun e he=>h e (List.mem_cons_of_mem _ he)⟩
noncomputable def Pl (k:Nat)(d:D):Prop:=noS d=true/\depth d<=k
theorem zlL (k:Nat)(i:Int):Pl k (.int i):=⟨rfl,Nat.zero_le _⟩
theorem zmU (h:∀d∈ds,Pl k d):Pl (k+1) (.lst ds):=⟨by simp only[noS];exact zkr fun d hd=>(h d hd).1,by simp only[depth];exact Nat.succ_le_succ (zhX fun d hd=>(h d hd).2)⟩
theorem pl_tup (h:∀d∈ds,Pl k d):Pl (k+1) (.tup ds):=⟨by simp only[noS];exact zkr fun d hd=>(h d hd).1,by simp only[depth];exact Nat.succ_le_succ (zhX fun d hd=>(h d hd).2)⟩
theorem Pl.ne (h:Pl k d)(l:k<=50):dNe d d=some (.bl false):=dNe_same h.1 (Nat.le_trans h.2 l)
theorem rangeD_w (n:Nat):zb0 0 n=wL n fun i=> .int (i:Nat):=by unfold zb0 wL;simp only[Int.zero_add]
theorem zhj (lo:Int)(n:Nat):zb0 lo n=wL n fun i=> .int (lo+(i:Nat)):=rfl
section
variable {n:Nat} {e:Nat->D} {ρ:R}
theorem zc9 {f:D->R->Option (Fl×R)}(I:Nat->R->Prop)(h0:I 0 ρ)
  (hs:∀i ρ,i<n->I i ρ->Ok (f (e i) ρ) (Turn (I (i+1)) Q)) (hq:∀ρ,I n ρ->Q (.next,ρ)):Ok (forM f (wL n e) ρ) Q:=
 ziw (enc:=e) (l:=List.range n) I h0 (fun i a ρ hi h=>by
  obtain⟨h1,h2⟩:=List.getElem?_eq_some_iff.mp hi
  have:a=i:=by simpa using h2.symm
  subst this
  exact hs a ρ (by simpa using h1) h) (fun ρ h=>hq ρ (by simpa using h))
variable {f:D->R->Option (Option D×R)} {Q:List D×R->Prop}
theorem zof (I:Nat->List D->R->Prop)(h0:I 0 [] ρ)
  (hs:∀i acc ρ,i<n->I i acc ρ->Ok (f (e i) ρ) fun p=>I (i+1) (acc++p.1.toList) p.2) (hq:∀ds ρ,I n ds ρ->Q (ds,ρ)):Ok (zc1 f (wL n e) ρ) Q:=
 zl0 (enc:=e) (l:=List.range n) I h0 (fun i a acc ρ hi h=>by
  obtain⟨h1,h2⟩:=List.getElem?_eq_some_iff.mp hi
  have:a=i:=by simpa using h2.symm
  subst this
  exact hs a acc ρ (by simpa using h1) h) (fun ds ρ h=>hq ds ρ (by simpa using h))
theorem zdT (P:R->Prop)(g:Nat->Option D)(h0:P ρ)
  (hs:∀i ρ,i<n->P ρ->Ok (f (e i) ρ) fun p=>p.1=g i/\P p.2) (hq:∀ρ,P ρ->Q ((List.range n).filterMap g,ρ)):Ok (zc1 f (wL n e) ρ) Q:=
 zfD (enc:=e) (l:=List.range n) P g h0 (fun a ρ ha hp=>hs a ρ (List.mem_range.mp ha) hp) hq
theorem zaC (P:R->Prop)(g:Nat->D)(h0:P ρ)
  (hs:∀i ρ,i<n->P ρ->Ok (f (e i) ρ) fun p=>p.1=some (g i)/\P p.2) (hq:∀ρ,P ρ->Q (wL n g,ρ)):Ok (zc1 f (wL n e) ρ) Q:=
 zfq (enc:=e) (l:=List.range n) P g h0 (fun a ρ ha hp=>hs a ρ (List.mem_range.mp ha) hp) hq
end
end M
namespace M
theorem zkc (n:Nat)(f:Nat->Int)(x:Int):wI n f++[.int x]=wI (n+1) fun j=>if j<n then f j else x:=by
 rw[wI,zoG];exact zbt fun j _=>by dsimp only;split<;>rfl
theorem znA {j:Int}(h0:0<j)(h1:j<2^250):divOk j=true:=by
 have h:j.natAbs.log2<9000:=by
  have:j.natAbs.log2<250:=(Nat.log2_lt (by lia)).mpr (by lia)
  lia
 unfold divOk;rw[decide_eq_true h0,decide_eq_true h];rfl
theorem isN_non:isN .non=true:=rfl
theorem isN_int (i:Int):isN (.int i)=false:=rfl
theorem isN_bl (b:Bool):isN (.bl b)=false:=rfl
theorem isN_str (s:PySem.Str):isN (.str s)=false:=rfl
theorem isN_lst (ds:List D):isN (.lst ds)=false:=rfl
theorem isN_tup (ds:List D):isN (.tup ds)=false:=rfl
end M
namespace M
open L2 PySem
variable {i j N:Nat} {m:ME} {ρ:R} {Q:Fl×R->Prop} {x n:Int} {g:D->R->Option R} {d:D} {neg b:Bool} {F:List D->Option Sl} {mo:MO} {ma:MA} {is l:List Nat} {cs:List Ch} {t:T} {ds:List D} {mt:MT} {z:Sl×R} {s:Sl} {ls:List (List D)} {q dk:List Int×List D}
theorem dItems_l (ds:List D):zaG [.lst ds]=some ds:=rfl
theorem dItems_t (ds:List D):zaG [.tup ds]=some ds:=rfl
theorem dItems_s (ns:List Int):zaG [.scr ns]=some (ns.map .int):=rfl
theorem dLen_l (ds:List D):dLen [.lst ds]=some (.int ds.length):=rfl
theorem dLen_t (ds:List D):dLen [.tup ds]=some (.int ds.length):=rfl
theorem dLen_s (ns:List Int):dLen [.scr ns]=some (.int ns.length):=rfl
theorem dTuple_l (ds:List D):zbW [.lst ds]=some (.tup ds):=rfl
theorem dTuple_t (ds:List D):zbW [.tup ds]=some (.tup ds):=rfl
theorem dTuple_s (ns:List Int):zbW [.scr ns]=some (.tup (ns.map .int)):=rfl
theorem dCut_l (ds:List D)(a b:Option Int):dCut (.lst ds) a b=some (.lst (cutD ds a b)):=rfl
theorem dCut_t (ds:List D)(a b:Option Int):dCut (.tup ds) a b=some (.tup (cutD ds a b)):=rfl
theorem dCut_s (ns:List Int)(a b:Option Int):dCut (.scr ns) a b=some (.lst ((cutD ns a b).map .int)):=rfl
theorem dIx_l (ds:List D)(i:Int):dIx (.lst ds) (.int i)=atI ds i:=rfl
theorem dIx_t (ds:List D)(i:Int):dIx (.tup ds) (.int i)=atI ds i:=rfl
theorem dIx_s (ns:List Int)(i:Int):dIx (.scr ns) (.int i)=(atI ns i).map .int:=rfl
theorem dEq_str (a b:Str):dEq (.str a) (.str b)=some (.bl (a==b)):=by
 unfold dEq
 rw[show noS (.str a)=true from rfl,show noS (.str b)=true from rfl,show depth (.str a)=0 from rfl]
 rfl
theorem zip3D_w (n:Nat)(f g h:Nat->D):zip3D (wL n f) (wL n g) (wL n h)=wL n fun i=> .tup [f i,g i,h i]:=by
 apply List.ext_getElem?
 intro j
 unfold zip3D
 by_cases hj:j<n
 ·have e:(List.zip (wL n g) (wL n h))[j]? =some (g j,h j):=by
   rw[List.getElem?_zip_eq_some];exact⟨zao g hj,zao h hj⟩
  rw[List.getElem?_zipWith,e,zao _ hj,zao _ hj]
 ·rw[List.getElem?_eq_none (by simp[zay];lia),List.getElem?_eq_none (by simp[zay];lia)]
structure Sq (d:D) (n:Nat) (f:Nat->Int):Prop where
 it:zaG [d]=some (wI n f)
 ln:dLen [d]=some (.int n)
 tp:zbW [d]=some (.tup (wI n f))
 ix:∀i,dIx d (.int i)=atI (wI n f) i
 ct:∀lo hi,∃d',dCut d lo hi=some d'/\zaG [d']=some (cutD (wI n f) lo hi)
theorem Sq.lst (n:Nat)(f:Nat->Int):Sq (.lst (wI n f)) n f:=⟨rfl,by rw[dLen_l,zay],rfl,fun _=>rfl,fun lo hi=>⟨_,rfl,rfl⟩⟩
theorem Sq.tup (n:Nat)(f:Nat->Int):Sq (.tup (wI n f)) n f:=⟨rfl,by rw[dLen_t,zay],rfl,fun _=>rfl,fun lo hi=>⟨_,rfl,rfl⟩⟩
theorem ok_sExt:OkQ Q (sExt i m ρ)=OkQ Q (gd ((ρ[i]?.bind Sl.items).isSome) ((m ρ).bind fun p=>p.2[i]?.bind fun s=>s.items.bind fun ds=>match p.1 with
 | .lst es=>if ds.length+es.length<=16777216 then some (.next,p.2.set i (s.put (ds++es)))else none
 |_=>none)):=rfl
theorem zod (a b:Int):eqV (.int a) (.int b)=(b==a):=by
 show(a==b)=(b==a)
 by_cases h:a=b
 ·subst h;rfl
 ·rw[beq_eq_false_iff_ne.mpr h,beq_eq_false_iff_ne.mpr fun e=>h e.symm]
theorem zgi:∀(l:List Int),zky (l.map D.int)=some (l.map V.int)
 |[]=>rfl
 |i::l=>by simp[zky,flV,zgi l]
theorem zla (a:Int):∀(l:List Int),inV (.int a) (l.map V.int)=l.contains a
 |[]=>rfl
 |i::l=>by
  have:=zla a l
  unfold inV at this ⊢
  rw[List.map_cons,List.any_cons,this,zod,List.contains_cons]
theorem dAnd1 (h:0<=x):dAnd (.int x) (.int 1)=some (.int (x%2)):=by
 have e:dAnd (.int x) (.int 1)=some (.int (Builtin.bitAnd x 1)):=rfl
 rw[e]
 have e2:Builtin.bitAnd x 1=((x.toNat&&&1:Nat):Int):=by
  unfold Builtin.bitAnd
  rw[decide_eq_true h]
  rfl
 rw[e2,Nat.and_one_is_mod]
 congr 2
 lia
noncomputable def sumR:Nat->(Nat->Int)->Int
 |0,_=>0
 |n+1,f=>sumR n f+f n
theorem zae {f g:Nat->Int}:∀{n:Nat},(∀i,i<n->f i=g i)->sumR n f=sumR n g
 |0,_=>rfl
 |n+1,h=>by rw[sumR,sumR,zae fun i hi=>h i (by lia),h n (by lia)]
theorem zbk (f g:Nat->Int):∀n,sumR n (fun i=>f i+g i)=sumR n f+sumR n g
 |0=>rfl
 |n+1=>by simp only[sumR,zbk f g n];lia
theorem zcv (f g:Nat->Int):∀n,sumR n (fun i=>f i-g i)=sumR n f-sumR n g
 |0=>rfl
 |n+1=>by simp only[sumR,zcv f g n];lia
theorem zaT:∀n,sumR n (fun _=>0)=0
 |0=>rfl
 |n+1=>by simp only[sumR,zaT n];lia
theorem za0 (a:Int)(f:Nat->Int):∀n,sumR n (fun i=>a*f i)=a*sumR n f
 |0=>by simp[sumR]
 |n+1=>by simp only[sumR,za0 a f n,Int.mul_add]
theorem zcg (f:Nat->Nat->Int)(m:Nat):∀n,sumR n (fun i=>sumR m (f i))=sumR m (fun j=>sumR n fun i=>f i j)
 |0=>(zaT m).symm
 |n+1=>by simp only[sumR,zcg f m n,zbk]
theorem zeb (f:Nat->Int):∀n,((List.range n).map f).sum=sumR n f
 |0=>rfl
 |n+1=>by simp[List.range_succ,zeb f n,sumR]
theorem zfz (n:Nat)(f:Nat->Int):zaW (wI n f)=some ((List.range n).map f):=by
 have:wI n f=((List.range n).map f).map .int:=by simp[wL,List.map_map,Function.comp_def]
 rw[this,zck]
theorem zg9 {mc:MT}{mb:MS}(I:Nat->R->Prop)(turn:∀m ρ,I m ρ->Ok (mc ρ) fun p=>(p.1=true->∃m',m=m'+1/\Ok (mb p.2) fun q=>q.1= .next/\I m' q.2)/\(p.1=false->Q (.next,p.2))):∀(fuel m:Nat) (ρ:R),m<fuel->I m ρ->Ok (zeR mc mb fuel ρ) Q
 |0,m,ρ,h,_=>by lia
 |n+1,m,ρ,h,hI=>by
  obtain⟨⟨b,ρ1⟩,e,h1,h2⟩:=(turn m ρ hI)
  unfold zeR
  rw[e]
  cases b with
  |false=>exact ok_some.mpr (h2 rfl)
  |true=>
   obtain⟨m',rfl,h3⟩:=h1 rfl;obtain⟨⟨f,ρ2⟩,e2,ef,hI2⟩:=h3
   show Ok ((mb ρ1).bind _) Q
   rw[e2]
   cases(show f= .next from ef)
   exact zg9 I turn n m' ρ2 (by lia) hI2
theorem ok_gS {mi:ME}{Q:R->Prop}:OkQ Q (gS j mi d ρ)=OkQ Q (gd (hasV ρ j) ((mi ρ).bind fun q=>match q.1 with
 | .int k=>q.2[j]?.bind fun s=>s.items.bind fun ds=>(ixN ds.length k).bind fun n=>some (q.2.set j (s.put (ds.set n d)))
 |_=>none)):=rfl
theorem notInL (j:Int)(ns:List Int):zou (.int j) (.lst (ns.map .int))=some (.bl (!(ns.contains j))):=by
 have e:inV (.int j) (ns.map V.int)=ns.contains j:=by
  unfold inV
  induction ns with
  |nil=>rfl
  |cons a l ih=>rw[List.map_cons,List.any_cons,ih,zod,List.contains_cons]
 show((zky (ns.map D.int)).map fun xs=>D.bl (!inV (.int j) xs))=_
 rw[zgi]
 show some (D.bl (!inV (.int j) (ns.map V.int)))=_
 rw[e]
theorem inL (j:Int)(ns:List Int):dIn (.int j) (.lst (ns.map .int))=some (.bl (ns.contains j)):=by
 show((zky (ns.map D.int)).map fun xs=>D.bl (inV (.int j) xs))=_
 rw[zgi]
 show some (D.bl (inV (.int j) (ns.map V.int)))=_
 rw[zla]
theorem like_par (ns:List Int):zgY (.par (ns.map .int)) (.par (ns.map .int))=true:=by
 show(match zaW (ns.map D.int),zaW (ns.map D.int)with
  |some a,some b=>a==b
  |_,_=>false)=true
 rw[zck];exact beq_self_eq_true ns
section
variable {j:Nat} {mk me:ME} {ρ:R}
theorem ok_tDI {Q:Bool×R->Prop}:OkQ Q (tDI j neg mk ρ)=(OkQ (fun p=>OkQ Q (match p.1 with
 | .int k=>(p.2[j]?.bind Sl.dic).map fun q=>(((lkD q.1 q.2 k).isSome !=neg),p.2)
 |_=>none)) (mk ρ)):=ok_bind
theorem ok_eCallMO {F:List D->List D->Option (Sl×List D)}{Q:D×R->Prop}:OkQ Q (eCallMO F mo ma ρ)=OkQ Q ((mo ρ).bind fun p=>(ma p.2).bind fun q=>(F p.1 q.1).bind fun r=>match r.1 with
 | .val d=>some (d,q.2)
 | .own ds=>some (.lst ds,q.2)
 |_=>none):=rfl
theorem ok_sUnT:OkQ Q (sUnT j is ρ)=OkQ Q (match ρ[j]? with
 |some (.tre (.lst cs))=>if cs.length=is.length then some (.next,putCs is cs (ρ.set j .emp))else none
 |_=>none):=rfl
theorem ok_fMT {m:MS}{cs:List D}{Q:Sl×List D->Prop}:OkQ Q (fMT N m cs t ds)=OkQ Q ((m (.par cs:: .tre t::zjs (N-2) ds)).bind fun p=>match p.1,(p.2[0]?:Option Sl)with
 |Fl.ret r,some (Sl.par out)=>some (r,out)
 |Fl.next,some (Sl.par out)=>some (.val .non,out)
 |_,_=>none):=by rw[<-zg7,Nat.sub_sub,Nat.add_comm 2];rfl
theorem ok_sPar:OkQ Q (sPar i j ma ρ)=OkQ Q ((ma ρ).bind fun p=>match p.1 with
 |[c,d]=>some (.next,(p.2.set i (.val c)).set j (.val d))
 |_=>none):=rfl
theorem ok_iDKT {Q:List D×R->Prop}:OkQ Q (iDKT j ρ)=OkQ Q (match ρ[j]? with
 |some (.val (.dit ks ds))=>some (ks.map fun k=> .tup (k.map .int),ρ)
 |_=>none):=rfl
theorem ok_eCallU {Q:D×R->Prop}:OkQ Q (eCallU F ma ρ)=OkQ Q ((ma ρ).bind fun p=>(F p.1).bind fun r=>match r with
 | .tre (.tup cs)=>some (.tup (cs.map Ch.D),p.2)
 |_=>none):=rfl
theorem ok_sCp {i n:Nat}{mb:MS}:OkQ Q (sCp i j n mb ρ)=OkQ Q (match ρ[i]?,ρ[j]? with
 |some _,some (.tre (.tup cs))=>match cs[n]? with
  |some (.d .non)=>some (.next,ρ.set i (.val .non))
  |some (.l ds)=>mb (ρ.set i (.own ds))
  |_=>none
 |_,_=>none):=rfl
theorem ok_turnT {Q:Option (List D)×R->Prop}:OkQ Q (turnT g mt mo d ρ)=(OkQ (fun ρ1=>OkQ (fun p=>(p.1=true->OkQ (fun q=>zcG q.2=true/\Q (some q.1,q.2)) (mo p.2))/\(p.1=false->zcG p.2=true/\Q (none,p.2))) (mt ρ1)) (g d ρ)):=by
 unfold turnT;rw[ok_bind];exact zax fun ρ1=>by rw[ok_bind];exact zax fun p=>by rw[zjo,ok_bind,zdQ,ok_some];congr 1;exact propext (imp_congr Iff.rfl (iff_of_eq (zax fun q=>by rw[zdQ,ok_some])))
theorem ok_turnQ {b c:Nat}{me:ME}{Q:Option D×R->Prop}:OkQ Q (turnQ b c g mt me d ρ)=(OkQ (fun ρ1=>OkQ (fun p=>(p.1=true->OkQ (fun q=>zna b c q.2=true/\Q (some q.1,q.2)) (me p.2))/\(p.1=false->zna b c p.2=true/\Q (none,p.2))) (mt ρ1)) (g d ρ)):=by
 unfold turnQ;rw[ok_bind];exact zax fun ρ1=>by rw[ok_bind];exact zax fun p=>by rw[zjo,ok_bind,zdQ,ok_some];congr 1;exact propext (imp_congr Iff.rfl (iff_of_eq (zax fun q=>by rw[zdQ,ok_some])))
theorem zoh {f g h:D->D->Option D}{a b c d:ME}{Q:D×R->Prop}:OkQ Q (zoA f g h a b c d ρ)=(OkQ (fun p=>OkQ (fun q=>OkQ (fun t=>∃z,t= .bl z/\(z=true->OkQ (fun r=>OkQ (fun t'=>∃z',t'= .bl z'/\(z'=true->OkQ (fun s=>OkQ (fun x=>Q (x,s.2)) (h r.1 s.1)) (d r.2))/\(z'=false->Q (.bl false,r.2))) (g q.1 r.1)) (c q.2))/\(z=false->Q (.bl false,q.2))) (f p.1 q.1)) (b p.2)) (a ρ)):=by
 unfold zoA
 rw[ok_bind]
 refine zax fun p=>?_
 rw[ok_bind]
 refine zax fun q=>?_
 rw[ok_bind]
 refine zax fun t=>?_
 cases t with
 |bl z=>
  cases z
  ·simp[ok_some]
  ·simp only[D.bl.injEq,exists_eq_left',forall_const,Bool.true_eq_false,false_implies,and_true]
   rw[ok_bind]
   refine zax fun r=>?_
   rw[ok_bind]
   refine zax fun t'=>?_
   cases t' with
   |bl z=>
    cases z
    ·simp[ok_some]
    ·simp only[D.bl.injEq,exists_eq_left',forall_const,Bool.true_eq_false,false_implies,and_true]
     rw[ok_bind]
     exact zax fun s=>ok_map
   |_=>simp[ok_none]
 |_=>simp[ok_none]
theorem ckG_nil:ckG [] z=true:=rfl
theorem ckG_cons {a:Nat}:ckG (a::l) z=(flS z.1&&z.2.all flS):=rfl
theorem flS_val:flS (.val d)=flD d:=rfl
theorem flS_own:flS (.own ds)=ds.all flD:=rfl
theorem flS_par:flS (.par ds)=ds.all flD:=rfl
theorem flS_tre:flS (.tre t)=flT t:=rfl
theorem flS_ptr:flS (.ptr t)=flT t:=rfl
theorem flS_emp:flS .emp=true:=rfl
theorem flD_bl:flD (.bl b)=true:=rfl
theorem flD_int {i:Int}:flD (.int i)=true:=rfl
theorem flD_non:flD .non=true:=rfl
theorem flD_str {s:Str}:flD (.str s)=true:=rfl
theorem flT_tup:flT (.tup cs)=cs.all flC:=rfl
theorem flC_d:flC (.d d)=flD d:=rfl
theorem flC_l:flC (.l ds)=ds.all flD:=rfl
theorem flT_bk:flT (bkT n ds)=ds.all flD:=by
 show([("many",Ch.d (.int n)),("kept",Ch.l ds)]:List (Str×Ch)).all (fun f=>flC f.2)=ds.all flD
 simp[flC,flD]
theorem zoD {d1:D}{Q:Sl×R->Prop}:OkQ Q (zmh F [.val d1])=OkQ (fun r=>Q (r,[.emp])) (F [d1]):=by
 show OkQ Q ((F [d1]).map fun r=>(r,[.emp]))=_
 exact ok_map
theorem zoq {d1 d2:D}{Q:Sl×R->Prop}:OkQ Q (zmh F [.val d1,.val d2])=OkQ (fun r=>Q (r,[.emp,.emp])) (F [d1,d2]):=by
 show OkQ Q ((F [d1,d2]).map fun r=>(r,[.emp,.emp]))=_
 exact ok_map
theorem zn0 {d1 d2 d3:D}{Q:Sl×R->Prop}:OkQ Q (zmh F [.val d1,.val d2,.val d3])=OkQ (fun r=>Q (r,[.emp,.emp,.emp])) (F [d1,d2,d3]):=by
 show OkQ Q ((F [d1,d2,d3]).map fun r=>(r,[.emp,.emp,.emp]))=_
 exact ok_map
theorem znl {d1 d2 d3 d4:D}{Q:Sl×R->Prop}:OkQ Q (zmh F [.val d1,.val d2,.val d3,.val d4])=OkQ (fun r=>Q (r,[.emp,.emp,.emp,.emp])) (F [d1,d2,d3,d4]):=by
 show OkQ Q ((F [d1,d2,d3,d4]).map fun r=>(r,[.emp,.emp,.emp,.emp]))=_
 exact ok_map
theorem zmN {d1 d2 d3 d4 d5:D}{Q:Sl×R->Prop}:OkQ Q (zmh F [.val d1,.val d2,.val d3,.val d4,.val d5])=OkQ (fun r=>Q (r,[.emp,.emp,.emp,.emp,.emp])) (F [d1,d2,d3,d4,d5]):=by
 show OkQ Q ((F [d1,d2,d3,d4,d5]).map fun r=>(r,[.emp,.emp,.emp,.emp,.emp]))=_
 exact ok_map
theorem zno {d1 d2 d3 d4 d5 d6:D}{Q:Sl×R->Prop}:OkQ Q (zmh F [.val d1,.val d2,.val d3,.val d4,.val d5,.val d6])=OkQ (fun r=>Q (r,[.emp,.emp,.emp,.emp,.emp,.emp])) (F [d1,d2,d3,d4,d5,d6]):=by
 show OkQ Q ((F [d1,d2,d3,d4,d5,d6]).map fun r=>(r,[.emp,.emp,.emp,.emp,.emp,.emp]))=_
 exact ok_map
theorem ok_fG {m:MS}{as:R}{Q:Sl×R->Prop}:OkQ Q (fG N m as)=OkQ (fun p=>OkQ Q (match p.1 with
 | .ret r=>(outS as p.2).map fun o=>(r,o)
 | .next=>(outS as p.2).map fun o=>(.val .non,o)
 |_=>none)) (m (as++List.replicate (N-as.length) .emp)):=ok_bind
end
section
variable {ρ:R} {j k i:Nat} {c:Str} {ns ns2:List Str} {me mo mi:ME} {mO:MO} {ma:MA} {md:MK}
noncomputable def kOb (c:Str)(ns:List Str)(p:D×R):Option ((List Int×List D)×R):=match p.1 with
 | .obj c' ns' _ ks ds=>if c'=c/\ns'=ns then some ((ks,ds),p.2)else none
 |_=>none
theorem kOb_ob:kOb slC slN (obD slC slN ls q,ρ)=some (q,ρ):=by
 unfold kOb obD;dsimp only;rw[if_pos ⟨rfl,rfl⟩]
theorem dAt_ob:dAt slC slN k (obD slC slN ls q)=(ls[k]?).map D.lst:=by
 unfold dAt obD;dsimp only;rw[if_pos ⟨rfl,rfl⟩,List.getElem?_map]
theorem ok_kAt {Q:(List Int×List D)×R->Prop}:OkQ Q (kAt c ns me ρ)=OkQ Q ((me ρ).bind (kOb c ns)):=rfl
theorem ok_eKG {Q:D×R->Prop}:OkQ Q (eKG md mi ρ)=OkQ Q ((md ρ).bind fun p=>(mi p.2).bind fun q=>match q.1 with
 | .int k=>(lkD p.1.1 p.1.2 k).map fun d=>(d,q.2)
 |_=>none):=rfl
theorem ok_tKI {Q:Bool×R->Prop}:OkQ Q (tKI neg mi md ρ)=OkQ Q ((mi ρ).bind fun p=>(md p.2).bind fun q=>match p.1 with
 | .int k=>some (((lkD q.1.1 q.1.2 k).isSome !=neg),q.2)
 |_=>none):=rfl
theorem ok_iKN {Q:List D×R->Prop}:OkQ Q (iKN md ρ)=OkQ Q ((md ρ).map fun p=>(p.1.1.map .int,p.2)):=rfl
theorem zbX {ls:List (List D)}{q:List Int×List D}{Q:D×R->Prop}(h:ρ[j]? =some (.val (obD slC slN ls q))):OkQ Q (zcs F slC slN (eVar j) ma ρ)=OkQ Q ((ma ρ).bind fun p=>(F (obD slC slN ls q::p.1)).bind fun r=>match r with
  | .val d=>some (d,p.2)
  | .own ds=>some (.lst ds,p.2)
  |_=>none):=by
 have e:eVar j ρ=some (obD slC slN ls q,ρ):=by unfold eVar;rw[h]
 unfold zcs
 rw[e,Option.bind_some]
 unfold obD;dsimp only;rw[if_pos ⟨rfl,rfl⟩]
 first|done|rfl
theorem zdk {Q:D×R->Prop}(h:ρ[j]? =some s)(hs:s.ob=some (c,ns,ls,some dk))(hl:okLs ls=true):OkQ Q (eLkO j m ρ)=OkQ Q ((m (ρ.set j (.val (obD c ns ls dk)))).bind fun p=>if fl2 p.1&&((ρ.set j .emp).zip p.2).all (fun q=>zgY q.1 q.2)then some (p.1,ρ)else none):=by
 unfold eLkO
 rw[h,Option.bind_some,hs]
 simp only[hl,Bool.true_and]
theorem zkT {m:MO}{Q:List D×R->Prop}(h:ρ[j]? =some s)(hs:s.ob=some (c,ns,ls,some dk))(hl:okLs ls=true):OkQ Q (oLkO j m ρ)=OkQ Q ((m (ρ.set j (.val (obD c ns ls dk)))).bind fun p=>if p.1.all fl2&&((ρ.set j .emp).zip p.2).all (fun q=>zgY q.1 q.2)then some (p.1,ρ)else none):=by
 unfold oLkO
 rw[h,Option.bind_some,hs]
 simp only[hl,Bool.true_and]
theorem ok_sOFs:OkQ Q (sOFs c ns j k i me ρ)=OkQ (fun p:D×R=>OkQ Q (match p.2[j]?.bind Sl.ob,p.2[i]? with
 |some (c',ns',ls,dk),some (.val (.int n))=>if c'=c/\ns'=ns then(ls[k]?).bind fun ds=>(ixN ds.length n).bind fun m=>(p.2[j]?).map fun s=>(.next,p.2.set j (s.putT (.obj c ns (ls.set k (ds.set m p.1)) dk)))else none
 |_,_=>none)) (me ρ):=ok_bind
theorem ok_sOFr:OkQ Q (sOFr c ns j k mO ρ)=OkQ (fun p:List D×R=>OkQ Q (match p.2[j]?.bind Sl.ob with
 |some (c',ns',ls,dk)=>if c'=c/\ns'=ns/\k<ls.length then(p.2[j]?).map fun s=>(.next,p.2.set j (s.putT (.obj c ns (ls.set k p.1) dk)))else none
 |_=>none)) (mO ρ):=ok_bind
theorem ok_sOFa:OkQ Q (sOFa c ns ns2 j mO ρ)=OkQ (fun p:List D×R=>OkQ Q (match p.2[j]?.bind Sl.ob with
 |some (c',ns',ls,none)=>if c'=c/\ns'=ns then(p.2[j]?).map fun s=>(.next,p.2.set j (s.putT (.obj c ns2 (ls++[p.1]) none)))else none
 |_=>none)) (mO ρ):=ok_bind
theorem ok_sOFd:OkQ Q (sOFd c ns ns2 j ρ)=OkQ Q (match ρ[j]?.bind Sl.ob with
 |some (c',ns',ls,none)=>if c'=c/\ns'=ns then(ρ[j]?).map fun s=>(.next,ρ.set j (s.putT (.obj c ns2 ls (some ([],[])))))else none
 |_=>none):=rfl
theorem ok_sOFk:OkQ Q (sOFk c ns j i me ρ)=OkQ (fun p:D×R=>OkQ Q (match p.2[j]?.bind Sl.ob,p.2[i]? with
 |some (c',ns',ls,some q),some (.val (.int n))=>if c'=c/\ns'=ns/\q.1.length<16777216 then(p.2[j]?).map fun s=>(.next,p.2.set j (s.putT (.obj c ns ls (some (ptD q.1 q.2 n p.1)))))else none
 |_,_=>none)) (me ρ):=ok_bind
theorem zhp {F:R->Option (Sl×R)}{Q:D×R->Prop}{dk:Option (List Int×List D)}(h:ρ[j]? =some s)(hs:s.ob=some (c,ns,ls,dk)):OkQ Q (zgv F c ns j ma ρ)=OkQ (fun q:List D×R=>OkQ Q (match q.2[j]?.bind Sl.ob with
  |some (c2,ns2,l2,d2)=>(F (.ptr (.obj c2 ns2 l2 d2)::q.1.map .val)).bind fun z=>match z with
   |(.val d,.ptr (.obj c3 ns3 l3 d3)::_)=>(q.2[j]?).map fun s=>(d,q.2.set j (s.putT (.obj c3 ns3 l3 d3)))
   |_=>none
  |none=>none)) (ma ρ):=by
 have e:zgv F c ns j ma ρ=(ma ρ).bind fun q=>match q.2[j]?.bind Sl.ob with
  |some (c2,ns2,l2,d2)=>(F (.ptr (.obj c2 ns2 l2 d2)::q.1.map .val)).bind fun z=>match z with
   |(.val d,.ptr (.obj c3 ns3 l3 d3)::_)=>(q.2[j]?).map fun s=>(d,q.2.set j (s.putT (.obj c3 ns3 l3 d3)))
   |_=>none
  |none=>none:=by
  unfold zgv
  rw[h,Option.bind_some,hs]
  exact if_pos ⟨rfl,rfl⟩
 rw[e]
 exact ok_bind
theorem ok_sMkO {F:R->Option (Sl×R)}:OkQ Q (sMkO i c ns F ma ρ)=OkQ (fun q:List D×R=>OkQ Q ((F (.ptr (.obj c [] [] none)::q.1.map .val)).bind fun z=>match z with
 |(.val .non,.ptr (.obj c3 ns3 l3 (some d3))::_)=>if c3=c/\ns3=ns then some (.next,q.2.set i (.val (obD c ns l3 d3)))else none
 |_=>none)) (ma ρ):=ok_bind
end
theorem bk_obj:(bkT n ds).isObj=false:=rfl
end M
local macro_rules | `(tactic| simp! only [$ls,*]) => do
  let f (d : Bool) (n : String) : Lean.MacroM (Lean.TSyntax `Lean.Parser.Tactic.simpLemma) := let i := Lean.mkIdent n.toName; if d then `(Lean.Parser.Tactic.simpLemma| ↓$i:term) else `(Lean.Parser.Tactic.simpLemma| $i:term)
  let a ← ("M.ok_Q M.ok_sIf M.ok_eIf M.ok_tAnd M.ok_tOr M.ok_eAnd M.ok_eOr M.ok_chain M.zoh M.ok_turnM M.ok_turnP M.ok_turnQ M.ok_bind M.ok_map M.ok_gd M.zdQ M.ok_some M.ok_sNext M.ok_sSeq M.ok_sExpr M.ok_sRet M.ok_sRetO M.ok_sRetV M.ok_gN M.ok_gsNil M.znN M.ok_gT M.ok_sAsg M.ok_sSet M.ok_sSetO M.ok_sApp M.ok_sPut M.ok_eC M.zh5 M.ok_aNil M.ok_aCons M.ok_m1 M.ok_mC M.ok_eLenV M.ok_oC M.ok_eTup M.ok_oLst M.ok_tTru M.ok_tNotM M.ok_eCall M.ok_oCall M.zn5 M.ok_eFz M.ok_eCut M.ok_pNo M.ok_pSome M.ok_iSeq M.ok_iR1 M.ok_iR2 M.ok_sFor M.ok_oLC M.ok_oR M.ok_tTrue M.ok_fP M.ok_fM M.ok_sAugI M.ok_iZ2 M.ok_iEn M.ok_oLCM M.ok_sExt M.ok_fMT M.ok_turnT M.ok_fG M.ok_kAt M.ok_eKG M.ok_tKI M.ok_iKN M.ok_sOFs M.ok_sOFr M.ok_sOFa M.ok_sOFd M.ok_sOFk M.ok_sMkO M.ok_eIxC M.ok_eIxE M.ok_m2VV M.ok_m2VC M.ok_m2CV M.zoD M.zoq M.zn0 M.znl M.zmN M.zno".splitOn " ").toArray.mapM (f true)
  let b ← ("M.ok_m2 M.ok_eIxV M.dI2 M.dSub M.dDiv M.dMod M.dPow M.dShl M.dShr M.dLt M.dGt M.dGe M.dNeg M.dMul M.dAdd M.dTru M.Sl.read M.Sl.items M.Sl.put M.hasV M.zcG M.fz1 M.fzL M.capS M.capR M.eIsI.noS1 M.okT M.isI M.d2I M.dAbs M.dInt M.dSum M.zkG M.zkN M.zoL M.fzD M.putCs M.Ch.sl M.Sl.dic M.Sl.dit M.Sl.tree M.Sl.putT M.Sl.dit M.fzT M.Ch.D M.fzDT M.fzU M.rowsOf M.zna M.Sl.hand M.Sl.look M.hasA M.outS M.backS M.zko M.zmO M.Sl.bk M.onlyV M.Sl.ob M.zhl M.zka M.dModF M.zmJ M.zov M.seqK_ret M.seqK_brk M.znw M.zoa M.znx M.turn_brk M.turn_ret List.getElem?_cons_zero List.getElem?_cons_succ List.set_cons_zero List.set_cons_succ Option.bind_some Option.isSome_some Option.map_some if_true M.znS M.map_nilR M.zix M.zoy M.ixR_val M.ixR_own M.ixR_par M.zhV M.eVQ_own M.Vb_val M.Vb_own M.Vb_own2 M.Va_val M.Va_own List.replicate_succ List.replicate_zero List.length_cons List.length_nil List.cons_append List.nil_append List.all_cons List.all_nil Bool.and_true Bool.true_and Bool.and_self Bool.true_eq_false Bool.false_eq_true if_false M.dEq_int M.dNe_int List.length_map List.length_append M.atI_n M.atI_lit M.ixN_n M.ixN_lit M.atI_n1 M.ok_none M.dItems_l M.dItems_t M.dItems_s M.dLen_l M.dLen_t M.dLen_s M.dTuple_l M.dTuple_t M.dTuple_s M.dCut_l M.dCut_t M.dCut_s M.dIx_l M.dIx_t M.dIx_s M.dEq_str M.zip3D_w M.isN_non M.isN_int M.isN_bl M.isN_str M.isN_lst M.isN_tup M.bkT_bk M.bk_obj M.flT_bk M.ckG_nil M.ckG_cons M.flS_val M.flS_own M.flS_tre M.flS_par M.flS_ptr M.flS_emp M.flD_bl M.flD_int M.flD_non M.flD_str M.flT_tup M.flC_d M.flC_l M.kOb_ob M.dAt_ob beq_self_eq_true Bool.not_true Bool.not_false M.zck Int.toNat_natCast M.rangeD_w M.zay decide_eq_true_eq Bool.and_eq_true true_and and_true Nat.reduceAdd Nat.reduceLeDiff Int.reduceLT Int.reduceLE Int.reduceNeg Nat.reduceSub Int.reducePow Int.reduceMul Int.reduceAdd Int.reduceSub Int.reduceMod Int.reduceDiv Nat.reduceLT Nat.reduceBNe Nat.reduceEqDiff List.filter_cons List.filter_nil bne_self_eq_false Int.reduceToNat Nat.reducePow M.zmd Int.reduceEq Int.reduceBEq Int.reduceBNe Nat.reduceMod decide_true decide_false beq_iff_eq beq_eq_false_iff_ne bne_iff_ne bne_eq_false_iff_eq decide_eq_false_iff_not Int.not_le Int.not_lt ne_eq forall_const true_implies false_implies reduceCtorEq imp_self implies_true M.D.bl.injEq exists_eq_left' Bool.not_true Bool.not_false".splitOn " ").toArray.mapM (f false)
  `(tactic| simp only [$a,*, $b,*, $ls,*])
namespace Prf
open L2 M PySem
noncomputable def top (i:Nat):Stmt:=PySem.Challenge.pw_tellsum_k59_whole_all_rows_by_base_rows.main.body.getD i (.Pass ⟨0,0,0,0⟩)
structure BN (K:W.Frag) (mg:Str->Option Value):Prop where
 oc:OC K slC slN
 abs':mg "abs"=none
 any':mg "any"=none
 enumerate':mg "enumerate"=none
 int':mg "int"=none
 len':mg "len"=none
 list':mg "list"=none
 max':mg "max"=none
 min':mg "min"=none
 range':mg "range"=none
 sum':mg "sum"=none
 tuple':mg "tuple"=none
 zip':mg "zip"=none
section
variable {P:Program} {w:World} {K:W.Frag} {mg:Str->Option Value} {base hp:Heap} {f:Addr} {fd:FuncData} (X:K.In hp) (G:hp.Ns mainGlobals mg) (bn:BN K mg)
include X G bn
abbrev zfX:Stmt:=top 1
def zd1:ME:=
 (eIxV 0 (eVar 1))
def zdV:MO:=
 oLC [0] 1 (iSeq (eVar 1)) (gN 1) zbb zd1
def zdL:MS:=
 (sRet (mC dSum (zaf (eFz zdV) aNil)))
def zcx:List D->Option Sl:=fP 2 zdL
theorem zja (h:FnAt K "chosen_sum" zfX):FD P w K mg base 1 "chosen_sum" (spP K 2 zcx):=
 fdP (N:=["row","places"]) (k:=0) (m:=zdL) X G h fun _ _ _ _ _ _ _ hr nd=>(zaj (zaU (znK rfl bn.sum' (zab (SO.se (zbD [0] 1 ["row","place"] rfl (zba (zaa 1)) (fun C s H fp=>(zak 1 ndk)) (fun C s H fp=>zaA) (fun C s H fp=>(zap 0 (zaa 1))))) zag))))
abbrev zhy:Stmt:=top 2
def zfQ:ME:=
 (zaY zcx (zaf (eVar 0) (zaf (eVar 1) aNil)))
def zfF:MO:=
 oLC [0] 1 (iSeq (eVar 1)) (gN 1) zbb zfQ
def zgr:MS:=
 (sRet (mC zbW (zaf (eFz zfF) aNil)))
def zbi:List D->Option Sl:=fP 2 zgr
theorem zkl (zdp:FD P w K mg base 1 "chosen_sum" (spP K 2 zcx))(h:FnAt K "set_sums" zhy):FD P w K mg base 2 "set_sums" (spP K 2 zbi):=
 fdP (N:=["row","sets"]) (k:=1) (m:=zgr) X G h fun _ _ _ _ _ _ _ hr nd=>(zaj (zaU (zb7 bn.tuple' (zab (SO.se (zbD [0] 1 ["row","places"] rfl (zba (zaa 1)) (fun C s H fp=>(zak 1 ndk)) (fun C s H fp=>zaA) (fun C s H fp=>(zau zdp hr (zab (zaa 0) (zab (zaa 1) zag)) (hlen:=(zac (zac zai))))))) zag))))
abbrev zgt:Stmt:=top 4
def zex:ME:=
 (mC zbW (zaf (eVar 0) aNil))
def zeE:MO:=
 oLC [] 1 (iSeq (eVar 0)) (gN 0) zbb zex
def zfa:MS:=
 (sRet (mC zbW (zaf (eFz zeE) aNil)))
def zbH:List D->Option Sl:=fP 1 zfa
theorem zjK (h:FnAt K "in_tuples" zgt):FD P w K mg base 1 "in_tuples" (spP K 1 zbH):=
 fdP (N:=["rows"]) (k:=0) (m:=zfa) X G h fun _ _ _ _ _ _ _ hr nd=>(zaj (zaU (zb7 bn.tuple' (zab (SO.se (zbD [] 1 ["row"] rfl (zba (zaa 0)) (fun C s H fp=>(zak 0 ndk)) (fun C s H fp=>zaA) (fun C s H fp=>(zb7 bn.tuple' (zab (zaa 0) zag))))) zag))))
abbrev zh1:Stmt:=top 6
def zfx:ME:=
 (eIf (tTru (m2 dEq (eVar 1) (eVar 0))) (eC (.int 1)) (eC (.int 0)))
def zfR:MO:=
 oLC [1] 1 (iR1 (zaf (eVar 0) aNil)) (gN 1) zbb zfx
def zf8:MS:=
 (zhr zfR)
def zc7:List D->Option Sl:=fP 2 zf8
theorem zki (h:FnAt K "unit_row" zh1):FD P w K mg base 1 "unit_row" (spP K 2 zc7):=
 fdP (N:=["many","place"]) (k:=0) (m:=zf8) X G h fun _ _ _ _ _ _ _ hr nd=>(zaj (zdj (zbD [1] 1 ["place","other"] rfl (zaD bn.range' (zab (zaa 0) zag)) (fun C s H fp=>(zak 1 ndk)) (fun C s H fp=>zaA) (fun C s H fp=>(zlk (zmx hr.units (zaa 1) (zaa 0)) zah zah)))))
abbrev zgP:Stmt:=top 7
def zer:ME:=
 (zaY zc7 (zaf (eVar 0) (zaf (eVar 1) aNil)))
def ze1:MO:=
 oLC [0] 1 (iR1 (zaf (eVar 0) aNil)) (gN 1) zbb zer
def zfr:MS:=
 (zhr ze1)
def zbe:List D->Option Sl:=fP 1 zfr
theorem zjT (zfc:FD P w K mg base 1 "unit_row" (spP K 2 zc7))(h:FnAt K "unit_rows" zgP):FD P w K mg base 2 "unit_rows" (spP K 1 zbe):=
 fdP (N:=["many"]) (k:=1) (m:=zfr) X G h fun _ _ _ _ _ _ _ hr nd=>(zaj (zdj (zbD [0] 1 ["many","place"] rfl (zaD bn.range' (zab (zaa 0) zag)) (fun C s H fp=>(zak 1 ndk)) (fun C s H fp=>zaA) (fun C s H fp=>(zau zfc hr (zab (zaa 0) (zab (zaa 1) zag)) (hlen:=(zac (zac zai))))))))
abbrev ziF:Stmt:=top 8
def zgI:ME:=
 (eIf (tTru (m2 dIn (eVar 1) (eVar 0))) (eC (.int 1)) (eC (.int 0)))
def zgV:MO:=
 oLC [1] 1 (iR1 (zaf (eVar 0) aNil)) (gN 1) zbb zgI
def zhT:MS:=
 (zhr zgV)
def zef:List D->Option Sl:=fP 2 zhT
theorem zmj (h:FnAt K "has_row" ziF):FD P w K mg base 1 "has_row" (spP K 2 zef):=
 fdP (N:=["many","places"]) (k:=0) (m:=zhT) X G h fun _ _ _ _ _ _ _ hr nd=>(zaj (zdj (zbD [1] 1 ["places","place"] rfl (zaD bn.range' (zab (zaa 0) zag)) (fun C s H fp=>(zak 1 ndk)) (fun C s H fp=>zaA) (fun C s H fp=>(zlk (st_in (zaa 1) (zaa 0)) zah zah)))))
abbrev zgR:Stmt:=top 9
def zeT:ME:=
 (m2 dSub (eVar 1) (m2 zhl (eVar 0) (eVar 2)))
def zeK:MO:=
 oLC [2] 2 (iZ2 (zaf (eVar 0) (zaf (eVar 1) aNil))) (gT 2 (za5 (gN 1) (za5 (gN 2) zg0))) zbb zeT
def zfb:MS:=
 (zhr zeK)
def zaI:List D->Option Sl:=fP 3 zfb
theorem zjl (h:FnAt K "taken_off" zgR):FD P w K mg base 1 "taken_off" (spP K 3 zaI):=
 fdP (N:=["row","other","times"]) (k:=0) (m:=zfb) X G h fun _ _ _ _ _ _ _ hr nd=>(zaj (zdj (zbD [2] 2 ["times","number","less"] rfl (zdi bn.zip' (zab (zaa 0) (zab (zaa 1) zag))) (fun C s H fp=>(ze0 rfl (zaF (zak 1 ndk) (zaF (zak 2 ndk) zcE)))) (fun C s H fp=>zaA) (fun C s H fp=>(zee (zaa 1) (zdf (zaa 0) (zaa 2)))))))
abbrev zcn:Stmt:=top 10
def zbl:MS:=
 (sRet (m2 dAdd (m2 dAdd (eCut (eVar 0) pNo (znO (eVar 1))) (eFz (oLst (zaf (m2 dSub (eIxV 0 (eVar 1)) (m2 zhl (eVar 3) (eIxV 0 (eVar 2)))) aNil)))) (eCut (eVar 0) (znO (m2 dAdd (eVar 1) (eC (.int 1)))) pNo)))
def zaL:List D->Option Sl:=fP 4 zbl
theorem ze8 (h:FnAt K "column_taken_off" zcn):FD P w K mg base 1 "column_taken_off" (spP K 4 zaL):=
 fdP (N:=["row","c","other","times"]) (k:=0) (m:=zbl) X G h fun _ _ _ _ _ _ _ hr nd=>(zaj (zaU (zbz (zbz (zoK (zaa 0) sp_no (zkh (zaa 1))) (SO.se (zed (zab (zee (zap 0 (zaa 1)) (zdf (zaa 3) (zap 0 (zaa 2)))) zag)))) (zoK (zaa 0) (zkh (zbz (zaa 1) zah)) sp_no))))
abbrev zd4:Stmt:=top 11
def zcR:ME:=
 (m2 zhl (eVar 0) (eVar 1))
def zcK:MO:=
 oLC [] 2 (iZ2 (zaf (eVar 0) (zaf (eVar 1) aNil))) (gT 2 (za5 (gN 0) (za5 (gN 1) zg0))) zbb zcR
def zcI:MS:=
 (sRet (mC dSum (zaf (eFz zcK) aNil)))
def za9:List D->Option Sl:=fP 2 zcI
theorem zht (h:FnAt K "products_sum" zd4):FD P w K mg base 1 "products_sum" (spP K 2 za9):=
 fdP (N:=["row","other"]) (k:=0) (m:=zcI) X G h fun _ _ _ _ _ _ _ hr nd=>(zaj (zaU (znK rfl bn.sum' (zab (SO.se (zbD [] 2 ["number","times"] rfl (zdi bn.zip' (zab (zaa 0) (zab (zaa 1) zag))) (fun C s H fp=>(ze0 rfl (zaF (zak 0 ndk) (zaF (zak 1 ndk) zcE)))) (fun C s H fp=>zaA) (fun C s H fp=>(zdf (zaa 0) (zaa 1))))) zag))))
abbrev zbs:Stmt:=zdN (top 12) 2
def zcQ:ME:=
 (eKG (kAt slC slN (eVar 0)) (eVar 1))
def zcP:MO:=
 oLC [0] 1 (iKN (kAt slC slN (eVar 0))) (gN 1) zbb zcQ
def zcV:ME:=
 (eVar 1)
def zc5:MT:=
 (tTru (m2 zou (eVar 1) (eVar 0)))
def zcU:MO:=
 oLC [1] 1 (iR1 (zaf (mC dLen (zaf (m1 (dAt slC slN 2) (eVar 0)) aNil)) aNil)) (gN 1) zc5 zcV
def zcJ:MS:=
 (sSeq (sSet 1 (eFz zcP))
  (zhr zcU))
def zaB:List D->Option Sl:=fP 2 zcJ
theorem zhQ (h:MAtC K slC "open_columns" "Slant.open_columns" zbs):MV P w K mg base 1 slC "open_columns" (spP K 1 zaB):=
 mvP (N:=["self","done"]) (k:=0) (m:=zcJ) h fun _ _ _ _ _ _ _ hr nd=>(zad (zat 1 (SO.se (zbD [0] 1 ["self","r"] rfl (it_dk (zgy 4 bn.oc (zaa 0))) (fun C s H fp=>(zak 1 ndk)) (fun C s H fp=>zaA) (fun C s H fp=>(zg8 (zgy 4 bn.oc (zaa 0)) (zaa 1))))) nd)
  (zaj (zdj (zbD [1] 1 ["done","c"] rfl (zaD bn.range' (zab (zjX bn.len' (zab (zbE 2 bn.oc (zaa 0)) zag)) zag)) (fun C s H fp=>(zak 1 ndk)) (fun C s H fp=>(zd8 (st_notIn (zaa 1) (zaa 0)))) (fun C s H fp=>(zaa 1))))))
abbrev zcy:Stmt:=zdN (top 12) 1
def zeA:ME:=
 (eVar 1)
def ze3:MT:=
 (tKI true (eVar 1) (kAt slC slN (eVar 0)))
def ze4:MO:=
 oLC [0] 1 (iR1 (zaf (mC dLen (zaf (m1 (dAt slC slN 1) (eVar 0)) aNil)) aNil)) (gN 1) ze3 zeA
def ze7:MS:=
 (zhr ze4)
def zbd:List D->Option Sl:=fP 1 ze7
theorem zjZ (h:MAtC K slC "open_rows" "Slant.open_rows" zcy):MV P w K mg base 1 slC "open_rows" (spP K 1 zbd):=
 mvP (N:=["self"]) (k:=0) (m:=ze7) h fun _ _ _ _ _ _ _ hr nd=>(zaj (zdj (zbD [0] 1 ["self","r"] rfl (zaD bn.range' (zab (zjX bn.len' (zab (zbE 1 bn.oc (zaa 0)) zag)) zag)) (fun C s H fp=>(zak 1 ndk)) (fun C s H fp=>(zd8 (zmq (zaa 1) (zgy 4 bn.oc (zaa 0))))) (fun C s H fp=>(zaa 1)))))
abbrev zbo:Stmt:=zdN (top 12) 3
def zcZ:ME:=
 (eTup (zaf (mC dAbs (zaf (m2 dIx (m2 dIx (m1 (dAt slC slN 0) (eVar 0)) (eVar 1)) (eVar 2)) aNil)) (zaf (eVar 1) (zaf (eVar 2) aNil))))
def zc6:MT:=
 (tTru (m2 dNe (m2 dIx (m2 dIx (m1 (dAt slC slN 0) (eVar 0)) (eVar 1)) (eVar 2)) (eC (.int 0))))
def zc2:MO:=
 oLC [0,3] 1 (iSeq (eVar 1)) (gN 2) zc6 zcZ
def zc0:MS:=
 (sExt 2 (eFz zc2))
def zc3:MS:=
 sFor (iSeq (zcs zbd slC slN (eVar 0) aNil)) (gN 3) zc0
def zcY:MS:=
 (sRet (eCut (mC zm0 (zaf (eVar 2) aNil)) (znO (eC (.int 1))) pNo))
def zcB:MS:=
 (sSeq (sSet 1 (zcs zaB slC slN (eVar 0) aNil))
  (sSeq (zju 2 (oLst aNil))
  (sSeq zc3
  (sSeq (sIf (tTru (m2 dEq (zjY 2) (eC (.int 0))))
  (sRet (eC .non))
  zdG)
  zcY))))
def zaR:List D->Option Sl:=fP 4 zcB
theorem zhd (md_open_columns:MV P w K mg base 1 slC "open_columns" (spP K 1 zaB))(md_open_rows:MV P w K mg base 1 slC "open_rows" (spP K 1 zbd))(h:MAtC K slC "least_corner" "Slant.least_corner" zbo):MV P w K mg base 2 slC "least_corner" (spP K 1 zaR):=
 mvP (N:=["self","columns","corners","r"]) (k:=1) (m:=zcB) h fun _ _ _ _ _ _ _ hr nd=>(zad (zat 1 (zcq (ns:=slN) (by decide+kernel) md_open_columns hr (zaa 0)) nd)
  (zad (zgg 2 (zed zag) nd)
  (zad (zcz PassesOwn.never rfl (zba (zcq (ns := slN) (by decide +kernel) md_open_rows hr (zaa 0))) (zak 3 nd)
  (zaj (ss_ext 2 (SO.se (zbD [0,3] 1 ["self","r","c"] rfl (zba (zaa 1)) (fun C s H fp=>(zak 2 ndk)) (fun C s H fp=>(zd8 (zgh hr.units (zas (zas (zbE 0 bn.oc (zaa 0)) (zaa 1)) (zaa 2)) zah))) (fun C s H fp=>(zcu (zab (zkX bn.abs' (zab (zas (zas (zbE 0 bn.oc (zaa 0)) (zaa 1)) (zaa 2)) zag)) (zab (zaa 1) (zab (zaa 2) zag))))))))))
  (zad (zdH (zmx hr.units (zhY 2 bn.len') zah)
  (zaj (zaU se_non))
  za7)
  (zaj (zaU (zoK (se_minT rfl hr.units bn.min' (zab (zaa 2) zag)) (zkh zah) sp_no)))))))
abbrev zdo:Stmt:=zdN (top 12) 5
def zgq:MS:=
 (sSeq (sOFs slC slN 0 0 1 (eLkO 0 (zaY zaI (zaf (m2 dIx (m1 (dAt slC slN 0) (eVar 0)) (eVar 1)) (zaf (m2 dIx (m1 (dAt slC slN 0) (eVar 0)) (eVar 2)) (zaf (eVar 3) aNil))))))
  (sOFs slC slN 0 1 1 (eLkO 0 (zaY zaI (zaf (m2 dIx (m1 (dAt slC slN 1) (eVar 0)) (eVar 1)) (zaf (m2 dIx (m1 (dAt slC slN 1) (eVar 0)) (eVar 2)) (zaf (eVar 3) aNil)))))))
def zcW:R->Option (Sl×R):=fG 4 zgq
theorem zkb (zaE:FD P w K mg base 1 "taken_off" (spP K 3 zaI))(h:MAtC K slC "take_row" "Slant.take_row" zdo):MV P w K mg base 2 slC "take_row" (spG K 4 zcW):=
 mvG (N:=["self","r","other","times"]) (k:=1) (m:=zgq) h fun _ _ _ _ _ _ _ hr nd=>(zad (zg1 0 0 1 bn.oc (zbJ 0 (zau zaE hr (zab (zas (zbE 0 bn.oc (zaa 0)) (zaa 1)) (zab (zas (zbE 0 bn.oc (zaa 0)) (zaa 2)) (zab (zaa 3) zag))) (hlen:=(zac (zac (zac zai)))))))
  (zaj (zg1 0 1 1 bn.oc (zbJ 0 (zau zaE hr (zab (zas (zbE 1 bn.oc (zaa 0)) (zaa 1)) (zab (zas (zbE 1 bn.oc (zaa 0)) (zaa 2)) (zab (zaa 3) zag))) (hlen:=(zac (zac (zac zai)))))))))
abbrev zbK:Stmt:=zdN (top 12) 6
def zdB:ME:=
 (zaY zaL (zaf (eVar 3) (zaf (eVar 0) (zaf (eVar 1) (zaf (eVar 2) aNil)))))
def zdF:MO:=
 oLC [1,2,3] 1 (iSeq (m1 (dAt slC slN 0) (eVar 0))) (gN 3) zbb zdB
def zdl:MS:=
 (sSeq (sOFr slC slN 0 0 (oLkO 0 zdF))
  (sSeq (sOFs slC slN 0 2 1 (eLkO 0 (zaY zaI (zaf (m2 dIx (m1 (dAt slC slN 2) (eVar 0)) (eVar 1)) (zaf (m2 dIx (m1 (dAt slC slN 2) (eVar 0)) (eVar 2)) (zaf (eVar 3) aNil))))))
  (sOFs slC slN 0 3 2 (eLkO 0 (zaY zaI (zaf (m2 dIx (m1 (dAt slC slN 3) (eVar 0)) (eVar 2)) (zaf (m2 dIx (m1 (dAt slC slN 3) (eVar 0)) (eVar 1)) (zaf (m1 dNeg (eVar 3)) aNil))))))))
def zbm:R->Option (Sl×R):=fG 4 zdl
theorem zid (zbg:FD P w K mg base 1 "column_taken_off" (spP K 4 zaL))(zaE:FD P w K mg base 1 "taken_off" (spP K 3 zaI))(h:MAtC K slC "take_column" "Slant.take_column" zbK):MV P w K mg base 2 slC "take_column" (spG K 4 zbm):=
 mvG (N:=["self","c","other","times"]) (k:=1) (m:=zdl) h fun _ _ _ _ _ _ _ hr nd=>(zad (ss_obRep 0 0 bn.oc (so_lookO 0 (zbD [1,2,3] 1 ["c","other","times","row"] rfl (zba (zbE 0 bn.oc (zaa 0))) (fun C s H fp=>(zak 3 ndk)) (fun C s H fp=>zaA) (fun C s H fp=>(zau zbg hr (zab (zaa 3) (zab (zaa 0) (zab (zaa 1) (zab (zaa 2) zag)))) (hlen:=(zac (zac (zac (zac zai))))))))))
  (zad (zg1 0 2 1 bn.oc (zbJ 0 (zau zaE hr (zab (zas (zbE 2 bn.oc (zaa 0)) (zaa 1)) (zab (zas (zbE 2 bn.oc (zaa 0)) (zaa 2)) (zab (zaa 3) zag))) (hlen := (zac (zac (zac zai)))))))
  (zaj (zg1 0 3 2 bn.oc (zbJ 0 (zau zaE hr (zab (zas (zbE 3 bn.oc (zaa 0)) (zaa 2)) (zab (zas (zbE 3 bn.oc (zaa 0)) (zaa 1)) (zab (zlB (zaa 3)) zag))) (hlen:=(zac (zac (zac zai))))))))))
abbrev zbI:Stmt:=zdN (top 12) 4
def zdw:ME:=
 (eVar 1)
def zdz:MT:=
 (tTru (m2 dNe (eVar 1) (eVar 0)))
def zdE:MO:=
 oLC [1] 1 (iSeq (zcs zbd slC slN (eVar 0) aNil)) (gN 1) zdz zdw
def zdA:ME:=
 (eVar 1)
def zdx:MT:=
 (tTru (m2 dNe (eVar 1) (eVar 0)))
def zdv:MO:=
 oLC [2] 1 (iSeq (zcs zaB slC slN (eVar 0) aNil)) (gN 1) zdx zdA
def zdr:MS:=
 (zmP (zgv zcW slC slN 0 (zaf (eVar 5) (zaf (eVar 1) (zaf (eLkO 0 (m2 zka (m2 dIx (m2 dIx (m1 (dAt slC slN 0) (eVar 0)) (eVar 5)) (eVar 2)) (m2 dIx (m2 dIx (m1 (dAt slC slN 0) (eVar 0)) (eVar 1)) (eVar 2)))) aNil)))))
def zb5:MS:=
 sFor (iSeq (eVar 3)) (gN 5) zdr
def zdu:MS:=
 (zmP (zgv zbm slC slN 0 (zaf (eVar 5) (zaf (eVar 2) (zaf (eLkO 0 (m2 zka (m2 dIx (m2 dIx (m1 (dAt slC slN 0) (eVar 0)) (eVar 1)) (eVar 5)) (m2 dIx (m2 dIx (m1 (dAt slC slN 0) (eVar 0)) (eVar 1)) (eVar 2)))) aNil)))))
def zb4:MS:=
 sFor (iSeq (eVar 4)) (gN 5) zdu
def zdC:ME:=
 (m2 dIx (m2 dIx (m1 (dAt slC slN 0) (eVar 0)) (eVar 2)) (eVar 1))
def zds:MO:=
 oLC [0,2] 1 (iSeq (eVar 3)) (gN 2) zbb zdC
def zdD:ME:=
 (m2 dIx (m2 dIx (m1 (dAt slC slN 0) (eVar 0)) (eVar 1)) (eVar 2))
def zdy:MO:=
 oLC [0,1] 1 (iSeq (eVar 4)) (gN 2) zbb zdD
def zde:MS:=
 (sSeq (sSet 3 (eFz (oLkO 0 zdE)))
  (sSeq (sSet 4 (eFz (oLkO 0 zdv)))
  (sSeq zb5
  (sSeq zb4
  (sIf (zor (zmk (tTru (eLkO 0 (mC zmJ (zaf (eFz zds) aNil))))) (zmk (tTru (eLkO 0 (mC zmJ (zaf (eFz zdy) aNil))))))
  (sOFk slC slN 0 1 (eVar 2))
  zdG)))))
def zbq:R->Option (Sl×R):=fG 6 zde
theorem zh7 (md_open_columns:MV P w K mg base 1 slC "open_columns" (spP K 1 zaB))(md_open_rows:MV P w K mg base 1 slC "open_rows" (spP K 1 zbd))(md_take_column:MV P w K mg base 2 slC "take_column" (spG K 4 zbm))(md_take_row:MV P w K mg base 2 slC "take_row" (spG K 4 zcW))(h:MAtC K slC "clear_cross" "Slant.clear_cross" zbI):MV P w K mg base 3 slC "clear_cross" (spG K 3 zbq):=
 mvG (N:=["self","r","c","rows","columns","other"]) (k:=2) (m:=zde) h fun _ _ _ _ _ _ _ hr nd=>(zad (zjN 0 3 [1] 1 ["r","other"] rfl (zba (zcq (ns:=slN) (by decide+kernel) md_open_rows hr (zaa 0))) (fun C s H fp=>(zak 1 ndk)) (fun C s H fp=>(zd8 (zgh hr.units (zaa 1) (zaa 0)))) (fun C s H fp=>(zaa 1)) nd)
  (zad (zjN 0 4 [2] 1 ["c", "other"] rfl (zba (zcq (ns := slN) (by decide +kernel) md_open_columns hr (zaa 0))) (fun C s H fp => (zak 1 ndk)) (fun C s H fp => (zd8 (zgh hr.units (zaa 1) (zaa 0)))) (fun C s H fp => (zaa 1)) nd)
  (zad (zcz PassesOwn.never rfl (zba (zaa 3)) (zak 5 nd)
  (zaj (zj7 (zi7 0 (c:=slC) (ns:=slN) (by decide+kernel) md_take_row hr (zab (zaa 5) (zab (zaa 1) (zab (zbJ 0 (zhq (zas (zas (zbE 0 bn.oc (zaa 0)) (zaa 5)) (zaa 2)) (zas (zas (zbE 0 bn.oc (zaa 0)) (zaa 1)) (zaa 2)))) zag))) (zcc (zac (zac (zac zai))))))))
  (zad (zcz PassesOwn.never rfl (zba (zaa 4)) (zak 5 nd)
  (zaj (zj7 (zi7 0 (c:=slC) (ns:=slN) (by decide+kernel) md_take_column hr (zab (zaa 5) (zab (zaa 2) (zab (zbJ 0 (zhq (zas (zas (zbE 0 bn.oc (zaa 0)) (zaa 1)) (zaa 5)) (zas (zas (zbE 0 bn.oc (zaa 0)) (zaa 1)) (zaa 2)))) zag))) (zcc (zac (zac (zac zai))))))))
  (zaj (zdH (STw.st (sw_and (zld (zg5 (zbJ 0 (zj8 rfl bn.any' (zab (SO.se (zbD [0, 2] 1 ["self", "c", "other"] rfl (zba (zaa 3)) (fun C s H fp => (zak 2 ndk)) (fun C s H fp => zaA) (fun C s H fp => (zas (zas (zbE 0 bn.oc (zaa 0)) (zaa 2)) (zaa 1))))) zag))))) (zng (zld (zg5 (zbJ 0 (zj8 rfl bn.any' (zab (SO.se (zbD [0, 1] 1 ["self", "r", "other"] rfl (zba (zaa 4)) (fun C s H fp => (zak 2 ndk)) (fun C s H fp => zaA) (fun C s H fp => (zas (zas (zbE 0 bn.oc (zaa 0)) (zaa 1)) (zaa 2))))) zag))))))))
  (zaj (ss_obPut 0 4 1 bn.oc (zaa 2)))
  za7))))))
abbrev zdn:Stmt:=zdN (top 12) 0
def zfJ:ME:=
 (zaY zef (zaf (eIxV 0 (eC (.int 0))) (zaf (eVar 1) aNil)))
def zfW:MO:=
 oLC [1] 1 (iSeq (eIxV 1 (eC (.int 1)))) (gN 1) zbb zfJ
def zf2:MT:=
 (tTru (m2 zkG (eVar 2) (eC .non)))
def zfL:MS:=
 (sSeq (zmP (zgv zbq slC slN 0 (zaf (eIxV 2 (eC (.int 0))) (zaf (eIxV 2 (eC (.int 1))) aNil))))
  (sSet 2 (eLkO 0 (zcs zaR slC slN (eVar 0) aNil))))
def zfE:MS:=
 zeR zf2 zfL bigF
def zge:MS:=
 (sSeq (sOFa slC (slN.take 0) (slN.take 1) 0 zfW)
  (sSeq (sOFa slC (slN.take 1) (slN.take 2) 0 (zmt zbe (zaf (mC dLen (zaf (eIxV 1 (eC (.int 1))) aNil)) aNil)))
  (sSeq (sOFa slC (slN.take 2) (slN.take 3) 0 (zmt zbe (zaf (eIxV 1 (eC (.int 0))) aNil)))
  (sSeq (sOFa slC (slN.take 3) (slN.take 4) 0 (zmt zbe (zaf (eIxV 1 (eC (.int 0))) aNil)))
  (sSeq (sOFd slC (slN.take 4) slN 0)
  (sSeq (sSet 2 (eLkO 0 (zcs zaR slC slN (eVar 0) aNil)))
  zfE))))))
def zbA:R->Option (Sl×R):=fG 3 zge
theorem zku (md_clear_cross:MV P w K mg base 3 slC "clear_cross" (spG K 3 zbq))(zgm:FD P w K mg base 1 "has_row" (spP K 2 zef))(md_least_corner:MV P w K mg base 2 slC "least_corner" (spP K 1 zaR))(zb1:FD P w K mg base 2 "unit_rows" (spP K 1 zbe))(h:IAtC K mg slC "Slant.__init__" zdn):MkO P w K mg base 4 slC (spG K 2 zbA):=
 mkG (N:=["self","telling","corner"]) (k:=3) (m:=zge) h fun _ _ _ _ _ _ _ hr nd=>(zad (zg2 (c:=slC) (ns:=slN.take 0) 0 (slN.take 1) (bn.oc.take 1) (zbD [1] 1 ["telling","places"] rfl (zba (zap 1 zah)) (fun C s H fp=>(zak 1 ndk)) (fun C s H fp=>zaA) (fun C s H fp=>(zau zgm hr (zab (zap 0 zah) (zab (zaa 1) zag)) (hlen:=(zac (zac zai)))))))
  (zad (zg2 (c := slC) (ns := slN.take 1) 0 (slN.take 2) (bn.oc.take 2) (zi6 zb1 hr (zab (zjX bn.len' (zab (zap 1 zah) zag)) zag) (hlen := (zac zai))))
  (zad (zg2 (c := slC) (ns := slN.take 2) 0 (slN.take 3) (bn.oc.take 3) (zi6 zb1 hr (zab (zap 1 zah) zag) (hlen := (zac zai))))
  (zad (zg2 (c := slC) (ns := slN.take 3) 0 (slN.take 4) (bn.oc.take 4) (zi6 zb1 hr (zab (zap 1 zah) zag) (hlen := (zac zai))))
  (zad (ss_obDic (c := slC) (ns := slN.take 4) 0 slN bn.oc)
  (zad (zat 2 (zbJ 0 (zcq (ns := slN) (by decide +kernel) md_least_corner hr (zaa 0))) nd)
  (zaj (ziW bigF PassesOwn.never (st_isNot (zaa 2) se_non)
  (zad (zj7 (zi7 0 (c := slC) (ns := slN) (by decide +kernel) md_clear_cross hr (zab (zap 2 zah) (zab (zap 2 zah) zag)) (zcc (zac (zac zai)))))
  (zaj (zat 2 (zbJ 0 (zcq (ns:=slN) (by decide+kernel) md_least_corner hr (zaa 0))) nd)))))))))))
abbrev zbu:Stmt:=zdN (top 12) 7
def zcC:MS:=
 (sRet (m2 dIx (m2 dIx (m1 (dAt slC slN 0) (eVar 0)) (eVar 1)) (eKG (kAt slC slN (eVar 0)) (eVar 1))))
def zaP:List D->Option Sl:=fP 2 zcC
theorem zhv (h:MAtC K slC "slant_number" "Slant.slant_number" zbu):MV P w K mg base 1 slC "slant_number" (spP K 2 zaP):=
 mvP (N:=["self","r"]) (k:=0) (m:=zcC) h fun _ _ _ _ _ _ _ hr nd=>(zaj (zaU (zas (zas (zbE 0 bn.oc (zaa 0)) (zaa 1)) (zg8 (zgy 4 bn.oc (zaa 0)) (zaa 1)))))
abbrev zcL:Stmt:=top 13
def zcd:MT:=
 (tTru (m2 dNe (eVar 3) (eC (.int 0))))
def zcf:MS:=
 (sSeq (sSet 4 (m2 dMod (eVar 2) (eVar 3)))
  (sSeq (sSet 2 (eVar 3))
  (sSet 3 (eVar 4))))
def zcl:MS:=
 zeR zcd zcf bigF
def zb6:MS:=
 (sSeq (sSet 2 (mC dAbs (zaf (eVar 0) aNil)))
  (sSeq (sSet 3 (mC dAbs (zaf (eVar 1) aNil)))
  (sSeq zcl
  (zic 2))))
def zaV:List D->Option Sl:=fP 5 zb6
theorem zgp (h:FnAt K "common_divisor" zcL):FD P w K mg base 1 "common_divisor" (spP K 2 zaV):=
 fdP (N:=["number","other","first","second","left"]) (k:=0) (m:=zb6) X G h fun _ _ _ _ _ _ _ hr nd=>(zad (zat 2 (zkX bn.abs' (zab (zaa 0) zag)) nd)
  (zad (zat 3 (zkX bn.abs' (zab (zaa 1) zag)) nd)
  (zad (ziW bigF PassesOwn.never (zgh hr.units (zaa 3) zah)
  (zad (zat 4 (zgD (zaa 2) (zaa 3)) nd)
  (zad (zat 2 (zaa 3) nd)
  (zaj (zat 3 (zaa 4) nd)))))
  (zaj (zfg 2)))))
abbrev zh0:Stmt:=top 14
def zdh:MS:=
 (sRet (eTup (zaf (m2 zka (eVar 0) (eVar 2)) (zaf (m2 zka (eVar 1) (eVar 2)) aNil))))
def zgb:MS:=
 (sSeq (sSet 2 (zaY zaV (zaf (eVar 0) (zaf (eVar 1) aNil))))
  (sSeq (sIf (tTru (m2 dLt (eVar 1) (eC (.int 0))))
  (sSet 2 (m1 dNeg (eVar 2)))
  zdG)
  zdh))
def zbC:List D->Option Sl:=fP 3 zgb
theorem zkv (zbB:FD P w K mg base 1 "common_divisor" (spP K 2 zaV))(h:FnAt K "ratio_of" zh0):FD P w K mg base 2 "ratio_of" (spP K 2 zbC):=
 fdP (N:=["top","bottom","divisor"]) (k:=1) (m:=zgb) X G h fun _ _ _ _ _ _ _ hr nd=>(zad (zat 2 (zau zbB hr (zab (zaa 0) (zab (zaa 1) zag)) (hlen:=(zac (zac zai)))) nd)
  (zad (zdH (st_lt (zaa 1) zah)
  (zaj (zat 2 (zlB (zaa 2)) nd))
  za7)
  (zaj (zaU (zcu (zab (zhq (zaa 0) (zaa 2)) (zab (zhq (zaa 1) (zaa 2)) zag)))))))
abbrev zfN:Stmt:=top 15
def zd3:MS:=
 (sSeq (sSet 1 (m2 dAdd (m2 zhl (eVar 1) (eVar 4)) (m2 zhl (eVar 3) (eVar 2))))
  (sSet 2 (m2 zhl (eVar 2) (eVar 4))))
def zd5:MS:=
 sFor (iSeq (eVar 0)) (gT 2 (za5 (gN 3) (za5 (gN 4) zg0))) zd3
def zdX:MS:=
 (sSeq (sSet 1 (eC (.int 0)))
  (sSeq (sSet 2 (eC (.int 1)))
  (sSeq zd5
  (sRet (eTup (zaf (eVar 1) (zaf (eVar 2) aNil)))))))
def zbM:List D->Option Sl:=fP 5 zdX
theorem ziS (h:FnAt K "ratios_sum" zfN):FD P w K mg base 1 "ratios_sum" (spP K 1 zbM):=
 fdP (N:=["ratios","top","bottom","more","by"]) (k:=0) (m:=zdX) X G h fun _ _ _ _ _ _ _ hr nd=>(zad (zat 1 zah nd)
  (zad (zat 2 zah nd)
  (zad (zcz PassesOwn.never rfl (zba (zaa 0)) (ze0 rfl (zaF (zak 3 nd) (zaF (zak 4 nd) zcE)))
  (zad (zat 1 (zbz (zdf (zaa 1) (zaa 4)) (zdf (zaa 3) (zaa 2))) nd)
  (zaj (zat 2 (zdf (zaa 2) (zaa 4)) nd))))
  (zaj (zaU (zcu (zab (zaa 1) (zab (zaa 2) zag))))))))
abbrev zcj:Stmt:=top 16
def zbP:MT:=
 (tTru (m2 dEq (m2 dMod (eVar 0) (eVar 1)) (eC (.int 0))))
def zbZ:MS:=
 (znc 1 (fun i j=>i+j) (eC (.int 1)))
def zbV:MS:=
 zeR zbP zbZ bigF
def zbv:MS:=
 (sSeq (sSet 1 (eC (.int 2)))
  (sSeq zbV
  (zic 1)))
def zaN:List D->Option Sl:=fP 2 zbv
theorem zfe (h:FnAt K "least_no_divisor" zcj):FD P w K mg base 1 "least_no_divisor" (spP K 1 zaN):=
 fdP (N:=["number","by"]) (k:=0) (m:=zbv) X G h fun _ _ _ _ _ _ _ hr nd=>(zad (zat 1 zah nd)
  (zad (ziW bigF PassesOwn.never (zmx hr.units (zgD (zaa 0) (zaa 1)) zah)
  (zaj (znz 1 zah nd)))
  (zaj (zfg 1))))
abbrev zij:Stmt:=top 17
def zgQ:ME:=
 (zaY zbC (zaf (eVar 1) (zaf (eVar 0) aNil)))
def zgB:MO:=
 oLC [1] 1 (iSeq (eVar 0)) (gN 1) zbb zgQ
def zhI:MS:=
 (sRet (eTup (zaf (eC (.str "none")) (zaf (mC zbW (zaf (eFz zgB) aNil)) aNil))))
def zcT:List D->Option Sl:=fP 2 zhI
theorem zmL (zbF:FD P w K mg base 2 "ratio_of" (spP K 2 zbC))(h:FnAt K "none_by" zij):FD P w K mg base 3 "none_by" (spP K 2 zcT):=
 fdP (N:=["weights","bottom"]) (k:=2) (m:=zhI) X G h fun _ _ _ _ _ _ _ hr nd=>(zaj (zaU (zcu (zab se_str (zab (zb7 bn.tuple' (zab (SO.se (zbD [1] 1 ["bottom","weight"] rfl (zba (zaa 0)) (fun C s H fp=>(zak 1 ndk)) (fun C s H fp=>zaA) (fun C s H fp=>(zau zbF hr (zab (zaa 1) (zab (zaa 0) zag)) (hlen:=(zac (zac zai))))))) zag)) zag)))))
abbrev zj6:Stmt:=top 18
def zhD:MS:=
 (sSet 2 (zaY zaI (zaf (eVar 2) (zaf (m2 dIx (m1 (dAt slC slN 2) (eVar 1)) (eKG (kAt slC slN (eVar 1)) (eVar 3))) (zaf (m1 dNeg (m2 zka (eVar 5) (eVar 6))) aNil)))))
def zhM:MS:=
 (sSeq (sSet 5 (zaY za9 (zaf (eVar 4) (zaf (eIxV 0 (eC (.int 2))) aNil))))
  (sIf (tKI false (eVar 3) (kAt slC slN (eVar 1)))
  (sSeq (sSet 6 (zcs zaP slC slN (eVar 1) (zaf (eVar 3) aNil)))
  (sSeq (sIf (tTru (m2 dNe (m2 dModF (eVar 5) (eVar 6)) (eC (.int 0))))
  (sRet (zaY zcT (zaf (eVar 4) (zaf (eVar 6) aNil))))
  zdG)
  zhD))
  (sIf (tTru (m2 dNe (eVar 5) (eC (.int 0))))
  (sRet (zaY zcT (zaf (eVar 4) (zaf (zaY zaN (zaf (eVar 5) aNil)) aNil))))
  zdG)))
def zhL:MS:=
 sFor (iEn (zaf (m1 (dAt slC slN 1) (eVar 1)) aNil)) (gT 2 (za5 (gN 3) (za5 (gN 4) zg0))) zhM
def zjd:MS:=
 (sSeq (sMkO 1 slC slN zbA (zaf (eVar 0) aNil))
  (sSeq (sSet 2 (m2 dMul (eFz (oLst (zaf (eC (.int 0)) aNil))) (eIxV 0 (eC (.int 0)))))
  (sSeq zhL
  (sRet (eTup (zaf (eC (.str "row")) (zaf (mC zbW (zaf (eVar 2) aNil)) aNil)))))))
def zfv:List D->Option Sl:=fP 7 zjd
theorem zox (md___init__:MkO P w K mg base 4 slC (spG K 2 zbA))(zbc:FD P w K mg base 1 "least_no_divisor" (spP K 1 zaN))(zej:FD P w K mg base 3 "none_by" (spP K 2 zcT))(zco:FD P w K mg base 1 "products_sum" (spP K 2 za9))(md_slant_number:MV P w K mg base 1 slC "slant_number" (spP K 2 zaP))(zaE:FD P w K mg base 1 "taken_off" (spP K 3 zaI))(h:FnAt K "solved" zj6):FD P w K mg base 6 "solved" (spP K 1 zfv):=
 fdP (N:=["telling","slant","row","r","weights","total","number"]) (k:=5) (m:=zjd) X G h fun _ _ _ _ _ _ _ hr nd=>(zad (ss_mkO 1 (c:=slC) (ns:=slN) md___init__ hr (zab (zaa 0) zag) (zcc (zac zai)) nd)
  (zad (zat 2 (zbL (SO.se (zed (zab zah zag))) (zap 0 zah)) nd)
  (zad (zcz PassesOwn.never rfl (ziU bn.enumerate' (zab (zbE 1 bn.oc (zaa 1)) zag)) (ze0 rfl (zaF (zak 3 nd) (zaF (zak 4 nd) zcE)))
  (zad (zat 5 (zau zco hr (zab (zaa 4) (zab (zap 0 zah) zag)) (hlen := (zac (zac zai)))) nd)
  (zaj (zdH (st_dkIn (zaa 3) (zgy 4 bn.oc (zaa 1)))
  (zad (zat 6 (zlD (ns := slN) (by decide +kernel) md_slant_number hr (zaa 1) (zab (zaa 3) zag) (hlen := zcc (zac zai))) nd)
  (zad (zdH (zgh hr.units (se_modF (zaa 5) (zaa 6)) zah)
  (zaj (zaU (zau zej hr (zab (zaa 4) (zab (zaa 6) zag)) (hlen:=(zac (zac zai))))))
  za7)
  (zaj (zat 2 (zau zaE hr (zab (zaa 2) (zab (zas (zbE 2 bn.oc (zaa 1)) (zg8 (zgy 4 bn.oc (zaa 1)) (zaa 3))) (zab (zlB (zhq (zaa 5) (zaa 6))) zag))) (hlen:=(zac (zac (zac zai))))) nd))))
  (zaj (zdH (zgh hr.units (zaa 5) zah)
  (zaj (zaU (zau zej hr (zab (zaa 4) (zab (zau zbc hr (zab (zaa 5) zag) (hlen:=(zac zai))) zag)) (hlen:=(zac (zac zai))))))
  za7))))))
  (zaj (zaU (zcu (zab se_str (zab (zb7 bn.tuple' (zab (zaa 2) zag)) zag))))))))
abbrev zhC:Stmt:=top 20
def zfU:MS:=
 (sSeq (sSet 5 (m2 dIx (m2 dIx (m1 (dAt slC slN 2) (eVar 0)) (eKG (kAt slC slN (eVar 0)) (eVar 4))) (eVar 1)))
  (sApp 3 (eTup (zaf (m2 zhl (eVar 5) (m2 dIx (m2 dIx (m1 (dAt slC slN 1) (eVar 0)) (eVar 4)) (eVar 2))) (zaf (zcs zaP slC slN (eVar 0) (zaf (eVar 4) aNil)) aNil)))))
def zfO:MS:=
 sFor (iKN (kAt slC slN (eVar 0))) (gN 4) zfU
def zgk:MS:=
 (sSeq (zju 3 (oLst aNil))
  (sSeq zfO
  (sSeq (sSet 6 (zaY zbM (zaf (eVar 3) aNil)))
  (sRet (zaY zbC (zaf (eIxV 6 (eC (.int 0))) (zaf (eIxV 6 (eC (.int 1))) aNil)))))))
def zc4:List D->Option Sl:=fP 7 zgk
theorem zkM (zbF:FD P w K mg base 2 "ratio_of" (spP K 2 zbC))(zdq:FD P w K mg base 1 "ratios_sum" (spP K 1 zbM))(md_slant_number:MV P w K mg base 1 slC "slant_number" (spP K 2 zaP))(h:FnAt K "share_of" zhC):FD P w K mg base 3 "share_of" (spP K 3 zc4):=
 fdP (N:=["slant","place","number","parts","r","times","total"]) (k:=2) (m:=zgk) X G h fun _ _ _ _ _ _ _ hr nd=>(zad (zgg 3 (zed zag) nd)
  (zad (zcz PassesOwn.never rfl (it_dk (zgy 4 bn.oc (zaa 0))) (zak 4 nd)
  (zad (zat 5 (zas (zas (zbE 2 bn.oc (zaa 0)) (zg8 (zgy 4 bn.oc (zaa 0)) (zaa 4))) (zaa 1)) nd)
  (zaj (zlp 3 (zcu (zab (zdf (zaa 5) (zas (zas (zbE 1 bn.oc (zaa 0)) (zaa 4)) (zaa 2))) (zab (zlD (ns:=slN) (by decide+kernel) md_slant_number hr (zaa 0) (zab (zaa 4) zag) (hlen:=zcc (zac zai))) zag)))))))
  (zad (zat 6 (zau zdq hr (zab (zaa 3) zag) (hlen := (zac zai))) nd)
  (zaj (zaU (zau zbF hr (zab (zap 6 zah) (zab (zap 6 zah) zag)) (hlen:=(zac (zac zai)))))))))
abbrev zgu:Stmt:=top 21
def zew:ME:=
 (zaY zc4 (zaf (eVar 0) (zaf (eVar 1) (zaf (eVar 2) aNil))))
def zeD:MO:=
 oLC [0,1] 1 (iR1 (zaf (mC dLen (zaf (m1 (dAt slC slN 1) (eVar 0)) aNil)) aNil)) (gN 2) zbb zew
def ze6:MS:=
 (sRet (mC zbW (zaf (eFz zeD) aNil)))
def zcb:List D->Option Sl:=fP 2 ze6
theorem zjf (zfp:FD P w K mg base 3 "share_of" (spP K 3 zc4))(h:FnAt K "shares_of" zgu):FD P w K mg base 4 "shares_of" (spP K 2 zcb):=
 fdP (N:=["slant","place"]) (k:=3) (m:=ze6) X G h fun _ _ _ _ _ _ _ hr nd=>(zaj (zaU (zb7 bn.tuple' (zab (SO.se (zbD [0,1] 1 ["slant","place","number"] rfl (zaD bn.range' (zab (zjX bn.len' (zab (zbE 1 bn.oc (zaa 0)) zag)) zag)) (fun C s H fp=>(zak 2 ndk)) (fun C s H fp=>zaA) (fun C s H fp=>(zau zfp hr (zab (zaa 0) (zab (zaa 1) (zab (zaa 2) zag))) (hlen:=(zac (zac (zac zai)))))))) zag))))
abbrev ziB:Stmt:=top 22
def zgs:ME:=
 (m2 dIx (m1 (dAt slC slN 2) (eVar 0)) (eVar 1))
def zgO:MO:=
 oLC [1] 1 (iSeq (eVar 2)) (gN 1) zbb zgs
def zgG:ME:=
 (m2 dIx (m1 (dAt slC slN 3) (eVar 0)) (eVar 1))
def zgS:MO:=
 oLC [1] 1 (iSeq (eVar 2)) (gN 1) zbb zgG
def zgH:ME:=
 (zaY zcb (zaf (eVar 0) (zaf (eVar 1) aNil)))
def zgC:MO:=
 oLC [1] 1 (iR1 (zaf (eIxV 0 (eC (.int 0))) aNil)) (gN 1) zbb zgH
def zhh:MS:=
 (sSeq (sMkO 1 slC slN zbA (zaf (eVar 0) aNil))
  (sSeq (sSet 2 (zcs zaB slC slN (eVar 1) aNil))
  (sSeq (sSet 3 (zaY zbH (zaf (eFz zgO) aNil)))
  (sSeq (sSet 4 (zaY zbH (zaf (eFz zgS) aNil)))
  (sRet (eTup (zaf (eVar 3) (zaf (eVar 4) (zaf (mC zbW (zaf (eFz zgC) aNil)) aNil)))))))))
def zdY:List D->Option Sl:=fP 5 zhh
theorem zmr (md___init__:MkO P w K mg base 4 slC (spG K 2 zbA))(zcr:FD P w K mg base 1 "in_tuples" (spP K 1 zbH))(md_open_columns:MV P w K mg base 1 slC "open_columns" (spP K 1 zaB))(zdZ:FD P w K mg base 4 "shares_of" (spP K 2 zcb))(h:FnAt K "base_of" ziB):FD P w K mg base 6 "base_of" (spP K 1 zdY):=
 fdP (N:=["telling","slant","columns","base","back"]) (k:=5) (m:=zhh) X G h fun _ _ _ _ _ _ _ hr nd=>(zad (ss_mkO 1 (c:=slC) (ns:=slN) md___init__ hr (zab (zaa 0) zag) (zcc (zac zai)) nd)
  (zad (zat 2 (zcq (ns := slN) (by decide +kernel) md_open_columns hr (zaa 1)) nd)
  (zad (zat 3 (zau zcr hr (zab (SO.se (zbD [1] 1 ["slant", "c"] rfl (zba (zaa 2)) (fun C s H fp => (zak 1 ndk)) (fun C s H fp => zaA) (fun C s H fp => (zas (zbE 2 bn.oc (zaa 0)) (zaa 1))))) zag) (hlen := (zac zai))) nd)
  (zad (zat 4 (zau zcr hr (zab (SO.se (zbD [1] 1 ["slant", "c"] rfl (zba (zaa 2)) (fun C s H fp => (zak 1 ndk)) (fun C s H fp => zaA) (fun C s H fp => (zas (zbE 3 bn.oc (zaa 0)) (zaa 1))))) zag) (hlen := (zac zai))) nd)
  (zaj (zaU (zcu (zab (zaa 3) (zab (zaa 4) (zab (zb7 bn.tuple' (zab (SO.se (zbD [1] 1 ["slant","place"] rfl (zaD bn.range' (zab (zap 0 zah) zag)) (fun C s H fp=>(zak 1 ndk)) (fun C s H fp=>zaA) (fun C s H fp=>(zau zdZ hr (zab (zaa 0) (zab (zaa 1) zag)) (hlen:=(zac (zac zai))))))) zag)) zag))))))))))
abbrev zhz:Stmt:=top 24
def zfP:MS:=
 (sSeq (sSet 4 (m2 dMod (m2 dAdd (m2 dAdd (m2 dMul (eVar 4) (eC (.int 48271))) (m2 dMul (eC (.int 7919)) (eVar 5))) (eC (.int 104729))) (eC (.int 2147483647))))
  (sSet 3 (m2 dAdd (m2 dMul (eVar 3) (eC (.int 1048576))) (m2 dMod (m2 dDiv (m2 dMod (m2 dMul (eVar 4) (eVar 4)) (eC (.int 2147483629))) (eC (.int 128))) (eC (.int 1048576))))))
def zfM:MS:=
 sFor (iR1 (zaf (eC (.int 50)) aNil)) (gN 5) zfP
def zfw:MS:=
 (sSeq (sSet 3 (eC (.int 0)))
  (sSeq (sSet 4 (m2 dAdd (m2 dAdd (m2 dMod (eVar 2) (eC (.int 2147483647))) (m2 dMul (eC (.int 271)) (eVar 1))) (eC (.int 65537))))
  (sSeq zfM
  (zhr (oLst (zaf (eVar 3) aNil))))))
def zdb:MS:=
 (sSeq (sIf (tTru (m2 dGe (eVar 2) (m2 dPow (eC (.int 10)) (eC (.int 18)))))
  (zhr (oLst (zaf (m2 dMod (m2 dSub (eVar 2) (m2 dPow (eC (.int 10)) (eC (.int 18)))) (m2 dMul (m2 dMul (m2 dMul (m2 dPow (eC (.int 10)) (eC (.int 60))) (m2 dPow (eC (.int 10)) (eC (.int 60)))) (m2 dPow (eC (.int 10)) (eC (.int 60)))) (m2 dPow (eC (.int 10)) (eC (.int 60))))) aNil)))
  zdG)
  zfw)
def zgo:MS:=
 (sSeq (sSet 2 (eC (.int 0)))
  (sSeq (sIf (tTru (m2 dLt (eVar 1) (zjY 0)))
  (sSet 2 (eIxV 0 (eVar 1)))
  zdG)
  zdb))
def zcN:List D->Option Sl:=fP 6 zgo
theorem zkL (h:FnAt K "_law_pot" zhz):FD P w K mg base 1 "_law_pot" (spP K 2 zcN):=
 fdP (N:=["script","k","cell","great","one","turn"]) (k:=0) (m:=zgo) X G h fun _ _ _ _ _ _ _ hr nd=>(zad (zat 2 zah nd)
  (zad (zdH (st_lt (zaa 1) (zhY 0 bn.len'))
  (zaj (zat 2 (zap 0 (zaa 1)) nd))
  za7)
  (zad (zdH (st_ge (zaa 2) (zeI zah zah))
  (zaj (zdj (zed (zab (zgD (zee (zaa 2) (zeI zah zah)) (zbL (zbL (zbL (zeI zah zah) (zeI zah zah)) (zeI zah zah)) (zeI zah zah))) zag))))
  za7)
  (zad (zat 3 zah nd)
  (zad (zat 4 (zbz (zbz (zgD (zaa 2) zah) (zbL zah (zaa 1))) zah) nd)
  (zad (zcz PassesOwn.never rfl (zaD bn.range' (zab zah zag)) (zak 5 nd)
  (zad (zat 4 (zgD (zbz (zbz (zbL (zaa 4) zah) (zbL zah (zaa 5))) zah) zah) nd)
  (zaj (zat 3 (zbz (zbL (zaa 3) zah) (zgD (se_div (zgD (zbL (zaa 4) (zaa 4)) zah) zah) zah)) nd))))
  (zaj (zdj (zed (zab (zaa 3) zag))))))))))
abbrev zgL:Stmt:=top 25
def zfm:MS:=
 (sSeq (sSet 2 (m2 dMod (eIxV 0 (eC (.int 0))) (eVar 1)))
  (sSeq (sPut 0 (eC (.int 0)) (m2 dDiv (eIxV 0 (eC (.int 0))) (eVar 1)))
  (zic 2)))
def zaq:List D->List D->Option (Sl×List D):=fM 3 zfm
theorem zjz (h:FnAt K "_law_take" zgL):FD P w K mg base 1 "_law_take" (spM K 2 zaq):=
 fdM (N:=["pot","many","digit"]) (k:=0) (m:=zfm) X G h fun _ _ _ _ _ _ _ hr nd=>(zad (zat 2 (zgD (zap 0 zah) (zaa 1)) nd)
  (zad (ss_put 0 (se_div (zap 0 zah) (zaa 1)) zah)
  (zaj (zfg 2))))
abbrev zhR:Stmt:=top 26
def zf3:MS:=
 (sIf (tTru (m2 dLt (eVar 2) (eC (.int 4))))
  (sApp 3 (m2 dSub (zbw zaq 0 (zaf (m2 dIx (eTup (zaf (eC (.int 2)) (zaf (eC (.int 10)) (zaf (eC (.int 11)) (zaf (m2 dPow (eC (.int 10)) (eC (.int 6))) aNil))))) (eVar 2)) aNil)) (m2 dIx (eTup (zaf (eC (.int 0)) (zaf (eC (.int 0)) (zaf (eC (.int 5)) (zaf (eC (.int 0)) aNil))))) (eVar 2))))
  (sSeq (sSet 5 (m2 dAdd (m2 dMul (m2 dPow (eC (.int 10)) (eC (.int 57))) (zbw zaq 0 (zaf (eC (.int 80)) aNil))) (zbw zaq 0 (zaf (m2 dPow (eC (.int 10)) (eC (.int 6))) aNil))))
  (sApp 3 (m2 dIx (eTup (zaf (eVar 5) (zaf (m1 dNeg (eVar 5)) (zaf (zbw zaq 0 (zaf (eC (.int 3)) aNil)) aNil)))) (zbw zaq 0 (zaf (eC (.int 3)) aNil))))))
def zfS:MS:=
 sFor (iR1 (zaf (eVar 1) aNil)) (gN 4) zf3
def zga:MS:=
 (sSeq (sSet 2 (zbw zaq 0 (zaf (eC (.int 5)) aNil)))
  (sSeq (zju 3 (oLst aNil))
  (sSeq zfS
  (zic 3))))
def zcO:List D->List D->Option (Sl×List D):=fM 6 zga
theorem zkz (zam:FD P w K mg base 1 "_law_take" (spM K 2 zaq))(h:FnAt K "_law_row" zhR):FD P w K mg base 2 "_law_row" (spM K 2 zcO):=
 fdM (N:=["pot","many","way","row","place","far"]) (k:=1) (m:=zga) X G h fun _ _ _ _ _ _ _ hr nd=>(zad (zat 2 (zaS 0 zam hr (zab zah zag) (zcc (zac zai))) nd)
  (zad (zgg 3 (zed zag) nd)
  (zad (zcz PassesOwn.never rfl (zaD bn.range' (zab (zaa 1) zag)) (zak 4 nd)
  (zaj (zdH (st_lt (zaa 2) zah)
  (zaj (zlp 3 (zee (zaS 0 zam hr (zab (zas (zcu (zab zah (zab zah (zab zah (zab (zeI zah zah) zag))))) (zaa 2)) zag) (zcc (zac zai))) (zas (zcu (zab zah (zab zah (zab zah (zab zah zag))))) (zaa 2)))))
  (zad (zat 5 (zbz (zbL (zeI zah zah) (zaS 0 zam hr (zab zah zag) (zcc (zac zai)))) (zaS 0 zam hr (zab (zeI zah zah) zag) (zcc (zac zai)))) nd)
  (zaj (zlp 3 (zas (zcu (zab (zaa 5) (zab (zlB (zaa 5)) (zab (zaS 0 zam hr (zab zah zag) (zcc (zac zai))) zag)))) (zaS 0 zam hr (zab zah zag) (zcc (zac zai))))))))))
  (zaj (zfg 3)))))
abbrev zgz:Stmt:=top 27
def zeL:ME:=
 (eVar 1)
def zeP:MT:=
 (tTru (m2 dEq (m2 dAnd (m2 dShr (eVar 0) (eVar 1)) (eC (.int 1))) (eC (.int 1))))
def ze2:MO:=
 oLC [5] 1 (iR1 (zaf (eVar 1) aNil)) (gN 1) zeP zeL
def zeO:ME:=
 (eVar 1)
def zeG:MT:=
 (tTru (m2 dLt (mC dAbs (zaf (m2 dSub (eVar 1) (eVar 0)) aNil)) (eC (.int 2))))
def zez:MO:=
 oLC [6] 1 (iR1 (zaf (eVar 1) aNil)) (gN 1) zeG zeO
def zcD:MS:=
 (sApp 2 (mC zbW (zaf (eVar 7) aNil)))
def zcA:MS:=
 (sSeq (sIf (tTru (m2 dEq (eVar 3) (eC (.int 2))))
  (sSet 7 (eFz zez))
  zdG)
  zcD)
def zeW:MS:=
 (sSeq (sSet 5 (m2 dAdd (eC (.int 1)) (zbw zaq 0 (zaf (m2 dSub (m2 dShl (eC (.int 1)) (eVar 1)) (eC (.int 1))) aNil))))
  (sSeq (sSet 6 (zbw zaq 0 (zaf (eVar 1) aNil)))
  (sSeq (sSet 7 (eFz ze2))
  (sSeq (sIf (tTru (m2 dEq (eVar 3) (eC (.int 1))))
  (sSet 7 (eFz (oR (iR2 (zaf (eVar 6) (zaf (mC (d2I min2) (zaf (eVar 1) (zaf (m2 dAdd (m2 dAdd (eVar 6) (eC (.int 2))) (zbw zaq 0 (zaf (eC (.int 2)) aNil))) aNil))) aNil))))))
  zdG)
  zcA))))
def zeU:MS:=
 sFor (iR1 (zaf (m2 dAdd (eC (.int 1)) (zbw zaq 0 (zaf (eC (.int 7)) aNil))) aNil)) (gN 4) zeW
def zfd:MS:=
 (sSeq (zju 2 (oLst aNil))
  (sSeq (sSet 3 (zbw zaq 0 (zaf (eC (.int 3)) aNil)))
  (sSeq zeU
  (zic 2))))
def zce:List D->List D->Option (Sl×List D):=fM 8 zfd
theorem zj4 (zam:FD P w K mg base 1 "_law_take" (spM K 2 zaq))(h:FnAt K "_law_sets" zgz):FD P w K mg base 2 "_law_sets" (spM K 2 zce):=
 fdM (N:=["pot","many","sets","way","turn","code","first","some"]) (k:=1) (m:=zfd) X G h fun _ _ _ _ _ _ _ hr nd=>(zad (zgg 2 (zed zag) nd)
  (zad (zat 3 (zaS 0 zam hr (zab zah zag) (zcc (zac zai))) nd)
  (zad (zcz PassesOwn.never rfl (zaD bn.range' (zab (zbz zah (zaS 0 zam hr (zab zah zag) (zcc (zac zai)))) zag)) (zak 4 nd)
  (zad (zat 5 (zbz zah (zaS 0 zam hr (zab (zee (se_shl zah (zaa 1)) zah) zag) (zcc (zac zai)))) nd)
  (zad (zat 6 (zaS 0 zam hr (zab (zaa 1) zag) (zcc (zac zai))) nd)
  (zad (zdU 7 [5] 1 ["code", "place"] rfl (zaD bn.range' (zab (zaa 1) zag)) (fun C s H fp => (zak 1 ndk)) (fun C s H fp => (zd8 (zmx hr.units (ziD (se_shr (zaa 0) (zaa 1)) zah) zah))) (fun C s H fp => (zaa 1)) nd)
  (zad (zdH (zmx hr.units (zaa 3) zah)
  (zaj (zat 7 (SO.se (zn9 bn.list' bn.range' (zab (zaa 6) (zab (zm5 rfl bn.min' (zab (zaa 1) (zab (zbz (zbz (zaa 6) zah) (zaS 0 zam hr (zab zah zag) (zcc (zac zai)))) zag))) zag)))) nd))
  za7)
  (zad (zdH (zmx hr.units (zaa 3) zah)
  (zaj (zdU 7 [6] 1 ["first","place"] rfl (zaD bn.range' (zab (zaa 1) zag)) (fun C s H fp=>(zak 1 ndk)) (fun C s H fp=>(zd8 (st_lt (zkX bn.abs' (zab (zee (zaa 1) (zaa 0)) zag)) zah))) (fun C s H fp=>(zaa 1)) nd))
  za7)
  (zaj (zlp 2 (zb7 bn.tuple' (zab (zaa 7) zag))))))))))
  (zaj (zfg 2)))))
abbrev zfs:Stmt:=top 28
def zeg:ME:=
 (m2 zhl (eVar 0) (eVar 1))
def zdP:MO:=
 oLC [] 2 (iZ2 (zaf (eVar 0) (zaf (eVar 1) aNil))) (gT 2 (za5 (gN 0) (za5 (gN 1) zg0))) zbb zeg
def zdJ:MS:=
 (sRet (mC dSum (zaf (eFz zdP) aNil)))
def zbU:List D->Option Sl:=fP 2 zdJ
theorem ziV (h:FnAt K "_law_added" zfs):FD P w K mg base 1 "_law_added" (spP K 2 zbU):=
 fdP (N:=["one","other"]) (k:=0) (m:=zdJ) X G h fun _ _ _ _ _ _ _ hr nd=>(zaj (zaU (znK rfl bn.sum' (zab (SO.se (zbD [] 2 ["a","b"] rfl (zdi bn.zip' (zab (zaa 0) (zab (zaa 1) zag))) (fun C s H fp=>(ze0 rfl (zaF (zak 0 ndk) (zaF (zak 1 ndk) zcE)))) (fun C s H fp=>zaA) (fun C s H fp=>(zdf (zaa 0) (zaa 1))))) zag))))
abbrev zgA:Stmt:=top 29
def zeX:ME:=
 (eFz (oC zaG (zaf (eVar 0) aNil)))
def zeJ:MO:=
 oLC [] 1 (iSeq (eVar 0)) (gN 0) zbb zeX
def zet:ME:=
 (eVar 2)
def zeB:MT:=
 (tTru (m2 dNe (m2 dIx (eIxV 0 (eVar 2)) (eVar 1)) (eC (.int 0))))
def zey:MO:=
 oLCM [2,4] 1 0 2 (iR2 (zaf (eVar 3) (zaf (zjY 2) aNil))) (gN 2) zeB zet
def zeC:ME:=
 (m2 dSub (m2 dMul (eVar 0) (eVar 3)) (m2 dMul (eIxV 1 (eVar 2)) (eVar 4)))
def zeZ:MO:=
 oLC [6,9,4] 2 (iZ2 (zaf (eVar 9) (zaf (eVar 7) aNil))) (gT 2 (za5 (gN 3) (za5 (gN 4) zg0))) zbb zeC
def zeF:MS:=
 (sSeq (sSet 9 (eIxV 2 (eVar 8)))
  (sPut 2 (eVar 8) (eFz zeZ)))
def zev:MS:=
 sFor (iR2 (zaf (m2 dAdd (eVar 3) (eC (.int 1))) (zaf (zjY 2) aNil))) (gN 8) zeF
def zeQ:MS:=
 (sSeq (sSet 5 (eFz zey))
  (sIf (tTru (m2 dNe (eVar 5) (eFz (oLst aNil))))
  (sSeq (sAsg (eTup (zaf (eIxV 2 (eIxV 5 (eC (.int 0)))) (zaf (eIxV 2 (eVar 3)) aNil))) (gT 2 (za5 (gS 2 (eVar 3)) (za5 (gS 2 (eIxV 5 (eC (.int 0)))) zg0))))
  (sSeq (sSet 6 (m2 dIx (eIxV 2 (eVar 3)) (eVar 4)))
  (sSeq (sSet 7 (eIxV 2 (eVar 3)))
  (sSeq zev
  (sSet 3 (m2 dAdd (eVar 3) (eC (.int 1))))))))
  zdG))
def zeu:MS:=
 sFor (iR1 (zaf (eVar 1) aNil)) (gN 4) zeQ
def zfi:MS:=
 (sSeq (zju 2 zeJ)
  (sSeq (sSet 3 (eC (.int 0)))
  (sSeq zeu
  (zic 3))))
def zcp:List D->Option Sl:=fP 10 zfi
theorem zjk (h:FnAt K "_law_rank" zgA):FD P w K mg base 1 "_law_rank" (spP K 2 zcp):=
 fdP (N:=["rows","many","left","rank","place","some","first","top","at","low"]) (k:=0) (m:=zfi) X G h fun _ _ _ _ _ _ _ hr nd=>(zad (zgg 2 (zbD [] 1 ["row"] rfl (zba (zaa 0)) (fun C s H fp=>(zak 0 ndk)) (fun C s H fp=>zaA) (fun C s H fp=>(SO.se (zf5 bn.list' (zab (zaa 0) zag))))) nd)
  (zad (zat 3 zah nd)
  (zad (zcz PassesOwn.never rfl (zaD bn.range' (zab (zaa 1) zag)) (zak 4 nd)
  (zad (zir 5 [2, 4] 1 0 2 ["left", "place", "at"] rfl (zjw bn.range' (zab (zaa 3) (zab (zhY 2 bn.len') zag))) (fun C s H fp => (zak 2 ndk)) (fun C s H fp => (zd8 (zgh hr.units (zas (zap 0 (zaa 2)) (zaa 1)) zah))) (fun C s H fp => (zaa 2)) nd)
  (zaj (zdH (zgh hr.units (zaa 5) (SO.se (zed zag)))
  (zad (ss_asg (zcu (zab (zap 2 (zap 5 zah)) (zab (zap 2 (zaa 3)) zag))) (ze0 rfl (zaF (sg_sub 2 (zaa 3)) (zaF (sg_sub 2 (zap 5 zah)) zcE))))
  (zad (zat 6 (zas (zap 2 (zaa 3)) (zaa 4)) nd)
  (zad (zat 7 (zap 2 (zaa 3)) nd)
  (zad (zcz PassesOwn.never rfl (zjw bn.range' (zab (zbz (zaa 3) zah) (zab (zhY 2 bn.len') zag))) (zak 8 nd)
  (zad (zat 9 (zap 2 (zaa 8)) nd)
  (zaj (ss_put 2 (SO.se (zbD [6,9,4] 2 ["first","low","place","a","b"] rfl (zdi bn.zip' (zab (zaa 9) (zab (zaa 7) zag))) (fun C s H fp=>(ze0 rfl (zaF (zak 3 ndk) (zaF (zak 4 ndk) zcE)))) (fun C s H fp=>zaA) (fun C s H fp=>(zee (zbL (zaa 0) (zaa 3)) (zbL (zap 1 (zaa 2)) (zaa 4)))))) (zaa 8)))))
  (zaj (zat 3 (zbz (zaa 3) zah) nd))))))
  za7))))
  (zaj (zfg 3)))))
abbrev zgN:Stmt:=top 30
def zeM:ME:=
 (m2 dAdd (eVar 1) (m2 zhl (eVar 0) (eVar 2)))
def zeq:MO:=
 oLC [5] 2 (iZ2 (zaf (eVar 3) (zaf (eVar 4) aNil))) (gT 2 (za5 (gN 1) (za5 (gN 2) zg0))) zbb zeM
def zeH:MS:=
 (sSet 3 (eFz zeq))
def zeY:MS:=
 sFor (iZ2 (zaf (eVar 1) (zaf (eVar 2) aNil))) (gT 2 (za5 (gN 4) (za5 (gN 5) zg0))) zeH
def zff:MS:=
 (sSeq (sSet 3 (eFz (oC zaG (zaf (eVar 0) aNil))))
  (sSeq zeY
  (zic 3)))
def za3:List D->Option Sl:=fP 6 zff
theorem zjh (h:FnAt K "_law_made" zgN):FD P w K mg base 1 "_law_made" (spP K 3 za3):=
 fdP (N:=["row","base","often","made","line","number"]) (k:=0) (m:=zff) X G h fun _ _ _ _ _ _ _ hr nd=>(zad (zat 3 (SO.se (zf5 bn.list' (zab (zaa 0) zag))) nd)
  (zad (zcz PassesOwn.never rfl (zdi bn.zip' (zab (zaa 1) (zab (zaa 2) zag))) (ze0 rfl (zaF (zak 4 nd) (zaF (zak 5 nd) zcE)))
  (zaj (zdU 3 [5] 2 ["number","a","b"] rfl (zdi bn.zip' (zab (zaa 3) (zab (zaa 4) zag))) (fun C s H fp=>(ze0 rfl (zaF (zak 1 ndk) (zaF (zak 2 ndk) zcE)))) (fun C s H fp=>zaA) (fun C s H fp=>(zbz (zaa 1) (zdf (zaa 0) (zaa 2)))) nd)))
  (zaj (zfg 3))))
abbrev zgE:Stmt:=top 31
def zeN:ME:=
 (m2 dSub (eVar 0) (eVar 1))
def zeV:MO:=
 oLC [] 2 (iZ2 (zaf (eVar 0) (zaf (eVar 1) aNil))) (gT 2 (za5 (gN 0) (za5 (gN 1) zg0))) zbb zeN
def zeS:ME:=
 (zaY zbU (zaf (eVar 2) (zaf (eFz zeV) aNil)))
def zes:MO:=
 oLC [1,2] 1 (iSeq (eIxV 0 (eC (.int 1)))) (gN 2) zbb zeS
def zfj:MS:=
 (zhr zes)
def za2:List D->Option Sl:=fP 3 zfj
theorem zjE (zc8:FD P w K mg base 1 "_law_added" (spP K 2 zbU))(h:FnAt K "_law_back" zgE):FD P w K mg base 2 "_law_back" (spP K 3 za2):=
 fdP (N:=["told","one","other"]) (k:=1) (m:=zfj) X G h fun _ _ _ _ _ _ _ hr nd=>(zaj (zdj (zbD [1,2] 1 ["one","other","line"] rfl (zba (zap 0 zah)) (fun C s H fp=>(zak 2 ndk)) (fun C s H fp=>zaA) (fun C s H fp=>(zau zc8 hr (zab (zaa 2) (zab (SO.se (zbD [] 2 ["a","b"] rfl (zdi bn.zip' (zab (zaa 0) (zab (zaa 1) zag))) (fun C s H fp=>(ze0 rfl (zaF (zak 0 ndk) (zaF (zak 1 ndk) zcE)))) (fun C s H fp=>zaA) (fun C s H fp=>(zee (zaa 0) (zaa 1))))) zag)) (hlen:=(zac (zac zai))))))))
abbrev zci:Stmt:=top 32
def zbT:ME:=
 (m2 dSub (m2 dAnd (m2 dShr (eVar 0) (m2 dMul (eC (.int 3)) (eVar 1))) (eC (.int 7))) (eC (.int 3)))
def zbY:MO:=
 oLC [3] 1 (iR1 (zaf (eVar 0) aNil)) (gN 1) zbb zbT
def zbN:MS:=
 (sSeq (sSet 4 (eFz zbY))
  (sSeq (sSet 5 (zaY za2 (zaf (eVar 2) (zaf (eVar 4) (zaf (m2 dMul (eFz (oLst (zaf (eC (.int 0)) aNil))) (eVar 0)) aNil)))))
  (sIf (zor (zmk (tTru (mC zmJ (zaf (zaY zbi (zaf (eFz (oC zaG (zaf (eVar 4) aNil))) (zaf (eVar 1) aNil))) aNil)))) (tTru (m2 dNe (zaY za3 (zaf (m2 dMul (eFz (oLst (zaf (eC (.int 0)) aNil))) (eVar 0)) (zaf (eIxV 2 (eC (.int 0))) (zaf (eVar 5) aNil)))) (eVar 4))))
  (sRet (eC (.bl false)))
  zdG)))
def zbS:MS:=
 sFor (iR1 (zaf (m2 dShl (eC (.int 1)) (m2 dMul (eC (.int 3)) (eVar 0))) aNil)) (gN 3) zbN
def zbR:MS:=
 (sSeq zbS
  (sRet (eC (.bl true))))
def zbn:MS:=
 (sSeq (sIf (tTru (m2 dGt (eVar 0) (eC (.int 3))))
  (sRet (eC (.bl true)))
  zdG)
  zbR)
def zaM:List D->Option Sl:=fP 6 zbn
theorem zfn (za4:FD P w K mg base 2 "_law_back" (spP K 3 za2))(za1:FD P w K mg base 1 "_law_made" (spP K 3 za3))(zbf:FD P w K mg base 2 "set_sums" (spP K 2 zbi))(h:FnAt K "_law_small_right" zci):FD P w K mg base 3 "_law_small_right" (spP K 3 zaM):=
 fdP (N:=["many","sets","told","code","row","often"]) (k:=2) (m:=zbn) X G h fun _ _ _ _ _ _ _ hr nd=>(zad (zdH (st_gt (zaa 0) zah)
  (zaj (zaU zji))
  za7)
  (zad (zcz PassesOwn.never rfl (zaD bn.range' (zab (se_shl zah (zbL zah (zaa 0))) zag)) (zak 3 nd)
  (zad (zdU 4 [3] 1 ["code", "place"] rfl (zaD bn.range' (zab (zaa 0) zag)) (fun C s H fp => (zak 1 ndk)) (fun C s H fp => zaA) (fun C s H fp => (zee (ziD (se_shr (zaa 0) (zbL zah (zaa 1))) zah) zah)) nd)
  (zad (zat 5 (zau za4 hr (zab (zaa 2) (zab (zaa 4) (zab (zbL (SO.se (zed (zab zah zag))) (zaa 0)) zag))) (hlen := (zac (zac (zac zai))))) nd)
  (zaj (zdH (STw.st (sw_and (zld (zg5 (zj8 rfl bn.any' (zab (zau zbf hr (zab (SO.se (zf5 bn.list' (zab (zaa 4) zag))) (zab (zaa 1) zag)) (hlen := (zac (zac zai)))) zag)))) (zng (zgh hr.units (zau za1 hr (zab (zbL (SO.se (zed (zab zah zag))) (zaa 0)) (zab (zap 2 zah) (zab (zaa 5) zag))) (hlen := (zac (zac (zac zai))))) (zaa 4)))))
  (zaj (zaU zji))
  za7)))))
  (zaj (zaU zji))))
abbrev zjV:Stmt:=top 33
def zi2:ME:=
 (m2 dMul (m2 dSub (zbw zaq 0 (zaf (eC (.int 9)) aNil)) (eC (.int 4))) (m2 dIx (eTup (zaf (eC (.int 1)) (zaf (eC (.int 1)) (zaf (m2 dPow (eC (.int 10)) (eC (.int 50))) aNil)))) (zbw zaq 0 (zaf (eC (.int 3)) aNil))))
def zli:MO:=
 oLCM [2] 1 0 2 (iSeq (eIxV 7 (eC (.int 0)))) (gN 1) zbb zi2
def zkU:ME:=
 (mC dInt (zaf (m2 dIn (eVar 1) (eVar 0)) aNil))
def zlF:MO:=
 oLC [1] 1 (iR1 (zaf (eVar 0) aNil)) (gN 1) zbb zkU
def zlJ:ME:=
 (eFz zlF)
def zk6:MO:=
 oLC [3] 1 (iSeq (eVar 4)) (gN 1) zbb zlJ
def zl1:MS:=
 (sIf (zmk (tTru (zaY zaM (zaf (eVar 3) (zaf (eVar 4) (zaf (eVar 7) aNil))))))
  (sRet (eC (.bl false)))
  zdG)
def zk5:MS:=
 (sSeq (sSet 11 (eFz zk6))
  (sSeq (sIf (tTru (m2 dNe (mC dLen (zaf (eIxV 7 (eC (.int 0))) aNil)) (m2 dSub (eVar 3) (zaY zcp (zaf (eVar 11) (zaf (eVar 3) aNil))))))
  (sRet (eC (.bl false)))
  zdG)
  zl1))
def zlr:MS:=
 (sSeq (sSet 10 (m2 dIx (zaY zfv (zaf (eTup (zaf (eVar 3) (zaf (eVar 4) (zaf (eVar 6) aNil)))) aNil)) (eC (.int 1))))
  (sSeq (sIf (tTru (m2 dNe (zaY za3 (zaf (eVar 5) (zaf (eIxV 7 (eC (.int 0))) (zaf (zaY za2 (zaf (eVar 7) (zaf (eVar 10) (zaf (eVar 5) aNil)))) aNil)))) (eFz (oC zaG (zaf (eVar 10) aNil)))))
  (sRet (eC (.bl false)))
  zdG)
  zk5))
def zle:MS:=
 (sSeq (zju 2 (zmt zcN (zaf (eVar 0) (zaf (eVar 1) aNil))))
  (sSeq (sSet 3 (m2 dAdd (eC (.int 1)) (zbw zaq 2 (zaf (eC (.int 7)) aNil))))
  (sSeq (sSet 4 (mC zbW (zaf (zbw zce 2 (zaf (eVar 3) aNil)) aNil)))
  (sSeq (sSet 5 (zbw zcO 2 (zaf (eVar 3) aNil)))
  (sSeq (sSet 6 (zaY zbi (zaf (eFz (oC zaG (zaf (eVar 5) aNil))) (zaf (eVar 4) aNil))))
  (sSeq (sSet 7 (zaY zdY (zaf (eTup (zaf (eVar 3) (zaf (eVar 4) (zaf (eVar 6) aNil)))) aNil)))
  (sSeq (sSet 8 (eFz zli))
  (sSeq (sSet 9 (zaY za3 (zaf (eVar 5) (zaf (eIxV 7 (eC (.int 0))) (zaf (eVar 8) aNil)))))
  (sSeq (sIf (tOrM (tTru (m2 dNe (zaY zbi (zaf (eFz (oC zaG (zaf (eVar 9) aNil))) (zaf (eVar 4) aNil))) (eVar 6))) (tTru (m2 dNe (zaY za2 (zaf (eVar 7) (zaf (eVar 9) (zaf (eVar 5) aNil)))) (eVar 8))))
  (sRet (eC (.bl false)))
  zdG)
  zlr)))))))))
def zk2:MS:=
 sFor (iR1 (zaf (mC (d2I max2) (zaf (eC (.int 1)) (zaf (mC (d2I min2) (zaf (zjY 0) (zaf (eC (.int 6)) aNil))) aNil))) aNil)) (gN 1) zle
def m_law:MS:=
 (sSeq zk2
  (sRet (eC (.bl true))))
def zjI:List D->Option Sl:=fP 12 m_law
theorem ok_law (za4:FD P w K mg base 2 "_law_back" (spP K 3 za2))(za1:FD P w K mg base 1 "_law_made" (spP K 3 za3))(zfl:FD P w K mg base 1 "_law_pot" (spP K 2 zcN))(zdS:FD P w K mg base 1 "_law_rank" (spP K 2 zcp))(zfo:FD P w K mg base 2 "_law_row" (spM K 2 zcO))(zdR:FD P w K mg base 2 "_law_sets" (spM K 2 zce))(zbh:FD P w K mg base 3 "_law_small_right" (spP K 3 zaM))(zam:FD P w K mg base 1 "_law_take" (spM K 2 zaq))(zgl:FD P w K mg base 6 "base_of" (spP K 1 zdY))(zbf:FD P w K mg base 2 "set_sums" (spP K 2 zbi))(zhB:FD P w K mg base 6 "solved" (spP K 1 zfv))(F:Fun K "law" "law" zjV f fd):FnOk P w K mg base CX0 7 f fd ["script"] (spP K 1 zjI):=
 lawP (N:=["script","cell","pot","many","sets","row","sums","told","often","made","other","lines"]) (k:=6) (n:=1) (m:=m_law) F fun _ _ _ _ _ _ _ hr nd=>(zad (zcz PassesOwn.never rfl (zaD bn.range' (zab (se_max2 rfl bn.max' (zab zah (zab (zm5 rfl bn.min' (zab (zhY 0 bn.len') (zab zah zag))) zag))) zag)) (zak 1 nd)
  (zad (zgg 2 (zi6 zfl hr (zab (zaa 0) (zab (zaa 1) zag)) (hlen := (zac (zac zai)))) nd)
  (zad (zat 3 (zbz zah (zaS 2 zam hr (zab zah zag) (zcc (zac zai)))) nd)
  (zad (zat 4 (zb7 bn.tuple' (zab (zaS 2 zdR hr (zab (zaa 3) zag) (zcc (zac zai))) zag)) nd)
  (zad (zat 5 (zaS 2 zfo hr (zab (zaa 3) zag) (zcc (zac zai))) nd)
  (zad (zat 6 (zau zbf hr (zab (SO.se (zf5 bn.list' (zab (zaa 5) zag))) (zab (zaa 4) zag)) (hlen := (zac (zac zai)))) nd)
  (zad (zat 7 (zau zgl hr (zab (zcu (zab (zaa 3) (zab (zaa 4) (zab (zaa 6) zag)))) zag) (hlen := (zac zai))) nd)
  (zad (zir 8 [2] 1 0 2 ["pot", "line"] rfl (zba (zap 7 zah)) (fun C s H fp => (zak 1 ndk)) (fun C s H fp => zaA) (fun C s H fp => (zbL (zee (zaS 0 zam hr (zab zah zag) (zcc (zac zai))) zah) (zas (zcu (zab zah (zab zah (zab (zeI zah zah) zag)))) (zaS 0 zam hr (zab zah zag) (zcc (zac zai)))))) nd)
  (zad (zat 9 (zau za1 hr (zab (zaa 5) (zab (zap 7 zah) (zab (zaa 8) zag))) (hlen := (zac (zac (zac zai))))) nd)
  (zad (zdH (STw.st (sw_or (zgh hr.units (zau zbf hr (zab (SO.se (zf5 bn.list' (zab (zaa 9) zag))) (zab (zaa 4) zag)) (hlen := (zac (zac zai)))) (zaa 6)) (sw_or1 (zgh hr.units (zau za4 hr (zab (zaa 7) (zab (zaa 9) (zab (zaa 5) zag))) (hlen := (zac (zac (zac zai))))) (zaa 8)))))
  (zaj (zaU zji))
  za7)
  (zad (zat 10 (zas (zau zhB hr (zab (zcu (zab (zaa 3) (zab (zaa 4) (zab (zaa 6) zag)))) zag) (hlen := (zac zai))) zah) nd)
  (zad (zdH (zgh hr.units (zau za1 hr (zab (zaa 5) (zab (zap 7 zah) (zab (zau za4 hr (zab (zaa 7) (zab (zaa 10) (zab (zaa 5) zag))) (hlen := (zac (zac (zac zai))))) zag))) (hlen := (zac (zac (zac zai))))) (SO.se (zf5 bn.list' (zab (zaa 10) zag))))
  (zaj (zaU zji))
  za7)
  (zad (zdU 11 [3] 1 ["many", "some"] rfl (zba (zaa 4)) (fun C s H fp => (zak 1 ndk)) (fun C s H fp => zaA) (fun C s H fp => (SO.se (zbD [1] 1 ["some", "place"] rfl (zaD bn.range' (zab (zaa 0) zag)) (fun C s H fp => (zak 1 ndk)) (fun C s H fp => zaA) (fun C s H fp => (se_intOf bn.int' (zab (se_in (zaa 1) (zaa 0)) zag)))))) nd)
  (zad (zdH (zgh hr.units (zjX bn.len' (zab (zap 7 zah) zag)) (zee (zaa 3) (zau zdS hr (zab (zaa 11) (zab (zaa 3) zag)) (hlen := (zac (zac zai))))))
  (zaj (zaU zji))
  za7)
  (zaj (zdH (zld (zg5 (zau zbh hr (zab (zaa 3) (zab (zaa 4) (zab (zaa 7) zag))) (hlen := (zac (zac (zac zai)))))))
  (zaj (zaU zji))
  za7))))))))))))))))
  (zaj (zaU zji)))
end
set_option maxHeartbeats 0 in
theorem all_mk {l:W.OpenLaw}{w:World}{K:W.Frag}{h:Heap}{mg:Str->Option Value}{fa:Addr}(X:K.In h)(G:h.Ns mainGlobals mg)(hfa:mg "law"=some (.ref fa))
  (h1:FnAt K "chosen_sum" zfX)
  (h2:FnAt K "set_sums" zhy)
  (h3:FnAt K "in_tuples" zgt)
  (h4:FnAt K "unit_row" zh1)
  (h5:FnAt K "unit_rows" zgP)
  (h6:FnAt K "has_row" ziF)
  (h7:FnAt K "taken_off" zgR)
  (h8:FnAt K "column_taken_off" zcn)
  (h9:FnAt K "products_sum" zd4)
  (h18:FnAt K "common_divisor" zcL)
  (h19:FnAt K "ratio_of" zh0)
  (h20:FnAt K "ratios_sum" zfN)
  (h21:FnAt K "least_no_divisor" zcj)
  (h22:FnAt K "none_by" zij)
  (h23:FnAt K "solved" zj6)
  (h24:FnAt K "share_of" zhC)
  (h25:FnAt K "shares_of" zgu)
  (h26:FnAt K "base_of" ziB)
  (h27:FnAt K "_law_pot" zhz)
  (h28:FnAt K "_law_take" zgL)
  (h29:FnAt K "_law_row" zhR)
  (h30:FnAt K "_law_sets" zgz)
  (h31:FnAt K "_law_added" zfs)
  (h32:FnAt K "_law_rank" zgA)
  (h33:FnAt K "_law_made" zgN)
  (h34:FnAt K "_law_back" zgE)
  (h35:FnAt K "_law_small_right" zci)
  (h36:FnAt K "law" zjV)
  {C:Addr} (aC:W.nsIn K mainGlobals "Slant"=some (some (.ref C))) (pg:W.plainGet K C Str.empty=true) (hd:W.hasDictIn K C=true) (po:W.plainOver K C=true) (sa:W.findIn K (.ref C) "__setattr__"=some (some (.builtin "object.__setattr__"))) (mkC:W.makesIn K C=true) (kc:W.keepIn K (.ref C)=true) (zkJ:W.findIn K (.ref C) "block"=some none) (zhe:W.findIn K (.ref C) "weights"=some none) (zoB:W.findIn K (.ref C) "ways"=some none) (zkB:W.findIn K (.ref C) "backs"=some none) (ziP:W.findIn K (.ref C) "slants"=some none) {fopen_columns:Addr} {odopen_columns anopen_columns:Option Addr} {slopen_columns:Array (Option Value)} {ocopen_columns kVopen_columns dcopen_columns pmopen_columns cdopen_columns ctopen_columns:Value} (aopen_columns:W.findIn K (.ref C) "open_columns"=some (some (.ref fopen_columns))) (iopen_columns:W.isFn K (.ref fopen_columns)=true) (lopen_columns:K.lookup fopen_columns=some ⟨ocopen_columns,odopen_columns,.func (W.fnOf "open_columns" "Slant.open_columns" (zaZ zbs) (zaH zbs) (zan zbs) .none kVopen_columns dcopen_columns pmopen_columns anopen_columns cdopen_columns ctopen_columns),slopen_columns⟩) (copen_columns:W.codeIn K cdopen_columns "Slant.open_columns"=true) (kopen_columns:W.keepIn K (.ref fopen_columns)=true) {fopen_rows:Addr} {odopen_rows anopen_rows:Option Addr} {slopen_rows:Array (Option Value)} {ocopen_rows kVopen_rows dcopen_rows pmopen_rows cdopen_rows ctopen_rows:Value} (aopen_rows:W.findIn K (.ref C) "open_rows"=some (some (.ref fopen_rows))) (iopen_rows:W.isFn K (.ref fopen_rows)=true) (lopen_rows:K.lookup fopen_rows=some ⟨ocopen_rows,odopen_rows,.func (W.fnOf "open_rows" "Slant.open_rows" (zaZ zcy) (zaH zcy) (zan zcy) .none kVopen_rows dcopen_rows pmopen_rows anopen_rows cdopen_rows ctopen_rows),slopen_rows⟩) (copen_rows:W.codeIn K cdopen_rows "Slant.open_rows"=true) (kopen_rows:W.keepIn K (.ref fopen_rows)=true) {fleast_corner:Addr} {odleast_corner anleast_corner:Option Addr} {slleast_corner:Array (Option Value)} {ocleast_corner kVleast_corner dcleast_corner pmleast_corner cdleast_corner ctleast_corner:Value} (aleast_corner:W.findIn K (.ref C) "least_corner"=some (some (.ref fleast_corner))) (ileast_corner:W.isFn K (.ref fleast_corner)=true) (lleast_corner:K.lookup fleast_corner=some ⟨ocleast_corner,odleast_corner,.func (W.fnOf "least_corner" "Slant.least_corner" (zaZ zbo) (zaH zbo) (zan zbo) .none kVleast_corner dcleast_corner pmleast_corner anleast_corner cdleast_corner ctleast_corner),slleast_corner⟩) (cleast_corner:W.codeIn K cdleast_corner "Slant.least_corner"=true) (kleast_corner:W.keepIn K (.ref fleast_corner)=true) {ftake_row:Addr} {odtake_row antake_row:Option Addr} {sltake_row:Array (Option Value)} {octake_row kVtake_row dctake_row pmtake_row cdtake_row cttake_row:Value} (atake_row:W.findIn K (.ref C) "take_row"=some (some (.ref ftake_row))) (itake_row:W.isFn K (.ref ftake_row)=true) (ltake_row:K.lookup ftake_row=some ⟨octake_row,odtake_row,.func (W.fnOf "take_row" "Slant.take_row" (zaZ zdo) (zaH zdo) (zan zdo) .none kVtake_row dctake_row pmtake_row antake_row cdtake_row cttake_row),sltake_row⟩) (ctake_row:W.codeIn K cdtake_row "Slant.take_row"=true) (ktake_row:W.keepIn K (.ref ftake_row)=true) {ftake_column:Addr} {odtake_column antake_column:Option Addr} {sltake_column:Array (Option Value)} {octake_column kVtake_column dctake_column pmtake_column cdtake_column cttake_column:Value} (atake_column:W.findIn K (.ref C) "take_column"=some (some (.ref ftake_column))) (itake_column:W.isFn K (.ref ftake_column)=true) (ltake_column:K.lookup ftake_column=some ⟨octake_column,odtake_column,.func (W.fnOf "take_column" "Slant.take_column" (zaZ zbK) (zaH zbK) (zan zbK) .none kVtake_column dctake_column pmtake_column antake_column cdtake_column cttake_column),sltake_column⟩) (ctake_column:W.codeIn K cdtake_column "Slant.take_column"=true) (ktake_column:W.keepIn K (.ref ftake_column)=true) {fclear_cross:Addr} {odclear_cross anclear_cross:Option Addr} {slclear_cross:Array (Option Value)} {occlear_cross kVclear_cross dcclear_cross pmclear_cross cdclear_cross ctclear_cross:Value} (aclear_cross:W.findIn K (.ref C) "clear_cross"=some (some (.ref fclear_cross))) (iclear_cross:W.isFn K (.ref fclear_cross)=true) (lclear_cross:K.lookup fclear_cross=some ⟨occlear_cross,odclear_cross,.func (W.fnOf "clear_cross" "Slant.clear_cross" (zaZ zbI) (zaH zbI) (zan zbI) .none kVclear_cross dcclear_cross pmclear_cross anclear_cross cdclear_cross ctclear_cross),slclear_cross⟩) (cclear_cross:W.codeIn K cdclear_cross "Slant.clear_cross"=true) (kclear_cross:W.keepIn K (.ref fclear_cross)=true) {finit:Addr} {odinit aninit:Option Addr} {slinit:Array (Option Value)} {ocinit kVinit dcinit pminit cdinit ctinit:Value} (ainit:W.findIn K (.ref C) "__init__"=some (some (.ref finit))) (iinit:W.isFn K (.ref finit)=true) (linit:K.lookup finit=some ⟨ocinit,odinit,.func (W.fnOf "__init__" "Slant.__init__" (zaZ zdn) (zaH zdn) (zan zdn) .none kVinit dcinit pminit aninit cdinit ctinit),slinit⟩) (cinit:W.codeIn K cdinit "Slant.__init__"=true) (kinit:W.keepIn K (.ref finit)=true) {fslant_number:Addr} {odslant_number anslant_number:Option Addr} {slslant_number:Array (Option Value)} {ocslant_number kVslant_number dcslant_number pmslant_number cdslant_number ctslant_number:Value} (aslant_number:W.findIn K (.ref C) "slant_number"=some (some (.ref fslant_number))) (islant_number:W.isFn K (.ref fslant_number)=true) (lslant_number:K.lookup fslant_number=some ⟨ocslant_number,odslant_number,.func (W.fnOf "slant_number" "Slant.slant_number" (zaZ zbu) (zaH zbu) (zan zbu) .none kVslant_number dcslant_number pmslant_number anslant_number cdslant_number ctslant_number),slslant_number⟩) (cslant_number:W.codeIn K cdslant_number "Slant.slant_number"=true) (kslant_number:W.keepIn K (.ref fslant_number)=true) (z0:W.nsIn K mainGlobals "abs"=some none) (z1:W.nsIn K mainGlobals "any"=some none) (z2:W.nsIn K mainGlobals "enumerate"=some none) (z3:W.nsIn K mainGlobals "int"=some none) (z4:W.nsIn K mainGlobals "len"=some none) (z5:W.nsIn K mainGlobals "list"=some none) (z6:W.nsIn K mainGlobals "max"=some none) (z7:W.nsIn K mainGlobals "min"=some none) (z8:W.nsIn K mainGlobals "range"=some none) (z9:W.nsIn K mainGlobals "sum"=some none) (z10:W.nsIn K mainGlobals "tuple"=some none) (z11:W.nsIn K mainGlobals "zip"=some none):
  ∃fd:FuncData,(∀(s:Shared) (v:Value),BindsTo s fd ⟨[v],[]⟩ [("script",v)])/\∀base:Heap,K.In base->base.Ns mainGlobals mg->FnOk l.prog w K mg base CX0 7 fa fd ["script"] (spP K 1 zjI):=by
 have cl:Cls K C:=⟨pg,hd,po,sa⟩
 have bn:BN K mg:=⟨⟨C,aC,cl,by simp only[slN,List.forall_mem_cons];exact⟨zkJ,zhe,zoB,zkB,ziP,fun _ m=>nomatch m⟩⟩,W.mg_none_of X G z0,W.mg_none_of X G z1,W.mg_none_of X G z2,W.mg_none_of X G z3,W.mg_none_of X G z4,W.mg_none_of X G z5,W.mg_none_of X G z6,W.mg_none_of X G z7,W.mg_none_of X G z8,W.mg_none_of X G z9,W.mg_none_of X G z10,W.mg_none_of X G z11⟩
 obtain⟨a,b,c,d,e,f,T⟩:=h36.law X G hfa
 refine⟨W.fnOf "law" "law" (zaZ zjV) (zaH zjV) (zan zjV) .none a b c d e f,fun s v=> .of_eq rfl,fun base _ _=>?_⟩
 have zdp:=zja (P:=l.prog) (w:=w) (base:=base) X G bn h1
 have zbf:=zkl (P:=l.prog) (w:=w) (base:=base) X G bn zdp h2
 have zcr:=zjK (P:=l.prog) (w:=w) (base:=base) X G bn h3
 have zfc:=zki (P:=l.prog) (w:=w) (base:=base) X G bn h4
 have zb1:=zjT (P:=l.prog) (w:=w) (base:=base) X G bn zfc h5
 have zgm:=zmj (P:=l.prog) (w:=w) (base:=base) X G bn h6
 have zaE:=zjl (P:=l.prog) (w:=w) (base:=base) X G bn h7
 have zbg:=ze8 (P:=l.prog) (w:=w) (base:=base) X G bn h8
 have zco:=zht (P:=l.prog) (w:=w) (base:=base) X G bn h9
 have md_open_columns:=zhQ (P:=l.prog) (w:=w) (base:=base) X G bn (MAtC.mk aC cl aopen_columns iopen_columns lopen_columns copen_columns kopen_columns)
 have md_open_rows:=zjZ (P:=l.prog) (w:=w) (base:=base) X G bn (MAtC.mk aC cl aopen_rows iopen_rows lopen_rows copen_rows kopen_rows)
 have md_least_corner:=zhd (P:=l.prog) (w:=w) (base:=base) X G bn md_open_columns md_open_rows (MAtC.mk aC cl aleast_corner ileast_corner lleast_corner cleast_corner kleast_corner)
 have md_take_row:=zkb (P:=l.prog) (w:=w) (base:=base) X G bn zaE (MAtC.mk aC cl atake_row itake_row ltake_row ctake_row ktake_row)
 have md_take_column:=zid (P:=l.prog) (w:=w) (base:=base) X G bn zbg zaE (MAtC.mk aC cl atake_column itake_column ltake_column ctake_column ktake_column)
 have md_clear_cross:=zh7 (P:=l.prog) (w:=w) (base:=base) X G bn md_open_columns md_open_rows md_take_column md_take_row (MAtC.mk aC cl aclear_cross iclear_cross lclear_cross cclear_cross kclear_cross)
 have md___init__:=zku (P:=l.prog) (w:=w) (base:=base) X G bn md_clear_cross zgm md_least_corner zb1 ⟨C,finit,_,aC,W.mg_of X G aC,⟨mkC,ainit,iinit,kc⟩,znf linit cinit kinit⟩
 have md_slant_number:=zhv (P:=l.prog) (w:=w) (base:=base) X G bn (MAtC.mk aC cl aslant_number islant_number lslant_number cslant_number kslant_number)
 have zbB:=zgp (P:=l.prog) (w:=w) (base:=base) X G bn h18
 have zbF:=zkv (P:=l.prog) (w:=w) (base:=base) X G bn zbB h19
 have zdq:=ziS (P:=l.prog) (w:=w) (base:=base) X G bn h20
 have zbc:=zfe (P:=l.prog) (w:=w) (base:=base) X G bn h21
 have zej:=zmL (P:=l.prog) (w:=w) (base:=base) X G bn zbF h22
 have zhB:=zox (P:=l.prog) (w:=w) (base:=base) X G bn md___init__ zbc zej zco md_slant_number zaE h23
 have zfp:=zkM (P:=l.prog) (w:=w) (base:=base) X G bn zbF zdq md_slant_number h24
 have zdZ:=zjf (P:=l.prog) (w:=w) (base:=base) X G bn zfp h25
 have zgl:=zmr (P:=l.prog) (w:=w) (base:=base) X G bn md___init__ zcr md_open_columns zdZ h26
 have zfl:=zkL (P:=l.prog) (w:=w) (base:=base) X G bn h27
 have zam:=zjz (P:=l.prog) (w:=w) (base:=base) X G bn h28
 have zfo:=zkz (P:=l.prog) (w:=w) (base:=base) X G bn zam h29
 have zdR:=zj4 (P:=l.prog) (w:=w) (base:=base) X G bn zam h30
 have zc8:=ziV (P:=l.prog) (w:=w) (base:=base) X G bn h31
 have zdS:=zjk (P:=l.prog) (w:=w) (base:=base) X G bn h32
 have za1:=zjh (P:=l.prog) (w:=w) (base:=base) X G bn h33
 have za4:=zjE (P:=l.prog) (w:=w) (base:=base) X G bn zc8 h34
 have zbh:=zfn (P:=l.prog) (w:=w) (base:=base) X G bn za4 za1 zbf h35
 exact ok_law X G bn za4 za1 zfl zdS zfo zdR zbh zam zgl zbf zhB T
theorem walk {l:W.OpenLaw}{q:Program}{loose:List Str}{XP:(Str->Option Value)->Heap->Prop}{YP:World->Heap->Prop}{d:DefRec}{K:Params->W.Frag}(hn:l.most=some 63)(hdf:d.params.defaults=[])
  (hm:∀ns:List Int,ns.length<=63->zjI [.scr ns]=some (.val (.bl true)))
  (hY:∀(w:World) (h:Heap),YP w h->(K w.params).In h)
  (F : ∀ (w : World) (mg : Str -> Option Value) (fa : Addr) (h : Heap), (K w.params).In h -> h.Ns mainGlobals mg -> mg d.name = some (.ref fa) ->
   ∃fd:FuncData,(∀(s:Shared) (u:Value),BindsTo s fd ⟨[u],[]⟩ [("script",u)])/\∀base:Heap,(K w.params).In base->base.Ns mainGlobals mg->FnOk l.prog w (K w.params) mg base CX0 7 fa fd ["script"] (spP (K w.params) 1 zjI)):
  W.WalkO q loose XP YP l.row.toRowW d [] (fun f vs=>PySem.call f vs):=
 L2.walk_of (n:=63) (k:=7) (x:="script") (CX:=fun _=>CX0) (sp:=fun w=>spP (K w.params) 1 zjI) hn (by decide) hdf ⟨rfl,by decide,by decide,rfl⟩ hY F
  (fun w H a ns hl _ hS=>⟨H,[.scr ns],.val (.bl true),hm ns hl,rfl,Fz.refl H,.cons ⟨a,rfl,hS⟩ .nil,fun _ _ _ _ _ _ _ rr=>rr⟩) fun _ _ _ _ _ z=>z
end Prf
set_option exponentiation.threshold 5000
namespace Prf
open L2 M PySem
variable {n r m cc c o i a j k t K N F e:Nat} {x q y z Y:Int} {ds:List D} {Z l L:List Nat} {zz:Nat->Nat} {f g:Nat->Int} {s:List (Nat×Nat)} {p:Nat×Nat} {bt:Nat->Nat->Bool} {A X:Nat->Nat->Int} {d:D} {v:Mx} {Q:D×R->Prop}
def Bd (x:Int):Prop:= -(2^220)<x/\x<2^220
def Bds (n:Nat)(r:Nat->Int):Prop:=∀i,i<n->Bd (r i)
theorem Bds.snoc {r:Nat->Int}(h:Bds n r)(hx:Bd x):Bds (n+1) fun j=>if j<n then r j else x:=fun i hi=>by
 dsimp only
 split
 ·rename_i q;exact h i q
 ·exact hx
def Pot (ds:List D):Prop:=∃p:Int,ds=[.int p]
theorem zbp (h:Pot ds){m:Int}(h0:0<m)(h1:m<2^250):Ok (zaq ds [.int m]) fun r=>∃(i:Nat) (ds':List D),(i:Int)<m/\Pot ds'/\r=(.val (.int i),ds'):=by
 obtain⟨p,rfl⟩:=h
 simp! only[↓zaq,↓zfm]
 have m0:=Int.emod_nonneg p (Int.ne_of_gt h0)
 refine⟨h0,znA h0 h1,(p%m).toNat,[.int (p/m)],?_,⟨_,rfl⟩,?_⟩
 ·have:=Int.emod_lt_of_pos p h0;lia
 ·rw[show(((p%m).toNat:Nat):Int)=p%m by lia]
theorem pot_ok (ns:List Int)(k:Nat)(hk:k<64):Ok (zcN [.scr ns,.int k]) fun r=>∃ds,Pot ds/\r= .own ds:=by
 have last:∀c:Int,Ok (zdb [.val (.scr ns),.val (.int k),.val (.int c),.emp,.emp,.emp]) fun p=>∃ds a,Pot ds/\p=(.ret (.own ds),a):=fun c=>by
  simp! only[↓zdb]
  refine⟨fun _=>⟨by decide+kernel,by decide+kernel,by decide+kernel,_,_,⟨_,rfl⟩,rfl⟩,fun _=>?_⟩
  simp! only[↓zfw,↓zfM]
  refine⟨zho (by decide),rfl,zc9 (fun _ ρ=>∃(a b:Int) (s5:Sl),0<=b/\b<4294967296/\ρ=[.val (.scr ns),.val (.int k),.val (.int c),.val (.int a),.val (.int b),s5]) ⟨0,_,.emp,by lia,by lia,rfl⟩ ?_ ?_⟩
  ·rintro i _ hi ⟨a,b,s5,b0,b1,rfl⟩
   simp! only[↓zfP]
   have e1:0<=(b*48271+7919*(i:Int)+104729)%2147483647:=Int.emod_nonneg _ (by decide)
   have e2:(b*48271+7919*(i:Int)+104729)%2147483647<2147483647:=Int.emod_lt_of_pos _ (by decide)
   exact⟨zho (by lia),zho (by decide),zmZ (by decide),zho (by lia),by decide+kernel,_,_,_,e1,by lia,rfl⟩
  ·rintro _ ⟨a,b,s5,_,_,rfl⟩
   simp! only[]
   exact⟨_,_,⟨_,rfl⟩,rfl⟩
 simp! only[↓zcN,↓zgo]
 refine⟨fun h=>?_,fun h=>?_⟩
 ·rw[List.getElem?_eq_getElem (show k<ns.length by lia)]
  simp! only[]
  refine(last _).mono ?_
  rintro _ ⟨d,a,h,rfl⟩
  simp! only[]
  exact⟨_,h,rfl⟩
 ·refine(last _).mono ?_
  rintro _ ⟨d,a,h,rfl⟩
  simp! only[]
  exact⟨_,h,rfl⟩
theorem zmm (h:Pot ds)(n:Nat)(hn:n<=1000):Ok (zcO ds [.int n]) fun x=>∃(r:Nat->Int) (ds':List D),Pot ds'/\Bds n r/\x=(.own (wI n r),ds'):=by
 simp! only[↓zcO,↓zga]
 refine(zbp h (m:=5) (by lia) (by lia)).mono ?_
 rintro _ ⟨way,d1,hw,h1,rfl⟩
 simp! only[↓zfS]
 refine⟨zav (by lia) (by lia),zc9 (fun i ρ=>∃(r:Nat->Int) (ds':List D) (s4 s5:Sl),Pot ds'/\Bds i r/\ρ=[.par ds',.val (.int n),.val (.int way),.own (wI i r),s4,s5]) ⟨fun _=>0,d1,_,_,h1,fun j hj=>by lia,rfl⟩ ?_ ?_⟩
 ·rintro i _ hi ⟨r,d2,s4,s5,h2,hb,rfl⟩
  simp! only[↓zf3]
  refine⟨fun hlt=>?_,fun hge=>?_⟩
  ·have hw':∃(m:Int) (z:Int),0<m/\m<=1000000/\0<=z/\z<=5/\[D.int 2,D.int 10,D.int 11,D.int 1000000][way]? =some (.int m)/\[D.int 0,D.int 0,D.int 5,D.int 0][way]? =some (.int z):=by
    have:way=0\/way=1\/way=2\/way=3:=by lia
    rcases this with rfl|rfl|rfl|rfl
    ·exact⟨_,_,by decide,by decide,by decide,by decide,rfl,rfl⟩
    ·exact⟨_,_,by decide,by decide,by decide,by decide,rfl,rfl⟩
    ·exact⟨_,_,by decide,by decide,by decide,by decide,rfl,rfl⟩
    ·exact⟨_,_,by decide,by decide,by decide,by decide,rfl,rfl⟩
   obtain⟨m,z,m0,m1,z0,z5,em,ez⟩:=hw'
   simp! only[em]
   refine(zbp h2 (m:=m) m0 (by lia)).mono ?_
   rintro _ ⟨t,d3,ht,h3,rfl⟩
   simp! only[ez,zkc]
   exact⟨by lia,_,d3,_,_,h3,hb.snoc (by unfold Bd;lia),rfl⟩
  ·refine(zbp h2 (m:=80) (by lia) (by lia)).mono ?_
   rintro _ ⟨a,d3,ha,h3,rfl⟩
   simp! only[]
   refine⟨zmZ (by lia),?_⟩
   refine(zbp h3 (m:=1000000) (by lia) (by lia)).mono ?_
   rintro _ ⟨b,d4,hb4,h4,rfl⟩
   simp! only[]
   have hf:0<=1000000000000000000000000000000000000000000000000000000000*(a:Int)+(b:Int)/\1000000000000000000000000000000000000000000000000000000000*(a:Int)+(b:Int)<80000000000000000000000000000000000000000000000000001000000:=by lia
   generalize 1000000000000000000000000000000000000000000000000000000000*(a:Int)+(b:Int)=far at hf
   refine(zbp h4 (m:=3) (by lia) (by lia)).mono ?_
   rintro _ ⟨c,d5,hc,h5,rfl⟩
   simp! only[]
   refine(zbp h5 (m:=3) (by lia) (by lia)).mono ?_
   rintro _ ⟨e,d6,he,h6,rfl⟩
   have he':∃z:Int,[D.int far,D.int (-far),D.int c][e]? =some (.int z)/\Bd z:=by
    have:e=0\/e=1\/e=2:=by lia
    rcases this with rfl|rfl|rfl<;>exact⟨_,rfl,by unfold Bd;lia⟩
   obtain⟨z,ez,bz⟩:=he'
   simp! only[ez,zkc]
   exact⟨by lia,_,d6,_,_,h6,hb.snoc bz,rfl⟩
 ·rintro _ ⟨r,d2,s4,s5,h2,hb,rfl⟩
  simp! only[]
  exact⟨r,d2,h2,hb,rfl⟩
structure Rise (n c:Nat) (z:Nat->Nat):Prop where
 c1:1<=c
 cn:c<=n
 up:∀i,i+1<c->z i<z (i+1)
 lt:∀i,i<c->z i<n
abbrev setL (c:Nat)(z:Nat->Nat):List D:=wI c fun j=>((z j:Nat):Int)
theorem natsD (Z:List Nat):Z.map (fun p=>D.int (p:Nat))=setL Z.length fun i=>Z.getD i 0:=by
 apply List.ext_getElem?
 intro j
 by_cases hj:j<Z.length
 ·rw[zao _ hj];simp[hj,List.getD_eq_getElem?_getD]
 ·rw[List.getElem?_eq_none (by simp;lia),List.getElem?_eq_none (by rw[zay];lia)]
theorem rise_of (h0:Z≠[])(hp:Z.Pairwise (· < ·))(hl:∀p∈Z,p<n)(hn:Z.length<=n):Rise n Z.length fun i=>Z.getD i 0:=by
  refine⟨List.length_pos_iff.mpr h0,hn,fun i hi=>?_,fun i hi=>?_⟩
  . have:=List.pairwise_iff_getElem.mp hp i (i+1) (by lia) hi (by lia)
    simp only[List.getD_eq_getElem?_getD,List.getElem?_eq_getElem (show i<Z.length by lia),List.getElem?_eq_getElem hi,Option.getD_some]
    exact this
  . simp only[List.getD_eq_getElem?_getD,List.getElem?_eq_getElem hi,Option.getD_some]
    exact hl _ (List.getElem_mem hi)
theorem filt (b:Nat->Bool)(h:∃p,p<n/\b p=true):∃(c:Nat) (z:Nat->Nat),Rise n c z/\(List.range n).filterMap (fun p=>if b p=true then some (D.int (p:Nat))else none)=setL c z:=by
 have e:(List.range n).filterMap (fun p=>if b p=true then some (D.int (p:Nat))else none)=((List.range n).filter b).map fun p=>D.int (p:Nat):=by
  rw[<-List.filterMap_eq_map,<-List.filterMap_eq_filter,List.filterMap_filterMap]
  exact zaX _ fun p _=>by by_cases c:b p=true<;>simp[c,Option.guard]
 obtain⟨p,hp,hb⟩:=h
 have mem:p∈(List.range n).filter b:=List.mem_filter.mpr ⟨List.mem_range.mpr hp,hb⟩
 refine⟨_,_,rise_of (fun e=>by rw[e]at mem;exact absurd mem List.not_mem_nil) (List.Pairwise.filter _ List.pairwise_lt_range) (fun q hq=>List.mem_range.mp (List.mem_filter.mp hq).1) (by have:=List.length_filter_le b (List.range n);simpa using this),by rw[e,natsD]⟩
theorem zlv:∀(n:Nat) (c:Nat),0<c->c<2^n->∃p,p<n/\c/2^p%2=1
 |0,c,h0,h1=>by simp at h1;lia
 |n+1,c,h0,h1=>by
  by_cases h:c%2=1
  ·exact⟨0,by lia,by simpa using h⟩
  ·obtain⟨p,hp,e⟩:=zlv n (c/2) (by lia) (by rw[Nat.pow_succ]at h1;lia)
   exact⟨p+1,by lia,by rw[Nat.pow_succ,Nat.mul_comm,<-Nat.div_div_eq_div_mul];exact e⟩
def zep (t:Nat)(c:Nat->Nat)(z:Nat->Nat->Nat):List D:=wL t fun i=> .tup (setL (c i) (z i))
def zoo (n:Nat)(way:Nat)(i:Nat)(ρ:R):Prop:=∃(c:Nat->Nat) (z:Nat->Nat->Nat) (ds':List D) (s4 s5 s6 s7:Sl),Pot ds'/\(∀j,j<i->Rise n (c j) (z j))/\ρ=[.par ds',.val (.int n),.own (zep i c z),.val (.int way),s4,s5,s6,s7]
section sets
variable {ds:List D} {n way i:Nat} {c:Nat->Nat} {z:Nat->Nat->Nat} {Q:Fl×R->Prop}
theorem set3 (h:Pot ds)(hi:i<100)(b:∀j,j<i->Rise n (c j) (z j))(rr:Rise n cc zz)(s4 s5 s6:Sl):
  Ok (zcD [.par ds,.val (.int n),.own (zep i c z),.val (.int way),s4,s5,s6,.val (.lst (setL cc zz))]) (Turn (zoo n way (i+1)) Q):=by
 simp! only[↓zcD,zep]
 refine⟨by lia,fun j=>if j<i then c j else cc,fun j=>if j<i then z j else zz,ds,s4,s5,s6,.val (.lst (setL cc zz)),h,fun j hj=>?_,?_⟩
 ·by_cases e:j<i
  ·simp only[e,if_true];exact b j e
  ·simp only[e,if_false];exact rr
 ·rw[zoG]
  congr 3
  refine congrArg _ (zbt fun j _=>?_)
  by_cases e:j<i<;>simp only[e,if_true,if_false]
theorem set4 (h:Pot ds)(hi:i<100)(n7:n<=7)(b:∀j,j<i->Rise n (c j) (z j))(rr:Rise n cc zz){first:Nat}(hf:first<n)(s4 s5:Sl):
  Ok (zcA [.par ds,.val (.int n),.own (zep i c z),.val (.int way),s4,s5,.val (.int first),.val (.lst (setL cc zz))]) (Turn (zoo n way (i+1)) Q):=by
 simp! only[↓zcA,↓zez]
 refine⟨fun _=>⟨zav (by lia) (by lia),by lia,zdT (fun ρ=>∃y,ρ=[.val (.int first),y]) (fun p=>if decide (abs1 ((p:Int)-first)<2)=true then some (D.int (p:Nat))else none) ⟨_,rfl⟩ ?_ ?_⟩,fun _=>set3 h hi b rr _ _ _⟩
 ·rintro p _ hp ⟨y,rfl⟩
  simp! only[↓zeG,↓zeO]
  refine⟨fun e=>⟨?_,_,rfl⟩,fun e=>⟨?_,_,rfl⟩⟩
  ·rw[if_pos (by simpa using e)]
  ·rw[if_neg (by simpa using e)]
 ·rintro _ ⟨y,rfl⟩
  obtain⟨cc',zz',rr',e⟩:=filt (n:=n) (fun p=>decide (abs1 ((p:Int)-first)<2)) ⟨first,hf,by simp[abs1]⟩
  simp only[decide_eq_true_eq]at e
  simp! only[e]
  exact set3 h hi b rr' _ _ _
end sets
theorem sets_ok (h:Pot ds){n:Nat}(n1:1<=n)(n7:n<=7):Ok (zce ds [.int n]) fun x=>∃(t:Nat) (c:Nat->Nat) (z:Nat->Nat->Nat) (ds':List D),Pot ds'/\1<=t/\t<=7/\(∀i,i<t->Rise n (c i) (z i))/\x=(.own (zep t c z),ds'):=by
 simp! only[↓zce,↓zfd]
 refine(zbp h (m:=3) (by lia) (by lia)).mono ?_
 rintro _ ⟨way,d1,hw,h1,rfl⟩
 simp! only[↓zeU]
 refine(zbp h1 (m:=7) (by lia) (by lia)).mono ?_
 rintro _ ⟨t,d2,ht,h2,rfl⟩
 simp! only[show(1:Int)+(t:Int)=((1+t:Nat):Int) by lia]
 have p2:(2:Int)^n=((2^n:Nat):Int):=by push_cast;rfl
 have pb:1<=2^n/\2^n<=128:=⟨Nat.one_le_two_pow,Nat.pow_le_pow_right (by lia) n7⟩
 have pb2:2<=2^n:=by
  have:=Nat.pow_le_pow_right (show 0<2 by lia) n1
  simpa using this
 refine⟨zav (by lia) (by lia),zc9 (zoo n way) ⟨fun _=>0,fun _ _=>0,d2,_,_,_,_,h2,fun _ h=>by lia,rfl⟩ ?_ ?_⟩
 ·rintro i _ hi ⟨c,z,d3,s4,s5,s6,s7,h3,b,rfl⟩
  simp! only[↓zeW,p2,Int.one_mul]
  refine⟨by lia,?_⟩
  refine(zbp h3 (m:=((2^n:Nat):Int)-1) (by lia) (by lia)).mono ?_
  rintro _ ⟨code,d4,hc,h4,rfl⟩
  simp! only[show(1:Int)+(code:Int)=((1+code:Nat):Int) by lia]
  refine(zbp h4 (m:=(n:Int)) (by lia) (by lia)).mono ?_
  rintro _ ⟨first,d5,hf,h5,rfl⟩
  simp! only[↓ze2]
  refine⟨zav (by lia) (by lia),by lia,zdT (fun ρ=>∃y,ρ=[.val (.int ((1+code:Nat):Int)),y]) (fun p=>if decide ((1+code)/2^p%2=1)=true then some (D.int (p:Nat))else none) ⟨_,rfl⟩ ?_ ?_⟩
  ·rintro p _ hp ⟨y,rfl⟩
   have e1:((1+code:Nat):Int)/2^p=(((1+code)/2^p:Nat):Int):=by push_cast;rfl
   have e2:((((1+code)/2^p:Nat):Int)%2)=(((1+code)/2^p%2:Nat):Int):=by push_cast;rfl
   simp! only[↓zeP,↓zeL,e1,dAnd1 (Int.natCast_nonneg ((1+code)/2^p)),e2]
   refine⟨by lia,fun e=>⟨?_,_,rfl⟩,fun e=>⟨?_,_,rfl⟩⟩
   ·rw[if_pos (by lia)]
   ·rw[if_neg (by lia)]
  ·rintro _ ⟨y,rfl⟩
   obtain⟨p,hp,ep⟩:=zlv n (1+code) (by lia) (by lia)
   obtain⟨cc,zz,rr,e⟩:=filt (n:=n) (fun p=>decide ((1+code)/2^p%2=1)) ⟨p,hp,by simp only[decide_eq_true_eq];exact ep⟩
   simp only[decide_eq_true_eq]at e
   simp! only[e]
   refine⟨fun _=>?_,fun _=>?_⟩
   ·refine(zbp h5 (m:=2) (by lia) (by lia)).mono ?_
    rintro _ ⟨u,d6,hu,h6,rfl⟩
    have em:min2 (n:Int) ((first:Int)+2+(u:Int))=((min n (first+2+u):Nat):Int):=by unfold min2;split<;>lia
    simp! only[em,zhj,show(((min n (first+2+u):Nat):Int)-(first:Int)).toNat=min n (first+2+u)-first by lia]
    refine⟨⟨zav (by lia) (by lia),zav (by lia) (by lia)⟩,by lia,?_⟩
    have er:(wL (min n (first+2+u)-first) fun k=>D.int ((first:Int)+(k:Nat)))=setL (min n (first+2+u)-first) fun j=>first+j:=zbt fun j _=>by push_cast;rfl
    rw[er]
    exact set4 h6 (by lia) n7 b ⟨by lia,by lia,fun j _=>by lia,fun j hj=>by lia⟩ (by lia) _ _
   ·exact set4 h5 (by lia) n7 b rr (by lia) _ _
 ·rintro _ ⟨c,z,d3,s4,s5,s6,s7,h3,b,rfl⟩
  simp! only[]
  exact⟨1+t,c,z,d3,h3,by lia,by lia,b,rfl⟩
def ssum (c:Nat->Nat)(z:Nat->Nat->Nat)(r:Nat->Int)(i:Nat):Int:=sumR (c i) fun j=>r (z i j)
def teD (n t:Nat)(c:Nat->Nat)(z:Nat->Nat->Nat)(S:Nat->Int):D:= .tup [.int n,.tup (zep t c z),.tup (wI t S)]
def BS (x:Int):Prop:= -(2^230)<x/\x<2^230
theorem sumR_bd (hc:c<=7)(h:∀j,j<c->Bd (f j)): -(2^223)<sumR c f/\sumR c f<2^223:=by
 have:∀k,k<=c-> -((k:Int)*2^220)<=sumR k f/\sumR k f<=(k:Int)*2^220:=by
  intro k
  induction k with
  |zero=>intro _;simp[sumR]
  |succ k ih=>
   intro hk
   have h1:=ih (by lia)
   have h2:=h k (by lia)
   unfold Bd at h2
   show-(((k+1:Nat):Int)*2^220)<=sumR k f+f k/\sumR k f+f k<=((k+1:Nat):Int)*2^220
   push_cast
   lia
 have:=this c (Nat.le_refl c)
 lia
abbrev Mx:=Nat->Nat->Int
def un (i j:Nat):Int:=if j=i then 1 else 0
def hasP (c:Nat)(z:Nat->Nat)(p:Nat):Bool:=(List.range c).any fun j=>z j==p
def incA (c:Nat->Nat)(z:Nat->Nat->Nat)(i p:Nat):Int:=if hasP (c i) (z i) p then 1 else 0
theorem zkg (n p:Nat)(hn:n<=100):Ok (zc7 [.int n,.int p]) fun x=>x= .own (wI n (un p)):=by
 simp! only[↓zc7,↓zf8,↓zfR]
 refine⟨zav (by lia) (by lia),by lia,zaC (fun ρ=>∃y,ρ=[.val (.int p),y]) (fun j=> .int (un p j)) ⟨_,rfl⟩ ?_ ?_⟩
 ·rintro j _ hj ⟨y,rfl⟩
  simp! only[↓zfx]
  refine⟨fun e=>⟨?_,_,rfl⟩,fun e=>⟨?_,_,rfl⟩⟩
  ·unfold un;rw[if_pos (by lia)]
  ·unfold un;rw[if_neg (by lia)]
 ·rintro _ ⟨y,rfl⟩
  simp! only[]
theorem zd0 (n:Nat)(hn:n<=100):Ok (zbe [.int n]) fun x=>x= .own (wL n fun i=> .lst (wI n (un i))):=by
 simp! only[↓zbe,↓zfr,↓ze1]
 refine⟨zav (by lia) (by lia),by lia,zaC (fun ρ=>∃y,ρ=[.val (.int n),y]) (fun i=> .lst (wI n (un i))) ⟨_,rfl⟩ ?_ ?_⟩
 ·rintro i _ hi ⟨y,rfl⟩
  simp! only[↓zer]
  refine(zkg n i hn).mono ?_
  rintro _ rfl
  simp! only[]
  exact⟨_,rfl⟩
 ·rintro _ ⟨y,rfl⟩
  simp! only[]
theorem zmf (n:Nat)(hn:n<=100)(c:Nat)(z:Nat->Nat):Ok (zef [.int n,.tup (setL c z)]) fun x=>x= .own (wI n fun p=>if hasP c z p then 1 else 0):=by
 simp! only[↓zef,↓zhT,↓zgV]
 refine⟨zav (by lia) (by lia),by lia,zaC (fun ρ=>∃y,ρ=[.val (.tup (setL c z)),y]) (fun p=> .int (if hasP c z p then 1 else 0)) ⟨_,rfl⟩ ?_ ?_⟩
 ·rintro j _ hj ⟨y,rfl⟩
  have e:dIn (.int j) (.tup (setL c z))=some (.bl (hasP c z j)):=by
   have e1:setL c z=((List.range c).map fun i=>((z i:Nat):Int)).map .int:=by unfold setL wI wL;rw[List.map_map];rfl
   rw[show dIn (.int j) (.tup (setL c z))=dIn (.int j) (.lst (setL c z))from rfl,e1,inL]
   congr 2
   unfold hasP
   rw[Bool.eq_iff_iff,List.contains_iff_mem,List.any_eq_true,List.mem_map]
   constructor
   ·rintro⟨i,hi,e⟩;exact⟨i,hi,by simp;lia⟩
   ·rintro⟨i,hi,e⟩;exact⟨i,hi,by simp at e;lia⟩
  simp! only[↓zgI,e]
  refine⟨fun e=>⟨?_,_,rfl⟩,fun e=>⟨?_,_,rfl⟩⟩
  ·rw[if_pos e]
  ·rw[if_neg (by simp[e])]
 ·rintro _ ⟨y,rfl⟩
  simp! only[]
theorem zb2 {d1 d2:D}(h1:Sq d1 n f)(h2:Sq d2 n g)(hn:n<=100)(hq:∀j,j<n->zbO q (g j)=true):Ok (zaI [d1,d2,.int q]) fun x=>x= .own (wI n fun j=>f j-q*g j):=by
 simp! only[↓zaI,↓zfb,↓zeK,h1.it,h2.it,ze5]
 refine⟨by lia,zaC (fun ρ=>∃y y2,ρ=[.val (.int q),y,y2]) (fun j=> .int (f j-q*g j)) ⟨_,_,rfl⟩ ?_ ?_⟩
 ·rintro j _ hj ⟨y,y2,rfl⟩
  simp! only[↓zeT,hq j hj]
  exact⟨_,_,rfl⟩
 ·rintro _ ⟨y,y2,rfl⟩
  simp! only[]
theorem zow {n c:Nat}(f:Nat->Int)(x:Int)(hc:c<n):cutD (wI n f) none (some (c:Int))++[D.int x]++cutD (wI n f) (some ((c:Int)+1)) none=wI n fun j=>if j=c then x else f j:=by
 rw[zk1,show(c:Int)+1=((c+1:Nat):Int) by lia,zls]
 have e:wI n f=(wI n f).take c++(wI n f).drop c:=(List.take_append_drop c _).symm
 apply List.ext_getElem?
 intro j
 by_cases hj:j<n
 ·rw[zao (fun j=>D.int (if j=c then x else f j)) hj]
  by_cases h1:j<c
  ·rw[List.getElem?_append_left (by simp[zay];lia),List.getElem?_append_left (by simp[zay];lia),List.getElem?_take,if_pos h1,zao _ hj,if_neg (by lia)]
  ·by_cases h2:j=c
   ·subst h2
    rw[List.getElem?_append_left (by simp[zay];lia),List.getElem?_append_right (by simp[zay];lia),if_pos rfl]
    have:j-(List.take j (wI n f)).length=0:=by simp[zay];lia
    rw[this];rfl
   ·rw[List.getElem?_append_right (by simp[zay];lia),List.getElem?_drop,if_neg h2]
    have:c+1+(j-((wI n f).take c++[D.int x]).length)=j:=by simp[zay];lia
    rw[this,zao _ hj]
 ·rw[List.getElem?_eq_none (by simp[zay];lia),List.getElem?_eq_none (by simp[zay];lia)]
theorem zfk (f:Nat->Int)(hn:n<=100)(hc:c<n)(ho:o<n)(hq:zbO q (f o)=true):Ok (zaL [.lst (wI n f),.int c,.int o,.int q]) fun x=>x= .val (.lst (wI n fun j=>if j=c then f c-q*f o else f j)):=by
 simp! only[↓zaL,↓zbl,zao _ hc,zao _ ho,hq]
 have l1:(cutD (wI n f) none (some (c:Int))).length<=100:=by rw[zk1];simp[zay];lia
 have l2:(cutD (wI n f) (some ((c:Int)+1)) none).length<=100:=by rw[show(c:Int)+1=((c+1:Nat):Int) by lia,zls];simp[zay];lia
 exact⟨by lia,by lia,by rw[zow f _ hc]⟩
theorem zhE {d1 d2:D}(h1:Sq d1 n f)(h2:Sq d2 n g)(hn:n<=100)(hq:∀j,j<n->zbO (f j) (g j)=true):Ok (za9 [d1,d2]) fun x=>x= .val (.int (sumR n fun j=>f j*g j)):=by
 simp! only[↓za9,↓zcI,↓zcK,h1.it,h2.it,ze5]
 refine⟨by lia,zaC (fun ρ=>∃y y2,ρ=[y,y2]) (fun j=> .int (f j*g j)) ⟨_,_,rfl⟩ ?_ ?_⟩
 ·rintro j _ hj ⟨y,y2,rfl⟩
  simp! only[↓zcR,hq j hj]
  exact⟨_,_,rfl⟩
 ·rintro _ ⟨y,y2,rfl⟩
  simp! only[zfz,zeb]
def tb (t n:Nat)(b w v k:Mx):List (List D):=[wL t fun i=> .lst (wI n (b i)),wL t fun i=> .lst (wI t (w i)),wL n fun j=> .lst (wI n (v j)),wL n fun j=> .lst (wI n (k j))]
def sk (s:List (Nat×Nat)):List Int×List D:=(s.map fun p=>((p.1:Nat):Int),s.map fun p=> .int (p.2:Nat))
def opR (t:Nat)(s:List (Nat×Nat)):List Nat:=(List.range t).filter fun r=>!(s.any fun p=>p.1==r)
def opC (n:Nat)(s:List (Nat×Nat)):List Nat:=(List.range n).filter fun c=>!(s.any fun p=>p.2==c)
abbrev oD (t n:Nat)(b w v k:Mx)(s:List (Nat×Nat)):D:=obD slC slN (tb t n b w v k) (sk s)
theorem zmQ (s:List (Nat×Nat))(r:Nat):lkD (sk s).1 (sk s).2 (r:Int)=(s.find? fun p=>p.1==r).map fun p=> .int (p.2:Nat):=by
 unfold sk
 induction s with
 |nil=>rfl
 |cons p s ih=>
  show(if((p.1:Nat):Int)=r then some (D.int (p.2:Nat))else lkD (s.map fun p=>((p.1:Nat):Int)) (s.map fun p=> .int (p.2:Nat)) r)=_
  rw[List.find?_cons]
  by_cases h:p.1=r
  ·rw[if_pos (by lia),show(p.1==r)=true by simp[h]];rfl
  ·rw[if_neg (by lia),show(p.1==r)=false by simp[h]];exact ih
theorem zhw (s:List (Nat×Nat))(r:Nat):(lkD (sk s).1 (sk s).2 (r:Int)).isSome=s.any fun p=>p.1==r:=by
 rw[zmQ,Option.isSome_map]
 induction s with
 |nil=>rfl
 |cons p s ih=>
  rw[List.find?_cons,List.any_cons]
  cases p.1==r<;>simp_all
theorem fm_nat (n:Nat)(b:Nat->Bool):(List.range n).filterMap (fun p=>if b p=true then some (D.int (p:Nat))else none)=((List.range n).filter b).map fun p=>D.int (p:Nat):=by
 rw[<-List.filterMap_eq_map,<-List.filterMap_eq_filter,List.filterMap_filterMap]
 exact zaX _ fun p _=>by by_cases c:b p=true<;>simp[c,Option.guard]
section
variable {t n:Nat} {b w v k:Mx} {s:List (Nat×Nat)}
theorem zgT (ht:t<=100):Ok (zbd [oD t n b w v k s]) fun x=>x= .own ((opR t s).map fun r=> .int (r:Nat)):=by
 simp! only[↓zbd,↓ze7,↓ze4,tb]
 refine⟨zav (by lia) (by lia),by lia,zdT (fun ρ=>∃y,ρ=[.val (oD t n b w v k s),y]) (fun r=>if(!(s.any fun p=>p.1==r))=true then some (D.int (r:Nat))else none) ⟨_,rfl⟩ ?_ ?_⟩
 ·rintro r _ hr ⟨y,rfl⟩
  simp! only[↓ze3,↓zeA,zhw]
  cases h:s.any fun p=>p.1==r
  ·simp! only[]
   exact fun _=>⟨_,rfl⟩
  ·simp! only[]
   exact⟨fun h=>absurd trivial h,_,rfl⟩
 ·rintro _ ⟨y,rfl⟩
  simp! only[fm_nat]
  rfl
theorem zfB (hd:s.Pairwise fun p q=>p.1≠q.1)(h:p∈s):(s.find? fun q=>q.1==p.1)=some p:=by
 induction s with
 |nil=>exact absurd h List.not_mem_nil
 |cons q s ih=>
  rw[List.pairwise_cons]at hd
  rw[List.find?_cons]
  rcases List.mem_cons.mp h with rfl|h
  ·simp
  ·rw[show(q.1==p.1)=false by rw[beq_eq_false_iff_ne];exact hd.1 p h]
   exact ih hd.2 h
theorem zb9 (hn:n<=100)(hs:s.length<=100)(hd:s.Pairwise fun p q=>p.1≠q.1):Ok (zaB [oD t n b w v k s]) fun x=>x= .own ((opC n s).map fun r=> .int (r:Nat)):=by
 simp! only[↓zaB,↓zcJ,↓zcP,↓zcU,tb]
 refine⟨by simp[sk];lia,?_⟩
 have e1:(sk s).1.map D.int=s.map fun p=>D.int (p.1:Nat):=by unfold sk;rw[List.map_map];rfl
 rw[e1]
 refine zfq (enc:=fun p:Nat×Nat=>D.int (p.1:Nat)) (fun ρ=>∃y,ρ=[.val (oD t n b w v k s),y]) (fun p=> .int (p.2:Nat)) ⟨_,rfl⟩ ?_ ?_
 ·rintro p _ hp ⟨y,rfl⟩
  simp! only[↓zcQ,zmQ,zfB hd hp]
  exact⟨_,rfl⟩
 ·rintro _ ⟨y,rfl⟩
  simp! only[zay,tb]
  have e2:(s.map fun p=>D.int (p.2:Nat))=(s.map fun p=>((p.2:Nat):Int)).map .int:=by rw[List.map_map];rfl
  refine⟨zav (by lia) (by lia),by lia,zdT (fun ρ=>∃y,ρ=[.val (.lst (s.map fun p=>D.int (p.2:Nat))),y]) (fun c=>if(!(s.any fun p=>p.2==c))=true then some (D.int (c:Nat))else none) ⟨_,rfl⟩ ?_ ?_⟩
  ·rintro c _ hc ⟨y,rfl⟩
   have e3:(s.map fun p=>((p.2:Nat):Int)).contains (c:Int)=s.any fun p=>p.2==c:=by
    rw[Bool.eq_iff_iff,List.contains_iff_mem,List.any_eq_true,List.mem_map]
    constructor
    ·rintro⟨p,hp,e⟩;exact⟨p,hp,by simp;lia⟩
    ·rintro⟨p,hp,e⟩;exact⟨p,hp,by simp at e;lia⟩
   simp! only[↓zc5,↓zcV,e2,notInL,e3]
   cases h:s.any fun p=>p.2==c
   ·simp! only[]
    exact⟨_,rfl⟩
   ·simp! only[]
    exact⟨_,rfl⟩
  ·rintro _ ⟨y,rfl⟩
   simp! only[fm_nat]
   rfl
end
abbrev zkP (n:Nat)(fs:List (Nat->Int)):List D:=fs.map fun f=> .tup (wI n f)
def LeR3 (n:Nat)(a b:Nat->Int):Prop:=∀q,q<n->(∀p,p<q->a p=b p)->a q<=b q
theorem lt_irr:∀a:List Int,HT.zbG a a=false
 |[]=>rfl
 |x::xs=>by
  show(if x=x then HT.zbG xs xs else decide (x<x))=false
  rw[if_pos rfl];exact lt_irr xs
theorem lt_trans:∀{a b c:List Int},HT.zbG a b=true->HT.zbG b c=true->HT.zbG a c=true
 |[],[],_,h,_=>by cases h
 |[],_::_,[],_,h=>by cases h
 |[],_::_,_::_,_,_=>rfl
 |_::_,[],_,h,_=>by cases h
 |_::_,_::_,[],_,h=>by cases h
 |x::xs,y::ys,z::zs,h1,h2=>by
  have h1:(if x=y then HT.zbG xs ys else decide (x<y))=true:=h1
  have h2:(if y=z then HT.zbG ys zs else decide (y<z))=true:=h2
  show(if x=z then HT.zbG xs zs else decide (x<z))=true
  by_cases e1:x=y
  ·subst e1
   rw[if_pos rfl]at h1
   by_cases e2:x=z
   ·subst e2;rw[if_pos rfl]at h2 ⊢;exact lt_trans h1 h2
   ·rw[if_neg e2]at h2 ⊢;exact h2
  ·rw[if_neg e1]at h1
   have h1:=of_decide_eq_true h1
   by_cases e2:y=z
   ·subst e2;rw[if_neg e1];exact decide_eq_true h1
   ·rw[if_neg e2]at h2
    have h2:=of_decide_eq_true h2
    rw[if_neg (by lia)]
    exact decide_eq_true (by lia)
theorem zgd (irr:∀i,bt i i=false)(tr:∀i j l,bt i j=true->bt j l=true->bt i l=true):∀m j,j<=m->bt j (argBest bt m)=false
 |0,j,h=>by
  have:j=0:=by lia
  subst this;exact irr 0
 |m+1,j,h=>by
  show bt j (if bt (m+1) (argBest bt m)then m+1 else argBest bt m)=false
  by_cases c:bt (m+1) (argBest bt m)=true
  ·rw[if_pos c]
   by_cases e:j=m+1
   ·subst e;exact irr _
   ·cases q:bt j (m+1)with
    |false=>rfl
    |true=>
     have:=tr _ _ _ q c
     rw[zgd irr tr m j (by lia)]at this
     cases this
  ·rw[if_neg c]
   by_cases e:j=m+1
   ·subst e;simpa using c
   ·exact zgd irr tr m j (by lia)
theorem ge_of:∀{a b:List Int},a.length=b.length->HT.zbG a b=false->∀(q:Nat) (x y:Int),a[q]? =some x->b[q]? =some y->(∀(p:Nat) (u v:Int),p<q->a[p]? =some u->b[p]? =some v->u=v)->y<=x
 |[],[],_,_,q,x,y,h,_,_=>by simp at h
 |x::xs,y::ys,hl,h,q,u,v,hu,hv,he=>by
  have h:(if x=y then HT.zbG xs ys else decide (x<y))=false:=h
  by_cases e:x=y
  ·subst e
   rw[if_pos rfl]at h
   cases q with
   |zero=>simp at hu hv;lia
   |succ q=>exact ge_of (by simpa using hl) h q u v (by simpa using hu) (by simpa using hv) fun p u v hp h1 h2=>he (p+1) u v (by lia) (by simpa using h1) (by simpa using h2)
  ·rw[if_neg e]at h
   have h:=of_decide_eq_false h
   cases q with
   |zero=>simp at hu hv;lia
   |succ q=>exact absurd (he 0 x y (by lia) (by simp) (by simp)) e
 |[],_::_,hl,_,_,_,_,_,_,_=>by simp at hl
 |_::_,[],hl,_,_,_,_,_,_,_=>by simp at hl
theorem zhx (n:Nat):∀fs:List (Nat->Int),ziv (zkP n fs)=some (fs.map fun f=>(List.range n).map f)
 |[]=>rfl
 |f::fs=>by
  show(zaW (wI n f)).bind _=_
  rw[zfz]
  show(ziv (zkP n fs)).map _=_
  rw[zhx n fs]
  rfl
theorem min_rows {fs:List (Nat->Int)}(ne:fs≠[]):∃f∈fs,zm0 [.lst (zkP n fs)]=some (.tup (wI n f))/\∀g∈fs,LeR3 n f g:=by
 have hp:0<fs.length:=List.length_pos_iff.mpr ne
 generalize hN:(fs.map fun f=>(List.range n).map f)=nss
 have hl:nss.length=fs.length:=by rw[<-hN,List.length_map]
 have hb:zjS nss<fs.length:=by
  have:=zh3 (fun i j=>HT.zbG (nss.getD i []) (nss.getD j [])) (nss.length-1)
  unfold zjS
  lia
 have get:∀i (h:i<fs.length),nss.getD i []=(List.range n).map fs[i]:=fun i h=>by
  rw[<-hN,List.getD_eq_getElem?_getD,List.getElem?_map,List.getElem?_eq_getElem h];rfl
 refine⟨fs[zjS nss],List.getElem_mem hb,?_,fun g hg=>?_⟩
 ·show(ziv (zkP n fs)).bind _=_
  rw[zhx,hN]
  show(if nss.isEmpty then none else(zkP n fs)[zjS nss]?)=_
  have:nss.isEmpty=false:=by
   cases nss with
   |nil=>simp at hl;lia
   |cons=>rfl
  rw[this,List.getElem?_map,List.getElem?_eq_getElem hb]
  rfl
 ·obtain⟨j,hj,rfl⟩:=List.getElem_of_mem hg
  have h:=zgd (bt:=fun i j=>HT.zbG (nss.getD i []) (nss.getD j [])) (fun i=>lt_irr _) (fun i j l=>lt_trans) (nss.length-1) j (by lia)
  have h:HT.zbG (nss.getD j []) (nss.getD (zjS nss) [])=false:=h
  rw[get j hj,get _ hb]at h
  intro q hq he
  refine ge_of (by simp) h q _ _ (by simp[hq]) (by simp[hq]) fun p u v hp h1 h2=>?_
  have hpn:p<n:=by lia
  simp[hpn]at h1 h2
  rw[<-h1,<-h2]
  exact(he p hp).symm
def cor (b:Mx)(p:Nat×Nat)(q:Nat):Int:=if q=0 then((b p.1 p.2).natAbs:Nat)else if q=1 then(p.1:Nat)else(p.2:Nat)
theorem cor_D (b:Mx)(p:Nat×Nat):D.tup [.int (abs1 (b p.1 p.2)),.int (p.1:Nat),.int (p.2:Nat)]= .tup (wI 3 (cor b p)):=by
 have:abs1 (b p.1 p.2)=((b p.1 p.2).natAbs:Nat):=by unfold abs1;split<;>lia
 rw[this];rfl
section
variable {t n:Nat} {b w v k:Mx} {s:List (Nat×Nat)}
theorem zhU (n:Nat)(s:List (Nat×Nat)):(opC n s).length<=n:=by
 have:=List.length_filter_le (fun c=>!(s.any fun p=>p.2==c)) (List.range n)
 rw[List.length_range]at this
 exact this
theorem zi4 (n:Nat)(s:List (Nat×Nat)):(opR n s).length<=n:=by
 have:=List.length_filter_le (fun c=>!(s.any fun p=>p.1==c)) (List.range n)
 rw[List.length_range]at this
 exact this
theorem zfG (h:r∈opR t s):r<t:=List.mem_range.mp (List.mem_filter.mp h).1
theorem zbr (h:r∈opC n s):r<n:=List.mem_range.mp (List.mem_filter.mp h).1
theorem zhk (ht:t<=100)(hn:n<=100)(hs:s.length<=100)(hd:s.Pairwise fun p q=>p.1≠q.1):Ok (zaR [oD t n b w v k s]) fun x=>(x= .val .non/\∀r∈opR t s,∀c∈opC n s,b r c=0)\/∃r c,x= .val (.tup [.int (r:Nat),.int (c:Nat)])/\r∈opR t s/\c∈opC n s/\b r c≠0/\∀i∈opR t s,∀j∈opC n s,b i j≠0->(b r c).natAbs<=(b i j).natAbs:=by
 simp! only[↓zaR,↓zcB]
 rw[zbX rfl]
 simp! only[]
 refine(zb9 hn hs hd).mono ?_
 rintro _ rfl
 simp! only[↓zc3]
 rw[zbX rfl]
 simp! only[]
 refine(zgT ht).mono ?_
 rintro _ rfl
 simp! only[]
 refine ziw (enc:=fun r:Nat=>D.int (r:Nat)) (l:=opR t s) (fun i ρ=>∃(Cl:List (Nat×Nat)) (s3:Sl),(∀p,p∈Cl↔p.1∈(opR t s).take i/\p.2∈opC n s/\b p.1 p.2≠0)/\Cl.length<=i*100/\ρ=[.val (oD t n b w v k s),.val (.lst ((opC n s).map fun r=> .int (r:Nat))),.own (Cl.map fun p=> .tup (wI 3 (cor b p))),s3]) ⟨[],_,fun p=>by simp,by simp,rfl⟩ ?_ ?_
 ·rintro i r _ hi ⟨Cl,s3,hCl,hl,rfl⟩
  have hr:r∈opR t s:=List.mem_of_getElem? hi
  have hil:i<(opR t s).length:=(List.getElem?_eq_some_iff.mp hi).1
  have htl:=zi4 t s
  have hcl:=zhU n s
  simp! only[↓zc0,↓zc2]
  refine⟨by lia,zfD (enc:=fun r:Nat=>D.int (r:Nat)) (fun ρ=>∃y,ρ=[.val (oD t n b w v k s),.val (.int (r:Nat)),y]) (fun c=>if b r c=0 then none else some (.tup (wI 3 (cor b (r,c))))) ⟨_,rfl⟩ ?_ ?_⟩
  ·rintro c _ hc ⟨y,rfl⟩
   simp! only[↓zc6,↓zcZ,tb,zao _ (zfG hr),zao _ (zbr hc)]
   refine⟨fun e=>⟨?_,_,rfl⟩,fun e=>⟨?_,_,rfl⟩⟩
   ·rw[if_neg e,<-cor_D]
   ·rw[if_pos (by simpa using e)]
  ·rintro _ ⟨y,rfl⟩
   have el:(opC n s).filterMap (fun c=>if b r c=0 then none else some (D.tup (wI 3 (cor b (r,c)))))=(((opC n s).filter fun c=>b r c !=0).map fun c=>(r,c)).map fun p=>D.tup (wI 3 (cor b p)):=by
    rw[List.map_map,<-List.filterMap_eq_map,<-List.filterMap_eq_filter,List.filterMap_filterMap]
    exact zaX _ fun c _=>by by_cases h:b r c=0<;>simp[h,Option.guard]
   have ll:((opC n s).filter fun c=>b r c !=0).length<=100:=Nat.le_trans (List.length_filter_le _ _) (by lia)
   simp! only[el]
   refine⟨by lia,Cl++((opC n s).filter fun c=>b r c !=0).map fun c=>(r,c),_,fun p=>?_,by simp;lia,by rw[List.map_append]⟩
   rw[List.mem_append,hCl,List.take_add_one,hi,List.mem_append]
   constructor
   ·rintro(⟨h1,h2⟩|h)
    ·exact⟨.inl h1,h2⟩
    ·obtain⟨c,hc,rfl⟩:=List.mem_map.mp h
     obtain⟨h1,h2⟩:=List.mem_filter.mp hc
     exact⟨.inr (by simp),h1,by simpa using h2⟩
   ·rintro⟨h1|h1,h2,h3⟩
    ·exact .inl ⟨h1,h2,h3⟩
    ·have:p.1=r:=by simpa using h1
     refine .inr (List.mem_map.mpr ⟨p.2,List.mem_filter.mpr ⟨h2,?_⟩,by rw[<-this]⟩)
     rw[<-this];simpa using h3
 ·rintro _ ⟨Cl,s3,hCl,hl,rfl⟩
  simp! only[]
  rw[List.take_length]at hCl
  refine⟨fun e=> .inl fun r hr c hc=>?_,fun e=>?_⟩
  ·have e:Cl=[]:=by
    cases Cl with
    |nil=>rfl
    |cons _ _=>exact absurd e (by simp;lia)
   subst e
   by_cases h:b r c=0
   ·exact h
   ·exact absurd ((hCl (r,c)).mpr ⟨hr,hc,h⟩) List.not_mem_nil
  ·simp! only[↓zcY]
   have ne:(Cl.map fun p=>cor b p)≠[]:=fun h=>e (by rw[List.map_eq_nil_iff.mp h];rfl)
   obtain⟨f,hf,e1,e2⟩:=min_rows (n:=3) ne
   obtain⟨p,hp,rfl⟩:=List.mem_map.mp hf
   obtain⟨p1,p2,p3⟩:=(hCl p).mp hp
   rw[show(Cl.map fun p=>D.tup (wI 3 (cor b p)))=zkP 3 (Cl.map fun p=>cor b p) by unfold zkP;rw[List.map_map];rfl,e1]
   simp! only[]
   refine .inr ⟨p.1,p.2,rfl,p1,p2,p3,fun i hi j hj h=>?_⟩
   have:=e2 _ (List.mem_map.mpr ⟨(i,j),(hCl (i,j)).mpr ⟨hi,hj,h⟩,rfl⟩) 0 (by lia) (fun p h=>by lia)
   simp only[cor,if_true]at this
   lia
theorem zd2 {r c:Nat}(hd:s.Pairwise fun p q=>p.1≠q.1)(h:(r,c)∈s)(hr:r<t)(hc:c<n):Ok (zaP [oD t n b w v k s,.int (r:Nat)]) fun x=>x= .val (.int (b r c)):=by
 simp! only[↓zaP,↓zcC,tb,zmQ,zfB hd h,zao _ hr,zao _ hc]
end
def zca (b:Mx)(r o:Nat)(q:Int):Mx:=fun i j=>if i=r then b r j-q*b o j else b i j
def zml (b:Mx)(c o:Nat)(q:Int):Mx:=fun i j=>if j=c then b i c-q*b i o else b i j
theorem zk9 (b:Mx)(r o:Nat)(q:Int):zca b r o q=fun i=>if i=r then fun j=>b r j-q*b o j else b i:=by
 funext i j;unfold zca;split<;>rfl
abbrev oT (t n:Nat)(b w v k:Mx)(s:List (Nat×Nat)):Sl:= .ptr (.obj slC slN (tb t n b w v k) (some (sk s)))
section
variable {t n:Nat} {b w v k:Mx} {s:List (Nat×Nat)}
theorem ziQ {f:Nat->D}(h:∀i,isLst (f i)=true)(n1:1<=n):(wL n f).any isLst=true:=
 List.any_eq_true.mpr ⟨f 0,List.mem_of_getElem? (zao f (show 0<n by lia)),h 0⟩
theorem zgX (t1:1<=t)(n1:1<=n):okLs (tb t n b w v k)=true:=by
 unfold okLs tb
 simp only[List.all_cons,List.all_nil,Bool.and_true,Bool.and_eq_true]
 exact⟨ziQ (fun _=>rfl) t1,ziQ (fun _=>rfl) t1,ziQ (fun _=>rfl) n1,ziQ (fun _=>rfl) n1⟩
theorem zfZ (n:Nat)(f:Nat->Int):fl2 (.lst (wI n f))=true:=by
 show(wI n f).all zmb=true
 rw[List.all_eq_true]
 intro d hd
 obtain⟨i,_,rfl⟩:=List.mem_map.mp hd
 rfl
theorem tb0 (hr:r<t)(f:Nat->Int):(tb t n b w v k).set 0 ((wL t fun i=> .lst (wI n (b i))).set r (.lst (wI n f)))=tb t n (fun i=>if i=r then f else b i) w v k:=by
 unfold tb
 rw[zii _ _ hr,List.set_cons_zero]
 congr 2
 funext j
 by_cases h:j=r<;>simp only[h,if_true,if_false]
theorem tb1 (hr:r<t)(f:Nat->Int):(tb t n b w v k).set 1 ((wL t fun i=> .lst (wI t (w i))).set r (.lst (wI t f)))=tb t n b (fun i=>if i=r then f else w i) v k:=by
 unfold tb
 rw[zii _ _ hr,List.set_cons_succ,List.set_cons_zero]
 congr 3
 funext j
 by_cases h:j=r<;>simp only[h,if_true,if_false]
theorem tb2 (hr:r<n)(f:Nat->Int):(tb t n b w v k).set 2 ((wL n fun i=> .lst (wI n (v i))).set r (.lst (wI n f)))=tb t n b w (fun i=>if i=r then f else v i) k:=by
 unfold tb
 rw[zii _ _ hr,List.set_cons_succ,List.set_cons_succ,List.set_cons_zero]
 congr 4
 funext j
 by_cases h:j=r<;>simp only[h,if_true,if_false]
theorem tb3 (hr:r<n)(f:Nat->Int):(tb t n b w v k).set 3 ((wL n fun i=> .lst (wI n (k i))).set r (.lst (wI n f)))=tb t n b w v (fun i=>if i=r then f else k i):=by
 unfold tb
 rw[zii _ _ hr,List.set_cons_succ,List.set_cons_succ,List.set_cons_succ,List.set_cons_zero]
 congr 5
 funext j
 by_cases h:j=r<;>simp only[h,if_true,if_false]
theorem g0:(tb t n b w v k)[0]? =some (wL t fun i=> .lst (wI n (b i))):=rfl
theorem g1:(tb t n b w v k)[1]? =some (wL t fun i=> .lst (wI t (w i))):=rfl
theorem g2:(tb t n b w v k)[2]? =some (wL n fun i=> .lst (wI n (v i))):=rfl
theorem g3:(tb t n b w v k)[3]? =some (wL n fun i=> .lst (wI n (k i))):=rfl
theorem zkF (t1:1<=t)(n1:1<=n)(ht:t<=100)(hn:n<=100)(hr:r<t)(ho:o<t)(hb:∀j,j<n->zbO q (b o j)=true)(hw:∀j,j<t->zbO q (w o j)=true):
  Ok (zcW [oT t n b w v k s,.val (.int (r:Nat)),.val (.int (o:Nat)),.val (.int q)]) fun x=>x=(.val .non,[oT t n (zca b r o q) (zca w r o q) v k s,.emp,.emp,.emp]):=by
 simp! only[↓zcW,↓zgq]
 rw[zdk rfl rfl (zgX t1 n1)]
 simp! only[g0,zao _ hr,zao _ ho]
 refine(zb2 (Sq.lst n (b r)) (Sq.lst n (b o)) hn hb).mono ?_
 rintro _ rfl
 simp! only[zfZ]
 refine⟨rfl,?_⟩
 simp! only[g0,zay,hr,tb0 hr]
 rw[zdk rfl rfl (zgX t1 n1)]
 simp! only[g1,zao _ hr,zao _ ho]
 refine(zb2 (Sq.lst t (w r)) (Sq.lst t (w o)) ht hw).mono ?_
 rintro _ rfl
 simp! only[zfZ]
 refine⟨rfl,?_⟩
 simp! only[g1,zay,hr,tb1 hr]
 rw[zk9,zk9]
theorem zh8 (t1:1<=t)(n1:1<=n)(ht:t<=100)(hn:n<=100)(hc:c<n)(ho:o<n)(hb:∀i,i<t->zbO q (b i o)=true)(hv:∀j,j<n->zbO q (v o j)=true)(hk:∀j,j<n->zbO (-q) (k c j)=true):
  Ok (zbm [oT t n b w v k s,.val (.int (c:Nat)),.val (.int (o:Nat)),.val (.int q)]) fun x=>x=(.val .non,[oT t n (zml b c o q) w (zca v c o q) (zca k o c (-q)) s,.emp,.emp,.emp]):=by
 simp! only[↓zbm,↓zdl]
 rw[zkT rfl rfl (zgX t1 n1)]
 simp! only[↓zdF,g0,zay]
 refine⟨by lia,zaC (fun ρ=>∃y,ρ=[.val (.int (c:Nat)),.val (.int (o:Nat)),.val (.int q),y]) (fun i=> .lst (wI n fun j=>if j=c then b i c-q*b i o else b i j)) ⟨_,rfl⟩ ?_ ?_⟩
 ·rintro i _ hi ⟨y,rfl⟩
  simp! only[↓zdB]
  refine(zfk (b i) hn hc ho (hb i hi)).mono ?_
  rintro _ rfl
  simp! only[]
  exact⟨_,rfl⟩
 ·rintro _ ⟨y,rfl⟩
  simp! only[]
  refine⟨⟨?_,rfl⟩,?_⟩
  ·rw[List.all_eq_true]
   intro d hd
   obtain⟨i,_,rfl⟩:=List.mem_map.mp hd
   exact zfZ _ _
  have e:(tb t n b w v k).set 0 (wL t fun i=> .lst (wI n fun j=>if j=c then b i c-q*b i o else b i j))=tb t n (zml b c o q) w v k:=rfl
  refine⟨show 0<4 by lia,?_⟩
  simp! only[e]
  rw[zdk rfl rfl (zgX t1 n1)]
  simp! only[g2,zao _ hc,zao _ ho]
  refine(zb2 (Sq.lst n (v c)) (Sq.lst n (v o)) hn hv).mono ?_
  rintro _ rfl
  simp! only[zfZ]
  refine⟨rfl,?_⟩
  simp! only[g2,zay,hc,tb2 hc]
  rw[zdk rfl rfl (zgX t1 n1)]
  simp! only[g3,zao _ hc,zao _ ho]
  refine(zb2 (Sq.lst n (k o)) (Sq.lst n (k c)) hn hk).mono ?_
  rintro _ rfl
  simp! only[zfZ]
  refine⟨rfl,?_⟩
  simp! only[g3,zay,ho,tb3 ho]
  rw[zk9,zk9]
end
theorem zdc (x:Int)(o:Nat):∀n,sumR n (fun j=>if j=o then x else 0)=if o<n then x else 0
 |0=>by simp[sumR]
 |n+1=>by
  show sumR n _+(if n=o then x else 0)=_
  rw[zdc x o n]
  by_cases h:n=o
  ·subst h;rw[if_neg (by lia),if_pos rfl,if_pos (by lia)];lia
  ·rw[if_neg h]
   by_cases h2:o<n
   ·rw[if_pos h2,if_pos (by lia)];lia
   ·rw[if_neg h2,if_neg (by lia)];lia
theorem zek (hi:i<n)(f:Nat->Int):sumR n (fun j=>un i j*f j)=f i:=by
 rw[zae (g:=fun j=>if j=i then f i else 0) fun j _=>by
  unfold un
  by_cases h:j=i
  ·subst h;simp
  ·simp[h],zdc,if_pos hi]
theorem sumR_unr (hi:i<n)(f:Nat->Int):sumR n (fun j=>f j*un i j)=f i:=by
 rw[zae (g:=fun j=>un i j*f j) fun j _=>Int.mul_comm _ _,zek hi]
structure Inv (t n:Nat) (A b w v k:Mx):Prop where
 bl:∀i,i<t->∀j,j<n->b i j=sumR t fun a=>sumR n fun p=>w i a*A a p*v j p
 wi:∀z:Nat->Int,(∀i,i<t->sumR t (fun a=>w i a*z a)=0)->∀a,a<t->z a=0
 kv:∀p q,p<n->q<n->sumR n (fun j=>k j p*v j q)=un p q
 vk:∀i j,i<n->j<n->sumR n (fun p=>v i p*k j p)=un i j
section
variable {t n:Nat} {A b w v k:Mx}
theorem Inv.start (t n:Nat)(A:Mx):Inv t n A A un un un where
 bl:=fun i hi j hj=>by
  rw[zae (g:=fun a=>un i a*A a j) fun a _=>?_,zek hi]
  rw[zae (g:=fun p=>(un i a*A a p)*un j p) fun p _=>rfl,sumR_unr hj]
 wi:=fun z h a ha=>by
  have:=h a ha
  rwa[zek ha]at this
 kv:=fun p q hp hq=>by
  rw[zae (g:=fun j=>un p j*un q j) fun j _=>by
   unfold un
   by_cases h1:p=j<;>by_cases h2:q=j<;>simp[h1,h2,eq_comm],zek hp]
  unfold un
  by_cases h:p=q
  ·subst h;rfl
  ·rw[if_neg h,if_neg (Ne.symm h)]
 vk:=fun i j hi hj=>by
  rw[zek hi]
  unfold un
  by_cases h:i=j
  ·subst h;rfl
  ·rw[if_neg h,if_neg (Ne.symm h)]
theorem Inv.row (I:Inv t n A b w v k)(hr:r<t)(ho:o<t)(hro:r≠o)(q:Int):Inv t n A (zca b r o q) (zca w r o q) v k where
 bl:=fun i hi j hj=>by
  unfold zca
  by_cases h:i=r
  ·simp only[h,if_true]
   rw[I.bl r hr j hj,I.bl o ho j hj,<-za0,<-zcv]
   refine zae fun a _=>?_
   rw[<-za0,<-zcv]
   refine zae fun p _=>?_
   grind
  ·simp only[h,if_false]
   exact I.bl i hi j hj
 wi:=fun z h=>by
  refine I.wi z fun i hi=>?_
  have ne:∀i,i<t->i≠r->sumR t (fun a=>w i a*z a)=0:=fun i hi hir=>by
   have:=h i hi
   unfold zca at this
   simpa only[hir,if_false]using this
  by_cases hir:i=r
  ·subst hir
   have h1:=h i hi
   unfold zca at h1
   simp only[if_true]at h1
   rw[zae (g:=fun a=>w i a*z a-q*(w o a*z a)) fun a _=>by grind,zcv,za0,ne o ho (Ne.symm hro)]at h1
   lia
  ·exact ne i hi hir
 kv:=I.kv
 vk:=I.vk
theorem Inv.col (I:Inv t n A b w v k)(hc:c<n)(ho:o<n)(hco:c≠o)(q:Int):Inv t n A (zml b c o q) w (zca v c o q) (zca k o c (-q)) where
 bl:=fun i hi j hj=>by
  unfold zml zca
  by_cases h:j=c
  ·simp only[h,if_true]
   rw[I.bl i hi c hc,I.bl i hi o ho,<-za0,<-zcv]
   refine zae fun a _=>?_
   rw[<-za0,<-zcv]
   refine zae fun p _=>?_
   grind
  ·simp only[h,if_false]
   exact I.bl i hi j hj
 wi:=I.wi
 kv:=fun p p' hp hp'=>by
  rw[<-I.kv p p' hp hp']
  rw[zae (g:=fun j=>k j p*v j p'+((if j=o then q*(k c p*v o p')else 0)+(if j=c then-(q*(k c p*v o p'))else 0))) fun j _=>?_,zbk,zbk,zdc,zdc,if_pos ho,if_pos hc]
  ·lia
  ·unfold zca
   by_cases h1:j=o
   ·have:¬j=c:=fun z=>hco (z ▸ h1)
    have h2:¬o=c:=Ne.symm hco
    simp only[h1,h2,if_true,if_false]
    grind
   ·by_cases h2:j=c
    ·simp only[h1,h2,hco,if_true,if_false]
     grind
    ·simp only[h1,h2,if_false]
     lia
 vk:=fun i j hi hj=>by
  have key:∀x y:Nat->Int,sumR n (fun p=>(x p-q*v o p)*y p)=sumR n (fun p=>x p*y p)-q*sumR n (fun p=>v o p*y p):=fun x y=>by
   rw[zae (g:=fun p=>x p*y p-q*(v o p*y p)) fun p _=>by grind,zcv,za0]
  have key2:∀x y:Nat->Int,sumR n (fun p=>x p*(y p- -q*k c p))=sumR n (fun p=>x p*y p)+q*sumR n (fun p=>x p*k c p):=fun x y=>by
   rw[zae (g:=fun p=>x p*y p+q*(x p*k c p)) fun p _=>by grind,zbk,za0]
  unfold zca
  by_cases h1:i=c
  ·by_cases h2:j=o
   ·subst h1 h2
    simp only[if_true]
    rw[key (fun p=>v i p) (fun p=>k j p- -q*k i p),key2 (fun p=>v i p),key2 (fun p=>v j p),I.vk i j hi hj,I.vk i i hi hi,I.vk j j hj hj,I.vk j i hj hi]
    unfold un
    rw[if_pos rfl,if_pos rfl,if_neg hco,if_neg (Ne.symm hco)]
    lia
   ·simp only[h1,h2,if_true,if_false]
    rw[key (fun p=>v c p) (fun p=>k j p),I.vk c j hc hj,I.vk o j ho hj]
    unfold un
    rw[if_neg h2 (α:=Int)]
    lia
  ·by_cases h2:j=o
   ·simp only[h1,h2,if_true,if_false]
    rw[key2 (fun p=>v i p) (fun p=>k o p),I.vk i o hi ho,I.vk i c hi hc]
    unfold un
    rw[if_neg (Ne.symm h1) (α:=Int)]
    lia
   ·simp only[h1,h2,if_false]
    exact I.vk i j hi hj
end
def rnd (b:Nat->Nat->Int)(r c:Nat)(i j:Nat):Int:=
 if i=r then(if j=c then b r c else b r j-(b r j).fdiv (b r c)*b r c)
 else if j=c then b i c-(b i c).fdiv (b r c)*b r c
 else b i j-(b i c).fdiv (b r c)*b r j-(b r j).fdiv (b r c)*(b i c-(b i c).fdiv (b r c)*b r c)
def m2 (b:Nat->Nat->Int)(i k j l:Nat):Int:=b i j*b k l-b i l*b k j
def d3 (b:Nat->Nat->Int)(i k o j l q:Nat):Int:=b i j*m2 b k o l q-b i l*m2 b k o j q+b i q*m2 b k o j l
theorem zaO {a p:Int}(h:p≠0):(a-a.fdiv p*p).natAbs<p.natAbs:=by
 have e:a-a.fdiv p*p=a.fmod p:=by have:=Int.mul_fdiv_add_fmod a p;rw[Int.mul_comm]at this;lia
 rw[e]
 have pos:∀a p:Int,0<p->(a.fmod p).natAbs<p.natAbs:=fun a p h=>by
  have h1:=Int.fmod_nonneg_of_pos a h
  have h2:=Int.fmod_lt_of_pos a h
  lia
 rcases Int.lt_or_gt_of_ne h with h|h
 ·have e2:a.fmod p= -((-a).fmod (-p)):=by rw[Int.neg_fmod_neg];lia
  have:=pos (-a) (-p) (by lia)
  rw[e2,Int.natAbs_neg]
  lia
 ·exact pos a p h
theorem zdK (b:Nat->Nat->Int)(r c:Nat):rnd b r c r c=b r c:=by simp[rnd]
section
variable {b:Nat->Nat->Int} {r c:Nat}
theorem zdI (hj:j≠c):rnd b r c r j=b r j-(b r j).fdiv (b r c)*b r c:=by simp[rnd,hj]
theorem zen (hi:i≠r):rnd b r c i c=b i c-(b i c).fdiv (b r c)*b r c:=by simp[rnd,hi]
theorem zmz (hi:i≠r)(hj:j≠c):rnd b r c i j=b i j-(b i c).fdiv (b r c)*b r j-(b r j).fdiv (b r c)*(b i c-(b i c).fdiv (b r c)*b r c):=by simp[rnd,hi,hj]
theorem zhH (hi:i≠r)(hj:j≠c):m2 (rnd b r c) r i c j=m2 b r i c j:=by
 unfold m2
 rw[zdK,zdI hj,zen hi,zmz hi hj]
 generalize (b i c).fdiv (b r c)=q
 generalize (b r j).fdiv (b r c)=q'
 grind
theorem zne {i k j l:Nat}(hi:i≠r)(hk:k≠r)(hj:j≠c)(hl:l≠c):d3 (rnd b r c) r i k c j l=d3 b r i k c j l:=by
 unfold d3 m2
 rw[zdK,zdI hj,zdI hl,zen hi,zen hk,zmz hi hj,zmz hi hl,zmz hk hj,zmz hk hl]
 generalize (b i c).fdiv (b r c)=q1
 generalize (b k c).fdiv (b r c)=q2
 generalize (b r j).fdiv (b r c)=q3
 generalize (b r l).fdiv (b r c)=q4
 grind
theorem zk4 (b:Nat->Nat->Int)(i j l:Nat):m2 b i i j l=0:=by unfold m2;grind
theorem zlE (b:Nat->Nat->Int)(i k j:Nat):m2 b i k j j=0:=by unfold m2;grind
theorem zlH (b:Nat->Nat->Int)(i k j l:Nat):m2 b k i j l= -m2 b i k j l:=by unfold m2;grind
theorem zfy (b:Nat->Nat->Int)(i k j l:Nat):m2 b i k l j= -m2 b i k j l:=by unfold m2;grind
theorem zk8 (b:Nat->Nat->Int)(i k o j l q:Nat):d3 b k i o j l q= -d3 b i k o j l q:=by unfold d3 m2;grind
theorem zll (b:Nat->Nat->Int)(i k o j l q:Nat):d3 b i o k j l q= -d3 b i k o j l q:=by unfold d3 m2;grind
theorem zlg (b:Nat->Nat->Int)(i k o j l q:Nat):d3 b i k o l j q= -d3 b i k o j l q:=by unfold d3 m2;grind
theorem zlb (b:Nat->Nat->Int)(i k o j l q:Nat):d3 b i k o j q l= -d3 b i k o j l q:=by unfold d3 m2;grind
theorem zlW (b:Nat->Nat->Int)(i o j l q:Nat):d3 b i i o j l q=0:=by unfold d3 m2;grind
theorem d3_self2 (b:Nat->Nat->Int)(i k j l q:Nat):d3 b i k k j l q=0:=by unfold d3 m2;grind
theorem zkW (b:Nat->Nat->Int)(i k o j q:Nat):d3 b i k o j j q=0:=by unfold d3 m2;grind
theorem d3_self4 (b:Nat->Nat->Int)(i k o j l:Nat):d3 b i k o j l l=0:=by unfold d3 m2;grind
end
theorem zaw {a b:Int}{A B:Nat}(ha:a.natAbs<=A)(hb:b.natAbs<=B):(a*b).natAbs<=A*B:=by rw[Int.natAbs_mul];exact Nat.mul_le_mul ha hb
theorem zik (a b:Int):(a+b).natAbs<=a.natAbs+b.natAbs:=by lia
theorem zjF {p y:Int}{M:Nat}(h0:p≠0)(h:(p*y).natAbs<=M):y.natAbs<=M:=by
 rw[Int.natAbs_mul]at h
 have:1<=p.natAbs:=by lia
 exact Nat.le_trans (Nat.le_mul_of_pos_left _ this) h
theorem y_le {p y m t s:Int}{M P:Nat}(e:p*y=m+t*s)(hm:m.natAbs<=M)(ht:t.natAbs<p.natAbs)(hs:s.natAbs<p.natAbs)(hp:p.natAbs<=P):(p*y).natAbs<=M+P*P:=by
 rw[e]
 have h1:=zik m (t*s)
 have h2:=zaw (A:=P) (B:=P) (Nat.le_trans (Nat.le_of_lt ht) hp) (Nat.le_trans (Nat.le_of_lt hs) hp)
 lia
theorem ty_le {p y t:Int}(h:(p*y).natAbs<=K)(ht:t.natAbs<p.natAbs):(t*y).natAbs<=K:=by
 rw[Int.natAbs_mul]at h ⊢
 exact Nat.le_trans (Nat.mul_le_mul_right _ (Nat.le_of_lt ht)) h
theorem div_le {p m d x y:Int}{D C:Nat}(h0:p≠0)(e:p*m=d+x-y)(hd:d.natAbs<=D)(hx:x.natAbs<=p.natAbs*(2*C))(hy:y.natAbs<=p.natAbs*(2*C)):m.natAbs<=D+4*C:=by
 have h1:(p*m).natAbs<=D+p.natAbs*(2*C)+p.natAbs*(2*C):=by rw[e];lia
 rw[Int.natAbs_mul]at h1
 have hp:0<p.natAbs:=by lia
 refine Nat.le_of_mul_le_mul_left (Nat.le_trans h1 ?_) hp
 have h2:D<=p.natAbs*D:=Nat.le_mul_of_pos_left _ hp
 have h3:p.natAbs*(D+4*C)=p.natAbs*D+(p.natAbs*(2*C)+p.natAbs*(2*C)):=by rw[<-Nat.mul_add,<-Nat.mul_add];congr 1;lia
 lia
def Mb (Ro Co:List Nat)(b:Nat->Nat->Int)(M:Nat):Prop:=∀i,i∈Ro->∀k,k∈Ro->∀j,j∈Co->∀l,l∈Co->(m2 b i k j l).natAbs<=M
def Db (Ro Co:List Nat)(b:Nat->Nat->Int)(D:Nat):Prop:=∀i,i∈Ro->∀k,k∈Ro->∀o,o∈Ro->∀j,j∈Co->∀l,l∈Co->∀q,q∈Co->(d3 b i k o j l q).natAbs<=D
section
variable {b:Nat->Nat->Int} {r c:Nat} {Ro Co:List Nat} {M P D:Nat}
theorem y_eq (hi:i≠r)(hj:j≠c):b r c*rnd b r c i j=m2 b r i c j+rnd b r c i c*rnd b r c r j:=by
 have h:=zhH (b:=b) hi hj
 unfold m2 at h
 rw[zdK]at h
 rw[show m2 b r i c j=b r c*b i j-b r j*b i c from rfl,<-h]
 grind
theorem py_le (hr:r∈Ro)(hc:c∈Co)(h0:b r c≠0)(hp:(b r c).natAbs<=P)(hM:Mb Ro Co b M)(mi:i∈Ro)(mj:j∈Co)(hi:i≠r)(hj:j≠c):(b r c*rnd b r c i j).natAbs<=M+P*P:=
 y_le (y_eq hi hj) (hM r hr i mi c hc j mj) (by rw[zen hi];exact zaO h0) (by rw[zdI hj];exact zaO h0) hp
theorem znk (hr:r∈Ro)(hc:c∈Co)(h0:b r c≠0)(hp:(b r c).natAbs<=P)(hM:Mb Ro Co b M)(mi:i∈Ro)(mj:j∈Co):(rnd b r c i j).natAbs<=M+P*P+P:=by
 by_cases hi:i=r
 ·subst hi
  by_cases hj:j=c
  ·subst hj;rw[zdK];lia
  ·rw[zdI hj];have:=zaO (a:=b i j) h0;lia
 ·by_cases hj:j=c
  ·subst hj;rw[zen hi];have:=zaO (a:=b i j) h0;lia
  ·have:=zjF h0 (py_le hr hc h0 hp hM mi mj hi hj);lia
theorem mb_rnd (hr:r∈Ro)(hc:c∈Co)(h0:b r c≠0)(hp:(b r c).natAbs<=P)(hM:Mb Ro Co b M)(hD:Db Ro Co b D):Mb Ro Co (rnd b r c) (D+4*(M+P*P)):=by
 have K:=fun{i j:Nat} (mi:i∈Ro) (mj:j∈Co) (hi:i≠r) (hj:j≠c)=>py_le hr hc h0 hp hM mi mj hi hj
 have A:∀{i j:Nat},i∈Ro->j∈Co->i≠r->j≠c->(m2 (rnd b r c) r i c j).natAbs<=M:=fun mi mj hi hj=>by rw[zhH hi hj];exact hM r hr _ mi c hc _ mj
 have Bc:∀{i j l:Nat},i∈Ro->j∈Co->l∈Co->i≠r->j≠c->l≠c->(m2 (rnd b r c) r i j l).natAbs<=2*(M+P*P):=fun{i j l} mi mj ml hi hj hl=>by
  unfold m2
  have k1:=ty_le (K mi ml hi hl) (show(rnd b r c r j).natAbs<_ by rw[zdI hj];exact zaO h0)
  have k2:=ty_le (K mi mj hi hj) (show(rnd b r c r l).natAbs<_ by rw[zdI hl];exact zaO h0)
  lia
 have Cc:∀{i k j:Nat},i∈Ro->k∈Ro->j∈Co->i≠r->k≠r->j≠c->(m2 (rnd b r c) i k c j).natAbs<=2*(M+P*P):=fun{i k j} mi mk mj hi hk hj=>by
  unfold m2
  have k1:=ty_le (K mk mj hk hj) (show(rnd b r c i c).natAbs<_ by rw[zen hi];exact zaO h0)
  have k2:=ty_le (K mi mj hi hj) (show(rnd b r c k c).natAbs<_ by rw[zen hk];exact zaO h0)
  rw[Int.mul_comm (rnd b r c i j)]
  lia
 have Dc:∀{i k j l:Nat},i∈Ro->k∈Ro->j∈Co->l∈Co->i≠r->k≠r->j≠c->l≠c->(m2 (rnd b r c) i k j l).natAbs<=D+4*(M+P*P):=fun{i k j l} mi mk mj ml hi hk hj hl=>by
  have e:=zne (b:=b) hi hk hj hl
  have hd:=hD r hr i mi k mk c hc j mj l ml
  rw[<-e]at hd
  have c1:=Cc mi mk ml hi hk hl
  have c2:=Cc mi mk mj hi hk hj
  have s1:(rnd b r c r j).natAbs<(b r c).natAbs:=by rw[zdI hj];exact zaO h0
  have s2:(rnd b r c r l).natAbs<(b r c).natAbs:=by rw[zdI hl];exact zaO h0
  have q:b r c*m2 (rnd b r c) i k j l=d3 (rnd b r c) r i k c j l+rnd b r c r j*m2 (rnd b r c) i k c l-rnd b r c r l*m2 (rnd b r c) i k c j:=by
   unfold d3;rw[zdK];grind
  have a1:=zaw (Nat.le_of_lt s1) c1
  have a2:=zaw (Nat.le_of_lt s2) c2
  exact div_le h0 q hd a1 a2
 intro i mi k mk j mj l ml
 have le:∀{x:Int},x.natAbs<=2*(M+P*P)->x.natAbs<=D+4*(M+P*P):=fun h=>by lia
 have leM:∀{x:Int},x.natAbs<=M->x.natAbs<=D+4*(M+P*P):=fun h=>by lia
 by_cases hik:i=k
 ·subst hik;rw[zk4];simp
 by_cases hjl:j=l
 ·subst hjl;rw[zlE];simp
 by_cases hi:i=r
 ·subst hi
  by_cases hj:j=c
  ·subst hj;exact leM (A mk ml (Ne.symm hik) (Ne.symm hjl))
  ·by_cases hl:l=c
   ·subst hl;rw[zfy,Int.natAbs_neg];exact leM (A mk mj (Ne.symm hik) hj)
   ·exact le (Bc mk mj ml (Ne.symm hik) hj hl)
 by_cases hk:k=r
 ·subst hk
  rw[zlH,Int.natAbs_neg]
  by_cases hj:j=c
  ·subst hj;exact leM (A mi ml hi (Ne.symm hjl))
  ·by_cases hl:l=c
   ·subst hl;rw[zfy,Int.natAbs_neg];exact leM (A mi mj hi hj)
   ·exact le (Bc mi mj ml hi hj hl)
 by_cases hj:j=c
 ·subst hj;exact le (Cc mi mk ml hi hk (Ne.symm hjl))
 by_cases hl:l=c
 ·subst hl;rw[zfy,Int.natAbs_neg];exact le (Cc mi mk mj hi hk hj)
 exact Dc mi mk mj ml hi hk hj hl
theorem zoe (n:Ro.length<=3)(hr:r∈Ro)(mi:i∈Ro)(mk:k∈Ro)(mo:o∈Ro)(h1:i≠k)(h2:i≠o)(h3:k≠o):∃i' k',i'∈Ro/\k'∈Ro/\i'≠r/\k'≠r/\∀(b:Nat->Nat->Int) (j l q:Nat),(d3 b i k o j l q).natAbs=(d3 b r i' k' j l q).natAbs:=by
 have:i=r\/k=r\/o=r:=by
  match Ro,n with
  |[],_=>simp at hr
  |[a],_=>simp at hr mi mk mo;lia
  |[a,b],_=>simp at hr mi mk mo;lia
  |[a,b,c],_=>simp at hr mi mk mo;lia
  |_::_::_::_::_,n=>simp at n
 rcases this with rfl|rfl|rfl
 ·exact⟨k,o,mk,mo,h1.symm,h2.symm,fun _ _ _ _=>rfl⟩
 ·exact⟨i,o,mi,mo,h1,h3.symm,fun b j l q=>by rw[zk8,Int.natAbs_neg]⟩
 ·exact⟨i,k,mi,mk,h2,h3,fun b j l q=>by rw[zll,zk8];simp⟩
theorem znL {j l q:Nat}(n:Co.length<=3)(hc:c∈Co)(mj:j∈Co)(ml:l∈Co)(mq:q∈Co)(h1:j≠l)(h2:j≠q)(h3:l≠q):∃j' l',j'∈Co/\l'∈Co/\j'≠c/\l'≠c/\∀(b:Nat->Nat->Int) (i k o:Nat),(d3 b i k o j l q).natAbs=(d3 b i k o c j' l').natAbs:=by
 have:j=c\/l=c\/q=c:=by
  match Co,n with
  |[],_=>simp at hc
  |[a],_=>simp at hc mj ml mq;lia
  |[a,b],_=>simp at hc mj ml mq;lia
  |[a,b,c],_=>simp at hc mj ml mq;lia
  |_::_::_::_::_,n=>simp at n
 rcases this with rfl|rfl|rfl
 ·exact⟨l,q,ml,mq,h1.symm,h2.symm,fun _ _ _ _=>rfl⟩
 ·exact⟨j,q,mj,mq,h1,h3.symm,fun b i k o=>by rw[zlg,Int.natAbs_neg]⟩
 ·exact⟨j,l,mj,ml,h2,h3,fun b i k o=>by rw[zlb,zlg];simp⟩
theorem db_rnd (n:Ro.length<=3)(m:Co.length<=3)(hr:r∈Ro)(hc:c∈Co)(hD:Db Ro Co b D):Db Ro Co (rnd b r c) D:=by
 intro i mi k mk o mo j mj l ml q mq
 by_cases h1:i=k
 ·subst h1;rw[zlW];simp
 by_cases h3:k=o
 ·subst h3;rw[d3_self2];simp
 by_cases h2:i=o
 ·subst h2;rw[zll,zlW];simp
 by_cases g1:j=l
 ·subst g1;rw[zkW];simp
 by_cases g3:l=q
 ·subst g3;rw[d3_self4];simp
 by_cases g2:j=q
 ·subst g2;rw[zlb,zkW];simp
 obtain⟨i',k',mi',mk',hi',hk',e⟩:=zoe n hr mi mk mo h1 h2 h3
 obtain⟨j',l',mj',ml',hj',hl',f⟩:=znL m hc mj ml mq g1 g2 g3
 rw[e,f,zne hi' hk' hj' hl']
 exact hD r hr i' mi' k' mk' c hc j' mj' l' ml'
theorem mb2_rnd (n:Ro.length<=2)(m:Co.length<=2)(hr:r∈Ro)(hc:c∈Co)(hM:Mb Ro Co b M):Mb Ro Co (rnd b r c) M:=by
 intro i mi k mk j mj l ml
 by_cases h1:i=k
 ·subst h1;rw[zk4];simp
 by_cases g1:j=l
 ·subst g1;rw[zlE];simp
 have h:i=r\/k=r:=by
  match Ro,n with
  |[],_=>simp at hr
  |[a],_=>simp at hr mi mk;lia
  |[a,b],_=>simp at hr mi mk;lia
  |_::_::_::_,n=>simp at n
 have g:j=c\/l=c:=by
  match Co,m with
  |[],_=>simp at hc
  |[a],_=>simp at hc mj ml;lia
  |[a,b],_=>simp at hc mj ml;lia
  |_::_::_::_,n=>simp at n
 rcases h with rfl|rfl
 ·rcases g with rfl|rfl
  ·rw[zhH (Ne.symm h1) (Ne.symm g1)];exact hM _ hr _ mk _ hc _ ml
  ·rw[zfy,Int.natAbs_neg,zhH (Ne.symm h1) g1];exact hM _ hr _ mk _ hc _ mj
 ·rw[zlH,Int.natAbs_neg]
  rcases g with rfl|rfl
  ·rw[zhH h1 (Ne.symm g1)];exact hM _ hr _ mi _ hc _ ml
  ·rw[zfy,Int.natAbs_neg,zhH h1 g1];exact hM _ hr _ mi _ hc _ mj
end
def Lst (Ro Co:List Nat)(b:Nat->Nat->Int)(r c:Nat):Prop:=r∈Ro/\c∈Co/\b r c≠0/\∀i,i∈Ro->∀j,j∈Co->b i j≠0->(b r c).natAbs<=(b i j).natAbs
def Opn (Ro Co:List Nat)(b:Nat->Nat->Int)(r c:Nat):Prop:=(∃i,i∈Ro/\i≠r/\rnd b r c i c≠0)\/(∃j,j∈Co/\j≠c/\rnd b r c r j≠0)
section
variable {b:Nat->Nat->Int} {r c r' c':Nat} {Ro Co:List Nat} {M P D U k:Nat}
theorem zcm (a p:Int):a-a.fdiv p*p=a.fmod p:=by have:=Int.mul_fdiv_add_fmod a p;rw[Int.mul_comm]at this;lia
theorem Opn.small (h0:b r c≠0)(o:Opn Ro Co b r c)(hr:r∈Ro)(hc:c∈Co):∃i,i∈Ro/\∃j,j∈Co/\rnd b r c i j≠0/\(rnd b r c i j).natAbs<(b r c).natAbs:=by
 rcases o with⟨i,mi,hi,h⟩|⟨j,mj,hj,h⟩
 ·exact⟨i,mi,c,hc,h,by rw[zen hi];exact zaO h0⟩
 ·exact⟨r,hr,j,mj,h,by rw[zdI hj];exact zaO h0⟩
theorem Lst.fall (l:Lst Ro Co b r c)(o:Opn Ro Co b r c)(l':Lst Ro Co (rnd b r c) r' c'):(rnd b r c r' c').natAbs<(b r c).natAbs:=by
 obtain⟨i,mi,j,mj,h,lt⟩:=o.small l.2.2.1 l.1 l.2.1
 exact Nat.lt_of_le_of_lt (l'.2.2.2 i mi j mj h) lt
def I3 (Ro Co:List Nat)(P D U k:Nat)(b:Nat->Nat->Int):Prop:=Db Ro Co b D/\Mb Ro Co b (U*5^k)/\∃i,i∈Ro/\∃j,j∈Co/\b i j≠0/\(b i j).natAbs+k<=P
theorem I3.low (I:I3 Ro Co P D U k b)(l:Lst Ro Co b r c):(b r c).natAbs+k<=P:=by
 obtain⟨_,_,i,mi,j,mj,h,p⟩:=I
 have:=l.2.2.2 i mi j mj h
 lia
theorem grow (hU:D+4*(P*P)<=U):D+4*(U*5^k+P*P)<=U*5^(k+1):=by
 have h:U<=U*5^k:=Nat.le_mul_of_pos_right _ (Nat.pow_pos (by lia))
 rw[Nat.pow_succ,<-Nat.mul_assoc]
 lia
theorem Mb.le {M N:Nat}(h:Mb Ro Co b M)(l:M<=N):Mb Ro Co b N:=fun i mi k mk j mj q mq=>Nat.le_trans (h i mi k mk j mj q mq) l
theorem I3.mb (I:I3 Ro Co P D U k b)(hU:D+4*(P*P)<=U)(l:Lst Ro Co b r c):Mb Ro Co (rnd b r c) (U*5^(k+1)):=
 (mb_rnd l.1 l.2.1 l.2.2.1 (show _<=P by have:=I.low l;lia) I.2.1 I.1).le (grow hU)
theorem I3.step (n:Ro.length<=3)(m:Co.length<=3)(I:I3 Ro Co P D U k b)(hU:D+4*(P*P)<=U)(l:Lst Ro Co b r c)(o:Opn Ro Co b r c):I3 Ro Co P D U (k+1) (rnd b r c):=by
 refine⟨db_rnd n m l.1 l.2.1 I.1,I.mb hU l,?_⟩
 obtain⟨i,mi,j,mj,h,lt⟩:=o.small l.2.2.1 l.1 l.2.1
 have:=I.low l
 exact⟨i,mi,j,mj,h,by lia⟩
theorem I3.ent (I:I3 Ro Co P D U k b)(l:Lst Ro Co b r c)(mi:i∈Ro)(mj:j∈Co):(rnd b r c i j).natAbs<=U*5^k+P*P+P:=
 znk l.1 l.2.1 l.2.2.1 (by have:=I.low l;lia) I.2.1 mi mj
end
theorem zfK (hz:0<z)(h:z<=x):2*(x.fmod z).natAbs<=x.natAbs:=by
 have h1:=Int.fmod_nonneg_of_pos x hz
 have h2:=Int.fmod_lt_of_pos x hz
 have e:=Int.mul_fdiv_add_fmod x z
 have q:1<=x.fdiv z:=by
  rcases Int.lt_or_le (x.fdiv z) 1 with h3|h3
  ·have:z*x.fdiv z<=z*0:=Int.mul_le_mul_of_nonneg_left (by lia) (by lia)
   lia
  ·exact h3
 have:z*1<=z*x.fdiv z:=Int.mul_le_mul_of_nonneg_left q (by lia)
 lia
theorem sgn (h:0<=x*z)(hz:z≠0)(hx:x≠0):(0<z/\0<x)\/(z<0/\x<0):=by
 rcases Int.lt_or_gt_of_ne hz with h1|h1<;>rcases Int.lt_or_gt_of_ne hx with h2|h2
 ·exact .inr ⟨h1,h2⟩
 ·have:=Int.mul_neg_of_pos_of_neg h2 h1;lia
 ·have:=Int.mul_neg_of_neg_of_pos h2 h1;lia
 ·exact .inl ⟨h1,h2⟩
theorem zhb {x z:Int}(s:0<=x*z)(hz:z≠0)(h:z.natAbs<=x.natAbs):2*(x.fmod z).natAbs<=x.natAbs:=by
 rcases sgn s hz (by intro e;subst e;simp at h;exact hz h)with⟨h1,h2⟩|⟨h1,h2⟩
 ·exact zfK h1 (by lia)
 ·have:=zfK (x:= -x) (z:= -z) (by lia) (by lia)
  rw[Int.neg_fmod_neg,Int.natAbs_neg,Int.natAbs_neg]at this
  exact this
theorem zcw (x:Int){p:Int}(h:p≠0):0<=p*x.fmod p:=by
 rcases Int.lt_or_gt_of_ne h with h1|h1
 ·have e2:x.fmod p= -((-x).fmod (-p)):=by rw[Int.neg_fmod_neg];lia
  have:=Int.fmod_nonneg_of_pos (-x) (show 0< -p by lia)
  rw[e2]
  exact Int.mul_nonneg_of_nonpos_of_nonpos (by lia) (by lia)
 ·exact Int.mul_nonneg (by lia) (Int.fmod_nonneg_of_pos x h1)
theorem zmy (e:x.fmod z=0)(h:z.natAbs<x.natAbs):2*z.natAbs<=x.natAbs:=by
 have f:=Int.mul_fdiv_add_fmod x z
 rw[e,Int.add_zero]at f
 rw[<-f,Int.natAbs_mul]at h ⊢
 have:2<=(x.fdiv z).natAbs:=by
  rcases Nat.lt_or_ge (x.fdiv z).natAbs 2 with h3|h3
  ·have:z.natAbs*(x.fdiv z).natAbs<=z.natAbs*1:=Nat.mul_le_mul_left _ (by lia)
   lia
  ·exact h3
 have:=Nat.mul_le_mul_left z.natAbs this
 lia
section
variable {b:Nat->Nat->Int} {r c r' c':Nat} {Ro Co:List Nat}
theorem Lst.cross (l:Lst Ro Co b r c)(o:Opn Ro Co b r c)(l':Lst Ro Co (rnd b r c) r' c')(h:(∃i,i∈Ro/\i≠r/\x=b i c)\/(∃j,j∈Co/\j≠c/\x=b r j))(s:0<=x*b r c)(lt:(b r c).natAbs<x.natAbs):2*(rnd b r c r' c').natAbs<=x.natAbs:=by
 have f:=l.fall o l'
 have hh:=zhb s l.2.2.1 (Nat.le_of_lt lt)
 by_cases z:x.fmod (b r c)=0
 ·have:=zmy z lt
  lia
 ·have:(rnd b r c r' c').natAbs<=(x.fmod (b r c)).natAbs:=by
   rcases h with⟨i,mi,hi,rfl⟩|⟨j,mj,hj,rfl⟩
   ·have e:rnd b r c i c=(b i c).fmod (b r c):=by rw[zen hi,zcm]
    rw[<-e];exact l'.2.2.2 i mi c l.2.1 (by rw[e];exact z)
   ·have e:rnd b r c r j=(b r j).fmod (b r c):=by rw[zdI hj,zcm]
    rw[<-e];exact l'.2.2.2 r l.1 j mj (by rw[e];exact z)
  lia
end
section
variable {b:Nat->Nat->Int} {r c r1 c1 r2 c2 r3 c3:Nat} {Ro Co:List Nat}
theorem zjO (n:l.length<=2){a b d:Nat}(ha:a∈l)(hb:b∈l)(hd:d∈l):a=b\/d=a\/d=b:=by
 match l,n with
 |[],_=>simp at ha
 |[x],_=>simp at ha hb hd;lia
 |[x,y],_=>simp at ha hb hd;lia
 |_::_::_::_,n=>simp at n
theorem across {p y t s p' t' s':Int}(e:y*p'-t'*s'=y*p-t*s)(hy:y≠0)(hp:p*y<0)(ht:t≠0->y.natAbs<=t.natAbs)(hs:s≠0->y.natAbs<=s.natAbs)(ht':t'.natAbs<y.natAbs)(hs':s'.natAbs<y.natAbs)(t0:t=0->t'=0)(s0:s=0->s'=0)(st:0<=t*s)(st':0<=t'*s'):p.natAbs<=p'.natAbs:=by
 have h1:(t'*s').natAbs<=(t*s).natAbs:=by
  by_cases a:t=0
  ·rw[t0 a];simp
  by_cases a2:s=0
  ·rw[s0 a2];simp
  rw[Int.natAbs_mul,Int.natAbs_mul]
  exact Nat.mul_le_mul (by have:=ht a;lia) (by have:=hs a2;lia)
 rw[Int.mul_comm p y]at hp
 have h2:(y*p).natAbs<=(y*p').natAbs:=by
  generalize t*s=u at*
  generalize t'*s'=u' at*
  generalize y*p=v at*
  generalize y*p'=v' at*
  lia
 rw[Int.natAbs_mul,Int.natAbs_mul]at h2
 exact Nat.le_of_mul_le_mul_left h2 (by lia)
theorem zbQ (h:x=0):x.fmod z=0:=by subst h;simp
theorem zi3 {p t s:Int}(hp:p≠0)(h1:0<=p*t)(h2:0<=p*s):0<=t*s:=by
 rcases Int.lt_or_gt_of_ne hp with h|h
 ·have a:t<=0:=by
   rcases Int.lt_or_le 0 t with g|g
   ·have:=Int.mul_neg_of_neg_of_pos h g;lia
   ·exact g
  have a2:s<=0:=by
   rcases Int.lt_or_le 0 s with g|g
   ·have:=Int.mul_neg_of_neg_of_pos h g;lia
   ·exact g
  exact Int.mul_nonneg_of_nonpos_of_nonpos a a2
 ·have a:0<=t:=by
   rcases Int.lt_or_le t 0 with g|g
   ·have:=Int.mul_neg_of_pos_of_neg h g;lia
   ·exact g
  have a2:0<=s:=by
   rcases Int.lt_or_le s 0 with g|g
   ·have:=Int.mul_neg_of_pos_of_neg h g;lia
   ·exact g
  exact Int.mul_nonneg a a2
theorem half3 (n:Ro.length<=2)(m:Co.length<=2)(l0:Lst Ro Co b r c)(o0:Opn Ro Co b r c){b1 b2 b3:Nat->Nat->Int}(e1:b1=rnd b r c)(l1:Lst Ro Co b1 r1 c1)(o1:Opn Ro Co b1 r1 c1)(e2:b2=rnd b1 r1 c1)(l2:Lst Ro Co b2 r2 c2)(o2:Opn Ro Co b2 r2 c2)(e3:b3=rnd b2 r2 c2)(l3:Lst Ro Co b3 r3 c3):2*(b3 r3 c3).natAbs<=(b r c).natAbs:=by
 have f0:(b1 r1 c1).natAbs<(b r c).natAbs:=by subst e1;exact l0.fall o0 l1
 have f1:(b2 r2 c2).natAbs<(b1 r1 c1).natAbs:=by subst e2;exact l1.fall o1 l2
 have f2:(b3 r3 c3).natAbs<(b2 r2 c2).natAbs:=by subst e3;exact l2.fall o2 l3
 have h0:=l0.2.2.1
 have h1:=l1.2.2.1
 have corner:b1 r c=b r c:=by rw[e1,zdK]
 have corner2:b2 r1 c1=b1 r1 c1:=by rw[e2,zdK]
 have tS:∀i,i≠r->b1 i c=(b i c).fmod (b r c):=fun i hi=>by rw[e1,zen hi,zcm]
 have sS:∀j,j≠c->b1 r j=(b r j).fmod (b r c):=fun j hj=>by rw[e1,zdI hj,zcm]
 by_cases hr:r1=r
 ·--in the corner's row
  by_cases hc:c1=c
  ·subst hr;subst hc;rw[corner]at f0;lia
  ·have x:=l1.cross o1 (e2 ▸ l2) (x:=b1 r c) (.inr ⟨c,l0.2.1,Ne.symm hc,by rw[hr]⟩) (by rw[hr,corner,sS c1 hc];exact zcw _ h0) (by rw[corner];exact f0)
   rw[<-e2,corner]at x
   lia
 by_cases hc:c1=c
 ·have x:=l1.cross o1 (e2 ▸ l2) (x:=b1 r c) (.inl ⟨r,l0.1,Ne.symm hr,by rw[hc]⟩) (by rw[hc,corner,tS r1 hr];exact zcw _ h0) (by rw[corner];exact f0)
  rw[<-e2,corner]at x
  lia
 have t2:b2 r1 c=(b1 r1 c).fmod (b1 r1 c1):=by rw[e2,zdI (Ne.symm hc),zcm]
 have s2:b2 r c1=(b1 r c1).fmod (b1 r1 c1):=by rw[e2,zen (Ne.symm hr),zcm]
 have lt:b1 r1 c≠0->(b1 r1 c1).natAbs<=(b1 r1 c).natAbs:=fun h=>l1.2.2.2 r1 l1.1 c l0.2.1 h
 have ls:b1 r c1≠0->(b1 r1 c1).natAbs<=(b1 r c1).natAbs:=fun h=>l1.2.2.2 r l0.1 c1 l1.2.1 h
 have ut:(b1 r1 c).natAbs<(b r c).natAbs:=by rw[e1,zen hr];exact zaO h0
 have us:(b1 r c1).natAbs<(b r c).natAbs:=by rw[e1,zdI hc];exact zaO h0
 have gt:0<=b r c*b1 r1 c:=by rw[tS r1 hr];exact zcw _ h0
 have gs:0<=b r c*b1 r c1:=by rw[sS c1 hc];exact zcw _ h0
 rcases Int.lt_or_le (b r c*b1 r1 c1) 0 with neg|pos
 ·--another sign
  have big:(b r c).natAbs<=(b2 r c).natAbs:=by
   have d:=zhH (b:=b1) (r:=r1) (c:=c1) (i:=r) (j:=c) (Ne.symm hr) (Ne.symm hc)
   rw[<-e2]at d
   unfold m2 at d
   rw[corner2,corner]at d
   exact across (y:=b1 r1 c1) (t:=b1 r1 c) (s:=b1 r c1) (t':=b2 r1 c) (s':=b2 r c1) (p:=b r c) (p':=b2 r c) d h1 neg lt ls
    (by rw[t2,<-zcm];exact zaO h1) (by rw[s2,<-zcm];exact zaO h1) (fun z=>by rw[t2];exact zbQ z) (fun z=>by rw[s2];exact zbQ z)
    (zi3 h0 gt gs) (zi3 h1 (by rw[t2];exact zcw _ h1) (by rw[s2];exact zcw _ h1))
  rcases zjO n l0.1 l1.1 l2.1 with a|a|a
  ·exact absurd a.symm hr
  ·rcases zjO m l0.2.1 l1.2.1 l2.2.1 with g|g|g
   ·exact absurd g.symm hc
   ·subst a;subst g;lia
   ·have x:=l2.cross o2 (e3 ▸ l3) (x:=b2 r1 c1) (.inl ⟨r1,l1.1,by rw[a];exact hr,by rw[g]⟩) (by rw[a,g,corner2,s2];exact zcw _ h1) (by rw[corner2];exact f1)
    rw[<-e3,corner2]at x
    lia
  ·rcases zjO m l0.2.1 l1.2.1 l2.2.1 with g|g|g
   ·exact absurd g.symm hc
   ·have x:=l2.cross o2 (e3 ▸ l3) (x:=b2 r1 c1) (.inr ⟨c1,l1.2.1,by rw[g];exact hc,by rw[a]⟩) (by rw[a,g,corner2,t2];exact zcw _ h1) (by rw[corner2];exact f1)
    rw[<-e3,corner2]at x
    lia
   ·subst a;subst g;rw[corner2]at f1;lia
 ·--the same sign
  have key:(b2 r1 c≠0/\2*(b2 r1 c).natAbs<=(b1 r1 c).natAbs)\/(b2 r c1≠0/\2*(b2 r c1).natAbs<=(b1 r c1).natAbs):=by
   rcases o1 with⟨i,mi,hi,h⟩|⟨j,mj,hj,h⟩
   ·rcases zjO n l0.1 l1.1 mi with a|a|a
    ·exact absurd a.symm hr
    ·subst a;rw[<-e2]at h
     have nz:b1 i c1≠0:=fun z=>h (by rw[s2];exact zbQ z)
     exact .inr ⟨h,by rw[s2];exact zhb (zi3 h0 gs pos) h1 (ls nz)⟩
    ·exact absurd a hi
   ·rcases zjO m l0.2.1 l1.2.1 mj with a|a|a
    ·exact absurd a.symm hc
    ·subst a;rw[<-e2]at h
     have nz:b1 r1 j≠0:=fun z=>h (by rw[t2];exact zbQ z)
     exact .inl ⟨h,by rw[t2];exact zhb (zi3 h0 gt pos) h1 (lt nz)⟩
    ·exact absurd a hj
  rcases key with⟨nz,q⟩|⟨nz,q⟩
  ·have:=l2.2.2.2 r1 l1.1 c l0.2.1 nz
   lia
  ·have:=l2.2.2.2 r l0.1 c1 l1.2.1 nz
   lia
end
def bi (x y z:Bool):Int:=(if x then 1 else 0)-(if y&&z then 1 else 0)
def det3 (a b c d e f g h i:Int):Int:=a*(e*i-f*h)-b*(d*i-f*g)+c*(d*h-e*g)
theorem znG:∀y0 y1 y2 z0 z1 z2:Bool,∀a b c d e f g h i:Bool,(det3 (bi a y0 z0) (bi b y0 z1) (bi c y0 z2) (bi d y1 z0) (bi e y1 z1) (bi f y1 z2) (bi g y2 z0) (bi h y2 z1) (bi i y2 z2)).natAbs<=3:=by decide+kernel
theorem bit {a:Int}(h:a=0\/a=1):∃A:Bool,a=if A then 1 else 0:=by
 rcases h with rfl|rfl
 ·exact⟨false,rfl⟩
 ·exact⟨true,rfl⟩
theorem bi_eq (x y z:Bool):((if x then 1 else 0:Int)-(if y then 1 else 0)*(if z then 1 else 0))=bi x y z:=by cases x<;>cases y<;>cases z<;>rfl
theorem det3_01 {y0 y1 y2 z0 z1 z2 a b c d e f g h i:Int}(hy0:y0=0\/y0=1)(hy1:y1=0\/y1=1)(hy2:y2=0\/y2=1)(hz0:z0=0\/z0=1)(hz1:z1=0\/z1=1)(hz2:z2=0\/z2=1)(ha:a=0\/a=1)(hb:b=0\/b=1)(hc:c=0\/c=1)(hd:d=0\/d=1)(he:e=0\/e=1)(hf:f=0\/f=1)(hg:g=0\/g=1)(hh:h=0\/h=1)(hi:i=0\/i=1):(det3 (a-y0*z0) (b-y0*z1) (c-y0*z2) (d-y1*z0) (e-y1*z1) (f-y1*z2) (g-y2*z0) (h-y2*z1) (i-y2*z2)).natAbs<=3:=by
 obtain⟨Y0,rfl⟩:=bit hy0
 obtain⟨Y1,rfl⟩:=bit hy1
 obtain⟨Y2,rfl⟩:=bit hy2
 obtain⟨Z0,rfl⟩:=bit hz0
 obtain⟨Z1,rfl⟩:=bit hz1
 obtain⟨Z2,rfl⟩:=bit hz2
 obtain⟨A,rfl⟩:=bit ha
 obtain⟨B,rfl⟩:=bit hb
 obtain⟨C,rfl⟩:=bit hc
 obtain⟨D,rfl⟩:=bit hd
 obtain⟨E,rfl⟩:=bit he
 obtain⟨F,rfl⟩:=bit hf
 obtain⟨G,rfl⟩:=bit hg
 obtain⟨H,rfl⟩:=bit hh
 obtain⟨I,rfl⟩:=bit hi
 simp only[bi_eq]
 exact znG Y0 Y1 Y2 Z0 Z1 Z2 A B C D E F G H I
def SubL (l' l:List Nat)(r:Nat):Prop:=∀i,i∈l'->i∈l/\i≠r
def Eb (Ro Co:List Nat)(b:Nat->Nat->Int)(E:Nat):Prop:=∀i,i∈Ro->∀j,j∈Co->(b i j).natAbs<=E
section
variable {b:Nat->Nat->Int} {r c:Nat} {Ro Co Ro' Co':List Nat} {M P D E:Nat}
theorem zok (l:Lst Ro Co b r c)(h:∀x:Int,(∃i,i∈Ro/\∃j,j∈Co/\x=b i j)->x.fmod (b r c)=0):¬Opn Ro Co b r c:=by
 rintro(⟨i,mi,hi,n⟩|⟨j,mj,hj,n⟩)
 ·rw[zen hi,zcm]at n;exact n (h _ ⟨i,mi,c,l.2.1,rfl⟩)
 ·rw[zdI hj,zcm]at n;exact n (h _ ⟨r,l.1,j,mj,rfl⟩)
theorem zea (l:Lst Ro Co b r c)(u:(b r c).natAbs=1):¬Opn Ro Co b r c:=
 zok l fun x _=>by have:=zaO (a:=x) l.2.2.1;rw[zcm]at this;lia
theorem zjQ (l:Lst Ro Co b r c)(h:Eb Ro Co b (b r c).natAbs):¬Opn Ro Co b r c:=
 zok l fun x ⟨i,mi,j,mj,e⟩=>by
  by_cases z:x=0
  ·exact zbQ z
  ·have h1:=h i mi j mj
   have h2:=l.2.2.2 i mi j mj (by rw[<-e];exact z)
   rw[<-e]at h1 h2
   have:b r c∣x:=Int.natAbs_dvd_natAbs.mp ⟨1,by lia⟩
   exact Int.fmod_eq_zero_of_dvd this
theorem y_fin (o:¬Opn Ro Co b r c)(mi:i∈Ro)(hi:i≠r)(hj:j≠c):b r c*rnd b r c i j=m2 b r i c j:=by
 rw[y_eq hi hj]
 have:rnd b r c i c=0:=Classical.byContradiction fun n=>o (.inl ⟨i,mi,hi,n⟩)
 rw[this];simp
theorem zio (l:Lst Ro Co b r c)(o:¬Opn Ro Co b r c)(hM:Mb Ro Co b M)(s1:SubL Ro' Ro r)(s2:SubL Co' Co c)(q:M<(E+1)*(b r c).natAbs):Eb Ro' Co' (rnd b r c) E:=by
 intro i mi j mj
 obtain⟨a1,a2⟩:=s1 i mi
 obtain⟨g1,g2⟩:=s2 j mj
 have e:=y_fin o a1 a2 g2
 have h:=hM r l.1 i a1 c l.2.1 j g1
 rw[<-e,Int.natAbs_mul]at h
 rcases Nat.lt_or_ge E (rnd b r c i j).natAbs with x|x
 ·have:=Nat.mul_le_mul_left (b r c).natAbs (show E+1<=(rnd b r c i j).natAbs from x)
  rw[Nat.mul_comm]at this
  lia
 ·exact x
theorem Eb.mb (h:Eb Ro Co b E):Mb Ro Co b (2*(E*E)):=by
 intro i mi k mk j mj l ml
 unfold m2
 have a:=zaw (h i mi j mj) (h k mk l ml)
 have a2:=zaw (h i mi l ml) (h k mk j mj)
 lia
theorem Eb.low (h:Eb Ro Co b E)(l:Lst Ro Co b r c):1<=(b r c).natAbs/\(b r c).natAbs<=E:=⟨by have:=l.2.2.1;lia,h r l.1 c l.2.1⟩
theorem st01 (h:∀i,i∈Ro->∀j,j∈Co->b i j=0\/b i j=1)(l:Lst Ro Co b r c):¬Opn Ro Co b r c/\(SubL Ro' Ro r->SubL Co' Co c->Eb Ro' Co' (rnd b r c) 1/\Db Ro' Co' (rnd b r c) 3):=by
 have one:b r c=1:=(h r l.1 c l.2.1).resolve_left l.2.2.1
 have o:=zea l (by rw[one];rfl)
 refine⟨o,fun s1 s2=>?_⟩
 have y:∀i,i∈Ro'->∀j,j∈Co'->rnd b r c i j=b i j-b i c*b r j:=fun i mi j mj=>by
  have e:=y_fin o (s1 i mi).1 (s1 i mi).2 (s2 j mj).2
  unfold m2 at e
  rw[one,Int.one_mul,Int.one_mul,Int.mul_comm (b r j)]at e
  exact e
 constructor
 ·intro i mi j mj
  rw[y i mi j mj]
  obtain⟨A,a⟩:=bit (h i (s1 i mi).1 j (s2 j mj).1)
  obtain⟨B,b'⟩:=bit (h i (s1 i mi).1 c l.2.1)
  obtain⟨C,c'⟩:=bit (h r l.1 j (s2 j mj).1)
  rw[a,b',c']
  cases A<;>cases B<;>cases C<;>decide
 ·intro i mi k mk o' mo j mj l' ml q mq
  unfold d3 m2
  rw[y i mi j mj,y i mi l' ml,y i mi q mq,y k mk j mj,y k mk l' ml,y k mk q mq,y o' mo j mj,y o' mo l' ml,y o' mo q mq]
  have hh:=fun i (mi:i∈Ro') j (mj:j∈Co')=>h i (s1 i mi).1 j (s2 j mj).1
  exact det3_01 (h i (s1 i mi).1 c l.2.1) (h k (s1 k mk).1 c l.2.1) (h o' (s1 o' mo).1 c l.2.1) (h r l.1 j (s2 j mj).1) (h r l.1 l' (s2 l' ml).1) (h r l.1 q (s2 q mq).1) (hh i mi j mj) (hh i mi l' ml) (hh i mi q mq) (hh k mk j mj) (hh k mk l' ml) (hh k mk q mq) (hh o' mo j mj) (hh o' mo l' ml) (hh o' mo q mq)
theorem fin_m2 (l:Lst Ro Co b r c)(o:¬Opn Ro Co b r c)(hD:Db Ro Co b D)(s1:SubL Ro' Ro r)(s2:SubL Co' Co c):Mb Ro' Co' (rnd b r c) D:=by
 intro i mi k mk j mj q mq
 have e:=zne (b:=b) (s1 i mi).2 (s1 k mk).2 (s2 j mj).2 (s2 q mq).2
 have h:=hD r l.1 i (s1 i mi).1 k (s1 k mk).1 c l.2.1 j (s2 j mj).1 q (s2 q mq).1
 rw[<-e]at h
 have z:∀j,j∈Co'->rnd b r c r j=0:=fun j mj=>Classical.byContradiction fun n=>o (.inr ⟨j,(s2 j mj).1,(s2 j mj).2,n⟩)
 unfold d3 at h
 rw[z j mj,z q mq,zdK,Int.zero_mul,Int.zero_mul,Int.sub_zero,Int.add_zero]at h
 exact zjF l.2.2.1 h
theorem st12 (h:Eb Ro Co b 1)(hD:Db Ro Co b 3)(l:Lst Ro Co b r c):¬Opn Ro Co b r c/\(SubL Ro' Ro r->SubL Co' Co c->Eb Ro' Co' (rnd b r c) 2/\Mb Ro' Co' (rnd b r c) 3):=by
 have lo:=h.low l
 have o:=zea l (by lia)
 exact⟨o,fun s1 s2=>⟨zio l o h.mb s1 s2 (by lia),fin_m2 l o hD s1 s2⟩⟩
theorem st23 (h:Eb Ro Co b 2)(hM:Mb Ro Co b 3)(l:Lst Ro Co b r c):¬Opn Ro Co b r c/\(SubL Ro' Ro r->SubL Co' Co c->Eb Ro' Co' (rnd b r c) 3):=by
 have lo:=h.low l
 have o:¬Opn Ro Co b r c:=by
  rcases Nat.lt_or_ge (b r c).natAbs 2 with g|g
  ·exact zea l (by lia)
  ·exact zjQ l (by rw[show(b r c).natAbs=2 by lia];exact h)
 exact⟨o,fun s1 s2=>zio l o hM s1 s2 (by lia)⟩
theorem st34 (h:Eb Ro Co b 3)(l:Lst Ro Co b r c):(Opn Ro Co b r c->Eb Ro Co (rnd b r c) 9/\∃i,i∈Ro/\∃j,j∈Co/\(rnd b r c i j).natAbs=1)/\(¬Opn Ro Co b r c->SubL Ro' Ro r->SubL Co' Co c->Eb Ro' Co' (rnd b r c) 90):=by
 have lo:=h.low l
 refine⟨fun o=>?_,fun o s1 s2=>zio l o h.mb s1 s2 (by lia)⟩
 have two:(b r c).natAbs=2:=by
  rcases Nat.lt_or_ge (b r c).natAbs 2 with g|g
  ·exact absurd o (zea l (by lia))
  rcases Nat.lt_or_ge (b r c).natAbs 3 with g'|g'
  ·lia
  ·exact absurd o (zjQ l (by rw[show(b r c).natAbs=3 by lia];exact h))
 constructor
 ·intro i mi j mj
  by_cases hi:i=r
  ·subst hi
   by_cases hj:j=c
   ·subst hj;rw[zdK];lia
   ·rw[zdI hj];have:=zaO (a:=b i j) l.2.2.1;lia
  ·by_cases hj:j=c
   ·subst hj;rw[zen hi];have:=zaO (a:=b i j) l.2.2.1;lia
   ·have e:=y_eq (b:=b) hi hj
    have h1:=h.mb r l.1 i mi c l.2.1 j mj
    have h2:(rnd b r c i c).natAbs<=1:=by rw[zen hi];have:=zaO (a:=b i c) l.2.2.1;lia
    have h3:(rnd b r c r j).natAbs<=1:=by rw[zdI hj];have:=zaO (a:=b r j) l.2.2.1;lia
    have h4:=zaw h2 h3
    have h5:=zik (m2 b r i c j) (rnd b r c i c*rnd b r c r j)
    rw[<-e,Int.natAbs_mul,two]at h5
    lia
 ·obtain⟨i,mi,j,mj,n,lt⟩:=o.small l.2.2.1 l.1 l.2.1
  exact⟨i,mi,j,mj,by lia⟩
theorem st34' (h:Eb Ro Co b 9)(u:∃i,i∈Ro/\∃j,j∈Co/\(b i j).natAbs=1)(l:Lst Ro Co b r c):¬Opn Ro Co b r c/\(SubL Ro' Ro r->SubL Co' Co c->Eb Ro' Co' (rnd b r c) 162):=by
 have lo:=h.low l
 obtain⟨i,mi,j,mj,e⟩:=u
 have:=l.2.2.2 i mi j mj (by lia)
 have o:=zea l (by lia)
 exact⟨o,fun s1 s2=>zio l o h.mb s1 s2 (by lia)⟩
end
def Left (Ro Co:List Nat):Nat->(Nat->Nat->Int)->Prop
 |0,b=>∀r c,Lst Ro Co b r c->¬Opn Ro Co b r c
 |N+1,b=>∀r c,Lst Ro Co b r c->Opn Ro Co b r c->Left Ro Co N (rnd b r c)
section
variable {b:Nat->Nat->Int} {r c:Nat} {Ro Co Ro' Co':List Nat} {E N s:Nat}
theorem left5 (n:Ro.length<=2)(m:Co.length<=2):∀(e:Nat) (b:Nat->Nat->Int),(∀r c,Lst Ro Co b r c->(b r c).natAbs<2^e)->Left Ro Co (3*e) b
 |0,b,h=>fun r c l _=>by have:=h r c l;have:=l.2.2.1;lia
 |e+1,b,h=>by
  show Left Ro Co (3*e+1+1+1) b
  intro r c l o r1 c1 l1 o1 r2 c2 l2 o2
  refine left5 n m e _ fun r3 c3 l3=>?_
  have h3:=half3 n m l o rfl l1 o1 rfl l2 o2 rfl l3
  have:=h r c l
  rw[Nat.pow_succ]at this
  lia
theorem Eb.db (h:Eb Ro Co b E):Db Ro Co b (6*(E*E*E)):=by
 intro i mi k mk o mo j mj l ml q mq
 unfold d3
 have m:=h.mb
 have p:∀{x y:Int},x.natAbs<=E->y.natAbs<=2*(E*E)->(x*y).natAbs<=2*(E*E*E):=fun{x y} hx hy=>by
  have:=zaw hx hy
  have e:E*(2*(E*E))=2*(E*E*E):=by rw[Nat.mul_left_comm,Nat.mul_assoc]
  lia
 have a1:=p (h i mi j mj) (m k mk o mo l ml q mq)
 have a2:=p (h i mi l ml) (m k mk o mo j mj q mq)
 have a3:=p (h i mi q mq) (m k mk o mo j mj l ml)
 lia
theorem Eb.le (h:Eb Ro Co b E)(l:E<=F):Eb Ro Co b F:=fun i mi j mj=>Nat.le_trans (h i mi j mj) l
theorem Db.le (h:Db Ro Co b E)(l:E<=F):Db Ro Co b F:=fun i mi k mk o mo j mj q mq u mu=>Nat.le_trans (h i mi k mk o mo j mj q mq u mu) l
end
def U4:Nat:=25614144
def D4:Nat:=25509168
def E4:Nat:=U4*5^162+26406
def E5:Nat:=U4*5^162
def M5:Nat:=2*(E5*E5)
def F5:Nat:=M5+E5*E5+E5
def Nx (s:Nat):Nat:=if s=3 then 1 else if s=4 then 162 else if s=5 then 1206 else 0
theorem E5_lt:E5<2^402:=by decide+kernel
theorem F5_lt:F5<2^811:=by decide+kernel
theorem E4_lt:E4<2^811:=by decide+kernel
theorem U4_le:D4+4*(162*162)<=U4:=by decide
def Stg (s:Nat)(Ro Co:List Nat)(b:Nat->Nat->Int)(N:Nat):Prop:=Ro.length<=7-s/\Co.length<=7-s/\match s with
 |0=>N=0/\∀i,i∈Ro->∀j,j∈Co->b i j=0\/b i j=1
 |1=>N=0/\Eb Ro Co b 1/\Db Ro Co b 3
 |2=>N=0/\Eb Ro Co b 2/\Mb Ro Co b 3
 |3=>(N=1/\Eb Ro Co b 3)\/(N=0/\Eb Ro Co b 9/\∃i,i∈Ro/\∃j,j∈Co/\(b i j).natAbs=1)
 |4=>∃k,N+k=162/\Db Ro Co b D4/\Mb Ro Co b (U4*5^k)/\Eb Ro Co b E4/\(k=0->Eb Ro Co b 162)/\(0<k->∃i,i∈Ro/\∃j,j∈Co/\b i j≠0/\(b i j).natAbs+k<=162)
 |5=>Mb Ro Co b M5/\Eb Ro Co b F5/\Left Ro Co N b/\∀r c,Lst Ro Co b r c->(b r c).natAbs<=E5
 |6=>N=0/\Eb Ro Co b M5
 |_=>N=0
section
variable {b:Nat->Nat->Int} {r c:Nat} {Ro Co Ro' Co':List Nat} {E N s:Nat}
theorem Stg.ent (h:Stg s Ro Co b N):Eb Ro Co b (2^811):=by
 obtain⟨h1,h2,h⟩:=h
 have f:=F5_lt
 match s,h with
 |0,h=>exact fun i mi j mj=>by rcases h.2 i mi j mj with e|e<;>(rw[e];decide+kernel)
 |1,h=>exact h.2.1.le (by decide+kernel)
 |2,h=>exact h.2.1.le (by decide+kernel)
 |3,h=>
  rcases h with h|h
  ·exact h.2.le (by decide+kernel)
  ·exact h.2.1.le (by decide+kernel)
 |4,h=>obtain⟨k,_,_,_,h,_⟩:=h;exact h.le (Nat.le_of_lt E4_lt)
 |5,h=>exact h.2.1.le (Nat.le_of_lt F5_lt)
 |6,h=>exact h.2.le (by unfold F5 at f;lia)
 |s+7,h=>
  intro i mi
  have:Ro=[]:=List.length_eq_zero_iff.mp (by lia)
  subst this
  exact absurd mi List.not_mem_nil
theorem mul5 (h:k<=162):U4*5^k<=E5:=Nat.mul_le_mul_left _ (Nat.pow_le_pow_right (by decide) h)
theorem Stg.step (S:Stg s Ro Co b N)(l:Lst Ro Co b r c):(Opn Ro Co b r c->∃N',N=N'+1/\Stg s Ro Co (rnd b r c) N')/\
  (¬Opn Ro Co b r c->∀Ro' Co',SubL Ro' Ro r->SubL Co' Co c->Ro'.length<=6-s->Co'.length<=6-s->Stg (s+1) Ro' Co' (rnd b r c) (Nx (s+1))):=by
 obtain⟨h1,h2,S⟩:=S
 have lr:0<Ro.length:=List.length_pos_of_mem l.1
 match s,S,h1,h2 with
 |0,S,h1,h2=>
  obtain⟨e,S⟩:=S
  refine⟨fun o=>?_,fun o Ro' Co' s1 s2 l1 l2=>?_⟩
  ·exact absurd o (st01 (Ro':=[]) (Co':=[]) S l).1
  ·have:=(st01 (Ro':=Ro') (Co':=Co') S l).2 s1 s2
   exact⟨l1,l2,rfl,this⟩
 |1,S,h1,h2=>
  obtain⟨e,S,D⟩:=S
  refine⟨fun o=>?_,fun o Ro' Co' s1 s2 l1 l2=>?_⟩
  ·exact absurd o (st12 (Ro':=[]) (Co':=[]) S D l).1
  ·exact⟨l1,l2,rfl,(st12 (Ro':=Ro') (Co':=Co') S D l).2 s1 s2⟩
 |2,S,h1,h2=>
  obtain⟨e,S,D⟩:=S
  refine⟨fun o=>?_,fun o Ro' Co' s1 s2 l1 l2=>?_⟩
  ·exact absurd o (st23 (Ro':=[]) (Co':=[]) S D l).1
  ·exact⟨l1,l2,.inl ⟨rfl,(st23 (Ro':=Ro') (Co':=Co') S D l).2 s1 s2⟩⟩
 |3,S,h1,h2=>
  have go:∀{Ro' Co':List Nat},Ro'.length<=6-3->Co'.length<=6-3->Eb Ro' Co' (rnd b r c) 162->Stg 4 Ro' Co' (rnd b r c) (Nx 4):=fun{Ro' Co'} l1 l2 e=>
   ⟨l1,l2,0,rfl,e.db.le (by decide),e.mb.le (by decide),e.le (by decide+kernel),fun _=>e,fun h=>absurd h (by decide)⟩
  rcases S with⟨e,S⟩|⟨e,S,u⟩
  ·refine⟨fun o=>?_,fun o Ro' Co' s1 s2 l1 l2=>?_⟩
   ·obtain⟨g1,g2⟩:=(st34 (Ro':=[]) (Co':=[]) S l).1 o
    exact⟨0,e,h1,h2,.inr ⟨rfl,g1,g2⟩⟩
   ·exact go l1 l2 (((st34 (Ro':=Ro') (Co':=Co') S l).2 o s1 s2).le (by decide))
  ·refine⟨fun o=>?_,fun o Ro' Co' s1 s2 l1 l2=>?_⟩
   ·exact absurd o (st34' (Ro':=[]) (Co':=[]) S u l).1
   ·exact go l1 l2 ((st34' (Ro':=Ro') (Co':=Co') S u l).2 s1 s2)
 |4,S,h1,h2=>
  obtain⟨k,e,D,M,En,k0,k1⟩:=S
  have I:I3 Ro Co 162 D4 U4 k b:=by
   refine⟨D,M,?_⟩
   by_cases h:k=0
   ·exact⟨r,l.1,c,l.2.1,l.2.2.1,by have:=k0 h r l.1 c l.2.1;lia⟩
   ·exact k1 (by lia)
  refine⟨fun o=>?_,fun o Ro' Co' s1 s2 l1 l2=>?_⟩
  ·obtain⟨D',M',u⟩:=I.step (by lia) (by lia) U4_le l o
   have low:=u
   obtain⟨i,mi,j,mj,nz,le⟩:=low
   refine⟨N-1,by lia,h1,h2,k+1,by lia,D',M',fun i mi j mj=>?_,fun h=>by lia,fun _=>u⟩
   have:=I.ent l mi mj
   have m5:=mul5 (k:=k) (by lia)
   unfold E4
   unfold E5 at m5
   lia
  ·have m5:=mul5 (k:=k) (by lia)
   have e5:Eb Ro' Co' (rnd b r c) E5:=zio l o M s1 s2 (by
    have:1<=(b r c).natAbs:=by have:=l.2.2.1;lia
    have:=Nat.mul_le_mul_left (E5+1) this
    lia)
   refine⟨l1,l2,e5.mb,e5.le (by unfold F5;lia),left5 l1 l2 402 _ fun r c l=>?_,fun r c l=>e5 r l.1 c l.2.1⟩
   exact Nat.lt_of_le_of_lt (e5 r l.1 c l.2.1) E5_lt
 |5,S,h1,h2=>
  obtain⟨M,En,Lf,co⟩:=S
  refine⟨fun o=>?_,fun o Ro' Co' s1 s2 l1 l2=>?_⟩
  ·cases N with
   |zero=>exact absurd o (Lf r c l)
   |succ N=>
    refine⟨N,rfl,h1,h2,mb2_rnd (by lia) (by lia) l.1 l.2.1 M,fun i mi j mj=>znk l.1 l.2.1 l.2.2.1 (co r c l) M mi mj,Lf r c l o,fun r' c' l'=>?_⟩
    have:=l.fall o l'
    have:=co r c l
    lia
  ·refine⟨l1,l2,rfl,zio l o M s1 s2 ?_⟩
   have:1<=(b r c).natAbs:=by have:=l.2.2.1;lia
   have:=Nat.mul_le_mul_left (M5+1) this
   lia
 |6,S,h1,h2=>
  have one:∀{l:List Nat} {x y:Nat},l.length<=1->x∈l->y∈l->x=y:=fun{l x y} h hx hy=>by
   match l,h with
   |[],_=>simp at hx
   |[a],_=>simp at hx hy;lia
   |_::_::_,h=>simp at h
  refine⟨fun o=>?_,fun o Ro' Co' s1 s2 l1 l2=>⟨l1,l2,rfl⟩⟩
  rcases o with⟨i,mi,hi,_⟩|⟨j,mj,hj,_⟩
  ·exact absurd (one (by lia) mi l.1) hi
  ·exact absurd (one (by lia) mj l.2.1) hj
 |s+7,S,h1,h2=>lia
end
theorem log_lt (h:x.natAbs<=2^e)(he:e<59999999):x.natAbs.log2<60000000:=by
 by_cases h0:x.natAbs=0
 ·rw[h0];decide
 ·have h1:x.natAbs<2^(e+1):=by rw[Nat.pow_succ];have:=Nat.two_pow_pos e;lia
  have:=(Nat.log2_lt h0).mpr h1
  lia
theorem mulW (hx:x.natAbs<=2^a)(hy:y.natAbs<=2^e)(ha:a<59999999)(he:e<59999999):zbO x y=true:=by
 unfold zbO
 rw[decide_eq_true (log_lt hx ha),decide_eq_true (log_lt hy he)];rfl
theorem divF (h0:x≠0)(h:x.natAbs<=2^811):zhn x=true:=by
 unfold zhn
 have h1:x.natAbs<2^812:=by rw[show(2:Nat)^812=2^811*2 from rfl];have:=Nat.two_pow_pos 811;lia
 have:x.natAbs.log2<9000:=by have:=(Nat.log2_lt (show x.natAbs≠0 by lia)).mpr h1;lia
 rw[decide_eq_true h0,decide_eq_true this];rfl
theorem zf7 (x:Int){p:Int}(h:p≠0):(x.fdiv p).natAbs<=x.natAbs:=by
 have pos:∀x p:Int,0<p->(x.fdiv p).natAbs<=x.natAbs:=fun x p h=>by
  rw[Int.fdiv_eq_ediv_of_nonneg x (by lia)]
  exact Int.natAbs_ediv_le_natAbs x p
 rcases Int.lt_or_gt_of_ne h with h|h
 ·have:=pos (-x) (-p) (by lia)
  rwa[Int.neg_fdiv_neg,Int.natAbs_neg]at this
 ·exact pos x p h
def za6 (b:Mx)(r c:Nat)(l:List Nat):Mx:=fun i j=>if i∈l then b i j-(b i c).fdiv (b r c)*b r j else b i j
def zch (b:Mx)(r c:Nat)(l:List Nat):Mx:=fun i j=>if j∈l then b i j-(b r j).fdiv (b r c)*b i c else b i j
def Bn (e t n:Nat)(w v k:Mx):Prop:=(∀i j,i<t->j<t->(w i j).natAbs<=2^e)/\(∀i j,i<n->j<n->(v i j).natAbs<=2^e)/\∀i j,i<n->j<n->(k i j).natAbs<=2^e
theorem op_bd (hx:x.natAbs<=2^e)(hy:y.natAbs<=2^e)(hq:q.natAbs<=2^811):(x-q*y).natAbs<=2^(e+812):=by
 have h1:=zaw hq hy
 have h2:(2:Nat)^(e+812)=2^811*2^e+2^811*2^e:=by
  rw[Nat.pow_add,show(2:Nat)^812=2^811+2^811 by decide,Nat.mul_add,Nat.mul_comm]
 have h3:2^e<=2^811*2^e:=Nat.le_mul_of_pos_left _ (Nat.two_pow_pos 811)
 lia
theorem zbx {e f:Nat}(h:e<=f):(2:Nat)^e<=2^f:=Nat.pow_le_pow_right (by decide) h
section
variable {t n e f r o c:Nat} {A b w v k:Mx} {q:Int} {s:List (Nat×Nat)}
theorem Bn.le (h:Bn e t n w v k)(l:e<=f):Bn f t n w v k:=⟨fun i j hi hj=>Nat.le_trans (h.1 i j hi hj) (zbx l),fun i j hi hj=>Nat.le_trans (h.2.1 i j hi hj) (zbx l),fun i j hi hj=>Nat.le_trans (h.2.2 i j hi hj) (zbx l)⟩
theorem ziX (h:∀i j,i<m->j<f->(w i j).natAbs<=2^e)(ho:o<m)(hq:q.natAbs<=2^811):∀i j,i<m->j<f->(zca w r o q i j).natAbs<=2^(e+812):=fun i j hi hj=>by
 unfold zca
 split
 ·rename_i z;rw[<-z];exact op_bd (h i j hi hj) (h o j ho hj) hq
 ·exact Nat.le_trans (h i j hi hj) (zbx (by lia))
theorem Bn.row (h:Bn e t n w v k)(ho:o<t)(hq:q.natAbs<=2^811):Bn (e+812) t n (zca w r o q) v k:=
 ⟨ziX h.1 ho hq,fun i j hi hj=>Nat.le_trans (h.2.1 i j hi hj) (zbx (by lia)),fun i j hi hj=>Nat.le_trans (h.2.2 i j hi hj) (zbx (by lia))⟩
theorem Bn.col (h:Bn e t n w v k)(hc:c<n)(ho:o<n)(hq:q.natAbs<=2^811):Bn (e+812) t n w (zca v c o q) (zca k o c (-q)):=
 ⟨fun i j hi hj=>Nat.le_trans (h.1 i j hi hj) (zbx (by lia)),ziX h.2.1 ho hq,ziX h.2.2 hc (by rw[Int.natAbs_neg];exact hq)⟩
theorem zm8 (hr:r∉l)(ho:o∉l)(hor:o≠r):zca (za6 b r c l) o r ((za6 b r c l o c).fdiv (za6 b r c l r c))=za6 b r c (l++[o]):=by
 have e:∀i j,i∉l->za6 b r c l i j=b i j:=fun i j h=>by unfold za6;rw[if_neg h]
 funext i j
 unfold zca
 rw[e o c ho,e r c hr,e o j ho,e r j hr]
 by_cases h:i=o
 ·subst h
  rw[if_pos rfl]
  unfold za6
  rw[if_pos (by simp)]
 ·rw[if_neg h]
  unfold za6
  by_cases h2:i∈l
  ·rw[if_pos h2,if_pos (by simp[h2])]
  ·rw[if_neg h2,if_neg (by simp[h2,h])]
theorem znW (hc:c∉l)(ho:o∉l)(hoc:o≠c):zml (zch b r c l) o c ((zch b r c l r o).fdiv (zch b r c l r c))=zch b r c (l++[o]):=by
 have e:∀i j,j∉l->zch b r c l i j=b i j:=fun i j h=>by unfold zch;rw[if_neg h]
 funext i j
 unfold zml
 rw[e r o ho,e r c hc,e i o ho,e i c hc]
 by_cases h:j=o
 ·subst h
  rw[if_pos rfl]
  unfold zch
  rw[if_pos (by simp)]
 ·rw[if_neg h]
  unfold zch
  by_cases h2:j∈l
  ·rw[if_pos h2,if_pos (by simp[h2])]
  ·rw[if_neg h2,if_neg (by simp[h2,h])]
def Pn (s:Sl):Prop:=∀x,zgY s x=true
theorem zlM:Pn .emp:=fun x=>by cases x<;>rfl
theorem zjp (d:D):Pn (.val d):=fun x=>by cases x<;>rfl
theorem rows_ok (t1:1<=t)(n1:1<=n)(t7:t<=7)(n7:n<=7)(I:Inv t n A b w v k)(B:Bn e t n w v k)(he:e<=30000000)(eb:∀i,i<t->∀j,j<n->(b i j).natAbs<=2^811)(hr:r<t)(hc:c<n)(nz:b r c≠0)
  {l:List Nat} (nd:l.Nodup) (lt:∀o∈l,o<t) (hrl:r∉l) (ll:l.length<=7) (d4:D) (s5:Sl) (p5:Pn s5) {Q:Fl×R->Prop}
  (hq:∀w' s5,Pn s5->Inv t n A (za6 b r c l) w' v k->Bn (e+5684) t n w' v k->Q (.next,[oT t n (za6 b r c l) w' v k s,.val (.int (r:Nat)),.val (.int (c:Nat)),.val (.lst (l.map fun i=> .int (i:Nat))),.val d4,s5])):
  Ok (zb5 [oT t n b w v k s,.val (.int (r:Nat)),.val (.int (c:Nat)),.val (.lst (l.map fun i=> .int (i:Nat))),.val d4,s5]) Q:=by
 simp! only[↓zb5]
 refine ziw (enc:=fun i:Nat=>D.int (i:Nat)) (l:=l) (fun i ρ=>∃w' s5,Pn s5/\Inv t n A (za6 b r c (l.take i)) w' v k/\Bn (e+812*i) t n w' v k/\ρ=[oT t n (za6 b r c (l.take i)) w' v k s,.val (.int (r:Nat)),.val (.int (c:Nat)),.val (.lst (l.map fun i=> .int (i:Nat))),.val d4,s5]) ⟨w,s5,p5,?_,B,?_⟩ ?_ ?_
 ·have:za6 b r c (l.take 0)=b:=by funext i j;unfold za6;simp
  rw[this];exact I
 ·have:za6 b r c (l.take 0)=b:=by funext i j;unfold za6;simp
  rw[this]
 ·rintro i o _ hi ⟨w',s5,p5,I',B',rfl⟩
  have hil:i<l.length:=(List.getElem?_eq_some_iff.mp hi).1
  have ho:o∈l:=List.mem_of_getElem? hi
  have hot:=lt o ho
  have hor:o≠r:=fun z=>hrl (z ▸ ho)
  have hrt:r∉l.take i:=fun z=>hrl (List.mem_of_mem_take z)
  have hoi:o∉l.take i:=fun z=>by
   obtain⟨j,hj,e⟩:=List.mem_iff_getElem.mp z
   simp only[List.length_take]at hj
   rw[List.getElem_take]at e
   have e2:l[i]'hil=o:=(List.getElem?_eq_some_iff.mp hi).2
   have:=(List.getElem_inj nd).mp (e.trans e2.symm)
   lia
  have eq0:∀i' j,i'∉l.take i->za6 b r c (l.take i) i' j=b i' j:=fun i' j h=>by unfold za6;rw[if_neg h]
  have qb:((b o c).fdiv (b r c)).natAbs<=2^811:=Nat.le_trans (zf7 _ nz) (eb o hot c hc)
  have st:=zm8 (b:=b) (c:=c) hrt hoi hor
  rw[eq0 o c hoi,eq0 r c hrt]at st
  have tk:l.take (i+1)=l.take i++[o]:=by rw[List.take_add_one,hi];rfl
  simp! only[↓zdr]
  rw[zhp rfl rfl]
  simp! only[]
  rw[zdk rfl rfl (zgX t1 n1)]
  simp! only[g0,zao _ hot,zao _ hr,zao _ hc,eq0 o c hoi,eq0 r c hrt]
  refine⟨divF nz (eb r hr c hc),⟨rfl,rfl⟩,?_⟩
  refine(zkF t1 n1 (by lia) (by lia) hot hr (fun j hj=>?_) (fun j hj=>?_)).mono ?_
  ·rw[eq0 r j hrt];exact mulW qb (eb r hr j hj) (by lia) (by lia)
  ·exact mulW qb (B'.1 r j hr hj) (by lia) (by lia)
  rintro _ rfl
  simp! only[]
  rw[st,tk]
  refine⟨_,_,zjp _,?_,?_,rfl⟩
  ·rw[<-st];exact I'.row hot hr hor _
  ·exact(B'.row hr qb).le (by lia)
 ·rintro _ ⟨w',s5,p5,I',B',rfl⟩
  rw[List.take_length]at*
  exact hq w' s5 p5 I' (B'.le (by lia))
theorem cols_ok (t1:1<=t)(n1:1<=n)(t7:t<=7)(n7:n<=7)(I:Inv t n A b w v k)(B:Bn e t n w v k)(he:e<=30000000)(eb:∀j,j<n->(b r j).natAbs<=2^811)(ec:∀i,i<t->(b i c).natAbs<=2^2000)(hr:r<t)(hc:c<n)(nz:b r c≠0)
  {l:List Nat} (nd:l.Nodup) (lt:∀o∈l,o<n) (hcl:c∉l) (ll:l.length<=7) (d3:D) (s5:Sl) (p5:Pn s5) {Q:Fl×R->Prop}
  (hq:∀v' k' s5,Pn s5->Inv t n A (zch b r c l) w v' k'->Bn (e+5684) t n w v' k'->Q (.next,[oT t n (zch b r c l) w v' k' s,.val (.int (r:Nat)),.val (.int (c:Nat)),.val d3,.val (.lst (l.map fun i=> .int (i:Nat))),s5])):
  Ok (zb4 [oT t n b w v k s,.val (.int (r:Nat)),.val (.int (c:Nat)),.val d3,.val (.lst (l.map fun i=> .int (i:Nat))),s5]) Q:=by
 simp! only[↓zb4]
 refine ziw (enc:=fun i:Nat=>D.int (i:Nat)) (l:=l) (fun i ρ=>∃v' k' s5,Pn s5/\Inv t n A (zch b r c (l.take i)) w v' k'/\Bn (e+812*i) t n w v' k'/\ρ=[oT t n (zch b r c (l.take i)) w v' k' s,.val (.int (r:Nat)),.val (.int (c:Nat)),.val d3,.val (.lst (l.map fun i=> .int (i:Nat))),s5]) ⟨v,k,s5,p5,?_,B,?_⟩ ?_ ?_
 ·have:zch b r c (l.take 0)=b:=by funext i j;unfold zch;simp
  rw[this];exact I
 ·have:zch b r c (l.take 0)=b:=by funext i j;unfold zch;simp
  rw[this]
 ·rintro i o _ hi ⟨v',k',s5,p5,I',B',rfl⟩
  have hil:i<l.length:=(List.getElem?_eq_some_iff.mp hi).1
  have ho:o∈l:=List.mem_of_getElem? hi
  have hot:=lt o ho
  have hoc:o≠c:=fun z=>hcl (z ▸ ho)
  have hct:c∉l.take i:=fun z=>hcl (List.mem_of_mem_take z)
  have hoi:o∉l.take i:=fun z=>by
   obtain⟨j,hj,e⟩:=List.mem_iff_getElem.mp z
   simp only[List.length_take]at hj
   rw[List.getElem_take]at e
   have e2:l[i]'hil=o:=(List.getElem?_eq_some_iff.mp hi).2
   have:=(List.getElem_inj nd).mp (e.trans e2.symm)
   lia
  have eq0:∀i' j,j∉l.take i->zch b r c (l.take i) i' j=b i' j:=fun i' j h=>by unfold zch;rw[if_neg h]
  have qb:((b r o).fdiv (b r c)).natAbs<=2^811:=Nat.le_trans (zf7 _ nz) (eb o hot)
  have st:=znW (b:=b) (r:=r) hct hoi hoc
  rw[eq0 r o hoi,eq0 r c hct]at st
  have tk:l.take (i+1)=l.take i++[o]:=by rw[List.take_add_one,hi];rfl
  simp! only[↓zdu]
  rw[zhp rfl rfl]
  simp! only[]
  rw[zdk rfl rfl (zgX t1 n1)]
  simp! only[g0,zao _ hot,zao _ hr,zao _ hc,eq0 r o hoi,eq0 r c hct]
  refine⟨divF nz (eb c hc),⟨rfl,rfl⟩,?_⟩
  refine(zh8 t1 n1 (by lia) (by lia) hot hc (fun j hj=>?_) (fun j hj=>?_) (fun j hj=>?_)).mono ?_
  ·rw[eq0 j c hct];exact mulW qb (ec j hj) (by lia) (by lia)
  ·exact mulW qb (B'.2.1 c j hc hj) (by lia) (by lia)
  ·exact mulW (by rw[Int.natAbs_neg];exact qb) (B'.2.2 o j hot hj) (by lia) (by lia)
  rintro _ rfl
  simp! only[]
  rw[st,tk]
  refine⟨_,_,_,zjp _,?_,?_,rfl⟩
  ·rw[<-st];exact I'.col hot hc hoc _
  ·exact(B'.col hot hc qb).le (by lia)
 ·rintro _ ⟨v',k',s5,p5,I',B',rfl⟩
  rw[List.take_length]at*
  exact hq v' k' s5 p5 I' (B'.le (by lia))
end
def rest (l:List Nat)(r:Nat):List Nat:=l.filter fun i=>i !=r
theorem zoO (l:List Nat)(r:Nat):l.filterMap (fun i=>if i=r then none else some (D.int (i:Nat)))=(rest l r).map fun i=>D.int (i:Nat):=by
 unfold rest
 rw[<-List.filterMap_eq_map,<-List.filterMap_eq_filter,List.filterMap_filterMap]
 exact zaX _ fun i _=>by by_cases h:i=r<;>simp[h,Option.guard]
def zby (b:Mx)(r c:Nat)(Ro Co:List Nat):Mx:=zch (za6 b r c (rest Ro r)) r c (rest Co c)
theorem zlU (l:List Nat):(l.map fun i=>D.int (i:Nat)).all fl2=true:=by
 rw[List.all_eq_true]
 intro d hd
 obtain⟨i,_,rfl⟩:=List.mem_map.mp hd
 rfl
section
variable {t n e r c:Nat} {A b w v k:Mx} {s:List (Nat×Nat)}
theorem mem_rest:i∈rest l r↔i∈l/\i≠r:=by unfold rest;rw[List.mem_filter];simp
theorem zdd (l:List Nat)(r:Nat):r∉rest l r:=fun h=>(mem_rest.mp h).2 rfl
theorem znp (h:l.Nodup)(r:Nat):(rest l r).Nodup:=List.Pairwise.filter _ h
theorem opR_nd (t:Nat)(s:List (Nat×Nat)):(opR t s).Nodup:=List.Pairwise.filter _ List.nodup_range
theorem zoM (t:Nat)(s:List (Nat×Nat)):(opC t s).Nodup:=List.Pairwise.filter _ List.nodup_range
theorem zb8 {Ro Co:List Nat}(hi:i∈Ro)(hj:j∈Co):zby b r c Ro Co i j=rnd b r c i j:=by
 have rr:∀j,za6 b r c (rest Ro r) r j=b r j:=fun j=>by unfold za6;rw[if_neg (zdd _ _)]
 unfold zby zch
 rw[rr,rr]
 by_cases h1:i=r
 ·subst h1
  rw[rr,rr]
  by_cases h2:j=c
  ·subst h2;rw[if_neg (zdd _ _),zdK]
  ·rw[if_pos (mem_rest.mpr ⟨hj,h2⟩),zdI h2]
 ·have ri:∀j,za6 b r c (rest Ro r) i j=b i j-(b i c).fdiv (b r c)*b r j:=fun j=>by unfold za6;rw[if_pos (mem_rest.mpr ⟨hi,h1⟩)]
  rw[ri,ri]
  by_cases h2:j=c
  ·subst h2;rw[if_neg (zdd _ _),zen h1]
  ·rw[if_pos (mem_rest.mpr ⟨hj,h2⟩),zmz h1 h2]
theorem ptD_new (s:List (Nat×Nat))(r c:Nat)(h:∀p∈s,p.1≠r):ptD (sk s).1 (sk s).2 (r:Int) (.int (c:Nat))=sk (s++[(r,c)]):=by
 unfold ptD
 have:(sk s).1.contains (r:Int)=false:=by
  cases q:(sk s).1.contains (r:Int)with
  |false=>rfl
  |true=>
   obtain⟨p,hp,e⟩:=List.mem_map.mp (List.contains_iff_mem.mp q)
   exact absurd (by have e:((p.1:Nat):Int)=r:=e;lia) (h p hp)
 rw[this]
 simp[sk]
theorem zjU (l:List Nat)(f:Nat->Int):zaW (l.map fun i=> .int (f i))=some (l.map f):=by
 have:(l.map fun i=>D.int (f i))=(l.map f).map .int:=by rw[List.map_map];rfl
 rw[this,zck]
theorem zh9 (t1:1<=t)(n1:1<=n)(t7:t<=7)(n7:n<=7)(I:Inv t n A b w v k)(B:Bn e t n w v k)(he:e<=20000000)(eb:∀i,i<t->∀j,j<n->(b i j).natAbs<=2^811)(hd:s.Pairwise fun p q=>p.1≠q.1)(hs:s.length<=7)(hr:r∈opR t s)(hc:c∈opC n s)(nz:b r c≠0):
  Ok (zbq [oT t n b w v k s,.val (.int (r:Nat)),.val (.int (c:Nat))]) fun x=>∃w' v' k' s',Inv t n A (zby b r c (opR t s) (opC n s)) w' v' k'/\Bn (e+11368) t n w' v' k'/\x=(.val .non,[oT t n (zby b r c (opR t s) (opC n s)) w' v' k' s',.emp,.emp])/\
   ((Opn (opR t s) (opC n s) b r c/\s'=s)\/(¬Opn (opR t s) (opC n s) b r c/\s'=s++[(r,c)])):=by
 have hrt:=zfG hr
 have hcn:=zbr hc
 have lR:(rest (opR t s) r).length<=7:=Nat.le_trans (List.length_filter_le _ _) (Nat.le_trans (zi4 t s) t7)
 have lC:(rest (opC n s) c).length<=7:=Nat.le_trans (List.length_filter_le _ _) (Nat.le_trans (zhU n s) n7)
 simp! only[↓zbq,↓zde]
 rw[zkT rfl rfl (zgX t1 n1)]
 simp! only[↓zdE]
 rw[zbX rfl]
 simp! only[]
 refine(zgT (by lia)).mono ?_
 rintro _ rfl
 simp! only[]
 refine⟨by have:=zi4 t s;lia,zfD (enc:=fun i:Nat=>D.int (i:Nat)) (fun ρ=>∃y,ρ=[.val (.int (r:Nat)),y]) (fun i=>if i=r then none else some (D.int (i:Nat))) ⟨_,rfl⟩ ?_ ?_⟩
 ·rintro i _ hi ⟨y,rfl⟩
  simp! only[↓zdz,↓zdw]
  refine⟨fun h=>⟨?_,_,rfl⟩,fun h=>⟨?_,_,rfl⟩⟩
  ·rw[if_neg (by lia)]
  ·rw[if_pos (by lia)]
 rintro _ ⟨y,rfl⟩
 simp! only[zoO]
 refine⟨⟨zlU _,rfl⟩,?_⟩
 rw[zkT rfl rfl (zgX t1 n1)]
 simp! only[↓zdv]
 rw[zbX rfl]
 simp! only[]
 refine(zb9 (by lia) (by lia) hd).mono ?_
 rintro _ rfl
 simp! only[]
 refine⟨by have:=zhU n s;lia,zfD (enc:=fun i:Nat=>D.int (i:Nat)) (fun ρ=>∃y,ρ=[.val (.int (c:Nat)),y]) (fun i=>if i=c then none else some (D.int (i:Nat))) ⟨_,rfl⟩ ?_ ?_⟩
 ·rintro i _ hi ⟨y,rfl⟩
  simp! only[↓zdx,↓zdA]
  refine⟨fun h=>⟨?_,_,rfl⟩,fun h=>⟨?_,_,rfl⟩⟩
  ·rw[if_neg (by lia)]
  ·rw[if_pos (by lia)]
 rintro _ ⟨y,rfl⟩
 simp! only[zoO]
 refine⟨⟨zlU _,rfl⟩,?_⟩
 refine rows_ok t1 n1 t7 n7 I B (by lia) eb hrt hcn nz (znp (opR_nd t s) r) (fun o ho=>zfG (mem_rest.mp ho).1) (zdd _ _) lR _ _ zlM fun w1 s5 p5 I1 B1=>?_
 simp! only[]
 have rr:∀j,za6 b r c (rest (opR t s) r) r j=b r j:=fun j=>by unfold za6;rw[if_neg (zdd _ _)]
 have bc:∀i,i<t->(za6 b r c (rest (opR t s) r) i c).natAbs<=2^2000:=fun i hi=>by
  unfold za6
  have h1:=eb i hi c hcn
  have up:(2:Nat)^811<=2^2000:=zbx (by lia)
  split
  ·have h2:=zaw (zf7 (b i c) nz) (eb r hrt c hcn)
   have h3:(b i c).natAbs*2^811<=2^811*2^811:=Nat.mul_le_mul_right _ h1
   have h4:(2:Nat)^811*2^811+2^811<=2^2000:=by decide+kernel
   lia
  ·lia
 refine cols_ok t1 n1 t7 n7 I1 B1 (by lia) (fun j hj=>by rw[rr];exact eb r hrt j hj) bc hrt hcn (by rw[rr];exact nz) (znp (zoM n s) c) (fun o ho=>zbr (mem_rest.mp ho).1) (zdd _ _) lC _ _ p5 fun v2 k2 s5 p5 I2 B2=>?_
 simp! only[]
 obtain⟨b2,hb2⟩:∃b2,b2=zby b r c (opR t s) (opC n s):=⟨_,rfl⟩
 have hb3:zch (za6 b r c (rest (opR t s) r)) r c (rest (opC n s) c)=b2:=hb2.symm
 rw[<-hb2]
 rw[hb3]at I2 ⊢
 have en:∀i∈opR t s,∀j∈opC n s,b2 i j=rnd b r c i j:=fun i hi j hj=>by rw[hb2];exact zb8 hi hj
 have op1:((rest (opR t s) r).map fun i=>b2 i c).any (fun x=>x !=0)=true->Opn (opR t s) (opC n s) b r c:=fun h=>by
  obtain⟨x,hx,h0⟩:=List.any_eq_true.mp h
  obtain⟨i,hi,rfl⟩:=List.mem_map.mp hx
  obtain⟨m1,m2⟩:=mem_rest.mp hi
  exact .inl ⟨i,m1,m2,by rw[<-en i m1 c hc];simpa using h0⟩
 have op2:((rest (opC n s) c).map fun i=>b2 r i).any (fun x=>x !=0)=true->Opn (opR t s) (opC n s) b r c:=fun h=>by
  obtain⟨x,hx,h0⟩:=List.any_eq_true.mp h
  obtain⟨i,hi,rfl⟩:=List.mem_map.mp hx
  obtain⟨m1,m2⟩:=mem_rest.mp hi
  exact .inr ⟨i,m1,m2,by rw[<-en r hr i m1];simpa using h0⟩
 have op3:((rest (opR t s) r).map fun i=>b2 i c).any (fun x=>x !=0)=false->((rest (opC n s) c).map fun i=>b2 r i).any (fun x=>x !=0)=false->¬Opn (opR t s) (opC n s) b r c:=fun h1 h2 o=>by
  rcases o with⟨i,mi,hi,h⟩|⟨j,mj,hj,h⟩
  ·have:=List.any_eq_false.mp h1 _ (List.mem_map.mpr ⟨i,mem_rest.mpr ⟨mi,hi⟩,rfl⟩)
   rw[en i mi c hc]at this
   exact h (by simpa using this)
  ·have:=List.any_eq_false.mp h2 _ (List.mem_map.mpr ⟨j,mem_rest.mpr ⟨mj,hj⟩,rfl⟩)
   rw[en r hr j mj]at this
   exact h (by simpa using this)
 have fin:∀(s':List (Nat×Nat)),((Opn (opR t s) (opC n s) b r c/\s'=s)\/(¬Opn (opR t s) (opC n s) b r c/\s'=s++[(r,c)]))->
   ∃w' v' k' s'',Inv t n A b2 w' v' k'/\Bn (e+11368) t n w' v' k'/\(Sl.val D.non,[oT t n b2 w1 v2 k2 s',Sl.emp,Sl.emp])=(Sl.val D.non,[oT t n b2 w' v' k' s'',Sl.emp,Sl.emp])/\
    ((Opn (opR t s) (opC n s) b r c/\s''=s)\/(¬Opn (opR t s) (opC n s) b r c/\s''=s++[(r,c)])):=fun s' h=>⟨w1,v2,k2,s',I2,B2.le (by lia),rfl,h⟩
 rw[zdk rfl rfl (zgX t1 n1)]
 simp! only[↓zds]
 refine⟨by lia,zfq (enc:=fun i:Nat=>D.int (i:Nat)) (fun ρ=>∃y,ρ=[.val (oD t n b2 w1 v2 k2 s),.val (.int (c:Nat)),y]) (fun i=> .int (b2 i c)) ⟨_,rfl⟩ ?_ ?_⟩
 ·rintro i _ hi ⟨y,rfl⟩
  simp! only[↓zdC,g0,zao _ (zfG (mem_rest.mp hi).1),zao _ hcn]
  exact⟨_,rfl⟩
 rintro _ ⟨y,rfl⟩
 simp! only[zjU]
 have zl:(([Sl.emp,.val (.int (r:Nat)),.val (.int (c:Nat)),.val (.lst ((rest (opR t s) r).map fun i=> .int (i:Nat))),.val (.lst ((rest (opC n s) c).map fun i=> .int (i:Nat))),s5].zip [.val (oD t n b2 w1 v2 k2 s),.val (.int (r:Nat)),.val (.int (c:Nat)),.val (.lst ((rest (opR t s) r).map fun i=> .int (i:Nat))),.val (.lst ((rest (opC n s) c).map fun i=> .int (i:Nat))),s5]).all fun q=>zgY q.1 q.2)=true:=by
  simp only[List.zip_cons_cons,List.zip_nil_right,List.all_cons,List.all_nil,zlM _,zjp _ _,p5 _,Bool.and_true]
 refine⟨⟨rfl,zl⟩,fun h1=>?_,fun h1=>?_⟩
 ·rw[zdk rfl rfl (zgX t1 n1)]
  simp! only[↓zdy]
  refine⟨by lia,zfq (enc:=fun i:Nat=>D.int (i:Nat)) (fun ρ=>∃y,ρ=[.val (oD t n b2 w1 v2 k2 s),.val (.int (r:Nat)),y]) (fun i=> .int (b2 r i)) ⟨_,rfl⟩ ?_ ?_⟩
  ·rintro i _ hi ⟨y,rfl⟩
   simp! only[↓zdD,g0,zao _ hrt,zao _ (zbr (mem_rest.mp hi).1)]
   exact⟨_,rfl⟩
  rintro _ ⟨y,rfl⟩
  simp! only[zjU]
  refine⟨⟨rfl,zl⟩,fun h2=>?_,fun h2=>?_⟩
  ·refine⟨by show(s.map _).length<16777216;rw[List.length_map];lia,?_⟩
   have hp:∀p∈s,p.1≠r:=fun p hp z=>by
    have:=(List.mem_filter.mp hr).2
    rw[Bool.not_eq_true']at this
    have:=List.any_eq_false.mp this p hp
    exact this (by simp[z])
   rw[ptD_new s r c hp]
   exact fin _ (.inr ⟨op3 (by simpa using h1) (by simpa using h2),rfl⟩)
  ·exact fin _ (.inl ⟨op2 (by simpa using h2),rfl⟩)
 ·exact fin _ (.inl ⟨op1 (by simpa using h1),rfl⟩)
end
structure Shp (t n:Nat) (b:Mx) (s:List (Nat×Nat)):Prop where
 d1:s.Pairwise fun p q=>p.1≠q.1
 d2:s.Pairwise fun p q=>p.2≠q.2
 lt:∀p∈s,p.1<t/\p.2<n
 nz:∀p∈s,b p.1 p.2≠0
 zr:∀p∈s,∀j,j<n->j≠p.2->b p.1 j=0
 zc:∀p∈s,∀i,i<t->i≠p.1->b i p.2=0
 sz:∀p∈s,(b p.1 p.2).natAbs<=2^811
def agr (Ro Co:List Nat)(b b':Mx):Prop:=∀i,i∈Ro->∀j,j∈Co->b i j=b' i j
section
variable {t n r c:Nat} {b b':Mx} {s:List (Nat×Nat)} {Ro Co:List Nat}
theorem agr.rnd (h:agr Ro Co b b')(hr:r∈Ro)(hc:c∈Co):agr Ro Co (rnd b r c) (rnd b' r c):=fun i hi j hj=>by
 unfold Prf.rnd
 rw[h i hi j hj,h r hr j hj,h i hi c hc,h r hr c hc]
theorem agr.lst (h:agr Ro Co b b')(l:Lst Ro Co b r c):Lst Ro Co b' r c:=by
 obtain⟨h1,h2,h3,h4⟩:=l
 refine⟨h1,h2,by rwa[<-h r h1 c h2],fun i hi j hj q=>?_⟩
 rw[<-h r h1 c h2,<-h i hi j hj]
 rw[<-h i hi j hj]at q
 exact h4 i hi j hj q
theorem agr.opn (h:agr Ro Co b b')(hr:r∈Ro)(hc:c∈Co)(o:Opn Ro Co b r c):Opn Ro Co b' r c:=by
 have a:=h.rnd hr hc
 rcases o with⟨i,mi,hi,z⟩|⟨j,mj,hj,z⟩
 ·exact .inl ⟨i,mi,hi,by rwa[<-a i mi c hc]⟩
 ·exact .inr ⟨j,mj,hj,by rwa[<-a r hr j mj]⟩
theorem agr.symm (h:agr Ro Co b b'):agr Ro Co b' b:=fun i hi j hj=>(h i hi j hj).symm
theorem zgn (hi:i<t):i∉opR t s↔∃p∈s,p.1=i:=by
 unfold opR
 rw[List.mem_filter]
 simp[hi]
theorem zgj (hi:i<n):i∉opC n s↔∃p∈s,p.2=i:=by
 unfold opC
 rw[List.mem_filter]
 simp[hi]
theorem opR_snoc:opR t (s++[(r,c)])=rest (opR t s) r:=by
 unfold opR rest
 rw[List.filter_filter]
 congr 1
 funext i
 rw[List.any_append]
 by_cases h:r=i
 ·subst h;simp
 ·have h2:¬i=r:=fun z=>h z.symm
  simp[h,h2,show(r==i)=false from beq_eq_false_iff_ne.mpr h,show(i !=r)=true from bne_iff_ne.mpr h2]
theorem opC_snoc:opC n (s++[(r,c)])=rest (opC n s) c:=by
 unfold opC rest
 rw[List.filter_filter]
 congr 1
 funext i
 rw[List.any_append]
 by_cases h:c=i
 ·subst h;simp
 ·have h2:¬i=c:=fun z=>h z.symm
  simp[h,h2,show(c==i)=false from beq_eq_false_iff_ne.mpr h,show(i !=c)=true from bne_iff_ne.mpr h2]
theorem zkZ (h:r∈l):(rest l r).length<l.length:=by
 unfold rest
 rcases Nat.lt_or_ge (l.filter fun i=>i !=r).length l.length with z|z
 ·exact z
 ·have:=List.length_filter_eq_length_iff.mp (Nat.le_antisymm (List.length_filter_le _ _) z) r h
  simp at this
theorem Shp.keep (S:Shp t n b s)(hr:r∈opR t s)(hc:c∈opC n s)(hi:i<t)(hj:j<n)(h:i∉opR t s\/j∉opC n s):zby b r c (opR t s) (opC n s) i j=b i j:=by
 have rr:∀j,za6 b r c (rest (opR t s) r) r j=b r j:=fun j=>by unfold za6;rw[if_neg (zdd _ _)]
 by_cases h1:i∈opR t s
 ·have h2:j∉opC n s:=by rcases h with h|h;exact absurd h1 h;exact h
  obtain⟨p,hp,e⟩:=(zgj hj).mp h2
  have z:b r j=0:=by
   have:=S.zc p hp r (zfG hr) fun z=>absurd hr ((zgn (zfG hr)).mpr ⟨p,hp,z.symm⟩)
   rwa[e]at this
  unfold zby zch
  rw[if_neg fun z=>h2 (mem_rest.mp z).1]
  unfold za6
  split
  ·rw[z];lia
  ·rfl
 ·obtain⟨p,hp,e⟩:=(zgn hi).mp h1
  have ri:∀j,za6 b r c (rest (opR t s) r) i j=b i j:=fun j=>by unfold za6;rw[if_neg fun z=>h1 (mem_rest.mp z).1]
  have z:b i c=0:=by
   have:=S.zr p hp c (zbr hc) fun z=>absurd hc ((zgj (zbr hc)).mpr ⟨p,hp,z.symm⟩)
   rwa[e]at this
  unfold zby zch
  rw[ri,ri,z]
  split
  ·lia
  ·rfl
theorem Shp.ent (S:Shp t n b s)(h:Eb (opR t s) (opC n s) b (2^811)):∀i,i<t->∀j,j<n->(b i j).natAbs<=2^811:=fun i hi j hj=>by
 by_cases h1:i∈opR t s
 ·by_cases h2:j∈opC n s
  ·exact h i h1 j h2
  ·obtain⟨p,hp,e⟩:=(zgj hj).mp h2
   by_cases e2:i=p.1
   ·subst e e2;exact S.sz p hp
   ·have:=S.zc p hp i hi e2
    rw[e]at this
    rw[this];exact Nat.zero_le _
 ·obtain⟨p,hp,e⟩:=(zgn hi).mp h1
  by_cases e2:j=p.2
  ·subst e e2;exact S.sz p hp
  ·have:=S.zr p hp j hj e2
   rw[e]at this
   rw[this];exact Nat.zero_le _
theorem zm6 (S:Shp t n b s)(hp:p∈s):p.1∉opR t s:=(zgn (S.lt p hp).1).mpr ⟨p,hp,rfl⟩
theorem mem_c (S:Shp t n b s)(hp:p∈s):p.2∉opC n s:=(zgj (S.lt p hp).2).mpr ⟨p,hp,rfl⟩
theorem Shp.same (S:Shp t n b s)(hr:r∈opR t s)(hc:c∈opC n s):Shp t n (zby b r c (opR t s) (opC n s)) s where
 d1:=S.d1
 d2:=S.d2
 lt:=S.lt
 nz:=fun p hp=>by rw[S.keep hr hc (S.lt p hp).1 (S.lt p hp).2 (.inl (zm6 S hp))];exact S.nz p hp
 zr:=fun p hp j hj h=>by rw[S.keep hr hc (S.lt p hp).1 hj (.inl (zm6 S hp))];exact S.zr p hp j hj h
 zc:=fun p hp i hi h=>by rw[S.keep hr hc hi (S.lt p hp).2 (.inr (mem_c S hp))];exact S.zc p hp i hi h
 sz:=fun p hp=>by rw[S.keep hr hc (S.lt p hp).1 (S.lt p hp).2 (.inl (zm6 S hp))];exact S.sz p hp
theorem Shp.new (S:Shp t n b s)(hr:r∈opR t s)(hc:c∈opC n s)(nz:b r c≠0)(sz:(b r c).natAbs<=2^811)(o:¬Opn (opR t s) (opC n s) b r c):Shp t n (zby b r c (opR t s) (opC n s)) (s++[(r,c)]):=by
 have T:=S.same hr hc
 have ne1:∀p∈s,p.1≠r:=fun p hp z=>zm6 S hp (z ▸ hr)
 have ne2:∀p∈s,p.2≠c:=fun p hp z=>mem_c S hp (z ▸ hc)
 have e:zby b r c (opR t s) (opC n s) r c=b r c:=by rw[zb8 hr hc,zdK]
 have cases:∀{p},p∈s++[(r,c)]->p∈s\/p=(r,c):=fun h=>by
  rcases List.mem_append.mp h with h|h
  ·exact .inl h
  ·exact .inr (by simpa using h)
 refine⟨?_,?_,fun p hp=>?_,fun p hp=>?_,fun p hp j hj h=>?_,fun p hp i hi h=>?_,fun p hp=>?_⟩
 ·rw[List.pairwise_append]
  exact⟨S.d1,by simp,fun p hp q hq=>by rw[List.mem_singleton.mp hq];exact ne1 p hp⟩
 ·rw[List.pairwise_append]
  exact⟨S.d2,by simp,fun p hp q hq=>by rw[List.mem_singleton.mp hq];exact ne2 p hp⟩
 ·rcases cases hp with hp|rfl
  ·exact S.lt p hp
  ·exact⟨zfG hr,zbr hc⟩
 ·rcases cases hp with hp|rfl
  ·exact T.nz p hp
  ·show zby _ _ _ _ _ r c≠0
   rw[e];exact nz
 ·rcases cases hp with hp|rfl
  ·exact T.zr p hp j hj h
  ·show zby _ _ _ _ _ r j=0
   have h:j≠c:=h
   by_cases mj:j∈opC n s
   ·rw[zb8 hr mj]
    exact Classical.byContradiction fun z=>o (.inr ⟨j,mj,h,z⟩)
   ·obtain⟨q,hq,e⟩:=(zgj hj).mp mj
    have:=T.zc q hq r (zfG hr) (Ne.symm (ne1 q hq))
    rwa[e]at this
 ·rcases cases hp with hp|rfl
  ·exact T.zc p hp i hi h
  ·show zby _ _ _ _ _ i c=0
   have h:i≠r:=h
   by_cases mi:i∈opR t s
   ·rw[zb8 mi hc]
    exact Classical.byContradiction fun z=>o (.inl ⟨i,mi,h,z⟩)
   ·obtain⟨q,hq,e⟩:=(zgn hi).mp mi
    have:=T.zr q hq c (zbr hc) (Ne.symm (ne2 q hq))
    rwa[e]at this
 ·rcases cases hp with hp|rfl
  ·exact T.sz p hp
  ·show(zby _ _ _ _ _ r c).natAbs<=_
   rw[e];exact sz
def Ts:Nat->Nat
 |0=>1376
 |1=>1375
 |2=>1374
 |3=>1372
 |4=>1209
 |5=>2
 |6=>1
 |_=>0
theorem Ts_next:∀{s:Nat},s<=6->Ts s=1+Nx (s+1)+Ts (s+1)
 |0,_=>rfl
 |1,_=>rfl
 |2,_=>rfl
 |3,_=>rfl
 |4,_=>rfl
 |5,_=>rfl
 |6,_=>rfl
 |_+7,h=>by lia
def Far (t n:Nat)(b:Mx)(s:List (Nat×Nat))(m:Nat):Prop:=Shp t n b s/\s.length<=7/\∃B N,agr (opR t s) (opC n s) B b/\Stg s.length (opR t s) (opC n s) B N/\N+Ts s.length<=m
variable {m:Nat}
theorem Far.eb (F:Far t n b s m):∀i,i<t->∀j,j<n->(b i j).natAbs<=2^811:=by
 obtain⟨S,_,B,N,a,g,_⟩:=F
 refine S.ent fun i hi j hj=>?_
 rw[<-a i hi j hj]
 exact g.ent i hi j hj
theorem Far.step (F:Far t n b s m)(l:Lst (opR t s) (opC n s) b r c):∃m',m=m'+1/\(Opn (opR t s) (opC n s) b r c->Far t n (zby b r c (opR t s) (opC n s)) s m')/\
  (¬Opn (opR t s) (opC n s) b r c->Far t n (zby b r c (opR t s) (opC n s)) (s++[(r,c)]) m'):=by
 have ebd:=F.eb
 obtain⟨S,sl,B,N,a,g,hm⟩:=F
 have l2:=a.symm.lst l
 obtain⟨g1,g2⟩:=g.step l2
 have s6:s.length<=6:=by
  have:=List.length_pos_of_mem l.1
  have:=g.1
  lia
 have tn:=Ts_next s6
 have hr:=l.1
 have hc:=l.2.1
 refine⟨m-1,by lia,fun o=>?_,fun o=>?_⟩
 ·obtain⟨N',rfl,g3⟩:=g1 (a.symm.opn hr hc o)
  exact⟨S.same hr hc,sl,_,N',fun i hi j hj=>by rw[zb8 hi hj];exact a.rnd hr hc i hi j hj,g3,by lia⟩
 ·have o2:¬Opn (opR t s) (opC n s) B r c:=fun z=>o (a.opn hr hc z)
  have R:=opR_snoc (t:=t) (s:=s) (r:=r) (c:=c)
  have C:=opC_snoc (n:=n) (s:=s) (r:=r) (c:=c)
  have g3:=g2 o2 (opR t (s++[(r,c)])) (opC n (s++[(r,c)])) (fun i hi=>by rw[R]at hi;exact mem_rest.mp hi) (fun i hi=>by rw[C]at hi;exact mem_rest.mp hi) (by rw[R];have:=zkZ hr;have:=g.1;lia) (by rw[C];have:=zkZ hc;have:=g.2.1;lia)
  refine⟨S.new hr hc l.2.2.1 (ebd r (zfG hr) c (zbr hc)) o,by rw[List.length_append];show s.length+1<=7;lia,rnd B r c,Nx (s.length+1),fun i hi j hj=>?_,?_,?_⟩
  ·rw[R]at hi
   rw[C]at hj
   have hi:=(mem_rest.mp hi).1
   have hj:=(mem_rest.mp hj).1
   rw[zb8 hi hj];exact a.rnd hr hc i hi j hj
  ·rw[List.length_append];exact g3
  ·rw[List.length_append]
   show Nx (s.length+1)+Ts (s.length+1)<=m-1
   lia
theorem Far.start {A:Mx}(t7:t<=7)(n7:n<=7)(h:∀i j,A i j=0\/A i j=1):Far t n A [] 1376:=by
 refine⟨⟨by simp,by simp,by simp,by simp,by simp,by simp,by simp⟩,by simp,A,0,fun _ _ _ _=>rfl,⟨?_,?_,rfl,fun i _ j _=>h i j⟩,by decide⟩
 ·have:=zi4 t [];exact Nat.le_trans this t7
 ·have:=zhU n [];exact Nat.le_trans this n7
end
structure Fin (t n:Nat) (A b w v k:Mx) (s:List (Nat×Nat)):Prop where
 I:Inv t n A b w v k
 B:∃e,e<=16000000/\Bn e t n w v k
 S:Shp t n b s
 z:∀r∈opR t s,∀c∈opC n s,b r c=0
 l:s.length<=7
 e:∀i,i<t->∀j,j<n->(b i j).natAbs<=2^811
theorem znU (h:m<2^40):m<bigF:=Nat.lt_of_lt_of_le h (zbx (show 40<=10000 by lia))
section
variable {n t:Nat} {c:Nat->Nat} {z:Nat->Nat->Nat} {S:Nat->Int}
abbrev Cor (t n:Nat)(b:Mx)(s:List (Nat×Nat))(x:D):Prop:=(x= .non/\∀r∈opR t s,∀c∈opC n s,b r c=0)\/∃r c,x= .tup [.int (r:Nat),.int (c:Nat)]/\Lst (opR t s) (opC n s) b r c
theorem zjH (n1:1<=n)(n7:n<=7)(t1:1<=t)(t7:t<=7){b w v k:Mx}(h:Shp t n b s)(sl:s.length<=7)(d:D){s2:Sl}(p2:Pn s2)(hq:∀x,Cor t n b s x->Q (x,[oT t n b w v k s,.val d,s2])):Ok (eLkO 0 (zcs zaR slC slN (eVar 0) aNil) [oT t n b w v k s,.val d,s2]) Q:=by
 change OkQ Q _
 rw[zdk rfl rfl (zgX t1 n1)]
 simp! only[]
 rw[zbX rfl]
 simp! only[]
 refine(zhk (by lia) (by lia) (by lia) h.d1).mono ?_
 have zl:(([Sl.emp,.val d,s2].zip [.val (oD t n b w v k s),.val d,s2]).all fun q=>zgY q.1 q.2)=true:=by
  simp only[List.zip_cons_cons,List.zip_nil_right,List.all_cons,List.all_nil,zlM _,zjp _ _,p2 _,Bool.and_true]
 rintro _ (⟨rfl,h0⟩|⟨r,c,rfl,h1,h2,h3,h4⟩)
 ·simp! only[]
  exact⟨⟨rfl,zl⟩,hq _ (.inl ⟨rfl,h0⟩)⟩
 ·simp! only[]
  exact⟨⟨rfl,zl⟩,hq _ (.inr ⟨r,c,rfl,h1,h2,h3,h4⟩)⟩
theorem zm7 (n1:1<=n)(n7:n<=7)(t1:1<=t)(t7:t<=7):Ok (zbA [.ptr (.obj slC [] [] none),.val (teD n t c z S)]) fun x=>∃b w v k s,Fin t n (incA c z) b w v k s/\x=(.val .non,[oT t n b w v k s,.emp]):=by
 simp! only[↓zbA,↓zge,teD,↓zfW]
 generalize hd:D.tup [D.int (n:Nat),.tup (zep t c z),.tup (wI t S)]=d
 have i0:dIx d (.int 0)=some (.int (n:Nat)):=by rw[<-hd];rfl
 have i1:dIx d (.int 1)=some (.tup (zep t c z)):=by rw[<-hd];rfl
 refine⟨by unfold zep;rw[zay];lia,?_⟩
 unfold zep at hd i1 ⊢
 refine zaC (fun ρ=>∃y,ρ=[.val d,y]) (fun i=> .lst (wI n (incA c z i))) ⟨_,rfl⟩ ?_ ?_
 ·rintro i _ hi ⟨y,rfl⟩
  simp! only[↓zfJ,i0]
  refine(zmf n (by lia) (c i) (z i)).mono ?_
  rintro _ rfl
  simp! only[]
  exact⟨rfl,_,rfl⟩
 rintro _ ⟨y,rfl⟩
 rw[if_pos ⟨rfl,rfl⟩]
 simp! only[i1]
 refine(zd0 t (by lia)).mono ?_
 rintro _ rfl
 simp! only[i0]
 refine(zd0 n (by lia)).mono ?_
 rintro _ rfl
 simp! only[i0]
 refine(zd0 n (by lia)).mono ?_
 rintro _ rfl
 simp! only[]
 have far:Far t n (incA c z) [] 1376:=Far.start t7 n7 fun i j=>by unfold incA;split<;>simp
 have b0:Bn 0 t n un un un:=by
  have:∀i j,(un i j).natAbs<=2^0:=fun i j=>by unfold un;split<;>decide
  exact⟨fun i j _ _=>this i j,fun i j _ _=>this i j,fun i j _ _=>this i j⟩
 refine zjH (s:=[]) n1 n7 t1 t7 far.1 (by simp) d zlM fun x hx=>?_
 simp! only[↓zfE]
 refine zg9 (fun m ρ=>m<=1376/\∃b w v k s x,Inv t n (incA c z) b w v k/\Bn (11368*(1376-m)) t n w v k/\Far t n b s m/\Cor t n b s x/\ρ=[oT t n b w v k s,.val d,.val x]) ?_ bigF 1376 _ (znU (by lia)) ⟨Nat.le_refl _,_,_,_,_,_,_,Inv.start t n _,by simpa using b0,far,hx,rfl⟩
 rintro m _ ⟨hm,b,w,v,k,s,x,I,B,F,hx,rfl⟩
 simp! only[↓zf2]
 rcases hx with⟨rfl,h0⟩|⟨r,c,rfl,l⟩
 ·simp! only[]
  exact⟨b,w,v,k,s,⟨I,⟨_,by lia,B⟩,F.1,h0,F.2.1,F.eb⟩,rfl⟩
 ·simp! only[]
  obtain⟨m',rfl,f1,f2⟩:=F.step l
  refine⟨m',rfl,?_⟩
  simp! only[↓zfL]
  rw[zhp rfl rfl]
  simp! only[]
  refine(zh9 t1 n1 t7 n7 I B (by lia) F.eb F.1.d1 F.2.1 l.1 l.2.1 l.2.2.1).mono ?_
  rintro _ ⟨w',v',k',s',I',B',rfl,hs⟩
  simp! only[]
  have F':Far t n (zby b r c (opR t s) (opC n s)) s' m':=by
   rcases hs with⟨o,rfl⟩|⟨o,rfl⟩
   ·exact f1 o
   ·exact f2 o
  refine zjH n1 n7 t1 t7 F'.1 F'.2.1 d (zjp _) fun x hx=>?_
  simp! only[]
  exact⟨by lia,_,_,_,_,_,_,I',B'.le (by lia),F',hx,rfl⟩
end
theorem abs1_nat (x:Int):abs1 x=(x.natAbs:Nat):=by unfold abs1;split<;>lia
theorem divF6 (h0:x≠0)(h:x.natAbs<=2^6000):zhn x=true:=by
 unfold zhn
 have h1:x.natAbs<2^6001:=Nat.lt_of_le_of_lt h (Nat.pow_lt_pow_right (by decide) (by lia))
 have:x.natAbs.log2<9000:=by have:=(Nat.log2_lt (show x.natAbs≠0 by lia)).mpr h1;lia
 rw[decide_eq_true h0,decide_eq_true this];rfl
theorem znC (hy:y.natAbs<=2^6000):Ok (zaV [.int x,.int y]) fun z=>z= .val (.int (Int.gcd x y)):=by
 simp! only[↓zaV,↓zb6,abs1_nat,↓zcl]
 refine zg9 (fun m ρ=>∃(a b:Nat) (z:Sl),b<=m/\Nat.gcd a b=Int.gcd x y/\ρ=[.val (.int x),.val (.int y),.val (.int a),.val (.int b),z]) ?_ bigF y.natAbs _ (Nat.lt_of_le_of_lt hy (Nat.pow_lt_pow_right (by decide) (show 6000<10000 by lia))) ⟨_,_,_,Nat.le_refl _,rfl,rfl⟩
 rintro m _ ⟨a,b,z,hb,hg,rfl⟩
 simp! only[↓zcd]
 refine⟨fun c=>?_,fun c=>?_⟩
 ·have b0:b≠0:=by simpa using c
  refine⟨m-1,by lia,?_⟩
  simp! only[↓zcf]
  refine⟨by lia,b,a%b,_,by have:=Nat.mod_lt a (show 0<b by lia);lia,?_,by rw[Int.natCast_emod]⟩
  rw[<-hg,Nat.gcd_comm a b,Nat.gcd_rec b a,Nat.gcd_comm]
 ·have b0:b=0:=by simpa using c
  subst b0
  rw[<-hg,Nat.gcd_zero_right]
def dv (x y:Int):Int:=if y<0 then-(Int.gcd x y:Int)else Int.gcd x y
abbrev rp (x y:Int):Int:=x.fdiv (dv x y)
abbrev rq (x y:Int):Int:=y.fdiv (dv x y)
theorem rat (hy:y≠0):dv x y≠0/\(dv x y).natAbs<=y.natAbs/\0<rq x y/\Int.gcd (rp x y) (rq x y)=1/\rp x y*y=x*rq x y/\(rp x y).natAbs<=x.natAbs/\(rq x y).natAbs<=y.natAbs:=by
 have gp:0<Int.gcd x y:=Int.gcd_pos_of_ne_zero_right x hy
 have n:dv x y≠0:=by unfold dv;split<;>lia
 have ab:(dv x y).natAbs=Int.gcd x y:=by unfold dv;split<;>lia
 have le:Int.gcd x y<=y.natAbs:=Nat.le_of_dvd (by lia) (Nat.gcd_dvd_right _ _)
 have dx:dv x y∣x:=by rw[<-Int.natAbs_dvd,ab];exact Int.gcd_dvd_left ..
 have dy:dv x y∣y:=by rw[<-Int.natAbs_dvd,ab];exact Int.gcd_dvd_right ..
 obtain⟨p,ep⟩:=dx
 obtain⟨q,eq⟩:=dy
 have hp:rp x y=p:=by unfold rp;conv=>lhs;rw[show x.fdiv (dv x y)=(dv x y*p).fdiv (dv x y) by rw[<-ep]];rw[Int.mul_fdiv_cancel_left _ n]
 have hq:rq x y=q:=by unfold rq;conv=>lhs;rw[show y.fdiv (dv x y)=(dv x y*q).fdiv (dv x y) by rw[<-eq]];rw[Int.mul_fdiv_cancel_left _ n]
 refine⟨n,by lia,?_,?_,?_,zf7 x n,zf7 y n⟩
 ·rw[hq]
  rcases Int.lt_or_gt_of_ne hy with h|h
  ·have e:dv x y= -(Int.gcd x y:Int):=by unfold dv;rw[if_pos h]
   have e1: -(Int.gcd x y:Int)*q=y:=by rw[<-e];exact eq.symm
   rw[Int.neg_mul]at e1
   have h3:0<(Int.gcd x y:Int)*q:=by lia
   exact Int.pos_of_mul_pos_right h3 (by lia)
  ·have e:dv x y=(Int.gcd x y:Int):=by unfold dv;rw[if_neg (by lia)]
   have h3:0<(Int.gcd x y:Int)*q:=by rw[e]at eq;lia
   exact Int.pos_of_mul_pos_right h3 (by lia)
 ·rw[hp,hq]
  have:Int.gcd (dv x y*p) (dv x y*q)=(dv x y).natAbs*Int.gcd p q:=Int.gcd_mul_left ..
  rw[<-ep,<-eq,ab]at this
  exact Nat.eq_of_mul_eq_mul_left gp (by lia)
 ·rw[hp,hq]
  generalize dv x y=d at ep eq
  subst ep eq
  grind
theorem zlz {x y:Int}(n:y≠0)(hy:y.natAbs<=2^6000):Ok (zbC [.int x,.int y]) fun z=>z= .val (.tup [.int (rp x y),.int (rq x y)]):=by
 have R:=rat (x:=x) n
 have ok:zhn (dv x y)=true:=divF6 R.1 (Nat.le_trans R.2.1 hy)
 simp! only[↓zbC,↓zgb]
 refine(znC hy).mono ?_
 rintro _ rfl
 simp! only[]
 refine⟨fun c=>?_,fun c=>?_⟩
 ·have c:y<0:=by simpa using c
  have e:dv x y= -(Int.gcd x y:Int):=by unfold dv;rw[if_pos c]
  simp! only[↓zdh,rp,rq,<-e,ok]
 ·have c:¬y<0:=by simpa using c
  have e:dv x y=(Int.gcd x y:Int):=by unfold dv;rw[if_neg c]
  simp! only[↓zdh,rp,rq,<-e,ok]
def fac:Nat->Int
 |0=>1
 |n+1=>((n+1:Nat):Int)*fac n
theorem ziR:∀n,0<fac n
 |0=>by decide
 |n+1=>Int.mul_pos (by lia) (ziR n)
theorem beta {D:Int}(h:∀d:Nat,1<=d->d<=N->(d:Int)∣D):∀b a,a+b+1<=N->∃q:Int,q*fac (a+b+1)=D*fac a*fac b
 |0,a,l=>by
  obtain⟨q,e⟩:=h (a+1) (by lia) (by lia)
  refine⟨q,?_⟩
  show q*(((a+1:Nat):Int)*fac a)=D*fac a*1
  rw[e];grind
 |b+1,a,l=>by
  obtain⟨q1,e1⟩:=beta h b a (by lia)
  obtain⟨q2,e2⟩:=beta h b (a+1) (by lia)
  refine⟨q1-q2,?_⟩
  have f1:fac (a+(b+1)+1)=((a+b+2:Nat):Int)*fac (a+b+1):=rfl
  rw[show a+1+b+1=a+(b+1)+1 by lia]at e2
  have f2:fac (a+1)=((a+1:Nat):Int)*fac a:=rfl
  have f3:fac (b+1)=((b+1:Nat):Int)*fac b:=rfl
  rw[Int.sub_mul,e2,f1,f2,f3]
  have e3:q1*(((a+b+2:Nat):Int)*fac (a+b+1))=((a+b+2:Nat):Int)*(D*fac a*fac b):=by rw[<-e1];grind
  rw[e3]
  have e4:((a+b+2:Nat):Int)=((a+1:Nat):Int)+((b+1:Nat):Int):=by lia
  rw[e4];grind
theorem zol:∀k,(2:Int)^k*(fac k*fac k)<=fac (2*k+1)
 |0=>by decide
 |k+1=>by
  have h:=zol k
  have e:fac (2*(k+1)+1)=((2*k+3:Nat):Int)*(((2*k+2:Nat):Int)*fac (2*k+1)):=rfl
  have f:fac (k+1)=((k+1:Nat):Int)*fac k:=rfl
  rw[e,f,Int.pow_succ]
  have p:=ziR (2*k+1)
  have c:(2:Int)*(((k+1:Nat):Int)*((k+1:Nat):Int))<=((2*k+3:Nat):Int)*((2*k+2:Nat):Int):=by
   have:((2*k+3:Nat):Int)*((2*k+2:Nat):Int)=2*(((k+1:Nat):Int)*((k+1:Nat):Int))+(2*(((k+1:Nat):Int)*((k+1:Nat):Int))+2*((k+1:Nat):Int)):=by
    rw[show((2*k+3:Nat):Int)=2*((k+1:Nat):Int)+1 by lia,show((2*k+2:Nat):Int)=2*((k+1:Nat):Int) by lia];grind
   have z:(0:Int)<=((k+1:Nat):Int)*((k+1:Nat):Int):=Int.mul_nonneg (by lia) (by lia)
   lia
  have s1:=Int.mul_le_mul_of_nonneg_left h (show(0:Int)<=2*(((k+1:Nat):Int)*((k+1:Nat):Int))from Int.mul_nonneg (by decide) (Int.mul_nonneg (by lia) (by lia)))
  have s2:=Int.mul_le_mul_of_nonneg_right c (Int.le_of_lt p)
  refine Int.le_trans (Int.le_of_eq ?_) (Int.le_trans s1 (Int.le_trans s2 (Int.le_of_eq (Int.mul_assoc _ _ _))))
  grind
theorem all_div {D:Int}(nz:D≠0)(h:∀d:Nat,1<=d->d<=2*k+1->(d:Int)∣D):2^k<=D.natAbs:=by
 have h':∀d:Nat,1<=d->d<=2*k+1->(d:Int)∣(D.natAbs:Int):=fun d h1 h2=>Int.dvd_natAbs.mpr (h d h1 h2)
 obtain⟨q,e⟩:=beta h' k k (by lia)
 rw[show k+k+1=2*k+1 by lia]at e
 have p1:=ziR k
 have p2:=ziR (2*k+1)
 have p3:0<fac k*fac k:=Int.mul_pos p1 p1
 have dp:(0:Int)<D.natAbs:=by lia
 have rp:(0:Int)<q*fac (2*k+1):=by rw[e,Int.mul_assoc];exact Int.mul_pos dp p3
 have qp:0<q:=Int.pos_of_mul_pos_left rp p2
 have s1:fac (2*k+1)<=q*fac (2*k+1):=by
  have:=Int.mul_le_mul_of_nonneg_right (show 1<=q by lia) (Int.le_of_lt p2)
  lia
 have s2:(2:Int)^k*(fac k*fac k)<=(D.natAbs:Int)*(fac k*fac k):=by
  have:=zol k
  rw[e,Int.mul_assoc]at s1
  lia
 have s3:=Int.le_of_mul_le_mul_right s2 p3
 have:((2^k:Nat):Int)<=(D.natAbs:Nat):=by rw[Int.natCast_pow];exact s3
 exact Int.ofNat_le.mp this
theorem least_ok (nz:x≠0)(hx:x.natAbs<=2^e)(he:e<=30000000):Ok (zaN [.int x]) fun y=>∃by_:Nat,2<=by_/\by_<=2^26/\¬(by_:Int)∣x/\y= .val (.int by_):=by
 simp! only[↓zaN,↓zbv,↓zbV]
 refine zg9 (fun m ρ=>∃q:Nat,2<=q/\m+q=2*e+4/\(∀d:Nat,1<=d->d<q->(d:Int)∣x)/\ρ=[.val (.int x),.val (.int q)]) ?_ bigF (2*e+2) _ (znU (by lia)) ⟨2,by lia,by lia,fun d h1 h2=>?_,rfl⟩
 ·rintro m _ ⟨q,q2,hm,hd,rfl⟩
  have lt:q<2*e+4:=Classical.byContradiction fun z=>by
   have:=all_div nz (k:=e+1) fun d h1 h2=>hd d h1 (by lia)
   have:=Nat.pow_lt_pow_right (show 1<2 by decide) (show e<e+1 by lia)
   lia
  simp! only[↓zbP]
  refine⟨by lia,fun c=>?_,fun c=>?_⟩
  ·refine⟨m-1,by lia,?_⟩
   simp! only[↓zbZ]
   refine⟨q+1,by lia,by lia,fun d h1 h2=>?_,?_⟩
   ·rcases Nat.lt_or_ge d q with h|h
    ·exact hd d h1 h
    ·have:d=q:=by lia
     subst this
     exact Int.dvd_of_emod_eq_zero (by simpa using c)
   ·rw[show((q:Nat):Int)+1=((q+1:Nat):Int) by lia]
  ·exact⟨q,q2,by lia,fun z=>by have:=Int.emod_eq_zero_of_dvd z;simp[this]at c,rfl⟩
 ·have:d=1:=by lia
  subst this
  exact Int.one_dvd x
theorem ziE (h:Sq d t f)(ht:t<=100)(n:y≠0)(hy:y.natAbs<=2^811):Ok (zcT [d,.int y]) fun z=>z= .val (.tup [.str "none",.tup (wL t fun i=> .tup [.int (rp (f i) y),.int (rq (f i) y)])]):=by
 simp! only[↓zcT,↓zhI,↓zgB,h.it]
 refine⟨by lia,zaC (fun ρ=>∃z,ρ=[.val (.int y),z]) (fun i=> .tup [.int (rp (f i) y),.int (rq (f i) y)]) ⟨_,rfl⟩ ?_ ?_⟩
 ·rintro i _ hi ⟨z,rfl⟩
  simp! only[↓zgQ]
  refine(zlz n (Nat.le_trans hy (Nat.pow_le_pow_right (by decide) (by decide)))).mono ?_
  rintro _ rfl
  simp! only[]
  exact⟨_,rfl⟩
 ·rintro _ ⟨z,rfl⟩
  simp! only[]
theorem zg6:∀{m:Nat},m<=7->(∀i,i<m->(f i).natAbs<=2^e)->(sumR m f).natAbs<=2^(e+3):=by
 intro m hm h
 have:∀k,k<=m->(sumR k f).natAbs<=k*2^e:=by
  intro k
  induction k with
  |zero=>intro _;simp[sumR]
  |succ k ih=>
   intro hk
   have a:=ih (by lia)
   have b:=h k (by lia)
   have c:=Int.natAbs_add_le (sumR k f) (f k)
   rw[Nat.succ_mul]
   show(sumR k f+f k).natAbs<=_
   lia
 have a:=this m (Nat.le_refl _)
 rw[Nat.pow_add]
 have:m*2^e<=7*2^e:=Nat.mul_le_mul_right _ hm
 lia
theorem Rise.inj {z:Nat->Nat}(h:Rise n c z):∀{j:Nat},i<j->j<c->z i<z j
 |0,a,_=>by lia
 |j+1,a,b=>by
  have:=h.up j b
  rcases Nat.lt_or_ge i j with q|q
  ·have:=Rise.inj h q (by lia);lia
  ·have:i=j:=by lia
   subst this;lia
section
variable {n t:Nat} {c:Nat->Nat} {z:Nat->Nat->Nat} {S:Nat->Int}
theorem zfI (hr:∀i,i<t->Rise n (c i) (z i))(R:Nat->Int)(ha:a<t):ssum c z R a=sumR n fun p=>incA c z a p*R p:=by
 have H:=hr a ha
 have:∀k,k<=c a->sumR k (fun j=>R (z a j))=sumR n fun p=>(if hasP k (z a) p then 1 else 0)*R p:=by
  intro k
  induction k with
  |zero=>
   intro _
   show(0:Int)=_
   rw[zae (g:=fun _=>0) fun p _=>by simp[hasP],zaT]
  |succ k ih=>
   intro hk
   show sumR k _+R (z a k)=_
   rw[ih (by lia),zae (f:=fun p=>(if hasP (k+1) (z a) p then 1 else 0)*R p) (g:=fun p=>(if hasP k (z a) p then 1 else 0)*R p+if p=z a k then R (z a k)else 0) fun p _=>?_,zbk,zdc,if_pos (H.lt k (by lia))]
   have e:hasP (k+1) (z a) p=(hasP k (z a) p||z a k==p):=by unfold hasP;rw[List.range_succ,List.any_append];simp
   rw[e]
   by_cases h1:p=z a k
   ·have h2:hasP k (z a) p=false:=by
     unfold hasP
     rw[List.any_eq_false]
     intro j hj
     have:=Rise.inj H (List.mem_range.mp hj) (show k<c a by lia)
     simp;lia
    rw[h2,if_pos h1]
    simp[h1]
   ·have h2:(z a k==p)=false:=by rw[beq_eq_false_iff_ne];exact Ne.symm h1
    rw[h2,if_neg h1,Bool.or_false];lia
 exact this (c a) (Nat.le_refl _)
def gsum (t:Nat)(A:Mx)(f:Nat->Int)(p:Nat):Int:=sumR t fun a=>f a*A a p
def wsum (t:Nat)(S f:Nat->Int):Int:=sumR t fun a=>f a*S a
variable {A b w v k:Mx} {s:List (Nat×Nat)}
theorem Inv.bl2 (I:Inv t n A b w v k)(hi:i<t)(hj:j<n):b i j=sumR n fun p=>gsum t A (w i) p*v j p:=by
 rw[I.bl i hi j hj,zcg]
 refine zae fun p _=>?_
 unfold gsum
 rw[Int.mul_comm,<-za0]
 exact zae fun a _=>by grind
theorem Inv.back (I:Inv t n A b w v k){i q:Nat}(hi:i<t)(hq:q<n):gsum t A (w i) q=sumR n fun j=>b i j*k j q:=by
 have e1:(sumR n fun j=>b i j*k j q)=sumR n fun j=>sumR n fun p=>gsum t A (w i) p*(k j q*v j p):=zae fun j hj=>by
  rw[I.bl2 hi hj,Int.mul_comm,<-za0]
  exact zae fun p _=>by grind
 rw[e1,zcg,zae (g:=fun p=>un q p*gsum t A (w i) p) fun p hp=>by rw[za0,I.kv q p hq hp,Int.mul_comm],zek hq]
def phi (t n:Nat)(A w:Mx)(R:Nat->Int)(i:Nat):Int:=sumR n fun p=>gsum t A (w i) p*R p
theorem phi_add (I:Inv t n A b w v k)(R:Nat->Int)(q:Int)(hi:i<t)(hj:j<n):phi t n A w (fun p=>R p- -q*v j p) i=phi t n A w R i+q*b i j:=by
 rw[I.bl2 hi hj,<-za0]
 unfold phi
 rw[<-zbk]
 exact zae fun p _=>by grind
theorem zi1 (R:Nat->Int)(f:Nat->Int):wsum t (fun a=>sumR n fun p=>A a p*R p) f=sumR n fun p=>gsum t A f p*R p:=by
 unfold wsum gsum
 rw[zae (g:=fun a=>sumR n fun p=>f a*(A a p*R p)) fun a _=>by rw[za0],zcg]
 refine zae fun p _=>?_
 rw[Int.mul_comm,<-za0]
 exact zae fun a _=>by grind
theorem Fin.right (F:Fin t n A b w v k s){R S:Nat->Int}(h:∀i,i<t->phi t n A w R i=wsum t S (w i)):∀a,a<t->(sumR n fun p=>A a p*R p)=S a:=fun a ha=>by
 have:=F.I.wi (fun a=>(sumR n fun p=>A a p*R p)-S a) (fun i hi=>by
  have e:=h i hi
  unfold phi at e
  rw[<-zi1]at e
  unfold wsum at e
  rw[zae (g:=fun a=>w i a*(sumR n fun p=>A a p*R p)-w i a*S a) fun a _=>by rw[Int.mul_sub],zcv,e]
  lia) a ha
 lia
theorem Fin.row0 (F:Fin t n A b w v k s)(hr:r<t)(h:r∈opR t s):∀j,j<n->b r j=0:=fun j hj=>by
 by_cases hc:j∈opC n s
 ·exact F.z r h j hc
 ·obtain⟨p,hp,e⟩:=(zgj hj).mp hc
  have:=F.S.zc p hp r hr fun z=>zm6 F.S hp (z ▸ h)
  rwa[e]at this
def Out (n t:Nat)(A:Mx)(S:Nat->Int)(d:D):Prop:=
 (∃R:Nat->Int,d= .tup [.str "row",.tup (wI n R)]/\(∀a,a<t->(sumR n fun p=>A a p*R p)=S a)/\∃e,e<=33000000/\∀p,p<n->(R p).natAbs<=2^e)\/
 ∃(f:Nat->Int) (Y:Int) (e:Nat),e<=16000000/\Y≠0/\Y.natAbs<=2^811/\(∀a,a<t->(f a).natAbs<=2^e)/\(∀p,p<n->Y∣gsum t A f p)/\¬Y∣wsum t S f/\d= .tup [.str "none",.tup (wL t fun i=> .tup [.int (rp (f i) Y),.int (rq (f i) Y)])]
theorem fdiv_mul (ny:y≠0)(h:x.fmod y=0):x.fdiv y*y=x:=by
 have:=Int.mul_fdiv_add_fmod x y
 rw[h,Int.mul_comm]at this
 omega
theorem ndvd (h:x.fmod y≠0):¬y∣x:=fun⟨q,e⟩=>h (by rw[e];exact Int.mul_fmod_right _ _)
end
section
variable {n t:Nat} {c:Nat->Nat} {z:Nat->Nat->Nat} {S:Nat->Int}
theorem bs_le (h:BS x):x.natAbs<=2^230:=by
 unfold BS at h
 have:((2^230:Nat):Int)=2^230:=by decide+kernel
 lia
theorem rep0 (n:Nat):(List.replicate n [D.int 0]).flatten=wI n fun _=>0:=by
 induction n with
 |zero=>rfl
 |succ n ih=>
  rw[List.replicate_succ',List.flatten_append,ih]
  unfold wI wL
  rw[List.range_succ,List.map_append]
  rfl
theorem zoz (n1:1<=n)(n7:n<=7)(t1:1<=t)(t7:t<=7)(hr:∀i,i<t->Rise n (c i) (z i))(hs:∀i,i<t->BS (S i)):Ok (zfv [teD n t c z S]) fun x=>∃d,Out n t (incA c z) S d/\x= .val d:=by
 simp! only[↓zfv,↓zjd]
 refine(zm7 n1 n7 t1 t7).mono ?_
 rintro _ ⟨b,w,v,k,s,F,rfl⟩
 obtain⟨e,he,B⟩:=F.B
 have mo:∀i j,i<t->j<t->zbO (w i j) (S j)=true:=fun i j hi hj=>mulW (B.1 i j hi hj) (bs_le (hs j hj)) (by lia) (by lia)
 have tb:∀i,i<t->(wsum t S (w i)).natAbs<=2^(e+240):=fun i hi=>by
  have:=zg6 (e:=e+230) t7 fun j hj=>by
   have:=zaw (B.1 i j hi hj) (bs_le (hs j hj))
   rw[<-Nat.pow_add]at this
   exact this
  exact Nat.le_trans this (zbx (by lia))
 show OkQ _ (some _)
 generalize hd:teD n t c z S=d
 have i0:dIx d (.int 0)=some (.int (n:Nat)):=by rw[<-hd];rfl
 have i2:dIx d (.int 2)=some (.tup (wI t S)):=by rw[<-hd];rfl
 simp! only[i0,rep0,↓zhL,enumD_w,g1]
 refine⟨by lia,?_⟩
 refine zc9 (fun i ρ=>∃R s3 s4 s5 s6,(∀j,j<t->phi t n (incA c z) w R j=if j<i then wsum t S (w j)else 0)/\(∀p,p<n->(R p).natAbs<=i*2^(e+240+e))/\ρ=[.val d,.val (oD t n b w v k s),.val (.lst (wI n R)),s3,s4,s5,s6]) ⟨fun _=>0,_,_,_,_,fun j hj=>?_,fun p _=>Nat.zero_le _,rfl⟩ ?_ ?_
 ·unfold phi
  rw[zae (g:=fun _=>0) fun p _=>by simp,zaT];simp
 ·rintro r _ hrt ⟨R,s3,s4,s5,s6,hR,hb,rfl⟩
  simp! only[↓zhM,i2]
  refine(zhE (Sq.lst t (w r)) (Sq.tup t S) (by lia) fun j hj=>mo r j hrt hj).mono ?_
  rintro _ rfl
  simp! only[zhw]
  have we:(sumR t fun j=>w r j*S j)=wsum t S (w r):=rfl
  rw[we]
  have eb:=F.e r hrt
  refine⟨fun h=>?_,fun h=>?_⟩
  ·obtain⟨p,hp,e1⟩:∃p∈s,p.1=r:=by simpa using h
   obtain⟨p1,cc⟩:=p
   obtain rfl:p1=r:=e1
   have hc:cc<n:=(F.S.lt _ hp).2
   have nz:b p1 cc≠0:=F.S.nz _ hp
   have br:∀j,j<n->b p1 j=if j=cc then b p1 cc else 0:=fun j hj=>by
    split
    ·rename_i q;rw[q]
    ·rename_i q;exact F.S.zr _ hp j hj q
   rw[zbX rfl]
   simp! only[]
   refine(zd2 F.S.d1 hp hrt hc).mono ?_
   rintro _ rfl
   simp! only[]
   refine⟨nz,fun q=>?_,fun q=>?_⟩
   ·refine(ziE (Sq.lst t (w p1)) (by lia) nz (eb cc hc)).mono ?_
    rintro _ rfl
    simp! only[]
    refine⟨_,.inr ⟨w p1,b p1 cc,e,he,nz,eb cc hc,fun a ha=>B.1 p1 a hrt ha,fun p hp=>?_,ndvd (by simpa using q),rfl⟩,rfl⟩
    rw[F.I.back hrt hp,zae (g:=fun j=>if j=cc then b p1 cc*k cc p else 0) fun j hj=>by
     rw[br j hj]
     by_cases h:j=cc
     ·rw[if_pos h,if_pos h,h]
     ·rw[if_neg h,if_neg h];lia,zdc,if_pos hc]
    exact Int.dvd_mul_right _ _
   ·have q:(wsum t S (w p1)).fmod (b p1 cc)=0:=by simpa using q
    simp! only[↓zhD,zmQ,zfB F.S.d1 hp,g2,zao _ hc]
    refine⟨divF nz (eb cc hc),?_⟩
    have qb:(-(wsum t S (w p1)).fdiv (b p1 cc)).natAbs<=2^(e+240):=by rw[Int.natAbs_neg];exact Nat.le_trans (zf7 _ nz) (tb p1 hrt)
    refine(zb2 (Sq.lst n R) (Sq.lst n (v cc)) (by lia) fun j hj=>mulW qb (B.2.1 cc j hc hj) (by lia) (by lia)).mono ?_
    rintro _ rfl
    simp! only[]
    refine⟨_,_,_,_,_,fun j hj=>?_,fun j hj=>?_,rfl⟩
    rotate_left
    ·have h1:=hb j hj
     have h2:=zaw qb (B.2.1 cc j hc hj)
     rw[<-Nat.pow_add]at h2
     rw[Nat.add_mul,Nat.one_mul]
     generalize (2:Nat)^(e+240+e)=N at*
     generalize-(wsum t S (w p1)).fdiv (b p1 cc)*v cc j=y at*
     lia
    rw[phi_add F.I R _ hj hc,hR j hj]
    by_cases e2:j=p1
    ·subst e2
     rw[if_neg (by lia),if_pos (by lia),fdiv_mul nz q];lia
    ·have:b j cc=0:=F.S.zc _ hp j hj e2
     rw[this]
     by_cases e3:j<p1
     ·rw[if_pos e3,if_pos (by lia)];lia
     ·rw[if_neg e3,if_neg (by lia)];lia
  ·have op:r∈opR t s:=by
    unfold opR
    rw[List.mem_filter,h]
    exact⟨List.mem_range.mpr hrt,rfl⟩
   refine⟨fun q=>?_,fun q=>?_⟩
   ·refine(least_ok q (tb r hrt) (by lia)).mono ?_
    rintro _ ⟨y,y2,yb,yn,rfl⟩
    simp! only[]
    have y8:((y:Nat):Int).natAbs<=2^811:=Nat.le_trans yb (zbx (by lia))
    refine(ziE (Sq.lst t (w r)) (by lia) (by lia) y8).mono ?_
    rintro _ rfl
    simp! only[]
    refine⟨_,.inr ⟨w r,y,e,he,by lia,y8,fun a ha=>B.1 r a hrt ha,fun p hp=>?_,yn,rfl⟩,rfl⟩
    rw[F.I.back hrt hp,zae (g:=fun _=>0) fun j hj=>by rw[F.row0 hrt op j hj,Int.zero_mul],zaT]
    exact Int.dvd_zero _
   ·refine⟨R,_,_,_,_,fun j hj=>?_,fun p hp=>Nat.le_trans (hb p hp) (Nat.mul_le_mul_right _ (by lia)),rfl⟩
    rw[hR j hj]
    by_cases e2:j=r
    ·subst e2
     rw[if_neg (by lia),if_pos (by lia),q]
    ·by_cases e3:j<r
     ·rw[if_pos e3,if_pos (by lia)]
     ·rw[if_neg e3,if_neg (by lia)]
 ·rintro _ ⟨R,s3,s4,s5,s6,hR,hb,rfl⟩
  simp! only[]
  refine⟨_,.inl ⟨R,rfl,F.right fun i hi=>by rw[hR i hi,if_pos hi],e+240+e+3,by lia,fun p hp=>Nat.le_trans (hb p hp) ?_⟩,rfl⟩
  rw[Nat.pow_add _ _ 3,Nat.mul_comm]
  exact Nat.mul_le_mul_left _ (by lia)
end
def rst (q p:Int×Int):Int×Int:=(q.1*p.2+p.1*q.2,q.2*p.2)
def rsF (q:Int×Int)(l:List (Int×Int)):Int×Int:=l.foldl rst q
theorem zmY (x y m:Nat)(hx:x<=m)(hy:y<=m):2^x+2^y<=2^(m+1):=by
 have:=zbx hx
 have:=zbx hy
 rw[Nat.pow_succ]
 lia
theorem rs_bd:∀(l:List (Int×Int)) (i:Nat) (q:Int×Int),(∀p∈l,p.1.natAbs<=2^e/\p.2.natAbs<=2^811/\p.2≠0)->q.1.natAbs<=2^(e+850*i)->q.2.natAbs<=2^(811*i)->q.2≠0->(rsF q l).1.natAbs<=2^(e+850*(i+l.length))/\(rsF q l).2.natAbs<=2^(811*(i+l.length))/\(rsF q l).2≠0
 |[],i,q,_,h1,h2,h3=>⟨h1,h2,h3⟩
 |p::l,i,q,h,h1,h2,h3=>by
  obtain⟨a1,a2,a3⟩:=h p List.mem_cons_self
  have b1:=zaw h1 a2
  have b2:=zaw a1 h2
  have b3:=zaw h2 a2
  rw[<-Nat.pow_add]at b1 b2 b3
  have:=rs_bd l (i+1) (rst q p) (fun p hp=>h p (List.mem_cons_of_mem _ hp)) (by
   have c1:=Int.natAbs_add_le (q.1*p.2) (p.1*q.2)
   have c2:=zmY (e+850*i+811) (e+811*i) (e+850*i+811) (Nat.le_refl _) (by lia)
   have c3:2^(e+850*i+811+1)<=2^(e+850*(i+1)):=zbx (by lia)
   show(q.1*p.2+p.1*q.2).natAbs<=_
   exact Nat.le_trans c1 (Nat.le_trans (Nat.add_le_add b1 b2) (Nat.le_trans c2 c3))) (Nat.le_trans b3 (zbx (by lia))) (Int.mul_ne_zero h3 a3)
  rw[List.length_cons,show i+(l.length+1)=i+1+l.length by lia]
  exact this
theorem rs_take {l:List (Int×Int)}{p:Int×Int}(h:l[i]? =some p):rsF (0,1) (l.take (i+1))=rst (rsF (0,1) (l.take i)) p:=by
 rw[List.take_add_one,h]
 unfold rsF
 rw[List.foldl_append];rfl
section
variable {n t:Nat} {c:Nat->Nat} {z:Nat->Nat->Nat} {S:Nat->Int} {A b w v k:Mx} {s:List (Nat×Nat)}
def prD (p:Int×Int):D:= .tup [.int p.1,.int p.2]
theorem ziJ {l:List (Int×Int)}{e:Nat}(h:∀p∈l,p.1.natAbs<=2^e/\p.2.natAbs<=2^811/\p.2≠0)(hl:l.length<=7)(he:e<=50000000):Ok (zbM [.lst (l.map prD)]) fun x=>x= .val (prD (rsF (0,1) l)):=by
 simp! only[↓zbM,↓zdX,↓zd5]
 refine ziw (enc:=prD) (l:=l) (fun i ρ=>∃s3 s4,ρ=[.val (.lst (l.map prD)),.val (.int (rsF (0,1) (l.take i)).1),.val (.int (rsF (0,1) (l.take i)).2),s3,s4]) ⟨_,_,rfl⟩ ?_ ?_
 ·rintro i p _ hi ⟨s3,s4,rfl⟩
  have hil:i<l.length:=(List.getElem?_eq_some_iff.mp hi).1
  obtain⟨a1,a2,a3⟩:=h p (List.mem_of_getElem? hi)
  have bd:=rs_bd (e:=e) (l.take i) 0 (0,1) (fun p hp=>h p (List.mem_of_mem_take hp)) (by simp) (by simp) (by decide)
  rw[List.length_take,Nat.min_eq_left (by lia)]at bd
  have w1:=mulW bd.1 a2 (by lia) (by lia)
  have w2:=mulW a1 bd.2.1 (by lia) (by lia)
  have w3:=mulW bd.2.1 a2 (by lia) (by lia)
  simp! only[↓zd3,prD,w1,w2,w3,rs_take hi]
  exact⟨_,_,rfl⟩
 ·rintro _ ⟨s3,s4,rfl⟩
  simp! only[List.take_length]
  rfl
def prt (b w v:Mx)(s:List (Nat×Nat))(p a:Nat):List (Int×Int):=s.map fun q=>(v q.2 p*w q.1 a,b q.1 q.2)
theorem prt_bd (F:Fin t n A b w v k s):∃e,e<=40000000/\∀p a,p<n->a<t->∀q∈prt b w v s p a,q.1.natAbs<=2^e/\q.2.natAbs<=2^811/\q.2≠0:=by
 obtain⟨e,he,B⟩:=F.B
 refine⟨e+e,by lia,fun p a hp ha q hq=>?_⟩
 obtain⟨x,hx,rfl⟩:=List.mem_map.mp hq
 have l:=F.S.lt x hx
 refine⟨?_,F.S.sz x hx,F.S.nz x hx⟩
 rw[Nat.pow_add]
 exact zaw (B.2.1 x.2 p l.2 hp) (B.1 x.1 a l.1 ha)
abbrev shr (b w v:Mx)(s:List (Nat×Nat))(p a:Nat):Int×Int:=rsF (0,1) (prt b w v s p a)
def shD (b w v:Mx)(s:List (Nat×Nat))(p a:Nat):D:= .tup [.int (rp (shr b w v s p a).1 (shr b w v s p a).2),.int (rq (shr b w v s p a).1 (shr b w v s p a).2)]
theorem shr_bd (F:Fin t n A b w v k s):∃e,e<=50000000/\∀p a,p<n->a<t->(shr b w v s p a).1.natAbs<=2^e/\(shr b w v s p a).2.natAbs<=2^5677/\(shr b w v s p a).2≠0:=by
 obtain⟨e,he,h⟩:=prt_bd F
 refine⟨e+5950,by lia,fun p a hp ha=>?_⟩
 have bd:=rs_bd (e:=e) (prt b w v s p a) 0 (0,1) (h p a hp ha) (by simp) (by simp) (by decide)
 have l7:(prt b w v s p a).length<=7:=by unfold prt;rw[List.length_map];exact F.l
 exact⟨Nat.le_trans bd.1 (zbx (by lia)),Nat.le_trans bd.2.1 (zbx (by lia)),bd.2.2⟩
theorem zkD (F:Fin t n A b w v k s){p a:Nat}(hp:p<n)(ha:a<t):Ok (zc4 [oD t n b w v k s,.int (p:Nat),.int (a:Nat)]) fun x=>x= .val (shD b w v s p a):=by
 obtain⟨e,he,hb⟩:=prt_bd F
 obtain⟨e2,he2,B⟩:=F.B
 simp! only[↓zc4,↓zgk,↓zfO]
 have e1:(sk s).1.map D.int=s.map fun p=>D.int (p.1:Nat):=by unfold sk;rw[List.map_map];rfl
 rw[e1]
 refine ziw (enc:=fun p:Nat×Nat=>D.int (p.1:Nat)) (l:=s) (fun i ρ=>∃s4 s5 s6,ρ=[.val (oD t n b w v k s),.val (.int (p:Nat)),.val (.int (a:Nat)),.own ((prt b w v (s.take i) p a).map prD),s4,s5,s6]) ⟨_,_,_,rfl⟩ ?_ ?_
 ·rintro i q _ hi ⟨s4,s5,s6,rfl⟩
  have hq:q∈s:=List.mem_of_getElem? hi
  have l:=F.S.lt q hq
  have il:i<s.length:=(List.getElem?_eq_some_iff.mp hi).1
  have l7:((prt b w v (s.take i) p a).map prD).length<=7:=by unfold prt;rw[List.length_map,List.length_map,List.length_take];have:=F.l;lia
  have w1:=mulW (B.2.1 q.2 p l.2 hp) (B.1 q.1 a l.1 ha) (by lia) (by lia)
  have sn:prt b w v (s.take (i+1)) p a=prt b w v (s.take i) p a++[(v q.2 p*w q.1 a,b q.1 q.2)]:=by
   unfold prt
   rw[List.take_add_one,hi,List.map_append];rfl
  simp! only[↓zfU,zmQ,zfB F.S.d1 hq,g1,g2,zao _ l.1,zao _ l.2,zao _ hp,zao _ ha,w1]
  rw[zbX rfl]
  simp! only[]
  refine(zd2 F.S.d1 hq l.1 l.2).mono ?_
  rintro _ rfl
  rw[List.length_map]at l7
  simp! only[]
  refine⟨by lia,?_⟩
  rw[sn,List.map_append]
  exact⟨_,_,_,rfl⟩
 ·rintro _ ⟨s4,s5,s6,rfl⟩
  rw[List.take_length]
  have l7:(prt b w v s p a).length<=7:=by unfold prt;rw[List.length_map];exact F.l
  obtain⟨e3,he3,hbd⟩:=shr_bd F
  have bd:=hbd p a hp ha
  simp! only[]
  refine(ziJ (hb p a hp ha) l7 (by lia)).mono ?_
  rintro _ rfl
  simp! only[prD]
  refine(zlz bd.2.2 (Nat.le_trans bd.2.1 (zbx (by lia)))).mono ?_
  rintro _ rfl
  simp! only[]
  rfl
theorem zjC (F:Fin t n A b w v k s)(t7:t<=7){p:Nat}(hp:p<n):Ok (zcb [oD t n b w v k s,.int (p:Nat)]) fun x=>x= .val (.tup (wL t fun a=>shD b w v s p a)):=by
 simp! only[↓zcb,↓ze6,↓zeD,g1,zay]
 refine⟨zav (by lia) (by lia),by lia,zaC (fun ρ=>∃y,ρ=[.val (oD t n b w v k s),.val (.int (p:Nat)),y]) (fun a=>shD b w v s p a) ⟨_,rfl⟩ ?_ ?_⟩
 ·rintro a _ ha ⟨y,rfl⟩
  simp! only[↓zew]
  refine(zkD F hp ha).mono ?_
  rintro _ rfl
  simp! only[]
  exact⟨_,rfl⟩
 ·rintro _ ⟨y,rfl⟩
  simp! only[]
abbrev bsD (n:Nat)(v:Mx)(L:List Nat):D:= .tup (L.map fun c=> .tup (wI n (v c)))
theorem zgM (v:Mx)(L:List Nat)(hl:L.length<=7):Ok (zbH [.lst (L.map fun c=> .lst (wI n (v c)))]) fun x=>x= .val (bsD n v L):=by
 simp! only[↓zbH,↓zfa,↓zeE]
 refine⟨by lia,zfq (enc:=fun c:Nat=>D.lst (wI n (v c))) (fun ρ=>∃y,ρ=[y]) (fun c=> .tup (wI n (v c))) ⟨_,rfl⟩ ?_ ?_⟩
 ·rintro c _ hc ⟨y,rfl⟩
  simp! only[↓zex]
  exact⟨_,rfl⟩
 ·rintro _ ⟨y,rfl⟩
  simp! only[]
theorem zl6 (n1:1<=n)(n7:n<=7)(t1:1<=t)(t7:t<=7):Ok (zdY [teD n t c z S]) fun x=>∃b w v k s,Fin t n (incA c z) b w v k s/\x= .val (.tup [bsD n v (opC n s),bsD n k (opC n s),.tup (wL n fun p=> .tup (wL t fun a=>shD b w v s p a))]):=by
 simp! only[↓zdY,↓zhh]
 refine(zm7 n1 n7 t1 t7).mono ?_
 rintro _ ⟨b,w,v,k,s,F,rfl⟩
 show OkQ _ (some _)
 generalize hd:teD n t c z S=d
 have i0:dIx d (.int 0)=some (.int (n:Nat)):=by rw[<-hd];rfl
 simp! only[]
 rw[zbX rfl]
 simp! only[]
 have sl:=F.l
 refine(zb9 (by lia) (by lia) F.S.d1).mono ?_
 rintro _ rfl
 have ol:=zhU n s
 simp! only[↓zgO]
 refine⟨by lia,zfq (enc:=fun c:Nat=>D.int (c:Nat)) (fun ρ=>∃y,ρ=[.val (oD t n b w v k s),y]) (fun c=> .lst (wI n (v c))) ⟨_,rfl⟩ ?_ ?_⟩
 ·rintro c _ hc ⟨y,rfl⟩
  simp! only[↓zgs,g2,zao _ (zbr hc)]
  exact⟨_,rfl⟩
 rintro _ ⟨y,rfl⟩
 simp! only[]
 refine(zgM v (opC n s) (by lia)).mono ?_
 rintro _ rfl
 simp! only[↓zgS]
 refine⟨by lia,zfq (enc:=fun c:Nat=>D.int (c:Nat)) (fun ρ=>∃y,ρ=[.val (oD t n b w v k s),y]) (fun c=> .lst (wI n (k c))) ⟨_,rfl⟩ ?_ ?_⟩
 ·rintro c _ hc ⟨y,rfl⟩
  simp! only[↓zgG,g3,zao _ (zbr hc)]
  exact⟨_,rfl⟩
 rintro _ ⟨y,rfl⟩
 simp! only[]
 refine(zgM k (opC n s) (by lia)).mono ?_
 rintro _ rfl
 simp! only[↓zgC,i0]
 refine⟨zav (by lia) (by lia),by lia,zaC (fun ρ=>∃y,ρ=[.val (oD t n b w v k s),y]) (fun p=> .tup (wL t fun a=>shD b w v s p a)) ⟨_,rfl⟩ ?_ ?_⟩
 ·rintro p _ hp ⟨y,rfl⟩
  simp! only[↓zgH]
  refine(zjC F t7 hp).mono ?_
  rintro _ rfl
  simp! only[]
  exact⟨_,rfl⟩
 ·rintro _ ⟨y,rfl⟩
  simp! only[]
  exact⟨b,w,v,k,s,F,rfl⟩
end
theorem zj0 (L:List Nat)(f:Nat->D):L.map f=wL L.length fun i=>f (L.getD i 0):=by
 apply List.ext_getElem?
 intro i
 by_cases h:i<L.length
 ·rw[zao (fun i=>f (L.getD i 0)) h,List.getElem?_map,List.getElem?_eq_getElem h,List.getD_eq_getElem?_getD,List.getElem?_eq_getElem h];rfl
 ·rw[List.getElem?_eq_none (by simp;lia),List.getElem?_eq_none (by simp[zay];lia)]
theorem sum_getD (L:List Nat)(f:Nat->Int):sumR L.length (fun i=>f (L.getD i 0))=(L.map f).sum:=by
 rw[<-zeb]
 congr 1
 apply List.ext_getElem?
 intro i
 by_cases h:i<L.length
 ·simp[h]
 ·rw[List.getElem?_eq_none (by simp;lia),List.getElem?_eq_none (by simp;lia)]
theorem zec (h:i<L.length):L.getD i 0∈L:=by
 rw[List.getD_eq_getElem?_getD,List.getElem?_eq_getElem h];exact List.getElem_mem h
theorem zlO (nd:L.Nodup)(hi:i<L.length)(hj:j<L.length):L.getD i 0=L.getD j 0↔i=j:=by
 rw[List.getD_eq_getElem?_getD,List.getElem?_eq_getElem hi,List.getD_eq_getElem?_getD,List.getElem?_eq_getElem hj]
 exact List.getElem_inj nd
theorem zmB (n:Nat)(P:Nat->Bool)(f:Nat->Int):(((List.range n).filter P).map f).sum=sumR n fun j=>if P j=true then f j else 0:=by
 induction n with
 |zero=>rfl
 |succ n ih=>
  rw[List.range_succ,List.filter_append,List.map_append,List.sum_append,ih]
  show _=sumR n _+_
  congr 1
  by_cases h:P n=true<;>simp[h]
section
variable {n t:Nat} {c:Nat->Nat} {z:Nat->Nat->Nat} {S:Nat->Int} {A b w v k:Mx} {s:List (Nat×Nat)}
theorem sum_s (f:Nat->Int):∀{s:List (Nat×Nat)},(s.Pairwise fun p q=>p.2≠q.2)->(∀p∈s,p.2<n)->(sumR n fun j=>if(s.any fun p=>p.2==j)=true then f j else 0)=(s.map fun p=>f p.2).sum
 |[],_,_=>by simp[zaT]
 |p::s,h,l=>by
  rw[List.pairwise_cons]at h
  rw[List.map_cons,List.sum_cons,<-sum_s f h.2 fun q hq=>l q (List.mem_cons_of_mem _ hq)]
  rw[zae (g:=fun j=>(if j=p.2 then f p.2 else 0)+if(s.any fun p=>p.2==j)=true then f j else 0) fun j _=>?_,zbk,zdc,if_pos (l p List.mem_cons_self)]
  rw[List.any_cons]
  by_cases e:p.2=j
  ·have:(s.any fun q=>q.2==j)=false:=by
    rw[List.any_eq_false]
    intro q hq
    have:=h.1 q hq
    simp;lia
   rw[this,if_pos e.symm]
   simp[e]
  ·rw[show(p.2==j)=false from beq_eq_false_iff_ne.mpr e,if_neg (Ne.symm e),Bool.false_or];lia
theorem Shp.cols (H:Shp t n b s)(f:Nat->Int):((opC n s).map f).sum+(s.map fun p=>f p.2).sum=sumR n f:=by
 unfold opC
 rw[zmB,<-sum_s f H.d2 fun p hp=>(H.lt p hp).2,<-zbk]
 refine zae fun j _=>?_
 cases(s.any fun p=>p.2==j)<;>simp
theorem Fin.col0 (F:Fin t n A b w v k s)(hj:j∈opC n s)(hi:i<t):b i j=0:=by
 by_cases hr:i∈opR t s
 ·exact F.z i hr j hj
 ·obtain⟨p,hp,e⟩:=(zgn hi).mp hr
  have:=F.S.zr p hp j (zbr hj) fun z=>mem_c F.S hp (z ▸ hj)
  rwa[e]at this
theorem Fin.nil (F:Fin t n A b w v k s)(hj:j∈opC n s):∀a,a<t->(sumR n fun p=>A a p*v j p)=0:=
 F.I.wi (fun a=>sumR n fun p=>A a p*v j p) fun i hi=>by
  have:=zi1 (t:=t) (n:=n) (A:=A) (v j) (w i)
  unfold wsum at this
  rw[this,<-F.I.bl2 hi (zbr hj),F.col0 hj hi]
def Bs (b:Mx)(s:List (Nat×Nat)):Int:=(rsF (0,1) (s.map fun x=>(0,b x.1 x.2))).2
theorem Fin.rest (F:Fin t n A b w v k s){p q:Nat}(hp:p<n)(hq:q<n):(s.map fun x=>v x.2 p*k x.2 q).sum=un p q-sumR (opC n s).length fun i=>v ((opC n s).getD i 0) p*k ((opC n s).getD i 0) q:=by
 rw[sum_getD (opC n s) fun j=>v j p*k j q]
 have h:=F.S.cols fun j=>v j p*k j q
 have e:(sumR n fun j=>v j p*k j q)=un p q:=by
  rw[zae (g:=fun j=>k j q*v j p) fun j _=>Int.mul_comm _ _,F.I.kv q p hq hp]
  unfold un
  by_cases h:p=q
  ·subst h;rfl
  ·rw[if_neg h,if_neg (Ne.symm h)]
 lia
end
def skp (j0 j:Nat):Nat:=if j<j0 then j else j+1
theorem zlP {j0:Nat}(f:Nat->Int):∀{n:Nat},j0<n+1->sumR (n+1) f=f j0+sumR n fun j=>f (skp j0 j)
 |0,h=>by
  rw[show j0=0 by omega]
  show 0+f 0=f 0+0
  omega
 |n+1,h=>by
  show sumR (n+1) f+f (n+1)=f j0+(sumR n (fun j=>f (skp j0 j))+f (skp j0 n))
  by_cases e:j0=n+1
  ·have h1:(sumR n fun j=>f (skp j0 j))=sumR n f:=zae fun j hj=>by unfold skp;rw[if_pos (by omega)]
   have h2:f (skp j0 n)=f n:=by unfold skp;rw[if_pos (by omega)]
   rw[h1,h2,e]
   show sumR n f+f n+f (n+1)=_
   omega
  ·have hh:j0<n+1:=by omega
   rw[zlP f hh]
   have h2:f (skp j0 n)=f (n+1):=by unfold skp;rw[if_neg (by omega)]
   rw[h2];omega
theorem zaK (c:Int)(f:Nat->Int):∀n,sumR n (fun j=>c*f j)=c*sumR n f
 |0=>by show(0:Int)=c*0;rw[Int.mul_zero]
 |n+1=>by show sumR n (fun j=>c*f j)+c*f n=c*(sumR n f+f n);rw[zaK c f n,Int.mul_add]
theorem zd6 (f g:Nat->Int):∀n,sumR n (fun j=>f j-g j)=sumR n f-sumR n g
 |0=>rfl
 |n+1=>by show sumR n (fun j=>f j-g j)+(f n-g n)=(sumR n f+f n)-(sumR n g+g n);rw[zd6 f g n];omega
theorem zfV:∀{m n:Nat} (a:Nat->Nat->Int),m<n->∃x:Nat->Int,(∃j,j<n/\x j≠0)/\∀i,i<m->(sumR n fun j=>a i j*x j)=0
 |0,n,a,h=>⟨fun _=>1,⟨0,h,by decide⟩,fun i hi=>absurd hi (Nat.not_lt_zero _)⟩
 |m+1,n,a,h=>by
  by_cases z:∃j,j<n/\a m j≠0
  ·obtain⟨j0,hj,ne⟩:=z
   obtain⟨k,rfl⟩:∃k,n=k+1:=⟨n-1,by omega⟩
   obtain⟨y,⟨j1,h1,y1⟩,hy⟩:=zfV (m:=m) (n:=k) (fun i j=>a m j0*a i (skp j0 j)-a i j0*a m (skp j0 j)) (by omega)
   let un:Nat->Nat:=fun j=>if j<j0 then j else j-1
   have us:∀j,un (skp j0 j)=j:=fun j=>by
    show(if skp j0 j<j0 then skp j0 j else skp j0 j-1)=j
    unfold skp
    by_cases w:j<j0
    ·rw[if_pos w,if_pos w]
    ·rw[if_neg w,if_neg (by omega)];omega
   have sn:∀j,skp j0 j≠j0:=fun j=>by unfold skp;split<;>omega
   let x:Nat->Int:=fun j=>if j=j0 then-sumR k fun j=>a m (skp j0 j)*y j else a m j0*y (un j)
   have x0:x j0= -sumR k fun j=>a m (skp j0 j)*y j:=if_pos rfl
   have xs:∀j,x (skp j0 j)=a m j0*y j:=fun j=>by
    show(if skp j0 j=j0 then _ else a m j0*y (un (skp j0 j)))=_
    rw[if_neg (sn j),us]
   refine⟨x,⟨skp j0 j1,by unfold skp;split<;>omega,?_⟩,fun i hi=>?_⟩
   ·rw[xs];exact Int.mul_ne_zero ne y1
   ·rw[zlP (fun j=>a i j*x j) hj]
    have e1:(sumR k fun j=>a i (skp j0 j)*x (skp j0 j))=a m j0*sumR k fun j=>a i (skp j0 j)*y j:=by
     rw[<-zaK]
     exact zae fun j _=>by rw[xs];rw[<-Int.mul_assoc,Int.mul_comm (a i _),Int.mul_assoc]
    show a i j0*x j0+(sumR k fun j=>a i (skp j0 j)*x (skp j0 j))=0
    rw[e1,x0]
    by_cases im:i=m
    ·subst im
     rw[Int.mul_neg];omega
    ·have:=hy i (by omega)
     rw[show(sumR k fun j=>(a m j0*a i (skp j0 j)-a i j0*a m (skp j0 j))*y j)=sumR k fun j=>a m j0*(a i (skp j0 j)*y j)-a i j0*(a m (skp j0 j)*y j)from zae fun j _=>by rw[Int.sub_mul,Int.mul_assoc,Int.mul_assoc],zd6,zaK,zaK]at this
     rw[Int.mul_neg];omega
  ·obtain⟨x,nx,hx⟩:=zfV (m:=m) (n:=n) a (by omega)
   refine⟨x,nx,fun i hi=>?_⟩
   by_cases im:i=m
   ·subst im
    have:(sumR n fun j=>a i j*x j)=sumR n fun _=>0:=zae fun j hj=>by
     rw[show a i j=0 from Classical.byContradiction fun w=>z ⟨j,hj,w⟩,Int.zero_mul]
    rw[this,zaT]
   ·exact hx i (by omega)
theorem zoI (x:Int):∀m,m<=c->(sumR m fun d=>if d=c then x else 0)=0
 |0,_=>rfl
 |m+1,h=>by
  show(sumR m fun d=>if d=c then x else 0)+(if m=c then x else 0)=0
  rw[zoI x m (by omega),if_neg (by omega)];rfl
theorem zhW:∀m,c<m->∀x:Int,(sumR m fun d=>if d=c then x else 0)=x
 |0,h,_=>by omega
 |m+1,h,x=>by
  show(sumR m fun d=>if d=c then x else 0)+(if m=c then x else 0)=x
  by_cases e:m=c
  ·rw[if_pos e,zoI x m (by omega)];omega
  ·rw[if_neg e,zhW m (by omega) x];omega
def dotR (n:Nat)(f x:Nat->Int):Int:=sumR n fun j=>f j*x j
structure Ech (t n q:Nat) (A X:Nat->Nat->Int) (k:Nat) (P:Nat->Nat):Prop where
 null:∀x:Nat->Int,(∀i,i<t->dotR n (X i) x=0)↔∀i,i<t->dotR n (A i) x=0
 piv:∀i,i<k->X i (P i)≠0/\P i<q/\∀j,j<P i->X i j=0
 up:∀i j,i<j->j<k->P i<P j
 zero:∀i j,k<=i->i<t->j<q->X i j=0
 kt:k<=t
theorem zem (n m:Nat)(f:Nat->Int)(V:Nat->Nat->Int)(y:Nat->Int):dotR n f (fun p=>sumR m fun c=>y c*V c p)=sumR m fun c=>y c*dotR n f (V c):=by
 unfold dotR
 rw[show(sumR n fun j=>f j*sumR m fun c=>y c*V c j)=sumR n fun j=>sumR m fun c=>y c*(f j*V c j)from zae fun j _=>by
  rw[<-zaK]
  exact zae fun c _=>by rw[<-Int.mul_assoc,Int.mul_comm (f j),Int.mul_assoc],zcg]
 exact zae fun c _=>zaK _ _ _
theorem zhF (hc:c<m)(y:Nat->Int):(sumR m fun d=>y d*(if c=d then 1 else 0))=y c:=by
 rw[show(sumR m fun d=>y d*(if c=d then(1:Int)else 0))=sumR m fun d=>if d=c then y c else 0 from zae fun d _=>by
  by_cases e:c=d
  ·subst e;rw[if_pos rfl,if_pos rfl,Int.mul_one]
  ·rw[if_neg e,if_neg fun w=>e w.symm,Int.mul_zero]]
 exact zhW m hc _
theorem Ech.nil {P:Nat->Nat}(E:Ech t n n A X k P){x:Nat->Int}(h:∀i,i<k->dotR n (X i) x=0)(fr:∀j,j<n->(∀i,i<k->P i≠j)->x j=0):∀d i,i<k->k<=i+d->x (P i)=0
  |0,i,hi,hd=>by omega
  |d+1,i,hi,hd=>by
    obtain⟨p1,p2,p3⟩:=E.piv i hi
    have e:dotR n (X i) x=X i (P i)*x (P i):=by
      unfold dotR
      rw[show(sumR n fun j=>X i j*x j)=sumR n fun j=>if j=P i then X i (P i)*x (P i)else 0 from zae fun j hj=>by
        by_cases z:j=P i
        . rw[if_pos z,z]
        . rw[if_neg z]
          by_cases w:j<P i
          . rw[p3 j w,Int.zero_mul]
          . have:x j=0:=by
              by_cases u:∃i',i'<k/\P i'=j
              . obtain⟨i',h1,h2⟩:=u
                have hi':i<i':=by
                  rcases Nat.lt_or_ge i i' with a|a
                  . exact a
                  . by_cases b:i'=i
                    . subst b;exact absurd h2.symm z
                    . have:=E.up i' i (by omega) hi;omega
                rw[<-h2]
                exact E.nil h fr d i' h1 (by omega)
              . exact fr j hj fun i' h1 h2=>u ⟨i',h1,h2⟩
            rw[this,Int.mul_zero]]
      exact zhW n p2 _
    have:=h i hi
    rw[e]at this
    exact(Int.mul_eq_zero.mp this).resolve_left p1
theorem free_len {P:Nat->Nat}(up:∀i j,i<j->j<k->P i<P j)(lt:∀i,i<k->P i<n):∃L:List Nat,L.length+k=n/\∀j,j<n->(∀i,i<k->P i≠j)->j∈L:=by
 let p:Nat->Bool:=fun j=>decide (∃i,i<k/\P i=j)
 have e:(((List.range n).filter p).map fun i:Nat=>(i:Int))=(List.range k).map fun i=>((P i:Nat):Int):=by
  refine HT.eq_up ?_ ?_ fun z=>?_
  ·rw[List.pairwise_map]
   exact(List.pairwise_lt_range.filter _).imp fun h=>by omega
  ·rw[List.pairwise_map,List.pairwise_iff_getElem]
   intro i j hi hj h
   rw[List.getElem_range,List.getElem_range]
   rw[List.length_range]at hj
   have:=up i j h hj
   omega
  ·simp only[List.mem_map,List.mem_filter,List.mem_range]
   constructor
   ·rintro⟨i,⟨hi,hp⟩,rfl⟩
    obtain⟨j,hj,e⟩:=of_decide_eq_true hp
    exact⟨j,hj,by rw[e]⟩
   ·rintro⟨j,hj,rfl⟩
    exact⟨P j,⟨lt j hj,decide_eq_true ⟨j,hj,rfl⟩⟩,rfl⟩
 have l1:((List.range n).filter p).length=k:=by
  have:=congrArg List.length e
  simpa using this
 have l2:∀l:List Nat,(l.filter p).length+(l.filter fun j=>!p j).length=l.length:=fun l=>by
  induction l with
  |nil=>rfl
  |cons x l ih=>
   rw[List.filter_cons,List.filter_cons]
   cases p x<;>simp<;>omega
 refine⟨(List.range n).filter fun j=>!p j,?_,fun j hj h=>?_⟩
 ·have:=l2 (List.range n)
  rw[l1,List.length_range]at this
  omega
 ·refine List.mem_filter.mpr ⟨List.mem_range.mpr hj,?_⟩
  show(!p j)=true
  rw[show p j=false from decide_eq_false fun⟨i,h1,h2⟩=>h i h1 h2];rfl
theorem rank_eq {t n k e d:Nat}{P:Nat->Nat}(E:Ech t n n A X k P){bv bk sv sk:Nat->Nat->Int}
  (bn:∀c,c<e->∀i,i<t->dotR n (A i) (bv c)=0) (bd:∀c c',c<e->c'<e->dotR n (bk c) (bv c')=if c=c' then 1 else 0)
  (sd:∀c c',c<d->c'<d->dotR n (sk c) (sv c')=if c=c' then 1 else 0) (kill:∀x,(∀i,i<t->dotR n (A i) x=0)->∀c,c<d->dotR n (sk c) x=0) (ed:e+d=n):e+k=n:=by
 obtain⟨L,ll,al⟩:=free_len E.up fun i hi=>(E.piv i hi).2.1
 have h1:e<=L.length:=by
  rcases Nat.lt_or_ge L.length e with h|h
  ·obtain⟨y,⟨c,hc,ny⟩,hy⟩:=zfV (fun i c=>bv c (L.getD i 0)) h
   exfalso
   let x:Nat->Int:=fun p=>sumR e fun c=>y c*bv c p
   have nx:∀i,i<t->dotR n (A i) x=0:=fun i hi=>by
    rw[zem,show(sumR e fun c=>y c*dotR n (A i) (bv c))=sumR e fun _=>0 from zae fun c hc=>by rw[bn c hc i hi,Int.mul_zero],zaT]
   have fx:∀j,j<n->(∀i,i<k->P i≠j)->x j=0:=fun j hj h=>by
    obtain⟨i,hi,ei⟩:=List.getElem_of_mem (al j hj h)
    have:=hy i hi
    rw[show L.getD i 0=j by rw[List.getD_eq_getElem?_getD,List.getElem?_eq_getElem hi];exact ei]at this
    rw[<-this]
    exact zae fun c _=>Int.mul_comm _ _
   have px:=E.nil (fun i hi=>(E.null x).mpr nx i (Nat.lt_of_lt_of_le hi E.kt)) fx
   have zx:∀j,j<n->x j=0:=fun j hj=>by
    by_cases u:∃i',i'<k/\P i'=j
    ·obtain⟨i',a,b⟩:=u
     rw[<-b];exact px k i' a (by omega)
    ·exact fx j hj fun i' a b=>u ⟨i',a,b⟩
   have e1:dotR n (bk c) x=y c:=by
    rw[zem,show(sumR e fun d=>y d*dotR n (bk c) (bv d))=sumR e fun d=>y d*(if c=d then 1 else 0)from zae fun d hd=>by rw[bd c d hc hd],zhF hc]
   have e2:dotR n (bk c) x=0:=by
    unfold dotR
    rw[show(sumR n fun j=>bk c j*x j)=sumR n fun _=>0 from zae fun j hj=>by rw[zx j hj,Int.mul_zero],zaT]
   exact ny (e1.symm.trans e2)
  ·exact h
 have h2:d<=k:=by
  rcases Nat.lt_or_ge k d with h|h
  ·obtain⟨y,⟨c,hc,ny⟩,hy⟩:=zfV (fun i c=>dotR n (X i) (sv c)) h
   exfalso
   let x:Nat->Int:=fun p=>sumR d fun c=>y c*sv c p
   have nx:∀i,i<t->dotR n (X i) x=0:=fun i hi=>by
    rcases Nat.lt_or_ge i k with a|a
    ·rw[zem,<-hy i a]
     exact zae fun c _=>Int.mul_comm _ _
    ·unfold dotR
     rw[show(sumR n fun j=>X i j*x j)=sumR n fun _=>0 from zae fun j hj=>by rw[E.zero i j a hi hj,Int.zero_mul],zaT]
   have e1:dotR n (sk c) x=y c:=by
    rw[zem,show(sumR d fun d'=>y d'*dotR n (sk c) (sv d'))=sumR d fun d'=>y d'*(if c=d' then 1 else 0)from zae fun d' hd=>by rw[sd c d' hc hd],zhF hc]
   exact ny (e1.symm.trans (kill x ((E.null x).mp nx) c hc))
  ·exact h
 omega
abbrev rwD (t n:Nat)(X:Nat->Nat->Int):List D:=wL t fun i=> .lst (wI n (X i))
def Sm (t k:Nat)(X:Nat->Nat->Int):Prop:=∀i j,i<t->(X i j).natAbs<=2^(2^k-1)
theorem zlu (h:Sm t k X)(hk:k<=7)(hi:i<t):(X i j).natAbs<2^4000:=by
 have h1:(2:Nat)^k<=2^7:=Nat.pow_le_pow_right (by decide) hk
 have h2:(2:Nat)^(2^k-1)<=2^128:=Nat.pow_le_pow_right (by decide) (by omega)
 have h3:(2:Nat)^128<2^4000:=Nat.pow_lt_pow_right (by decide) (by decide)
 exact Nat.lt_of_le_of_lt (h i j hi) (Nat.lt_of_le_of_lt h2 h3)
theorem sm_mul (h:Sm t k X)(hk:k<=7){i j i' j':Nat}(hi:i<t)(hi':i'<t):zie (X i j) (X i' j')=true:=by
 unfold zie
 rw[Bool.or_eq_true]
 refine .inr ?_
 rw[Bool.and_eq_true]
 exact⟨decide_eq_true (zlu h hk hi),decide_eq_true (zlu h hk hi')⟩
theorem sm_step (h:Sm t k X){a b c d:Int}(ha:a.natAbs<=2^(2^k-1))(hb:b.natAbs<=2^(2^k-1))(hc:c.natAbs<=2^(2^k-1))(hd:d.natAbs<=2^(2^k-1)):(a*b-c*d).natAbs<=2^(2^(k+1)-1):=by
 have p:1<=(2:Nat)^k:=Nat.one_le_two_pow
 have e:(2:Nat)^(2^(k+1)-1)=2^(2^k-1)*2^(2^k-1)+2^(2^k-1)*2^(2^k-1):=by
  rw[<-Nat.pow_add,show(2:Nat)^(k+1)-1=(2^k-1+(2^k-1))+1 by rw[Nat.pow_succ];omega,Nat.pow_succ];omega
 rw[e]
 generalize (2:Nat)^(2^k-1)=N at*
 have h1:(a*b).natAbs<=N*N:=by rw[Int.natAbs_mul];exact Nat.mul_le_mul ha hb
 have h2:(c*d).natAbs<=N*N:=by rw[Int.natAbs_mul];exact Nat.mul_le_mul hc hd
 omega
theorem zlT (p:Nat->Bool)(k:Nat):∀m,((∀i,i<m->p i=false)/\((List.range m).filterMap fun i=>if p i then some (D.int ((k+i:Nat):Int))else none)=[])\/∃(i0:Nat) (rest:List Nat),i0<m/\p i0=true/\((List.range m).filterMap fun i=>if p i then some (D.int ((k+i:Nat):Int))else none)=D.int ((k+i0:Nat):Int)::rest.map fun i:Nat=>D.int ((k+i:Nat):Int)
 |0=> .inl ⟨fun i hi=>absurd hi (Nat.not_lt_zero _),rfl⟩
 |m+1=>by
  rw[List.range_succ,List.filterMap_append]
  rcases zlT p k m with⟨al,e⟩|⟨i0,rest,h0,p0,e⟩
  ·rw[e]
   by_cases z:p m=true
   ·exact .inr ⟨m,[],by omega,z,by rw[List.filterMap_cons,if_pos z];rfl⟩
   ·refine .inl ⟨fun i hi=>?_,by rw[List.filterMap_cons,if_neg z];rfl⟩
    by_cases w:i=m
    ·subst w;exact Bool.eq_false_iff.mpr z
    ·exact al i (by omega)
  ·rw[e]
   by_cases z:p m=true
   ·exact .inr ⟨i0,rest++[m],by omega,p0,by rw[List.filterMap_cons,if_pos z,List.map_append];rfl⟩
   ·exact .inr ⟨i0,rest,by omega,p0,by rw[List.filterMap_cons,if_neg z];simp⟩
theorem ne_nil0:dNe (.lst []) (.lst [])=some (.bl false):=(zmU (k:=0) fun d hd=>absurd hd List.not_mem_nil).ne (by decide)
theorem ne_cons1 (i:Int)(l:List Nat)(k:Nat):dNe (.lst (.int i::l.map fun i:Nat=>D.int ((k+i:Nat):Int))) (.lst [])=some (.bl true):=by
 have h:Pl 1 (.lst (.int i::l.map fun i:Nat=>D.int ((k+i:Nat):Int))):=zmU fun d hd=>by
  rcases List.mem_cons.mp hd with rfl|m
  ·exact zlL 0 _
  ·obtain⟨j,_,rfl⟩:=List.mem_map.mp m
   exact zlL 0 _
 unfold dNe
 rw[h.1,show noS (.lst [])=true from rfl,decide_eq_true (Nat.le_trans h.2 (by decide))]
 rfl
theorem rank_ok (t7:t<=7)(n7:n<=7)(A:Nat->Nat->Int)(h01:∀i j,(A i j).natAbs<=1):Ok (zcp [.lst (rwD t n A),.int n]) fun x=>∃k X P,Ech t n n A X k P/\x= .val (.int (k:Nat)):=by
 simp! only[↓zcp,↓zfi,↓zeJ,↓zeu]
 refine⟨by omega,zaC (fun ρ=>∃a,ρ=[a]) (fun i=> .lst (wI n (A i))) ⟨_,rfl⟩ ?_ ?_⟩
 ·rintro i _ hi ⟨a,rfl⟩
  simp! only[↓zeX]
  exact⟨_,rfl⟩
 rintro _ ⟨a,rfl⟩
 simp! only[]
 refine⟨zav (by omega) (by omega),?_⟩
 refine zc9 (fun q ρ=>∃(k:Nat) (X:Nat->Nat->Int) (P:Nat->Nat) (s4 s5 s6 s7 s8 s9:Sl),Ech t n q A X k P/\k<=q/\Sm t k X/\ρ=[.val (.lst (rwD t n A)),.val (.int n),.own (rwD t n X),.val (.int (k:Nat)),s4,s5,s6,s7,s8,s9]) ⟨0,A,fun _=>0,_,_,_,_,_,_,?_,Nat.le_refl _,fun i j _=>h01 i j,rfl⟩ ?_ ?_
 ·exact⟨fun x=>Iff.rfl,fun i hi=>absurd hi (Nat.not_lt_zero _),fun i j _ hj=>absurd hj (Nat.not_lt_zero _),fun i j _ _ hj=>absurd hj (Nat.not_lt_zero _),Nat.zero_le _⟩
 ·rintro q _ hq ⟨k,X,P,s4,s5,s6,s7,s8,s9,E,kq,sm,rfl⟩
  have kt:=E.kt
  simp! only[↓zeQ,↓zey]
  rw[show((t:Int)-(k:Int)).toNat=t-k by omega,zhj]
  refine⟨⟨zav (by omega) (by omega),zav (by omega) (by omega)⟩,by rw[zay];omega,zdT (fun ρ=>∃s,ρ=[.par (rwD t n X),.val (.int q),s]) (fun i=>if X (k+i) q !=0 then some (D.int ((k+i:Nat):Int))else none) ⟨_,rfl⟩ ?_ ?_⟩
  ·rintro i _ hi ⟨s,rfl⟩
   have e1:(k:Int)+(i:Int)=((k+i:Nat):Int):=by omega
   have e2:k+i<t:=by omega
   simp! only[↓zeB,↓zet,e1,zao _ e2,zao _ hq]
   exact⟨fun z=>⟨by rw[if_pos z],_,rfl⟩,fun z=>⟨by rw[if_neg fun w=>w z],_,rfl⟩⟩
  rintro _ ⟨s,rfl⟩
  rcases zlT (fun i=>X (k+i) q !=0) k (t-k)with⟨al,e⟩|⟨i0,rest,h0,p0,e⟩
  ·rw[e]
   simp! only[ne_nil0]
   refine⟨k,X,P,_,_,_,_,_,_,⟨E.null,fun i hi=>?_,E.up,fun i j h1 h2 h3=>?_,kt⟩,by omega,sm,rfl⟩
   ·obtain⟨a,b,c⟩:=E.piv i hi
    exact⟨a,by omega,c⟩
   ·by_cases z:j=q
    ·have:=al (i-k) (by omega)
     rw[show k+(i-k)=i by omega]at this
     rw[z];simpa using this
    ·exact E.zero i j h1 h2 (by omega)
  rw[e]
  have h1:k+i0<t:=by omega
  have hk:k<t:=by omega
  have ne:X (k+i0) q≠0:=by simpa using p0
  simp! only[ne_cons1,zao _ h1,zao _ hk,↓ok_gS,zay,h1,hk,zii]
  let Y:Nat->Nat->Int:=fun j=>if j=k+i0 then X k else if j=k then X (k+i0)else X j
  have eY:(wL t fun j=>if j=k+i0 then D.lst (wI n (X k))else if j=k then D.lst (wI n (X (k+i0)))else D.lst (wI n (X j)))=rwD t n Y:=zbt fun j _=>by
   show(if j=k+i0 then D.lst (wI n (X k))else if j=k then D.lst (wI n (X (k+i0)))else D.lst (wI n (X j)))=D.lst (wI n (if j=k+i0 then X k else if j=k then X (k+i0)else X j))
   split
   ·rfl
   ·split<;>rfl
  have Yk:Y k=X (k+i0):=by
   show(if k=k+i0 then X k else if k=k then X (k+i0)else X k)=X (k+i0)
   split
   ·rename_i z;rw[<-z]
   ·rw[if_pos rfl]
  have Yl:∀j,j<k->Y j=X j:=fun j hj=>by
   show(if j=k+i0 then X k else if j=k then X (k+i0)else X j)=X j
   rw[if_neg (by omega),if_neg (by omega)]
  have Yg:∀j,k<=j->j<t->∃j',k<=j'/\j'<t/\Y j=X j':=fun j h2 h3=>by
   by_cases z:j=k+i0
   ·exact⟨k,Nat.le_refl _,hk,if_pos z⟩
   ·by_cases w:j=k
    ·exact⟨k+i0,by omega,h1,by rw[w,Yk]⟩
    ·exact⟨j,h2,h3,by show(if j=k+i0 then X k else if j=k then X (k+i0)else X j)=X j;rw[if_neg z,if_neg w]⟩
  have Yi:∀j,j<t->∃j',j'<t/\X j=Y j':=fun j h3=>by
   by_cases z:j=k+i0
   ·exact⟨k,hk,by rw[z,Yk]⟩
   ·by_cases w:j=k
    ·exact⟨k+i0,h1,by rw[w];exact(if_pos rfl).symm⟩
    ·exact⟨j,h3,by show X j=(if j=k+i0 then X k else if j=k then X (k+i0)else X j);rw[if_neg z,if_neg w]⟩
  have smY:Sm t k Y:=fun i j hi=>by
   by_cases z:i<k
   ·rw[Yl i z];exact sm i j hi
   ·obtain⟨j',a,b,c⟩:=Yg i (by omega) hi
    rw[c];exact sm j' j b
  have nq:Y k q≠0:=by rw[Yk];exact ne
  have zY:∀i j,k<=i->i<t->j<q->Y i j=0:=fun i j a b c=>by
   obtain⟨j',a',b',c'⟩:=Yg i a b
   rw[c'];exact E.zero j' j a' b' c
  have eK:(if k=k+i0 then D.lst (wI n (X k))else D.lst (wI n (X (k+i0))))=D.lst (wI n (Y k)):=by
   rw[Yk]
   by_cases z:k=k+i0
   ·rw[if_pos z,<-z]
   ·rw[if_neg z]
  rw[eY,eK]
  clear_value Y
  simp! only[zao _ hq,zao _ hk,↓zev]
  refine⟨⟨zav (by omega) (by omega),zav (by omega) (by omega)⟩,?_⟩
  let Z:Nat->Nat->Nat->Int:=fun i j=>if k<j/\j<k+1+i then fun c=>Y k q*Y j c-Y j q*Y k c else Y j
  have Zk:∀i,Z i k=Y k:=fun i=>if_neg (by omega)
  rw[show((t:Int)-((k:Int)+1)).toNat=t-k-1 by omega,zhj]
  refine zc9 (fun i ρ=>∃s8 s9:Sl,ρ=[.val (.lst (rwD t n A)),.val (.int n),.own (rwD t n (Z i)),.val (.int (k:Nat)),.val (.int q),.val (.lst (.int ((k+i0:Nat):Int)::rest.map fun i:Nat=>D.int ((k+i:Nat):Int))),.val (.int (Y k q)),.val (.lst (wI n (Y k))),s8,s9]) ⟨s8,s9,?_⟩ ?_ ?_
  ·rw[show Z 0=Y from funext fun j=>if_neg (by omega)]
  ·rintro i _ hi ⟨s8,s9,rfl⟩
   have e1:(k:Int)+1+(i:Int)=((k+1+i:Nat):Int):=by omega
   have e2:k+1+i<t:=by omega
   have eZ:Z i (k+1+i)=Y (k+1+i):=if_neg (by omega)
   simp! only[↓zeF,e1,zao _ e2,↓zeZ,eZ,ze5]
   refine⟨by omega,zaC (fun ρ=>∃a b,ρ=[.val (.int (Y k q)),.val (.lst (wI n (Y (k+1+i)))),.val (.int q),a,b]) (fun c=> .int (Y k q*Y (k+1+i) c-Y (k+1+i) q*Y k c)) ⟨_,_,rfl⟩ ?_ ?_⟩
   ·rintro c _ hc ⟨a,b,rfl⟩
    simp! only[↓zeC,zao _ hq,sm_mul smY (by omega:k<=7) hk e2,sm_mul smY (by omega:k<=7) e2 hk]
    exact⟨_,_,rfl⟩
   rintro _ ⟨a,b,rfl⟩
   simp! only[zay,e2,zii]
   have eR:(wL t fun j=>if j=k+1+i then D.lst (wL n fun c=>D.int (Y k q*Y (k+1+i) c-Y (k+1+i) q*Y k c))else D.lst (wI n (Z i j)))=rwD t n (Z (i+1)):=zbt fun j hj=>by
    by_cases z:j=k+1+i
    ·rw[if_pos z,show Z (i+1) j=fun c=>Y k q*Y j c-Y j q*Y k c from if_pos (by omega),z]
    ·rw[if_neg z]
     by_cases w:k<j/\j<k+1+i
     ·rw[show Z (i+1) j=fun c=>Y k q*Y j c-Y j q*Y k c from if_pos (by omega),show Z i j=fun c=>Y k q*Y j c-Y j q*Y k c from if_pos w]
     ·rw[show Z (i+1) j=Y j from if_neg (by omega),show Z i j=Y j from if_neg w]
   rw[eR]
   exact⟨_,_,rfl⟩
  rintro _ ⟨s8,s9,rfl⟩
  simp! only[]
  have Wl:∀j,j<=k->Z (t-k-1) j=Y j:=fun j hj=>if_neg (by omega)
  have Wg:∀j,k<j->j<t->Z (t-k-1) j=fun c=>Y k q*Y j c-Y j q*Y k c:=fun j h2 h3=>if_pos (by omega)
  have dW:∀j x,k<j->j<t->dotR n (Z (t-k-1) j) x=Y k q*dotR n (Y j) x-Y j q*dotR n (Y k) x:=fun j x h2 h3=>by
   rw[Wg j h2 h3]
   unfold dotR
   rw[<-zaK,<-zaK,<-zd6]
   exact zae fun c _=>by rw[Int.sub_mul,Int.mul_assoc,Int.mul_assoc]
  generalize Z (t-k-1)=W at*
  refine⟨k+1,W,fun i=>if i=k then q else P i,_,_,_,_,_,_,⟨fun x=>?_,fun i hi=>?_,fun i j h2 h3=>?_,fun i j h2 h3 h4=>?_,by omega⟩,by omega,fun i j hi=>?_,rfl⟩
  ·rw[<-E.null x]
   constructor
   ·intro h i hi
    have hk0:dotR n (Y k) x=0:=by rw[<-Wl k (Nat.le_refl _)];exact h k hk
    obtain⟨j,hj,ej⟩:=Yi i hi
    rw[ej]
    by_cases z:j<=k
    ·rw[<-Wl j z];exact h j hj
    ·have:=h j hj
     rw[dW j x (by omega) hj,hk0,Int.mul_zero,Int.sub_zero]at this
     exact(Int.mul_eq_zero.mp this).resolve_left nq
   ·intro h i hi
    have hY:∀j,j<t->dotR n (Y j) x=0:=fun j hj=>by
     by_cases z:j<k
     ·rw[Yl j z];exact h j hj
     ·obtain⟨j',_,b,c⟩:=Yg j (by omega) hj
      rw[c];exact h j' b
    by_cases z:i<=k
    ·rw[Wl i z];exact hY i hi
    ·rw[dW i x (by omega) hi,hY i hi,hY k hk,Int.mul_zero,Int.mul_zero];rfl
  ·by_cases z:i=k
   ·rw[if_pos z,z,Wl k (Nat.le_refl _)]
    exact⟨nq,by omega,fun j hj=>zY k j (Nat.le_refl _) hk hj⟩
   ·rw[if_neg z,Wl i (by omega),Yl i (by omega)]
    obtain⟨a,b,c⟩:=E.piv i (by omega)
    exact⟨a,by omega,c⟩
  ·show(if i=k then q else P i)<(if j=k then q else P j)
   rw[if_neg (by omega)]
   by_cases z:j=k
   ·rw[if_pos z];exact(E.piv i (by omega)).2.1
   ·rw[if_neg z];exact E.up i j h2 (by omega)
  ·rw[Wg i (by omega) h3]
   show Y k q*Y i j-Y i q*Y k j=0
   by_cases z:j=q
   ·rw[z,Int.mul_comm];exact Int.sub_self _
   ·rw[zY i j (by omega) h3 (by omega),zY k j (Nat.le_refl _) hk (by omega),Int.mul_zero,Int.mul_zero];rfl
  ·by_cases z:i<=k
   ·rw[Wl i z]
    have p:(2:Nat)^k<=2^(k+1):=Nat.pow_le_pow_right (by decide) (by omega)
    exact Nat.le_trans (smY i j hi) (Nat.pow_le_pow_right (by decide) (by omega))
   ·rw[Wg i (by omega) hi]
    exact sm_step smY (smY k q hk) (smY i j hi) (smY i q hi) (smY k j hk)
 rintro _ ⟨k,X,P,s4,s5,s6,s7,s8,s9,E,kq,sm,rfl⟩
 simp! only[]
 exact⟨k,X,P,E,rfl⟩
section
variable {t n:Nat} {A b w v k:Mx} {s:List (Nat×Nat)}
theorem Fin.kill (F:Fin t n A b w v k s){x:Nat->Int}(h:∀a,a<t->dotR n (A a) x=0)(hp:p∈s):dotR n (k p.2) x=0:=by
 have lt:=F.S.lt p hp
 have e:(sumR n fun q=>gsum t A (w p.1) q*x q)=b p.1 p.2*dotR n (k p.2) x:=by
  unfold dotR
  rw[<-zaK]
  refine zae fun q hq=>?_
  rw[F.I.back lt.1 hq,show(sumR n fun j=>b p.1 j*k j q)=sumR n fun j=>if j=p.2 then b p.1 p.2*k p.2 q else 0 from zae fun j hj=>by
   by_cases z:j=p.2
   ·rw[if_pos z,z]
   ·rw[if_neg z,F.S.zr p hp j hj z,Int.zero_mul],zhW n lt.2,Int.mul_assoc]
 have e0:(sumR n fun q=>gsum t A (w p.1) q*x q)=0:=by
  unfold gsum
  rw[show(sumR n fun q=>(sumR t fun a=>w p.1 a*A a q)*x q)=sumR n fun q=>sumR t fun a=>w p.1 a*(A a q*x q)from zae fun q _=>by
   rw[Int.mul_comm,<-zaK]
   exact zae fun a _=>by rw[Int.mul_comm,Int.mul_assoc],zcg]
  rw[show(sumR t fun a=>sumR n fun q=>w p.1 a*(A a q*x q))=sumR t fun _=>0 from zae fun a ha=>by
   rw[zaK]
   show w p.1 a*dotR n (A a) x=0
   rw[h a ha,Int.mul_zero],zaT]
 rw[e]at e0
 exact(Int.mul_eq_zero.mp e0).resolve_left (F.S.nz p hp)
theorem zkV:∀n:Nat,(sumR n fun _=>(1:Int))=n
 |0=>rfl
 |n+1=>by show(sumR n fun _=>(1:Int))+1=((n+1:Nat):Int);rw[zkV n];omega
theorem Fin.many (F:Fin t n A b w v k s):(opC n s).length+s.length=n:=by
 have:=F.S.cols fun _=>(1:Int)
 rw[zkV]at this
 have h:∀{α:Type} (l:List α),(l.map fun _=>(1:Int)).sum=l.length:=fun l=>by
  induction l with
  |nil=>rfl
  |cons x l ih=>rw[List.map_cons,List.sum_cons,ih,List.length_cons];omega
 rw[h,h]at this
 omega
theorem un_swap (i j:Nat):un i j=if i=j then 1 else 0:=by
 unfold un
 by_cases z:i=j
 ·rw[if_pos z,if_pos z.symm]
 ·rw[if_neg z,if_neg fun w=>z w.symm]
theorem Fin.dual (F:Fin t n A b w v k s)(hi:i<n)(hj:j<n):dotR n (k i) (v j)=if i=j then 1 else 0:=by
 rw[<-un_swap]
 unfold dotR
 rw[show(sumR n fun p=>k i p*v j p)=sumR n fun p=>v j p*k i p from zae fun p _=>Int.mul_comm _ _,F.I.vk j i hj hi]
 unfold un
 by_cases z:i=j
 ·rw[if_pos z,if_pos z.symm]
 ·rw[if_neg z,if_neg fun w=>z w.symm]
theorem Fin.rank (F:Fin t n A b w v k s){X:Mx}{P:Nat->Nat}(E:Ech t n n A X r P):(opC n s).length+r=n:=by
 have g2:∀{c:Nat},c<s.length->(s.getD c (0,0))∈s:=fun{c} h=>by rw[List.getD_eq_getElem?_getD,List.getElem?_eq_getElem h];exact List.getElem_mem h
 refine rank_eq E (e:=(opC n s).length) (d:=s.length) (bv:=fun c=>v ((opC n s).getD c 0)) (bk:=fun c=>k ((opC n s).getD c 0)) (sv:=fun c=>v (s.getD c (0,0)).2) (sk:=fun c=>k (s.getD c (0,0)).2) (fun c hc i hi=>F.nil (zec hc) i hi) (fun c c' hc hc'=>?_) (fun c c' hc hc'=>?_) (fun x hx c hc=>F.kill hx (g2 hc)) F.many
 ·rw[F.dual (zbr (zec hc)) (zbr (zec hc'))]
  have:=zlO (zoM n s) hc hc'
  by_cases z:c=c'
  ·rw[if_pos z,if_pos (this.mpr z)]
  ·rw[if_neg z,if_neg fun w=>z (this.mp w)]
 ·rw[F.dual (F.S.lt _ (g2 hc)).2 (F.S.lt _ (g2 hc')).2]
  by_cases z:c=c'
  ·rw[if_pos z,if_pos (by rw[z])]
  ·rw[if_neg z,if_neg fun w=>?_]
   have d:=List.pairwise_iff_getElem.mp F.S.d2
   have e1:s.getD c (0,0)=s[c]:=by rw[List.getD_eq_getElem?_getD,List.getElem?_eq_getElem hc];rfl
   have e2:s.getD c' (0,0)=s[c']:=by rw[List.getD_eq_getElem?_getD,List.getElem?_eq_getElem hc'];rfl
   rw[e1,e2]at w
   rcases Nat.lt_or_gt_of_ne z with h|h
   ·exact d c c' hc hc' h w
   ·exact d c' c hc' hc h w.symm
theorem Fin.full (F:Fin t n A b w v k s){x:Nat->Int}(h:∀a,a<t->dotR n (A a) x=0){p:Nat}(hp:p<n):(sumR (opC n s).length fun i=>dotR n (k ((opC n s).getD i 0)) x*v ((opC n s).getD i 0) p)=x p:=by
 have e0:(sumR n fun q=>(s.map fun z=>v z.2 p*k z.2 q).sum*x q)=0:=by
  have:∀l:List (Nat×Nat),(∀z∈l,z∈s)->(sumR n fun q=>(l.map fun z=>v z.2 p*k z.2 q).sum*x q)=0:=fun l=>by
   induction l with
   |nil=>intro _;rw[show(sumR n fun q=>(([]:List (Nat×Nat)).map fun z=>v z.2 p*k z.2 q).sum*x q)=sumR n fun _=>0 from zae fun q _=>Int.zero_mul _,zaT]
   |cons z l ih=>
    intro hl
    rw[show(sumR n fun q=>((z::l).map fun z=>v z.2 p*k z.2 q).sum*x q)=sumR n fun q=>v z.2 p*(k z.2 q*x q)+(l.map fun z=>v z.2 p*k z.2 q).sum*x q from zae fun q _=>by rw[List.map_cons,List.sum_cons,Int.add_mul,Int.mul_assoc],zbk,zaK,ih fun z hz=>hl z (List.mem_cons_of_mem _ hz)]
    show v z.2 p*dotR n (k z.2) x+0=0
    rw[F.kill h (hl z List.mem_cons_self),Int.mul_zero];rfl
  exact this s fun z hz=>hz
 rw[show(sumR n fun q=>(s.map fun z=>v z.2 p*k z.2 q).sum*x q)=sumR n fun q=>un p q*x q-(sumR (opC n s).length fun i=>v ((opC n s).getD i 0) p*k ((opC n s).getD i 0) q)*x q from zae fun q hq=>by rw[F.rest hp hq,Int.sub_mul],zd6]at e0
 have e1:(sumR n fun q=>un p q*x q)=x p:=by
  rw[show(sumR n fun q=>un p q*x q)=sumR n fun q=>if q=p then x p else 0 from zae fun q _=>by
   unfold un
   by_cases z:q=p
   ·rw[if_pos z,if_pos z,z,Int.one_mul]
   ·rw[if_neg z,if_neg z,Int.zero_mul]]
  exact zhW n hp _
 have e2:(sumR n fun q=>(sumR (opC n s).length fun i=>v ((opC n s).getD i 0) p*k ((opC n s).getD i 0) q)*x q)=sumR (opC n s).length fun i=>dotR n (k ((opC n s).getD i 0)) x*v ((opC n s).getD i 0) p:=by
  unfold dotR
  rw[show(sumR n fun q=>(sumR (opC n s).length fun i=>v ((opC n s).getD i 0) p*k ((opC n s).getD i 0) q)*x q)=sumR n fun q=>sumR (opC n s).length fun i=>v ((opC n s).getD i 0) p*(k ((opC n s).getD i 0) q*x q)from zae fun q _=>by
   rw[Int.mul_comm,<-zaK]
   exact zae fun i _=>by rw[Int.mul_comm,Int.mul_assoc],zcg]
  exact zae fun i _=>by rw[zaK,Int.mul_comm]
 rw[e1,e2]at e0
 omega
end
section
variable {n t:Nat} {c:Nat->Nat} {z:Nat->Nat->Nat}
theorem zfh {r:Nat->Int}(h:Sq d n r)(n7:n<=7)(t7:t<=7)(hr:∀i,i<t->Rise n (c i) (z i)):Ok (zbi [d,.tup (zep t c z)]) fun x=>x= .val (.tup (wI t (ssum c z r))):=by
 simp! only[↓zbi,↓zgr,↓zfF,zep]
 refine⟨by omega,zaC (fun ρ=>∃a,ρ=[.val d,a]) (fun i=> .int (ssum c z r i)) ⟨_,rfl⟩ ?_ ?_⟩
 ·rintro i _ hi ⟨a,rfl⟩
  have cn:=(hr i hi).cn
  simp! only[↓zfQ,↓zcx,↓zdL,↓zdV,setL]
  refine⟨by omega,zaC (fun ρ=>∃a,ρ=[.val d,a]) (fun j=> .int (r (z i j))) ⟨_,rfl⟩ ?_ ?_⟩
  ·rintro j _ hj ⟨a,rfl⟩
   simp! only[↓zd1,h.ix,zao _ ((hr i hi).lt j hj)]
   exact⟨_,rfl⟩
  rintro _ ⟨a,rfl⟩
  simp! only[zfz,zeb]
  exact⟨rfl,_,rfl⟩
 rintro _ ⟨a,rfl⟩
 simp! only[]
theorem added_ok {d1 d2:D}(h1:Sq d1 n f)(h2:Sq d2 n g)(hn:n<=100)(hq:∀j,j<n->zbO (f j) (g j)=true):Ok (zbU [d1,d2]) fun x=>x= .val (.int (sumR n fun j=>f j*g j)):=by
 simp! only[↓zbU,↓zdJ,↓zdP,h1.it,h2.it,ze5]
 refine⟨by omega,zaC (fun ρ=>∃y y2,ρ=[y,y2]) (fun j=> .int (f j*g j)) ⟨_,_,rfl⟩ ?_ ?_⟩
 ·rintro j _ hj ⟨y,y2,rfl⟩
  simp! only[↓zeg,hq j hj]
  exact⟨_,_,rfl⟩
 ·rintro _ ⟨y,y2,rfl⟩
  simp! only[zfz,zeb]
theorem zkn {row:Nat->Int}(hd:Sq d n row)(n7:n<=7)(l7:L.length<=7){of:Nat->Int}(hq:∀i,i<L.length->∀p,p<n->zbO (of i) (v (L.getD i 0) p)=true):Ok (za3 [d,bsD n v L,.lst (wI L.length of)]) fun x=>x= .val (.lst (wI n fun p=>row p+sumR L.length fun i=>of i*v (L.getD i 0) p)):=by
 simp! only[↓za3,↓zff,hd.it,↓zeY,bsD,zj0,ze5]
 refine zc9 (fun i ρ=>∃s4 s5:Sl,ρ=[.val d,.val (.tup (wL L.length fun i=> .tup (wI n (v (L.getD i 0))))),.val (.lst (wI L.length of)),.val (.lst (wI n fun p=>row p+sumR i fun i=>of i*v (L.getD i 0) p)),s4,s5]) ⟨.emp,.emp,?_⟩ ?_ ?_
 ·rw[show(fun p=>row p+sumR 0 fun i=>of i*v (L.getD i 0) p)=row from funext fun p=>Int.add_zero _]
 ·rintro i _ hi ⟨s4,s5,rfl⟩
  simp! only[↓zeH,↓zeq,ze5]
  refine⟨by omega,zaC (fun ρ=>∃a b,ρ=[.val (.int (of i)),a,b]) (fun p=> .int ((row p+sumR i fun i=>of i*v (L.getD i 0) p)+of i*v (L.getD i 0) p)) ⟨_,_,rfl⟩ ?_ ?_⟩
  ·rintro p _ hp ⟨a,b,rfl⟩
   simp! only[↓zeM,hq i hi p hp]
   exact⟨_,_,rfl⟩
  rintro _ ⟨a,b,rfl⟩
  simp! only[]
  have eR:(wL n fun p=>D.int ((row p+sumR i fun i=>of i*v (L.getD i 0) p)+of i*v (L.getD i 0) p))=wI n fun p=>row p+sumR (i+1) fun i=>of i*v (L.getD i 0) p:=zbt fun p _=>by
   show D.int _=D.int (row p+((sumR i fun i=>of i*v (L.getD i 0) p)+of i*v (L.getD i 0) p))
   rw[Int.add_assoc]
  rw[eR]
  exact⟨_,_,rfl⟩
 rintro _ ⟨s4,s5,rfl⟩
 simp! only[]
theorem zkR {d1 d2 sh:D}{x y:Nat->Int}(h1:Sq d1 n x)(h2:Sq d2 n y)(n7:n<=7)(l7:L.length<=7){v k:Mx}(hq:∀i,i<L.length->∀p,p<n->zbO (k (L.getD i 0) p) (x p-y p)=true):Ok (za2 [.tup [bsD n v L,bsD n k L,sh],d1,d2]) fun r=>r= .own (wI L.length fun i=>dotR n (k (L.getD i 0)) fun p=>x p-y p):=by
 simp! only[↓za2,↓zfj,↓zes,bsD,zj0]
 refine⟨by omega,zaC (fun ρ=>∃a,ρ=[.val d1,.val d2,a]) (fun i=> .int (dotR n (k (L.getD i 0)) fun p=>x p-y p)) ⟨_,rfl⟩ ?_ ?_⟩
 ·rintro i _ hi ⟨a,rfl⟩
  simp! only[↓zeS,↓zeV,h1.it,h2.it,ze5]
  refine⟨by omega,zaC (fun ρ=>∃a b,ρ=[a,b]) (fun p=> .int (x p-y p)) ⟨_,_,rfl⟩ ?_ ?_⟩
  ·rintro p _ hp ⟨a,b,rfl⟩
   simp! only[↓zeN]
   exact⟨_,_,rfl⟩
  rintro _ ⟨a,b,rfl⟩
  simp! only[]
  refine(added_ok (Sq.tup n (k (L.getD i 0))) (Sq.lst n fun p=>x p-y p) (by omega) fun j hj=>hq i hi j hj).mono ?_
  rintro _ rfl
  simp! only[]
  exact⟨rfl,_,rfl⟩
 rintro _ ⟨a,rfl⟩
 simp! only[]
end
def Wx (x p:Nat):Int:=Builtin.bitAnd ((x:Int)/2^((3*(p:Int)).toNat)) 7-3
theorem wx_le (x p:Nat):(Wx x p).natAbs<=2^10:=by
 have h:0<=(x:Int)/2^((3*(p:Int)).toNat):=Int.ediv_nonneg (by omega) (Int.le_of_lt (Int.pow_pos (by decide)))
 unfold Wx Builtin.bitAnd
 rw[decide_eq_true h]
 have:=Nat.and_le_right (n:=((x:Int)/2^((3*(p:Int)).toNat)).toNat) (m:=7)
 show(((((x:Int)/2^((3*(p:Int)).toNat)).toNat&&&7:Nat):Int)-3).natAbs<=2^10
 omega
section
variable {n t:Nat} {c:Nat->Nat} {z:Nat->Nat->Nat} {b w v k:Mx} {s:List (Nat×Nat)}
theorem zoU (n:Nat)(f:Nat->Int):Pl 1 (.lst (wI n f)):=zmU fun d hd=>by
 obtain⟨i,hi,rfl⟩:=List.mem_map.mp hd
 exact zlL 0 _
theorem opC_l7 (F:Fin t n (incA c z) b w v k s)(n7:n<=7):(opC n s).length<=7:=by have:=F.many;omega
theorem repl0 (n:Nat):(List.replicate n [D.int 0]).flatten=wI n fun _=>0:=by
 induction n with
 |zero=>rfl
 |succ n ih=>rw[List.replicate_succ',List.flatten_append,ih];exact(zos n fun _=>D.int 0).symm
theorem any_no (n:Nat)(f:Nat->Int):((List.range n).map f).any (fun m=>m !=0)=false↔∀i,i<n->f i=0:=by
 rw[List.any_eq_false]
 simp only[List.mem_map,List.mem_range,bne_iff_ne,ne_eq,Classical.not_not]
 exact⟨fun h i hi=>h _ ⟨i,hi,rfl⟩,fun h x ⟨i,hi,e⟩=>by rw[<-e];exact h i hi⟩
theorem small_ok (F:Fin t n (incA c z) b w v k s)(n1:1<=n)(n7:n<=7)(t7:t<=7)(hr:∀i,i<t->Rise n (c i) (z i))(sh:D):Ok (zaM [.int (n:Nat),.tup (zep t c z),.tup [bsD n v (opC n s),bsD n k (opC n s),sh]]) fun x=>x= .val (.bl true):=by
 simp! only[↓zaM,↓zbn]
 intro n3
 have n3:n<=3:=by omega
 have l7:=opC_l7 F n7
 obtain⟨e,he,B⟩:=F.B
 have n8:8^n<=512:=Nat.pow_le_pow_right (n:=8) (by decide) n3
 have eN:(1:Int)*2^((3*(n:Int)).toNat)=((8^n:Nat):Int):=by
  have:n=1\/n=2\/n=3:=by omega
  rcases this with rfl|rfl|rfl<;>rfl
 have mk:∀j:Nat,zie 3 (j:Int)=true:=fun j=>rfl
 have e1:zct (1*2^((3*(n:Int)).toNat))=true:=by
  have sm:∀N:Nat,N<=512->zct (N:Int)=true:=fun N h=>zav (by omega) (by omega)
  rw[eN];exact sm _ n8
 have e2:(1*2^((3*(n:Int)).toNat):Int).toNat=8^n:=by rw[eN,Int.toNat_natCast]
 simp! only[↓zbR,↓zbS,mk,e2]
 refine⟨⟨by omega,by omega⟩,e1,?_⟩
 refine zc9 (fun i ρ=>∃s3 s4 s5:Sl,ρ=[.val (.int (n:Nat)),.val (.tup (zep t c z)),.val (.tup [bsD n v (opC n s),bsD n k (opC n s),sh]),s3,s4,s5]) ⟨_,_,_,rfl⟩ ?_ ?_
 ·rintro x _ hx ⟨s3,s4,s5,rfl⟩
  simp! only[↓zbN,↓zbY]
  refine⟨zav (by omega) (by omega),by omega,zaC (fun ρ=>∃y,ρ=[.val (.int (x:Nat)),y]) (fun p=> .int (Wx x p)) ⟨_,rfl⟩ ?_ ?_⟩
  ·rintro p _ hp ⟨y,rfl⟩
   simp! only[↓zbT,mk p,dAnd]
   exact⟨by omega,rfl,_,rfl⟩
  rintro _ ⟨y,rfl⟩
  simp! only[repl0]
  have oL:∀{i:Nat},i<(opC n s).length->(opC n s).getD i 0<n:=fun h=>zbr (zec h)
  refine⟨⟨⟨by omega,by omega⟩,by omega⟩,(zkR (sh:=sh) (v:=v) (Sq.lst n (Wx x)) (Sq.lst n fun _=>0) n7 l7 fun i hi p hp=>mulW (B.2.2 _ p (oL hi) hp) (show(Wx x p-0).natAbs<=2^10 by rw[Int.sub_zero];exact wx_le x p) (by omega) (by omega)).mono ?_⟩
  rintro _ rfl
  simp! only[]
  refine(zfh (Sq.lst n (Wx x)) n7 t7 hr).mono ?_
  rintro _ rfl
  simp! only[zfz]
  refine⟨fun an=>⟨⟨⟨by omega,by omega⟩,by omega⟩,?_⟩,fun _=>⟨_,_,_,rfl⟩⟩
  rw[repl0]
  have ob:∀i,i<(opC n s).length->(dotR n (k ((opC n s).getD i 0)) fun p=>Wx x p-0).natAbs<=2^(e+10+3):=fun i hi=>zg6 n7 fun p hp=>by
   have:=zaw (B.2.2 _ p (oL hi) hp) (show(Wx x p-0).natAbs<=2^10 by rw[Int.sub_zero];exact wx_le x p)
   rw[<-Nat.pow_add]at this
   exact this
  refine(zkn (Sq.lst n fun _=>0) n7 l7 fun i hi p hp=>mulW (ob i hi) (B.2.1 _ p (oL hi) hp) (by omega) (by omega)).mono ?_
  rintro _ rfl
  rw[Bool.not_eq_true']at an
  have an:=(any_no t _).mp an
  have full:(wI n fun p=>0+sumR (opC n s).length fun i=>(dotR n (k ((opC n s).getD i 0)) fun p=>Wx x p-0)*v ((opC n s).getD i 0) p)=wL n fun p=>D.int (Wx x p):=zbt fun p hp=>by
   dsimp only
   rw[Int.zero_add,show(fun p=>Wx x p-0)=Wx x from funext fun p=>Int.sub_zero _,F.full (fun a ha=>by rw[<-an a ha,zfI hr _ ha];rfl) hp]
  rw[full]
  simp! only[(zoU n (Wx x)).ne (by decide:1<=50)]
  exact⟨_,_,_,rfl⟩
 rintro _ ⟨s3,s4,s5,rfl⟩
 simp! only[]
end
section
variable {n t:Nat} {c:Nat->Nat} {z:Nat->Nat->Nat} {b w v k:Mx} {s:List (Nat×Nat)}
theorem bd_le (h:Bd x):x.natAbs<=2^220:=by
 unfold Bd at h
 have:((2^220:Nat):Int)=2^220:=by decide+kernel
 omega
theorem often_ok (h:Pot ds){m:Nat}(m7:m<=7)(f:Nat->D):Ok (zc1 (znn 0 (gN 1) zbb zi2) (wL m f) [.par ds,.emp]) fun x=>∃(of:Nat->Int) (ds':List D) (y:Sl),Pot ds'/\(∀i,i<m->(of i).natAbs<=2^200)/\x=(wI m of,[.par ds',y]):=by
 refine zof (fun i acc ρ=>∃(of:Nat->Int) (ds':List D) (y:Sl),Pot ds'/\(∀j,j<i->(of j).natAbs<=2^200)/\acc=wI i of/\ρ=[.par ds',y]) ⟨fun _=>0,ds,_,h,fun j hj=>by omega,rfl,rfl⟩ ?_ ?_
 ·rintro i _ _ hi ⟨of,d1,y,h1,hb,rfl,rfl⟩
  simp! only[↓zi2]
  refine(zbp h1 (m:=9) (by omega) (by omega)).mono ?_
  rintro _ ⟨a,d2,ha,h2,rfl⟩
  simp! only[]
  refine(zbp h2 (m:=3) (by omega) (by omega)).mono ?_
  rintro _ ⟨u,d3,hu,h3,rfl⟩
  have hu':∃w:Int,w.natAbs<=10^50/\[D.int 1,D.int 1,D.int 100000000000000000000000000000000000000000000000000][u]? =some (.int w):=by
   have:u=0\/u=1\/u=2:=by omega
   rcases this with rfl|rfl|rfl
   ·exact⟨1,by decide,rfl⟩
   ·exact⟨1,by decide,rfl⟩
   ·exact⟨100000000000000000000000000000000000000000000000000,by decide,rfl⟩
  obtain⟨w,hw,ew⟩:=hu'
  simp! only[ew]
  have ab:(((a:Int)-4)*w).natAbs<=2^200:=by
   rw[Int.natAbs_mul]
   exact Nat.le_trans (Nat.mul_le_mul (show((a:Int)-4).natAbs<=4 by omega) hw) (by decide)
  refine⟨zho (by omega),fun j=>if j<i then of j else((a:Int)-4)*w,d3,_,h3,fun j hj=>?_,?_,rfl⟩
  ·by_cases h:j<i
   ·simp only[h,if_true];exact hb j h
   ·simp only[h,if_false];exact ab
  ·rw[<-zkc];rfl
 rintro _ _ ⟨of,d1,y,h1,hb,rfl,rfl⟩
 exact⟨of,d1,y,h1,hb,rfl⟩
theorem zoF:∀{n:Nat},(∀p,p<n->Y∣f p)->Y∣sumR n f
 |0,_=>Int.dvd_zero _
 |n+1,h=>Int.dvd_add (zoF fun p hp=>h p (by omega)) (h n (by omega))
theorem out_row {A:Mx}{S r:Nat->Int}(h:Out n t A S d)(hS:∀a,a<t->S a=sumR n fun p=>A a p*r p):∃R:Nat->Int,d= .tup [.str "row",.tup (wI n R)]/\(∀a,a<t->(sumR n fun p=>A a p*R p)=S a)/\∃e,e<=33000000/\∀p,p<n->(R p).natAbs<=2^e:=by
 rcases h with h|⟨f,Y,e,he,ny,y8,fb,dv,nd,_⟩
 ·exact h
 ·exfalso
  refine nd ?_
  rw[show wsum t S f=wsum t (fun a=>sumR n fun p=>A a p*r p) f from zae fun a ha=>by rw[hS a ha],zi1]
  exact zoF fun p hp=>Int.dvd_trans (dv p hp) (Int.dvd_mul_right _ _)
theorem in_set (c:Nat)(z:Nat->Nat)(j:Nat):dIn (.int j) (.tup (setL c z))=some (.bl (hasP c z j)):=by
 have e1:setL c z=((List.range c).map fun i=>((z i:Nat):Int)).map .int:=by unfold setL wI wL;rw[List.map_map];rfl
 rw[show dIn (.int j) (.tup (setL c z))=dIn (.int j) (.lst (setL c z))from rfl,e1,inL]
 congr 2
 unfold hasP
 rw[Bool.eq_iff_iff,List.contains_iff_mem,List.any_eq_true,List.mem_map]
 constructor
 ·rintro⟨i,hi,e⟩;exact⟨i,hi,by simp;omega⟩
 ·rintro⟨i,hi,e⟩;exact⟨i,hi,by simp at e;omega⟩
abbrev mdR (n:Nat)(v:Mx)(s:List (Nat×Nat))(r of:Nat->Int)(p:Nat):Int:=r p+sumR (opC n s).length fun i=>of i*v ((opC n s).getD i 0) p
theorem znX (F:Fin t n (incA c z) b w v k s)(hr:∀i,i<t->Rise n (c i) (z i))(r of:Nat->Int)(ha:a<t):ssum c z (mdR n v s r of) a=ssum c z r a:=by
 rw[zfI hr _ ha,zfI hr _ ha,show(sumR n fun p=>incA c z a p*mdR n v s r of p)=sumR n fun p=>incA c z a p*r p+incA c z a p*sumR (opC n s).length fun i=>of i*v ((opC n s).getD i 0) p from zae fun p _=>Int.mul_add _ _ _,zbk]
 have h:(sumR n fun p=>incA c z a p*sumR (opC n s).length fun i=>of i*v ((opC n s).getD i 0) p)=0:=by
  have:=zem n (opC n s).length (incA c z a) (fun i=>v ((opC n s).getD i 0)) of
  unfold dotR at this
  rw[this,show(sumR (opC n s).length fun i=>of i*sumR n fun j=>incA c z a j*v ((opC n s).getD i 0) j)=sumR (opC n s).length fun _=>0 from zae fun i hi=>by rw[F.nil (zec hi) a ha,Int.mul_zero],zaT]
 rw[h,Int.add_zero]
theorem zm4 (F:Fin t n (incA c z) b w v k s)(r of:Nat->Int)(hi:i<(opC n s).length):(dotR n (k ((opC n s).getD i 0)) fun p=>mdR n v s r of p-r p)=of i:=by
 rw[show(fun p=>mdR n v s r of p-r p)=fun p=>sumR (opC n s).length fun i=>of i*v ((opC n s).getD i 0) p from funext fun p=>by show r p+_-r p=_;omega,zem n (opC n s).length (k ((opC n s).getD i 0)) (fun i=>v ((opC n s).getD i 0)) of]
 rw[show(sumR (opC n s).length fun j=>of j*dotR n (k ((opC n s).getD i 0)) (v ((opC n s).getD j 0)))=sumR (opC n s).length fun j=>of j*(if i=j then 1 else 0)from zae fun j hj=>by
  rw[F.dual (zbr (zec hi)) (zbr (zec hj))]
  have:=zlO (zoM n s) hi hj
  by_cases z:i=j
  ·rw[if_pos z,if_pos (this.mpr z)]
  ·rw[if_neg z,if_neg fun w=>z (this.mp w)]]
 exact zhF hi of
theorem pl_tt (n:Nat)(f:Nat->Int):Pl 1 (.tup (wI n f)):=pl_tup fun d hd=>by
 obtain⟨i,hi,rfl⟩:=List.mem_map.mp hd
 exact zlL 0 _
end
theorem math (ns:List Int)(hl:ns.length<=63):zjI [.scr ns]=some (.val (.bl true)):=by
 have:Ok (zjI [.scr ns]) fun r=>r= .val (.bl true):=by
  have hm:∃m:Nat,m<=6/\max2 1 (min2 (ns.length:Int) 6)=(m:Int):=by
   unfold max2 min2
   exact⟨(if(if(6:Int)<(ns.length:Int)then 6 else(ns.length:Int))>1 then(if(6:Int)<(ns.length:Int)then 6 else(ns.length:Int))else 1).toNat,by split<;>split<;>omega,by split<;>split<;>omega⟩
  obtain⟨m,hm8,em⟩:=hm
  simp! only[↓zjI,↓m_law,em,↓zk2]
  refine⟨zav (by omega) (by omega),zc9 (fun i ρ=>∃s1 s2 s3 s4 s5 s6 s7 s8 s9 s10 s11,ρ=[.val (.scr ns),s1,s2,s3,s4,s5,s6,s7,s8,s9,s10,s11]) ⟨_,_,_,_,_,_,_,_,_,_,_,rfl⟩ ?_ ?_⟩
  ·rintro i _ hi ⟨s1,s2,s3,s4,s5,s6,s7,s8,s9,s10,s11,rfl⟩
   simp! only[↓zle]
   refine(pot_ok ns i (by omega)).mono ?_
   rintro _ ⟨ds,p0,rfl⟩
   simp! only[]
   refine(zbp p0 (m:=7) (by omega) (by omega)).mono ?_
   rintro _ ⟨n0,d1,hn0,p1,rfl⟩
   obtain⟨n,rfl⟩:∃n,n=1+n0:=⟨_,rfl⟩
   have en:(1:Int)+(n0:Int)=((1+n0:Nat):Int):=by omega
   have n1:1<=1+n0:=by omega
   have n7:1+n0<=7:=by omega
   generalize 1+n0=n at*
   simp! only[en]
   refine(sets_ok p1 n1 n7).mono ?_
   rintro _ ⟨t,c,z,d2,p2,t1,t7,hr,rfl⟩
   simp! only[]
   refine(zmm p2 n (by omega)).mono ?_
   rintro _ ⟨r,d3,p3,hb,rfl⟩
   simp! only[]
   refine(zfh (Sq.lst n r) n7 t7 hr).mono ?_
   rintro _ rfl
   simp! only[]
   refine(zl6 (S:=ssum c z r) n1 n7 t1 t7).mono ?_
   rintro _ ⟨b,w,v,k,s,F,rfl⟩
   obtain⟨e,he,B⟩:=F.B
   have l7:=opC_l7 F n7
   have oL:∀{i:Nat},i<(opC n s).length->(opC n s).getD i 0<n:=fun h=>zbr (zec h)
   generalize hsh:(D.tup (wL n fun p=> .tup (wL t fun a=>shD b w v s p a)))=sh
   clear hsh
   simp! only[↓zli,zj0]
   refine⟨by omega,(often_ok p3 l7 _).mono ?_⟩
   rintro _ ⟨of,d4,y,p4,hof,rfl⟩
   simp! only[M.fzL,M.fz1]
   refine(zkn (Sq.lst n r) n7 l7 fun i hi p hp=>mulW (hof i hi) (B.2.1 _ p (oL hi) hp) (by omega) (by omega)).mono ?_
   rintro _ rfl
   simp! only[]
   refine(zfh (Sq.lst n (mdR n v s r of)) n7 t7 hr).mono ?_
   rintro _ rfl
   rw[show wI t (ssum c z (mdR n v s r of))=wI t (ssum c z r)from zbt fun a ha=>by rw[znX F hr r of ha]]
   have vb:∀p,p<n->(mdR n v s r of p-r p).natAbs<=2^(200+e+3):=fun p hp=>by
    rw[show mdR n v s r of p-r p=sumR (opC n s).length fun i=>of i*v ((opC n s).getD i 0) p by show r p+_-r p=_;omega]
    exact zg6 l7 fun i hi=>by
     have:=zaw (hof i hi) (B.2.1 _ p (oL hi) hp)
     rw[<-Nat.pow_add]at this
     exact this
   simp! only[(pl_tt t (ssum c z r)).ne (by decide:1<=50)]
   refine(zkR (sh:=sh) (v:=v) (Sq.lst n (mdR n v s r of)) (Sq.lst n r) n7 l7 fun i hi p hp=>mulW (B.2.2 _ p (oL hi) hp) (vb p hp) (by omega) (by omega)).mono ?_
   rintro _ rfl
   rw[show(wI (opC n s).length fun i=>dotR n (k ((opC n s).getD i 0)) fun p=>mdR n v s r of p-r p)=wI (opC n s).length of from zbt fun i hi=>by dsimp only;rw[zm4 F r of hi]]
   simp! only[(zoU (opC n s).length of).ne (by decide:1<=50),↓zlr]
   have bsS:∀i,i<t->BS (ssum c z r i):=fun i hi=>by
    have:=sumR_bd (f:=fun j=>r (z i j)) (Nat.le_trans (hr i hi).cn n7) fun j hj=>hb _ ((hr i hi).lt j hj)
    unfold BS
    show-(2^230)<(sumR (c i) fun j=>r (z i j))/\(sumR (c i) fun j=>r (z i j))<2^230
    omega
   refine(zoz n1 n7 t1 t7 hr bsS).mono ?_
   rintro _ ⟨d,ho,rfl⟩
   obtain⟨R,rfl,hR,e',he',Rb⟩:=out_row ho fun a ha=>zfI hr r ha
   simp! only[]
   have rb:∀p,p<n->(R p-r p).natAbs<=2^(e'+221):=fun p hp=>by
    have h1:=Rb p hp
    have h2:=bd_le (hb p hp)
    have h3:=zmY e' 220 (e'+220) (by omega) (by omega)
    exact Nat.le_trans (show(R p-r p).natAbs<=(R p).natAbs+(r p).natAbs by omega) (Nat.le_trans (Nat.add_le_add h1 h2) h3)
   refine(zkR (sh:=sh) (v:=v) (Sq.tup n R) (Sq.lst n r) n7 l7 fun i hi p hp=>mulW (B.2.2 _ p (oL hi) hp) (rb p hp) (by omega) (by omega)).mono ?_
   rintro _ rfl
   simp! only[]
   have ob:∀i,i<(opC n s).length->(dotR n (k ((opC n s).getD i 0)) fun p=>R p-r p).natAbs<=2^(e+(e'+221)+3):=fun i hi=>zg6 n7 fun p hp=>by
    have:=zaw (B.2.2 _ p (oL hi) hp) (rb p hp)
    rw[<-Nat.pow_add]at this
    exact this
   refine(zkn (Sq.lst n r) n7 l7 fun i hi p hp=>mulW (ob i hi) (B.2.1 _ p (oL hi) hp) (by omega) (by omega)).mono ?_
   rintro _ rfl
   have full:(wI n fun p=>r p+sumR (opC n s).length fun i=>(dotR n (k ((opC n s).getD i 0)) fun p=>R p-r p)*v ((opC n s).getD i 0) p)=wI n R:=zbt fun p hp=>by
    dsimp only
    rw[F.full (x:=fun p=>R p-r p) (fun a ha=>by
     unfold dotR
     rw[show(sumR n fun j=>incA c z a j*(R j-r j))=sumR n fun j=>incA c z a j*R j-incA c z a j*r j from zae fun j _=>Int.mul_sub _ _ _,zd6,hR a ha,zfI hr r ha,Int.sub_self]) hp,show r p+(R p-r p)=R p by omega]
   rw[full]
   simp! only[(zoU n R).ne (by decide:1<=50),↓zk5,↓zk6,zep]
   refine⟨by omega,zaC (fun ρ=>∃y,ρ=[.val (.int (n:Nat)),y]) (fun a=> .lst (wI n (incA c z a))) ⟨_,rfl⟩ ?_ ?_⟩
   ·rintro a _ ha ⟨y,rfl⟩
    simp! only[↓zlJ,↓zlF]
    refine⟨zav (by omega) (by omega),by omega,zaC (fun ρ=>∃y,ρ=[.val (.tup (setL (c a) (z a))),y]) (fun p=> .int (incA c z a p)) ⟨_,rfl⟩ ?_ ?_⟩
    ·rintro p _ hp ⟨y,rfl⟩
     simp! only[↓zkU,in_set]
     exact⟨rfl,_,rfl⟩
    rintro _ ⟨y,rfl⟩
    simp! only[]
    exact⟨_,rfl⟩
   rintro _ ⟨y,rfl⟩
   simp! only[]
   refine(rank_ok t7 n7 (incA c z) fun i j=>by unfold incA;split<;>decide).mono ?_
   rintro _ ⟨rk,X,P,E,rfl⟩
   have er:=F.rank E
   simp! only[bsD,zj0,zay,show((n:Int)-(rk:Int))=(((opC n s).length:Nat):Int) by omega,↓zl1]
   have sm:=small_ok F n1 n7 t7 hr sh
   simp only[bsD,zj0,zep]at sm
   refine sm.mono ?_
   rintro _ rfl
   simp! only[]
   exact⟨_,_,_,_,_,_,_,_,_,_,_,rfl⟩
  ·rintro _ ⟨s1,s2,s3,s4,s5,s6,s7,s8,s9,s10,s11,rfl⟩
   simp! only[]
 obtain⟨_,e,rfl⟩:=this
 exact e
end Prf
def PySem.W.Fast.tw2924892602628247241:Nat:=0
def PySem.W.Fast.tw15751115254695056694:Nat:=0
def PySem.W.Fast.tw7659915387425496116:Nat:=0
def PySem.W.Fast.tw12674429106379370254:Nat:=0
def PySem.W.Fast.tw2973055155018574783:Nat:=0
def PySem.W.Fast.tw9073333927661413168:Nat:=0
def PySem.W.Fast.tw4981323399276626652:Nat:=0
def PySem.W.Fast.tw15472864051295687135:Nat:=0
def PySem.W.Fast.tw5124826034790112673:Nat:=0
def PySem.W.Fast.tw5059469774462946114:Nat:=0
def PySem.W.Fast.tw10312978094234251365:Nat:=0
def PySem.W.Fast.tw4243119292449503625:Nat:=0
def PySem.W.Fast.tw11642107857366891855:Nat:=0
def PySem.W.Fast.tw6121587578775346134:Nat:=0
def PySem.W.Fast.tw7205784349504488475:Nat:=0
def PySem.W.Fast.tw17214862237516100512:Nat:=0
def PySem.W.Fast.tw12663878738197409621:Nat:=0
def PySem.W.Fast.tw16874193151316560663:Nat:=0
def PySem.W.Fast.tw12271607904094571625:Nat:=0
def PySem.W.Fast.tw14007041406660079486:Nat:=0
def PySem.W.Fast.tw8654043425197102990:Nat:=0
def PySem.W.Fast.tw9759032599441893305:Nat:=0
def PySem.W.Fast.tw13635699557130144491:Nat:=0
def PySem.W.Fast.tw9768888613525570093:Nat:=0
def PySem.W.Fast.tw6579874145683882592:Nat:=0
def PySem.W.Fast.tw13644975167739572860:Nat:=0
def PySem.W.Fast.tw1901480875721691846:Nat:=0
def PySem.W.Fast.tw11326625727397223493:Nat:=0
def PySem.W.Fast.tw16919623164447987259:Nat:=0
def PySem.W.Fast.tw4054583880493771411:Nat:=0
def PySem.W.Fast.tw16005648298602859405:Nat:=0
def PySem.W.Fast.tw8432933446295871031:Nat:=0
def PySem.W.Fast.tw11782837017866535086:Nat:=0
def PySem.W.Fast.tw1511725944919809127:Nat:=0
def PySem.W.Fast.tw8851274604175483728:Nat:=0
def PySem.W.Fast.tw1222277864713076620:Nat:=0
def PySem.W.Fast.tw2111598341129626174:Nat:=0
def PySem.W.Fast.tw5171317923317912587:Nat:=0
def PySem.W.Fast.tw12202104069042297588:Nat:=0
def PySem.W.Fast.tw16744784526710377775:Nat:=0
def PySem.W.Fast.tw7893020827527664200:Nat:=0
def PySem.W.Fast.tw917191324031236017:Nat:=0
def PySem.W.Fast.tw11114996054358756064:Nat:=0
def PySem.W.Fast.tw11183611845182326124:Nat:=0
def PySem.W.Fast.tw13391012097942066728:Nat:=0
def PySem.W.Fast.tw8173864173595025270:Nat:=0
def PySem.W.Fast.tw4481256565612200471:Nat:=0
def PySem.W.Fast.tw14082556761093128619:Nat:=0
def PySem.W.Fast.tw16628128359832297949:Nat:=0
def PySem.W.Fast.tw10835644344717921150:Nat:=0
def PySem.W.Fast.tw8900879049872565585:Nat:=0
def PySem.W.Fast.tw7909643945282790623:Nat:=0
def PySem.W.Fast.tw13559516510841415996:Nat:=0
def PySem.W.Fast.tw9493098901822178119:Nat:=0
def PySem.W.Fast.tw16643096779284473358:Nat:=0
def PySem.W.Fast.tw16660054546541051750:Nat:=0
def PySem.W.Fast.tw3143557430619025376:Nat:=0
def PySem.W.Fast.tw3876800316521987092:Nat:=0
def PySem.W.Fast.tw10390934079149344711:Nat:=0
def PySem.W.Fast.tw7266577876952900810:Nat:=0
def PySem.W.Fast.tw4511470510629325129:Nat:=0
def PySem.W.Fast.tw2178237133846200171:Nat:=0
def PySem.W.Fast.tw14052690735876078417:Nat:=0
def PySem.W.Fast.tw3955756534172967546:Nat:=0
def PySem.W.Fast.tw5104681603205740295:Nat:=0
def PySem.W.Fast.tw4156072267721536750:Nat:=0
def PySem.W.Fast.tw2726874148098102341:Nat:=0
def PySem.W.Fast.tw483917295951849738:Nat:=0
def PySem.W.Fast.tw29114232321280399:Nat:=0
def PySem.W.Fast.tw4789760170503695541:Nat:=0
def PySem.W.Fast.tw18091977836512318830:Nat:=0
def PySem.W.Fast.tw3092258124816349683:Nat:=0
def PySem.W.Fast.tw3966893018496896860:Nat:=0
def PySem.W.Fast.tw1666236918926869084:Nat:=0
def PySem.W.Fast.tw960382183173105926:Nat:=0
def PySem.W.Fast.tw11851396705049293187:Nat:=0
def PySem.W.Fast.tw4719761879238426139:Nat:=0
def PySem.W.Fast.tw17359719815197067058:Nat:=0
def PySem.W.Fast.tw15843538956072967392:Nat:=0
def PySem.W.Fast.tw513046004405464276:Nat:=0
def PySem.W.Fast.tw4756165407407747634:Nat:=0
def PySem.W.Fast.tw7071312750533142112:Nat:=0
def PySem.W.Fast.tw636894022981921477:Nat:=0
def PySem.W.Fast.tw6468456069720614547:Nat:=0
def PySem.W.Fast.tw5076177021798596372:Nat:=0
def PySem.W.Fast.tw16355468136082494864:Nat:=0
def PySem.W.Fast.tw10367394497534428141:Nat:=0
def PySem.W.Fast.tw16122375553700211524:Nat:=0
def PySem.W.Fast.tw8653122892229738266:Nat:=0
def PySem.W.Fast.tw5890121580554718113:Nat:=0
def PySem.W.Fast.tw8566828338347178203:Nat:=0
def PySem.W.Fast.tw16247644283148514539:Nat:=0
def PySem.W.Fast.tw2069699617956944514:Nat:=0
def PySem.W.Fast.tw860095673726203153:Nat:=0
def PySem.W.Fast.tw3429077021051291781:Nat:=0
def PySem.W.Fast.tw16494638092277469613:Nat:=0
def PySem.W.Fast.tw4382830820103522853:Nat:=0
def PySem.W.Fast.tw10978635948886067350:Nat:=0
def PySem.W.Fast.tw9157632270605601980:Nat:=0
def PySem.W.Fast.tw2225974701455981770:Nat:=0
def PySem.W.Fast.tw14613718560424499275:Nat:=0
def PySem.W.Fast.tw6426842987041621913:Nat:=0
def PySem.W.Fast.tw13646943860122032566:Nat:=0
def PySem.W.Fast.tw795747560997495939:Nat:=0
def PySem.W.Fast.tw17934582368517487738:Nat:=0
def PySem.W.Fast.tw16748458351762842049:Nat:=0
def PySem.W.Fast.tw2221499070978660517:Nat:=0
def PySem.W.Fast.tw1220085038301052485:Nat:=0
def PySem.W.Fast.tw10380783810801036246:Nat:=0
def PySem.W.Fast.tw11304071287772202525:Nat:=0
def PySem.W.Fast.tw14958671851580820336:Nat:=0
def PySem.W.Fast.tw3970405756459787809:Nat:=0
def PySem.W.Fast.tw11944195590127430297:Nat:=0
def PySem.W.Fast.tw1339507930113238088:Nat:=0
def PySem.W.Fast.tw7801935240130655613:Nat:=0
def PySem.W.Fast.tw12747000045743203609:Nat:=0
def PySem.W.Fast.tw3380725537175975959:Nat:=0
def PySem.W.Fast.tw13776847317241149550:Nat:=0
def PySem.W.Fast.tw3811780789366536372:Nat:=0
def PySem.W.Fast.tw1265332838133432489:Nat:=0
def PySem.W.Fast.tw17056898075925168775:Nat:=0
def PySem.W.Fast.tw2097787368819650891:Nat:=0
def PySem.W.Fast.tw10990043004636217285:Nat:=0
def PySem.W.Fast.tw6987004813772175260:Nat:=0
def PySem.W.Fast.tw16943691993101915248:Nat:=0
def PySem.W.Fast.tw6310868409271997242:Nat:=0
def PySem.W.Fast.tw3284439887227543555:Nat:=0
def PySem.W.Fast.tw4514687731347515747:Nat:=0
def PySem.W.Fast.tw14711396218889579982:Nat:=0
def PySem.W.Fast.tw6265907668415231980:Nat:=0
def PySem.W.Fast.tw8243448921572693792:Nat:=0
def PySem.W.Fast.tw15847575026642248282:Nat:=0
def PySem.W.Fast.tw1241972462640538487:Nat:=0
def PySem.W.Fast.tw6428947366259984087:Nat:=0
def PySem.W.Fast.tw11598418440094725192:Nat:=0
def PySem.W.Fast.tw7075093769139016800:Nat:=0
def PySem.W.Fast.tw12126950877077733097:Nat:=0
def PySem.W.Fast.tw11828284873303123977:Nat:=0
open PyProof.Rows PySem PySem.W
set_option maxRecDepth 100000 in
set_option maxHeartbeats 0 in
theorem PySem.Challenge.cw_tellsum_k59_whole_all_rows_by_base_rows_holds : PySem.Challenge.rw_tellsum_k59_whole_all_rows_by_base_rows.Holds := by
  w_on; o_law; k_head; (case hw => w_witness2)
  k_fill
  refine Prf.walk (l := PySem.Challenge.rw_tellsum_k59_whole_all_rows_by_base_rows) rfl rfl Prf.math (fun w h Y => W.kIn_of Y) ?F
  case F =>
    intro w mg fa h KX G hmg
    refine' Prf.all_mk KX G hmg ?h1 ?h2 ?h3 ?h4 ?h5 ?h6 ?h7 ?h8 ?h9 ?h18 ?h19 ?h20 ?h21 ?h22 ?h23 ?h24 ?h25 ?h26 ?h27 ?h28 ?h29 ?h30 ?h31 ?h32 ?h33 ?h34 ?h35 ?h36 ?aC ?pg ?hd ?po ?sa ?mkC ?kc ?zkJ ?zhe ?zoB ?zkB ?ziP ?aopen_columns ?iopen_columns ?lopen_columns ?copen_columns ?kopen_columns ?aopen_rows ?iopen_rows ?lopen_rows ?copen_rows ?kopen_rows ?aleast_corner ?ileast_corner ?lleast_corner ?cleast_corner ?kleast_corner ?atake_row ?itake_row ?ltake_row ?ctake_row ?ktake_row ?atake_column ?itake_column ?ltake_column ?ctake_column ?ktake_column ?aclear_cross ?iclear_cross ?lclear_cross ?cclear_cross ?kclear_cross ?ainit ?iinit ?linit ?cinit ?kinit ?aslant_number ?islant_number ?lslant_number ?cslant_number ?kslant_number ?z0 ?z1 ?z2 ?z3 ?z4 ?z5 ?z6 ?z7 ?z8 ?z9 ?z10 ?z11
    (case h1 | h2 | h3 | h4 | h5 | h6 | h7 | h8 | h9 | h18 | h19 | h20 | h21 | h22 | h23 | h24 | h25 | h26 | h27 | h28 | h29 | h30 | h31 | h32 | h33 | h34 | h35 | h36 =>
      refine' M.FnAt.mk ?a ?l ?c ?k
      (case a => k_is)
      (case l => k_is)
      (case c => k_is)
      (case k => k_is))
    (case aC | pg | hd | po | sa | mkC | kc | zkJ | zhe | zoB | zkB | ziP | aopen_columns | iopen_columns | lopen_columns | copen_columns | kopen_columns | aopen_rows | iopen_rows | lopen_rows | copen_rows | kopen_rows | aleast_corner | ileast_corner | lleast_corner | cleast_corner | kleast_corner | atake_row | itake_row | ltake_row | ctake_row | ktake_row | atake_column | itake_column | ltake_column | ctake_column | ktake_column | aclear_cross | iclear_cross | lclear_cross | cclear_cross | kclear_cross | ainit | iinit | linit | cinit | kinit | aslant_number | islant_number | lslant_number | cslant_number | kslant_number | z0 | z1 | z2 | z3 | z4 | z5 | z6 | z7 | z8 | z9 | z10 | z11 => k_is)
end
