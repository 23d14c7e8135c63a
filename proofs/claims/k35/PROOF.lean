import PyProof.Rows.All
import Wide.All
import OpenK.AllK
import Wide.FinOn
import Lean
import PyProof.EqAt
import PyProof.EqKinds
import PyProof.TupleCall
import PyProof.Rows.Range3
import PyProof.ZipIter
import PyProof.Draws
import PyProof.EnumMake
import PyProof.Rows.FactsTup
import PyProof.LayNew
import PyProof.Rows.SeqMore2
import PyProof.Rows.RuleIs
import KE.KRevIter
import PyProof.P3In
import KE.KSortTup
import PyProof.Rows.SortWalk
import PySem.Challenge.RW_tellsum_k35_whole_rings_turned
set_option Elab.async false
set_option linter.all false
set_option bootstrap.genMatcherCode false
set_option compiler.extract_closed false
set_option maxRecDepth 100000
noncomputable section
namespace L2
open PyProof.Rows PySem PySem.Spec
variable {xs vs : List V} {us its : List Value} {x qual : Str} {u cd : Value} {H : Hp} {a b it : Addr} {o : Obj} {w : World} {h base : Heap} {g' : Array GenState} {t' i j k n : Nat} {d' : Drawn} {ch fp : List Addr} {e c tg : Expr} {pins' pins : List (Addr × Obj)} {N ps : List Str} {A : Around} {E : Value -> Shared -> Prop} {v : V} {Q : Unit -> Shared -> Prop} {X : Cx} {t : TSet} {s s' : Shared} {ta : TA} {tb : TS} {σ : St} {K : W.Frag} {f : Value -> Value -> Sem Value} {tc : TT} {es : List Expr} {te : TE} {g : Int -> Int -> Int} {pos' : Pos} {op op' : CmpOp} {body : List Stmt} {p : Addr × Obj} {r : V -> Hp -> VK -> Prop} {C : Int -> Int -> Prop} {fd : FuncData} {kindOf : Str -> Option NameKind} {sc scope : Scope} {CX : CXT} {mg : Str -> Option Value} {outer : List Env} {params : Arguments}
noncomputable abbrev Key := Sum Int Str
noncomputable def keyIs : Key -> Value -> Bool
 | .inl k, v => Value.isInt k v
 | .inr x, v => Value.isStrOf x v
noncomputable def keyH (w : World) : Key -> Int
 | .inl k => hashInt k
 | .inr x => hashStr w x
theorem zbi : ∀ {k : Key} {v : Value}, keyIs k v = true -> (∃ i t, k = Sum.inl i /\ v = Value.int i t) \/ (∃ x t, k = Sum.inr x /\ v = Value.str x t)
 | .inl i, v, h => by
  obtain ⟨t, e⟩ := Value.isInt_shape (k := i) (v := v) h
  exact .inl ⟨i, t, rfl, e⟩
 | .inr x, v, h => by
  obtain ⟨t, e⟩ := Value.isStrOf_shape (x := x) (v := v) h
  exact .inr ⟨x, t, rfl, e⟩
theorem key_ll (a b : Int) : decide ((Sum.inl a : Key) = Sum.inl b) = (a == b) := by
 by_cases e : a = b
 ·subst e; simp
 ·have h : ¬ (Sum.inl a : Key) = Sum.inl b := fun q => e (Sum.inl.inj q)
  rw [decide_eq_false h]
  exact (beq_eq_false_iff_ne.mpr e).symm
theorem key_rr (a b : Str) : decide ((Sum.inr a : Key) = Sum.inr b) = decide (a = b) := by
 by_cases e : a = b
 ·subst e; simp
 ·have h : ¬ (Sum.inr a : Key) = Sum.inr b := fun q => e (Sum.inr.inj q)
  rw [decide_eq_false h, decide_eq_false e]
theorem key_lr (a : Int) (b : Str) : decide ((Sum.inl a : Key) = Sum.inr b) = false := decide_eq_false (fun q => nomatch q)
theorem key_rl (a : Str) (b : Int) : decide ((Sum.inr a : Key) = Sum.inl b) = false := decide_eq_false (fun q => nomatch q)
noncomputable def zlF (prog : Program) (w : World) : PySem.KeyKind prog w Key where
 is := keyIs
 hash := keyH w
 inj := fun v a b ha hb => by
  rcases zbi ha with ⟨i, t, rfl, rfl⟩ | ⟨x, t, rfl, rfl⟩
  ·rcases zbi hb with ⟨j, u, rfl, e⟩ | ⟨y, u, rfl, e⟩
   ·injection e with e1 _; rw [e1]
   ·exact nomatch e
  ·rcases zbi hb with ⟨j, u, rfl, e⟩ | ⟨y, u, rfl, e⟩
   ·exact nomatch e
   ·injection e with e1 _; rw [e1]
 byValue := fun k v h => by
  rcases zbi h with ⟨i, t, rfl, rfl⟩ | ⟨x, t, rfl, rfl⟩ <;> rfl
 pyHash := fun hv h => by
  rcases zbi hv with ⟨i, t, rfl, rfl⟩ | ⟨x, t, rfl, rfl⟩
  ·exact wpAny_pyHash_int h
  ·exact wpAny_pyHash_str h
 eqBool := fun hu hv h => by
  rcases zbi hu with ⟨i, t, rfl, rfl⟩ | ⟨x, t, rfl, rfl⟩
  ·rcases zbi hv with ⟨j, u, rfl, rfl⟩ | ⟨y, u, rfl, rfl⟩
   ·rw [key_ll] at h; exact wpAny_eqBool_int h
   ·rw [key_lr] at h; exact SeqAt.EqAt.int_str i t y u _ _ _ _ h
  ·rcases zbi hv with ⟨j, u, rfl, rfl⟩ | ⟨y, u, rfl, rfl⟩
   ·rw [key_rl] at h; exact SeqAt.EqAt.str_int x t j u _ _ _ _ h
   ·rw [key_rr] at h; exact wpAny_eqBool_str h
 «strs» := fun k x t v h => by
  rcases zbi h with ⟨i, u, rfl, e⟩ | ⟨y, u, rfl, e⟩
  ·exact nomatch e
  ·injection e with e1 _
   subst e1
   cases v <;> rfl
inductive V where
 | non | bl (b : Bool) | int (i : Int) | str (x : Str) | byt (b : Array UInt8) | flt (b : UInt64) | ref (a : Addr) | ty (n : String)
 deriving DecidableEq
noncomputable def RelV : V -> Value -> Prop
 | .non, u => u = Value.none
 | .bl b, u => u = Value.bool b
 | .int i, u => ∃ t, u = Value.int i t
 | .str x, u => ∃ t, u = Value.str x t
 | .byt b, u => ∃ t, u = Value.bytes b t
 | .flt b, u => ∃ t, u = Value.float b t
 | .ref a, u => u = Value.ref a
 | .ty n, u => u = Value.type n
noncomputable abbrev Vals : List V -> List Value -> Prop := Paired RelV
theorem Vals.length (r : Vals xs us) : xs.length = us.length := Paired.length r
theorem Vals.get : ∀ {xs : List V} {us : List Value} {i : Nat} {x : V}, Vals xs us -> xs[i]? = some x -> ∃ u, us[i]? = some u /\ RelV x u
 | _, _, _, _, .nil, e => by simp at e
 | _, _, 0, _, .cons r _, e => by simp at e; subst e; exact ⟨_, rfl, r⟩
 | _, _, i + 1, x, .cons _ t, e => by
  obtain ⟨u, h1, h2⟩ := Vals.get (i := i) (x := x) t (by simpa using e)
  exact ⟨u, by simpa using h1, h2⟩
theorem Vals.set {x : V} (r : RelV x u) : ∀ {xs : List V} {us : List Value} (i : Nat), Vals xs us -> Vals (xs.set i x) (us.set i u)
 | _, _, _, .nil => .nil
 | _, _, 0, .cons _ t => .cons r t
 | _, _, i + 1, .cons q t => .cons q (Vals.set r i t)
theorem Vals.append : ∀ {xs ys : List V} {us ws : List Value}, Vals xs us -> Vals ys ws -> Vals (xs ++ ys) (us ++ ws)
 | _, _, _, _, .nil, s => s
 | _, _, _, _, .cons r t, s => .cons r (Vals.append t s)
theorem Vals.take : ∀ {xs : List V} {us : List Value} (n : Nat), Vals xs us -> Vals (xs.take n) (us.take n)
 | _, _, 0, _ => .nil
 | _, _, _ + 1, .nil => .nil
 | _, _, n + 1, .cons r t => .cons r (Vals.take n t)
theorem Vals.drop : ∀ {xs : List V} {us : List Value} (n : Nat), Vals xs us -> Vals (xs.drop n) (us.drop n)
 | _, _, 0, r => r
 | _, _, _ + 1, .nil => .nil
 | _, _, n + 1, .cons _ t => Vals.drop n t
noncomputable def RelO : Option V -> Option Value -> Prop
 | some v, some u => RelV v u
 | none, none => True
 | _, _ => False
noncomputable def KV {κ : Type} : List (κ × V) -> List (κ × Value) -> Prop := Paired fun (p : κ × V) (q : κ × Value) => p.1 = q.1 /\ RelV p.2 q.2
noncomputable def kV : Key -> V
 | .inl i => .int i
 | .inr x => .str x
inductive HO where
 /-- a list -/
 | lst (xs : List V)
 /-- a tuple (never changes) -/
 | tup (xs : List V)
 /-- a dict whose keys are ints and texts; one whose keys are tuples of ints and texts (the empty one is both) -/
 | dK (kvs : List (Key × V)) | dT (kvs : List (List Key × V))
 /-- a set of ints: its members, its size -/
 | set (S : Int -> Bool) (n : Nat)
 /-- an instance of the class at C, its dict at dx, its attributes -/
 | ins (C dx : Addr) (fs : List (Str × V))
 /-- the dict of the instance at x -/
 | own (x : Addr)
 /-- the dict of an exception -/
 | xd (fs : List (Str × V))
 /-- a bound method, f of x -/
 | met (f x : Addr)
 /-- a range object lo, lo + 1, .. zbW hi -/
 | rng (lo hi : Int)
 /-- a thing that is known to the object (the script; a dict while a loop walks it): read, never written while it is so -/
 | frz (o : Obj) (u : HO)
 /-- a code object's table -/
 | tbl (ps : Array Value)
 /-- any other thing, by what is true of its one object (a def of one's own: SetO a S n := HO.ext fun h => ..) -/
 | ext (φ : Heap -> Prop)
noncomputable abbrev Hp := Addr -> Option HO
noncomputable def upd (H : Hp) (a : Addr) (o : HO) : Hp := fun b => if b = a then some o else H b
theorem zaV {o : HO} : upd H a o a = some o := by unfold upd; rw [if_pos rfl]
theorem zaC {o : HO} (h : b ≠ a) : upd H a o b = H b := by unfold upd; rw [if_neg h]
theorem zaK {o : HO} (h : H a = some o) (h' : H b = none) : a ≠ b := by
 intro e; subst e; rw [h] at h'; cases h'
section
variable (P : Program) (w : World)
noncomputable def ObjOk (H : Hp) (h : Heap) (a : Addr) : HO -> Prop
 | .lst xs => xs.length <= sizeLine /\ ∃ (its : List Value) (n : Nat), Vals xs its /\ h.get? a = some { cls := .type "list", data := .seq its.toArray n }
 | .tup xs => xs.length <= sizeLine /\ ∃ its : List Value, Vals xs its /\ IsTup h a its.toArray
 | .dK kvs => kvs.length <= sizeLine /\ (a == sysModules) = false /\ ∃ vs, KV kvs vs /\ h.DictOf (zlF P w) a vs
 | .dT kvs => kvs.length <= sizeLine /\ (a == sysModules) = false /\ ∃ xs : List (List Key × Addr × Value),
   Paired (fun (p : List Key × V) (q : List Key × Addr × Value) => p.1 = q.1 /\ H q.2.1 = some (.tup (p.1.map kV)) /\ RelV p.2 q.2.2) kvs xs /\
   ∃ o es ep, h.get? a = some o /\ o.ExactDict /\ o.data = .dict es ep /\ es.toList = xs.map (entryOfKey (tupleKind (zlF P w))) /\ (xs.map (·.1)).Nodup
 | .set S n => h.SetOf (intKind P w) a S n
 | .ins C dx fs => H dx = some (.own a) /\ fs.length <= 1000 /\ dx ≠ a /\ h.get? a = some (W.instObj C dx) /\
   ∃ mA, h.Ns1 dx mA /\ (∀ f, RelO (fs.lookup f) (mA f)) /\ PySem.Within mA (fs.map (·.1))
 | .own _ => ∃ o, h.get? a = some o
 | .xd fs => ∃ mA, h.Ns1 a mA /\ ∀ f, RelO (fs.lookup f) (mA f)
 | .rng lo hi => ∃ t u v, h.get? a = some { cls := .type "range", data := .fields #[.int lo t, .int hi u, .int 1 v] }
 | .frz o u => h.get? a = some o /\ ObjOk H h a u
 | .tbl ps => h.get? a = some { cls := .none, data := .fields ps }
 | .met f x => h.get? a = some (W.methodObj (.ref f) (.ref x))
 | .ext φ => φ h /\ (∃ o, h.get? a = some o) /\ ∀ h1 h2 : Heap, φ h1 -> (∀ o, h1.get? a = some o -> h2.get? a = some o) -> φ h2
noncomputable def HOk (H : Hp) (h : Heap) : Prop := ∀ a o, H a = some o -> ObjOk P w H h a o
end
section
variable {P : Program} {w : World} {H H' : Hp} {h h' : Heap} {a : Addr} {o : HO}
theorem ObjOk.lt (x : ObjOk P w H h a o) : a < h.objs.size := by
 cases o with
 | lst xs => obtain ⟨_, _, _, _, e⟩ := x; exact Heap.lt_size e
 | tup xs => obtain ⟨_, _, _, p⟩ := x; exact p.lt
 | dK kvs => obtain ⟨_, _, _, _, o, _, _, e, _⟩ := x; exact Heap.lt_size e
 | dT kvs => obtain ⟨_, _, _, _, o, _, _, e, _⟩ := x; exact Heap.lt_size e
 | set S n => obtain ⟨o, _, _, _, e, _⟩ := x; exact Heap.lt_size e
 | ins C dx fs => obtain ⟨_, _, _, e, _⟩ := x; exact Heap.lt_size e
 | own y => obtain ⟨_, e⟩ := x; exact Heap.lt_size e
 | xd fs => obtain ⟨_, ⟨_, _, _, e, _⟩, _⟩ := x; exact Heap.lt_size e
 | rng lo hi => obtain ⟨_, _, _, e⟩ := x; exact Heap.lt_size e
 | frz ob u => obtain ⟨e, _⟩ := x; exact Heap.lt_size e
 | tbl ps => exact Heap.lt_size (show h.get? a = some _ from x)
 | met f y => exact Heap.lt_size (show h.get? a = some _ from x)
 | ext φ => obtain ⟨_, ⟨_, e⟩, _⟩ := x; exact Heap.lt_size e
theorem Paired.mapP {α β : Type} {F G : α -> β -> Prop} : ∀ {l₁ : List α} {l₂ : List β}, Paired F l₁ l₂ -> (∀ a b, F a b -> G a b) -> Paired G l₁ l₂
 | _, _, .nil, _ => .nil
 | _, _, .cons r t, f => .cons (f _ _ r) (Paired.mapP t f)
theorem ObjOk.stay (x : ObjOk P w H h a o) (k : ∀ b u, (b = a \/ H b = some (.own a)) -> h.get? b = some u -> h'.get? b = some u)
  (ho : ∀ b, H b = some (.own a) -> H' b = some (.own a)) (ht : ∀ b xs, H b = some (.tup xs) -> H' b = some (.tup xs)) : ObjOk P w H' h' a o := by
 induction o with
 | lst xs => obtain ⟨z, its, n, r, e⟩ := x; exact ⟨z, its, n, r, k _ _ (.inl rfl) e⟩
 | tup xs => obtain ⟨z, its, r, ob, e, c⟩ := x; exact ⟨z, its, r, ob, k _ _ (.inl rfl) e, c⟩
 | dK kvs => obtain ⟨z, y, vs, r, ob, es, ep, e, c⟩ := x; exact ⟨z, y, vs, r, ob, es, ep, k _ _ (.inl rfl) e, c⟩
 | dT kvs =>
  obtain ⟨z, y, xs, r, ob, es, ep, e, c⟩ := x
  exact ⟨z, y, xs, Paired.mapP r fun p q z => ⟨z.1, ht _ _ z.2.1, z.2.2⟩, ob, es, ep, k _ _ (.inl rfl) e, c⟩
 | set S n => obtain ⟨ob, es, ep, t, e, c⟩ := x; exact ⟨ob, es, ep, t, k _ _ (.inl rfl) e, c⟩
 | ins C dx fs =>
  obtain ⟨d, z, ne, e, mA, ⟨od, es, ep, e2, c⟩, r⟩ := x
  exact ⟨ho _ d, z, ne, k _ _ (.inl rfl) e, mA, ⟨od, es, ep, k _ _ (.inr d) e2, c⟩, r⟩
 | own y => obtain ⟨ob, e⟩ := x; exact ⟨ob, k _ _ (.inl rfl) e⟩
 | xd fs => obtain ⟨mA, ⟨od, es, ep, e, c⟩, r⟩ := x; exact ⟨mA, ⟨od, es, ep, k _ _ (.inl rfl) e, c⟩, r⟩
 | rng lo hi => obtain ⟨t, u, v, e⟩ := x; exact ⟨t, u, v, k _ _ (.inl rfl) e⟩
 | frz ob u ih => obtain ⟨e, q⟩ := x; exact ⟨k _ _ (.inl rfl) e, ih q⟩
 | tbl ps =>
  have e : h.get? a = some { cls := .none, data := .fields ps } := x
  show h'.get? a = some { cls := .none, data := .fields ps }
  exact k a _ (.inl rfl) e
 | met f y =>
  have e : h.get? a = some (W.methodObj (.ref f) (.ref y)) := x
  show h'.get? a = some (W.methodObj (.ref f) (.ref y))
  exact k a _ (.inl rfl) e
 | ext φ => obtain ⟨p, ⟨o, e⟩, st⟩ := x; exact ⟨st _ _ p fun o q => k _ _ (.inl rfl) q, ⟨o, k _ _ (.inl rfl) e⟩, st⟩
theorem HOk.lt (x : HOk P w H h) (e : H a = some o) : a < h.objs.size := (x a o e).lt
theorem HOk.fresh (x : HOk P w H h) (e : h.objs.size <= a) : H a = none := by
 cases q : H a with
 | none => rfl
 | some u => exact absurd (Nat.lt_of_lt_of_le (x.lt q) e) (Nat.lt_irrefl _)
theorem HOk.kept (x : HOk P w H h) (k : ∀ b u, h.get? b = some u -> h'.get? b = some u) : HOk P w H h' := fun a o e =>
 (x a o e).stay (fun b u _ q => k b u q) (fun _ q => q) fun _ _ q => q
theorem HOk.laid (x : HOk P w H h) (k : ∀ b u, h.get? b = some u -> h'.get? b = some u) (hp : h.objs.size <= a) (new : ObjOk P w (upd H a o) h' a o) : HOk P w (upd H a o) h' := fun b u e => by
 have hn := x.fresh hp
 by_cases hb : b = a
 ·subst hb; rw [zaV] at e; cases e; exact new
 ·rw [zaC hb] at e
  exact (x b u e).stay (fun c v _ q => k c v q) (fun c q => by rw [zaC (zaK q hn)]; exact q) fun c xs q => by rw [zaC (zaK q hn)]; exact q
end
noncomputable def Rd (H : Hp) (a : Addr) (u : HO) : Prop := H a = some u \/ ∃ o, H a = some (.frz o u)
theorem Rd.ok {P : Program} {u : HO} (r : Rd H a u) (x : HOk P w H h) : ObjOk P w H h a u := by
 rcases r with r | ⟨o, r⟩
 ·exact x a u r
 ·obtain ⟨_, q⟩ := x a _ r
  exact q
noncomputable def Mut : Option HO -> Prop
 | some (.lst _) => True
 | some (.dK _) => True
 | some (.dT _) => True
 | some (.set _ _) => True
 | some (.ins _ _ _) => True
 | some (.ext _) => True
 | _ => False
section
variable {P : Program} {w : World} {H : Hp} {h h' : Heap} {x e : Addr} {o' : HO}
theorem HOk.write (ok : HOk P w H h) (mu : Mut (H x)) (he : e = x \/ H e = some (.own x)) (k : ∀ b u, b ≠ e -> h.get? b = some u -> h'.get? b = some u) (heo : ∃ u, h'.get? e = some u)
  (new : ObjOk P w (upd H x o') h' x o') : HOk P w (upd H x o') h' := fun b u q => by
 have nown : ∀ c y, H c = some (.own y) -> c ≠ x := fun c y r z => by subst z; rw [r] at mu; exact mu
 have ntup : ∀ c xs, H c = some (.tup xs) -> c ≠ x := fun c xs r z => by subst z; rw [r] at mu; exact mu
 by_cases hb : b = x
 ·subst hb; rw [zaV] at q; cases q; exact new
 ·rw [zaC hb] at q
  by_cases hbe : b = e
  ·have q' : H b = some (.own x) := by
    rcases he with z | z
    ·exact absurd (hbe.trans z) hb
    ·rw [hbe]; exact z
   rw [q] at q'; cases q'
   obtain ⟨v, hv⟩ := heo
   exact ⟨v, by rw [hbe]; exact hv⟩
  ·refine (ok b u q).stay (fun c v hc r => k c v ?_ r) (fun c r => by rw [zaC (nown c b r)]; exact r) fun c xs r => by rw [zaC (ntup c xs r)]; exact r
   rcases hc with rfl | hc
   ·exact hbe
   ·rintro rfl
    rcases he with z | z
    ·exact nown c b hc z
    ·rw [hc] at z; cases z; exact hb rfl
end
structure Un (fs ex : List Addr) (H H' : Hp) (h h' : Heap) : Prop where
 keep : ∀ b o, h.get? b = some o -> H b = none -> b ∉ fs -> b ∉ ex -> h'.get? b = some o
 slot : ∀ b o, h.get? b = some o -> H b = none -> b ∈ fs -> b ∉ ex -> ∃ sl, h'.get? b = some { o with slots := sl }
 free : ∀ b o, h.get? b = some o -> H b = none -> b ∉ ex -> H' b = none
 there : ∀ b o, h.get? b = some o -> b ∉ ex -> ∃ o', h'.get? b = some o'
 tups : ∀ b xs, H b = some (.tup xs) -> H' b = some (.tup xs)
 frzs : ∀ b o u, H b = some (.frz o u) -> H' b = some (.frz o u)
 tbls : ∀ b ps, H b = some (.tbl ps) -> ∃ more, H' b = some (.tbl (ps ++ more))
section
variable {fs fs' ex ex' : List Addr} {H H1 H2 : Hp} {h h1 h2 h' : Heap} {a x e : Addr} {o : HO}
theorem Un.any (u : Un fs ex H H1 h h1) {ob : Obj} (q : h.get? b = some ob) (n : H b = none) (hx : b ∉ ex) : ∃ sl, h1.get? b = some { ob with slots := sl } := by
 by_cases hb : b ∈ fs
 ·exact u.slot b ob q n hb hx
 ·exact ⟨ob.slots, u.keep b ob q n hb hx⟩
theorem Un.kept (k : ∀ b u, h.get? b = some u -> h'.get? b = some u) : Un fs ex H H h h' :=
 ⟨fun b ob q _ _ _ => k b ob q, fun b ob q _ _ _ => ⟨ob.slots, k b ob q⟩, fun _ _ _ n _ => n, fun b ob q _ => ⟨ob, k b ob q⟩, fun _ _ q => q, fun _ _ _ q => q, fun _ ps q => ⟨#[], by rw [q]; simp⟩⟩
theorem Un.refl : Un fs ex H H h h := Un.kept fun _ _ q => q
theorem Un.laid (k : ∀ b u, h.get? b = some u -> h'.get? b = some u) (hp : h.objs.size <= a) (hn : H a = none) : Un fs ex H (upd H a o) h h' where
 keep := fun b u q _ _ _ => k b u q
 slot := fun b u q _ _ _ => ⟨u.slots, k b u q⟩
 free := fun b u q n _ => by rw [zaC (Nat.ne_of_lt (Nat.lt_of_lt_of_le (Heap.lt_size q) hp))]; exact n
 there := fun b u q _ => ⟨u, k b u q⟩
 tups := fun b xs q => by rw [zaC (zaK q hn)]; exact q
 frzs := fun b u xs q => by rw [zaC (zaK q hn)]; exact q
 tbls := fun b ps q => ⟨#[], by rw [zaC (zaK q hn), q]; simp⟩
theorem Un.write (mu : Mut (H x)) (he : e = x \/ H e = some (.own x)) (k : ∀ b u, b ≠ e -> h.get? b = some u -> h'.get? b = some u) (heo : ∃ u, h'.get? e = some u) : Un fs ex H (upd H x o) h h' := by
 have hx : ∀ b, H b = none -> b ≠ x := fun b n z => by subst z; rw [n] at mu; exact mu
 have hb : ∀ b, H b = none -> b ≠ e := fun b n z => by
  subst z
  rcases he with r | r
  ·exact hx b n r
  ·rw [n] at r; cases r
 have hm : ∀ b u, H b = some u -> ¬ Mut (some u) -> b ≠ x := fun b u q nm z => by subst z; rw [q] at mu; exact nm mu
 refine ⟨fun b u q n _ _ => k b u (hb b n) q, fun b u q n _ _ => ⟨u.slots, k b u (hb b n) q⟩, fun b u q n _ => by rw [zaC (hx b n)]; exact n, fun b u q _ => ?_,
  fun b xs q => by rw [zaC (hm b _ q fun z => z)]; exact q, fun b u xs q => by rw [zaC (hm b _ q fun z => z)]; exact q, fun b ps q => ⟨#[], by rw [zaC (hm b _ q fun z => z), q]; simp⟩⟩
 by_cases hbe : b = e
 ·subst hbe; exact heo
 ·exact ⟨u, k b u hbe q⟩
end
noncomputable def trk (h : Heap) (H : Hp) : List Addr := (List.range h.objs.size).filter fun a => (H a).isSome
noncomputable def hidT (h : Heap) (H : Hp) : Heap := W.hideAll h (trk h H)
theorem zow (h : Heap) (H : Hp) : (hidT h H).objs.size = h.objs.size := W.hideAll_size _ _
theorem hidT_get (e : h.get? b = some o) (n : H b = none) : (hidT h H).get? b = some o :=
 W.hideAll_get _ e fun hm => by
  have q : (H b).isSome = true := (List.mem_filter.mp hm).2
  rw [n] at q; simp at q
theorem of_hidT (e : (hidT h H).get? b = some o) : h.get? b = some o /\ H b = none := by
 have e' : h.get? b = some o := W.of_hideAll (trk h H) e
 refine ⟨e', ?_⟩
 cases q : H b with
 | none => rfl
 | some x =>
  have hm : b ∈ trk h H := List.mem_filter.mpr ⟨List.mem_range.mpr (Heap.lt_size e'), by simp [q]⟩
  have z : (hidT h H).get? b = none := W.hideAll_none (trk h H) hm
  rw [z] at e; cases e
noncomputable def allNews (g h : Heap) (L : Addr) : List (Addr × Obj) := (List.range h.objs.size).filterMap fun a => if a = L \/ (g.get? a).isSome = true then none else (h.get? a).map fun o => (a, o)
noncomputable def rest (g h : Heap) (L d : Addr) : List (Addr × Obj) := (allNews g h L).filter fun p => decide (p.1 ≠ d)
structure Mod (K : W.Frag) (mg : Str -> Option Value) (base : Heap) : Prop where
 kin : K.In base
 glob : base.Ns mainGlobals mg
 blt : ∃ mb, base.Ns builtinsNs mb /\ ∀ x : Str, x ≠ "__name__" -> mb x = bootBuiltins x
 nolimit : base.NoLimit
structure Cx where
 prog : Program
 w : World
 K : W.Frag
 mg : Str -> Option Value
 base : Heap
 A : Around
 N : List Str
 s₀ : Shared
 H₀ : Hp
 env : Env
 outer : List Env
 stack : List Env
 ex : List Addr
 fn : Str -> Bool
 calm : Bool
 pn : List (Addr × Obj)
 xe : Value -> Shared -> Prop
noncomputable def frs (l : List Env) : List Addr := l.filterMap (·.frame)
noncomputable abbrev Cx.fs (X : Cx) : List Addr := frs X.outer
noncomputable def Vis (sc : Scope) (x : Str) : Prop := sc.names.lookup x = some .local \/ sc.names.lookup x = some .cell \/ sc.names.lookup x = some .free
noncomputable def Loc (sc : Scope) (x : Str) : Prop := sc.names.lookup x = some .local \/ sc.names.lookup x = some .cell
noncomputable def Look (env : Env) (h : Heap) (m : Str -> Option Value) (x : Str) (u : Value) : Prop :=
 (env.kindOf x = some .local /\ m x = some u) \/ ((env.kindOf x = some .cell \/ env.kindOf x = some .free) /\ ∃ c, env.cells.lookup x = some c /\ h.IsCell c (some u))
structure Cx.Ok (X : Cx) : Prop where
 mod : Mod X.K X.mg X.base
 kind : X.env.scope.kind = .function
 glob : X.env.globals = mainGlobals
 blt : X.env.builtins = builtinsNs
 above : X.s₀.heap.objs.size <= X.env.locals
 inj : ∀ x y c, X.env.cells.lookup x = some c -> X.env.cells.lookup y = some c -> x = y
 has : ∀ x, (X.env.kindOf x = some .cell \/ X.env.kindOf x = some .free) -> ∃ c, X.env.cells.lookup x = some c
 cab : ∀ x c, X.fn x = true -> X.env.cells.lookup x = some c -> X.s₀.heap.objs.size <= c
 hd : X.calm = true -> X.A.handled = none
 frames : X.A.frames = some X.stack
 stk : X.stack = X.outer \/ (X.stack = X.env :: X.outer /\ X.env.frame = some X.env.locals)
 exf : ∀ b ∈ X.ex, b ≠ X.env.locals /\ ∀ x c, X.env.cells.lookup x = some c -> c ≠ b
 bs : ∀ b o, X.base.get? b = some o -> X.s₀.heap.get? b = some o /\ X.H₀ b = none
 bsz : X.base.objs.size <= X.s₀.heap.objs.size
 noex : ∀ b o, X.base.get? b = some o -> b ∉ X.ex
 exfs : ∀ b ∈ X.ex, b ∉ X.fs
 funs : X.s₀.heap.FunFrames X.base X.outer
 frf : ∀ b ∈ X.fs, X.H₀ b = none
structure Inv (X : Cx) (pins : List (Addr × Obj)) (σ : List (Option V)) (H : Hp) (s : Shared) : Prop where
 ok : X.Ok
 os : s.os = X.s₀.os
 bare : AllBare s.gens
 base : Un X.fs X.ex X.H₀ H X.s₀.heap s.heap
 loc : ∃ m, s.heap.Ns X.env.locals m /\ ∀ (i : Nat) (x : Str) (v : V), X.N[i]? = some x -> σ[i]? = some (some v) -> Vis X.env.scope x -> ∃ u, RelV v u /\ Look X.env s.heap m x u
 cell : ∀ x c, X.env.cells.lookup x = some c -> ∃ v, s.heap.IsCell c v
 free : H X.env.locals = none
 freeC : ∀ x c, X.env.cells.lookup x = some c -> H c = none
 pin : ∀ p ∈ X.pn ++ pins, s.heap.get? p.1 = some p.2 /\ H p.1 = none /\ p.1 ≠ X.env.locals /\ p.1 ∉ X.fs /\ ∀ v, p.2.data ≠ .cell v
 hok : HOk X.prog X.w H s.heap
 len : σ.length = X.N.length
section
variable {X : Cx} {pins : List (Addr × Obj)} {σ : List (Option V)} {H H' : Hp} {s : Shared} {h' : Heap}
theorem Cx.Ok.nofr (ok : X.Ok) (e : X.base.get? b = some o) : b ∉ X.fs := fun hb => by
 have := (ok.funs.mem hb).1
 rw [e] at this; cases this
theorem Inv.bs (I : Inv X pins σ H s) : ∀ b o, X.base.get? b = some o -> s.heap.get? b = some o /\ H b = none := fun b o e =>
 ⟨I.base.keep b o (I.ok.bs b o e).1 (I.ok.bs b o e).2 (I.ok.nofr e) (I.ok.noex b o e), I.base.free b o (I.ok.bs b o e).1 (I.ok.bs b o e).2 (I.ok.noex b o e)⟩
theorem Inv.bk (I : Inv X pins σ H s) : ∀ b o, X.base.get? b = some o -> s.heap.get? b = some o := fun b o e => (I.bs b o e).1
theorem Inv.mod (I : Inv X pins σ H s) : Mod X.K X.mg X.base := I.ok.mod
theorem Inv.kIn (I : Inv X pins σ H s) : X.K.In s.heap := I.ok.mod.kin.keeps I.bk
theorem Inv.lt (I : Inv X pins σ H s) : X.env.locals < s.heap.objs.size := let ⟨_, hn, _⟩ := I.loc; hn.lt
theorem Inv.sz (I : Inv X pins σ H s) : X.s₀.heap.objs.size <= s.heap.objs.size := Nat.le_trans I.ok.above (Nat.le_of_lt I.lt)
theorem Inv.nofs (I : Inv X pins σ H s) (h : s.heap.objs.size <= a) : a ∉ X.fs := fun hb => by
 obtain ⟨_, o, ho, _⟩ := I.ok.funs.mem hb
 exact absurd (Nat.lt_of_lt_of_le (Heap.lt_size ho) (Nat.le_trans I.sz h)) (Nat.lt_irrefl _)
theorem Inv.cne (I : Inv X pins σ H s) : ∀ x c, X.env.cells.lookup x = some c -> c ≠ X.env.locals := fun x c e z => by
 obtain ⟨v, o, ho, hd⟩ := I.cell x c e
 obtain ⟨m, ⟨o', es, ep, ho', hd', _⟩, _⟩ := I.loc
 rw [z, ho'] at ho; cases ho; rw [hd'] at hd; cases hd
theorem Inv.funs (I : Inv X pins σ H s) : s.heap.FunFrames X.base X.outer := by
 have all : ∀ (l : List Env), (∀ b ∈ frs l, b ∈ X.fs) -> X.s₀.heap.FunFrames X.base l -> s.heap.FunFrames X.base l := by
  intro l
  induction l with
  | nil => intro _ _; trivial
  | cons env r ih =>
   intro hs hl
   obtain ⟨hk, ⟨L, o, hf, hn, ho, hd⟩, hr⟩ := hl
   have hL : L ∈ X.fs := hs L (by unfold frs; rw [List.filterMap_cons, hf]; exact List.mem_cons_self)
   obtain ⟨sl, e⟩ := I.base.slot L o ho (I.ok.frf L hL) hL fun z => I.ok.exfs L z hL
   exact ⟨hk, ⟨L, _, hf, hn, e, hd⟩, ih (fun b hb => hs b (by unfold frs; rw [List.filterMap_cons, hf]; exact List.mem_cons_of_mem _ hb)) hr⟩
 exact all X.outer (fun _ hb => hb) I.ok.funs
theorem Inv.stack (I : Inv X pins σ H s) : s.heap.FunFrames X.base X.stack := by
 rcases I.ok.stk with e | ⟨e, hf⟩
 ·rw [e]; exact I.funs
 ·rw [e]
  obtain ⟨m, hn, _⟩ := I.loc
  refine .cons (by rw [I.ok.kind]; decide) hf hn ?_ I.funs
  exact Heap.get?_none_of_le (Nat.le_trans I.ok.bsz I.ok.above)
theorem Inv.stkSub (I : Inv X pins σ H s) : ∀ b ∈ frs X.stack, b ∈ X.env.locals :: X.fs := fun b hb => by
 rcases I.ok.stk with e | ⟨e, hf⟩
 ·rw [e] at hb; exact List.mem_cons_of_mem _ hb
 ·rw [e] at hb
  unfold frs at hb
  rw [List.filterMap_cons, hf] at hb
  exact hb
theorem Inv.stkFree (I : Inv X pins σ H s) : ∀ b ∈ frs X.stack, H b = none := fun b hb => by
 rcases List.mem_cons.mp (I.stkSub b hb) with e | hb
 ·rw [e]; exact I.free
 ·obtain ⟨_, o, ho, _⟩ := I.ok.funs.mem hb
  exact I.base.free b o ho (I.ok.frf b hb) fun z => I.ok.exfs b z hb
theorem Inv.step (I : Inv X pins σ H s)
  (hch : ∀ b ∈ ch, (b ∈ X.ex \/ X.s₀.heap.objs.size <= b) /\ b ≠ X.env.locals /\ (∀ x c, X.env.cells.lookup x = some c -> c ≠ b) /\ ∀ p ∈ X.pn ++ pins, p.1 ≠ b)
  (keep : ∀ b o, b ≠ X.env.locals -> b ∉ X.fs -> b ∉ ch -> s.heap.get? b = some o -> H b = none -> h'.get? b = some o)
  (slot : ∀ b o, b ≠ X.env.locals -> b ∈ X.fs -> b ∉ ch -> s.heap.get? b = some o -> H b = none -> ∃ sl, h'.get? b = some { o with slots := sl }) (free : ∀ b o, b ∉ ch -> s.heap.get? b = some o -> H b = none -> H' b = none)
  (there : ∀ b o, b ∉ ch -> s.heap.get? b = some o -> ∃ o', h'.get? b = some o')
  (tups : ∀ b xs, H b = some (.tup xs) -> H' b = some (.tup xs)) (frzs : ∀ b o u, H b = some (.frz o u) -> H' b = some (.frz o u)) (tbls : ∀ b ps, H b = some (.tbl ps) -> ∃ more, H' b = some (.tbl (ps ++ more)))
  (ns : ∀ m, s.heap.Ns X.env.locals m -> h'.Ns X.env.locals m) (hok : HOk X.prog X.w H' h') (hg : AllBare g') :
  Inv X pins σ H' { s with heap := h', gens := g', drawn := d', toks := t' } := by
 have neL : ∀ b o, X.s₀.heap.get? b = some o -> b ≠ X.env.locals := fun b o e => Nat.ne_of_lt (Nat.lt_of_lt_of_le (Heap.lt_size e) I.ok.above)
 have neC : ∀ b o, X.s₀.heap.get? b = some o -> b ∉ X.ex -> b ∉ ch := fun b o e hx hb => by
  rcases (hch b hb).1 with z | z
  ·exact hx z
  ·exact absurd (Nat.lt_of_lt_of_le (Heap.lt_size e) z) (Nat.lt_irrefl _)
 have cellK : ∀ x c, X.env.cells.lookup x = some c -> ∀ v, s.heap.IsCell c v -> h'.IsCell c v := fun x c e v ⟨o, ho, hd⟩ => by
  have nch : c ∉ ch := fun z => (hch c z).2.2.1 x c e rfl
  by_cases hc : c ∈ X.fs
  ·obtain ⟨sl, q⟩ := slot c o (I.cne x c e) hc nch ho (I.freeC x c e)
   exact ⟨_, q, hd⟩
  ·exact ⟨o, keep c o (I.cne x c e) hc nch ho (I.freeC x c e), hd⟩
 refine ⟨I.ok, I.os, hg, ⟨fun b o e n hb hx => ?_, fun b o e n hb hx => ?_, fun b o e n hx => ?_, fun b o e hx => ?_, fun b xs e => tups b xs (I.base.tups b xs e), fun b o xs e => frzs b o xs (I.base.frzs b o xs e), fun b ps e => ?_⟩, ?_, fun x c e => ?_, ?_, fun x c e => ?_, fun p hp => ?_, hok, I.len⟩
 ·exact keep b o (neL b o e) hb (neC b o e hx) (I.base.keep b o e n hb hx) (I.base.free b o e n hx)
 ·obtain ⟨sl, e1⟩ := I.base.slot b o e n hb hx
  obtain ⟨sl', e2⟩ := slot b _ (neL b o e) hb (neC b o e hx) e1 (I.base.free b o e n hx)
  exact ⟨sl', e2⟩
 ·obtain ⟨o', e1⟩ := I.base.there b o e hx
  exact free b o' (neC b o e hx) e1 (I.base.free b o e n hx)
 ·obtain ⟨o', e1⟩ := I.base.there b o e hx
  exact there b o' (neC b o e hx) e1
 ·obtain ⟨m1, e1⟩ := I.base.tbls b ps e
  obtain ⟨m2, e2⟩ := tbls b _ e1
  exact ⟨m1 ++ m2, by rw [e2, Array.append_assoc]⟩
 ·obtain ⟨m, hn, hl⟩ := I.loc
  refine ⟨m, ns m hn, fun i x v e1 e2 e3 => ?_⟩
  obtain ⟨u, r, l⟩ := hl i x v e1 e2 e3
  refine ⟨u, r, ?_⟩
  rcases l with l | ⟨k, c, e, z⟩
  ·exact .inl l
  ·exact .inr ⟨k, c, e, cellK x c e _ z⟩
 ·obtain ⟨v, z⟩ := I.cell x c e
  exact ⟨v, cellK x c e v z⟩
 ·obtain ⟨m, ⟨o, _, _, ho, _⟩, _⟩ := I.loc
  exact free _ o (fun z => (hch _ z).2.1 rfl) ho I.free
 ·obtain ⟨v, o, ho, hd⟩ := I.cell x c e
  exact free c o (fun z => (hch c z).2.2.1 x c e rfl) ho (I.freeC x c e)
 ·obtain ⟨e, n, ne, nf, d⟩ := I.pin p hp
  have nch : p.1 ∉ ch := fun z => (hch p.1 z).2.2.2 p hp rfl
  exact ⟨keep p.1 p.2 ne nf nch e n, free p.1 p.2 nch e n, ne, nf, d⟩
theorem Inv.un (I : Inv X pins σ H s) (u : Un X.fs [] H H' s.heap h') (hok : HOk X.prog X.w H' h') : Inv X pins σ H' { s with heap := h', toks := t' } := by
  obtain ⟨m, ⟨o, es, ep, ho, r⟩, _⟩ := id I.loc
  obtain ⟨sl, hL⟩ := u.any ho I.free (by simp)
  exact I.step (g' := s.gens) (d' := s.drawn) (ch := []) (fun _ z => nomatch z) (fun b o _ hb _ e n => u.keep b o e n hb (by simp)) (fun b o _ hb _ e n => u.slot b o e n hb (by simp)) (fun b o _ e n => u.free b o e n (by simp)) (fun b o _ e => u.there b o e (by simp)) u.tups u.frzs u.tbls (fun m' hm => by
    obtain ⟨o', es', ep', ho', r'⟩ := hm
    rw [ho] at ho'; cases ho'
    exact ⟨_, es', ep', hL, r'⟩) hok I.bare
theorem Inv.call {ch : List Addr} (I : Inv X pins σ H s) (u : Un (frs X.stack) ch H H' s.heap h') (hok : HOk X.prog X.w H' h') (hg : AllBare g')
  (hch : ∀ b ∈ ch, (b ∈ X.ex \/ X.s₀.heap.objs.size <= b) /\ b ≠ X.env.locals /\ (∀ x c, X.env.cells.lookup x = some c -> c ≠ b) /\ ∀ p ∈ X.pn ++ pins, p.1 ≠ b) :
  Inv X pins σ H' { s with heap := h', gens := g', drawn := d', toks := t' } := by
 obtain ⟨m, ⟨o, es, ep, ho, r⟩, _⟩ := id I.loc
 obtain ⟨sl, hL⟩ := u.any ho I.free fun z => (hch _ z).2.1 rfl
 exact I.step (ch := ch) hch (fun b o hL hb hc e n => u.keep b o e n (fun z => (List.mem_cons.mp (I.stkSub b z)).elim hL hb) hc) (fun b o _ _ hc e n => u.any e n hc) (fun b o hc e n => u.free b o e n hc) (fun b o hc e => u.there b o e hc) u.tups u.frzs u.tbls (fun m' hm => by
  obtain ⟨o', es', ep', ho', r'⟩ := hm
  rw [ho] at ho'; cases ho'
  exact ⟨_, es', ep', hL, r'⟩) hok hg
theorem Inv.turned (I : Inv X pins σ H s) (k : ∀ b o, b ≠ it -> s.heap.get? b = some o -> h'.get? b = some o) (hn : H it = none) (hL : it ≠ X.env.locals)
  (h1 : it ∈ X.ex \/ X.s₀.heap.objs.size <= it) (h2 : ∀ x c, X.env.cells.lookup x = some c -> c ≠ it) (h3 : ∀ p ∈ X.pn ++ pins, p.1 ≠ it) : Inv X pins σ H { s with heap := h', toks := t' } := by
 have nit : ∀ b u, H b = some u -> b ≠ it := fun b u e z => by rw [z, hn] at e; cases e
 refine I.step (g' := s.gens) (d' := s.drawn) (ch := [it]) (fun b hb => ?_) (fun b o _ _ hc e _ => k b o (fun z => hc (by simp [z])) e) (fun b o _ _ hc e _ => ⟨o.slots, k b o (fun z => hc (by simp [z])) e⟩) (fun _ _ _ _ n => n)
  (fun b o hc e => ⟨o, k b o (fun z => hc (by simp [z])) e⟩) (fun _ _ e => e) (fun _ _ _ e => e) (fun b ps e => ⟨#[], by rw [e]; simp⟩) (fun m hm => ?_) (fun b u e => ?_) I.bare
 ·have e : b = it := by simpa using hb
  subst e
  exact ⟨h1, hL, h2, h3⟩
 ·obtain ⟨o, es, ep, ho, r⟩ := hm
  exact ⟨o, es, ep, k _ o (Ne.symm hL) ho, r⟩
 ·refine (I.hok b u e).stay (fun c v hc q => k c v ?_ q) (fun _ q => q) fun _ _ q => q
  rcases hc with z | z
  ·rw [z]; exact nit b u e
  ·exact nit c _ z
theorem Inv.tok (I : Inv X pins σ H s) (t : Nat) : Inv X pins σ H { s with toks := t } := I.un (h' := s.heap) (t' := t) Un.refl I.hok
theorem Inv.kept (I : Inv X pins σ H s) (k : ∀ b u, s.heap.get? b = some u -> h'.get? b = some u) : Inv X pins σ H { s with heap := h', toks := t' } := I.un (Un.kept k) (I.hok.kept k)
theorem Inv.laid {o : HO} (I : Inv X pins σ H s) (k : ∀ b u, s.heap.get? b = some u -> h'.get? b = some u) (hp : s.heap.objs.size <= a) (new : ObjOk X.prog X.w (upd H a o) h' a o) :
  Inv X pins σ (upd H a o) { s with heap := h', toks := t' } := I.un (Un.laid k hp (I.hok.fresh hp)) (I.hok.laid k hp new)
theorem Inv.write {x e : Addr} {o : HO} (I : Inv X pins σ H s) (mu : Mut (H x)) (he : e = x \/ H e = some (.own x)) (k : ∀ b u, b ≠ e -> s.heap.get? b = some u -> h'.get? b = some u) (heo : ∃ u, h'.get? e = some u)
  (new : ObjOk X.prog X.w (upd H x o) h' x o) : Inv X pins σ (upd H x o) { s with heap := h', toks := t' } := I.un (Un.write mu he k heo) (I.hok.write mu he k heo new)
theorem Inv.pins_of (I : Inv X pins σ H s) (h : ∀ p ∈ pins', s.heap.get? p.1 = some p.2 /\ H p.1 = none /\ p.1 ≠ X.env.locals /\ p.1 ∉ X.fs /\ ∀ v, p.2.data ≠ .cell v) : Inv X pins' σ H s :=
 ⟨I.ok, I.os, I.bare, I.base, I.loc, I.cell, I.free, I.freeC, fun p hp => (List.mem_append.mp hp).elim (fun z => I.pin p (List.mem_append_left _ z)) (h p), I.hok, I.len⟩
theorem zl9 (hN : N.Nodup) (a : N[i]? = some x) (b : N[j]? = some x) : i = j := by
 obtain ⟨h1, e1⟩ := List.getElem?_eq_some_iff.mp a
 obtain ⟨h2, e2⟩ := List.getElem?_eq_some_iff.mp b
 exact (List.getElem_inj hN).mp (e1.trans e2.symm)
theorem zoC {M : Model} (I : Inv X pins σ H s) (hN : X.N.Nodup) (hi : X.N[i]? = some x) (hx : Loc X.env.scope x) (r : RelV v u)
    (h : ∀ s', Inv X pins (σ.set i (some v)) H s' -> (∃ a, Heap.SameBut a s.heap s'.heap /\ (a = X.env.locals \/ X.env.cells.lookup x = some a)) -> Q () s') (hf : X.fn x = true \/ X.env.scope.names.lookup x = some .local := by first | exact .inl rfl | exact .inr rfl | assumption) : wpAny M A (storeName X.env x u) Q E s := by
  obtain ⟨m, hn, hl⟩ := id I.loc
  have hcls : (X.env.scope.kind == .class || (X.env.scope.kind == .module && X.env.locals != X.env.globals)) = false := by rw [I.ok.kind]; rfl
  have hiσ : i < σ.length := by rw [I.len]; exact (List.getElem?_eq_some_iff.mp hi).1
  have cne := I.cne
  have tracked : ∀ {a : Addr} {h' : Heap}, (∃ o, s.heap.get? a = some o /\ H a = none) -> Heap.SameBut a s.heap h' -> HOk X.prog X.w H h' := fun {a h'} ha hs b ob e => by
    obtain ⟨_, _, hfree⟩ := ha
    refine (I.hok b ob e).stay (fun c w' hc q => (hs.2 c ?_).trans q) (fun _ q => q) fun _ _ q => q
    rintro rfl
    rcases hc with rfl | hc
    . rw [hfree] at e; cases e
    . rw [hfree] at hc; cases hc
  rcases hx with hk | hk
  . refine wpAny_storeName_local hk hn (fun h' hn' hs => ?_) hcls
    obtain ⟨oL, _, _, hoL, _⟩ := id hn
    refine h _ ⟨I.ok, I.os, I.bare, ⟨fun b o e n hb hx => ?_, fun b o e n hb hx => ?_, I.base.free, fun b o e hx => ?_, I.base.tups, I.base.frzs, I.base.tbls⟩, ⟨_, hn', fun j y v' e1 e2 e3 => ?_⟩, fun y c e => ?_, I.free, I.freeC, fun p hp => ?_, tracked ⟨oL, hoL, I.free⟩ hs, by simpa using I.len⟩ ⟨_, hs, .inl rfl⟩
    . exact (hs.2 b (Nat.ne_of_lt (Nat.lt_of_lt_of_le (Heap.lt_size e) I.ok.above))).trans (I.base.keep b o e n hb hx)
    . obtain ⟨sl, e1⟩ := I.base.slot b o e n hb hx
      exact ⟨sl, (hs.2 b (Nat.ne_of_lt (Nat.lt_of_lt_of_le (Heap.lt_size e) I.ok.above))).trans e1⟩
    . obtain ⟨o', e1⟩ := I.base.there b o e hx
      exact ⟨o', (hs.2 b (Nat.ne_of_lt (Nat.lt_of_lt_of_le (Heap.lt_size e) I.ok.above))).trans e1⟩
    . by_cases hj : j = i
      . subst hj
        rw [hi] at e1; cases e1
        rw [List.getElem?_set_self hiσ] at e2
        cases e2
        exact ⟨u, r, .inl ⟨hk, by simp⟩⟩
      . rw [List.getElem?_set_ne (Ne.symm hj)] at e2
        obtain ⟨u', r', q⟩ := hl j y v' e1 e2 e3
        refine ⟨u', r', ?_⟩
        rcases q with ⟨k, e⟩ | ⟨k, c, e, z⟩
        . refine .inl ⟨k, ?_⟩
          have : y ≠ x := fun e => hj (zl9 hN e1 (e ▸ hi))
          simp [this, e]
        . exact .inr ⟨k, c, e, z.sameBut hs (cne y c e)⟩
    . obtain ⟨w', z⟩ := I.cell y c e
      exact ⟨w', z.sameBut hs (cne y c e)⟩
    . obtain ⟨e, n, ne, nf, d⟩ := I.pin p hp
      exact ⟨(hs.2 p.1 ne).trans e, n, ne, nf, d⟩
  . have hfn : X.fn x = true := by
      rcases hf with z | z
      . exact z
      . rw [z] at hk; cases hk
    obtain ⟨c, hc⟩ := I.ok.has x (.inl hk)
    obtain ⟨w', z⟩ := I.cell x c hc
    refine wpAny_storeName_cell I.ok.kind hk hc z (fun h' hc' hs => ?_)
    obtain ⟨oc, hoc, hocd⟩ := id z
    refine h { s with heap := h' } ⟨I.ok, I.os, I.bare, ⟨fun b o e n hb hx => ?_, fun b o e n hb hx => ?_, I.base.free, fun b o e hx => ?_, I.base.tups, I.base.frzs, I.base.tbls⟩, ⟨m, hn.sameBut hs (Ne.symm (cne x c hc)), fun j y v' e1 e2 e3 => ?_⟩, fun y c' e => ?_, I.free, I.freeC, fun p hp => ?_, tracked ⟨oc, hoc, I.freeC x c hc⟩ hs, by simpa using I.len⟩ ⟨c, hs, .inr hc⟩
    . exact (hs.2 b (Nat.ne_of_lt (Nat.lt_of_lt_of_le (Heap.lt_size e) (I.ok.cab x c hfn hc)))).trans (I.base.keep b o e n hb hx)
    . obtain ⟨sl, e1⟩ := I.base.slot b o e n hb hx
      exact ⟨sl, (hs.2 b (Nat.ne_of_lt (Nat.lt_of_lt_of_le (Heap.lt_size e) (I.ok.cab x c hfn hc)))).trans e1⟩
    . obtain ⟨o', e1⟩ := I.base.there b o e hx
      exact ⟨o', (hs.2 b (Nat.ne_of_lt (Nat.lt_of_lt_of_le (Heap.lt_size e) (I.ok.cab x c hfn hc)))).trans e1⟩
    . by_cases hj : j = i
      . subst hj
        rw [hi] at e1; cases e1
        rw [List.getElem?_set_self hiσ] at e2
        cases e2
        exact ⟨u, r, .inr ⟨.inl hk, c, hc, hc'⟩⟩
      . rw [List.getElem?_set_ne (Ne.symm hj)] at e2
        obtain ⟨u', r', q⟩ := hl j y v' e1 e2 e3
        refine ⟨u', r', ?_⟩
        rcases q with q | ⟨k, c', e, z'⟩
        . exact .inl q
        . refine .inr ⟨k, c', e, z'.sameBut hs ?_⟩
          rintro rfl
          exact hj (zl9 hN e1 (I.ok.inj _ _ _ e hc ▸ hi))
    . by_cases hcc : c' = c
      . subst hcc; exact ⟨_, hc'⟩
      . obtain ⟨w2, z2⟩ := I.cell y c' e
        exact ⟨w2, z2.sameBut hs hcc⟩
    . obtain ⟨e, n, ne, nf, d⟩ := I.pin p hp
      refine ⟨(hs.2 p.1 ?_).trans e, n, ne, nf, d⟩
      intro q
      rw [q, hoc] at e
      have q' : oc = p.2 := Option.some.inj e
      exact d w' (by rw [<- q']; exact hocd)
theorem zkz {M : Model} (I : Inv X pins σ H s) (hN : X.N.Nodup) (hi : X.N[i]? = some x) (hx : Loc X.env.scope x) (r : RelV v u)
  (h : ∀ s', Inv X pins (σ.set i (some v)) H s' -> Q () s') (hf : X.fn x = true \/ X.env.scope.names.lookup x = some .local := by first | exact .inl rfl | exact .inr rfl | assumption) : wpAny M A (storeName X.env x u) Q E s :=
 zoC I hN hi hx r (fun s' I' _ => h s' I') hf
end
noncomputable abbrev XK := Value -> Option Addr -> Hp -> Prop
noncomputable abbrev St := List (Option V)
noncomputable abbrev VK := V -> Hp -> Prop
noncomputable abbrev TE := St -> Hp -> VK -> Prop
noncomputable abbrev TT := St -> Hp -> (Bool -> Hp -> Prop) -> Prop
noncomputable abbrev TA := St -> Hp -> (List V -> Hp -> Prop) -> Prop
structure Ends where
 nx : St -> Hp -> Prop
 rt : VK
 bk : St -> Hp -> Prop := fun _ _ => False
 ct : St -> Hp -> Prop := fun _ _ => False
noncomputable abbrev TS := Ends -> St -> Hp -> Prop
noncomputable def EP (X : Cx) (pins : List (Addr × Obj)) (σ : St) (Q : VK) (u : Value) (s' : Shared) : Prop := ∃ v H', Inv X pins σ H' s' /\ RelV v u /\ Q v H'
noncomputable def TP (X : Cx) (pins : List (Addr × Obj)) (σ : St) (Q : Bool -> Hp -> Prop) (b : Bool) (s' : Shared) : Prop := ∃ H', Inv X pins σ H' s' /\ Q b H'
noncomputable def AP (X : Cx) (pins : List (Addr × Obj)) (σ : St) (Q : List V -> Hp -> Prop) (us : List Value) (s' : Shared) : Prop := ∃ vs H', Inv X pins σ H' s' /\ Vals vs us /\ Q vs H'
noncomputable def SP (X : Cx) (pins : List (Addr × Obj)) (D : Ends) (f : Flow) (s' : Shared) : Prop :=
 match f with
 | .next => ∃ σ' H', Inv X pins σ' H' s' /\ D.nx σ' H'
 | .brk => ∃ σ' H', Inv X pins σ' H' s' /\ D.bk σ' H'
 | .cont => ∃ σ' H', Inv X pins σ' H' s' /\ D.ct σ' H'
 | .ret u => ∃ v σ' H', Inv X pins σ' H' s' /\ RelV v u /\ D.rt v H'
noncomputable def PE (X : Cx) (e : Expr) (t : TE) : Prop :=
 ∀ (pins : List (Addr × Obj)) (s : Shared) (σ : St) (H : Hp) (Q : VK), Inv X pins σ H s -> t σ H Q -> wpAny (model X.prog X.w) X.A (eval e X.env) (EP X pins σ Q) X.xe s
noncomputable def PT (X : Cx) (e : Expr) (t : TT) : Prop :=
 ∀ (pins : List (Addr × Obj)) (s : Shared) (σ : St) (H : Hp) (Q : Bool -> Hp -> Prop), Inv X pins σ H s -> t σ H Q -> wpAny (model X.prog X.w) X.A (isTrue e X.env (eval e X.env)) (TP X pins σ Q) X.xe s
noncomputable def PW (X : Cx) (e : Expr) (t : TT) : Prop :=
 ∀ (whole : Sem Value) (pins : List (Addr × Obj)) (s : Shared) (σ : St) (H : Hp) (Q : Bool -> Hp -> Prop), Inv X pins σ H s -> t σ H Q -> wpAny (model X.prog X.w) X.A (isTrue e X.env whole) (TP X pins σ Q) X.xe s
theorem PW.pt {t : TT} (h : PW X e t) : PT X e t := h _
noncomputable def PA (X : Cx) (es : List Expr) (t : TA) : Prop :=
 ∀ (pos : Pos) (pins : List (Addr × Obj)) (s : Shared) (σ : St) (H : Hp) (Q : List V -> Hp -> Prop), Inv X pins σ H s -> t σ H Q -> wpAny (model X.prog X.w) X.A (spliced (backTo pos (starEach es X.env))) (AP X pins σ Q) X.xe s
noncomputable def PS (X : Cx) (st : Stmt) (t : TS) : Prop :=
 ∀ (pins : List (Addr × Obj)) (s : Shared) (σ : St) (H : Hp) (D : Ends), Inv X pins σ H s -> t D σ H -> wpAny (model X.prog X.w) X.A (exec st X.env) (SP X pins D) X.xe s
noncomputable def PSs (X : Cx) (st : List Stmt) (t : TS) : Prop :=
 ∀ (pins : List (Addr × Obj)) (s : Shared) (σ : St) (H : Hp) (D : Ends), Inv X pins σ H s -> t D σ H -> wpAny (model X.prog X.w) X.A (execs st X.env) (SP X pins D) X.xe s
theorem thn {α : Type} {t : Sem α} {Q Q' : α -> Shared -> Prop} {M : Model} (h : wpAny M A t Q E s) (hQ : ∀ a s, Q a s -> Q' a s) : wpAny M A t Q' E s := wpAny_mono h hQ fun _ _ x => x
section
variable {X : Cx}
theorem bin {a b : Expr} {ta tb : TE} (ha : PE X a ta) (hb : PE X b tb) {R : V -> V -> Hp -> Prop} (I : Inv X pins σ H s) (h : ta σ H fun x H1 => tb σ H1 fun y H2 => R x y H2)
  {α : Type} {Q : α -> Shared -> Prop} {f : Value -> Value -> Sem α}
  (hf : ∀ v u s2 x y H2, Inv X pins σ H2 s2 -> RelV x v -> RelV y u -> R x y H2 -> wpAny (model X.prog X.w) X.A (f v u) Q X.xe s2) :
  wpAny (model X.prog X.w) X.A (eval a X.env) (fun v s₁ => wpAny (model X.prog X.w) X.A (eval b X.env) (fun u s₂ => wpAny (model X.prog X.w) X.A (f v u) Q X.xe s₂) X.xe s₁) X.xe s := by
 refine thn (ha pins s σ H _ I h) fun v s1 ⟨x, H1, I1, r1, q1⟩ => ?_
 refine thn (hb pins s1 σ H1 _ I1 q1) fun u s2 ⟨y, H2, I2, r2, q2⟩ => ?_
 exact hf v u s2 x y H2 I2 r1 r2 q2
noncomputable def tVar (i : Nat) : TE := fun σ H Q => ∃ v, σ[i]? = some (some v) /\ Q v H
noncomputable def tC (v : V) : TE := fun _ H Q => Q v H
theorem zgs {pos : Pos} (hN : X.N[i]? = some x) (hv : Vis X.env.scope x) (hd : (x == ("__debug__" : Str)) = false := by decide) (hcd : (x == ("__classdict__" : Str)) = false := by decide) : PE X (.Name x pos) (tVar i) := by
 intro pins s σ H Q I h
 obtain ⟨v, e, h⟩ := h
 obtain ⟨m, hn, hl⟩ := I.loc
 obtain ⟨u, r, l⟩ := hl i x v hN e hv
 have fin : EP X pins σ Q u s := ⟨v, H, I, r, h⟩
 rcases l with ⟨hk, hm⟩ | ⟨hk, c, hc, hcell⟩
 ·exact wpAny_Name (wpAny_loadName_local I.ok.kind hk hn hm fin) hd
 ·rcases hk with hk | hk
  ·exact wpAny_Name (wpAny_loadName_cell I.ok.kind hk hc hcell fin) hd
  ·exact wpAny_Name (wpAny_loadName_free I.ok.kind hk hc hcell fin hcd) hd
theorem pe_int {i j pos} : PE X (.Constant (.int i) j pos) (tC (.int i)) := fun _ _ _ H _ I h => wpAny_Constant_int ⟨.int i, H, I.tok _, ⟨_, rfl⟩, h⟩
theorem pe_bl {b j pos} : PE X (.Constant (.bool b) j pos) (tC (.bl b)) := fun _ _ _ H _ I h => Constant_bool ⟨.bl b, H, I, rfl, h⟩
theorem pe_non {j pos} : PE X (.Constant .none j pos) (tC .non) := fun _ _ _ H _ I h => Constant_none ⟨.non, H, I, rfl, h⟩
theorem pe_str {x j pos} : PE X (.Constant (.str x) j pos) (tC (.str x)) := fun _ _ _ H _ I h => Calls.Constant_str ⟨.str x, H, I.tok _, ⟨_, rfl⟩, h⟩
noncomputable def Gl (X : Cx) (x : Str) : Prop := X.env.kindOf x = some .globalImplicit
theorem znM {pos : Pos} {Q : Value -> Shared -> Prop} (I : Inv X pins σ H s) (hg : Gl X x) (hm : X.mg x = some u) (h : Q u s)
  (hd : (x == ("__debug__" : Str)) = false := by decide) : wpAny (model X.prog X.w) X.A (eval (.Name x pos) X.env) Q E s :=
 Calls.Name_function_global I.ok.kind hg (Calls.loadGlobal_global (by rw [I.ok.glob]; exact I.mod.glob.keeps I.bk) hm h) hd
theorem zhF {pos : Pos} {Q : Value -> Shared -> Prop} (I : Inv X pins σ H s) (hg : Gl X x) (hm : X.mg x = none) (hv : bootBuiltins x = some u) (h : Q u s)
  (hn : x ≠ "__name__" := by decide) (hd : (x == ("__debug__" : Str)) = false := by decide) : wpAny (model X.prog X.w) X.A (eval (.Name x pos) X.env) Q E s := by
 obtain ⟨mb, h1, h2⟩ := I.mod.blt
 exact Calls.Name_function_global I.ok.kind hg (Calls.loadGlobal_builtin (by rw [I.ok.glob]; exact I.mod.glob.keeps I.bk) hm (by rw [I.ok.blt]; exact h1.keeps I.bk) ((h2 x hn).trans hv) h) hd
theorem pe_glob {pos : Pos} (hg : Gl X x) (hm : X.mg x = some u) (r : RelV v u) (hd : (x == ("__debug__" : Str)) = false := by decide) : PE X (.Name x pos) (tC v) :=
 fun _ _ _ H _ I h => znM I hg hm ⟨v, H, I, r, h⟩ hd
variable {a b : Expr} {ta tb : TE} {pos : Pos}
variable {tA tB' : TT} {rest : List Expr}
noncomputable def tAnd (t u : TT) : TT := fun σ H Q => t σ H fun c H1 => if c = true then u σ H1 Q else Q false H1
noncomputable def tOr (t u : TT) : TT := fun σ H Q => t σ H fun c H1 => if c = true then Q true H1 else u σ H1 Q
noncomputable def tNot (t : TT) : TT := fun σ H Q => t σ H fun c H1 => Q (!c) H1
theorem pw_and1 (ha : PT X a tA) : PW X (.BoolOp .And [a] pos) tA := by
 intro wh pins s σ H Q I h
 refine isTrue_and (thn (ha pins s σ H Q I h) fun c s1 e => ?_)
 cases c with
 | true => exact isTrue_and_nil e
 | false => exact e
theorem pw_or1 (ha : PT X a tA) : PW X (.BoolOp .Or [a] pos) tA := by
 intro wh pins s σ H Q I h
 refine isTrue_or (thn (ha pins s σ H Q I h) fun c s1 e => ?_)
 cases c with
 | false => exact isTrue_or_nil e
 | true => exact e
theorem pw_and (ha : PT X a tA) (hb : PW X (.BoolOp .And (b :: rest) pos) tB') : PW X (.BoolOp .And (a :: b :: rest) pos) (tAnd tA tB') := by
 intro wh pins s σ H Q I h
 refine isTrue_and (thn (ha pins s σ H _ I h) fun c s1 ⟨H1, I1, q1⟩ => ?_)
 cases c with
 | true => exact hb wh pins s1 σ H1 Q I1 q1
 | false => exact ⟨H1, I1, q1⟩
theorem pw_or (ha : PT X a tA) (hb : PW X (.BoolOp .Or (b :: rest) pos) tB') : PW X (.BoolOp .Or (a :: b :: rest) pos) (tOr tA tB') := by
 intro wh pins s σ H Q I h
 refine isTrue_or (thn (ha pins s σ H _ I h) fun c s1 ⟨H1, I1, q1⟩ => ?_)
 cases c with
 | true => exact ⟨H1, I1, q1⟩
 | false => exact hb wh pins s1 σ H1 Q I1 q1
theorem pt_not (ha : PT X a tA) : PT X (.UnaryOp .Not a pos) (tNot tA) := by
 intro pins s σ H Q I h
 exact isTrue_not (ha pins s σ H (fun c H1 => Q (!c) H1) I h)
noncomputable def tAndV (ta tb : TE) : TE := fun σ H Q => ta σ H fun x H1 => ∃ c, x = .bl c /\ if c = true then tb σ H1 Q else Q (.bl false) H1
noncomputable def tNotV (ta : TE) : TE := fun σ H Q => ta σ H fun x H1 => ∃ c, x = .bl c /\ Q (.bl (!c)) H1
theorem pe_one {op} {t : TE} (h : PE X a t) : PE X (.BoolOp op [a] pos) t := fun pins s σ H Q I hw => BoolOp_one (h pins s σ H Q I hw)
theorem pe_and (ha : PE X a ta) (hb : PE X (.BoolOp .And (b :: rest) pos) tb) : PE X (.BoolOp .And (a :: b :: rest) pos) (tAndV ta tb) := by
 intro pins s σ H Q I h
 refine BoolOp_and (thn (ha pins s σ H _ I h) fun v s1 ⟨x, H1, I1, r1, q1⟩ => ?_)
 obtain ⟨c, rfl, q1⟩ := q1
 cases r1
 refine wpAny_truthy_bool ?_
 cases c with
 | true => exact hb pins s1 σ H1 Q I1 q1
 | false => exact ⟨.bl false, H1, I1, rfl, q1⟩
theorem pe_not (ha : PE X a ta) : PE X (.UnaryOp .Not a pos) (tNotV ta) := by
 intro pins s σ H Q I h
 refine UnaryOp_ (thn (ha pins s σ H _ I h) fun v s1 ⟨x, H1, I1, r1, q1⟩ => ?_)
 obtain ⟨c, rfl, q1⟩ := q1
 cases r1
 exact not_of (wpAny_truthy_bool ⟨.bl (!c), H1, I1, rfl, q1⟩)
end
noncomputable def SqL (K : W.Frag) (H : Hp) (a : Addr) (xs : List V) : Prop :=
 Rd H a (.lst xs) \/
  ∃ (o : Obj) (its : Array Value) (n : Nat), K.lookup a = some o /\ o.cls = .type "list" /\ o.dict = none /\ o.data = .seq its n /\ its.size <= sizeLine /\ Vals xs its.toList
noncomputable def SqT (K : W.Frag) (H : Hp) (a : Addr) (xs : List V) : Prop :=
 Rd H a (.tup xs) \/
  ∃ (o : Obj) (its : Array Value) (n : Nat), K.lookup a = some o /\ o.cls = .type "tuple" /\ o.data = .seq its n /\ its.size <= sizeLine /\ Vals xs its.toList
noncomputable def absV : Value -> Option V
 | .none => some .non
 | .bool b => some (.bl b)
 | .int i _ => some (.int i)
 | .str x _ => some (.str x)
 | .bytes b _ => some (.byt b)
 | .float b _ => some (.flt b)
 | .ref a => some (.ref a)
 | .type n => some (.ty n)
 | _ => none
theorem RelV.abs {x : V} (r : RelV x u) : absV u = some x := by
 cases x with
 | non => cases r; rfl
 | bl _ => cases r; rfl
 | int _ => obtain ⟨t, rfl⟩ := r; rfl
 | str _ => obtain ⟨t, rfl⟩ := r; rfl
 | byt _ => obtain ⟨t, rfl⟩ := r; rfl
 | flt _ => obtain ⟨t, rfl⟩ := r; rfl
 | ref _ => cases r; rfl
 | ty _ => cases r; rfl
theorem RelV.inj {x y : V} (r : RelV x u) (q : RelV y u) : x = y := Option.some.inj (r.abs.symm.trans q.abs)
theorem Vals.inj : ∀ {xs ys : List V} {us : List Value}, Vals xs us -> Vals ys us -> xs = ys
 | _, _, _, .nil, .nil => rfl
 | _, _, _, .cons r t, .cons r' t' => by rw [r.inj r', Vals.inj t t']
section
variable {X : Cx} {pins : List (Addr × Obj)} {σ : St} {H : Hp} {s : Shared} {a : Addr} {xs ys : List V}
theorem SqL.of (h : H a = some (.lst xs)) : SqL K H a xs := .inl (.inl h)
theorem SqT.of (h : H a = some (.tup xs)) : SqT K H a xs := .inl (.inl h)
theorem Inv.list (I : Inv X pins σ H s) (h : SqL X.K H a xs) : ∃ its : List Value, Vals xs its /\ PlainL s.heap a its.toArray /\ xs.length <= sizeLine := by
 rcases h with h | ⟨o, its, n, hk, hc, hd, hs, hz, r⟩
 ·obtain ⟨z, its, n, r, e⟩ := h.ok I.hok
  exact ⟨its, r, ⟨_, n, e, rfl, rfl, rfl⟩, z⟩
 ·refine ⟨its.toList, r, ⟨o, n, I.kIn a o hk, hc, hd, by simpa using hs⟩, ?_⟩
  have e := r.length
  simp only [Array.length_toList] at e
  lia
theorem Inv.tuple (I : Inv X pins σ H s) (h : SqT X.K H a xs) : ∃ its : List Value, Vals xs its /\ IsTup s.heap a its.toArray /\ xs.length <= sizeLine := by
 rcases h with h | ⟨o, its, n, hk, hc, hs, hz, r⟩
 ·obtain ⟨z, its, r, p⟩ := h.ok I.hok
  exact ⟨its, r, p, z⟩
 ·refine ⟨its.toList, r, ⟨o, I.kIn a o hk, hc, n, by simpa using hs⟩, ?_⟩
  have e := r.length
  simp only [Array.length_toList] at e
  lia
theorem Inv.list_inj (I : Inv X pins σ H s) (h : SqL X.K H a xs) (h' : SqL X.K H a ys) : xs = ys := by
 obtain ⟨its, r, ⟨o, n, e, _, _, d⟩, _⟩ := I.list h
 obtain ⟨its', r', ⟨o', n', e', _, _, d'⟩, _⟩ := I.list h'
 rw [e] at e'; cases e'
 rw [d] at d'
 injection d' with d1 _
 have : its = its' := by simpa using congrArg Array.toList d1
 subst this
 exact r.inj r'
theorem Inv.tuple_inj (I : Inv X pins σ H s) (h : SqT X.K H a xs) (h' : SqT X.K H a ys) : xs = ys := by
 obtain ⟨its, r, ⟨o, e, _, n, d⟩, _⟩ := I.tuple h
 obtain ⟨its', r', ⟨o', e', _, n', d'⟩, _⟩ := I.tuple h'
 rw [e] at e'; cases e'
 rw [d] at d'
 injection d' with d1 _
 have : its = its' := by simpa using congrArg Array.toList d1
 subst this
 exact r.inj r'
end
noncomputable abbrev Cx.wish (X : Cx) (E : Value -> Shared -> Prop) : Cx := { X with xe := E }
noncomputable abbrev Cx.nox (X : Cx) : Cx := X.wish fun _ _ => False
theorem Cx.Ok.wish (ok : X.Ok) (E : Value -> Shared -> Prop) : (X.wish E).Ok :=
 ⟨ok.mod, ok.kind, ok.glob, ok.blt, ok.above, ok.inj, ok.has, ok.cab, ok.hd, ok.frames, ok.stk, ok.exf, ok.bs, ok.bsz, ok.noex, ok.exfs, ok.funs, ok.frf⟩
theorem Cx.Ok.unwish (ok : (X.wish E).Ok) : X.Ok :=
 ⟨ok.mod, ok.kind, ok.glob, ok.blt, ok.above, ok.inj, ok.has, ok.cab, ok.hd, ok.frames, ok.stk, ok.exf, ok.bs, ok.bsz, ok.noex, ok.exfs, ok.funs, ok.frf⟩
section
variable {X : Cx} {pins : List (Addr × Obj)} {σ : St} {H : Hp} {s : Shared} {E : Value -> Shared -> Prop}
theorem Inv.wish (I : Inv X pins σ H s) (E : Value -> Shared -> Prop) : Inv (X.wish E) pins σ H s := ⟨I.ok.wish E, I.os, I.bare, I.base, I.loc, I.cell, I.free, I.freeC, I.pin, I.hok, I.len⟩
theorem Inv.unwish (I : Inv (X.wish E) pins σ H s) : Inv X pins σ H s := ⟨I.ok.unwish, I.os, I.bare, I.base, I.loc, I.cell, I.free, I.freeC, I.pin, I.hok, I.len⟩
theorem SP.unwish {D : Ends} {f : Flow} (h : SP (X.wish E) pins D f s') : SP X pins D f s' := by
 cases f with
 | next => obtain ⟨σ', H', I, q⟩ := h; exact ⟨σ', H', I.unwish, q⟩
 | brk => obtain ⟨σ', H', I, q⟩ := h; exact ⟨σ', H', I.unwish, q⟩
 | cont => obtain ⟨σ', H', I, q⟩ := h; exact ⟨σ', H', I.unwish, q⟩
 | ret u => obtain ⟨v, σ', H', I, r, q⟩ := h; exact ⟨v, σ', H', I.unwish, r, q⟩
theorem PSs.nox {st : List Stmt} {t : TS} (h : PSs X.nox st t) : PSs X st t := fun pins s σ H D I hw =>
 wpAny_mono (h pins s σ H D (I.wish _) hw) (fun _ _ q => q.unwish) fun _ _ z => False.elim z
end
section
variable {X : Cx} {st : Stmt} {rest : List Stmt} {t u : TS} {e : Expr} {te : TE} {pos : Pos}
noncomputable def tNext : TS := fun D σ H => D.nx σ H
noncomputable def tSeq (t u : TS) : TS := fun D σ H => t { D with nx := u D } σ H
theorem pss_nil : PSs X [] tNext := fun _ _ σ H _ I h => wpAny_execs_nil ⟨σ, H, I, h⟩
theorem pss_cons (h1 : PS X st t) (h2 : PSs X rest u) : PSs X (st :: rest) (tSeq t u) := by
 intro pins s σ H D I h
 refine wpAny_execs_cons (thn (h1 pins s σ H { D with nx := u D } I h) fun f s1 q => ?_)
 cases f with
 | next =>
  obtain ⟨σ', H', I', q⟩ := q
  exact h2 pins s1 σ' H' D I' q
 | ret v => exact q
 | brk => exact q
 | cont => exact q
theorem pss_one (h1 : PS X st t) : PSs X [st] t := by
 intro pins s σ H D I h
 refine wpAny_execs_cons (thn (h1 pins s σ H D I h) fun f s1 q => ?_)
 cases f with
 | next => exact wpAny_execs_nil q
 | ret v => exact q
 | brk => exact q
 | cont => exact q
theorem Inv.quiet (I : Inv X pins σ H s) : interactive X.env = false := by simp [interactive, I.ok.kind]
noncomputable def tDrop (te : TE) : TS := fun D σ H => te σ H fun _ H1 => D.nx σ H1
theorem ps_expr (he : PE X e te) (hs : swapsWith e none pos.line X.env = pure false := by rfl) : PS X (.Expr e pos) (tDrop te) := by
 intro pins s σ H D I h
 exact wpAny_Expr_any (thn (he pins s σ H _ I h) fun v s1 ⟨x, H1, I1, r1, q1⟩ => ⟨σ, H1, I1, q1⟩) I.quiet hs
noncomputable def tRet (te : TE) : TS := fun D σ H => te σ H D.rt
theorem znE (he : PE X e te) : PS X (.Return (some e) pos) (tRet te) := by
 intro pins s σ H D I h
 exact wpAny_Return_some (thn (he pins s σ H _ I h) fun v s1 ⟨x, H1, I1, r1, q1⟩ => ⟨x, σ, H1, I1, r1, q1⟩)
noncomputable def tIfS (c : TT) (t u : TS) : TS := fun D σ H => c σ H fun b H1 => if b = true then t D σ H1 else u D σ H1
theorem ps_if {a b : List Stmt} (hc : PT X c tc) (ha : PSs X a t) (hb : PSs X b u) : PS X (.If c a b pos) (tIfS tc t u) := by
 intro pins s σ H D I h
 refine wpAny_If (thn (hc pins s σ H _ I h) fun d s1 ⟨H1, I1, q1⟩ => ?_)
 cases d with
 | true => exact ha pins s1 σ H1 D I1 q1
 | false => exact hb pins s1 σ H1 D I1 q1
noncomputable def tNever : TS := fun _ _ _ => False
theorem ps_never : PS X st tNever := fun _ _ _ _ _ _ h => h.elim
end
noncomputable abbrev TG := V -> St -> Hp -> (St -> Hp -> Prop) -> Prop
noncomputable abbrev TGs := List V -> St -> Hp -> (St -> Hp -> Prop) -> Prop
noncomputable def PG (X : Cx) (target : Expr) (t : TG) : Prop :=
 ∀ (pins : List (Addr × Obj)) (s : Shared) (σ : St) (H : Hp) (v : V) (u : Value) (Q : St -> Hp -> Prop), Inv X pins σ H s -> RelV v u -> t v σ H Q ->
  wpAny (model X.prog X.w) X.A (assign target X.env u) (fun _ s' => ∃ σ' H', Inv X pins σ' H' s' /\ Q σ' H') X.xe s
noncomputable def PGs (X : Cx) (ts : List Expr) (t : TGs) : Prop :=
 ∀ (pins : List (Addr × Obj)) (s : Shared) (σ : St) (H : Hp) (vs : List V) (us : List Value) (Q : St -> Hp -> Prop), Inv X pins σ H s -> Vals vs us -> t vs σ H Q ->
  wpAny (model X.prog X.w) X.A (assignInOrder ((assignEach ts X.env).map (·.2)) us) (fun _ s' => ∃ σ' H', Inv X pins σ' H' s' /\ Q σ' H') X.xe s
noncomputable abbrev TSet := V -> V -> V -> Hp -> (Hp -> Prop) -> Prop
noncomputable def PSet (X : Cx) (t : TSet) : Prop :=
 ∀ (pins : List (Addr × Obj)) (s : Shared) (σ : St) (H : Hp) (o i v : V) (ov iv u : Value) (Q : Hp -> Prop), Inv X pins σ H s -> RelV o ov -> RelV i iv -> RelV v u -> t o i v H Q ->
  wpAny (model X.prog X.w) X.A (setItem ov iv u) (fun _ s' => ∃ H', Inv X pins σ H' s' /\ Q H') X.xe s
noncomputable abbrev TIp := V -> V -> Hp -> VK -> Prop
noncomputable def PIp (X : Cx) (op : Operator) (t : TIp) : Prop :=
 ∀ (pins : List (Addr × Obj)) (s : Shared) (σ : St) (H : Hp) (x y : V) (v u : Value) (Q : VK), Inv X pins σ H s -> RelV x v -> RelV y u -> t x y H Q ->
  wpAny (model X.prog X.w) X.A (inplaceOp op v u) (EP X pins σ Q) X.xe s
section
variable {X : Cx} {pos : Pos}
noncomputable def gName (i : Nat) : TG := fun v σ H Q => Q (σ.set i (some v)) H
theorem zl0 (hN : X.N.Nodup) (hi : X.N[i]? = some x) (hx : Loc X.env.scope x) (hf : X.fn x = true \/ X.env.scope.names.lookup x = some .local := by first | exact .inl rfl | exact .inr rfl | assumption) : PG X (.Name x pos) (gName i) := by
  intro pins s σ H v u Q I r h
  exact wpAny_assign_Name (zkz I hN hi hx r (fun s' I' => ⟨_, H, I', h⟩) hf)
noncomputable def gNil : TGs := fun vs σ H Q => vs = [] /\ Q σ H
noncomputable def gCons (t : TG) (u : TGs) : TGs := fun vs σ H Q => ∃ v r, vs = v :: r /\ t v σ H fun σ' H' => u r σ' H' Q
theorem zoX : PGs X [] gNil := by
 intro pins s σ H vs us Q I r h
 obtain ⟨e, h⟩ := h
 subst e
 cases r
 exact assignInOrder_nil ⟨σ, H, I, h⟩
theorem zmK {t : TG} {u : TGs} (h1 : PG X e t) (h2 : PGs X es u)
  (hs : (assignEach (e :: es) X.env).map (·.2) = assign e X.env :: (assignEach es X.env).map (·.2) := by rfl) : PGs X (e :: es) (gCons t u) := by
 intro pins s σ H vs us Q I r h
 obtain ⟨v, vr, e1, h⟩ := h
 subst e1
 cases r with
 | cons r rr =>
  rw [hs]
  refine assignInOrder_cons (thn (h1 pins s σ H _ _ _ I r h) fun _ s1 ⟨σ1, H1, I1, q1⟩ => ?_)
  exact h2 pins s1 σ1 H1 _ _ Q I1 rr q1
noncomputable def gTup (K : W.Frag) (n : Nat) (t : TGs) : TG := fun v σ H Q => ∃ a xs, v = .ref a /\ SqT K H a xs /\ xs.length = n /\ t xs σ H Q
theorem pg_tup {t : TGs} (hc : X.calm = true) (h : PGs X es t)
  (hn : (assignEach es X.env).length = n := by rfl) (hst : (assignEach es X.env).findIdx? (·.1) = none := by rfl) : PG X (.Tuple es k pos) (gTup X.K n t) := by
 intro pins s σ H v u Q I r hw
 obtain ⟨a, xs, e1, hq, hl, hw⟩ := hw
 subst e1
 cases r
 obtain ⟨its, rv, ht, hz⟩ := I.tuple hq
 refine assign_Tuple_tuple (I.ok.hd hc) ht (by simp [hn, <- hl, rv.length]) hst fun h' hx => ?_
 have I1 : Inv X pins σ H { s with heap := h' } := I.kept (t' := s.toks) fun b o e => hx b o (Nat.ne_of_lt (Heap.lt_size e)) e
 exact h pins _ σ H xs _ Q I1 (by simpa using rv) hw
noncomputable def gSub (to ti : TE) (t : TSet) : TG := fun v σ H Q => to σ H fun o H1 => ti σ H1 fun i H2 => t o i v H2 fun H3 => Q σ H3
theorem pg_sub {o i : Expr} {to ti : TE} (ho : PE X o to) (hi : PE X i ti) (hs : PSet X t)
    (ha : ∀ v, assign (.Subscript o i pos) X.env v = (do
      let ov <- holding [v] (eval o X.env)
      let iv <- holding [v, ov] (eval i X.env)
      standAt pos
      holding [v, ov, iv] (setItem ov iv v)
      release [v, ov, iv] []) := by intro _; rfl) : PG X (.Subscript o i pos) (gSub to ti t) := by
  intro pins s σ H v u Q I r h
  rw [ha]
  refine wpAny_bind (wpAny_holding (thn (ho pins s σ H _ I h) fun ov s1 ⟨x, H1, I1, r1, q1⟩ => ?_))
  refine wpAny_bind (wpAny_holding (thn (hi pins s1 σ H1 _ I1 q1) fun iv s2 ⟨y, H2, I2, r2, q2⟩ => ?_))
  refine wpAny_bind (wpAny_standAt (wpAny_bind (wpAny_holding (thn (hs pins s2 σ H2 x y v ov iv u _ I2 r1 r2 r q2) fun _ s3 ⟨H3, I3, q3⟩ => ?_))))
  exact wpAny_release ⟨σ, H3, I3, q3⟩
noncomputable def tAsg (te : TE) (g : TG) : TS := fun D σ H => te σ H fun x H1 => g x σ H1 D.nx
theorem zoM {g : TG} (he : PE X e te) (hg : PG X tg g) (hs : swapsWithSole [tg] e pos.line X.env = pure false := by rfl) (hw : swappedStores [tg] e X.env = pure none := by rfl)
  (h1 : (assignEach [tg] X.env).map (·.2) = [assign tg X.env] := by rfl) : PS X (.Assign [tg] e pos) (tAsg te g) := by
 intro pins s σ H D I h
 refine wpAny_Assign_stores (thn (he pins s σ H _ I h) fun v s1 ⟨x, H1, I1, r1, q1⟩ => ?_) hs hw
 rw [h1]
 exact thn (hg pins s1 σ H1 x v _ I1 r1 q1) fun _ s2 q => q
theorem ps_set (hN : X.N.Nodup) (hi : X.N[i]? = some x) (hx : Loc X.env.scope x) (he : PE X e te) (hs : swapsWith e (some (.Name x pos')) pos.line X.env = pure false := by rfl) (hf : X.fn x = true \/ X.env.scope.names.lookup x = some .local := by first | exact .inl rfl | exact .inr rfl | assumption) :
  PS X (.Assign [.Name x pos'] e pos) (tAsg te (gName i)) := by
 intro pins s σ H D I h
 refine wpAny_Assign_Name (thn (he pins s σ H _ I h) fun v s1 ⟨y, H1, I1, r1, q1⟩ => ?_) hs
 exact zkz I1 hN hi hx r1 (fun s2 I2 => ⟨_, H1, I2, q1⟩) hf
noncomputable def tAug (i : Nat) (te : TE) (ti : TIp) : TS := fun D σ H => ∃ x, σ[i]? = some (some x) /\ te σ H fun y H1 => ti x y H1 fun z H2 => D.nx (σ.set i (some z)) H2
theorem ps_aug {op : Operator} {ti : TIp} (hN : X.N.Nodup) (hi : X.N[i]? = some x) (hx : Loc X.env.scope x) (he : PE X e te) (ho : PIp X op ti) (hf : X.fn x = true \/ X.env.scope.names.lookup x = some .local := by first | exact .inl rfl | exact .inr rfl | assumption) :
  PS X (.AugAssign (.Name x pos') op e pos) (tAug i te ti) := by
 intro pins s σ H D I h
 obtain ⟨v, e1, h⟩ := h
 obtain ⟨m, hn, hl⟩ := I.loc
 have vis : Vis X.env.scope x := by rcases hx with k | k; exact .inl k; exact .inr (.inl k)
 obtain ⟨u, r, l⟩ := hl i x v hi e1 vis
 refine wpAny_AugAssign_Name ?_
 have go : wpAny (model X.prog X.w) X.A (eval e X.env) (fun w s₂ => wpAny (model X.prog X.w) X.A (inplaceOp op u w) (fun r s₃ => wpAny (model X.prog X.w) X.A (storeName X.env x r) (fun _ => SP X pins D .next) X.xe s₃) X.xe s₂) X.xe s := by
  refine thn (he pins s σ H _ I h) fun w s1 ⟨y, H1, I1, r1, q1⟩ => ?_
  refine thn (ho pins s1 σ H1 v y u w _ I1 r r1 q1) fun z s2 ⟨zv, H2, I2, r2, q2⟩ => ?_
  exact zkz I2 hN hi hx r2 (fun s3 I3 => ⟨_, H2, I3, q2⟩) hf
 rcases l with ⟨hk, hm⟩ | ⟨hk, c, hc, hcell⟩
 ·exact wpAny_loadName_local I.ok.kind hk hn hm go
 ·rcases hk with hk | hk
  ·exact wpAny_loadName_cell I.ok.kind hk hc hcell go
  ·rcases hx with k | k
   ·have : X.env.scope.names.lookup x = some .free := hk
    rw [k] at this; cases this
   ·have : X.env.scope.names.lookup x = some .free := hk
    rw [k] at this; cases this
noncomputable def ipI (f : Int -> Int -> Int) : TIp := fun x y H Q => ∃ i j, x = .int i /\ y = .int j /\ Q (.int (f i j)) H
theorem ip_add : PIp X .Add (ipI fun i j => i + j) := by
 intro pins s σ H x y v u Q I r1 r2 h
 obtain ⟨i, j, e1, e2, q⟩ := h
 subst e1; subst e2
 obtain ⟨t, rfl⟩ := r1
 obtain ⟨t', rfl⟩ := r2
 exact iadd_int ⟨.int _, H, I.tok _, ⟨_, rfl⟩, q⟩
theorem ip_sub : PIp X .Sub (ipI fun i j => i - j) := by
 intro pins s σ H x y v u Q I r1 r2 h
 obtain ⟨i, j, e1, e2, q⟩ := h
 subst e1; subst e2
 obtain ⟨t, rfl⟩ := r1
 obtain ⟨t', rfl⟩ := r2
 exact isub_int ⟨.int _, H, I.tok _, ⟨_, rfl⟩, q⟩
end
section
variable {X : Cx} {pos : Pos}
noncomputable def tWhile (c : TT) (tb : TS) : TS := fun D σ H => ∃ W : Nat -> St -> Hp -> Prop, (∃ m, W m σ H) /\ ∀ m σ H, W m σ H ->
 c σ H fun b H1 => if b = true then ∃ N : St -> Hp -> Prop, (∀ σ' H', N σ' H' -> ∃ m', m' < m /\ W m' σ' H') /\ tb { D with nx := N, ct := N, bk := D.nx } σ H1 else D.nx σ H1
theorem ps_while (hp : PassesOwn (model X.prog X.w) X.A X.env X.xe) (hc : PT X c tc) (hb : PSs X body tb) : PS X (.While c body [] pos) (tWhile tc tb) := by
 intro pins s σ H D I h
 obtain ⟨W, ⟨m0, w0⟩, turn⟩ := h
 refine wpAny_While (codeAny_whileLoop (fun n s' => ∃ σ' H', Inv X pins σ' H' s' /\ W n σ' H') ?_ m0 ⟨σ, H, I, w0⟩)
 rintro n s1 ⟨σ1, H1, I1, w1⟩
 refine wpAny_passesOwn hp (thn (hc pins s1 σ1 H1 _ I1 (turn n σ1 H1 w1)) fun b s2 ⟨H2, I2, q2⟩ => ?_)
 cases b with
 | true =>
  obtain ⟨N, hN, q2⟩ := q2
  rw [if_pos rfl]
  refine wpAny_passesOwn hp (thn (hb pins s2 σ1 H2 _ I2 q2) fun f s3 q3 => ?_)
  cases f with
  | next =>
   obtain ⟨σ3, H3, I3, n3⟩ := q3
   obtain ⟨m', hm, w3⟩ := hN σ3 H3 n3
   exact ⟨m', hm, σ3, H3, I3, w3⟩
  | cont =>
   obtain ⟨σ3, H3, I3, n3⟩ := q3
   obtain ⟨m', hm, w3⟩ := hN σ3 H3 n3
   exact ⟨m', hm, σ3, H3, I3, w3⟩
  | brk => exact q3
  | ret v => exact q3
 | false =>
  rw [if_neg Bool.false_ne_true]
  exact wpAny_execs_nil ⟨σ1, H2, I2, q2⟩
end
structure It where
 go : Nat -> Hp -> Prop
 yld : Nat -> Hp -> V -> Hp -> Prop
 stop : Nat -> Hp -> Prop
noncomputable def FpOk (X : Cx) (pins : List (Addr × Obj)) (H : Hp) (b : Addr) : Prop :=
 H b = none /\ b ≠ X.env.locals /\ b ∉ X.fs /\ (b ∈ X.ex \/ X.s₀.heap.objs.size <= b) /\ (∀ x c, X.env.cells.lookup x = some c -> c ≠ b) /\ ∀ p ∈ X.pn ++ pins, p.1 ≠ b
theorem Inv.fpOk {H H' : Hp} (I : Inv X pins σ H s) (hb : s.heap.objs.size <= b) (hn : H' b = none) : FpOk X pins H' b := by
 refine ⟨hn, Nat.ne_of_gt (Nat.lt_of_lt_of_le I.lt hb), I.nofs hb, .inr (Nat.le_trans I.sz hb), fun x c e z => ?_, fun p hp z => ?_⟩
 ·obtain ⟨v, q⟩ := I.cell x c e
  exact absurd (Nat.lt_of_lt_of_le q.lt (by rw [z]; exact hb)) (Nat.lt_irrefl _)
 ·exact absurd (Nat.lt_of_lt_of_le (Heap.lt_size (I.pin p hp).1) (by rw [z]; exact hb)) (Nat.lt_irrefl _)
structure Turn (P : Program) (w : World) (K : W.Frag) (tg : Expr) (J : It) (fp : List Addr) (it : Addr) (tn : Nat -> Heap -> Prop) : Prop where
 mem : it ∈ fp
 obj : ∀ i h, tn i h -> ∀ b ∈ fp, ∃ o, h.get? b = some o /\ ∀ v, o.data ≠ .cell v
 keep : ∀ i h h', tn i h -> (∀ b ∈ fp, ∀ o, h.get? b = some o -> h'.get? b = some o) -> tn i h'
 item : ∀ (X : Cx), X.prog = P -> X.w = w -> X.K = K -> X.calm = true -> ∀ (i : Nat) (pins : List (Addr × Obj)) (s : Shared) (σ : St) (H : Hp) (E : Value -> Shared -> Prop), Inv X pins σ H s -> (∀ b ∈ fp, FpOk X pins H b) -> tn i s.heap -> J.go i H ->
  wpAny (model P w) X.A (pyNext (.ref it)) (fun r s1 => ∃ u, r = some u /\
   wpAny (model P w) X.A (letOwnedTupleGo tg (.ref it) u) (fun _ s2 => ∃ x H', Inv X pins σ H' s2 /\ RelV x u /\ J.yld i H x H' /\ tn (i + 1) s2.heap /\ ∀ b ∈ fp, H' b = none) E s1) E s
 done : ∀ (X : Cx), X.prog = P -> X.w = w -> X.K = K -> X.calm = true -> ∀ (i : Nat) (pins : List (Addr × Obj)) (s : Shared) (σ : St) (H : Hp) (E : Value -> Shared -> Prop), Inv X pins σ H s -> (∀ b ∈ fp, FpOk X pins H b) -> tn i s.heap -> J.stop i H ->
  wpAny (model P w) X.A (pyNext (.ref it)) (fun r s1 => r = none /\ Inv X pins σ H s1) E s
 self : ∀ (A : Around) (i : Nat) (s : Shared) (Q : Value -> Shared -> Prop) (E : Value -> Shared -> Prop), tn i s.heap -> Q (.ref it) s -> wpAny (model P w) A (pyIter (.ref it)) Q E s
noncomputable abbrev TI := St -> Hp -> (It -> Hp -> Prop) -> Prop
noncomputable def PIE (X : Cx) (pins : List (Addr × Obj)) (σ : St) (tg : Expr) (R : It -> Hp -> Prop) (itv : Value) (s2 : Shared) : Prop :=
 ∃ (it : Addr) (fp : List Addr) (tn : Nat -> Heap -> Prop) (J : It) (H' : Hp), itv = .ref it /\ Inv X pins σ H' s2 /\ Turn X.prog X.w X.K tg J fp it tn /\ tn 0 s2.heap /\ (∀ b ∈ fp, FpOk X pins H' b) /\ R J H'
noncomputable def PI (X : Cx) (tg iter : Expr) (wi : TI) : Prop :=
 ∀ (pins : List (Addr × Obj)) (s : Shared) (σ : St) (H : Hp) (R : It -> Hp -> Prop), Inv X pins σ H s -> wi σ H R ->
  wpAny (model X.prog X.w) X.A (eval iter X.env) (fun v s1 => wpAny (model X.prog X.w) X.A (pyIter v) (PIE X pins σ tg R) X.xe s1) X.xe s
theorem go_of {M : Model} {n : String} {vs : Array Value} (ho : s.heap.get? it = some o) (hc : o.cls = .type n) (hd : o.data = .fields vs)
    (hn : ["enumerate", "zip", "dict_itemiterator", "dict_reverseitemiterator", "odict_iterator", "itertools.zip_longest", "itertools.pairwise"].contains n = false) (hQ : Q () s) : wpAny M A (letOwnedTupleGo tg (.ref it) u) Q E s := by
  unfold letOwnedTupleGo
  cases tg <;> first
    | exact wpAny_pure hQ
    | (cases u <;> first
        | exact wpAny_pure hQ
        | (refine wpAny_bind (wpAny_load ho ?_)
           rw [hc, hd]
           show wpAny M A (if (["enumerate", "zip", "dict_itemiterator", "dict_reverseitemiterator", "odict_iterator", "itertools.zip_longest", "itertools.pairwise"].contains n && vs[0]? == some (rawInt _)) = true then _ else _) Q E s
           rw [if_neg (by intro h; rw [hn, Bool.false_and] at h; cases h)]
           exact wpAny_pure hQ))
noncomputable def Itl (K : W.Frag) (a : Addr) : It :=
 ⟨fun i H => ∃ xs x, SqL K H a xs /\ xs[i]? = some x, fun i H x H' => H' = H /\ ∀ xs, SqL K H a xs -> xs[i]? = some x, fun i H => ∃ xs, SqL K H a xs /\ xs.length <= i⟩
noncomputable def Itt (K : W.Frag) (a : Addr) : It :=
 ⟨fun i H => ∃ xs x, SqT K H a xs /\ xs[i]? = some x, fun i H x H' => H' = H /\ ∀ xs, SqT K H a xs -> xs[i]? = some x, fun i H => ∃ xs, SqT K H a xs /\ xs.length <= i⟩
noncomputable def Itr (lo : Int) (n : Nat) : It := ⟨fun i _ => i < n, fun i H x H' => H' = H /\ x = .int (lo + i), fun i _ => n <= i⟩
theorem zoN {P : Program} (a it : Addr) : Turn P w K tg (Itl K a) [it] it (fun i h => h.IsListIter it a i) where
 mem := by simp
 obj := fun i h st b hb => by
  have e : b = it := by simpa using hb
  subst e
  obtain ⟨o, e, c, d⟩ := st
  exact ⟨o, e, fun v z => by rw [d] at z; cases z⟩
 keep := fun i h h' st k => st.at fun o e => k it (by simp) o e
 item := by
  intro X hP hw hK hc i pins s σ H E I hf st hg
  subst hP hw hK
  obtain ⟨xs, x, hq, hx⟩ := hg
  obtain ⟨its, rv, p, hz⟩ := I.list hq
  obtain ⟨u, hu, ru⟩ := rv.get hx
  obtain ⟨f0, f1, f2, f3, f4, f5⟩ := hf it (by simp)
  refine wpAny_pyNext_list_item st p.isList (x := u) (by simpa using hu) fun h' st' sb => ?_
  have I1 : Inv X pins σ H { s with heap := h' } := I.turned (t' := s.toks) (fun b o hb e => (sb.2 b hb).trans e) f0 f1 f3 f4 f5
  obtain ⟨o, e, c, d⟩ := id st'
  exact ⟨u, rfl, go_of (s := { s with heap := h' }) e c d (by decide) ⟨x, H, I1, ru, ⟨rfl, fun ys hy => by rw [I.list_inj hy hq]; exact hx⟩, st', fun b hb => (hf b hb).1⟩⟩
 done := by
  intro X hP hw hK hc i pins s σ H E I hf st hg
  subst hP hw hK
  obtain ⟨xs, hq, hx⟩ := hg
  obtain ⟨its, rv, p, hz⟩ := I.list hq
  obtain ⟨f0, f1, f2, f3, f4, f5⟩ := hf it (by simp)
  have hl := rv.length
  exact wpAny_pyNext_list_end (I.ok.hd hc) st p.isList (by simp; lia) fun h' eb => ⟨rfl, I.turned (t' := s.toks) (fun b o hb e => eb b o hb e) f0 f1 f3 f4 f5⟩
 self := fun _ _ _ _ _ st h => wpAny_pyIter_listiter st h
theorem znk {P : Program} (a it : Addr) : Turn P w K tg (Itt K a) [it] it (fun i h => h.IsTupleIter it a i) where
 mem := by simp
 obj := fun i h st b hb => by
  have e : b = it := by simpa using hb
  subst e
  obtain ⟨o, e, c, d⟩ := st
  exact ⟨o, e, fun v z => by rw [d] at z; cases z⟩
 keep := fun i h h' st k => st.at fun o e => k it (by simp) o e
 item := by
  intro X hP hw hK hc i pins s σ H E I hf st hg
  subst hP hw hK
  obtain ⟨xs, x, hq, hx⟩ := hg
  obtain ⟨its, rv, p, hz⟩ := I.tuple hq
  obtain ⟨u, hu, ru⟩ := rv.get hx
  obtain ⟨f0, f1, f2, f3, f4, f5⟩ := hf it (by simp)
  refine wpAny_pyNext_tuple_item st (show s.heap.IsTuple a its.toArray from p) (x := u) (by simpa using hu) fun h' st' sb => ?_
  have I1 : Inv X pins σ H { s with heap := h' } := I.turned (t' := s.toks) (fun b o hb e => (sb.2 b hb).trans e) f0 f1 f3 f4 f5
  obtain ⟨o, e, c, d⟩ := id st'
  exact ⟨u, rfl, go_of (s := { s with heap := h' }) e c d (by decide) ⟨x, H, I1, ru, ⟨rfl, fun ys hy => by rw [I.tuple_inj hy hq]; exact hx⟩, st', fun b hb => (hf b hb).1⟩⟩
 done := by
  intro X hP hw hK hc i pins s σ H E I hf st hg
  subst hP hw hK
  obtain ⟨xs, hq, hx⟩ := hg
  obtain ⟨its, rv, p, hz⟩ := I.tuple hq
  obtain ⟨f0, f1, f2, f3, f4, f5⟩ := hf it (by simp)
  have hl := rv.length
  exact wpAny_pyNext_tuple_end (I.ok.hd hc) st (show s.heap.IsTuple a its.toArray from p) (by simp; lia) fun h' eb => ⟨rfl, I.turned (t' := s.toks) (fun b o hb e => eb b o hb e) f0 f1 f3 f4 f5⟩
 self := fun _ _ _ _ _ st h => wpAny_pyIter_tupleiter st h
theorem znf {P : Program} {w : World} (it : Addr) (lo : Int) (n : Nat) : Turn P w K tg (Itr lo n) [it] it (fun i h => IsRangeIter h it (lo + (i : Nat) * 1) ((n : Int) - (i : Nat)) 1) where
 mem := by simp
 obj := fun i h st b hb => by
  have e : b = it := by simpa using hb
  subst e
  exact ⟨_, st, fun v z => by
   have z' : Data.fields _ = Data.cell v := z
   cases z'⟩
 keep := fun i h h' st k => k it (by simp) _ st
 item := by
  intro X hP hw hK hc i pins s σ H E I hf st hg
  subst hP hw hK
  obtain ⟨f0, f1, f2, f3, f4, f5⟩ := hf it (by simp)
  have W := Walks.range (prog := X.prog) (w := X.w) (I.ok.hd hc) it lo 1 n
  refine W.item i s _ _ hg st fun v h' tk hv st' kk => ?_
  obtain ⟨t, rfl⟩ := hv
  have I1 : Inv X pins σ H { s with heap := h', toks := tk } := I.turned (fun b o hb e => kk b o (by simpa using hb) e) f0 f1 f3 f4 f5
  refine ⟨_, rfl, go_of (s := { s with heap := h', toks := tk }) (n := "range_iterator") st' rfl rfl (by decide) ⟨.int (lo + i), H, I1, ⟨t, ?_⟩, ⟨rfl, rfl⟩, st', fun b hb => (hf b hb).1⟩⟩
  rw [Int.mul_one]
 done := by
  intro X hP hw hK hc i pins s σ H E I hf st hg
  subst hP hw hK
  obtain ⟨f0, f1, f2, f3, f4, f5⟩ := hf it (by simp)
  exact wpAny_pyNext_range_end (I.ok.hd hc) st (by have : n <= i := hg; lia) fun h' eb => ⟨rfl, I.turned (t' := s.toks) (fun b o hb e => eb b o hb e) f0 f1 f3 f4 f5⟩
 self := fun _ _ _ _ _ st h => wpAny_pyIter_rangeiter st h
section
variable {X : Cx} {tg : Expr}
theorem zmk {R : It -> Hp -> Prop} {lo hi : Int} {t u v : Tok} {tk : Nat} (I : Inv X pins σ H s) (h1 : -(2 ^ 62) <= lo) (h2 : lo < 2 ^ 62) (h3 : -(2 ^ 62) <= hi) (h4 : hi < 2 ^ 62)
  (q : R (Itr lo (hi - lo).toNat) H) : wpAny (model X.prog X.w) X.A (pyIter (.ref s.heap.objs.size)) (PIE X pins σ tg R) E { s with heap := s.heap.push { cls := .type "range", data := .fields #[.int lo t, .int hi u, .int 1 v] }, toks := tk } := by
 refine wpAny_pyIter_range (IsRange.new ..) (small_one h1 h2 h3 h4) ?_
 have I1 : Inv X pins σ H { s with heap := s.heap.push { cls := .type "range", data := .fields #[.int lo t, .int hi u, .int 1 v] }, toks := tk } := I.kept fun b o e => Heap.get?_push_of_some _ e
 refine ⟨(s.heap.push { cls := .type "range", data := .fields #[.int lo t, .int hi u, .int 1 v] }).objs.size, [(s.heap.push { cls := .type "range", data := .fields #[.int lo t, .int hi u, .int 1 v] }).objs.size], _, _, H, rfl,
  I1.kept (t' := tk) fun b o e => Heap.get?_push_of_some _ e, znf _ lo (hi - lo).toNat, ?_, fun b hb => ?_, q⟩
 ·have e1 : lo + ((0 : Nat) : Int) * 1 = lo := by simp
  have e2 : (((hi - lo).toNat : Nat) : Int) - ((0 : Nat) : Int) = Builtin.Range.rangeSize lo hi 1 := by rw [rangeSize_one]; split <;> lia
  show IsRangeIter _ _ (lo + ((0 : Nat) : Int) * 1) ((((hi - lo).toNat : Nat) : Int) - ((0 : Nat) : Int)) 1
  rw [e1, e2]
  exact Heap.get?_push_size _ rfl
 ·have e : b = (s.heap.push { cls := .type "range", data := .fields #[.int lo t, .int hi u, .int 1 v] }).objs.size := by simpa using hb
  subst e
  exact I1.fpOk (Nat.le_refl _) (I1.hok.fresh (Nat.le_refl _))
noncomputable def iRng1 (ta : TA) : TI := fun σ H R => ta σ H fun vs H1 => ∃ j : Int, vs = [.int j] /\ -(2 ^ 62) <= j /\ j < 2 ^ 62 /\ R (Itr 0 j.toNat) H1
noncomputable def iRng2 (ta : TA) : TI := fun σ H R => ta σ H fun vs H1 => ∃ i j : Int, vs = [.int i, .int j] /\ (-(2 ^ 62) <= i /\ i < 2 ^ 62 /\ -(2 ^ 62) <= j /\ j < 2 ^ 62) /\ R (Itr i (j - i).toNat) H1
theorem zoQ {a : Expr} {p pos : Pos} (hg : Gl X "range") (hm : X.mg "range" = none) (ha : PA X [a] ta) (hs : starEach [a] X.env = [(false, eval a X.env)] := by rfl) : PI X tg (.Call (.Name "range" p) [a] [] pos) (iRng1 ta) := by
 intro pins s σ H R I h
 refine Call_ (zhF I hg hm boot_range (PyProof.Rows.callWith_type1 (thn (ha pos pins s σ H _ I h) fun us s1 ⟨vs, H1, I1, r1, q1⟩ => ?_) hs rfl))
 obtain ⟨j, e, q1, q2, q⟩ := q1
 subst e
 cases r1 with
 | cons r rr =>
  cases rr
  obtain ⟨t, rfl⟩ := r
  exact call_range_1 (zmk I1 (by lia) (by lia) q1 q2 (by simpa using q))
theorem zon {a b : Expr} {p pos : Pos} (hg : Gl X "range") (hm : X.mg "range" = none) (ha : PA X [a, b] ta) (hs : starEach [a, b] X.env = [(false, eval a X.env), (false, eval b X.env)] := by rfl) (hs2 : starEach [b] X.env = [(false, eval b X.env)] := by rfl) :
  PI X tg (.Call (.Name "range" p) [a, b] [] pos) (iRng2 ta) := by
 intro pins s σ H R I h
 refine Call_ (zhF I hg hm boot_range (PyProof.Rows.callWith_type1 (thn (ha pos pins s σ H _ I h) fun us s1 ⟨vs, H1, I1, r1, q1⟩ => ?_) (by rw [hs, hs2]) (by rw [hs2]; rfl)))
 obtain ⟨i, j, e, ⟨q1, q2, q3, q4⟩, q⟩ := q1
 subst e
 cases r1 with
 | cons r rr =>
  cases rr with
  | cons r' rr =>
   cases rr
   obtain ⟨t, rfl⟩ := r
   obtain ⟨t', rfl⟩ := r'
   exact call_range_2 (zmk I1 q1 q2 q3 q4 q)
noncomputable def tFor (wi : TI) (g : TG) (tb : TS) : TS := fun D σ H => wi σ H fun J H1 => ∃ W : Nat -> Nat -> St -> Hp -> Prop, (∃ m, W 0 m σ H1) /\ ∀ i m σ H, W i m σ H ->
 (J.stop i H /\ D.nx σ H) \/ (J.go i H /\ ∃ N : St -> Hp -> Prop, (∀ σ' H', N σ' H' -> ∃ m', m' < m /\ W (i + 1) m' σ' H') /\ ∀ x H', J.yld i H x H' -> g x σ H' fun σ2 H2 => tb { D with nx := N, ct := N, bk := D.nx } σ2 H2)
noncomputable def zle (fp : List Addr) (h : Heap) : List (Addr × Obj) := fp.filterMap fun b => (h.get? b).map fun o => (b, o)
theorem zf4 (hb : b ∈ fp) (e : h.get? b = some o) : (b, o) ∈ zle fp h := List.mem_filterMap.mpr ⟨b, hb, by rw [e]; rfl⟩
theorem znZ (hp : p ∈ zle fp h) : p.1 ∈ fp /\ h.get? p.1 = some p.2 := by
 obtain ⟨b, hb, e⟩ := List.mem_filterMap.mp hp
 cases q : h.get? b with
 | none => rw [q] at e; cases e
 | some o =>
  rw [q] at e
  have e' : (b, o) = p := Option.some.inj e
  subst e'
  exact ⟨hb, q⟩
theorem Inv.pinned (I : Inv X pins σ H s) (hf : ∀ b ∈ fp, FpOk X pins H b) (ho : ∀ b ∈ fp, ∃ o, s.heap.get? b = some o /\ ∀ v, o.data ≠ .cell v) : Inv X (pins ++ zle fp s.heap) σ H s :=
 I.pins_of fun p hp => (List.mem_append.mp hp).elim (fun z => I.pin p (List.mem_append_right _ z)) fun z => by
  obtain ⟨hb, e⟩ := znZ z
  obtain ⟨f0, f1, f2, _⟩ := hf p.1 hb
  obtain ⟨o, e', d⟩ := ho p.1 hb
  rw [e] at e'; cases e'
  exact ⟨e, f0, f1, f2, d⟩
theorem Inv.unpinned {pins pl : List (Addr × Obj)} (I : Inv X (pins ++ pl) σ H s) : Inv X pins σ H s := I.pins_of fun p hp => I.pin p (List.mem_append_right _ (List.mem_append_left _ hp))
theorem ps_for {iter : Expr} {wi : TI} {g : TG} {pos : Pos} (hp : PassesOwn (model X.prog X.w) X.A X.env X.xe) (hc : X.calm = true) (hi : PI X tg iter wi) (hg : PG X tg g) (hb : PSs X body tb)
    (hs : ∀ x, foldedSetIterable iter X.env x = pure x := by intro _; rfl) : PS X (.For tg iter body [] pos) (tFor wi g tb) := by
  intro pins s σ H D I h
  refine wpAny_For (thn (hi pins s σ H _ I h) fun v s1 h1 => thn h1 fun itv s2 h2 => ?_) hs
  obtain ⟨it, fp, tn, J, H2, e, I2, T, st2, f2, W, ⟨m0, w0⟩, turn⟩ := h2
  subst e
  have stat : ∀ {H' : Hp}, (∀ b ∈ fp, H' b = none) -> ∀ b ∈ fp, FpOk X pins H' b := fun hn b hb => ⟨hn b hb, (f2 b hb).2⟩
  refine codeAny_forLoop_any (fun n s' => ∃ i σ' H', Inv X pins σ' H' s' /\ tn i s'.heap /\ (∀ b ∈ fp, H' b = none) /\ W i n σ' H') ?_ m0 ⟨0, σ, H2, I2, st2, fun b hb => (f2 b hb).1, w0⟩
  rintro n s3 ⟨i, σ3, H3, I3, st3, fr3, w3⟩
  rcases turn i n σ3 H3 w3 with ⟨stop, qn⟩ | ⟨go, N, hN, step⟩
  . refine wpAny_passesOwn hp (thn (T.done X rfl rfl rfl hc i pins s3 σ3 H3 X.xe I3 (stat fr3) st3 stop) fun r s4 ⟨hr, I4⟩ => ?_)
    subst hr
    exact wpAny_execs_nil ⟨σ3, H3, I4, qn⟩
  . refine wpAny_passesOwn hp (thn (T.item X rfl rfl rfl hc i pins s3 σ3 H3 X.xe I3 (stat fr3) st3 go) fun r s4 ⟨u, hr, h4⟩ => ?_)
    subst hr
    refine wpAny_passesOwn hp (thn h4 fun _ s5 ⟨x, H5, I5, r5, y5, st5, fr5⟩ => ?_)
    have I5' := I5.pinned (stat fr5) (T.obj _ _ st5)
    refine wpAny_passesOwn hp (thn (hg _ s5 σ3 H5 x u _ I5' r5 (step x H5 y5)) fun _ s6 ⟨σ6, H6, I6, q6⟩ => ?_)
    refine wpAny_passesOwn hp (thn (hb _ s6 σ6 H6 _ I6 q6) fun f s7 q7 => ?_)
    have again : ∀ {σ7 : St} {H7 : Hp}, Inv X (pins ++ zle fp s5.heap) σ7 H7 s7 -> N σ7 H7 -> ∃ m, m < n /\ ∃ i σ' H', Inv X pins σ' H' s7 /\ tn i s7.heap /\ (∀ b ∈ fp, H' b = none) /\ W i m σ' H' := fun {σ7 H7} I7 n7 => by
      obtain ⟨m', hm, w7⟩ := hN σ7 H7 n7
      refine ⟨m', hm, i + 1, σ7, H7, I7.unpinned, T.keep _ _ _ st5 fun b hb o e => (I7.pin (b, o) (List.mem_append_right _ (List.mem_append_right _ (zf4 hb e)))).1, fun b hb => ?_, w7⟩
      obtain ⟨o, e, d⟩ := T.obj _ _ st5 b hb
      exact (I7.pin (b, o) (List.mem_append_right _ (List.mem_append_right _ (zf4 hb e)))).2.1
    cases f with
    | next => obtain ⟨σ7, H7, I7, n7⟩ := q7; exact again I7 n7
    | cont => obtain ⟨σ7, H7, I7, n7⟩ := q7; exact again I7 n7
    | brk => obtain ⟨σ7, H7, I7, q7⟩ := q7; exact ⟨σ7, H7, I7.unpinned, q7⟩
    | ret v => obtain ⟨x7, σ7, H7, I7, r7, q7⟩ := q7; exact ⟨x7, σ7, H7, I7.unpinned, r7, q7⟩
end
noncomputable abbrev R2 := V -> V -> Hp -> VK -> Prop
noncomputable def OpR (X : Cx) (f : Value -> Value -> Sem Value) (r : R2) : Prop :=
 ∀ (pins : List (Addr × Obj)) (s : Shared) (σ : St) (H : Hp) (x y : V) (v u : Value) (Q : VK), Inv X pins σ H s -> RelV x v -> RelV y u -> r x y H Q ->
  wpAny (model X.prog X.w) X.A (f v u) (EP X pins σ Q) X.xe s
noncomputable def UnR (X : Cx) (f : Value -> Sem Value) (r : V -> Hp -> VK -> Prop) : Prop :=
 ∀ (pins : List (Addr × Obj)) (s : Shared) (σ : St) (H : Hp) (x : V) (v : Value) (Q : VK), Inv X pins σ H s -> RelV x v -> r x H Q ->
  wpAny (model X.prog X.w) X.A (f v) (EP X pins σ Q) X.xe s
noncomputable def zhe (X : Cx) (f : Value) (r : List V -> Hp -> VK -> Prop) : Prop :=
 ∀ (pins : List (Addr × Obj)) (s : Shared) (σ : St) (H : Hp) (xs : List V) (us : List Value) (Q : VK), Inv X pins σ H s -> Vals xs us -> r xs H Q ->
  wpAny (model X.prog X.w) X.A (call f us) (EP X pins σ Q) X.xe s
noncomputable def TruR (X : Cx) (r : V -> Hp -> (Bool -> Hp -> Prop) -> Prop) : Prop :=
 ∀ (pins : List (Addr × Obj)) (s : Shared) (σ : St) (H : Hp) (x : V) (v : Value) (Q : Bool -> Hp -> Prop), Inv X pins σ H s -> RelV x v -> r x H Q ->
  wpAny (model X.prog X.w) X.A (truthy v) (TP X pins σ Q) X.xe s
noncomputable def tOp (r : R2) (ta tb : TE) : TE := fun σ H Q => ta σ H fun x H1 => tb σ H1 fun y H2 => r x y H2 Q
noncomputable def tUn (r : V -> Hp -> VK -> Prop) (ta : TE) : TE := fun σ H Q => ta σ H fun x H1 => r x H1 Q
noncomputable def rI (C : Int -> Int -> Prop) (g : Int -> Int -> V) : R2 := fun x y H Q => ∃ i j, x = .int i /\ y = .int j /\ C i j /\ Q (g i j) H
noncomputable def rI0 (g : Int -> Int -> V) : R2 := fun x y H Q => ∃ i j, x = .int i /\ y = .int j /\ Q (g i j) H
noncomputable def rU (g : Int -> V) : V -> Hp -> VK -> Prop := fun x H Q => ∃ i, x = .int i /\ Q (g i) H
section
variable {X : Cx} {a b c : Expr} {ta tb tc : TE} {pos : Pos}
theorem binT (ha : PE X a ta) (hb : PE X b tb) {R : V -> V -> Hp -> Prop} (I : Inv X pins σ H s)
  (h : ta σ H fun x H1 => tb σ H1 fun y H2 => R x y H2) {Q : Value -> Shared -> Prop} {f : Value -> Value -> Sem Value}
  (hf : ∀ v u s2 x y H2, Inv X pins σ H2 s2 -> RelV x v -> RelV y u -> R x y H2 -> wpAny (model X.prog X.w) X.A (f v u) Q X.xe s2) :
  wpAny (model X.prog X.w) X.A (eval a X.env) (fun v s₁ => wpAny (model X.prog X.w) X.A (eval b X.env) (fun u s₂ => wpAny (model X.prog X.w) X.A (f v u) Q X.xe s₂) X.xe s₁) X.xe s := by
 refine thn (ha pins s σ H _ I h) fun v s1 ⟨x, H1, I1, r1, q1⟩ => ?_
 refine thn (hb pins s1 σ H1 _ I1 q1) fun u s2 ⟨y, H2, I2, r2, q2⟩ => ?_
 exact hf v u s2 x y H2 I2 r1 r2 q2
theorem pe_op {op : Operator} {r : R2} (ho : OpR X (binaryOp op) r) (ha : PE X a ta) (hb : PE X b tb) : PE X (.BinOp a op b pos) (tOp r ta tb) := by
 intro pins s σ H Q I h
 exact wpAny_BinOp (binT ha hb I h fun v u s2 x y H2 I2 rx ry q => ho pins s2 σ H2 x y v u Q I2 rx ry q)
theorem pe_un {op : UnaryOp} (ho : UnR X (unaryOp op) r) (ha : PE X a ta) : PE X (.UnaryOp op a pos) (tUn r ta) := by
 intro pins s σ H Q I h
 exact UnaryOp_ (thn (ha pins s σ H _ I h) fun v s1 ⟨x, H1, I1, r1, q1⟩ => ho pins s1 σ H1 x v Q I1 r1 q1)
theorem opI 
  (rule : ∀ (i j : Int) (t u : Tok) (s : Shared) (Q : Value -> Shared -> Prop) (E : Value -> Shared -> Prop), C i j -> Q (.int (g i j) s.toks) { s with toks := s.toks + 1 } -> wpAny (model X.prog X.w) X.A (f (.int i t) (.int j u)) Q E s) :
  OpR X f (rI C fun i j => .int (g i j)) := by
 intro pins s σ H x y v u Q I rx ry h
 obtain ⟨i, j, rfl, rfl, hc, q⟩ := h
 obtain ⟨t, rfl⟩ := rx
 obtain ⟨t', rfl⟩ := ry
 exact rule i j t t' s _ _ hc ⟨.int (g i j), H, I.tok _, ⟨_, rfl⟩, q⟩
theorem opI0 
  (rule : ∀ (i j : Int) (t u : Tok) (s : Shared) (Q : Value -> Shared -> Prop) (E : Value -> Shared -> Prop), Q (.int (g i j) s.toks) { s with toks := s.toks + 1 } -> wpAny (model X.prog X.w) X.A (f (.int i t) (.int j u)) Q E s) :
  OpR X f (rI0 fun i j => .int (g i j)) := by
 intro pins s σ H x y v u Q I rx ry h
 obtain ⟨i, j, rfl, rfl, q⟩ := h
 obtain ⟨t, rfl⟩ := rx
 obtain ⟨t', rfl⟩ := ry
 exact rule i j t t' s _ _ ⟨.int (g i j), H, I.tok _, ⟨_, rfl⟩, q⟩
theorem opB0 {g : Int -> Int -> Bool}
  (rule : ∀ (i j : Int) (t u : Tok) (s : Shared) (Q : Value -> Shared -> Prop) (E : Value -> Shared -> Prop), Q (.bool (g i j)) s -> wpAny (model X.prog X.w) X.A (f (.int i t) (.int j u)) Q E s) :
  OpR X f (rI0 fun i j => .bl (g i j)) := by
 intro pins s σ H x y v u Q I rx ry h
 obtain ⟨i, j, rfl, rfl, q⟩ := h
 obtain ⟨t, rfl⟩ := rx
 obtain ⟨t', rfl⟩ := ry
 exact rule i j t t' s _ _ ⟨.bl (g i j), H, I, rfl, q⟩
noncomputable def CPow (i j : Int) : Prop := 0 <= j /\ j <= 1000000 /\ i.natAbs < 2 ^ 64
theorem op_add : OpR X (binaryOp .Add) (rI0 fun i j => .int (i + j)) := opI0 fun _ _ _ _ _ _ _ q => add_int q
theorem op_sub : OpR X (binaryOp .Sub) (rI0 fun i j => .int (i - j)) := opI0 fun _ _ _ _ _ _ _ q => sub_int q
theorem op_mod : OpR X (binaryOp .Mod) (rI (fun _ j => 0 < j) fun i j => .int (i % j)) := opI fun i j _ _ _ _ _ hc q => by
 have h1 : (0 : Int) < j := hc
 exact mod_int' (by lia) (by rw [Int.fmod_eq_emod_of_nonneg i (by lia)]; exact q)
theorem op_pow : OpR X (binaryOp .Pow) (rI CPow fun i j => .int (i ^ j.toNat)) := opI fun _ _ _ _ _ _ _ hc q => pow_int_small hc.1 hc.2.1 hc.2.2 q
theorem unI {f : Value -> Sem Value} {g : Int -> Int}
  (rule : ∀ (i : Int) (t : Tok) (s : Shared) (Q : Value -> Shared -> Prop) (E : Value -> Shared -> Prop), Q (.int (g i) s.toks) { s with toks := s.toks + 1 } -> wpAny (model X.prog X.w) X.A (f (.int i t)) Q E s) :
  UnR X f (rU fun i => .int (g i)) := by
 intro pins s σ H x v Q I rx h
 obtain ⟨i, rfl, q⟩ := h
 obtain ⟨t, rfl⟩ := rx
 exact rule i t s _ _ ⟨.int (g i), H, I.tok _, ⟨_, rfl⟩, q⟩
theorem un_neg : UnR X (unaryOp .USub) (rU fun i => .int (-i)) := unI fun _ _ _ _ _ q => neg_int q
end
section
variable {X : Cx} {a b c : Expr} {ta tb tc : TE} {pos : Pos}
theorem zo5 {Q : VK} {k k' : Bool} (I : Inv X pins σ H s) (q : Q (.bl k) H) (e : k = k') : EP X pins σ Q (.bool k') s := by
 subst e
 exact ⟨.bl k, H, I, rfl, q⟩
theorem zlW : OpR X (compareOp .Lt) (rI0 fun i j => .bl (decide (i < j))) := opB0 fun _ _ _ _ _ _ _ q => lt_int q
theorem ziJ : OpR X (compareOp .LtE) (rI0 fun i j => .bl (decide (i <= j))) := opB0 fun _ _ _ _ _ _ _ q => le_int q
theorem op_gt : OpR X (compareOp .Gt) (rI0 fun i j => .bl (decide (j < i))) := opB0 fun _ _ _ _ _ _ _ q => gt_int q
theorem op_ge : OpR X (compareOp .GtE) (rI0 fun i j => .bl (decide (j <= i))) := opB0 fun _ _ _ _ _ _ _ q => ge_int q
theorem op_isN : OpR X (compareOp .Is) (fun x y H Q => y = .non /\ Q (.bl (decide (x = .non))) H) := by
 intro pins s σ H x y v u Q I rx ry h
 obtain ⟨rfl, q⟩ := h
 cases ry
 refine is_none_gen (zo5 I q ?_)
 cases x <;> first
  | (cases rx; rfl)
  | (obtain ⟨t, rfl⟩ := rx; rfl)
theorem op_notN : OpR X (compareOp .IsNot) (fun x y H Q => y = .non /\ Q (.bl (!decide (x = .non))) H) := by
 intro pins s σ H x y v u Q I rx ry h
 obtain ⟨rfl, q⟩ := h
 cases ry
 refine isnot_none_gen (zo5 I q ?_)
 cases x <;> first
  | (cases rx; rfl)
  | (obtain ⟨t, rfl⟩ := rx; rfl)
theorem OpR.or {r r' : R2} (h : OpR X f r) (h' : OpR X f r') : OpR X f (fun x y H Q => r x y H Q \/ r' x y H Q) := by
 intro pins s σ H x y v u Q I rx ry q
 rcases q with q | q
 ·exact h pins s σ H x y v u Q I rx ry q
 ·exact h' pins s σ H x y v u Q I rx ry q
theorem zic (b : Expr) (h : op ≠ .In := by decide) (h2 : op ≠ .NotIn := by decide) : behindInMarks op b = false := by
 have e1 : (op == CmpOp.In) = false := by cases op <;> first | rfl | exact absurd rfl h
 have e2 : (op == CmpOp.NotIn) = false := by cases op <;> first | rfl | exact absurd rfl h2
 cases b <;> simp [behindInMarks, e1, e2]
theorem pe_cmpR {r : R2} (ho : OpR X (compareOp op) r) (ha : PE X a ta) (hb : PE X b tb) (hm : behindInMarks op b = false) : PE X (.Compare a [op] [b] pos) (tOp r ta tb) := by
 intro pins s σ H Q I h
 exact wpAny_Compare1 (binT ha hb I h fun v u s2 x y H2 I2 rx ry q => ho pins s2 σ H2 x y v u Q I2 rx ry q) hm
noncomputable def tTest (t : TE) : TT := fun σ H Q => t σ H fun x H' => ∃ k, x = .bl k /\ Q k H'
theorem pt_cmpR {r : R2} (ho : OpR X (compareOp op) r) (ha : PE X a ta) (hb : PE X b tb) (hm : behindInMarks op b = false) : PT X (.Compare a [op] [b] pos) (tTest (tOp r ta tb)) := by
 intro pins s σ H Q I h
 refine wpAny_isTrue_Compare1 (thn (ha pins s σ H _ I h) fun v s1 ⟨x, H1, I1, r1, q1⟩ => thn (hb pins s1 σ H1 _ I1 q1) fun u s2 ⟨y, H2, I2, r2, q2⟩ =>
  thn (ho pins s2 σ H2 x y v u _ I2 r1 r2 q2) fun c s3 ⟨z, H3, I3, r3, k, e, q3⟩ => ?_) hm
 subst e
 cases r3
 exact wpAny_truthy_bool ⟨H3, I3, q3⟩
noncomputable def zoR (r r' : R2) (ta tb tc : TE) : TE := fun σ H Q => ta σ H fun x H1 => tb σ H1 fun y H2 => r x y H2 fun z H3 => ∃ k, z = .bl k /\
 (if k = true then tc σ H3 fun w' H4 => r' y w' H4 Q else Q (.bl false) H3)
theorem pe_chain {r r' : R2} (ho : OpR X (compareOp op) r) (ho' : OpR X (compareOp op') r') (ha : PE X a ta) (hb : PE X b tb) (hc : PE X c tc)
  (hm : lastMarks [op, op'] [b, c] = false := by with_unfolding_all rfl) : PE X (.Compare a [op, op'] [b, c] pos) (zoR r r' ta tb tc) := by
 intro pins s σ H Q I h
 refine Compare_chain (thn (ha pins s σ H _ I h) fun v s1 ⟨x, H1, I1, r1, q1⟩ => chain_link (thn (hb pins s1 σ H1 _ I1 q1) fun u s2 ⟨y, H2, I2, r2, q2⟩ =>
  thn (ho pins s2 σ H2 x y v u _ I2 r1 r2 q2) fun d s3 ⟨z, H3, I3, r3, k, e, q3⟩ => ?_)) hm
 subst e
 cases r3
 refine wpAny_truthy_bool ?_
 cases k with
 | false => exact ite_ff ⟨.bl false, H3, I3, rfl, q3⟩
 | true => exact ite_tt (chain_last (thn (hc pins s3 σ H3 _ I3 q3) fun w' s4 ⟨z', H4, I4, r4, q4⟩ => ho' pins s4 σ H4 y z' u w' Q I4 r2 r4 q4))
theorem pt_chain {r r' : R2} (ho : OpR X (compareOp op) r) (ho' : OpR X (compareOp op') r') (ha : PE X a ta) (hb : PE X b tb) (hc : PE X c tc)
  (hm : lastMarks [op, op'] [b, c] = false := by with_unfolding_all rfl) : PT X (.Compare a [op, op'] [b, c] pos) (tTest (zoR r r' ta tb tc)) := by
 intro pins s σ H Q I h
 refine isTrue_chain (thn (ha pins s σ H _ I h) fun v s1 ⟨x, H1, I1, r1, q1⟩ => test_link (thn (hb pins s1 σ H1 _ I1 q1) fun u s2 ⟨y, H2, I2, r2, q2⟩ =>
  thn (ho pins s2 σ H2 x y v u _ I2 r1 r2 q2) fun d s3 ⟨z, H3, I3, r3, k, e, q3⟩ => ?_)) hm
 subst e
 cases r3
 refine wpAny_truthy_bool ?_
 cases k with
 | false =>
  obtain ⟨k', e', q'⟩ := q3
  cases e'
  exact ite_ff ⟨H3, I3, q'⟩
 | true =>
  refine ite_tt (test_last (thn (hc pins s3 σ H3 _ I3 q3) fun w' s4 ⟨z', H4, I4, r4, q4⟩ => thn (ho' pins s4 σ H4 y z' u w' _ I4 r2 r4 q4) fun d' s5 ⟨z2, H5, I5, r5, k2, e2, q5⟩ => ?_))
  subst e2
  cases r5
  exact wpAny_truthy_bool ⟨H5, I5, q5⟩
noncomputable def TruV (K : W.Frag) (x : V) (H : Hp) (k : Bool) : Prop :=
 match x with
 | .non => k = false
 | .bl b => k = b
 | .int i => k = (i != 0)
 | .str y => y.length <= sizeLine /\ k = ((y.length : Int) != 0)
 | .byt y => y.size <= sizeLine /\ k = ((y.size : Int) != 0)
 | .ref p => (∃ xs, SqL K H p xs /\ k = !xs.isEmpty) \/ (∃ xs, SqT K H p xs /\ k = !xs.isEmpty) \/ ∃ kvs, H p = some (.dK kvs) /\ k = !kvs.isEmpty
 | _ => False
theorem znc {κ : Type} {kvs : List (κ × V)} {vs : List (κ × Value)} (r : KV kvs vs) : (!vs.isEmpty) = !kvs.isEmpty := by
 cases r <;> rfl
theorem zjs (r : Vals xs its) : (!its.toArray.isEmpty) = !xs.isEmpty := by
 cases r <;> simp
theorem zjF : (sizeLine : Nat) < 2 ^ 63 := by rw [sizeLine_eq]; decide
theorem tru_ok : TruR X (fun x H Q => ∃ k, TruV X.K x H k /\ Q k H) := by
 intro pins s σ H x v Q I rx h
 obtain ⟨k, e, q⟩ := h
 have hl := zjF
 have hs : sizeLine = 16777216 := sizeLine_eq
 cases x with
 | non =>
  cases rx
  have e' : k = false := e
  subst e'
  exact truthy_none ⟨H, I, q⟩
 | bl b =>
  cases rx
  have e' : k = b := e
  subst e'
  exact wpAny_truthy_bool ⟨H, I, q⟩
 | int i =>
  obtain ⟨t, rfl⟩ := rx
  have e' : k = (i != 0) := e
  subst e'
  exact PySem.P.truthy_int ⟨H, I, q⟩
 | str y =>
  obtain ⟨t, rfl⟩ := rx
  obtain ⟨hy, e'⟩ : y.length <= sizeLine /\ k = ((y.length : Int) != 0) := e
  subst e'
  exact PySem.P.truthy_str (by lia) ⟨H, I.tok _, q⟩
 | byt y =>
  obtain ⟨t, rfl⟩ := rx
  obtain ⟨hy, e'⟩ : y.size <= sizeLine /\ k = ((y.size : Int) != 0) := e
  subst e'
  exact W.truthy_bytes (by lia) ⟨H, I.tok _, q⟩
 | ref p =>
  cases rx
  have e' : (∃ xs, SqL X.K H p xs /\ k = !xs.isEmpty) \/ (∃ xs, SqT X.K H p xs /\ k = !xs.isEmpty) \/ ∃ kvs, H p = some (.dK kvs) /\ k = !kvs.isEmpty := e
  rcases e' with ⟨xs, hx, e'⟩ | ⟨xs, hx, e'⟩ | ⟨kvs, hx, e'⟩
  ·subst e'
   obtain ⟨its, r, pl, hz⟩ := I.list hx
   have hlen := r.length
   exact wpAny_truthy_list pl.isList (by simp only [List.size_toArray]; lia) ⟨H, I.tok _, by rw [zjs r]; exact q⟩
  ·subst e'
   obtain ⟨its, r, pl, hz⟩ := I.tuple hx
   have hlen := r.length
   exact truthy_tuple pl (by simp only [List.size_toArray]; lia) ⟨H, I.tok _, by rw [zjs r]; exact q⟩
  ·subst e'
   obtain ⟨hz, hS, vs, r, m⟩ : kvs.length <= sizeLine /\ (p == sysModules) = false /\ ∃ vs, KV kvs vs /\ s.heap.DictOf (zlF X.prog X.w) p vs := I.hok p _ hx
   have hlen : kvs.length = vs.length := Paired.length r
   exact wpAny_truthy_dict hS m (by lia) ⟨H, I.tok _, by rw [znc r]; exact q⟩
 | _ => exact (show False from e).elim
theorem pt_truth (ha : PE X a ta) (he : ∀ whole, isTrue a X.env whole = (do let v <- whole; standAt a.pos; holding [v] (truthy v))) :
  PT X a (fun σ H Q => ta σ H fun x H' => ∃ k, TruV X.K x H' k /\ Q k H') := by
 intro pins s σ H Q I h
 exact isTrue_plain (thn (ha pins s σ H _ I h) fun v s1 ⟨x, H1, I1, r1, q1⟩ => tru_ok pins s1 σ H1 x v Q I1 r1 q1) (he _)
theorem zno : OpR X (binaryOp .Add) (fun x y H Q => ∃ i j, x = .str i /\ y = .str j /\ i.length + j.length <= sizeLine /\ Q (.str (i ++ j)) H) := by
 intro pins s σ H x y v u Q I rx ry h
 obtain ⟨i, j, rfl, rfl, hz, q⟩ := h
 obtain ⟨t, rfl⟩ := rx
 obtain ⟨t', rfl⟩ := ry
 exact add_str (fun t' tk => ⟨.str (i ++ j), H, I.tok _, ⟨_, rfl⟩, q⟩) hz
theorem zjL {x : V} (r : Vals [x] us) : ∃ u, us = [u] /\ RelV x u := by
 cases r with
 | cons r1 r2 => cases r2; exact ⟨_, rfl, r1⟩
theorem vals2 {x y : V} (r : Vals [x, y] us) : ∃ u w', us = [u, w'] /\ RelV x u /\ RelV y w' := by
 cases r with
 | cons r1 r2 =>
  cases r2 with
  | cons r3 r4 => cases r4; exact ⟨_, _, rfl, r1, r3⟩
theorem zoe (hc : X.calm = true) : zhe X (.builtin "max") (fun xs H Q => ∃ i j, xs = [.int i, .int j] /\ Q (.int (if j > i then j else i)) H) := by
 intro pins s σ H xs us Q I r h
 obtain ⟨i, j, rfl, q⟩ := h
 obtain ⟨u, w', rfl, ⟨t, rfl⟩, ⟨t', rfl⟩⟩ := vals2 r
 refine max_two_ints (I.ok.hd hc) fun h' tk k => ⟨_, H, I.kept k, ?_, q⟩
 by_cases hj : j > i
 ·rw [if_pos hj, if_pos hj]; exact ⟨_, rfl⟩
 ·rw [if_neg hj, if_neg hj]; exact ⟨_, rfl⟩
theorem zoS (hc : X.calm = true) : zhe X (.builtin "min") (fun xs H Q => ∃ i j, xs = [.int i, .int j] /\ Q (.int (if j < i then j else i)) H) := by
 intro pins s σ H xs us Q I r h
 obtain ⟨i, j, rfl, q⟩ := h
 obtain ⟨u, w', rfl, ⟨t, rfl⟩, ⟨t', rfl⟩⟩ := vals2 r
 refine min_two_ints (I.ok.hd hc) fun h' tk k => ⟨_, H, I.kept k, ?_, q⟩
 by_cases hj : j < i
 ·rw [if_pos hj, if_pos hj]; exact ⟨_, rfl⟩
 ·rw [if_neg hj, if_neg hj]; exact ⟨_, rfl⟩
end
structure Room (k : Nat) (A : Around) : Prop where
 hd : A.handled = none
 dp : A.depth + 3 * k + 5 < recursionLimit
 un : A.units + 16 * k + 200 < cLine
 gd : A.guards = some []
theorem Room.mono (r : Room k A) (h : j <= k) : Room j A := ⟨r.hd, by have := r.dp; lia, by have := r.un; lia, r.gd⟩
theorem Room.deeper (r : Room (k + 1) A) (env : Env) : Room k (A.deeper env) :=
 ⟨r.hd, by have := r.dp; show A.depth + 1 + 3 * k + 5 < _; lia, by have := r.un; show A.units + 3 + 16 * k + 200 < _; lia, r.gd⟩
theorem Room.depth (r : Room k A) : A.depth < recursionLimit := by have := r.dp; lia
theorem Room.units (r : Room k A) : A.units + 64 < cLine := by have := r.un; lia
noncomputable def tNil : TA := fun _ H Q => Q [] H
noncomputable def tCons (ta : TE) (tr : TA) : TA := fun σ H Q => ta σ H fun x H1 => tr σ H1 fun xs H2 => Q (x :: xs) H2
section
variable {X : Cx} {e : Expr} {es : List Expr} {te : TE} {t : TA} {pos : Pos}
theorem zjv : PA X [] tNil := fun _ _ _ _ H Q I h => Calls.spliced_nil ⟨[], H, I, .nil, h⟩
theorem zds (ha : PE X e te) (hr : PA X es t) (hs : starEach (e :: es) X.env = (false, eval e X.env) :: starEach es X.env := by rfl) : PA X (e :: es) (tCons te t) := by
 intro pos pins s σ H Q I h
 rw [hs]
 show wpAny _ _ (spliced ((false, eval e X.env) :: backTo pos (starEach es X.env))) _ _ s
 refine Calls.spliced_cons (thn (ha pins s σ H _ I h) fun u s1 ⟨x, H1, I1, r1, q1⟩ => ?_)
 exact thn (hr pos pins s1 σ H1 _ I1 q1) fun us s2 ⟨xs, H2, I2, r2, q2⟩ => ⟨x :: xs, H2, I2, .cons r1 r2, q2⟩
noncomputable def tTup (t : TA) : TE := fun σ H Q => t σ H fun xs H1 => xs.length <= sizeLine /\ ∀ p, H1 p = none -> Q (.ref p) (upd H1 p (.tup xs))
noncomputable def tLst (t : TA) : TE := fun σ H Q => t σ H fun xs H1 => xs.length <= sizeLine /\ ∀ p, H1 p = none -> Q (.ref p) (upd H1 p (.lst xs))
theorem pe_tup {x1} (h : PA X es t) : PE X (.Tuple es x1 pos) (tTup t) := by
 intro pins s σ H Q I hq
 refine wpAny_Tuple_spliced (thn (h pos pins s σ H _ I hq) fun us s1 ⟨xs, H1, I1, r, z, q⟩ => ⟨by rw [<- r.length]; exact z, ?_⟩)
 have hf : H1 s1.heap.objs.size = none := I1.hok.fresh (Nat.le_refl _)
 refine ⟨.ref s1.heap.objs.size, upd H1 s1.heap.objs.size (.tup xs), I1.laid (t' := s1.toks) (fun b u e => Heap.get?_push_of_some _ e) (Nat.le_refl _) ?_, rfl, q _ hf⟩
 exact ⟨z, us, r, ⟨_, Heap.get?_push_size _ rfl, rfl, _, rfl⟩⟩
theorem pe_lst (h : PA X es t) : PE X (.List es pos) (tLst t) := by
 intro pins s σ H Q I hq
 refine wpAny_List_spliced (thn (h pos pins s σ H _ I hq) fun us s1 ⟨xs, H1, I1, r, z, q⟩ => ⟨by rw [<- r.length]; exact z, ?_⟩)
 have hf : H1 s1.heap.objs.size = none := I1.hok.fresh (Nat.le_refl _)
 refine ⟨.ref s1.heap.objs.size, upd H1 s1.heap.objs.size (.lst xs), I1.laid (t' := s1.toks) (fun b u e => Heap.get?_push_of_some _ e) (Nat.le_refl _) ?_, rfl, q _ hf⟩
 exact ⟨z, us, 0, r, Heap.get?_push_size _ rfl⟩
end
noncomputable abbrev Sp := List V -> Hp -> VK -> XK -> Prop
noncomputable abbrev CXT := List Env -> Hp -> Shared -> XK -> Value -> Shared -> Prop
structure Env0 (P : Program) (w : World) (K : W.Frag) (mg : Str -> Option Value) (base : Heap) (A : Around) (outer : List Env) (s : Shared) (H : Hp) : Prop where
 frames : A.frames = some outer
 mod : Mod K mg base
 bs : ∀ b o, base.get? b = some o -> s.heap.get? b = some o /\ H b = none
 bsz : base.objs.size <= s.heap.objs.size
 funs : s.heap.FunFrames base outer
 frf : ∀ b ∈ frs outer, H b = none
 hok : HOk P w H s.heap
 bare : AllBare s.gens
noncomputable def CE (outer : List Env) (P : Program) (w : World) (H : Hp) (s : Shared) (Q : VK) (u : Value) (s' : Shared) : Prop :=
 ∃ v H', s'.os = s.os /\ AllBare s'.gens /\ Un (frs outer) [] H H' s.heap s'.heap /\ HOk P w H' s'.heap /\ RelV v u /\ Q v H'
noncomputable def CR (CX : CXT) (outer : List Env) (P : Program) (w : World) (H : Hp) (s : Shared) (Q : VK) (E : XK) (r : Result) (s' : Shared) : Prop :=
 match r with
 | .ok (.ret u) => CE outer P w H s Q u s'
 | .ok _ => False
 | .error e => CX outer H s E e s'
structure FnOk (P : Program) (w : World) (K : W.Frag) (mg : Str -> Option Value) (base : Heap) (CX : CXT) (k : Nat) (f : Addr) (fd : FuncData) (ps : List Str) (sp : Sp) : Prop where
 len : ∀ vs H Q E, sp vs H Q E -> vs.length = ps.length
 run : ∀ (A : Around) (outer : List Env) (s : Shared) (H : Hp) (args : Args) (us : List Value) (vs : List V) (Q : VK) (E : XK), Room k A -> Env0 P w K mg base A outer s H -> BindsTo s fd args (ps.zip us) -> Vals vs us -> sp vs H Q E ->
  codeAny (model P w) A (.call (.ref f) args) (CR CX outer P w H s Q E) s
section
variable {X : Cx} {pins : List (Addr × Obj)} {σ : St} {H : Hp} {s s' : Shared}
theorem Inv.env0 (I : Inv X pins σ H s) : Env0 X.prog X.w X.K X.mg X.base X.A X.stack s H :=
 ⟨I.ok.frames, I.ok.mod, I.bs, Nat.le_trans I.ok.bsz I.sz, I.stack, I.stkFree, I.hok, I.bare⟩
theorem Inv.after {Q : VK} (I : Inv X pins σ H s) (h : CE X.stack X.prog X.w H s Q u s') : EP X pins σ Q u s' := by
 obtain ⟨v, H', os, bare, un, hok, r, q⟩ := h
 obtain ⟨hh, g, d, t, os'⟩ := s'
 obtain rfl : os' = s.os := os
 exact ⟨v, H', I.call (h' := hh) (g' := g) (d' := d) (t' := t) (ch := []) un hok bare (fun b z => absurd z (by simp)), r, q⟩
end
noncomputable def tCall (sp : Sp) (dvs : List V) (E : XK) (t : TA) : TE := fun σ H Q => t σ H fun vs H1 => sp (vs ++ dvs) H1 Q E
noncomputable def Binds (K : W.Frag) (fd : FuncData) (ps : List Str) (ds : List Value) : Prop :=
 ∀ (s : Shared) (us : List Value), K.In s.heap -> (us ++ ds).length = ps.length -> BindsTo s fd ⟨us, []⟩ (ps.zip (us ++ ds))
theorem Binds.all (h : ∀ us : List Value, us.length = ps.length -> bindArgs fd ⟨us, []⟩ = pure (ps.zip us)) : Binds K fd ps [] := fun s us _ hl => by
 rw [List.append_nil] at hl ⊢
 exact .of_eq (h us hl)
noncomputable def znT (CX : CXT) (X : Cx) (E : XK) : Prop := ∀ (pins : List (Addr × Obj)) (σ : St) (H : Hp) (s : Shared) (e : Value) (s' : Shared), Inv X pins σ H s -> CX X.stack H s E e s' -> X.xe e s'
section
variable {X : Cx} {CX : CXT} {k : Nat} {f C : Addr} {fd : FuncData} {ps : List Str} {sp : Sp} {dvs : List V} {ds : List Value} {E : XK} {x m : Str} {p pos apos : Pos} {e o : Expr} {es : List Expr} {ta : TE} {t : TA}
theorem run_fn {Q : VK} (F : FnOk X.prog X.w X.K X.mg X.base CX k f fd ps sp) (hr : Room k X.A) (hb : Binds X.K fd ps ds) (hd : Vals dvs ds) (hx : znT CX X E)
  (I : Inv X pins σ H s) (r : Vals vs us) (h : sp (vs ++ dvs) H Q E) : wpAny (model X.prog X.w) X.A (call (.ref f) us) (EP X pins σ Q) X.xe s := by
 have r2 : Vals (vs ++ dvs) (us ++ ds) := r.append hd
 have hl : (us ++ ds).length = ps.length := by rw [<- r2.length]; exact F.len _ _ _ _ h
 refine wpAny_call (codeAny_mono (F.run X.A X.stack s H ⟨us, []⟩ (us ++ ds) (vs ++ dvs) Q E hr I.env0 (hb s us I.kIn hl) r2 h) fun r s' hq => ?_)
 cases r with
 | error e => exact hx pins σ H s e s' I hq
 | ok fl =>
  cases fl with
  | ret u => exact I.after hq
  | next => exact False.elim hq
  | brk => exact False.elim hq
  | cont => exact False.elim hq
theorem zjV (F : FnOk X.prog X.w X.K X.mg X.base CX k f fd ps sp) (hr : Room k X.A) (hg : Gl X x) (hm : X.mg x = some (.ref f)) (hk : W.keepIn X.K (.ref f) = true) (hb : Binds X.K fd ps ds) (hd : Vals dvs ds) (hx : znT CX X E)
  (ha : PA X (e :: es) t) (hdb : (x == ("__debug__" : Str)) = false := by decide) (he : starEach (e :: es) X.env = (false, eval e X.env) :: starEach es X.env := by rfl) (hpl : (backTo pos (starEach es X.env)).any (·.1) = false := by rfl) :
  PE X (.Call (.Name x p) (e :: es) [] pos) (tCall sp dvs E t) := by
 intro pins s σ H Q I h
 refine wpAny_Call_Name_kw (znM I hg hm ?_ hdb)
 refine W.callWith_K (h₀ := X.base) I.ok.mod.kin hk (thn (ha pos pins s σ H _ I h) fun us s1 ⟨vs, H1, I1, r, q⟩ => ⟨I1.kIn, ?_⟩) he hpl
 exact run_fn F hr hb hd hx I1 r q
end
structure FnScope (N P : List Str) (sc : Scope) : Prop where
 kind : sc.kind = .function
 co : sc.isCoroutine = false
 gen : sc.isGenerator = false
 nd : N.Nodup
 pre : N.take P.length = P
 par : ∀ x ∈ P, sc.names.lookup x = some .local \/ sc.names.lookup x = some .cell
 nofree : ∀ y ∈ sc.names, y.2 ≠ .free
theorem zlq : ∀ {binds : List (Str × Value)} {m : Str -> Option Value}, (∀ v, (x, v) ∉ binds) -> bindL kindOf binds m x = m x
 | [], _, _ => rfl
 | (n, v) :: r, m, h => by
  unfold bindL
  rw [zlq fun w hw => h w (List.mem_cons_of_mem _ hw)]
  split
  ·have : x ≠ n := by rintro rfl; exact h v List.mem_cons_self
   simp [this]
  ·rfl
theorem zkH : ∀ {binds : List (Str × Value)} {m : Str -> Option Value}, (∀ v, (x, v) ∉ binds) -> bindC kindOf binds m x = m x
 | [], _, _ => rfl
 | (n, v) :: r, m, h => by
  unfold bindC
  rw [zkH fun w hw => h w (List.mem_cons_of_mem _ hw)]
  split
  ·rfl
  ·have : x ≠ n := by rintro rfl; exact h v List.mem_cons_self
   simp [this]
theorem zk2 {v : Value} : ∀ {P : List Str} {vs : List Value} {i : Nat} {m : Str -> Option Value}, P.Nodup -> P[i]? = some x -> vs[i]? = some v -> kindOf x = some .local ->
  bindL kindOf (P.zip vs) m x = some v
 | [], _, _, _, _, h, _, _ => by simp at h
 | _ :: _, [], _, _, _, _, h, _ => by simp at h
 | p :: P, w :: vs, 0, m, nd, h1, h2, hk => by
  simp at h1 h2; subst h1; subst h2
  show bindL kindOf ((p, w) :: P.zip vs) m p = _
  unfold bindL
  rw [zlq fun v hv => (List.nodup_cons.mp nd).1 (List.of_mem_zip hv).1, if_pos hk]
  simp
 | p :: P, w :: vs, i + 1, m, nd, h1, h2, hk => by
  show bindL kindOf ((p, w) :: P.zip vs) m x = _
  unfold bindL
  exact zk2 (i := i) (List.nodup_cons.mp nd).2 (by simpa using h1) (by simpa using h2) hk
theorem zkR {v : Value} : ∀ {P : List Str} {vs : List Value} {i : Nat} {m : Str -> Option Value}, P.Nodup -> P[i]? = some x -> vs[i]? = some v -> kindOf x ≠ some .local ->
  bindC kindOf (P.zip vs) m x = some v
 | [], _, _, _, _, h, _, _ => by simp at h
 | _ :: _, [], _, _, _, _, h, _ => by simp at h
 | p :: P, w :: vs, 0, m, nd, h1, h2, hk => by
  simp at h1 h2; subst h1; subst h2
  show bindC kindOf ((p, w) :: P.zip vs) m p = _
  unfold bindC
  rw [zkH fun v hv => (List.nodup_cons.mp nd).1 (List.of_mem_zip hv).1, if_neg hk]
  simp
 | p :: P, w :: vs, i + 1, m, nd, h1, h2, hk => by
  show bindC kindOf ((p, w) :: P.zip vs) m x = _
  unfold bindC
  exact zkR (i := i) (List.nodup_cons.mp nd).2 (by simpa using h1) (by simpa using h2) hk
noncomputable def start (N : List Str) (vs : List V) : St := vs.map some ++ List.replicate (N.length - vs.length) none
noncomputable def cxOf (CX : CXT) (P : Program) (w : World) (K : W.Frag) (mg : Str -> Option Value) (base : Heap) (N : List Str) (qual : Str) (scope : Scope) (f : Addr) (cd : Value) (A : Around) (outer : List Env) (s : Shared) (H : Hp) (E : XK) : Cx where
 prog := P
 w := w
 K := K
 mg := mg
 base := base
 A := A.deeper (envOfC qual scope s.heap.objs.size f cd)
 N := N
 s₀ := s
 H₀ := H
 env := envOfC qual scope s.heap.objs.size f cd
 outer := outer
 stack := envOfC qual scope s.heap.objs.size f cd :: outer
 ex := []
 calm := true
 fn := fun _ => true
 pn := []
 xe := fun e s' => wpAny (model P w) (A.deeper (envOfC qual scope s.heap.objs.size f cd)) (leaving (envOfC qual scope s.heap.objs.size f cd) e) (fun _ s'' => CX outer H s E e s'') (fun e' s'' => CX outer H s E e' s'') s'
theorem zmd (h : sc.names.lookup x = some .cell) : ∃ c, (cellsFrom n sc.names []).lookup x = some c := by
 have q := W.cellsFrom_some sc.names n [] (.inl h)
 exact Option.isSome_iff_exists.mp q
theorem zoH {P : Program} {f : Addr} {s s1 : Shared} {E : XK} 
  (S : FnScope N ps scope) (hd : A.handled = none) (e0 : Env0 P w K mg base A outer s H) (hl : vs.length = ps.length) (r : Vals vs us)
  (x : InCallC s s.heap.objs.size (bindL (envOfC qual scope s.heap.objs.size f cd).kindOf (ps.zip us) fun _ => none) (cellsFrom (s.heap.objs.size + 1) scope.names []) (bindC (envOfC qual scope s.heap.objs.size f cd).kindOf (ps.zip us) fun _ => none) s1) :
  Inv (cxOf CX P w K mg base N qual scope f cd A outer s H E) [] (start N vs) H s1 := by
 have hpl : ps.length <= N.length := by have := congrArg List.length S.pre; rw [List.length_take] at this; lia
 obtain ⟨h1, tk, rfl, hk⟩ := x.done
 have noA : ∀ b : Addr, b ∉ (cxOf CX P w K mg base N qual scope f cd A outer s H E).ex := fun b z => absurd (show b ∈ ([] : List Addr) from z) (by simp)
 refine ⟨⟨e0.mod, S.kind, rfl, rfl, Nat.le_refl _, fun y z c h1 h2 => ?_, fun y hy => ?_, fun y c _ h => ?_, fun _ => hd, Around.frames_deeper e0.frames, .inr ⟨rfl, rfl⟩, fun b z => absurd z (noA b), e0.bs, e0.bsz, fun b _ _ => noA b, fun b z => absurd z (noA b), e0.funs, e0.frf⟩,
  rfl, e0.bare, Un.kept hk, ⟨_, x.toInCall.ns, fun i y v h1 h2 h3 => ?_⟩, fun y c h => ⟨_, x.cell y c h⟩, e0.hok.fresh (Nat.le_refl _), fun y c h => ?_, fun p hp => absurd (show p ∈ ([] : List (Addr × Obj)) from hp) (by simp), e0.hok.kept hk, ?_⟩
 ·exact name_of_addr x.apart (PySem.mem_of_lookup h1) (PySem.mem_of_lookup h2)
 ·have hy : scope.names.lookup y = some .cell \/ scope.names.lookup y = some .free := hy
  rcases hy with hy | hy
  ·exact zmd hy
  ·exact absurd rfl (S.nofree _ (PySem.mem_of_lookup hy))
 ·exact Nat.le_of_lt (x.above y c (PySem.mem_of_lookup h))
 ·have hi : i < vs.length := by
   unfold start at h2
   by_cases hi : i < vs.length
   ·exact hi
   ·rw [List.getElem?_append_right (by simpa using hi)] at h2
    rw [List.getElem?_replicate] at h2
    split at h2 <;> cases h2
  have ha : vs[i]? = some v := by
   unfold start at h2
   rw [List.getElem?_append_left (by simpa using hi), List.getElem?_map] at h2
   cases e : vs[i]? with
   | none => rw [e] at h2; cases h2
   | some a => rw [e] at h2; cases h2; rfl
  obtain ⟨u, hu, rv⟩ := r.get ha
  have hp : ps[i]? = some y := by
   rw [<- S.pre, List.getElem?_take_of_lt (by lia)]; exact h1
  have ndP : ps.Nodup := by rw [<- S.pre]; exact S.nd.sublist (List.take_sublist _ _)
  refine ⟨u, rv, ?_⟩
  rcases S.par y (List.mem_of_getElem? hp) with k | k
  ·exact .inl ⟨k, zk2 ndP hp hu k⟩
  ·obtain ⟨c, e⟩ := zmd (n := s.heap.objs.size + 1) k
   refine .inr ⟨.inl k, c, e, ?_⟩
   have q := x.cell y c e
   rw [zkR ndP hp hu (by show scope.names.lookup y ≠ _; rw [k]; decide)] at q
   exact q
 ·exact e0.hok.fresh (Nat.le_of_lt (x.above y c (PySem.mem_of_lookup h)))
 ·unfold start
  show _ = N.length
  rw [List.length_append, List.length_map, List.length_replicate]
  lia
theorem fn_of {P : Program} {f : Addr} {name qual : Str} {dV kV doc pm cdv ct oc : Value} {an od : Option Addr}
  {osl : Array (Option Value)} {N ps : List Str} {sp : Sp} (lk : K.lookup f = some ⟨oc, od, .func (W.fnOf name qual params body scope dV kV doc pm an cdv ct), osl⟩) (hcd : W.codeIn K cdv qual = true) (S : FnScope N ps scope)
  (len : ∀ vs H Q E, sp vs H Q E -> vs.length = ps.length)
  (hbody : ∀ (A : Around) (outer : List Env) (s : Shared) (H : Hp) (vs : List V) (Q : VK) (E : XK), Room k (A.deeper (envOfC qual scope s.heap.objs.size f cdv)) -> sp vs H Q E ->
   ∃ t, PSs (cxOf CX P w K mg base N qual scope f cdv A outer s H E) body t /\ t { nx := fun _ H' => Q .non H', rt := Q } (start N vs) H) :
  FnOk P w K mg base CX (k + 1) f (W.fnOf name qual params body scope dV kV doc pm an cdv ct) ps sp := by
 refine ⟨len, fun A outer s H args us vs Q E hr e0 hb r hsp => ?_⟩
 have hl := len _ _ _ _ hsp
 have KX : K.In s.heap := e0.mod.kin.keeps fun b o e => (e0.bs b o e).1
 have lim : s.heap.NoLimit := e0.mod.nolimit.keeps fun b o e => (e0.bs b o e).1
 have hkind : ∀ y ∈ ps.zip us, scope.names.lookup y.1 = some .local \/ (scope.names.lookup y.1 = some .cell /\ ((cellsFrom (s.heap.objs.size + 1) scope.names []).lookup y.1).isSome = true) := fun ⟨n, v⟩ hy => by
  rcases S.par n (List.of_mem_zip hy).1 with q | q
  ·exact .inl q
  ·exact .inr ⟨q, W.cellsFrom_some _ _ _ (.inl q)⟩
 refine codeAny_call_function hr.depth (KX _ _ lk) rfl S.co S.gen rfl (W.codeRec_of KX hcd) (hb _ _ _ _ ?_)
 refine wpAny_newFunctionEnv_cells S.kind hkind fun env he s1 x => ?_
 subst he
 refine ⟨lim.keeps x.toInCall.keep, codeAny_func ?_⟩
 obtain ⟨t, ht, hq⟩ := hbody A outer s H vs Q E (hr.deeper _) hsp
 have I : Inv (cxOf CX P w K mg base N qual scope f cdv A outer s H E) [] (start N vs) H s1 := zoH S hr.hd e0 hl r x
 refine wpAny_mono (ht [] s1 (start N vs) H _ I hq) (fun fl s' hs => ?_) fun e s' hs => hs
 have fin : ∀ {σ' : St} {H' : Hp} {v : V} {u : Value}, Inv (cxOf CX P w K mg base N qual scope f cdv A outer s H E) [] σ' H' s' -> RelV v u -> Q v H' -> CE outer P w H s Q u s' :=
  fun {σ' H' v u} J rv q => ⟨v, H', J.os, J.bare, J.base, J.hok, rv, q⟩
 cases fl with
 | ret u =>
  obtain ⟨v, σ', H', J, rv, q⟩ := hs
  exact fin J rv q
 | next =>
  obtain ⟨σ', H', J, q⟩ := hs
  exact fin (v := V.non) (u := Value.none) J rfl q
 | brk =>
  obtain ⟨_, _, _, q⟩ := hs
  exact False.elim q
 | cont =>
  obtain ⟨_, _, _, q⟩ := hs
  exact False.elim q
section
variable {X : Cx} {x : Str} {p pos : Pos} {e : Expr} {es : List Expr} {t : TA} {id T : String} {r : List V -> Hp -> VK -> Prop}
noncomputable def tCB (r : List V -> Hp -> VK -> Prop) (t : TA) : TE := fun σ H Q => t σ H fun vs H1 => r vs H1 Q
theorem zmC (hc : zhe X (.builtin id) r) (hg : Gl X x) (hm : X.mg x = none) (hv : bootBuiltins x = some (.builtin id)) (ha : PA X (e :: es) t) (hn : x ≠ "__name__" := by decide) (hdb : (x == ("__debug__" : Str)) = false := by decide)
  (he : starEach (e :: es) X.env = (false, eval e X.env) :: starEach es X.env := by rfl) (hpl : (backTo pos (starEach es X.env)).any (·.1) = false := by rfl) : PE X (.Call (.Name x p) (e :: es) [] pos) (tCB r t) := by
 intro pins s σ H Q I h
 refine wpAny_Call_Name_kw (zhF I hg hm hv ?_ hn hdb)
 exact PyProof.Rows.callWith_builtin1 (thn (ha pos pins s σ H _ I h) fun us s1 ⟨vs, H1, I1, r1, q1⟩ => hc pins s1 σ H1 vs us Q I1 r1 q1) he hpl
theorem zk4 (hc : zhe X (.type T) r) (hg : Gl X x) (hm : X.mg x = none) (hv : bootBuiltins x = some (.type T)) (ha : PA X (e :: es) t) (hn : x ≠ "__name__" := by decide) (hdb : (x == ("__debug__" : Str)) = false := by decide)
  (he : starEach (e :: es) X.env = (false, eval e X.env) :: starEach es X.env := by rfl) (hpl : (backTo pos (starEach es X.env)).any (·.1) = false := by rfl) : PE X (.Call (.Name x p) (e :: es) [] pos) (tCB r t) := by
 intro pins s σ H Q I h
 refine wpAny_Call_Name_kw (zhF I hg hm hv ?_ hn hdb)
 exact PyProof.Rows.callWith_type1 (thn (ha pos pins s σ H _ I h) fun us s1 ⟨vs, H1, I1, r1, q1⟩ => hc pins s1 σ H1 vs us Q I1 r1 q1) he hpl
end
end L2
namespace HT
open PyProof.Rows PySem
section
variable {prog : Program} {w : World} {A : Around} {E : Value -> Shared -> Prop} {s : Shared}
theorem cat_tup {t b : Addr} {vs ws : List Value} {Q : Value -> Shared -> Prop} (ht : IsTup s.heap t vs.toArray) (hb : IsTup s.heap b ws.toArray) (hv : vs ≠ [])
  (h1 : ws = [] -> Q (.ref t) s) (h2 : ws ≠ [] -> Q (.ref s.heap.objs.size) { s with heap := s.heap.push { cls := .type "tuple", data := .seq (vs ++ ws).toArray } })
  (hsz : vs.length + ws.length <= sizeLine) : wpAny (model prog w) A (binaryOp .Add (.ref t) (.ref b)) Q E s := by
 obtain ⟨⟨cls, dd, data, sl⟩, ho, hc, n, hd⟩ := id ht
 obtain ⟨⟨cls2, dd2, data2, sl2⟩, ho2, hc2, n2, hd2⟩ := id hb
 simp only at hc hd hc2 hd2
 subst hc hd hc2 hd2
 have e : vs.toArray ++ ws.toArray = (vs ++ ws).toArray := by simp
 by_cases hw : ws = []
 ·exact concat_meets ⟨_, ho, rfl⟩ ⟨_, ho2, rfl⟩ noFill_tuple_add seq_tuple_add PySem.F.slot_tuple_add PySem.F.entry_tuple_add (PySem.F.args_tuple_add_2 _ _)
   (tuple_addW1 t b vs.toArray ws.toArray n n2 dd dd2 sl sl2 (by simpa using hv) (by simp [hw])) ⟨ho, ho2, h1 hw⟩
 ·refine concat_meets ⟨_, ho, rfl⟩ ⟨_, ho2, rfl⟩ noFill_tuple_add seq_tuple_add PySem.F.slot_tuple_add PySem.F.entry_tuple_add (PySem.F.args_tuple_add_2 _ _)
   (tuple_addW2 t b vs.toArray ws.toArray n n2 dd dd2 sl sl2 (by simpa using hv) (by simpa using hw) (by rw [List.size_toArray, List.size_toArray]; exact hsz)) ⟨ho, ho2, ?_⟩
  rw [e]
  exact h2 hw
noncomputable def sIx (n d : Nat) : Option Int -> Nat
 | none => d
 | some v => if v < 0 then (v + (n : Int)).toNat else min v.toNat n
theorem zkw (n d : Nat) : sIx n d none = d := rfl
theorem zkF (n d k : Nat) : sIx n d (some (k : Int)) = min k n := by
 show (if (k : Int) < 0 then ((k : Int) + (n : Int)).toNat else min (k : Int).toNat n) = min k n
 rw [if_neg (by lia), Int.toNat_natCast]
theorem sIx_le (n d : Nat) (hd : d <= n) (o : Option Int) : sIx n d o <= n := by
 cases o with
 | none => exact hd
 | some v =>
  show (if v < 0 then (v + (n : Int)).toNat else min v.toNat n) <= n
  by_cases hv : v < 0
  ·rw [if_pos hv]; lia
  ·rw [if_neg hv]; exact Nat.min_le_right _ _
theorem znI (v : Int) (n d : Nat) : (if v < 0 then max (v + (n : Int)) 0 else min v (n : Int)) = ((sIx n d (some v) : Nat) : Int) := by
 show (if v < 0 then max (v + (n : Int)) 0 else min v (n : Int)) = (((if v < 0 then (v + (n : Int)).toNat else min v.toNat n) : Nat) : Int)
 by_cases hv : v < 0
 ·simp only [if_pos hv]; lia
 ·simp only [if_neg hv]; lia
theorem zne (lo hi : Option Int) (n : Nat) : Builtin.Slice.sliceAdjust lo hi 1 (n : Int) = (((sIx n 0 lo : Nat) : Int), ((sIx n n hi : Nat) : Int)) := by
 have h1 : ¬ ((1 : Int) < 0) := by lia
 unfold Builtin.Slice.sliceAdjust
 simp only [h1, if_false]
 refine Prod.ext ?_ ?_
 ·cases lo with
  | none => rfl
  | some v => exact znI v n 0
 ·cases hi with
  | none => rfl
  | some v => exact znI v n n
theorem zng (i j : Nat) : Builtin.Slice.slicePlaces (i : Int) (j : Int) 1 = j - i := by
 unfold Builtin.Slice.slicePlaces
 have h1 : (1 : Int) > 0 := by lia
 simp only [h1, if_true, Int.ediv_one]
 split <;> lia
theorem zjp {v : Value} {o : Option Int} {Q : Option Int -> Shared -> Prop} (p : IsPart v o) (h : Q o s) : wpAny (model prog w) A (Builtin.Slice.slicePartIndex v) Q E s := by
 cases p with
 | none => exact slicePart_none h
 | int i t => exact slicePart_int h
theorem zeu {sl : Addr} {vl vu : Value} {lo hi : Option Int} {n : Nat} {Q : Int × Int × Nat -> Shared -> Prop} (hs : s.heap.IsSliceOf sl vl vu .none) (pl : IsPart vl lo) (pu : IsPart vu hi)
  (h : Q (((sIx n 0 lo : Nat) : Int), 1, sIx n n hi - sIx n 0 lo) s) : wpAny (model prog w) A (Builtin.Slice.sliceApplied (.ref sl) (pure (n : Int))) Q E s := by
 obtain ⟨os, hos, hcs, hds⟩ := id hs
 unfold Builtin.Slice.sliceApplied Builtin.Slice.sliceFields
 refine wpAny_bind (wpAny_bind (wpAny_field hos hds (x := vl) rfl (wpAny_bind (wpAny_field hos hds (x := vu) rfl (wpAny_bind (wpAny_field hos hds (x := .none) rfl (wpAny_pure ?_)))))))
 refine wpAny_bind (slicePart_none ?_)
 show wpAny _ _ (if ((1 : Int) == 0) = true then _ else _) _ _ s
 rw [if_neg (by decide)]
 refine wpAny_bind (zjp pl (wpAny_bind (zjp pu (wpAny_bind (wpAny_pure ?_)))))
 show wpAny _ _ (match Builtin.Slice.sliceAdjust lo hi 1 (n : Int) with | (lo, hi) => pure (lo, (1 : Int), Builtin.Slice.slicePlaces lo hi 1)) _ _ s
 rw [zne lo hi n]
 show wpAny _ _ (pure (((sIx n 0 lo : Nat) : Int), (1 : Int), Builtin.Slice.slicePlaces ((sIx n 0 lo : Nat) : Int) ((sIx n n hi : Nat) : Int) 1)) _ _ s
 rw [zng]
 exact wpAny_pure h
theorem pick_gen (xs : Array Value) (i k : Nat) : ((List.range k).filterMap fun (m : Nat) => xs[((i : Int) + (m : Int) * 1).toNat]?).toArray = ((xs.toList.drop i).take k).toArray := by
 have e : (fun (m : Nat) => xs[((i : Int) + (m : Int) * 1).toNat]?) = fun m => xs[i + m]? := by
  funext m
  have : ((i : Int) + (m : Int) * 1).toNat = i + m := by lia
  rw [this]
 rw [e]
 have := pick_run xs i k
 rw [List.filterMap_map] at this
 have e2 : ((fun x => xs[x]?) ∘ fun x => i + x) = fun m => xs[i + m]? := rfl
 rw [e2] at this
 rw [this]
theorem zhU {t sl : Addr} {items : Array Value} {vl vu : Value} {lo hi : Option Int} {Q : Value -> Shared -> Prop} (ht : IsTup s.heap t items) (hs : s.heap.IsSliceOf sl vl vu .none) (pl : IsPart vl lo) (pu : IsPart vu hi)
  (hw : ¬ (sIx items.size 0 lo = 0 /\ sIx items.size items.size hi = items.size))
  (h : Q (.ref s.heap.objs.size) { s with heap := s.heap.push { cls := .type "tuple", data := .seq ((items.toList.drop (sIx items.size 0 lo)).take (sIx items.size items.size hi - sIx items.size 0 lo)).toArray } })
  (hsz : items.size <= sizeLine) : wpAny (model prog w) A (getItem (.ref t) (.ref sl)) Q E s := by
 have htake : sizeOk (.seq ((items.toList.drop (sIx items.size 0 lo)).take (sIx items.size items.size hi - sIx items.size 0 lo)).toArray) := by
  show ((items.toList.drop (sIx items.size 0 lo)).take (sIx items.size items.size hi - sIx items.size 0 lo)).toArray.size <= sizeLine
  rw [List.size_toArray, List.length_take, List.length_drop, Array.length_toList]
  lia
 have hj : sIx items.size items.size hi <= items.size := sIx_le _ _ (Nat.le_refl _) hi
 obtain ⟨os, hos, hcs, hds⟩ := id hs
 have hTs : s.TypeIs (.ref sl) "slice" := ⟨os, hos, hcs⟩
 unfold getItem
 try with_reducible refine wpAny_holding ?_
 first | refine wpAny_bind (wpAny_pure ?_) | skip
 refine wpAny_bind (wpAny_sequenceKey ht.typeIs (by decide) ?_)
 refine wpAny_bind (wpAny_callSpecial?_slot (name := Str.ofString "__getitem__") ht.typeIs PyProof.Rows.slot_tuple_getitem
  (wpAny_call_entry PyProof.Rows.slot_tuple_getitem ht.typeIs entry_tuple_getitem ?_ (args_tuple_getitem _ _)))
 show wpAny _ _ (Builtin.Tuple.tupleItemsOf (.ref t) >>= _) _ _ s
 refine wpAny_bind (tupleItemsOf_ ht ?_)
 refine wpAny_bind (wpAny_typeOf hTs ?_)
 rw [if_pos (by decide)]
 refine wpAny_bind (zeu hs pl pu ?_)
 have hno : ¬ ((((sIx items.size 0 lo : Nat) : Int) == 0 && (1 : Int) == 1 && (sIx items.size items.size hi - sIx items.size 0 lo) == items.size) = true) := by
  intro q
  rw [Bool.and_eq_true, Bool.and_eq_true] at q
  have q1 : ((sIx items.size 0 lo : Nat) : Int) = 0 := eq_of_beq q.1.1
  have q2 : sIx items.size items.size hi - sIx items.size 0 lo = items.size := eq_of_beq q.2
  exact hw ⟨by lia, by lia⟩
 show wpAny _ _ (if (((sIx items.size 0 lo : Nat) : Int) == 0 && (1 : Int) == 1 && (sIx items.size items.size hi - sIx items.size 0 lo) == items.size) = true then _ else _) _ _ s
 rw [if_neg hno, pick_gen]
 first
  | exact wpAny_bind (m := Builtin.Tuple.tupleExact _) (wpAny_newObj_type (wpAny_pure ⟨_, rfl, wpAny_pure h⟩) htake)
  | exact wpAny_bind (m := Builtin.Tuple.tupleExact _) (wpAny_newObj_type (wpAny_bind (wpAny_pure (wpAny_pure ⟨_, rfl, wpAny_pure h⟩))) htake)
  | exact wpAny_bind (wpAny_bind (m := Builtin.Tuple.tupleExact _) (wpAny_newObj_type (wpAny_pure (wpAny_pure ⟨_, rfl, wpAny_pure h⟩)) htake))
  | exact wpAny_bind (wpAny_bind (m := Builtin.Tuple.tupleExact _) (wpAny_newObj_type (wpAny_pure ⟨_, rfl, wpAny_pure h⟩) htake))
end
end HT
namespace L2
open PyProof.Rows PySem PySem.Spec
variable {ns : List Int} {r r' : V -> Option Int -> Option Int -> Hp -> VK -> Prop} {xs : List V} {us its its' : List Value} {n j t' : Nat} {i : Int} {pins : List (Addr × Obj)} {σ : St} {H : Hp} {s : Shared} {p : Addr} {f : Array Value -> Array Value} {A : Around} {y x : V} {u v : Value}
noncomputable abbrev TO := St -> Hp -> (Option Int -> Hp -> Prop) -> Prop
noncomputable def PO (X : Cx) (e : Option Expr) (t : TO) : Prop :=
 ∀ (pins : List (Addr × Obj)) (s : Shared) (σ : St) (H : Hp) (Q : Option Int -> Hp -> Prop), Inv X pins σ H s -> t σ H Q ->
  wpAny (model X.prog X.w) X.A (evalPart e X.env) (fun u s' => ∃ o H', Inv X pins σ H' s' /\ IsPart u o /\ Q o H') X.xe s
noncomputable def tNoPart : TO := fun _ H Q => Q none H
noncomputable def tPart (t : TE) : TO := fun σ H Q => t σ H fun x H1 => ∃ i, x = .int i /\ Q (some i) H1
theorem zns : ∀ {us : List Value}, Vals (ns.map V.int) us -> IntsAre us ns := by
 induction ns with
 | nil => intro us r; rw [List.map_nil] at r; cases r; exact .nil
 | cons n ns ih =>
  intro us r
  rw [List.map_cons] at r
  cases r with
  | cons r1 r2 =>
   obtain ⟨t, e⟩ := r1
   subst e
   exact .cons n t (ih r2)
section
variable {X : Cx} {e : Expr} {te : TE} {lo hi : Option Expr} {tl th : TO} {pos p2 : Pos}
theorem po_none : PO X none tNoPart := by
 intro pins s σ H Q I h
 rw [evalPart_none]
 exact wpAny_pure ⟨none, H, I, .none, h⟩
theorem po_some (h : PE X e te) : PO X (some e) (tPart te) := by
 intro pins s σ H Q I hw
 rw [evalPart_some]
 refine thn (h pins s σ H _ I hw) fun u s1 ⟨x, H1, I1, r1, q1⟩ => ?_
 obtain ⟨i, rfl, q⟩ := q1
 obtain ⟨t, rfl⟩ := r1
 exact ⟨some i, H1, I1, .int i t, q⟩
noncomputable def SlR (X : Cx) (r : V -> Option Int -> Option Int -> Hp -> VK -> Prop) : Prop :=
 ∀ (pins : List (Addr × Obj)) (s : Shared) (σ : St) (H : Hp) (x : V) (v vl vu : Value) (lo hi : Option Int) (sl : Addr) (Q : VK), Inv X pins σ H s -> RelV x v -> s.heap.IsSliceOf sl vl vu .none -> IsPart vl lo -> IsPart vu hi -> r x lo hi H Q ->
  ∃ T id, typeLookup (.type T) "__getitem__" = pure (some (.builtin id)) /\ s.TypeIs v T /\ wpAny (model X.prog X.w) X.A (getItem v (.ref sl)) (EP X pins σ Q) X.xe s
theorem SlR.or (h : SlR X r) (h' : SlR X r') : SlR X (fun x lo hi H Q => r x lo hi H Q \/ r' x lo hi H Q) := by
 intro pins s σ H x v vl vu lo hi sl Q I rx hs pl pu q
 rcases q with q | q
 ·exact h pins s σ H x v vl vu lo hi sl Q I rx hs pl pu q
 ·exact h' pins s σ H x v vl vu lo hi sl Q I rx hs pl pu q
noncomputable def tSl (r : V -> Option Int -> Option Int -> Hp -> VK -> Prop) (te : TE) (tl th : TO) : TE := fun σ H Q => te σ H fun x H1 => tl σ H1 fun l H2 => th σ H2 fun u H3 => r x l u H3 Q
theorem pe_slice (hr : SlR X r) (he : PE X e te) (hl : PO X lo tl) (hu : PO X hi th) : PE X (.Subscript e (.Slice lo hi none p2) pos) (tSl r te tl th) := by
 intro pins s σ H Q I h
 refine Subscript_ (thn (he pins s σ H _ I h) fun v s1 ⟨x, H1, I1, r1, q1⟩ => ?_)
 refine wpAny_Slice (thn (hl pins s1 σ H1 _ I1 q1) fun vl s2 ⟨l, H2, I2, pl, q2⟩ => thn (hu pins s2 σ H2 _ I2 q2) fun vu s3 ⟨u, H3, I3, pu, q3⟩ => ?_)
 rw [evalPart_none]
 refine wpAny_pure ?_
 have I4 : Inv X pins σ H3 { s3 with heap := s3.heap.push { cls := .type "slice", data := .fields #[vl, vu, .none] } } := I3.kept (t' := s3.toks) fun b ob q => Heap.get?_push_of_some _ q
 obtain ⟨T, id, hT, ht, hg⟩ := hr pins { s3 with heap := s3.heap.push { cls := .type "slice", data := .fields #[vl, vu, .none] } } σ H3 x v vl vu l u s3.heap.objs.size Q I4 r1 (Heap.IsSliceOf.new ..) pl pu q3
 show wpAny (model X.prog X.w) X.A (subscriptTail e (.Slice lo hi none p2) v (.ref s3.heap.objs.size)) (EP X pins σ Q) X.xe { s3 with heap := s3.heap.push { cls := .type "slice", data := .fields #[vl, vu, .none] } }
 exact tail_any (ops := [.ref s3.heap.objs.size, v]) ht hT hg (by with_unfolding_all rfl)
noncomputable def cutV (xs : List V) (lo hi : Option Int) : List V := (xs.drop (HT.sIx xs.length 0 lo)).take (HT.sIx xs.length xs.length hi - HT.sIx xs.length 0 lo)
theorem ziX (xs : List V) (lo hi : Option Int) : (cutV xs lo hi).length <= xs.length := by
 unfold cutV
 rw [List.length_take, List.length_drop]
 lia
noncomputable def rSlT (K : W.Frag) : V -> Option Int -> Option Int -> Hp -> VK -> Prop := fun x lo hi H Q => ∃ a xs, x = .ref a /\ SqT K H a xs /\
 ¬ (HT.sIx xs.length 0 lo = 0 /\ HT.sIx xs.length xs.length hi = xs.length) /\ ∀ p, H p = none -> Q (.ref p) (upd H p (.tup (cutV xs lo hi)))
theorem sl_tup : SlR X (rSlT X.K) := by
 intro pins s σ H x v vl vu lo hi sl Q I rx hs pl pu h
 obtain ⟨a, xs, rfl, hx, hw, q⟩ := h
 cases rx
 obtain ⟨its, r, ht, hz⟩ := I.tuple hx
 have hlen : its.toArray.size = xs.length := by rw [List.size_toArray]; exact r.length.symm
 refine ⟨"tuple", _, PyProof.Rows.slot_tuple_getitem.lookup, ht.typeIs, ?_⟩
 refine HT.zhU ht hs pl pu (by rw [hlen]; exact hw) ?_ (by rw [hlen]; exact hz)
 rw [hlen]
 refine ⟨.ref s.heap.objs.size, _, I.laid (t' := s.toks) (o := .tup (cutV xs lo hi)) (fun b ob q => Heap.get?_push_of_some _ q) (Nat.le_refl _) ?_, rfl, q _ (I.hok.fresh (Nat.le_refl _))⟩
 exact ⟨Nat.le_trans (ziX xs lo hi) hz, _, (r.drop (HT.sIx xs.length 0 lo)).take (HT.sIx xs.length xs.length hi - HT.sIx xs.length 0 lo), IsTup.new _ _⟩
noncomputable def rCatT (K : W.Frag) : R2 := fun x y H Q => ∃ a b xs ys, x = .ref a /\ y = .ref b /\ SqT K H a xs /\ SqT K H b ys /\ xs ≠ [] /\ xs.length + ys.length <= sizeLine /\
 (ys = [] -> Q (.ref a) H) /\ (ys ≠ [] -> ∀ p, H p = none -> Q (.ref p) (upd H p (.tup (xs ++ ys))))
theorem Vals.nil_iff (r : Vals xs us) : us = [] ↔ xs = [] := by
 cases r with
 | nil => simp
 | cons _ _ => simp
theorem op_catT : OpR X (binaryOp .Add) (rCatT X.K) := by
 intro pins s σ H x y v u Q I rx ry h
 obtain ⟨a, b, xs, ys, rfl, rfl, ha, hb, hx, hz, q1, q2⟩ := h
 cases rx
 cases ry
 obtain ⟨its, r1, p1, _⟩ := I.tuple ha
 obtain ⟨its2, r2, p2, _⟩ := I.tuple hb
 refine HT.cat_tup p1 p2 (fun z => hx (r1.nil_iff.mp z)) (fun z => ⟨.ref a, H, I, rfl, q1 (r2.nil_iff.mp z)⟩) (fun z => ?_) (by rw [<- r1.length, <- r2.length]; exact hz)
 refine ⟨.ref s.heap.objs.size, _, I.laid (t' := s.toks) (o := .tup (xs ++ ys)) (fun b ob q => Heap.get?_push_of_some _ q) (Nat.le_refl _) ?_, rfl, q2 (fun w => z (r2.nil_iff.mpr w)) _ (I.hok.fresh (Nat.le_refl _))⟩
 exact ⟨by rw [List.length_append]; exact hz, _, r1.append r2, IsTup.new _ _⟩
end
noncomputable def ixN (n : Nat) (i : Int) : Option Nat := if 0 <= i then (if i < n then some i.toNat else none) else if -(n : Int) <= i then some (i + n).toNat else none
noncomputable def atI {α : Type} (xs : List α) (i : Int) : Option α := (ixN xs.length i).bind fun j => xs[j]?
theorem zoT {n : Nat} (h : ixN n i = some j) : seqIndex? i n = some j /\ j < n /\ -(n : Int) <= i /\ i < n := by
 unfold ixN at h
 by_cases h0 : 0 <= i
 ·rw [if_pos h0] at h
  by_cases h1 : i < n
  ·rw [if_pos h1] at h
   have e : i.toNat = j := Option.some.inj h
   exact ⟨by rw [seqIndex_of h0 h1, e], by lia, by lia, h1⟩
  ·rw [if_neg h1] at h; cases h
 ·rw [if_neg h0] at h
  by_cases h1 : -(n : Int) <= i
  ·rw [if_pos h1] at h
   have e : (i + n).toNat = j := Option.some.inj h
   exact ⟨by rw [seqIndex_neg (by lia) h1, e], by lia, h1, by lia⟩
  ·rw [if_neg h1] at h; cases h
theorem zlD {α : Type} {xs : List α} {v : α} (h : atI xs i = some v) : ∃ j, seqIndex? i xs.length = some j /\ xs[j]? = some v /\ j < xs.length /\ -(xs.length : Int) <= i /\ i < xs.length := by
 unfold atI at h
 cases e : ixN xs.length i with
 | none => rw [e] at h; cases h
 | some j =>
  rw [e] at h
  obtain ⟨h1, h2, h3, h4⟩ := zoT e
  exact ⟨j, h1, h, h2, h3, h4⟩
theorem zmB {α : Type} (xs : List α) (v : α) : atI (xs ++ [v]) (-1) = some v := by
 have hl : (xs ++ [v]).length = xs.length + 1 := by simp
 have e : ixN (xs ++ [v]).length (-1) = some xs.length := by
  unfold ixN
  rw [hl, if_neg (by decide), if_pos (by lia)]
  congr 1
  lia
 unfold atI
 rw [e]
 show (xs ++ [v])[xs.length]? = some v
 simp
noncomputable def zj3 (b : Expr) : Prop := ∀ o i, subscripted b false o i = operate [o, i] (getItem o i)
noncomputable def IxR (X : Cx) (r : R2) : Prop :=
 ∀ (value slice : Expr) (pins : List (Addr × Obj)) (s : Shared) (σ : St) (H : Hp) (x y : V) (v u : Value) (Q : VK), Inv X pins σ H s -> RelV x v -> RelV y u -> r x y H Q ->
  subscripted slice false v u = operate [v, u] (getItem v u) -> wpAny (model X.prog X.w) X.A (subscriptTail value slice v u) (EP X pins σ Q) X.xe s
noncomputable def MtR (X : Cx) (id : String) (r : V -> List V -> Hp -> VK -> Prop) : Prop :=
 ∀ (pins : List (Addr × Obj)) (s : Shared) (σ : St) (H : Hp) (x : V) (xs : List V) (v : Value) (us : List Value) (Q : VK), Inv X pins σ H s -> RelV x v -> Vals xs us -> r x xs H Q ->
  wpAny (model X.prog X.w) X.A (call (.builtin id) (v :: us)) (EP X pins σ Q) X.xe s
section
variable {X : Cx} {a b : Expr} {ta tb : TE} {pos : Pos}
theorem IxR.or {r r' : R2} (h : IxR X r) (h' : IxR X r') : IxR X (fun x y H Q => r x y H Q \/ r' x y H Q) := by
 intro value slice pins s σ H x y v u Q I rx ry q hs
 rcases q with q | q
 ·exact h value slice pins s σ H x y v u Q I rx ry q hs
 ·exact h' value slice pins s σ H x y v u Q I rx ry q hs
theorem pe_ix {r : R2} (hr : IxR X r) (ha : PE X a ta) (hb : PE X b tb) (hs : zj3 b) : PE X (.Subscript a b pos) (tOp r ta tb) := by
 intro pins s σ H Q I h
 exact Subscript_ (binT ha hb I h fun v u s2 x y H2 I2 rx ry q => hr a b pins s2 σ H2 x y v u Q I2 rx ry q (hs _ _))
noncomputable def rIxL (K : W.Frag) : R2 := fun x y H Q => ∃ p xs i v, x = .ref p /\ y = .int i /\ SqL K H p xs /\ atI xs i = some v /\ Q v H
noncomputable def rIxT (K : W.Frag) : R2 := fun x y H Q => ∃ p xs i v, x = .ref p /\ y = .int i /\ SqT K H p xs /\ atI xs i = some v /\ Q v H
noncomputable def rIxS : R2 := fun x y H Q => ∃ z i c, x = .str z /\ y = .int i /\ z.length <= sizeLine /\ atI z.cps.toList i = some c /\ Q (.str ⟨#[c]⟩) H
theorem ix_list : IxR X (rIxL X.K) := by
 intro value slice pins s σ H x y v u Q I rx ry h hs
 obtain ⟨p, xs, i, z, rfl, rfl, hq, he, q⟩ := h
 cases rx
 obtain ⟨t, rfl⟩ := ry
 obtain ⟨its, r, pl, hz⟩ := I.list hq
 obtain ⟨j, h1, h2, h3, h4, h5⟩ := zlD he
 obtain ⟨w, ew, rw'⟩ := r.get h2
 have hl := r.length
 have hn := zjF
 have fin : EP X pins σ Q w s := ⟨z, H, I, rw', q⟩
 by_cases h0 : 0 <= i
 ·have hj : i.toNat = j := by
   rw [seqIndex_of h0 h5] at h1
   exact Option.some.inj h1
  exact item_listR pl.isList h0 (by lia) (by rw [hj]; simpa using ew) fin hs
 ·have hj : (i + (its.toArray.size : Int)).toNat = j := by
   rw [seqIndex_neg (by lia) h4] at h1
   rw [List.size_toArray, <- hl]
   exact Option.some.inj h1
  exact subscriptTail_builtinR (x := w) pl.isList.typeIs slot_list_getitem.lookup
   (wpAny_getItem_list_neg (Q := fun r s' => r = w /\ EP X pins σ Q r s') pl.isList (by lia) (by rw [List.size_toArray] <;> lia) (by lia) (by rw [hj]; simpa using ew) ⟨rfl, fin⟩) hs
theorem ix_tup : IxR X (rIxT X.K) := by
 intro value slice pins s σ H x y v u Q I rx ry h hs
 obtain ⟨p, xs, i, z, rfl, rfl, hq, he, q⟩ := h
 cases rx
 obtain ⟨t, rfl⟩ := ry
 obtain ⟨its, r, pl, hz⟩ := I.tuple hq
 obtain ⟨j, h1, h2, h3, h4, h5⟩ := zlD he
 obtain ⟨w, ew, rw'⟩ := r.get h2
 have hl := r.length
 have hn := zjF
 have fin : EP X pins σ Q w s := ⟨z, H, I, rw', q⟩
 exact subscriptTail_builtinR (x := w) pl.typeIs slot_tuple_getitem.lookup
  (getItem_tuple (j := j) (Q := fun r s' => r = w /\ EP X pins σ Q r s') pl (by lia) (by lia) (by rw [List.size_toArray, <- hl]; exact h1) (by simpa using ew) ⟨rfl, fin⟩) hs
theorem ix_str : IxR X rIxS := by
 intro value slice pins s σ H x y v u Q I rx ry h hs
 obtain ⟨z, i, c, rfl, rfl, hz, he, q⟩ := h
 obtain ⟨t, rfl⟩ := rx
 obtain ⟨t', rfl⟩ := ry
 obtain ⟨j, h1, h2, h3, h4, h5⟩ := zlD he
 have hl : z.cps.toList.length = z.length := by simp [Str.length]
 rw [hl] at h1 h4 h5
 have hn := zjF
 exact tail_any (typeIs_str s z t) slot_str_getitem.lookup (getItem_str (c := c) (by
  have e1 : decide (i < -(2 ^ 63 : Int)) = false := decide_eq_false (by lia)
  have e2 : decide (i >= 2 ^ 63) = false := decide_eq_false (by lia)
  rw [e1, e2, Bool.or_false]) (by rw [h1]; simpa using h2) ⟨.str ⟨#[c]⟩, H, I.tok _, ⟨_, rfl⟩, q⟩) hs
noncomputable def rIx (K : W.Frag) : R2 := fun x y H Q => rIxL K x y H Q \/ rIxT K x y H Q \/ rIxS x y H Q
theorem ix_seq : IxR X (rIx X.K) := ix_list.or (ix_tup.or ix_str)
theorem znd (its : List Value) (n j : Nat) (u : Value) : Obj.mapSeq (·.setIfInBounds j u) { cls := .type "list", data := .seq its.toArray n } = { cls := .type "list", data := .seq (its.set j u).toArray n } := by
 simp [Obj.mapSeq]
theorem Inv.lst (I : Inv X pins σ H s) (h : H p = some (.lst xs)) :
  ∃ (its : List Value) (n : Nat), Vals xs its /\ s.heap.get? p = some { cls := .type "list", data := .seq its.toArray n } /\ xs.length <= sizeLine := by
 obtain ⟨z, its, n, r, e⟩ := I.hok p _ h
 exact ⟨its, n, r, e, z⟩
theorem Inv.lstUpd {xs ys : List V} {n n' : Nat} {f : Obj -> Obj} (I : Inv X pins σ H s) (h : H p = some (.lst xs))
  (ho : s.heap.get? p = some { cls := .type "list", data := .seq its.toArray n }) (hf : f { cls := .type "list", data := .seq its.toArray n } = { cls := .type "list", data := .seq its'.toArray n' }) (r : Vals ys its') (hz : ys.length <= sizeLine) (t : Nat) :
  Inv X pins σ (upd H p (.lst ys)) { s with heap := s.heap.update p f, toks := t } := by
 have e : (s.heap.update p f).get? p = some { cls := .type "list", data := .seq its'.toArray n' } := by
  rw [Heap.get?_update_self f ho (by rw [hf] <;> rfl), hf]
 refine I.write (x := p) (e := p) (by rw [h]; trivial) (.inl rfl) (fun b u hb q => (Heap.get?_update_other _ _ (Ne.symm hb)).trans q) ⟨_, e⟩ ?_
 exact ⟨hz, its', n', r, e⟩
noncomputable def rSetL : V -> V -> V -> Hp -> (Hp -> Prop) -> Prop := fun o i v H Q => ∃ p xs k j, o = .ref p /\ i = .int k /\ H p = some (.lst xs) /\ ixN xs.length k = some j /\ Q (upd H p (.lst (xs.set j v)))
theorem set_list : PSet X rSetL := by
 intro pins s σ H o i v ov iv u Q I ro ri rv h
 obtain ⟨p, xs, k, j, rfl, rfl, hp, hj, q⟩ := h
 cases ro
 obtain ⟨t, rfl⟩ := ri
 obtain ⟨its, n, r, ho, hz⟩ := I.lst hp
 obtain ⟨h1, h2, h3, h4⟩ := zoT hj
 have hl := r.length
 have hn := zjF
 have I' : Inv X pins σ (upd H p (.lst (xs.set j v))) { s with heap := s.heap.update p (Obj.mapSeq (·.setIfInBounds j u)) } :=
  I.lstUpd hp ho (znd its n j u) (r.set rv j) (by rw [List.length_set]; exact hz) s.toks
 by_cases h0 : 0 <= k
 ·have hk : k.toNat = j := by
   rw [seqIndex_of h0 h4] at h1
   exact Option.some.inj h1
  exact W.ki_setAt ho h0 (by lia) (by rw [List.size_toArray, <- hl]; exact h4) (by rw [hk]; exact ⟨_, I', q⟩)
 ·have hk : (k + (its.toArray.size : Int)).toNat = j := by
   rw [seqIndex_neg (by lia) h3] at h1
   rw [List.size_toArray, <- hl]
   exact Option.some.inj h1
  exact W.ki_setBack ho (by lia) (by rw [List.size_toArray, <- hl]; exact h3) (by lia) (by rw [hk]; exact ⟨_, I', q⟩)
theorem zlt (lo hi : Option Int) (n : Nat) : (sliceBounds lo hi none n).1 = ((HT.sIx n 0 lo : Nat) : Int) /\ (sliceBounds lo hi none n).2.1 = ((HT.sIx n n hi : Nat) : Int) /\ (sliceBounds lo hi none n).2.2 = 1 := by
 refine ⟨?_, ?_, rfl⟩
 ·cases lo with
  | none => simp [sliceBounds, HT.sIx]
  | some i =>
   simp only [sliceBounds, HT.sIx, Option.getD_none, show (1 : Int) > 0 by decide, if_true]
   by_cases h : i < 0
   ·simp only [h, if_true] <;> lia
   ·simp only [h, if_false] <;> lia
 ·cases hi with
  | none => simp [sliceBounds, HT.sIx]
  | some i =>
   simp only [sliceBounds, HT.sIx, Option.getD_none, show (1 : Int) > 0 by decide, if_true]
   by_cases h : i < 0
   ·simp only [h, if_true] <;> lia
   ·simp only [h, if_false] <;> lia
theorem zki (its : List Value) (lo hi : Option Int) : slicePick its.toArray lo hi none = ((its.drop (HT.sIx its.length 0 lo)).take (HT.sIx its.length its.length hi - HT.sIx its.length 0 lo)).toArray := by
 obtain ⟨h1, h2, h3⟩ := zlt lo hi its.toArray.size
 unfold slicePick
 rw [h1, h2, h3]
 simp only [sliceRange_one, pick_run, List.size_toArray] <;> rfl
noncomputable def rSlL (K : W.Frag) : V -> Option Int -> Option Int -> Hp -> VK -> Prop := fun x lo hi H Q => ∃ a xs, x = .ref a /\ SqL K H a xs /\ ∀ p, H p = none -> Q (.ref p) (upd H p (.lst (cutV xs lo hi)))
theorem sl_list : SlR X (rSlL X.K) := by
 intro pins s σ H x v vl vu lo hi sl Q I rx hs pl pu h
 obtain ⟨a, xs, rfl, hx, q⟩ := h
 cases rx
 obtain ⟨its, r, ht, hz⟩ := I.list hx
 have hlen := r.length
 refine ⟨"list", _, slot_list_getitem.lookup, ht.isList.typeIs, ?_⟩
 refine wpAny_getItem_list_slice ht.isList hs pl pu .none (by simp) ?_ (by rw [List.size_toArray] <;> lia)
 rw [zki, <- hlen]
 refine ⟨.ref s.heap.objs.size, _, I.laid (t' := s.toks) (o := .lst (cutV xs lo hi)) (fun b ob q => Heap.get?_push_of_some _ q) (Nat.le_refl _) ?_, rfl, q _ (I.hok.fresh (Nat.le_refl _))⟩
 exact ⟨Nat.le_trans (ziX xs lo hi) hz, _, 0, (r.drop (HT.sIx xs.length 0 lo)).take (HT.sIx xs.length xs.length hi - HT.sIx xs.length 0 lo), Heap.get?_push_size _ rfl⟩
noncomputable def zjk : V -> Bool
 | .non => true
 | .bl _ => true
 | .int _ => true
 | .str _ => true
 | _ => false
noncomputable def eqV : V -> V -> Bool
 | .non, .non => true
 | .bl a, .bl b => a == b
 | .bl a, .int b => (if a then 1 else 0) == b
 | .int a, .bl b => a == (if b then 1 else 0)
 | .int a, .int b => a == b
 | .str a, .str b => a == b
 | _, _ => false
theorem eqAt_V (ry : RelV y u) (rx : RelV x v) (fy : zjk y = true) (fx : zjk x = true) : SeqAt.EqAt A s u v (eqV y x) := by
 cases y with
 | non =>
  cases ry
  cases x with
  | non => cases rx; exact SeqAt.EqAt.same _
  | bl b => cases rx; exact SeqAt.EqAt.none_bool b
  | int b => obtain ⟨t, rfl⟩ := rx; exact SeqAt.EqAt.none_int b t
  | str b => obtain ⟨t, rfl⟩ := rx; exact SeqAt.EqAt.none_str b t
  | _ => exact absurd (show false = true from fx) Bool.false_ne_true
 | bl a =>
  cases ry
  cases x with
  | non => cases rx; exact SeqAt.EqAt.bool_none a
  | bl b => cases rx; exact SeqAt.EqAt.bool_bool a b
  | int b => obtain ⟨t, rfl⟩ := rx; exact SeqAt.EqAt.bool_int a b t
  | str b => obtain ⟨t, rfl⟩ := rx; exact SeqAt.EqAt.bool_str a b t
  | _ => exact absurd (show false = true from fx) Bool.false_ne_true
 | int a =>
  obtain ⟨t', rfl⟩ := ry
  cases x with
  | non => cases rx; exact SeqAt.EqAt.int_none a t'
  | bl b => cases rx; exact SeqAt.EqAt.int_bool a t' b
  | int b => obtain ⟨t, rfl⟩ := rx; exact SeqAt.EqAt.int_int a t' b t
  | str b => obtain ⟨t, rfl⟩ := rx; exact SeqAt.EqAt.int_str a t' b t
  | _ => exact absurd (show false = true from fx) Bool.false_ne_true
 | str a =>
  obtain ⟨t', rfl⟩ := ry
  cases x with
  | non => cases rx; exact SeqAt.EqAt.str_none a t'
  | bl b => cases rx; exact SeqAt.EqAt.str_bool a t' b
  | int b => obtain ⟨t, rfl⟩ := rx; exact SeqAt.EqAt.str_int a t' b t
  | str b => obtain ⟨t, rfl⟩ := rx; exact SeqAt.EqAt.str_str a t' b t
  | _ => exact absurd (show false = true from fx) Bool.false_ne_true
 | _ => exact absurd (show false = true from fy) Bool.false_ne_true
noncomputable def eqU (x : V) (u : Value) : Bool := match u with
 | .none => eqV .non x
 | .bool b => eqV (.bl b) x
 | .int i _ => eqV (.int i) x
 | .str z _ => eqV (.str z) x
 | _ => false
theorem eqU_of (r : RelV y u) (f : zjk y = true) : eqU x u = eqV y x := by
 cases y with
 | non => cases r; rfl
 | bl b => cases r; rfl
 | int i => obtain ⟨t, rfl⟩ := r; rfl
 | str z => obtain ⟨t, rfl⟩ := r; rfl
 | _ => exact absurd (show false = true from f) Bool.false_ne_true
theorem zlP : ∀ {xs : List V} {us : List Value}, Vals xs us -> xs.all zjk = true -> us.any (eqU x) = xs.any fun y => eqV y x
 | _, _, .nil, _ => rfl
 | y :: xs, u :: us, .cons r t, f => by
  rw [List.all_cons, Bool.and_eq_true] at f
  rw [List.any_cons, List.any_cons, eqU_of r f.1, zlP t f.2]
theorem zkc (rx : RelV x v) (fx : zjk x = true) : ∀ {xs : List V} {us : List Value}, Vals xs us -> xs.all zjk = true -> ∀ u ∈ us, SeqAt.EqAt A s u v (eqU x u)
 | _, _, .nil, _ => fun u hu => by cases hu
 | y :: xs, u :: us, .cons r t, f => fun u' hu => by
  rw [List.all_cons, Bool.and_eq_true] at f
  rcases List.mem_cons.mp hu with rfl | hu
  ·rw [eqU_of r f.1]; exact eqAt_V r rx f.1 fx
  ·exact zkc rx fx t f.2 u' hu
noncomputable def inV (x : V) (xs : List V) : Bool := xs.any fun y => eqV y x
noncomputable def rIn (K : W.Frag) (neg : Bool) : R2 := fun x y H Q => ∃ p xs, y = .ref p /\ (SqL K H p xs \/ SqT K H p xs) /\ zjk x = true /\ xs.all zjk = true /\ Q (.bl (if neg then !inV x xs else inV x xs)) H
theorem znL : OpR X (compareOp .In) (rIn X.K false) := by
 intro pins s σ H x y v u Q I rx ry h
 obtain ⟨p, xs, rfl, hq, fx, fs, q⟩ := h
 cases ry
 rcases hq with hq | hq
 ·obtain ⟨its, r, pl, hz⟩ := I.list hq
  refine SeqAt.in_listAt (eqU x) pl.isList (fun w hw => zkc rx fx r fs w (by simpa using hw)) ⟨.bl _, H, I, rfl, ?_⟩
  rw [show its.toArray.any (eqU x) = its.any (eqU x) by simp, zlP r fs]
  exact q
 ·obtain ⟨its, r, pl, hz⟩ := I.tuple hq
  refine SeqAt.in_tupleAt (eqU x) pl (fun w hw => zkc rx fx r fs w (by simpa using hw)) ⟨.bl _, H, I, rfl, ?_⟩
  rw [show its.toArray.any (eqU x) = its.any (eqU x) by simp, zlP r fs]
  exact q
theorem zh2 : zhe X (.builtin "len") (fun xs H Q => ∃ p ys, xs = [.ref p] /\ (SqL X.K H p ys \/ SqT X.K H p ys) /\ Q (.int ys.length) H) := by
 intro pins s σ H xs us Q I r h
 obtain ⟨p, ys, rfl, hq, q⟩ := h
 obtain ⟨u, rfl, rx⟩ := zjL r
 cases rx
 have hn := zjF
 rcases hq with hq | hq
 ·obtain ⟨its, r', pl, hz⟩ := I.list hq
  have hlen := r'.length
  exact Calls.call_len_list pl.isList (by simp only [List.size_toArray] <;> lia) ⟨.int ys.length, H, I.tok _, ⟨s.toks + 1, by rw [List.size_toArray, hlen]⟩, q⟩
 ·obtain ⟨its, r', pl, hz⟩ := I.tuple hq
  have hlen := r'.length
  exact len_tuple pl (by simp only [List.size_toArray] <;> lia) ⟨.int ys.length, H, I.tok _, ⟨s.toks + 1, by rw [List.size_toArray, hlen]⟩, q⟩
theorem zk0 : zhe X (.type "list") (fun xs H Q => ∃ p ys, xs = [.ref p] /\ (SqL X.K H p ys \/ SqT X.K H p ys) /\ ∀ l, H l = none -> Q (.ref l) (upd H l (.lst ys))) := by
 intro pins s σ H xs us Q I r h
 obtain ⟨p, ys, rfl, hq, q⟩ := h
 obtain ⟨u, rfl, rx⟩ := zjL r
 cases rx
 have fin : ∀ (its : List Value), Vals ys its -> ys.length <= sizeLine -> ∀ (h' : Heap) (c' : Nat), (∀ b o', s.heap.get? b = some o' -> h'.get? b = some o') ->
   h'.get? s.heap.objs.size = some { cls := .type "list", dict := none, data := .seq its.toArray c', slots := #[] } -> EP X pins σ Q (.ref s.heap.objs.size) { s with heap := h' } := fun its r' hz h' c' kp e =>
  ⟨.ref s.heap.objs.size, _, I.laid (t' := s.toks) kp (Nat.le_refl _) (show ObjOk X.prog X.w _ h' _ (.lst ys) from ⟨hz, its, c', r', e⟩), rfl, q _ (I.hok.fresh (Nat.le_refl _))⟩
 rcases hq with hq | hq
 ·obtain ⟨its, r', pl, hz⟩ := I.list hq
  have hlen := r'.length
  obtain ⟨o, ho, hc, n, hd⟩ := pl.isList
  exact call_list_seq p (.inl rfl) ho hc hd (fun h' c' kp e => fin its r' hz h' c' kp e) (by simp only [List.size_toArray] <;> lia)
 ·obtain ⟨its, r', pl, hz⟩ := I.tuple hq
  have hlen := r'.length
  obtain ⟨o, ho, hc, n, hd⟩ := pl
  exact call_list_seq p (.inr rfl) ho hc hd (fun h' c' kp e => fin its r' hz h' c' kp e) (by simp only [List.size_toArray] <;> lia)
theorem zkh : zhe X (.type "tuple") (fun xs H Q => ∃ p ys, xs = [.ref p] /\ ((SqL X.K H p ys /\ ∀ l, H l = none -> Q (.ref l) (upd H l (.tup ys))) \/ (SqT X.K H p ys /\ Q (.ref p) H))) := by
 intro pins s σ H xs us Q I r h
 obtain ⟨p, ys, rfl, h⟩ := h
 obtain ⟨u, rfl, rx⟩ := zjL r
 cases rx
 rcases h with ⟨hq, q⟩ | ⟨hq, q⟩
 ·obtain ⟨its, r', pl, hz⟩ := I.list hq
  have hlen := r'.length
  refine call_tuple_list pl.isList (fun h' kp => ?_) (by simp only [List.size_toArray] <;> lia)
  have I1 : Inv X pins σ H { s with heap := h' } := I.kept (t' := s.toks) kp
  have I2 : Inv X pins σ (upd H h'.objs.size (.tup ys)) { s with heap := h'.push { cls := .type "tuple", data := .seq its.toArray } } :=
   I1.laid (t' := s.toks) (fun b o e => Heap.get?_push_of_some _ e) (Nat.le_refl _) (show ObjOk X.prog X.w _ _ _ (.tup ys) from ⟨hz, its, r', IsTup.new _ _⟩)
  exact ⟨.ref h'.objs.size, _, I2, rfl, q _ (I1.hok.fresh (Nat.le_refl _))⟩
 ·obtain ⟨its, r', pl, hz⟩ := I.tuple hq
  exact call_tuple_same pl ⟨.ref p, H, I, rfl, q⟩
noncomputable def tyV (K : W.Frag) (T : String) (x : V) (H : Hp) : Prop := match x with
 | .str _ => T = "str"
 | .int _ => T = "int"
 | .ref p => (T = "list" /\ ∃ xs, SqL K H p xs) \/ (T = "tuple" /\ ∃ o, K.lookup p = some o /\ o.cls = .type "tuple" /\ o.dict = none) \/
   (T = "dict" /\ ((∃ kvs, H p = some (.dK kvs)) \/ ∃ kvs, H p = some (.dT kvs))) \/ (T = "set" /\ ∃ S n, H p = some (.set S n))
 | _ => False
theorem tyV_is {T : String} (I : Inv X pins σ H s) (r : RelV x v) (ty : tyV X.K T x H) :
  s.TypeIs v T /\ ∀ a, v = .ref a -> ∃ ob, s.heap.get? a = some ob /\ ob.dict = none := by
 cases x with
 | str z =>
  obtain ⟨t, rfl⟩ := r
  cases (show T = "str" from ty)
  exact ⟨typeIs_str s z t, fun _ e => nomatch e⟩
 | int i =>
  obtain ⟨t, rfl⟩ := r
  cases (show T = "int" from ty)
  exact ⟨typeIs_int s i t, fun _ e => nomatch e⟩
 | ref p =>
  cases r
  rcases ty with ⟨rfl, xs, hq⟩ | ⟨rfl, o, hk, hc, hd⟩ | ⟨rfl, hk⟩ | ⟨rfl, S, n, hk⟩
  ·obtain ⟨its, _, pl, _⟩ := I.list hq
   refine ⟨pl.isList.typeIs, fun a e => ?_⟩
   cases e
   obtain ⟨o, n, e, c, hd, _⟩ := pl
   exact ⟨o, e, hd⟩
  ·refine ⟨⟨o, I.kIn p o hk, hc⟩, fun a e => ?_⟩
   cases e
   exact ⟨o, I.kIn _ o hk, hd⟩
  ·have z : ∃ o, s.heap.get? p = some o /\ o.ExactDict := by
    rcases hk with ⟨kvs, hk⟩ | ⟨kvs, hk⟩
    ·obtain ⟨_, _, _, _, o, _, _, e, ex, _⟩ := I.hok p _ hk
     exact ⟨o, e, ex⟩
    ·obtain ⟨_, _, _, _, o, _, _, e, ex, _⟩ := I.hok p _ hk
     exact ⟨o, e, ex⟩
   obtain ⟨o, e, ex⟩ := z
   refine ⟨⟨o, e, ex.1⟩, fun a e2 => ?_⟩
   cases e2
   exact ⟨o, e, ex.2.1⟩
  ·obtain ⟨o, _, _, _, e, ex, _⟩ := I.hok p _ hk
   refine ⟨⟨o, e, ex.1⟩, fun a e2 => ?_⟩
   cases e2
   exact ⟨o, e, ex.2.1⟩
 | _ => exact False.elim ty
noncomputable def tBM (K : W.Frag) (T : String) (r : V -> List V -> Hp -> VK -> Prop) (to : TE) (t : TA) : TE := fun σ H Q => to σ H fun x H1 => tyV K T x H1 /\ t σ H1 fun xs H2 => r x xs H2 Q
variable {o e : Expr} {es : List Expr} {to : TE} {t : TA} {name : Str} {apos cpos : Pos} {T id : String} {r : V -> List V -> Hp -> VK -> Prop}
theorem pe_bm (pa : PlainAttrs T) (slot : Slot T name id) (hty : typeOf (.builtin id) = pure (.type "method_descriptor")) (hm : MtR X id r) (ho : PE X o to) (ha : PA X (e :: es) t)
  (hbase : attributeBase o name X.env (eval o X.env) = eval o X.env := by rfl)
  (hfew : ((backTo cpos (starEach (e :: es) X.env)).all (fun x => !x.1) && (backToKw cpos (keywordEach [] X.env)).all (fun x => x.1.isSome)
   && decide ((e :: es).length + ([] : List Keyword).length + (if ([] : List Keyword).isEmpty then 0 else 1) < 30)) = true := by rfl)
  (hline : (apos.endLine == cpos.line) = true := by rfl) (hs : starEach (e :: es) X.env = (false, eval e X.env) :: starEach es X.env := by rfl) (hplain : (backTo cpos (starEach es X.env)).any (·.1) = false := by rfl) :
  PE X (.Call (.Attribute o name apos) (e :: es) [] cpos) (tBM X.K T r to t) := by
 intro pins s σ H Q I h
 refine wpAny_Call_method_late hbase hfew hline rfl (thn (ho pins s σ H _ I h) fun v s1 ⟨x, H1, I1, r1, ty, q1⟩ => ?_)
 obtain ⟨h1, h2⟩ := tyV_is I1 r1 ty
 refine ⟨T, id, pa, slot, hty, h1, h2, ?_⟩
 have hA := ha cpos pins s1 σ H1 _ I1 q1
 rw [hs] at hA ⊢
 refine Calls.callWith_builtin (by show (false || (backTo cpos (starEach es X.env)).any (·.1)) = false; rw [hplain] <;> rfl) (Calls.evalArgs_plain ?_)
 exact thn hA fun us s2 ⟨vs, H2, I2, r2, q2⟩ => hm pins s2 σ H2 x vs v us Q I2 r1 r2 q2
end
noncomputable def MtM (X : Cx) (id : String) (r : V -> List V -> Hp -> VK -> Prop) : Prop :=
 ∀ (pins : List (Addr × Obj)) (s : Shared) (σ : St) (H : Hp) (x : V) (xs : List V) (v : Value) (us : List Value) (Q : VK), Inv X pins σ H s -> RelV x v -> Vals xs us -> r x xs H Q ->
  wpAny (model X.prog X.w) X.A (call (.builtin id) (v :: us)) (EP X pins σ Q) X.xe s
theorem Vals.one : ∀ {x : V} {us : List Value}, Vals [x] us -> ∃ u, us = [u] /\ RelV x u
 | _, _, .cons r .nil => ⟨_, rfl, r⟩
theorem Vals.rep (h : Vals xs us) : ∀ k : Nat, Vals (List.replicate k xs).flatten (List.replicate k us).flatten
 | 0 => .nil
 | k + 1 => by
  rw [List.replicate_succ, List.replicate_succ, List.flatten_cons, List.flatten_cons]
  exact Vals.append h (Vals.rep h k)
theorem zkV (its : List Value) : ∀ (k : Nat) (acc : List Value),
  List.foldl (fun x1 x2 => x1 ++ x2) acc.toArray (List.replicate k its.toArray) = (acc ++ (List.replicate k its).flatten).toArray
 | 0, acc => by simp
 | k + 1, acc => by
  have e : acc.toArray ++ its.toArray = (acc ++ its).toArray := by simp
  have e2 : (acc ++ its) ++ (List.replicate k its).flatten = acc ++ (List.replicate (k + 1) its).flatten := by
   rw [List.replicate_succ, List.flatten_cons, List.append_assoc]
  rw [<- e2, <- zkV its k (acc ++ its), <- e, List.replicate_succ, List.foldl_cons]
section
variable {X : Cx} {pins : List (Addr × Obj)} {σ : St} {H : Hp} {s : Shared} {l b : Addr} {xs ys zs : List V}
theorem Inv.lset (I : Inv X pins σ H s) (hH : H l = some (.lst xs))
  (e : s.heap.get? l = some { cls := .type "list", data := .seq its.toArray n }) (hf : f its.toArray = its'.toArray) (hv : Vals ys its') (hz : ys.length <= sizeLine) :
  Inv X pins σ (upd H l (.lst ys)) { s with heap := s.heap.update l (Obj.mapSeq f), toks := t' } := by
 have q := PySem.IsL.update e f
 rw [hf] at q
 refine I.write (x := l) (e := l) (by rw [hH]; exact trivial) (.inl rfl) (fun b' u hb hu => (Heap.get?_update_other s.heap (Obj.mapSeq f) (Ne.symm hb)).trans hu) ⟨_, q⟩ ?_
 exact ⟨hz, its', _, hv, q⟩
theorem Inv.lnew (I : Inv X pins σ H s) (hv : Vals ys its) (hz : ys.length <= sizeLine) :
  Inv X pins σ (upd H s.heap.objs.size (.lst ys)) { s with heap := s.heap.push { cls := .type "list", data := .seq its.toArray }, toks := t' } :=
 I.laid (fun _ _ q => Heap.get?_push_of_some _ q) (Nat.le_refl _) ⟨hz, its, 0, hv, Heap.get?_push_size _ rfl⟩
theorem Inv.fresh (I : Inv X pins σ H s) : H s.heap.objs.size = none := I.hok.fresh (Nat.le_refl _)
theorem Inv.lstM (I : Inv X pins σ H s) (hH : H l = some (.lst xs)) : xs.length <= sizeLine /\ ∃ (its : List Value) (n : Nat), Vals xs its /\ xs.length = its.length /\ s.heap.get? l = some { cls := .type "list", data := .seq its.toArray n } := by
 obtain ⟨z, its, n, r, e⟩ := I.hok l _ hH
 exact ⟨z, its, n, r, r.length, e⟩
theorem notLongL (h : n <= sizeLine) : Builtin.List.listTooLong n = false := by
 unfold Builtin.List.listTooLong
 exact decide_eq_false (by lia)
end
section
variable {X : Cx}
noncomputable def rAppend : V -> List V -> Hp -> VK -> Prop := fun x vs H Q => ∃ l xs y, x = .ref l /\ vs = [y] /\ H l = some (.lst xs) /\ xs.length < sizeLine /\ Q .non (upd H l (.lst (xs ++ [y])))
theorem zlx : MtM X "list.append" rAppend := by
 intro pins s σ H x vs v us Q I rx rv h
 obtain ⟨l, xs, y, rfl, rfl, hH, hz, q⟩ := h
 cases rx
 obtain ⟨u, rfl, ru⟩ := rv.one
 obtain ⟨z, its, n, r, hl, e⟩ := I.lstM hH
 refine call_meets F.slot_list_append ⟨_, e, rfl⟩ F.entry_list_append (F.args_list_append_2 _ _) (PySem.list_append l its.toArray n u (by rw [List.size_toArray]; lia)) ⟨e, ?_⟩
 refine ⟨.non, _, I.lset (its' := its ++ [u]) hH e (by simp) (r.append (.cons ru .nil)) ?_, rfl, q⟩
 rw [List.length_append, List.length_singleton]
 lia
noncomputable def rCat : R2 := fun x y H Q => ∃ l b xs zs, x = .ref l /\ y = .ref b /\ H l = some (.lst xs) /\ H b = some (.lst zs) /\ xs.length + zs.length <= sizeLine /\ ∀ p, H p = none -> Q (.ref p) (upd H p (.lst (xs ++ zs)))
theorem op_cat : OpR X (binaryOp .Add) rCat := by
 intro pins s σ H x y v u Q I rx ry h
 obtain ⟨l, b, xs, zs, rfl, rfl, hH, hB, hz, q⟩ := h
 cases rx
 cases ry
 obtain ⟨z, its, n, r, hl, e⟩ := I.lstM hH
 obtain ⟨z2, its2, n2, r2, hl2, e2⟩ := I.lstM hB
 refine PySem.P.add_list e e2 ?_ (by rw [List.size_toArray, List.size_toArray]; lia)
 have ea : its.toArray ++ its2.toArray = (its ++ its2).toArray := by simp
 rw [ea]
 exact ⟨.ref _, _, I.lnew (t' := s.toks) (r.append r2) (by rw [List.length_append]; lia), rfl, q _ I.fresh⟩
noncomputable def rRep : R2 := fun x y H Q => ∃ l k xs, x = .ref l /\ y = .int k /\ H l = some (.lst xs) /\ -(2 ^ 63) <= k /\ k < 2 ^ 63 /\ xs.length * k.toNat <= sizeLine /\
 ∀ p, H p = none -> Q (.ref p) (upd H p (.lst (List.replicate k.toNat xs).flatten))
theorem len_rep {α : Type} (xs : List α) (k : Nat) : (List.replicate k xs).flatten.length = k * xs.length := by
 induction k with
 | zero => simp
 | succ k ih => rw [List.replicate_succ, List.flatten_cons, List.length_append, ih, Nat.succ_mul, Nat.add_comm]
theorem op_rep : OpR X (binaryOp .Mult) rRep := by
 intro pins s σ H x y v u Q I rx ry h
 obtain ⟨l, k, xs, rfl, rfl, hH, h1, h2, hz, q⟩ := h
 cases rx
 obtain ⟨t, rfl⟩ := ry
 obtain ⟨z, its, n, r, hl, e⟩ := I.lstM hH
 have hlen : its.toArray.size * k.toNat <= sizeLine := by rw [List.size_toArray, <- hl]; exact hz
 have hcap : ¬ its.toArray.size * k.toNat > (2 ^ 63 - 1) / 8 := by
  have : (sizeLine : Nat) <= (2 ^ 63 - 1) / 8 := by decide
  lia
 have hfit : ¬ (!Builtin.List.listFitsIndex k) = true := by
  rw [fitsIndex_both h1 h2]
  exact Bool.false_ne_true
 have hlong : ¬ Builtin.List.listTooLong (its.toArray.size * k.toNat) = true := by
  rw [notLongL hlen]
  exact Bool.false_ne_true
 have hnew : List.foldl (fun x1 x2 => x1 ++ x2) #[] (List.replicate (if its.toArray.isEmpty = true then 0 else k.toNat) its.toArray) = (List.replicate k.toNat its).flatten.toArray := by
  have f0 : ∀ m : Nat, List.foldl (fun x1 x2 => x1 ++ x2) #[] (List.replicate m its.toArray) = (List.replicate m its).flatten.toArray := fun m => by
   have := zkV its m []
   rw [List.nil_append] at this
   exact this
  rw [f0]
  cases its with
  | nil => simp
  | cons a r' => rw [if_neg (by simp)]
 refine wpAny_binaryOp_repeat_ref (T := "list") (U := "int") (by decide) ⟨_, e, rfl⟩ (fun s' => typeIs_int s' k t) noFill_list_mul F.fills_int_mul F.slot_int_rmul repeat_list F.slot_int_index.lookup
  (call_meets F.slot_int_rmul (typeIs_int s k t) F.entry_int_rmul (F.args_int_rmul_2 _ _) (int___rmul___int_list k t l its.toArray n)
   ⟨e, rfl, ⟨_, e, rfl⟩, call_meets F.slot_list_mul ⟨_, e, rfl⟩ F.entry_list_mul (F.args_list_mul_2 _ _) (AutoListH.list___mul___list_int_3 l its.toArray n k t hfit hcap hlong) ⟨e, ?_⟩⟩)
 rw [hnew]
 exact ⟨.ref _, _, I.lnew (t' := s.toks) (r.rep k.toNat) (by rw [len_rep, Nat.mul_comm]; exact hz), rfl, q _ I.fresh⟩
end
end L2
namespace Att
open PyProof.Rows PySem PySem.Calls PySem.W
theorem ziN {P : Params} {h : Heap} : ∀ (ns : List Int) (vs : List Value), WellAll P h vs (ns.map WData.int) -> IntsAre vs ns := by
 intro ns
 induction ns with
 | nil =>
  intro vs w
  rw [List.map_nil] at w
  cases w
  exact .nil
 | cons n ns ih =>
  intro vs w
  rw [List.map_cons] at w
  cases w with
  | cons a b =>
   cases a
   exact .cons _ _ (ih _ b)
theorem zoO {l : OpenLaw} {n : Nat} (hn : l.most = some n) {P : Params} {h : Heap} {args : List WData} {vals : List Value}
  (hpre : l.row.toRowW.claim.pre args = true) (hwl : WellAll P h vals args) :
  ∃ a vs ns, vals = [Value.ref a] /\ args = [WData.list (ns.map WData.int)] /\ h.get? a = some { cls := .type "list", data := .seq vs.toArray } /\ IntsAre vs ns /\ ns.length <= n := by
 have hsh : WShape.hasAll [] args [.list .int] = true := (pre_splitW hpre).1
 have hc : l.pre.holds [] { args := args } = true := (pre_splitW hpre).2
 obtain ⟨d, r, rfl, h1, h2⟩ := hasAllW_cons hsh
 obtain rfl := hasAllW_nil h2
 obtain ⟨xs, rfl, h3⟩ := hasW_list h1
 obtain ⟨ns, rfl⟩ := items_int h3
 have hlen : ns.length <= n := by
  unfold OpenLaw.pre at hc
  have h4 : (WTm.not (.lt (.lit (.int (n : Int))) (.len (.arg 0)))).holds [] { args := [.list (ns.map .int)] } = true := by
   have h4 := (holds_andW hc).1
   rw [hn] at h4
   exact h4
  have h5 := condW_of h4 (w_not (w_lt w_lit (w_len_list (w_arg rfl))))
  rw [List.length_map] at h5
  refine Nat.le_of_not_lt fun q => ?_
  have q' : (n : Int) < ((ns.length : Nat) : Int) := by lia
  first
   | (rw [decide_eq_true q'] at h5; exact absurd h5 (by decide))
   | (simp at h5; lia)
 cases hwl with
 | cons w1 w2 =>
  cases w2
  cases w1 with
  | list ho hall => exact ⟨_, _, ns, rfl, rfl, ho, ziN ns _ hall, hlen⟩
theorem zoy (l : OpenLaw) (args : List WData) : l.row.toRowW.claim.post args (.bool true) args = true :=
 postW_of (r := l.row.toRowW) (X := (true == true))
  (show WShape.has [] (.bool true) .bool = true by first | rfl | decide | simp [WShape.has, WShape.arms, WShape.armsAll])
  (show (WTm.eq .res (.lit (.bool true))).value [] { args := args, res := some (.bool true), after := args } = some (.bool (true == true)) from w_eq_bool (w_res rfl) w_lit) rfl
theorem attach_call {l : OpenLaw} {n : Nat} {q : Program} {loose : List Str} {XP : (Str -> Option Value) -> Heap -> Prop} {YP : World -> Heap -> Prop} {d : DefRec}
  (hn : l.most = some n) (hdf : d.params.defaults = [])
  (call : ∀ (w : World) (s₀ s₁ : Shared) (mg mb : Str -> Option Value) (fa : Addr) (o : Obj) (pm cd doc : Value) (a : Addr) (vs : List Value) (ns : List Int),
   Ground q loose [] XP w s₀ mg mb s₁.heap -> YP w s₁.heap ->
   s₁.heap.get? fa = some o -> o.data = .func (docDef d.name d.params d.body d.scope pm cd doc) -> s₁.heap.CodeRec cd d.name -> mg d.name = some (.ref fa) ->
   s₁.heap.get? a = some { cls := .type "list", data := .seq vs.toArray } -> IntsAre vs ns -> ns.length <= n -> s₁.gens = #[] ->
   codeAny (model l.prog w) callerA (.call (.ref fa) ⟨[.ref a], []⟩) (fun r s' => r = .ok (.ret (.bool true)) /\ OldK s₁.heap s'.heap /\ s'.os = s₁.os /\ AllBare s'.gens) s₁) :
  WalkO q loose XP YP l.row.toRowW d [] (fun f vs => PySem.call f vs) := by
 intro w s₀ s₁ mg mb G Y fa o pm cd doc dV kV ho hd hcd hD hmg hg args vals as hpre hlay hrd hwl hlo
 obtain rfl : dV = .none := Dflts.none hD hdf
 obtain rfl : kV = .none := Dflts.noKw hD
 obtain ⟨a, vs, ns, rfl, rfl, hobj, hints, hlen⟩ := zoO hn hpre hwl
 refine enter_call (codeAny_mono (call w s₀ s₁ mg mb fa o pm cd doc a vs ns G Y ho (fd_plain hd) hcd hmg hobj hints hlen hg) fun r s' hq => ?_)
 obtain ⟨rfl, h2, h3, h4⟩ := hq
 exact ⟨.inl ⟨.bool true, .bool true, [], rfl, fun _ => rfl, .bool true, zoy l _, fun _ => ⟨List.Pairwise.nil, fun _ hm => (nomatch hm)⟩⟩, h2, h3, h4⟩
end Att
namespace L2
open PyProof.Rows PySem PySem.Spec
theorem zlz : ∀ {vs : List Value} {ns : List Int}, IntsAre vs ns -> Vals (ns.map V.int) vs
 | _, _, .nil => .nil
 | _, _, .cons n t h => .cons ⟨t, rfl⟩ (zlz h)
noncomputable def Only (H : Hp) : Prop := ∀ b, H b = none \/ ∃ o xs, H b = some (.frz o (.lst xs))
theorem law_call {P : Program} {w : World} {K : W.Frag} {mg mb : Str -> Option Value} {CX : CXT} {k : Nat} {fa a : Addr} {fd : FuncData} {x : Str} {sp : Sp} {s₁ : Shared} {vs : List Value} {ns : List Int}
  (KX : K.In s₁.heap) (hns : s₁.heap.Ns mainGlobals mg) (hb : s₁.heap.Ns builtinsNs mb) (hbb : ∀ x : Str, x ≠ "__name__" -> mb x = bootBuiltins x) (hlim : s₁.heap.NoLimit) (hg : s₁.gens = #[])
  (ha : s₁.heap.get? a = some { cls := .type "list", data := .seq vs.toArray }) (hi : IntsAre vs ns) (hl : ns.length <= sizeLine) (hr : Room k callerA)
  (F : ∀ base : Heap, K.In base -> base.Ns mainGlobals mg -> FnOk P w K mg base CX k fa fd [x] sp) (hbind : ∀ (s : Shared) (u : Value), BindsTo s fd ⟨[u], []⟩ [(x, u)])
  (hsp : ∀ H : Hp, Only H -> SqL K H a (ns.map V.int) -> sp [.ref a] H (fun v _ => v = .bl true) fun _ _ _ => False)
  (hCX : ∀ H e s', CX [] H s₁ (fun _ _ _ => False) e s' -> False) :
  codeAny (model P w) callerA (.call (.ref fa) ⟨[.ref a], []⟩) (fun r s' => r = .ok (.ret (.bool true)) /\ OldK s₁.heap s'.heap /\ s'.os = s₁.os /\ AllBare s'.gens) s₁ := by
 have rv := zlz hi
 have lenV := hi.length
 have core : ∀ H : Hp, Only H -> SqL K H a (ns.map V.int) -> HOk P w H s₁.heap -> (∀ b, H b ≠ none -> b = a) -> (H a ≠ none -> K.lookup a = none) ->
   codeAny (model P w) callerA (.call (.ref fa) ⟨[.ref a], []⟩) (fun r s' => r = .ok (.ret (.bool true)) /\ OldK s₁.heap s'.heap /\ s'.os = s₁.os /\ AllBare s'.gens) s₁ := by
  intro H hO hS hok hA hK
  have base_of : ∀ {b : Addr} {o : Obj}, s₁.heap.get? b = some o -> H b = none -> (hidT s₁.heap H).get? b = some o := fun e n => hidT_get e n
  have noA : ∀ {b : Addr} {o : Obj} {es : Array DictEntry} {ep : Nat}, s₁.heap.get? b = some o -> o.data = .dict es ep -> H b = none := fun {b o es ep} e d => by
   cases q : H b with
   | none => rfl
   | some u =>
    have e' : b = a := hA b (by rw [q]; simp)
    subst e'
    rw [ha] at e; cases e
    have d' : Data.seq vs.toArray _ = Data.dict es ep := d
    cases d'
  have nsK : ∀ {b : Addr} {m : Str -> Option Value}, s₁.heap.Ns b m -> (hidT s₁.heap H).Ns b m := fun {b m} ⟨o, es, ep, e, d, r⟩ => ⟨o, es, ep, base_of e (noA e d), d, r⟩
  have hKb : K.In (hidT s₁.heap H) := fun b o e => base_of (KX b o e) (by
   cases q : H b with
   | none => rfl
   | some u =>
    have e' : b = a := hA b (by rw [q]; simp)
    subst e'
    rw [hK (by rw [q]; simp)] at e; cases e)
  have hM : Mod K mg (hidT s₁.heap H) := ⟨hKb, nsK hns, ⟨mb, nsK hb, hbb⟩, let ⟨mc, h1, h2⟩ := hlim; ⟨mc, nsK h1, h2⟩⟩
  have e0 : Env0 P w K mg (hidT s₁.heap H) callerA [] s₁ H := ⟨rfl, hM, fun b o e => of_hidT e, Nat.le_of_eq (zow _ _), trivial, fun b hb => absurd (show b ∈ ([] : List Addr) from hb) (by simp), hok, .of_eq hg⟩
  refine codeAny_mono ((F _ hKb (nsK hns)).run callerA [] s₁ H ⟨[.ref a], []⟩ [.ref a] [.ref a] _ _ hr e0 (hbind s₁ (.ref a)) (.cons rfl .nil) (hsp H hO hS)) fun r s' h => ?_
  cases r with
  | error e => exact (hCX H e s' h).elim
  | ok fl =>
   cases fl with
   | next => exact False.elim h
   | brk => exact False.elim h
   | cont => exact False.elim h
   | ret u =>
    obtain ⟨v, H', os, bare, un, hok', r', q⟩ := h
    have q' : v = .bl true := q
    subst q'
    obtain rfl : u = Value.bool true := r'
    refine ⟨rfl, OldK.of_keep fun b o e => ?_, os, bare⟩
    cases q : H b with
    | none => exact un.keep b o e q (by intro z; exact absurd (show b ∈ ([] : List Addr) from z) (by simp)) (by simp)
    | some u =>
     rcases hO b with z | ⟨ob, xs, z⟩
     ·rw [q] at z; cases z
     ·have z2 := un.frzs b ob _ z
      obtain ⟨e1, _⟩ := hok b _ z
      obtain ⟨e2, _⟩ := hok' b _ z2
      rw [e] at e1; cases e1
      exact e2
 cases hk : K.lookup a with
 | some o =>
  have e := KX a o hk
  rw [ha] at e
  cases e
  refine core (fun _ => none) (fun _ => .inl rfl) (.inr ⟨_, vs.toArray, _, hk, rfl, rfl, rfl, by rw [List.size_toArray, lenV]; exact hl, by simpa using rv⟩) (fun b u z => by have z' : (none : Option HO) = some u := z; cases z') (fun b z => absurd rfl z) fun z => absurd rfl z
 | none =>
  refine core (fun b => if b = a then some (.frz { cls := .type "list", data := .seq vs.toArray } (.lst (ns.map V.int))) else none) (fun b => ?_) (.inl (.inr ⟨{ cls := .type "list", data := .seq vs.toArray }, if_pos rfl⟩)) (fun b u z => ?_) (fun b z => ?_) fun _ => hk
  ·by_cases hb : b = a
   ·exact .inr ⟨_, _, if_pos hb⟩
   ·exact .inl (if_neg hb)
  ·by_cases hb : b = a
   ·have z' := (if_pos hb).symm.trans z
    cases z'
    subst hb
    exact ⟨ha, by rw [List.length_map]; exact hl, vs, _, rv, ha⟩
   ·have z' := (if_neg hb).symm.trans z
    cases z'
  ·by_cases hb : b = a
   ·exact hb
   ·exact absurd (if_neg hb) z
theorem walk_of {l : W.OpenLaw} {n k : Nat} {q : Program} {loose : List Str} {XP : (Str -> Option Value) -> Heap -> Prop} {YP : World -> Heap -> Prop} {d : DefRec} {K : Params -> W.Frag} {CX : World -> CXT} {sp : World -> Sp} {x : Str}
  (hn : l.most = some n) (hn2 : n <= sizeLine) (hdf : d.params.defaults = []) (hr : Room k callerA)
  (hY : ∀ (w : World) (h : Heap), YP w h -> (K w.params).In h)
  (F : ∀ (w : World) (mg : Str -> Option Value) (fa : Addr) (h : Heap), (K w.params).In h -> h.Ns mainGlobals mg -> mg d.name = some (.ref fa) ->
   ∃ fd : FuncData, (∀ (s : Shared) (u : Value), BindsTo s fd ⟨[u], []⟩ [(x, u)]) /\
    ∀ base : Heap, (K w.params).In base -> base.Ns mainGlobals mg -> FnOk l.prog w (K w.params) mg base (CX w) k fa fd [x] (sp w))
  (hsp : ∀ (w : World) (H : Hp) (a : Addr) (ns : List Int), ns.length <= n -> Only H -> SqL (K w.params) H a (ns.map V.int) -> sp w [.ref a] H (fun v _ => v = .bl true) fun _ _ _ => False)
  (hCX : ∀ (w : World) (H : Hp) (s : Shared) (e : Value) (s' : Shared), CX w [] H s (fun _ _ _ => False) e s' -> False) :
  W.WalkO q loose XP YP l.row.toRowW d [] (fun f vs => PySem.call f vs) := by
 refine Att.attach_call hn hdf fun w s₀ s₁ mg mb fa o pm cd doc a vs ns G Y ho hd hcd hmg hobj hints hlen hg => ?_
 have KX := hY w _ Y
 obtain ⟨fd, hb, hF⟩ := F w mg fa _ KX G.T.g hmg
 exact law_call KX G.T.g G.T.b G.T.builtins G.T.nolimit hg hobj hints (Nat.le_trans hlen hn2) hr hF hb (fun H hO hS => hsp w H a ns hlen hO hS) fun H e s' => hCX w H s₁ e s'
noncomputable def zfm (s : Stmt) : Arguments := match s with
 | .FunctionDef _ a _ _ _ _ _ _ _ _ => a
 | _ => { posonlyargs := [], args := [], vararg := none, kwonlyargs := [], kw_defaults := [], kwarg := none, defaults := [] }
noncomputable def zcq (s : Stmt) : List Stmt := match s with
 | .FunctionDef _ _ b _ _ _ _ _ _ _ => b
 | _ => []
noncomputable def zaG (s : Stmt) : Scope := match s with
 | .FunctionDef _ _ _ _ _ _ sc _ _ _ => sc
 | _ => { kind := .function, names := [], isGenerator := false, isCoroutine := false }
noncomputable abbrev CX0 : CXT := fun _ _ _ _ _ _ => False
noncomputable abbrev E0 : XK := fun _ _ _ => False
theorem pass0 {X : Cx} : znT CX0 X E0 := fun _ _ _ _ _ _ _ h => h.elim
structure Fun (K : W.Frag) (x qual : Str) (st : Stmt) (f : Addr) (fd : FuncData) : Prop where
 ex : ∃ (oc : Value) (od : Option Addr) (kV doc pm : Value) (an : Option Addr) (cdv ct : Value) (osl : Array (Option Value)),
  fd = W.fnOf x qual (zfm st) (zcq st) (zaG st) .none kV doc pm an cdv ct /\ K.lookup f = some ⟨oc, od, .func fd, osl⟩ /\ W.codeIn K cdv qual = true
 kp : W.keepIn K (.ref f) = true
section
variable {P : Program} {w : World} {K : W.Frag} {mg : Str -> Option Value} {base : Heap}
theorem Fun.ok {x qual : Str} {st : Stmt} {f : Addr} {fd : FuncData} {N ps : List Str} {k : Nat} {sp : Sp} (F : Fun K x qual st f fd) (S : FnScope N ps (zaG st)) (len : ∀ vs H Q E, sp vs H Q E -> vs.length = ps.length)
  (hbody : ∀ (cdv : Value) (A : Around) (outer : List Env) (s : Shared) (H : Hp) (vs : List V) (Q : VK) (E : XK), Room k (A.deeper (envOfC qual (zaG st) s.heap.objs.size f cdv)) -> sp vs H Q E ->
   ∃ t, PSs (cxOf CX0 P w K mg base N qual (zaG st) f cdv A outer s H E).nox (zcq st) t /\ t { nx := fun _ H' => Q .non H', rt := Q } (start N vs) H) : FnOk P w K mg base CX0 (k + 1) f fd ps sp := by
 obtain ⟨oc, od, kV, doc, pm, an, cdv, ct, osl, rfl, lk, hcd⟩ := F.ex
 refine fn_of lk hcd S len fun A outer s H vs Q E hr hsp => ?_
 obtain ⟨t, h, q⟩ := hbody cdv A outer s H vs Q E hr hsp
 exact ⟨t, h.nox, q⟩
theorem Fun.binds {x qual : Str} {st : Stmt} {f : Addr} {fd : FuncData} {ps : List Str} (F : Fun K x qual st f fd)
  (h : ∀ (kV doc pm : Value) (an : Option Addr) (cdv ct : Value) (us : List Value), us.length = ps.length -> bindArgs (W.fnOf x qual (zfm st) (zcq st) (zaG st) .none kV doc pm an cdv ct) ⟨us, []⟩ = pure (ps.zip us)) : Binds K fd ps [] := by
 obtain ⟨oc, od, kV, doc, pm, an, cdv, ct, osl, rfl, lk, hcd⟩ := F.ex
 exact .all (h kV doc pm an cdv ct)
theorem fun_mk {x qual : Str} {st : Stmt} {f : Addr} {oc : Value} {od an : Option Addr} {osl : Array (Option Value)} {kV doc pm cdv ct : Value} (l : K.lookup f = some ⟨oc, od, .func (W.fnOf x qual (zfm st) (zcq st) (zaG st) .none kV doc pm an cdv ct), osl⟩)
  (c : W.codeIn K cdv qual = true) (k : W.keepIn K (.ref f) = true) : Fun K x qual st f (W.fnOf x qual (zfm st) (zcq st) (zaG st) .none kV doc pm an cdv ct) := ⟨⟨oc, od, kV, doc, pm, an, cdv, ct, osl, rfl, l, c⟩, k⟩
end
noncomputable def Same (H H' : Hp) : Prop := ∀ b o, H b = some o -> H' b = some o
theorem Same.seq {K : W.Frag} {H H' : Hp} {a : Addr} {xs : List V} (e : Same H H') (h : SqL K H a xs) : SqL K H' a xs := by
 rcases h with (h | ⟨o, h⟩) | h
 ·exact .inl (.inl (e _ _ h))
 ·exact .inl (.inr ⟨o, e _ _ h⟩)
 ·exact .inr h
end L2
namespace M
open L2 PySem
variable {G G' H : Hp} {a p l : Addr} {o : Obj} {xs ys : List V} {ks : List (List Int)} {A A' : List Addr} {K : W.Frag} {x v : V} {d : D} {ds es : List D} {i : Nat} {c : Ch} {t : T} {ov : Option (Option V)} {s : Sl} {ρ ρ' : R} {e : Expr} {b : Bool} {f : D -> D -> Option D} {ma : ME} {op : Operator} {r : V -> Hp -> VK -> Prop} {g : D -> Option D}
inductive D where
 | non | bl (b : Bool) | int (i : Int) | str (x : Str) | lst (ds : List D) | tup (ds : List D) | scr (ns : List Int) | exc (c : Str) | dic (ks : List Int) (ds : List D) | dit (ks : List (List Int)) (ds : List D)
noncomputable def ExcIs (a C : Addr) (h : Heap) : Prop := ∃ o, h.get? a = some o /\ o.cls = .ref C
noncomputable def kI (n : Int) : Key := Sum.inl n
noncomputable def kn (a : Addr) (o : Obj) : HO := .ext (fun h => h.get? a = some o)
noncomputable def hI : Key -> Int
 | .inl k => hashInt k
 | .inr _ => 0
noncomputable def DtN (o : Obj) (xs : List (List Key × Addr × Value)) : Prop := o.ExactDict /\ (∃ es ep, o.data = .dict es ep /\ es.toList = xs.map fun x => ⟨reduceHash (Builtin.Tuple.tupleHashOf (x.1.map hI)), .ref x.2.1, x.2.2⟩) /\ (xs.map (·.1)).Nodup
structure DtI (G : Hp) (a : Addr) (o : Obj) (xs : List (List Key × Addr × Value)) (ks : List (List Int)) (ys : List (List Key × V)) : Prop where
 sys : (a == sysModules) = false
 dn : DtN o xs
 len : ys.length <= sizeLine
 key : ys.map (·.1) = ks.map (·.map kI)
 kt : Paired (fun (p : List Key × V) (q : List Key × Addr × Value) => p.1 = q.1 /\ G q.2.1 = some (.tup (p.1.map kV)) /\ RelV p.2 q.2.2) ys xs
mutual
noncomputable def RepD (K : W.Frag) (G : Hp) (v : V) : D -> Prop
 | .non => v = .non
 | .bl b => v = .bl b
 | .int i => v = .int i
 | .str x => v = .str x
 | .lst ds => ∃ a xs, v = .ref a /\ G a = some (.lst xs) /\ RepL K G xs ds
 | .tup ds => ∃ a xs, v = .ref a /\ G a = some (.tup xs) /\ RepL K G xs ds
 | .scr ns => ∃ a, v = .ref a /\ SqL K G a (ns.map V.int)
 | .exc c => ∃ a C, v = .ref a /\ W.nsIn K mainGlobals c = some (some (.ref C)) /\ G a = some (.ext (ExcIs a C))
 | .dic ks ds => ∃ a ys, v = .ref a /\ Rd G a (.dK ys) /\ ys.map (·.1) = ks.map kI /\ RepL K G (ys.map (·.2)) ds
 | .dit ks ds => ∃ a ys o xs, v = .ref a /\ G a = some (kn a o) /\ DtI G a o xs ks ys /\ RepL K G (ys.map (·.2)) ds
noncomputable def RepL (K : W.Frag) (G : Hp) (xs : List V) : List D -> Prop
 | [] => xs = []
 | d :: ds => ∃ x ys, xs = x :: ys /\ RepD K G x d /\ RepL K G ys ds
end
noncomputable def Fz (G H : Hp) : Prop := ∀ a o, G a = some o -> H a = some o
theorem DtI.mono {xs : List (List Key × Addr × Value)} {ys : List (List Key × V)} (d : DtI G a o xs ks ys) (h : Fz G G') : DtI G' a o xs ks ys := { d with kt := Paired.mapP d.kt fun _ _ z => ⟨z.1, h _ _ z.2.1, z.2.2⟩ }
theorem Fz.refl (G : Hp) : Fz G G := fun _ _ h => h
theorem Fz.trans {A B C : Hp} (h : Fz A B) (k : Fz B C) : Fz A C := fun a o e => k a o (h a o e)
theorem Fz.free (h : Fz G H) (e : H p = none) : G p = none := by
 cases q : G p with
 | none => rfl
 | some o => rw [h p o q] at e; cases e
theorem Fz.new (e : G p = none) (o : HO) : Fz G (upd G p o) := fun a u q => by
 rw [zaC (zaK q e)]; exact q
theorem Fz.upd2 (h : Fz G H) (p : Addr) (o : HO) : Fz (upd G p o) (upd H p o) := fun a u q => by
 by_cases e : a = p
 ·subst e; rw [zaV] at q ⊢; exact q
 ·rw [zaC e] at q ⊢; exact h a u q
theorem Fz.right (h : Fz G H) (e : G p = none) (o : HO) : Fz G (upd H p o) := fun a u q => by
 rw [zaC (zaK q e)]; exact h a u q
theorem Fz.sql {G H : Hp} (h : Fz G H) (q : SqL K G a xs) : SqL K H a xs := Same.seq (H := G) (H' := H) h q
mutual
theorem RepD.mono (h : Fz G G') : ∀ {v : V} {d : D}, RepD K G v d -> RepD K G' v d
 | _, .non, e => e
 | _, .bl _, e => e
 | _, .int _, e => e
 | _, .str _, e => e
 | _, .lst _, ⟨a, xs, e, q, r⟩ => ⟨a, xs, e, h a _ q, RepL.mono h r⟩
 | _, .tup _, ⟨a, xs, e, q, r⟩ => ⟨a, xs, e, h a _ q, RepL.mono h r⟩
 | _, .scr _, ⟨a, e, q⟩ => ⟨a, e, h.sql q⟩
 | _, .exc _, ⟨a, C, e, n, q⟩ => ⟨a, C, e, n, h a _ q⟩
 | _, .dic _ _, ⟨a, ys, e, q, f, r⟩ => ⟨a, ys, e, q.imp (h a _) fun ⟨o, z⟩ => ⟨o, h a _ z⟩, f, RepL.mono h r⟩
 | _, .dit _ _, ⟨a, ys, o, xs, e, q, f, r⟩ => ⟨a, ys, o, xs, e, h a _ q, f.mono h, RepL.mono h r⟩
theorem RepL.mono (h : Fz G G') : ∀ {xs : List V} {ds : List D}, RepL K G xs ds -> RepL K G' xs ds
 | _, [], e => e
 | _, _ :: _, ⟨x, ys, e, q, r⟩ => ⟨x, ys, e, RepD.mono h q, RepL.mono h r⟩
end
section
variable {K : W.Frag} {G : Hp}
theorem RepL.nil : RepL K G [] [] := rfl
theorem RepL.cons {x : V} {d : D} (h : RepD K G x d) (t : RepL K G xs ds) : RepL K G (x :: xs) (d :: ds) := ⟨x, xs, rfl, h, t⟩
theorem RepL.length : ∀ {xs : List V} {ds : List D}, RepL K G xs ds -> xs.length = ds.length
 | _, [], e => by cases e; rfl
 | _, _ :: _, ⟨x, ys, e, _, r⟩ => by subst e; rw [List.length_cons, List.length_cons, RepL.length r]
theorem RepL.get : ∀ {xs : List V} {ds : List D} {i : Nat} {d : D}, RepL K G xs ds -> ds[i]? = some d -> ∃ x, xs[i]? = some x /\ RepD K G x d
 | _, [], _, _, _, h => by simp at h
 | _, _ :: _, 0, _, ⟨x, ys, e, q, r⟩, h => by subst e; simp at h; subst h; exact ⟨x, rfl, q⟩
 | _, _ :: _, i + 1, _, ⟨x, ys, e, q, r⟩, h => by
  subst e
  obtain ⟨y, h1, h2⟩ := RepL.get (i := i) r (by simpa using h)
  exact ⟨y, by simpa using h1, h2⟩
theorem RepL.append : ∀ {xs ys : List V} {ds es : List D}, RepL K G xs ds -> RepL K G ys es -> RepL K G (xs ++ ys) (ds ++ es)
 | _, _, [], _, e, r => by cases e; exact r
 | _, _, _ :: _, _, ⟨x, zs, e, q, r⟩, s => by subst e; exact ⟨x, zs ++ _, rfl, q, RepL.append r s⟩
theorem RepL.snoc (h : RepL K G xs ds) (q : RepD K G x d) : RepL K G (xs ++ [x]) (ds ++ [d]) := h.append (.cons q .nil)
theorem RepL.take : ∀ {xs : List V} {ds : List D} (n : Nat), RepL K G xs ds -> RepL K G (xs.take n) (ds.take n)
 | _, _, 0, _ => by simp; exact .nil
 | _, [], n + 1, e => by cases e; exact .nil
 | _, _ :: _, n + 1, ⟨x, zs, e, q, r⟩ => by subst e; exact ⟨x, zs.take n, rfl, q, RepL.take n r⟩
theorem RepL.drop : ∀ {xs : List V} {ds : List D} (n : Nat), RepL K G xs ds -> RepL K G (xs.drop n) (ds.drop n)
 | _, _, 0, r => by simpa using r
 | _, [], n + 1, e => by cases e; exact .nil
 | _, _ :: _, n + 1, ⟨x, zs, e, q, r⟩ => by subst e; exact RepL.drop n r
theorem RepL.set : ∀ {xs : List V} {ds : List D} (i : Nat) {x : V} {d : D}, RepL K G xs ds -> RepD K G x d -> RepL K G (xs.set i x) (ds.set i d)
 | _, [], _, _, _, e, _ => by cases e; exact .nil
 | _, _ :: _, 0, _, _, ⟨x, zs, e, q, r⟩, h => by subst e; exact ⟨_, zs, rfl, h, r⟩
 | _, _ :: _, i + 1, _, _, ⟨x, zs, e, q, r⟩, h => by subst e; exact ⟨x, _, rfl, q, RepL.set i r h⟩
theorem RepL.reverse : ∀ {xs : List V} {ds : List D}, RepL K G xs ds -> RepL K G xs.reverse ds.reverse
 | _, [], e => by cases e; exact .nil
 | _, _ :: _, ⟨x, zs, e, q, r⟩ => by subst e; rw [List.reverse_cons, List.reverse_cons]; exact (RepL.reverse r).snoc q
theorem RepL.rep (h : RepL K G xs ds) : ∀ k : Nat, RepL K G (List.replicate k xs).flatten (List.replicate k ds).flatten
 | 0 => .nil
 | k + 1 => by rw [List.replicate_succ, List.replicate_succ, List.flatten_cons, List.flatten_cons]; exact h.append (RepL.rep h k)
theorem RepL.ints : ∀ (ns : List Int), RepL K G (ns.map V.int) (ns.map D.int)
 | [] => .nil
 | n :: ns => ⟨.int n, ns.map V.int, rfl, rfl, RepL.ints ns⟩
theorem RepL.ints_eq : ∀ {ns : List Int} {xs : List V}, RepL K G xs (ns.map D.int) -> xs = ns.map V.int
 | [], _, e => e
 | n :: ns, _, ⟨x, ys, e, q, r⟩ => by subst e; cases (show x = V.int n from q); rw [RepL.ints_eq r]; rfl
theorem RepL.at {i : Int} (h : RepL K G xs ds) (e : atI ds i = some d) : ∃ x, atI xs i = some x /\ RepD K G x d := by
 unfold atI at e ⊢
 rw [h.length]
 cases q : ixN ds.length i with
 | none => rw [q] at e; cases e
 | some j => rw [q] at e; exact h.get e
end
inductive Ch where
 | d (x : D) | l (xs : List D) | t (xss : List (List D))
inductive T where
 | lst (cs : List Ch) | tup (cs : List Ch) | ins (c : Str) (fs : List (Str × Ch)) | dic (ks : List Int) (ds : List D) | dit (ks : List (List Int)) (ds : List D)
inductive Sl where
 | emp | val (d : D) | own (ds : List D) | par (ds : List D) | two (ds es : List D) | tre (t : T) | ptr (t : T)
noncomputable abbrev R := List Sl
noncomputable def Sl.items : Sl -> Option (List D)
 | .own ds => some ds
 | .par ds => some ds
 | _ => none
structure Bs where
 G : Hp
 H : Hp
 O : List (Nat × Addr)
noncomputable def RepTb (K : W.Frag) (G H : Hp) : List V -> List (List D) -> List Addr -> Prop
 | [], [], A => A = []
 | x :: xs, ds :: dss, A => ∃ r ys A2, x = .ref r /\ H r = some (.lst ys) /\ RepL K G ys ds /\ RepTb K G H xs dss A2 /\ A = r :: A2
 | _, _, _ => False
noncomputable def RepC (K : W.Frag) (G H : Hp) (x : V) : Ch -> List Addr -> Prop
 | .d y, A => RepD K G x y /\ A = []
 | .l ds, A => ∃ l xs, x = .ref l /\ H l = some (.lst xs) /\ RepL K G xs ds /\ A = [l]
 | .t xss, A => ∃ p xs A', x = .ref p /\ H p = some (.lst xs) /\ RepTb K G H xs xss A' /\ A = p :: A'
noncomputable def RepCs (K : W.Frag) (G H : Hp) : List V -> List Ch -> List Addr -> Prop
 | [], [], A => A = []
 | x :: xs, c :: cs, A => ∃ A1 A2, RepC K G H x c A1 /\ RepCs K G H xs cs A2 /\ A = A1 ++ A2
 | _, _, _ => False
noncomputable def RepT (K : W.Frag) (G H : Hp) (v : V) : T -> List Addr -> Prop
 | .lst cs, A => ∃ p xs A', v = .ref p /\ H p = some (.lst xs) /\ RepCs K G H xs cs A' /\ A = p :: A'
 | .tup cs, A => ∃ p xs A', v = .ref p /\ H p = some (.tup xs) /\ RepCs K G H xs cs A' /\ A = p :: A'
 | .ins c fs, A => ∃ p C dx vs A', v = .ref p /\ W.nsIn K mainGlobals c = some (some (.ref C)) /\ H p = some (.ins C dx vs) /\ H dx = some (.own p) /\ vs.map (·.1) = fs.map (·.1) /\ RepCs K G H (vs.map (·.2)) (fs.map (·.2)) A' /\ A = p :: dx :: A'
 | .dic ks ds, A => ∃ p ys, v = .ref p /\ H p = some (.dK ys) /\ ys.map (·.1) = ks.map kI /\ RepL K G (ys.map (·.2)) ds /\ A = [p]
 | .dit ks ds, A => ∃ p ys o xs, v = .ref p /\ H p = some (kn p o) /\ DtI G p o xs ks ys /\ RepL K G (ys.map (·.2)) ds /\ A = [p]
section
variable {K : W.Frag} {G G' H H' : Hp}
theorem RepTb.move : ∀ {xs : List V} {dss : List (List D)} {A : List Addr}, RepTb K G H xs dss A -> Fz G G' -> (∀ a ∈ A, H' a = H a) -> RepTb K G' H' xs dss A
 | [], [], _, h, _, _ => h
 | x :: xs, ds :: dss, A, ⟨r, ys, A2, e1, e2, e3, e4, e5⟩, hg, hh => ⟨r, ys, A2, e1, by rw [hh r (by rw [e5]; simp)]; exact e2, e3.mono hg, e4.move hg fun a m => hh a (by rw [e5]; simp [m]), e5⟩
 | [], _ :: _, _, h, _, _ => h.elim
 | _ :: _, [], _, h, _, _ => h.elim
theorem RepTb.det : ∀ {xs : List V} {dss : List (List D)} {A A' : List Addr}, RepTb K G H xs dss A -> RepTb K G' H' xs dss A' -> A = A'
 | [], [], _, _, h, h' => by rw [show _ = [] from h, show _ = [] from h']
 | x :: xs, ds :: dss, _, _, ⟨r, ys, A2, e1, _, _, e4, e5⟩, ⟨r', ys', A2', e1', _, _, e4', e5'⟩ => by
  rw [e1] at e1'; cases e1'
  rw [e5, e5', e4.det e4']
 | [], _ :: _, _, _, h, _ => h.elim
 | _ :: _, [], _, _, h, _ => h.elim
theorem RepTb.here : ∀ {xs : List V} {dss : List (List D)} {A : List Addr}, RepTb K G H xs dss A -> ∀ {a : Addr}, a ∈ A -> ∃ xs, H a = some (.lst xs)
 | [], [], _, h, a, m => by rw [show _ = [] from h] at m; cases m
 | x :: xs, ds :: dss, _, ⟨r, ys, A2, e1, e2, _, e4, e5⟩, a, m => by
  rw [e5] at m
  rcases List.mem_cons.mp m with rfl | m
  ·exact ⟨ys, e2⟩
  ·exact e4.here m
 | [], _ :: _, _, h, _, _ => h.elim
 | _ :: _, [], _, h, _, _ => h.elim
theorem RepC.move (h : RepC K G H x c A) (hg : Fz G G') (hh : ∀ a ∈ A, H' a = H a) : RepC K G' H' x c A := by
 cases c with
 | d y => exact ⟨h.1.mono hg, h.2⟩
 | l ds => obtain ⟨l, xs, e, q, r, rfl⟩ := h; exact ⟨l, xs, e, by rw [hh l (by simp)]; exact q, r.mono hg, rfl⟩
 | t xss => obtain ⟨p, xs, A', e, q, r, rfl⟩ := h; exact ⟨p, xs, A', e, by rw [hh p (by simp)]; exact q, r.move hg fun a m => hh a (by simp [m]), rfl⟩
theorem RepCs.move : ∀ {xs : List V} {cs : List Ch} {A : List Addr}, RepCs K G H xs cs A -> Fz G G' -> (∀ a ∈ A, H' a = H a) -> RepCs K G' H' xs cs A
 | [], [], _, h, _, _ => h
 | x :: xs, c :: cs, A, ⟨A1, A2, h1, h2, e⟩, hg, hh => ⟨A1, A2, h1.move hg fun a m => hh a (by rw [e]; exact List.mem_append_left _ m), h2.move hg fun a m => hh a (by rw [e]; exact List.mem_append_right _ m), e⟩
 | [], _ :: _, _, h, _, _ => h.elim
 | _ :: _, [], _, h, _, _ => h.elim
theorem RepT.move (h : RepT K G H v t A) (hg : Fz G G') (hh : ∀ a ∈ A, H' a = H a) : RepT K G' H' v t A := by
 cases t with
 | lst cs => obtain ⟨p, xs, A', e, q, r, rfl⟩ := h; exact ⟨p, xs, A', e, by rw [hh p (by simp)]; exact q, r.move hg fun a m => hh a (by simp [m]), rfl⟩
 | tup cs => obtain ⟨p, xs, A', e, q, r, rfl⟩ := h; exact ⟨p, xs, A', e, by rw [hh p (by simp)]; exact q, r.move hg fun a m => hh a (by simp [m]), rfl⟩
 | ins c fs => obtain ⟨p, C, dx, vs, A', e, n, q, q2, f, r, rfl⟩ := h; exact ⟨p, C, dx, vs, A', e, n, by rw [hh p (by simp)]; exact q, by rw [hh dx (by simp)]; exact q2, f, r.move hg fun a m => hh a (by simp [m]), rfl⟩
 | dic ks ds => obtain ⟨p, ys, e, q, f, r, rfl⟩ := h; exact ⟨p, ys, e, by rw [hh p (by simp)]; exact q, f, r.mono hg, rfl⟩
 | dit ks ds => obtain ⟨p, ys, o, xs, e, q, f, r, rfl⟩ := h; exact ⟨p, ys, o, xs, e, by rw [hh p (by simp)]; exact q, f.mono hg, r.mono hg, rfl⟩
theorem RepC.det (h : RepC K G H x c A) (h' : RepC K G' H' x c A') (hh : ∀ a ∈ A, H' a = H a) : A = A' := by
 cases c with
 | d y => rw [h.2, h'.2]
 | l ds => obtain ⟨l, xs, e, _, _, rfl⟩ := h; obtain ⟨l', xs', e', _, _, rfl⟩ := h'; rw [e] at e'; cases e'; rfl
 | t xss =>
  obtain ⟨p, xs, B, e, q, r, rfl⟩ := h; obtain ⟨p', xs', B', e', q', r', rfl⟩ := h'
  rw [e] at e'; cases e'
  rw [hh p (by simp), q] at q'; cases q'
  rw [r.det r']
theorem RepCs.det : ∀ {xs : List V} {cs : List Ch} {A A' : List Addr}, RepCs K G H xs cs A -> RepCs K G' H' xs cs A' -> (∀ a ∈ A, H' a = H a) -> A = A'
 | [], [], _, _, h, h', _ => by rw [show _ = [] from h, show _ = [] from h']
 | x :: xs, c :: cs, _, _, ⟨A1, A2, h1, h2, e⟩, ⟨B1, B2, k1, k2, e'⟩, hh => by rw [e, e', h1.det k1 fun a m => hh a (by rw [e]; exact List.mem_append_left _ m), h2.det k2 fun a m => hh a (by rw [e]; exact List.mem_append_right _ m)]
 | [], _ :: _, _, _, h, _, _ => h.elim
 | _ :: _, [], _, _, h, _, _ => h.elim
theorem RepT.det (h : RepT K G H v t A) (h' : RepT K G' H' v t A') (hh : ∀ a ∈ A, H' a = H a) : A = A' := by
 cases t with
 | lst cs =>
  obtain ⟨p, xs, B, e, q, r, rfl⟩ := h; obtain ⟨p', xs', B', e', q', r', rfl⟩ := h'
  rw [e] at e'; cases e'
  rw [hh p (by simp), q] at q'; cases q'
  rw [r.det r' fun a m => hh a (by simp [m])]
 | tup cs =>
  obtain ⟨p, xs, B, e, q, r, rfl⟩ := h; obtain ⟨p', xs', B', e', q', r', rfl⟩ := h'
  rw [e] at e'; cases e'
  rw [hh p (by simp), q] at q'; cases q'
  rw [r.det r' fun a m => hh a (by simp [m])]
 | ins c fs =>
  obtain ⟨p, C, dx, vs, B, e, n, q, q2, f, r, rfl⟩ := h; obtain ⟨p', C', dx', vs', B', e', n', q', q2', f', r', rfl⟩ := h'
  rw [e] at e'; cases e'
  rw [hh p (by simp), q] at q'; cases q'
  rw [r.det r' fun a m => hh a (by simp [m])]
 | dic ks ds => obtain ⟨p, ys, e, q, f, r, rfl⟩ := h; obtain ⟨p', ys', e', q', f', r', rfl⟩ := h'; rw [e] at e'; cases e'; rfl
 | dit ks ds => obtain ⟨p, ys, o, xs, e, q, f, r, rfl⟩ := h; obtain ⟨p', ys', o', xs', e', q', f', r', rfl⟩ := h'; rw [e] at e'; cases e'; rfl
theorem RepC.here (h : RepC K G H x c A) (m : a ∈ A) : ∃ xs, H a = some (.lst xs) := by
 cases c with
 | d y => rw [h.2] at m; cases m
 | l ds => obtain ⟨l, xs, _, q, _, rfl⟩ := h; simp at m; subst m; exact ⟨xs, q⟩
 | t xss =>
  obtain ⟨p, xs, A', _, q, r, rfl⟩ := h
  rcases List.mem_cons.mp m with rfl | m
  ·exact ⟨xs, q⟩
  ·exact r.here m
theorem RepCs.here : ∀ {xs : List V} {cs : List Ch} {A : List Addr}, RepCs K G H xs cs A -> ∀ {a : Addr}, a ∈ A -> ∃ xs, H a = some (.lst xs)
 | [], [], _, h, a, m => by rw [show _ = [] from h] at m; cases m
 | x :: xs, c :: cs, _, ⟨A1, A2, h1, h2, e⟩, a, m => by
  rw [e] at m
  rcases List.mem_append.mp m with m | m
  ·exact h1.here m
  ·exact h2.here m
 | [], _ :: _, _, h, _, _ => h.elim
 | _ :: _, [], _, h, _, _ => h.elim
theorem RepT.here (h : RepT K G H v t A) (m : a ∈ A) : H a ≠ none := by
 cases t with
 | lst cs =>
  obtain ⟨p, xs, B, e, q, r, rfl⟩ := h
  rcases List.mem_cons.mp m with rfl | m
  ·rw [q]; simp
  ·obtain ⟨ys, z⟩ := r.here m; rw [z]; simp
 | tup cs =>
  obtain ⟨p, xs, B, e, q, r, rfl⟩ := h
  rcases List.mem_cons.mp m with rfl | m
  ·rw [q]; simp
  ·obtain ⟨ys, z⟩ := r.here m; rw [z]; simp
 | ins c fs =>
  obtain ⟨p, C, dx, vs, B, e, n, q, q2, f, r, rfl⟩ := h
  rcases List.mem_cons.mp m with rfl | m
  ·rw [q]; simp
  rcases List.mem_cons.mp m with rfl | m
  ·rw [q2]; simp
  ·obtain ⟨ys, z⟩ := r.here m; rw [z]; simp
 | dic ks ds => obtain ⟨p, ys, e, q, f, r, rfl⟩ := h; simp at m; subst m; rw [q]; simp
 | dit ks ds => obtain ⟨p, ys, o, xs, e, q, f, r, rfl⟩ := h; simp at m; subst m; rw [q]; simp
end
noncomputable def SlotOk (K : W.Frag) (B : Bs) (G H : Hp) (i : Nat) (ov : Option (Option V)) : Sl -> Prop
 | .emp => True
 | .two _ _ => True
 | .val d => ∃ v, ov = some (some v) /\ RepD K G v d
 | .own ds => ∃ l xs, ov = some (some (.ref l)) /\ G l = none /\ H l = some (.lst xs) /\ RepL K G xs ds /\ B.H l = none
 | .par ds => ∃ l xs, ov = some (some (.ref l)) /\ G l = none /\ H l = some (.lst xs) /\ RepL K G xs ds /\ (i, l) ∈ B.O
 | .tre t => ∃ v A, ov = some (some v) /\ RepT K G H v t A /\ A.Nodup /\ ∀ a ∈ A, G a = none /\ B.H a = none
 | .ptr t => ∃ v A, ov = some (some v) /\ RepT K G H v t A /\ A.Nodup /\ ∀ a ∈ A, G a = none /\ (B.H a = none \/ (i, a) ∈ B.O)
noncomputable def Wr (ρ : R) (i : Nat) : Prop := ∃ s ds, ρ[i]? = some s /\ s.items = some ds
noncomputable def OwS (K : W.Frag) (G H : Hp) (ov : Option (Option V)) (a : Addr) : Sl -> Prop
 | .own _ => ov = some (some (.ref a))
 | .par _ => ov = some (some (.ref a))
 | .tre t => ∃ v A, ov = some (some v) /\ RepT K G H v t A /\ a ∈ A
 | .ptr t => ∃ v A, ov = some (some v) /\ RepT K G H v t A /\ a ∈ A
 | _ => False
noncomputable def Nw (K : W.Frag) (G H : Hp) (σ : St) (ρ : R) (a : Addr) : Prop := ∀ (i : Nat) (s : Sl), ρ[i]? = some s -> ¬ OwS K G H σ[i]? a s
structure SI (K : W.Frag) (B : Bs) (G H : Hp) (σ : St) (ρ : R) : Prop where
 fz : Fz G H
 g0 : Fz B.G G
 new : ∀ b o, G b = some o -> B.G b ≠ none \/ B.H b = none
 keep : ∀ b o, B.H b = some o -> (∀ i, (i, b) ∉ B.O) -> H b = some o
 there : ∀ b, H b = none -> B.H b = none
 len : σ.length = ρ.length
 ob : ∀ i b, (i, b) ∈ B.O -> B.H b ≠ none
 slot : ∀ i s, ρ[i]? = some s -> SlotOk K B G H i σ[i]? s
 dis : ∀ (i j : Nat) (s t : Sl) (a : Addr), i ≠ j -> ρ[i]? = some s -> ρ[j]? = some t -> OwS K G H σ[i]? a s -> ¬ OwS K G H σ[j]? a t
section
variable {K : W.Frag} {B : Bs} {G G' H H' : Hp} {σ : St} {ρ : R}
theorem SlotOk.own (h : SlotOk K B G H i ov s) (w : OwS K G H ov a s) : G a = none /\ H a ≠ none /\ (B.H a = none \/ (i, a) ∈ B.O) := by
 cases s with
 | emp => exact w.elim
 | two _ _ => exact w.elim
 | val d => exact w.elim
 | own ds => obtain ⟨l, xs, e, g, k, r, n⟩ := h; rw [show ov = _ from w] at e; cases e; exact ⟨g, by rw [k]; simp, .inl n⟩
 | par ds => obtain ⟨l, xs, e, g, k, r, n⟩ := h; rw [show ov = _ from w] at e; cases e; exact ⟨g, by rw [k]; simp, .inr n⟩
 | tre t =>
  obtain ⟨v, A, e, r, nd, f⟩ := h
  obtain ⟨v', A', e', r', m⟩ := w
  rw [e] at e'; cases e'
  rw [<- r.det r' fun _ _ => rfl] at m
  exact ⟨(f a m).1, r.here m, .inl (f a m).2⟩
 | ptr t =>
  obtain ⟨v, A, e, r, nd, f⟩ := h
  obtain ⟨v', A', e', r', m⟩ := w
  rw [e] at e'; cases e'
  rw [<- r.det r' fun _ _ => rfl] at m
  exact ⟨(f a m).1, r.here m, (f a m).2⟩
theorem SlotOk.mono (h : SlotOk K B G H i ov s) (hg : Fz G G') (hw : ∀ a, OwS K G H ov a s -> G a = none -> H a ≠ none -> G' a = none /\ H' a = H a) : SlotOk K B G' H' i ov s := by
 have ow := fun a (w : OwS K G H ov a s) => h.own w
 cases s with
 | emp => trivial
 | two _ _ => trivial
 | val d => obtain ⟨v, e, r⟩ := h; exact ⟨v, e, r.mono hg⟩
 | own ds =>
  obtain ⟨l, xs, e, g, k, r, n⟩ := h
  obtain ⟨h1, h2⟩ := hw l e g (by rw [k]; simp)
  exact ⟨l, xs, e, h1, h2.trans k, r.mono hg, n⟩
 | par ds =>
  obtain ⟨l, xs, e, g, k, r, n⟩ := h
  obtain ⟨h1, h2⟩ := hw l e g (by rw [k]; simp)
  exact ⟨l, xs, e, h1, h2.trans k, r.mono hg, n⟩
 | tre t =>
  obtain ⟨v, A, e, r, nd, f⟩ := h
  have w := fun a m => hw a ⟨v, A, e, r, m⟩ (f a m).1 (r.here m)
  exact ⟨v, A, e, r.move hg fun a m => (w a m).2, nd, fun a m => ⟨(w a m).1, (f a m).2⟩⟩
 | ptr t =>
  obtain ⟨v, A, e, r, nd, f⟩ := h
  have w := fun a m => hw a ⟨v, A, e, r, m⟩ (f a m).1 (r.here m)
  exact ⟨v, A, e, r.move hg fun a m => (w a m).2, nd, fun a m => ⟨(w a m).1, (f a m).2⟩⟩
theorem SlotOk.back (h : SlotOk K B G H i ov s) (hw : ∀ a, OwS K G H ov a s -> G a = none -> H a ≠ none -> G' a = none /\ H' a = H a) (w : OwS K G' H' ov a s) : OwS K G H ov a s := by
 cases s with
 | emp => exact w
 | two _ _ => exact w
 | val d => exact w
 | own ds => exact w
 | par ds => exact w
 | tre t =>
  obtain ⟨v, A, e, r, nd, f⟩ := h
  obtain ⟨v', A', e', r', m⟩ := w
  rw [e] at e'; cases e'
  have q := r.det r' fun a m => (hw a ⟨v, A, e, r, m⟩ (f a m).1 (r.here m)).2
  subst q
  exact ⟨v, A, e, r, m⟩
 | ptr t =>
  obtain ⟨v, A, e, r, nd, f⟩ := h
  obtain ⟨v', A', e', r', m⟩ := w
  rw [e] at e'; cases e'
  have q := r.det r' fun a m => (hw a ⟨v, A, e, r, m⟩ (f a m).1 (r.here m)).2
  subst q
  exact ⟨v, A, e, r, m⟩
theorem SI.move (I : SI K B G H σ ρ) (fz : Fz G' H') (fg : Fz G G') (new : ∀ b o, G' b = some o -> B.G b ≠ none \/ B.H b = none) (keep : ∀ b o, B.H b = some o -> (∀ i, (i, b) ∉ B.O) -> H' b = some o) (there : ∀ b, H' b = none -> B.H b = none)
  (ow : ∀ (i : Nat) (s : Sl) (a : Addr), ρ[i]? = some s -> OwS K G H σ[i]? a s -> G a = none -> H a ≠ none -> G' a = none /\ H' a = H a) : SI K B G' H' σ ρ where
 fz := fz
 g0 := I.g0.trans fg
 new := new
 keep := keep
 there := there
 len := I.len
 ob := I.ob
 slot := fun i s e => (I.slot i s e).mono fg fun a w g h => ow i s a e w g h
 dis := fun i j s t a n e1 e2 w1 w2 => I.dis i j s t a n e1 e2 ((I.slot i s e1).back (fun a w g h => ow i s a e1 w g h) w1) ((I.slot j t e2).back (fun a w g h => ow j t a e2 w g h) w2)
theorem SI.chg (I : SI K B G H σ ρ) {ov : Option V} {s' : Sl} (fz : Fz G' H') (fg : Fz G G') (new : ∀ b o, G' b = some o -> B.G b ≠ none \/ B.H b = none) (keep : ∀ b o, B.H b = some o -> (∀ i, (i, b) ∉ B.O) -> H' b = some o) (there : ∀ b, H' b = none -> B.H b = none)
  (ow : ∀ (j : Nat) (s : Sl) (a : Addr), j ≠ i -> ρ[j]? = some s -> OwS K G H σ[j]? a s -> G a = none -> H a ≠ none -> G' a = none /\ H' a = H a /\ ¬ OwS K G' H' (some ov) a s') (sl : SlotOk K B G' H' i (some ov) s') : SI K B G' H' (σ.set i ov) (ρ.set i s') := by
 have atI : ∀ {s}, (ρ.set i s')[i]? = some s -> s = s' /\ (σ.set i ov)[i]? = some ov := fun {s} e => by
  rw [List.getElem?_set, if_pos rfl] at e ⊢
  split at e
  ·rename_i h; cases e; rw [if_pos (by rw [I.len]; exact h)]; exact ⟨rfl, rfl⟩
  ·cases e
 have atJ : ∀ {j s}, j ≠ i -> (ρ.set i s')[j]? = some s -> ρ[j]? = some s /\ (σ.set i ov)[j]? = σ[j]? := fun {j s} n e => by
  rw [List.getElem?_set_ne (Ne.symm n)] at e ⊢
  exact ⟨e, rfl⟩
 refine ⟨fz, I.g0.trans fg, new, keep, there, by rw [List.length_set, List.length_set]; exact I.len, I.ob, fun j s e => ?_, fun j k s t a n e1 e2 w1 w2 => ?_⟩
 ·by_cases z : j = i
  ·subst z; obtain ⟨rfl, q⟩ := atI e; rw [q]; exact sl
  ·obtain ⟨e1, q⟩ := atJ z e
   rw [q]
   exact (I.slot j s e1).mono fg fun a w g h => ⟨(ow j s a z e1 w g h).1, (ow j s a z e1 w g h).2.1⟩
 ·have one : ∀ j s, j ≠ i -> (ρ.set i s')[j]? = some s -> OwS K G' H' (σ.set i ov)[j]? a s -> ρ[j]? = some s /\ OwS K G H σ[j]? a s := fun j s z e w => by
   obtain ⟨e1, q⟩ := atJ z e
   rw [q] at w
   exact ⟨e1, (I.slot j s e1).back (fun a w g h => ⟨(ow j s a z e1 w g h).1, (ow j s a z e1 w g h).2.1⟩) w⟩
  by_cases z1 : j = i
  ·subst z1
   obtain ⟨rfl, q1⟩ := atI e1
   obtain ⟨f2, w2⟩ := one k t (Ne.symm n) e2 w2
   obtain ⟨o1, o2, _⟩ := (I.slot k t f2).own w2
   rw [q1] at w1
   exact (ow k t a (Ne.symm n) f2 w2 o1 o2).2.2 w1
  ·have p1 := one j s z1 e1 w1
   by_cases z2 : k = i
   ·subst z2
    obtain ⟨rfl, q2⟩ := atI e2
    obtain ⟨o1, o2, _⟩ := (I.slot j s p1.1).own p1.2
    rw [q2] at w2
    exact (ow j s a z1 p1.1 p1.2 o1 o2).2.2 w2
   ·have p2 := one k t z2 e2 w2
    exact I.dis j k s t a n p1.1 p2.1 p1.2 p2.2
theorem SI.nw (I : SI K B G H σ ρ) (hp : H p = none) : Nw K G H σ ρ p := fun i s e w => ((I.slot i s e).own w).2.1 hp
theorem SI.nw_move (I : SI K B G H σ ρ) (n : Nw K G H σ ρ p) (ow : ∀ (i : Nat) (s : Sl) (a : Addr), ρ[i]? = some s -> OwS K G H σ[i]? a s -> G a = none -> H a ≠ none -> G' a = none /\ H' a = H a) : Nw K G' H' σ ρ p :=
 fun i s e w => n i s e ((I.slot i s e).back (fun a w g h => ow i s a e w g h) w)
theorem SI.allocF (I : SI K B G H σ ρ) (hp : H p = none) (o : HO) : SI K B (upd G p o) (upd H p o) σ ρ :=
 I.move (I.fz.upd2 p o) (Fz.new (I.fz.free hp) o) (fun b u e => by
  by_cases q : b = p
  ·subst q; exact .inr (I.there b hp)
  ·rw [zaC q] at e; exact I.new b u e) (fun b u e n => by
  have q := I.keep b u e n
  rw [zaC (zaK q hp)]; exact q) (fun b e => by
  by_cases q : b = p
  ·subst q; rw [zaV] at e; cases e
  ·rw [zaC q] at e; exact I.there b e) (fun i s a _ _ g h => by
  have q : a ≠ p := fun z => h (by rw [z]; exact hp)
  rw [zaC q, zaC q]; exact ⟨g, rfl⟩)
theorem SI.allocO (I : SI K B G H σ ρ) (hp : H p = none) (o : HO) : SI K B G (upd H p o) σ ρ :=
 I.move (I.fz.right (I.fz.free hp) o) (Fz.refl G) I.new (fun b u e n => by
  have q := I.keep b u e n
  rw [zaC (zaK q hp)]; exact q) (fun b e => by
  by_cases q : b = p
  ·subst q; rw [zaV] at e; cases e
  ·rw [zaC q] at e; exact I.there b e) (fun i s a _ _ g h => by
  have q : a ≠ p := fun z => h (by rw [z]; exact hp)
  rw [zaC q]; exact ⟨g, rfl⟩)
theorem SI.frz (I : SI K B G H σ ρ) {o : HO} (hl : H l = some o) (hB : B.H l = none) (hn : Nw K G H σ ρ l) (hg : G l = none) : SI K B (upd G l o) H σ ρ :=
 I.move (fun a u q => by
  by_cases e : a = l
  ·subst e; rw [zaV] at q; cases q; exact hl
  ·rw [zaC e] at q; exact I.fz a u q) (Fz.new hg o) (fun b u e => by
  by_cases q : b = l
  ·subst q; exact .inr hB
  ·rw [zaC q] at e; exact I.new b u e) I.keep I.there (fun i s a e w g _ => by
  refine ⟨?_, rfl⟩
  rw [zaC (fun z => ?_)]
  ·exact g
  ·subst z; exact hn i s e w)
theorem SI.set (I : SI K B G H σ ρ) (h : RepD K G v d) : SI K B G H (σ.set i (some v)) (ρ.set i (.val d)) :=
 I.chg I.fz (Fz.refl G) I.new I.keep I.there (fun _ _ _ _ _ _ g _ => ⟨g, rfl, id⟩) ⟨v, rfl, h⟩
theorem SI.setO (I : SI K B G H σ ρ) (hg : G l = none) (hl : H l = some (.lst xs)) (h : RepL K G xs ds) (hB : B.H l = none) (hn : Nw K G H σ ρ l) :
  SI K B G H (σ.set i (some (.ref l))) (ρ.set i (.own ds)) :=
 I.chg I.fz (Fz.refl G) I.new I.keep I.there (fun j s a _ e w g _ => ⟨g, rfl, fun z => by cases (show some (some (V.ref l)) = some (some (.ref a)) from z); exact hn j s e w⟩) ⟨l, xs, rfl, hg, hl, h, hB⟩
theorem SI.wr (I : SI K B G H σ ρ) (e : ρ[i]? = some s) (q : s.items = some ds) : ∃ l xs, σ[i]? = some (some (.ref l)) /\ G l = none /\ H l = some (.lst xs) /\ RepL K G xs ds := by
 have h := I.slot i s e
 cases s with
 | emp => cases q
 | two _ _ => cases q
 | val d => cases q
 | tre _ => cases q
 | ptr _ => cases q
 | own es => cases q; obtain ⟨l, xs, h1, h2, h3, h4, _⟩ := h; exact ⟨l, xs, h1, h2, h3, h4⟩
 | par es => cases q; obtain ⟨l, xs, h1, h2, h3, h4, _⟩ := h; exact ⟨l, xs, h1, h2, h3, h4⟩
noncomputable def Sl.put (s : Sl) (ds : List D) : Sl := match s with
 | .own _ => .own ds
 | .par _ => .par ds
 | s => s
theorem zbk (q : s.items = some ds) : OwS K G H ov a s ↔ ov = some (some (.ref a)) := by
 cases s with
 | own _ => exact Iff.rfl
 | par _ => exact Iff.rfl
 | _ => cases q
theorem zhm (q : s.items = some ds) (es : List D) : (s.put es).items = some es := by
 cases s with
 | own _ => rfl
 | par _ => rfl
 | _ => cases q
theorem zmc {α : Type} {l : List α} {x : α} (e : l[i]? = some x) : l.set i x = l := by
 obtain ⟨h, rfl⟩ := List.getElem?_eq_some_iff.mp e
 exact List.set_getElem_self h
theorem SI.chgW (I : SI K B G H σ ρ) {i : Nat} (e : ρ[i]? = some s) (q : s.items = some ds) (hl : σ[i]? = some (some (.ref l))) (fz : Fz G' H') (fg : Fz G G') (nw : ∀ b o, G' b = some o -> G b ≠ none \/ H b = none)
  (kp : ∀ b o, b ≠ l -> H b = some o -> H' b = some o) (gl : G' l = none) (hl' : H' l = some (.lst ys)) (r : RepL K G' ys es) : SI K B G' H' σ (ρ.set i (s.put es)) := by
 obtain ⟨l', xs, e1, e2, e3, e4⟩ := I.wr e q
 rw [hl] at e1; cases e1
 have sl := I.slot i s e
 have nb : ∀ b o, B.H b = some o -> (∀ i, (i, b) ∉ B.O) -> b ≠ l := fun b o h1 h2 z => by
  subst z
  rcases (sl.own ((zbk q).mpr hl)).2.2 with z | z
  ·rw [h1] at z; cases z
  ·exact h2 i z
 have h := I.chg (i := i) (ov := some (.ref l)) (s' := s.put es) (G' := G') (H' := H') fz fg (fun b o k => ?_) (fun b o k1 k2 => kp b o (nb b o k1 k2) (I.keep b o k1 k2)) (fun b k => ?_) (fun j t a z ej w g ha => ?_) ?_
 ·rwa [zmc hl] at h
 ·rcases nw b o k with h | h
  ·cases q2 : G b with
   | none => exact absurd q2 h
   | some u => exact I.new b u q2
  ·exact .inr (I.there b h)
 ·refine I.there b ?_
  cases q2 : H b with
  | none => rfl
  | some u =>
   by_cases z : b = l
   ·subst z; rw [hl'] at k; cases k
   ·rw [kp b u z q2] at k; cases k
 ·have na : a ≠ l := fun w' => by subst w'; exact I.dis j i t s a z ej e w ((zbk q).mpr hl)
  obtain ⟨u, hu⟩ := Option.ne_none_iff_exists'.mp ha
  refine ⟨?_, (kp a u na hu).trans hu.symm, fun z => na ?_⟩
  ·cases q2 : G' a with
   | none => rfl
   | some u =>
    rcases nw a u q2 with z | z
    ·exact absurd g z
    ·exact absurd z ha
  ·cases (zbk (zhm q es)).mp z; rfl
 ·cases s with
  | own es' => obtain ⟨l', xs', k1, k2, k3, k4, k5⟩ := sl; rw [hl] at k1; cases k1; exact ⟨_, ys, rfl, gl, hl', r, k5⟩
  | par es' => obtain ⟨l', xs', k1, k2, k3, k4, k5⟩ := sl; rw [hl] at k1; cases k1; exact ⟨_, ys, rfl, gl, hl', r, k5⟩
  | _ => cases q
theorem SI.write (I : SI K B G H σ ρ) (e : ρ[i]? = some s) (q : s.items = some ds) (hl : σ[i]? = some (some (.ref l))) (h : RepL K G ys es) :
  SI K B G (upd H l (.lst ys)) σ (ρ.set i (s.put es)) := by
 obtain ⟨l', xs, e1, e2, e3, e4⟩ := I.wr e q
 rw [hl] at e1; cases e1
 exact I.chgW e q hl (I.fz.right e2 _) (Fz.refl G) (fun b o k => .inl (by rw [k]; simp)) (fun b o z k => by rw [zaC z]; exact k) e2 zaV h
theorem SI.freeze (I : SI K B G H σ ρ) {i : Nat} (e : ρ[i]? = some (.own ds)) : ∃ l xs, σ[i]? = some (some (.ref l)) /\ Fz G (upd G l (.lst xs)) /\ RepD K (upd G l (.lst xs)) (.ref l) (.lst ds) /\
  SI K B (upd G l (.lst xs)) H σ (ρ.set i (.val (.lst ds))) := by
 obtain ⟨l, xs, h1, h2, h3, h4, h5⟩ := I.slot i _ e
 have fz := Fz.new h2 (.lst xs)
 have rep : RepD K (upd G l (.lst xs)) (.ref l) (.lst ds) := ⟨l, xs, rfl, zaV, h4.mono fz⟩
 refine ⟨l, xs, h1, fz, rep, ?_⟩
 have h := I.chg (i := i) (ov := some (.ref l)) (s' := .val (.lst ds)) (G' := upd G l (.lst xs)) (H' := H) (fun a u q => ?_) fz (fun b u q => ?_) I.keep I.there (fun j t a z ej w g _ => ⟨?_, rfl, id⟩) ⟨.ref l, rfl, rep⟩
 ·rwa [zmc h1] at h
 ·by_cases z : a = l
  ·subst z; rw [zaV] at q; cases q; exact h3
  ·rw [zaC z] at q; exact I.fz a u q
 ·by_cases z : b = l
  ·subst z; exact .inr h5
  ·rw [zaC z] at q; exact I.new b u q
 ·rw [zaC (fun q => by subst q; exact I.dis j i t _ a z ej e w h1)]; exact g
end
noncomputable abbrev ME := R -> Option (D × R)
noncomputable abbrev MO := R -> Option (List D × R)
noncomputable abbrev MT := R -> Option (Bool × R)
noncomputable abbrev MA := R -> Option (List D × R)
noncomputable def SE (X : Cx) (e : Expr) (m : ME) : Prop :=
 ∃ t, PE X e t /\ ∀ B G H σ ρ d ρ' (Q : VK), SI X.K B G H σ ρ -> m ρ = some (d, ρ') -> (∀ G' H' v, SI X.K B G' H' σ ρ' -> Fz G G' -> RepD X.K G' v d -> Q v H') -> t σ H Q
noncomputable def SO (X : Cx) (e : Expr) (m : MO) : Prop :=
 ∃ t, PE X e t /\ ∀ B G H σ ρ ds ρ' (Q : VK), SI X.K B G H σ ρ -> m ρ = some (ds, ρ') ->
  (∀ G' H' l xs, SI X.K B G' H' σ ρ' -> Fz G G' -> G' l = none -> H' l = some (.lst xs) -> RepL X.K G' xs ds -> B.H l = none -> Nw X.K G' H' σ ρ' l -> Q (.ref l) H') -> t σ H Q
noncomputable def STt (X : Cx) (e : Expr) (m : MT) : Prop :=
 ∃ t, PT X e t /\ ∀ B G H σ ρ d ρ' (Q : Bool -> Hp -> Prop), SI X.K B G H σ ρ -> m ρ = some (d, ρ') -> (∀ G' H', SI X.K B G' H' σ ρ' -> Fz G G' -> Q d H') -> t σ H Q
noncomputable def SA (X : Cx) (es : List Expr) (m : MA) : Prop :=
 ∃ t, PA X es t /\ ∀ B G H σ ρ ds ρ' (Q : List V -> Hp -> Prop), SI X.K B G H σ ρ -> m ρ = some (ds, ρ') -> (∀ G' H' vs, SI X.K B G' H' σ ρ' -> Fz G G' -> RepL X.K G' vs ds -> Q vs H') -> t σ H Q
theorem zjx {B : Bs} {σ : St} (I : SI K B G H σ ρ) (hg : G l = none) (hl : H l = some (.lst xs)) (h : RepL K G xs ds) (hB : B.H l = none) (hn : Nw K G H σ ρ l) :
  SI K B (upd G l (.lst xs)) H σ ρ /\ Fz G (upd G l (.lst xs)) /\ RepD K (upd G l (.lst xs)) (.ref l) (.lst ds) :=
 ⟨I.frz hl hB hn hg, Fz.new hg _, ⟨l, xs, rfl, zaV, h.mono (Fz.new hg _)⟩⟩
noncomputable def eFz (m : MO) : ME := fun ρ => (m ρ).map fun p => (.lst p.1, p.2)
theorem SO.se {X : Cx} {m : MO} (h : SO X e m) : SE X e (eFz m) := by
 obtain ⟨t, p, s⟩ := h
 refine ⟨t, p, fun B G H σ ρ d ρ' Q I hm k => ?_⟩
 unfold eFz at hm
 cases q : m ρ with
 | none => rw [q] at hm; cases hm
 | some r =>
  obtain ⟨ds, ρ1⟩ := r
  rw [q] at hm
  cases hm
  refine s B G H σ ρ ds _ Q I q fun G' H' l xs I' fz hg hl hr hB hn => ?_
  obtain ⟨I2, f2, r2⟩ := zjx I' hg hl hr hB hn
  exact k _ _ _ I2 (fz.trans f2) r2
noncomputable def eC (d : D) : ME := fun ρ => some (d, ρ)
noncomputable def eVar (i : Nat) : ME := fun ρ => match ρ[i]? with
 | some (.val d) => some (d, ρ)
 | some (.own ds) => some (.lst ds, ρ.set i (.val (.lst ds)))
 | _ => none
section
variable {X : Cx} {pos : Pos}
theorem zab (i : Nat) {x : Str} (hN : X.N[i]? = some x := by rfl) (hv : Vis X.env.scope x := by first | exact Or.inl rfl | exact Or.inr (Or.inl rfl) | exact Or.inr (Or.inr rfl)) (hd : (x == ("__debug__" : Str)) = false := by decide)
  (hcd : (x == ("__classdict__" : Str)) = false := by decide) : SE X (.Name x pos) (eVar i) := by
 refine ⟨_, zgs hN hv hd hcd, fun B G H σ ρ d ρ' Q I hm k => ?_⟩
 unfold eVar at hm
 cases e : ρ[i]? with
 | none => rw [e] at hm; cases hm
 | some s =>
  rw [e] at hm
  cases s with
  | emp => cases hm
  | two _ _ => cases hm
  | tre _ => cases hm
  | ptr _ => cases hm
  | par ds => cases hm
  | val d' =>
   cases hm
   obtain ⟨v, h1, h2⟩ := I.slot i _ e
   exact ⟨v, h1, k G H v I (Fz.refl G) h2⟩
  | own ds =>
   cases hm
   obtain ⟨l, xs, h1, f, r, I'⟩ := I.freeze e
   exact ⟨.ref l, h1, k _ H _ I' f r⟩
theorem zai {i : Int} {j} : SE X (.Constant (.int i) j pos) (eC (.int i)) := ⟨_, pe_int, fun B G H σ ρ d ρ' Q I hm k => by cases hm; exact k G H _ I (Fz.refl G) rfl⟩
theorem zis {j} : SE X (.Constant (.bool b) j pos) (eC (.bl b)) := ⟨_, pe_bl, fun B G H σ ρ d ρ' Q I hm k => by cases hm; exact k G H _ I (Fz.refl G) rfl⟩
theorem zjw {j} : SE X (.Constant .none j pos) (eC .non) := ⟨_, pe_non, fun B G H σ ρ d ρ' Q I hm k => by cases hm; exact k G H _ I (Fz.refl G) rfl⟩
theorem zde {x : Str} {j} : SE X (.Constant (.str x) j pos) (eC (.str x)) := ⟨_, pe_str, fun B G H σ ρ d ρ' Q I hm k => by cases hm; exact k G H _ I (Fz.refl G) rfl⟩
theorem se_globI {x : Str} {i : Int} {t : Tok} (hm : X.mg x = some (.int i t)) (hg : Gl X x := by rfl) (hd : (x == ("__debug__" : Str)) = false := by decide) : SE X (.Name x pos) (eC (.int i)) :=
 ⟨_, pe_glob (v := .int i) hg hm ⟨t, rfl⟩ hd, fun B G H σ ρ d ρ' Q I hm k => by cases hm; exact k G H _ I (Fz.refl G) rfl⟩
end
noncomputable def aNil : MA := fun ρ => some ([], ρ)
noncomputable def zad (m : ME) (r : MA) : MA := fun ρ => (m ρ).bind fun p => (r p.2).map fun q => (p.1 :: q.1, q.2)
section
variable {X : Cx} {e : Expr} {es : List Expr} {m : ME} {r : MA}
theorem zae : SA X [] aNil := ⟨_, zjv, fun B G H σ ρ ds ρ' Q I hm k => by cases hm; exact k G H [] I (Fz.refl G) .nil⟩
theorem zaa (h : SE X e m) (hr : SA X es r) (hs : starEach (e :: es) X.env = (false, eval e X.env) :: starEach es X.env := by rfl) : SA X (e :: es) (zad m r) := by
 obtain ⟨t, p, s⟩ := h
 obtain ⟨u, q, z⟩ := hr
 refine ⟨_, zds p q hs, fun B G H σ ρ ds ρ' Q I hm k => ?_⟩
 unfold zad at hm
 cases e1 : m ρ with
 | none => rw [e1] at hm; cases hm
 | some a =>
  obtain ⟨d, ρ1⟩ := a
  rw [e1] at hm
  cases e2 : r ρ1 with
  | none => simp [e2] at hm
  | some b =>
   obtain ⟨es', ρ2⟩ := b
   simp only [Option.bind_some, e2, Option.map_some, Option.some.injEq, Prod.mk.injEq] at hm
   obtain ⟨rfl, rfl⟩ := hm
   exact s B G H σ ρ d ρ1 _ I e1 fun G1 H1 v I1 f1 r1 => z B G1 H1 σ ρ1 es' ρ2 _ I1 e2 fun G2 H2 vs I2 f2 r2 => k G2 H2 (v :: vs) I2 (f1.trans f2) (.cons (r1.mono f2) r2)
end
noncomputable def V2 (X : Cx) (r : R2) (f : D -> D -> Option D) : Prop := ∀ B G H σ ρ x y a b d (Q : VK), SI X.K B G H σ ρ -> RepD X.K G x a -> RepD X.K G y b -> f a b = some d -> (∀ G' H' v, SI X.K B G' H' σ ρ -> Fz G G' -> RepD X.K G' v d -> Q v H') -> r x y H Q
noncomputable def V1 (X : Cx) (r : V -> Hp -> VK -> Prop) (f : D -> Option D) : Prop := ∀ B G H σ ρ x a d (Q : VK), SI X.K B G H σ ρ -> RepD X.K G x a -> f a = some d -> (∀ G' H' v, SI X.K B G' H' σ ρ -> Fz G G' -> RepD X.K G' v d -> Q v H') -> r x H Q
noncomputable def VC (X : Cx) (r : List V -> Hp -> VK -> Prop) (f : List D -> Option D) : Prop := ∀ B G H σ ρ xs ds d (Q : VK), SI X.K B G H σ ρ -> RepL X.K G xs ds -> f ds = some d -> (∀ G' H' v, SI X.K B G' H' σ ρ -> Fz G G' -> RepD X.K G' v d -> Q v H') -> r xs H Q
noncomputable def m2 (f : D -> D -> Option D) (ma mb : ME) : ME := fun ρ => (ma ρ).bind fun p => (mb p.2).bind fun q => (f p.1 q.1).map fun d => (d, q.2)
noncomputable def m1 (f : D -> Option D) (ma : ME) : ME := fun ρ => (ma ρ).bind fun p => (f p.1).map fun d => (d, p.2)
noncomputable def mC (f : List D -> Option D) (ma : MA) : ME := fun ρ => (ma ρ).bind fun p => (f p.1).map fun d => (d, p.2)
theorem m2_inv {ma mb : ME} (h : m2 f ma mb ρ = some (d, ρ')) : ∃ a ρ1 b, ma ρ = some (a, ρ1) /\ mb ρ1 = some (b, ρ') /\ f a b = some d := by
 unfold m2 at h
 cases e1 : ma ρ with
 | none => rw [e1] at h; cases h
 | some p =>
  obtain ⟨a, ρ1⟩ := p
  rw [e1] at h
  cases e2 : mb ρ1 with
  | none => simp [e2] at h
  | some q =>
   obtain ⟨b, ρ2⟩ := q
   simp only [Option.bind_some, e2] at h
   cases e3 : f a b with
   | none => rw [e3] at h; cases h
   | some c => rw [e3] at h; cases h; exact ⟨a, ρ1, b, rfl, e2, e3⟩
theorem m1_inv {f : D -> Option D} (h : m1 f ma ρ = some (d, ρ')) : ∃ a, ma ρ = some (a, ρ') /\ f a = some d := by
 unfold m1 at h
 cases e1 : ma ρ with
 | none => rw [e1] at h; cases h
 | some p =>
  obtain ⟨a, ρ1⟩ := p
  rw [e1] at h
  simp only [Option.bind_some] at h
  cases e3 : f a with
  | none => rw [e3] at h; cases h
  | some c => rw [e3] at h; cases h; exact ⟨a, rfl, e3⟩
theorem mC_inv {f : List D -> Option D} {ma : MA} (h : mC f ma ρ = some (d, ρ')) : ∃ a, ma ρ = some (a, ρ') /\ f a = some d := by
 unfold mC at h
 cases e1 : ma ρ with
 | none => rw [e1] at h; cases h
 | some p =>
  obtain ⟨a, ρ1⟩ := p
  rw [e1] at h
  simp only [Option.bind_some] at h
  cases e3 : f a with
  | none => rw [e3] at h; cases h
  | some c => rw [e3] at h; cases h; exact ⟨a, rfl, e3⟩
section
variable {X : Cx} {a b : Expr} {ma mb : ME} {pos : Pos} {f : D -> D -> Option D}
theorem zmi {r : R2} {ta tb : TE} (hv : V2 X r f)
  (sa : ∀ B G H σ ρ d ρ' (Q : VK), SI X.K B G H σ ρ -> ma ρ = some (d, ρ') -> (∀ G' H' v, SI X.K B G' H' σ ρ' -> Fz G G' -> RepD X.K G' v d -> Q v H') -> ta σ H Q)
  (sb : ∀ B G H σ ρ d ρ' (Q : VK), SI X.K B G H σ ρ -> mb ρ = some (d, ρ') -> (∀ G' H' v, SI X.K B G' H' σ ρ' -> Fz G G' -> RepD X.K G' v d -> Q v H') -> tb σ H Q) :
  ∀ B G H σ ρ d ρ' (Q : VK), SI X.K B G H σ ρ -> m2 f ma mb ρ = some (d, ρ') -> (∀ G' H' v, SI X.K B G' H' σ ρ' -> Fz G G' -> RepD X.K G' v d -> Q v H') -> tOp r ta tb σ H Q := by
 intro B G H σ ρ d ρ' Q I hm k
 obtain ⟨x, ρ1, y, e1, e2, e3⟩ := m2_inv hm
 exact sa B G H σ ρ x ρ1 _ I e1 fun G1 H1 v I1 f1 r1 => sb B G1 H1 σ ρ1 y ρ' _ I1 e2 fun G2 H2 u I2 f2 r2 =>
  hv B G2 H2 σ ρ' v u x y d Q I2 (r1.mono f2) r2 e3 fun G3 H3 z I3 f3 r3 => k G3 H3 z I3 (f1.trans (f2.trans f3)) r3
theorem zm8 {r : R2} (ho : OpR X (binaryOp op) r) (hv : V2 X r f) (ha : SE X a ma) (hb : SE X b mb) : SE X (.BinOp a op b pos) (m2 f ma mb) := by
 obtain ⟨ta, pa, sa⟩ := ha
 obtain ⟨tb, pb, sb⟩ := hb
 exact ⟨_, pe_op ho pa pb, zmi hv sa sb⟩
theorem zoU {op : CmpOp} {r : R2} (ho : OpR X (compareOp op) r) (hv : V2 X r f) (ha : SE X a ma) (hb : SE X b mb) (hm : behindInMarks op b = false) : SE X (.Compare a [op] [b] pos) (m2 f ma mb) := by
 obtain ⟨ta, pa, sa⟩ := ha
 obtain ⟨tb, pb, sb⟩ := hb
 exact ⟨_, pe_cmpR ho pa pb hm, zmi hv sa sb⟩
theorem se_un {op : UnaryOp} (ho : UnR X (unaryOp op) r) (hv : V1 X r g) (ha : SE X a ma) : SE X (.UnaryOp op a pos) (m1 g ma) := by
 obtain ⟨ta, pa, sa⟩ := ha
 refine ⟨_, pe_un ho pa, fun B G H σ ρ d ρ' Q I hm k => ?_⟩
 obtain ⟨x, e1, e2⟩ := m1_inv hm
 exact sa B G H σ ρ x ρ' _ I e1 fun G1 H1 v I1 f1 r1 => hv B G1 H1 σ ρ' v x d Q I1 r1 e2 fun G2 H2 z I2 f2 r2 => k G2 H2 z I2 (f1.trans f2) r2
theorem se_ix {r : R2} (hr : IxR X r) (hv : V2 X r f) (ha : SE X a ma) (hb : SE X b mb) (hs : zj3 b) : SE X (.Subscript a b pos) (m2 f ma mb) := by
 obtain ⟨ta, pa, sa⟩ := ha
 obtain ⟨tb, pb, sb⟩ := hb
 exact ⟨_, pe_ix hr pa pb hs, zmi hv sa sb⟩
end
section
variable {X : Cx} {x : Str} {p pos : Pos} {e : Expr} {es : List Expr} {ma : MA} {id T : String} {r : List V -> Hp -> VK -> Prop} {f : List D -> Option D}
theorem soundC {t : TA} (hv : VC X r f) (sa : ∀ B G H σ ρ ds ρ' (Q : List V -> Hp -> Prop), SI X.K B G H σ ρ -> ma ρ = some (ds, ρ') -> (∀ G' H' vs, SI X.K B G' H' σ ρ' -> Fz G G' -> RepL X.K G' vs ds -> Q vs H') -> t σ H Q) :
  ∀ B G H σ ρ d ρ' (Q : VK), SI X.K B G H σ ρ -> mC f ma ρ = some (d, ρ') -> (∀ G' H' v, SI X.K B G' H' σ ρ' -> Fz G G' -> RepD X.K G' v d -> Q v H') -> tCB r t σ H Q := by
 intro B G H σ ρ d ρ' Q I hm k
 obtain ⟨ds, e1, e2⟩ := mC_inv hm
 exact sa B G H σ ρ ds ρ' _ I e1 fun G1 H1 vs I1 f1 r1 => hv B G1 H1 σ ρ' vs ds d Q I1 r1 e2 fun G2 H2 z I2 f2 r2 => k G2 H2 z I2 (f1.trans f2) r2
theorem zdf (hc : zhe X (.builtin id) r) (hv : VC X r f) (hb : bootBuiltins x = some (.builtin id)) (hm : X.mg x = none) (ha : SA X (e :: es) ma) (hg : Gl X x := by rfl) (hn : x ≠ "__name__" := by decide) (hdb : (x == ("__debug__" : Str)) = false := by decide)
  (he : starEach (e :: es) X.env = (false, eval e X.env) :: starEach es X.env := by rfl) (hpl : (backTo pos (starEach es X.env)).any (·.1) = false := by rfl) : SE X (.Call (.Name x p) (e :: es) [] pos) (mC f ma) := by
 obtain ⟨t, pa, sa⟩ := ha
 exact ⟨_, zmC hc hg hm hb pa hn hdb he hpl, soundC hv sa⟩
theorem zpd (hc : zhe X (.type T) r) (hv : VC X r f) (hb : bootBuiltins x = some (.type T)) (hm : X.mg x = none) (ha : SA X (e :: es) ma) (hg : Gl X x := by rfl) (hn : x ≠ "__name__" := by decide) (hdb : (x == ("__debug__" : Str)) = false := by decide)
  (he : starEach (e :: es) X.env = (false, eval e X.env) :: starEach es X.env := by rfl) (hpl : (backTo pos (starEach es X.env)).any (·.1) = false := by rfl) : SE X (.Call (.Name x p) (e :: es) [] pos) (mC f ma) := by
 obtain ⟨t, pa, sa⟩ := ha
 exact ⟨_, zk4 hc hg hm hb pa hn hdb he hpl, soundC hv sa⟩
end
end M
namespace M
open L2 PySem PySem.Spec
open PyProof.Rows hiding St
variable {v : V} {ds cs out : List D} {pos' : Pos} {xs vs ys : List V} {X : Cx} {C : Int -> Int -> Prop} {c l : Addr} {g : D -> R -> Option R} {a b e : Expr} {ma : MA} {k i j n t : Nat} {mb : ME} {K : W.Frag} {G H H' G' : Hp} {us its : List Value} {u : Value} {d : D} {B : Bs} {σ σc : St} {ρ ρ' : R} {s : Sl} {x qual : Str} {Q E : Value -> Shared -> Prop} {f : D -> D -> Option D} {op op' : CmpOp} {m : MT} {es ifs : List Expr} {h : List D -> R -> Option R} {body : List Stmt} {N ps : List Str} {fd : FuncData} {env : Env} {scope : Scope} {A : Around} {cl : List (Str × Addr)} {h' : Heap} {prog : Program} {w : World} {use : Option (Value -> Sem Unit)} {ov : Option (Option V)} {cap : List Nat} {wi : TI} {tg' : Addr -> Shared -> Hp -> List Addr -> TG} {tt : Addr -> Shared -> Hp -> List Addr -> TT} {te : Addr -> Shared -> Hp -> List Addr -> TE} {ns : List Int}
section
variable {X : Cx} {K : W.Frag} {B : Bs} {G H : Hp} {σ : St} {ρ : R}
theorem SI.lst (I : SI K B G H σ ρ) (h : RepD K G v (.lst ds)) : ∃ a xs, v = .ref a /\ H a = some (.lst xs) /\ RepL K G xs ds := by
 obtain ⟨a, xs, e, q, r⟩ := h
 exact ⟨a, xs, e, I.fz a _ q, r⟩
theorem SI.tup (I : SI K B G H σ ρ) (h : RepD K G v (.tup ds)) : ∃ a xs, v = .ref a /\ H a = some (.tup xs) /\ RepL K G xs ds := by
 obtain ⟨a, xs, e, q, r⟩ := h
 exact ⟨a, xs, e, I.fz a _ q, r⟩
theorem SI.newT (I : SI K B G H σ ρ) {p : Addr} (hp : H p = none) (h : RepL K G xs ds) : SI K B (upd G p (.tup xs)) (upd H p (.tup xs)) σ ρ /\ Fz G (upd G p (.tup xs)) /\ RepD K (upd G p (.tup xs)) (.ref p) (.tup ds) :=
 ⟨I.allocF hp _, Fz.new (I.fz.free hp) _, ⟨p, xs, rfl, zaV, h.mono (Fz.new (I.fz.free hp) _)⟩⟩
theorem SI.newL (I : SI K B G H σ ρ) {p : Addr} (hp : H p = none) (h : RepL K G xs ds) : SI K B (upd G p (.lst xs)) (upd H p (.lst xs)) σ ρ /\ Fz G (upd G p (.lst xs)) /\ RepD K (upd G p (.lst xs)) (.ref p) (.lst ds) :=
 ⟨I.allocF hp _, Fz.new (I.fz.free hp) _, ⟨p, xs, rfl, zaV, h.mono (Fz.new (I.fz.free hp) _)⟩⟩
end
noncomputable def dI2 (c : Int -> Int -> Bool) (g : Int -> Int -> D) : D -> D -> Option D
 | .int i, .int j => if c i j then some (g i j) else none
 | _, _ => none
theorem zot {c : Int -> Int -> Bool} {g : Int -> Int -> Int} (hc : ∀ i j, c i j = true -> C i j) : V2 X (rI C fun i j => .int (g i j)) (dI2 c fun i j => .int (g i j)) := by
 intro B G H σ ρ x y a b d Q I ra rb hf k
 cases a <;> cases b <;> simp only [dI2] at hf <;> try cases hf
 rename_i i j
 split at hf
 ·rename_i h
  cases hf
  exact ⟨i, j, ra, rb, hc i j h, k G H _ I (Fz.refl G) rfl⟩
 ·cases hf
theorem v2_int0 {g : Int -> Int -> Int} : V2 X (rI0 fun i j => .int (g i j)) (dI2 (fun _ _ => true) fun i j => .int (g i j)) := by
 intro B G H σ ρ x y a b d Q I ra rb hf k
 cases a <;> cases b <;> simp only [dI2] at hf <;> try cases hf
 rename_i i j
 exact ⟨i, j, ra, rb, k G H _ I (Fz.refl G) rfl⟩
theorem zbV {g : Int -> Int -> Bool} : V2 X (rI0 fun i j => .bl (g i j)) (dI2 (fun _ _ => true) fun i j => .bl (g i j)) := by
 intro B G H σ ρ x y a b d Q I ra rb hf k
 cases a <;> cases b <;> simp only [dI2] at hf <;> try cases hf
 rename_i i j
 exact ⟨i, j, ra, rb, k G H _ I (Fz.refl G) rfl⟩
noncomputable def dSub : D -> D -> Option D := dI2 (fun _ _ => true) fun i j => .int (i - j)
noncomputable def znp (j : Int) : Bool := decide (0 < j) && decide (j.natAbs.log2 < 9000)
theorem op_fdivW : OpR X (binaryOp .FloorDiv) (rI (fun _ j => 0 < j /\ j.natAbs.log2 < 9000) fun i j => .int (i / j)) := opI fun i j _ _ _ _ _ hc q => by
 have h1 : (0 : Int) < j := hc.1
 exact PyProof.Rows.floordiv_int (by lia) (by rw [Int.fdiv_eq_ediv_of_nonneg i (by lia)]; exact q) (.inl (PyProof.noPylong_of_log2 hc.2))
noncomputable def dDiv : D -> D -> Option D := dI2 (fun _ j => znp j) fun i j => .int (i / j)
noncomputable def dMod : D -> D -> Option D := dI2 (fun _ j => decide (0 < j)) fun i j => .int (i % j)
noncomputable def dPow : D -> D -> Option D := dI2 (fun i j => decide (0 <= j) && decide (j <= 1000000) && decide (i.natAbs < 2 ^ 64)) fun i j => .int (i ^ j.toNat)
noncomputable def dLt : D -> D -> Option D := dI2 (fun _ _ => true) fun i j => .bl (decide (i < j))
noncomputable def dLe : D -> D -> Option D := dI2 (fun _ _ => true) fun i j => .bl (decide (i <= j))
noncomputable def dGt : D -> D -> Option D := dI2 (fun _ _ => true) fun i j => .bl (decide (j < i))
noncomputable def dGe : D -> D -> Option D := dI2 (fun _ _ => true) fun i j => .bl (decide (j <= i))
section
variable {X : Cx} {a b : Expr} {ma mb : ME} {pos : Pos}
theorem zbS (ha : SE X a ma) (hb : SE X b mb) : SE X (.BinOp a .Sub b pos) (m2 dSub ma mb) := zm8 op_sub v2_int0 ha hb
theorem zh9 (ha : SE X a ma) (hb : SE X b mb) : SE X (.BinOp a .FloorDiv b pos) (m2 dDiv ma mb) := zm8 op_fdivW (zot fun i j h => by simpa [znp] using h) ha hb
theorem zbX (ha : SE X a ma) (hb : SE X b mb) : SE X (.BinOp a .Mod b pos) (m2 dMod ma mb) := zm8 op_mod (zot fun i j h => by simpa using h) ha hb
theorem zg8 (ha : SE X a ma) (hb : SE X b mb) : SE X (.BinOp a .Pow b pos) (m2 dPow ma mb) := zm8 op_pow (zot fun i j h => by simp only [Bool.and_eq_true, decide_eq_true_eq] at h; exact ⟨h.1.1, h.1.2, h.2⟩) ha hb
theorem se_lt (ha : SE X a ma) (hb : SE X b mb) : SE X (.Compare a [.Lt] [b] pos) (m2 dLt ma mb) := zoU zlW zbV ha hb (zic _)
theorem se_gt (ha : SE X a ma) (hb : SE X b mb) : SE X (.Compare a [.Gt] [b] pos) (m2 dGt ma mb) := zoU op_gt zbV ha hb (zic _)
end
noncomputable def dNeg : D -> Option D
 | .int i => some (.int (-i))
 | _ => none
theorem zmE {ma : ME} {pos : Pos} (ha : SE X a ma) : SE X (.UnaryOp .USub a pos) (m1 dNeg ma) :=
 se_un un_neg (fun B G H σ ρ x a d Q I ra hf k => by
  cases a <;> simp only [dNeg] at hf <;> try cases hf
  exact ⟨_, ra, k G H _ I (Fz.refl G) rfl⟩) ha
noncomputable def zjX (i j : Int) : Bool := (decide (i.natAbs < 2 ^ 64) || decide (j.natAbs < 2 ^ 64)) || (decide (i.natAbs < 2 ^ 4000) && decide (j.natAbs < 2 ^ 4000))
noncomputable def dMul : D -> D -> Option D
 | .int i, .int j => if zjX i j then some (.int (i * j)) else none
 | .lst ds, .int k => if decide (-1000000 <= k) && decide (k <= 1000000) && decide (ds.length * k.toNat <= 1000000) then some (.lst (List.replicate k.toNat ds).flatten) else none
 | _, _ => none
theorem zjq {k : Int} (h : k.natAbs < 2 ^ 4000) : Builtin.Int.intBits k <= 4000 := by
 unfold Builtin.Int.intBits
 split
 ·exact Nat.zero_le _
 ·have : k.natAbs.log2 < 4000 := by
   rcases Nat.eq_zero_or_pos k.natAbs with h0 | hp
   ·rw [h0]; decide
   ·exact (Nat.log2_lt (Nat.ne_of_gt hp)).mpr h
  lia
theorem mulOk_ok {i j : Int} (h : zjX i j = true) : IntMulOk i j := by
 unfold zjX at h
 simp only [Bool.or_eq_true, Bool.and_eq_true, decide_eq_true_eq] at h
 rcases h with (h | h) | ⟨h1, h2⟩
 ·exact .of_left (intBits_le_64 (by lia) (by lia))
 ·exact .of_right (intBits_le_64 (by lia) (by lia))
 ·have b1 := zjq h1
  have b2 := zjq h2
  unfold IntMulOk
  intro z
  simp only [Bool.and_eq_true] at z
  have z2 := z.2
  unfold Builtin.Int.intTooBig at z2
  revert z2
  generalize Builtin.Int.intBits i = p at *
  generalize Builtin.Int.intBits j = q at *
  intro z2
  have z3 := of_decide_eq_true z2
  have hb := bitsLine_eq
  lia
theorem op_mulG : OpR X (binaryOp .Mult) (rI IntMulOk fun i j => .int (i * j)) := opI fun _ _ _ _ _ _ _ hc q => mul_int q hc
theorem zcy {ma mb : ME} {pos : Pos} (ha : SE X a ma) (hb : SE X b mb) : SE X (.BinOp a .Mult b pos) (m2 dMul ma mb) := by
 refine zm8 (op_mulG.or op_rep) (fun B G H σ ρ x y a b d Q I ra rb hf k => ?_) ha hb
 cases a <;> cases b <;> simp only [dMul] at hf <;> try cases hf
 ·rename_i i j
  split at hf
  ·rename_i h
   cases hf
   exact .inl ⟨i, j, ra, rb, mulOk_ok h, k G H _ I (Fz.refl G) rfl⟩
  ·cases hf
 ·rename_i ds j
  split at hf
  ·rename_i h
   cases hf
   simp only [Bool.and_eq_true, decide_eq_true_eq] at h
   obtain ⟨a, xs, rfl, ha, r⟩ := I.lst ra
   have hl := r.length
   refine .inr ⟨a, j, xs, rfl, rb, ha, by lia, by lia, by rw [hl, sizeLine_eq]; lia, fun p hp => ?_⟩
   obtain ⟨I2, f2, r2⟩ := I.newL hp (r.rep j.toNat)
   exact k _ _ _ I2 f2 r2
  ·cases hf
noncomputable def dAdd : D -> D -> Option D
 | .int i, .int j => some (.int (i + j))
 | .tup a, .tup b => if a.length + b.length <= 16777216 then some (.tup (a ++ b)) else none
 | .lst a, .lst b => if a.length + b.length <= 16777216 then some (.lst (a ++ b)) else none
 | .str a, .str b => if a.length + b.length <= 16777216 then some (.str (a ++ b)) else none
 | _, _ => none
theorem op_catT0 : OpR X (binaryOp .Add) (fun x y H Q => ∃ a b ys, x = .ref a /\ y = .ref b /\ SqT X.K H a [] /\ SqT X.K H b ys /\ Q (.ref b) H) := by
 intro pins s σ H x y v u Q I rx ry h
 obtain ⟨a, b, ys, rfl, rfl, ha, hb, q⟩ := h
 cases rx
 cases ry
 obtain ⟨its, r1, p1, _⟩ := I.tuple ha
 obtain ⟨its2, r2, p2, _⟩ := I.tuple hb
 obtain rfl : its = [] := by cases r1; rfl
 obtain ⟨⟨cls, dd, data, sl⟩, ho, hc, n, hd⟩ := id p1
 obtain ⟨⟨cls2, dd2, data2, sl2⟩, ho2, hc2, n2, hd2⟩ := id p2
 simp only at hc hd hc2 hd2
 subst hc hd hc2 hd2
 exact concat_meets ⟨_, ho, rfl⟩ ⟨_, ho2, rfl⟩ noFill_tuple_add seq_tuple_add PySem.F.slot_tuple_add PySem.F.entry_tuple_add (PySem.F.args_tuple_add_2 _ _)
   (tuple_addW0 a b _ _ n n2 dd dd2 sl sl2 (by simp)) ⟨ho, ho2, ⟨.ref b, H, I, rfl, q⟩⟩
theorem zaI {ma mb : ME} {pos : Pos} (ha : SE X a ma) (hb : SE X b mb) : SE X (.BinOp a .Add b pos) (m2 dAdd ma mb) := by
 refine zm8 (op_add.or (op_catT.or (op_catT0.or (op_cat.or zno)))) (fun B G H σ ρ x y a b d Q I ra rb hf k => ?_) ha hb
 cases a <;> cases b <;> simp only [dAdd] at hf <;> try cases hf
 ·exact .inl ⟨_, _, ra, rb, k G H _ I (Fz.refl G) rfl⟩
 ·rename_i i j
  split at hf
  ·rename_i h
   cases hf
   exact .inr (.inr (.inr (.inr ⟨i, j, ra, rb, by rw [sizeLine_eq]; exact h, k G H _ I (Fz.refl G) rfl⟩)))
  ·cases hf
 ·rename_i as bs
  split at hf
  ·rename_i h
   cases hf
   obtain ⟨a, xs, rfl, ha, r⟩ := I.lst ra
   obtain ⟨b, ys, rfl, hb, r2⟩ := I.lst rb
   refine .inr (.inr (.inr (.inl ⟨a, b, xs, ys, rfl, rfl, ha, hb, by rw [r.length, r2.length, sizeLine_eq]; exact h, fun p hp => ?_⟩)))
   obtain ⟨I2, f2, r2⟩ := I.newL hp (r.append r2)
   exact k _ _ _ I2 f2 r2
  ·cases hf
 ·rename_i as bs
  split at hf
  ·rename_i h
   cases hf
   obtain ⟨a, xs, rfl, ha, r⟩ := I.tup ra
   obtain ⟨b, ys, rfl, hb, r2⟩ := I.tup rb
   by_cases z : xs = []
   ·subst z
    have z' : as = [] := List.eq_nil_of_length_eq_zero r.length.symm
    subst z'
    exact .inr (.inr (.inl ⟨a, b, ys, rfl, rfl, SqT.of ha, SqT.of hb, k G H _ I (Fz.refl G) rb⟩))
   ·refine .inr (.inl ⟨a, b, xs, ys, rfl, rfl, SqT.of ha, SqT.of hb, z, by rw [r.length, r2.length, sizeLine_eq]; exact h, fun w => ?_, fun w p hp => ?_⟩)
    ·subst w
     have w' : bs = [] := List.eq_nil_of_length_eq_zero r2.length.symm
     subst w'
     rw [List.append_nil] at k
     exact k G H _ I (Fz.refl G) ra
    ·obtain ⟨I2, f2, r2⟩ := I.newT hp (r.append r2)
     exact k _ _ _ I2 f2 r2
  ·cases hf
mutual
noncomputable def noS : D -> Bool
 | .scr _ => false
 | .exc _ => false
 | .dic _ _ => false
 | .dit _ _ => false
 | .lst ds => noSL ds
 | .tup ds => noSL ds
 | _ => true
noncomputable def noSL : List D -> Bool
 | [] => true
 | d :: ds => noS d && noSL ds
end
mutual
noncomputable def eqB : D -> D -> Bool
 | .non, .non => true
 | .bl a, .bl b => a == b
 | .int a, .int b => a == b
 | .str a, .str b => a == b
 | .bl a, .int b => (if a then 1 else 0) == b
 | .int a, .bl b => a == (if b then 1 else 0)
 | .lst a, .lst b => eqBL a b
 | .tup a, .tup b => eqBL a b
 | _, _ => false
noncomputable def eqBL : List D -> List D -> Bool
 | [], [] => true
 | a :: as, b :: bs => eqB a b && eqBL as bs
 | _, _ => false
end
theorem zhC : ∀ {as bs : List D}, as.length ≠ bs.length -> eqBL as bs = false
 | [], [], h => absurd rfl h
 | [], _ :: _, _ => rfl
 | _ :: _, [], _ => rfl
 | a :: as, b :: bs, h => by
  have := zhC (as := as) (bs := bs) (fun e => h (by simp [e]))
  simp [eqBL, this]
mutual
theorem zke : ∀ d, noS d = true -> eqB d d = true
 | .non, _ => rfl
 | .bl b, _ => by simp [eqB]
 | .int b, _ => by simp [eqB]
 | .str b, _ => by simp [eqB]
 | .lst ds, h => by simp only [noS] at h; simp only [eqB]; exact ziI ds h
 | .tup ds, h => by simp only [noS] at h; simp only [eqB]; exact ziI ds h
 | .scr _, h => by simp [noS] at h
 | .exc _, h => by simp [noS] at h
 | (.dic _ _), h => by simp [noS] at h
 | (.dit _ _), h => by simp [noS] at h
theorem ziI : ∀ ds, noSL ds = true -> eqBL ds ds = true
 | [], _ => rfl
 | d :: ds, h => by
  simp only [noSL, Bool.and_eq_true] at h
  simp only [eqBL, Bool.and_eq_true]
  exact ⟨zke d h.1, ziI ds h.2⟩
end
mutual
noncomputable def depth : D -> Nat
 | .lst ds => zgz ds + 1
 | .tup ds => zgz ds + 1
 | _ => 0
noncomputable def zgz : List D -> Nat
 | [] => 0
 | d :: ds => max (depth d) (zgz ds)
end
theorem zhP : ∀ {l : List D} {i : Nat} {d : D}, l[i]? = some d -> depth d <= zgz l
 | [], _, _, h => by simp at h
 | c :: l, 0, d, h => by simp at h; subst h; simp only [zgz]; lia
 | c :: l, i + 1, d, h => by
  have := zhP (l := l) (i := i) (d := d) (by simpa using h)
  simp only [zgz]; lia
theorem zg6 : ∀ {l : List D} {i : Nat} {d : D}, l[i]? = some d -> noSL l = true -> noS d = true
 | [], _, _, h, _ => by simp at h
 | c :: l, 0, d, h, z => by simp at h; subst h; simp only [noSL, Bool.and_eq_true] at z; exact z.1
 | c :: l, i + 1, d, h, z => by simp only [noSL, Bool.and_eq_true] at z; exact zg6 (l := l) (i := i) (by simpa using h) z.2
mutual
theorem RepD.inj : ∀ {a b : D} {x : V}, noS a = true -> noS b = true -> RepD K G x a -> RepD K G x b -> a = b
 | .non, b, x, _, nb, ra, rb => by
  cases (show x = V.non from ra)
  cases b <;> simp_all [RepD, noS]
 | .bl c, b, x, _, nb, ra, rb => by
  cases (show x = V.bl c from ra)
  cases b <;> simp_all [RepD, noS]
 | .int c, b, x, _, nb, ra, rb => by
  cases (show x = V.int c from ra)
  cases b <;> simp_all [RepD, noS]
 | .str c, b, x, _, nb, ra, rb => by
  cases (show x = V.str c from ra)
  cases b <;> simp_all [RepD, noS]
 | .lst ds, b, x, na, nb, ra, rb => by
  obtain ⟨p, xs, rfl, q, r⟩ := ra
  cases b with
  | lst es =>
   obtain ⟨p2, ys, e, q2, r2⟩ := rb
   cases e
   rw [q] at q2
   cases q2
   simp only [noS] at na nb
   rw [RepL.inj na nb r r2]
  | tup es =>
   obtain ⟨p2, ys, e, q2, r2⟩ := rb
   cases e
   rw [q] at q2
   cases q2
  | scr _ => simp [noS] at nb
  | exc _ => simp [noS] at nb
  | dic _ _ => simp [noS] at nb
  | dit _ _ => simp [noS] at nb
  | non => simp [RepD] at rb
  | bl _ => simp [RepD] at rb
  | int _ => simp [RepD] at rb
  | str _ => simp [RepD] at rb
 | .tup ds, b, x, na, nb, ra, rb => by
  obtain ⟨p, xs, rfl, q, r⟩ := ra
  cases b with
  | tup es =>
   obtain ⟨p2, ys, e, q2, r2⟩ := rb
   cases e
   rw [q] at q2
   cases q2
   simp only [noS] at na nb
   rw [RepL.inj na nb r r2]
  | lst es =>
   obtain ⟨p2, ys, e, q2, r2⟩ := rb
   cases e
   rw [q] at q2
   cases q2
  | scr _ => simp [noS] at nb
  | exc _ => simp [noS] at nb
  | dic _ _ => simp [noS] at nb
  | dit _ _ => simp [noS] at nb
  | non => simp [RepD] at rb
  | bl _ => simp [RepD] at rb
  | int _ => simp [RepD] at rb
  | str _ => simp [RepD] at rb
 | .scr _, _, _, na, _, _, _ => by simp [noS] at na
 | .exc _, _, _, na, _, _, _ => by simp [noS] at na
 | (.dic _ _), _, _, na, _, _, _ => by simp [noS] at na
 | (.dit _ _), _, _, na, _, _, _ => by simp [noS] at na
theorem RepL.inj : ∀ {as bs : List D} {xs : List V}, noSL as = true -> noSL bs = true -> RepL K G xs as -> RepL K G xs bs -> as = bs
 | [], [], _, _, _, _, _ => rfl
 | [], _ :: _, xs, _, _, e, h => by
  obtain ⟨_, _, e2, _⟩ := h
  cases (show xs = [] from e)
  cases e2
 | _ :: _, [], xs, _, _, h, e => by
  obtain ⟨_, _, e2, _⟩ := h
  cases (show xs = [] from e)
  cases e2
 | a :: as, b :: bs, xs, na, nb, h, h2 => by
  obtain ⟨x, ys, e, q, r⟩ := h
  obtain ⟨x2, ys2, e2, q2, r2⟩ := h2
  subst e
  cases e2
  simp only [noSL, Bool.and_eq_true] at na nb
  rw [RepD.inj na.1 nb.1 q q2, RepL.inj na.2 nb.2 r r2]
end
noncomputable def eqJ (ds es : List D) (j : Nat) : Bool := match ds[j]?, es[j]? with
 | some a, some b => eqB a b
 | _, _ => false
theorem zdI : ∀ (as bs : List D), as.length = bs.length -> (List.range as.length).all (eqJ as bs) = eqBL as bs
 | [], [], _ => by simp [eqBL]
 | a :: as, b :: bs, h => by
  have ih := zdI as bs (by simpa using h)
  rw [List.length_cons, List.range_succ_eq_map, List.all_cons, List.all_map]
  simp only [eqBL, <- ih]
  congr 1
 | [], _ :: _, h => by simp at h
 | _ :: _, [], h => by simp at h
section
variable {X : Cx} {pins : List (Addr × Obj)} {σ : St} {H G : Hp} {s : Shared}
theorem zj2 (r : Vals xs us) (h : RepL X.K G xs ds) (e : us[j]? = some u) : ∃ x d, ds[j]? = some d /\ RelV x u /\ RepD X.K G x d := by
 have hl := r.length
 have hl2 := h.length
 have hj : j < us.length := (List.getElem?_eq_some_iff.mp e).1
 have ej : ds[j]? = some ds[j] := List.getElem?_eq_getElem (by lia)
 obtain ⟨x, q1, q2⟩ := h.get ej
 obtain ⟨u', h1, h2⟩ := r.get q1
 have : u' = u := by rw [h1] at e; exact Option.some.inj e
 subst this
 exact ⟨x, _, ej, h2, q2⟩
theorem eqAt_D (I : Inv X pins σ H s) (fz : Fz G H) : ∀ (n : Nat) (A : Around) (a b : D) (x y : V) (u v : Value), depth a <= n -> noS a = true -> noS b = true -> A.units + n + 1 < cLine -> RepD X.K G x a -> RepD X.K G y b -> RelV x u -> RelV y v ->
  SeqAt.EqAt A s u v (eqB a b) /\ SeqAt.RcAt A s u v (eqB a b) := by
 intro n
 induction n with
 | zero =>
  intro A a b x y u v hd na nb hu ra rb rx ry
  have hu' : A.units < cLine := by lia
  cases a with
  | non =>
   cases (show x = V.non from ra); cases (show u = Value.none from rx)
   cases b with
   | non => cases (show y = V.non from rb); cases (show v = Value.none from ry); exact ⟨.same _, .none_none⟩
   | bl c => cases (show y = V.bl c from rb); cases (show v = Value.bool c from ry); exact ⟨.none_bool _, .none_bool _⟩
   | int c => cases (show y = V.int c from rb); obtain ⟨t, rfl⟩ := ry; exact ⟨.none_int _ _, .none_int _ _⟩
   | str c => cases (show y = V.str c from rb); obtain ⟨t, rfl⟩ := ry; exact ⟨.none_str _ _, .none_str _ _⟩
   | lst ds =>
    obtain ⟨p, xs, rfl, q, r⟩ := rb
    cases (show v = Value.ref p from ry)
    obtain ⟨its, rv, pl, hz⟩ := I.list (SqL.of (fz _ _ q))
    exact ⟨.none_list pl.isList hu', .none_list pl.isList hu'⟩
   | tup ds =>
    obtain ⟨p, xs, rfl, q, r⟩ := rb
    cases (show v = Value.ref p from ry)
    obtain ⟨its, rv, pl, hz⟩ := I.tuple (SqT.of (fz _ _ q))
    exact ⟨.none_tuple pl hu', .none_tuple pl hu'⟩
   | scr _ => simp [noS] at nb
   | exc _ => simp [noS] at nb
   | dic _ _ => simp [noS] at nb
   | dit _ _ => simp [noS] at nb
  | bl c0 =>
   cases (show x = V.bl c0 from ra); cases (show u = Value.bool c0 from rx)
   cases b with
   | non => cases (show y = V.non from rb); cases (show v = Value.none from ry); exact ⟨.bool_none _, .bool_none _⟩
   | bl c => cases (show y = V.bl c from rb); cases (show v = Value.bool c from ry); exact ⟨.bool_bool _ _, .bool_bool _ _⟩
   | int c => cases (show y = V.int c from rb); obtain ⟨t, rfl⟩ := ry; exact ⟨.bool_int _ _ _, .bool_int _ _ _⟩
   | str c => cases (show y = V.str c from rb); obtain ⟨t, rfl⟩ := ry; exact ⟨.bool_str _ _ _, .bool_str _ _ _⟩
   | lst ds =>
    obtain ⟨p, xs, rfl, q, r⟩ := rb
    cases (show v = Value.ref p from ry)
    obtain ⟨its, rv, pl, hz⟩ := I.list (SqL.of (fz _ _ q))
    exact ⟨.bool_list _ pl.isList hu', .bool_list _ pl.isList hu'⟩
   | tup ds =>
    obtain ⟨p, xs, rfl, q, r⟩ := rb
    cases (show v = Value.ref p from ry)
    obtain ⟨its, rv, pl, hz⟩ := I.tuple (SqT.of (fz _ _ q))
    exact ⟨.bool_tuple _ pl hu', .bool_tuple _ pl hu'⟩
   | scr _ => simp [noS] at nb
   | exc _ => simp [noS] at nb
   | dic _ _ => simp [noS] at nb
   | dit _ _ => simp [noS] at nb
  | int c0 =>
   cases (show x = V.int c0 from ra); obtain ⟨t0, rfl⟩ := rx
   cases b with
   | non => cases (show y = V.non from rb); cases (show v = Value.none from ry); exact ⟨.int_none _ _, .int_none _ _⟩
   | bl c => cases (show y = V.bl c from rb); cases (show v = Value.bool c from ry); exact ⟨.int_bool _ _ _, .int_bool _ _ _⟩
   | int c => cases (show y = V.int c from rb); obtain ⟨t, rfl⟩ := ry; exact ⟨.int_int _ _ _ _, .int_int _ _ _ _⟩
   | str c => cases (show y = V.str c from rb); obtain ⟨t, rfl⟩ := ry; exact ⟨.int_str _ _ _ _, .int_str _ _ _ _⟩
   | lst ds =>
    obtain ⟨p, xs, rfl, q, r⟩ := rb
    cases (show v = Value.ref p from ry)
    obtain ⟨its, rv, pl, hz⟩ := I.list (SqL.of (fz _ _ q))
    exact ⟨.int_list _ _ pl.isList hu', .int_list _ _ pl.isList hu'⟩
   | tup ds =>
    obtain ⟨p, xs, rfl, q, r⟩ := rb
    cases (show v = Value.ref p from ry)
    obtain ⟨its, rv, pl, hz⟩ := I.tuple (SqT.of (fz _ _ q))
    exact ⟨.int_tuple _ _ pl hu', .int_tuple _ _ pl hu'⟩
   | scr _ => simp [noS] at nb
   | exc _ => simp [noS] at nb
   | dic _ _ => simp [noS] at nb
   | dit _ _ => simp [noS] at nb
  | str c0 =>
   cases (show x = V.str c0 from ra); obtain ⟨t0, rfl⟩ := rx
   cases b with
   | non => cases (show y = V.non from rb); cases (show v = Value.none from ry); exact ⟨.str_none _ _, .str_none _ _⟩
   | bl c => cases (show y = V.bl c from rb); cases (show v = Value.bool c from ry); exact ⟨.str_bool _ _ _, .str_bool _ _ _⟩
   | int c => cases (show y = V.int c from rb); obtain ⟨t, rfl⟩ := ry; exact ⟨.str_int _ _ _ _, .str_int _ _ _ _⟩
   | str c => cases (show y = V.str c from rb); obtain ⟨t, rfl⟩ := ry; exact ⟨.str_str _ _ _ _, .str_str _ _ _ _⟩
   | lst ds =>
    obtain ⟨p, xs, rfl, q, r⟩ := rb
    cases (show v = Value.ref p from ry)
    obtain ⟨its, rv, pl, hz⟩ := I.list (SqL.of (fz _ _ q))
    exact ⟨.str_list _ _ pl.isList hu', .str_list _ _ pl.isList hu'⟩
   | tup ds =>
    obtain ⟨p, xs, rfl, q, r⟩ := rb
    cases (show v = Value.ref p from ry)
    obtain ⟨its, rv, pl, hz⟩ := I.tuple (SqT.of (fz _ _ q))
    exact ⟨.str_tuple _ _ pl hu', .str_tuple _ _ pl hu'⟩
   | scr _ => simp [noS] at nb
   | exc _ => simp [noS] at nb
   | dic _ _ => simp [noS] at nb
   | dit _ _ => simp [noS] at nb
  | lst ds => simp [depth] at hd
  | tup ds => simp [depth] at hd
  | scr _ => simp [noS] at na
  | exc _ => simp [noS] at na
  | dic _ _ => simp [noS] at na
  | dit _ _ => simp [noS] at na
 | succ n ih =>
  intro A a b x y u v hd na nb hu ra rb rx ry
  have hu' : A.units < cLine := by lia
  have items : ∀ (ds es : List D) (xs ys : List V) (its its2 : List Value), zgz ds <= n -> noSL ds = true -> noSL es = true -> RepL X.K G xs ds -> RepL X.K G ys es -> Vals xs its -> Vals ys its2 ->
    ∀ j (h1 : j < its.toArray.size) (h2 : j < its2.toArray.size), SeqAt.EqAt A.in1 s its.toArray[j] its2.toArray[j] (eqJ ds es j) := by
   intro ds es xs ys its its2 hd nd ne r r2 rv rv2 j h1 h2
   simp only [List.size_toArray] at h1 h2
   obtain ⟨x1, d1, e1, k1, m1⟩ := zj2 rv r (j := j) (u := its[j]) (List.getElem?_eq_getElem h1)
   obtain ⟨x2, d2, e2, k2, m2⟩ := zj2 rv2 r2 (j := j) (u := its2[j]) (List.getElem?_eq_getElem h2)
   have e : eqJ ds es j = eqB d1 d2 := by unfold eqJ; rw [e1, e2]
   rw [e]
   have := zhP e1
   simpa using (ih A.in1 d1 d2 x1 x2 _ _ (by lia) (zg6 e1 nd) (zg6 e2 ne) (by show A.units + 1 + n + 1 < cLine; lia) m1 m2 k1 k2).1
  cases a with
  | scr _ => simp [noS] at na
  | exc _ => simp [noS] at na
  | dic _ _ => simp [noS] at na
  | dit _ _ => simp [noS] at na
  | non => exact ih A .non b x y u v (Nat.zero_le _) na nb (by lia) ra rb rx ry
  | bl c => exact ih A (.bl c) b x y u v (Nat.zero_le _) na nb (by lia) ra rb rx ry
  | int c => exact ih A (.int c) b x y u v (Nat.zero_le _) na nb (by lia) ra rb rx ry
  | str c => exact ih A (.str c) b x y u v (Nat.zero_le _) na nb (by lia) ra rb rx ry
  | lst ds =>
   have ra0 := ra
   obtain ⟨p, xs, rfl, q, r⟩ := ra
   cases (show u = Value.ref p from rx)
   obtain ⟨its, rv, pl, hz⟩ := I.list (SqL.of (fz _ _ q))
   cases b with
   | non => cases (show y = V.non from rb); cases (show v = Value.none from ry); exact ⟨.list_none pl.isList hu', .list_none pl.isList hu'⟩
   | bl c => cases (show y = V.bl c from rb); cases (show v = Value.bool c from ry); exact ⟨.list_bool _ pl.isList hu', .list_bool _ pl.isList hu'⟩
   | int c => cases (show y = V.int c from rb); obtain ⟨t, rfl⟩ := ry; exact ⟨.list_int _ _ pl.isList hu', .list_int _ _ pl.isList hu'⟩
   | str c => cases (show y = V.str c from rb); obtain ⟨t, rfl⟩ := ry; exact ⟨.list_str _ _ pl.isList hu', .list_str _ _ pl.isList hu'⟩
   | scr _ => simp [noS] at nb
   | exc _ => simp [noS] at nb
   | dic _ _ => simp [noS] at nb
   | dit _ _ => simp [noS] at nb
   | tup es =>
    obtain ⟨p2, ys, rfl, q2, r2⟩ := rb
    cases (show v = Value.ref p2 from ry)
    obtain ⟨its2, rv2, pl2, hz2⟩ := I.tuple (SqT.of (fz _ _ q2))
    exact ⟨.list_tuple pl.isList pl2 hu', .list_tuple pl.isList pl2 hu'⟩
   | lst es =>
    have rb0 := rb
    obtain ⟨p2, ys, rfl, q2, r2⟩ := rb
    cases (show v = Value.ref p2 from ry)
    obtain ⟨its2, rv2, pl2, hz2⟩ := I.list (SqL.of (fz _ _ q2))
    simp only [depth] at hd
    have l1 := rv.length; have l2 := r.length; have l3 := rv2.length; have l4 := r2.length
    have rc : SeqAt.RcAt A s (.ref p) (.ref p2) (eqBL ds es) := by
     by_cases hl : ds.length = es.length
     ·have z := SeqAt.RcAt.lists (A := A) (s := s) (e := eqJ ds es) pl.isList pl2.isList (by simp only [List.size_toArray]; lia) hu' (items ds es xs ys its its2 (by lia) (by simpa only [noS] using na) (by simpa only [noS] using nb) r r2 rv rv2)
      rw [List.size_toArray, <- l1, l2, zdI ds es hl] at z
      exact z
     ·rw [zhC hl]
      refine .lists_lengths pl.isList pl2.isList ?_ hu'
      simp only [List.size_toArray, bne_iff_ne, ne_eq]
      lia
    refine ⟨?_, by simp only [eqB]; exact rc⟩
    by_cases hp : p = p2
    ·subst hp
     have e := RepD.inj na nb ra0 rb0
     cases e
     rw [zke _ na]
     exact .same _
    ·simp only [eqB]
     exact .of_refs hp rc
  | tup ds =>
   have ra0 := ra
   obtain ⟨p, xs, rfl, q, r⟩ := ra
   cases (show u = Value.ref p from rx)
   obtain ⟨its, rv, pl, hz⟩ := I.tuple (SqT.of (fz _ _ q))
   cases b with
   | non => cases (show y = V.non from rb); cases (show v = Value.none from ry); exact ⟨.tuple_none pl hu', .tuple_none pl hu'⟩
   | bl c => cases (show y = V.bl c from rb); cases (show v = Value.bool c from ry); exact ⟨.tuple_bool _ pl hu', .tuple_bool _ pl hu'⟩
   | int c => cases (show y = V.int c from rb); obtain ⟨t, rfl⟩ := ry; exact ⟨.tuple_int _ _ pl hu', .tuple_int _ _ pl hu'⟩
   | str c => cases (show y = V.str c from rb); obtain ⟨t, rfl⟩ := ry; exact ⟨.tuple_str _ _ pl hu', .tuple_str _ _ pl hu'⟩
   | scr _ => simp [noS] at nb
   | exc _ => simp [noS] at nb
   | dic _ _ => simp [noS] at nb
   | dit _ _ => simp [noS] at nb
   | lst es =>
    obtain ⟨p2, ys, rfl, q2, r2⟩ := rb
    cases (show v = Value.ref p2 from ry)
    obtain ⟨its2, rv2, pl2, hz2⟩ := I.list (SqL.of (fz _ _ q2))
    exact ⟨.tuple_list pl pl2.isList hu', .tuple_list pl pl2.isList hu'⟩
   | tup es =>
    have rb0 := rb
    obtain ⟨p2, ys, rfl, q2, r2⟩ := rb
    cases (show v = Value.ref p2 from ry)
    obtain ⟨its2, rv2, pl2, hz2⟩ := I.tuple (SqT.of (fz _ _ q2))
    simp only [depth] at hd
    have l1 := rv.length; have l2 := r.length; have l3 := rv2.length; have l4 := r2.length
    have rc : SeqAt.RcAt A s (.ref p) (.ref p2) (eqBL ds es) := by
     have z := SeqAt.RcAt.tuples (A := A) (s := s) (e := eqJ ds es) pl pl2 hu' (items ds es xs ys its its2 (by lia) (by simpa only [noS] using na) (by simpa only [noS] using nb) r r2 rv rv2)
     simp only [List.size_toArray] at z
     by_cases hl : ds.length = es.length
     ·have e1 : min its.length its2.length = ds.length := by lia
      have e2 : (its.length == its2.length) = true := by simp; lia
      rw [e1, e2, Bool.and_true, zdI ds es hl] at z
      exact z
     ·have e2 : (its.length == its2.length) = false := by simp; lia
      rw [e2, Bool.and_false] at z
      rw [zhC hl]
      exact z
    refine ⟨?_, by simp only [eqB]; exact rc⟩
    by_cases hp : p = p2
    ·subst hp
     have e := RepD.inj na nb ra0 rb0
     cases e
     rw [zke _ na]
     exact .same _
    ·simp only [eqB]
     exact .of_refs hp rc
end
noncomputable def dEq (a b : D) : Option D := if noS a && noS b && decide (depth a <= 50) then some (.bl (eqB a b)) else none
noncomputable def dNe (a b : D) : Option D := if noS a && noS b && decide (depth a <= 50) then some (.bl (!eqB a b)) else none
noncomputable def rEqD (K : W.Frag) (c : Bool -> Bool) : R2 := fun x y H Q => ∃ G a b, Fz G H /\ RepD K G x a /\ RepD K G y b /\ noS a = true /\ noS b = true /\ depth a <= 50 /\ Q (.bl (c (eqB a b))) H
theorem op_eqD (hu : X.A.units + 64 < cLine) : OpR X (compareOp .Eq) (rEqD X.K id) := by
 intro pins s σ H x y v u Q I rx ry h
 obtain ⟨G, a, b, fz, ra, rb, na, nb, hd, q⟩ := h
 exact (eqAt_D I fz 50 X.A a b x y v u hd na nb (by lia) ra rb rx ry).2 _ _ _ _ ⟨.bl _, H, I, rfl, q⟩
theorem zl5 {ma mb : ME} {pos : Pos} (hu : X.A.units + 64 < cLine) (ha : SE X a ma) (hb : SE X b mb) : SE X (.Compare a [.Eq] [b] pos) (m2 dEq ma mb) := by
 refine zoU (op_eqD hu) (fun B G H σ ρ x y a b d Q I ra rb hf k => ?_) ha hb (zic _)
 unfold dEq at hf
 split at hf
 ·rename_i h
  simp only [Bool.and_eq_true, decide_eq_true_eq] at h
  cases hf
  exact ⟨G, a, b, I.fz, ra, rb, h.1.1, h.1.2, h.2, k G H _ I (Fz.refl G) rfl⟩
 ·cases hf
section
variable {X : Cx} {pins : List (Addr × Obj)} {σ : St} {H G : Hp} {s : Shared}
theorem neAt_D (I : Inv X pins σ H s) (fz : Fz G H) (A : Around) (a b : D) (x y : V) (u v : Value) (hd : depth a <= 50) (na : noS a = true) (nb : noS b = true) (hu : A.units + 64 < cLine) (ra : RepD X.K G x a) (rb : RepD X.K G y b) (rx : RelV x u) (ry : RelV y v) :
  SeqAt.RcNeAt A s u v (!eqB a b) := by
 have hu' : A.units < cLine := by lia
 have items : ∀ (ds es : List D) (xs ys : List V) (its its2 : List Value), zgz ds <= 49 -> noSL ds = true -> noSL es = true -> RepL X.K G xs ds -> RepL X.K G ys es -> Vals xs its -> Vals ys its2 ->
   ∀ j (h1 : j < its.toArray.size) (h2 : j < its2.toArray.size), SeqAt.EqAt A.in1 s its.toArray[j] its2.toArray[j] (eqJ ds es j) := by
  intro ds es xs ys its its2 hd nd ne r r2 rv rv2 j h1 h2
  simp only [List.size_toArray] at h1 h2
  obtain ⟨x1, d1, e1, k1, m1⟩ := zj2 rv r (j := j) (u := its[j]) (List.getElem?_eq_getElem h1)
  obtain ⟨x2, d2, e2, k2, m2⟩ := zj2 rv2 r2 (j := j) (u := its2[j]) (List.getElem?_eq_getElem h2)
  have e : eqJ ds es j = eqB d1 d2 := by unfold eqJ; rw [e1, e2]
  rw [e]
  have := zhP e1
  simpa using (eqAt_D I fz 49 A.in1 d1 d2 x1 x2 _ _ (by lia) (zg6 e1 nd) (zg6 e2 ne) (by show A.units + 1 + 49 + 1 < cLine; lia) m1 m2 k1 k2).1
 cases a with
 | scr _ => simp [noS] at na
 | exc _ => simp [noS] at na
 | dic _ _ => simp [noS] at na
 | dit _ _ => simp [noS] at na
 | non =>
  cases (show x = V.non from ra); cases (show u = Value.none from rx)
  cases b with
  | non => cases (show y = V.non from rb); cases (show v = Value.none from ry); exact .none_none
  | bl c => cases (show y = V.bl c from rb); cases (show v = Value.bool c from ry); exact .none_bool _
  | int c => cases (show y = V.int c from rb); obtain ⟨t, rfl⟩ := ry; exact .none_int _ _
  | str c => cases (show y = V.str c from rb); obtain ⟨t, rfl⟩ := ry; exact .none_str _ _
  | lst ds =>
   obtain ⟨p, xs, rfl, q, r⟩ := rb
   cases (show v = Value.ref p from ry)
   obtain ⟨its, rv, pl, hz⟩ := I.list (SqL.of (fz _ _ q))
   exact .none_list pl.isList hu'
  | tup ds =>
   obtain ⟨p, xs, rfl, q, r⟩ := rb
   cases (show v = Value.ref p from ry)
   obtain ⟨its, rv, pl, hz⟩ := I.tuple (SqT.of (fz _ _ q))
   exact .none_tuple pl hu'
  | scr _ => simp [noS] at nb
  | exc _ => simp [noS] at nb
  | dic _ _ => simp [noS] at nb
  | dit _ _ => simp [noS] at nb
 | bl c0 =>
  cases (show x = V.bl c0 from ra); cases (show u = Value.bool c0 from rx)
  cases b with
  | non => cases (show y = V.non from rb); cases (show v = Value.none from ry); exact .bool_none _
  | bl c => cases (show y = V.bl c from rb); cases (show v = Value.bool c from ry); exact .bool_bool _ _
  | int c => cases (show y = V.int c from rb); obtain ⟨t, rfl⟩ := ry; exact .bool_int _ _ _
  | str c => cases (show y = V.str c from rb); obtain ⟨t, rfl⟩ := ry; exact .bool_str _ _ _
  | lst ds =>
   obtain ⟨p, xs, rfl, q, r⟩ := rb
   cases (show v = Value.ref p from ry)
   obtain ⟨its, rv, pl, hz⟩ := I.list (SqL.of (fz _ _ q))
   exact .bool_list _ pl.isList hu'
  | tup ds =>
   obtain ⟨p, xs, rfl, q, r⟩ := rb
   cases (show v = Value.ref p from ry)
   obtain ⟨its, rv, pl, hz⟩ := I.tuple (SqT.of (fz _ _ q))
   exact .bool_tuple _ pl hu'
  | scr _ => simp [noS] at nb
  | exc _ => simp [noS] at nb
  | dic _ _ => simp [noS] at nb
  | dit _ _ => simp [noS] at nb
 | int c0 =>
  cases (show x = V.int c0 from ra); obtain ⟨t0, rfl⟩ := rx
  cases b with
  | non => cases (show y = V.non from rb); cases (show v = Value.none from ry); exact .int_none _ _
  | bl c => cases (show y = V.bl c from rb); cases (show v = Value.bool c from ry); exact .int_bool _ _ _
  | int c => cases (show y = V.int c from rb); obtain ⟨t, rfl⟩ := ry; exact .int_int _ _ _ _
  | str c => cases (show y = V.str c from rb); obtain ⟨t, rfl⟩ := ry; exact .int_str _ _ _ _
  | lst ds =>
   obtain ⟨p, xs, rfl, q, r⟩ := rb
   cases (show v = Value.ref p from ry)
   obtain ⟨its, rv, pl, hz⟩ := I.list (SqL.of (fz _ _ q))
   exact .int_list _ _ pl.isList hu'
  | tup ds =>
   obtain ⟨p, xs, rfl, q, r⟩ := rb
   cases (show v = Value.ref p from ry)
   obtain ⟨its, rv, pl, hz⟩ := I.tuple (SqT.of (fz _ _ q))
   exact .int_tuple _ _ pl hu'
  | scr _ => simp [noS] at nb
  | exc _ => simp [noS] at nb
  | dic _ _ => simp [noS] at nb
  | dit _ _ => simp [noS] at nb
 | str c0 =>
  cases (show x = V.str c0 from ra); obtain ⟨t0, rfl⟩ := rx
  cases b with
  | non => cases (show y = V.non from rb); cases (show v = Value.none from ry); exact .str_none _ _
  | bl c => cases (show y = V.bl c from rb); cases (show v = Value.bool c from ry); exact .str_bool _ _ _
  | int c => cases (show y = V.int c from rb); obtain ⟨t, rfl⟩ := ry; exact .str_int _ _ _ _
  | str c => cases (show y = V.str c from rb); obtain ⟨t, rfl⟩ := ry; exact .str_str _ _ _ _
  | lst ds =>
   obtain ⟨p, xs, rfl, q, r⟩ := rb
   cases (show v = Value.ref p from ry)
   obtain ⟨its, rv, pl, hz⟩ := I.list (SqL.of (fz _ _ q))
   exact .str_list _ _ pl.isList hu'
  | tup ds =>
   obtain ⟨p, xs, rfl, q, r⟩ := rb
   cases (show v = Value.ref p from ry)
   obtain ⟨its, rv, pl, hz⟩ := I.tuple (SqT.of (fz _ _ q))
   exact .str_tuple _ _ pl hu'
  | scr _ => simp [noS] at nb
  | exc _ => simp [noS] at nb
  | dic _ _ => simp [noS] at nb
  | dit _ _ => simp [noS] at nb
 | lst ds =>
  obtain ⟨p, xs, rfl, q, r⟩ := ra
  cases (show u = Value.ref p from rx)
  obtain ⟨its, rv, pl, hz⟩ := I.list (SqL.of (fz _ _ q))
  cases b with
  | non => cases (show y = V.non from rb); cases (show v = Value.none from ry); exact .list_none pl.isList hu'
  | bl c => cases (show y = V.bl c from rb); cases (show v = Value.bool c from ry); exact .list_bool _ pl.isList hu'
  | int c => cases (show y = V.int c from rb); obtain ⟨t, rfl⟩ := ry; exact .list_int _ _ pl.isList hu'
  | str c => cases (show y = V.str c from rb); obtain ⟨t, rfl⟩ := ry; exact .list_str _ _ pl.isList hu'
  | scr _ => simp [noS] at nb
  | exc _ => simp [noS] at nb
  | dic _ _ => simp [noS] at nb
  | dit _ _ => simp [noS] at nb
  | tup es =>
   obtain ⟨p2, ys, rfl, q2, r2⟩ := rb
   cases (show v = Value.ref p2 from ry)
   obtain ⟨its2, rv2, pl2, hz2⟩ := I.tuple (SqT.of (fz _ _ q2))
   exact .list_tuple pl.isList pl2 hu'
  | lst es =>
   obtain ⟨p2, ys, rfl, q2, r2⟩ := rb
   cases (show v = Value.ref p2 from ry)
   obtain ⟨its2, rv2, pl2, hz2⟩ := I.list (SqL.of (fz _ _ q2))
   simp only [depth] at hd
   have l1 := rv.length; have l2 := r.length; have l3 := rv2.length; have l4 := r2.length
   simp only [eqB]
   by_cases hl : ds.length = es.length
   ·have z := SeqAt.RcNeAt.lists (A := A) (s := s) (e := eqJ ds es) pl.isList pl2.isList (by simp only [List.size_toArray]; lia) hu' (items ds es xs ys its its2 (by lia) (by simpa only [noS] using na) (by simpa only [noS] using nb) r r2 rv rv2)
    rw [List.size_toArray, <- l1, l2, zdI ds es hl] at z
    exact z
   ·rw [zhC hl]
    refine .lists_lengths pl.isList pl2.isList ?_ hu'
    simp only [List.size_toArray, bne_iff_ne, ne_eq]
    lia
 | tup ds =>
  obtain ⟨p, xs, rfl, q, r⟩ := ra
  cases (show u = Value.ref p from rx)
  obtain ⟨its, rv, pl, hz⟩ := I.tuple (SqT.of (fz _ _ q))
  cases b with
  | non => cases (show y = V.non from rb); cases (show v = Value.none from ry); exact .tuple_none pl hu'
  | bl c => cases (show y = V.bl c from rb); cases (show v = Value.bool c from ry); exact .tuple_bool _ pl hu'
  | int c => cases (show y = V.int c from rb); obtain ⟨t, rfl⟩ := ry; exact .tuple_int _ _ pl hu'
  | str c => cases (show y = V.str c from rb); obtain ⟨t, rfl⟩ := ry; exact .tuple_str _ _ pl hu'
  | scr _ => simp [noS] at nb
  | exc _ => simp [noS] at nb
  | dic _ _ => simp [noS] at nb
  | dit _ _ => simp [noS] at nb
  | lst es =>
   obtain ⟨p2, ys, rfl, q2, r2⟩ := rb
   cases (show v = Value.ref p2 from ry)
   obtain ⟨its2, rv2, pl2, hz2⟩ := I.list (SqL.of (fz _ _ q2))
   exact .tuple_list pl pl2.isList hu'
  | tup es =>
   obtain ⟨p2, ys, rfl, q2, r2⟩ := rb
   cases (show v = Value.ref p2 from ry)
   obtain ⟨its2, rv2, pl2, hz2⟩ := I.tuple (SqT.of (fz _ _ q2))
   simp only [depth] at hd
   have l1 := rv.length; have l2 := r.length; have l3 := rv2.length; have l4 := r2.length
   have z := SeqAt.RcNeAt.tuples (A := A) (s := s) (e := eqJ ds es) pl pl2 hu' (items ds es xs ys its its2 (by lia) (by simpa only [noS] using na) (by simpa only [noS] using nb) r r2 rv rv2)
   simp only [List.size_toArray] at z
   simp only [eqB]
   by_cases hl : ds.length = es.length
   ·have e1 : min its.length its2.length = ds.length := by lia
    have e2 : (its.length == its2.length) = true := by simp; lia
    rw [e1, e2, Bool.and_true, zdI ds es hl] at z
    exact z
   ·have e2 : (its.length == its2.length) = false := by simp; lia
    rw [e2, Bool.and_false] at z
    rw [zhC hl]
    exact z
end
theorem op_neD (hu : X.A.units + 64 < cLine) : OpR X (compareOp .NotEq) (rEqD X.K not) := by
 intro pins s σ H x y v u Q I rx ry h
 obtain ⟨G, a, b, fz, ra, rb, na, nb, hd, q⟩ := h
 exact neAt_D I fz X.A a b x y v u hd na nb hu ra rb rx ry _ _ _ _ ⟨.bl _, H, I, rfl, q⟩
theorem v2_ne : V2 X (rEqD X.K not) dNe := by
 intro B G H σ ρ x y a b d Q I ra rb hf k
 unfold dNe at hf
 split at hf
 ·rename_i h
  simp only [Bool.and_eq_true, decide_eq_true_eq] at h
  cases hf
  exact ⟨G, a, b, I.fz, ra, rb, h.1.1, h.1.2, h.2, k G H _ I (Fz.refl G) rfl⟩
 ·cases hf
theorem v2_eq : V2 X (rEqD X.K id) dEq := by
 intro B G H σ ρ x y a b d Q I ra rb hf k
 unfold dEq at hf
 split at hf
 ·rename_i h
  simp only [Bool.and_eq_true, decide_eq_true_eq] at h
  cases hf
  exact ⟨G, a, b, I.fz, ra, rb, h.1.1, h.1.2, h.2, k G H _ I (Fz.refl G) rfl⟩
 ·cases hf
noncomputable def dIx : D -> D -> Option D
 | .lst ds, .int i => atI ds i
 | .tup ds, .int i => atI ds i
 | .scr ns, .int i => (atI ns i).map .int
 | _, _ => none
theorem atI_map {α β : Type} (f : α -> β) {xs : List α} {i : Int} {v : α} (h : atI xs i = some v) : atI (xs.map f) i = some (f v) := by
 unfold atI at h ⊢
 rw [List.length_map]
 cases q : ixN xs.length i with
 | none => rw [q] at h; cases h
 | some j =>
  rw [q] at h
  show (xs.map f)[j]? = _
  rw [List.getElem?_map, show xs[j]? = some v from h]
  rfl
noncomputable def ReadD (K : W.Frag) (G H : Hp) (v : V) : D -> Prop
 | .lst ds => ∃ a xs, v = .ref a /\ H a = some (.lst xs) /\ RepL K G xs ds
 | d => RepD K G v d
theorem ReadD.of (fz : Fz G H) (h : RepD K G v d) : ReadD K G H v d := by
 cases d with
 | lst ds => obtain ⟨a, xs, e, q, r⟩ := h; exact ⟨a, xs, e, fz a _ q, r⟩
 | _ => exact h
noncomputable def Sl.read : Sl -> Option D
 | .emp => none
 | .two _ _ => none
 | .tre _ => none
 | .ptr _ => none
 | .val d => some d
 | .own ds => some (.lst ds)
 | .par ds => some (.lst ds)
noncomputable def hasV (ρ : R) (j : Nat) : Bool := match ρ[j]? with
 | some (.val _) => true
 | some (.own _) => true
 | some (.par _) => true
 | _ => false
theorem SI.has (I : SI K B G H σ ρ) (h : hasV ρ j = true) : ∃ v, σ[j]? = some (some v) := by
 unfold hasV at h
 cases e : ρ[j]? with
 | none => rw [e] at h; cases h
 | some s =>
  rw [e] at h
  have q := I.slot j s e
  cases s with
  | emp => cases h
  | two _ _ => cases h
  | tre _ => cases h
  | ptr _ => cases h
  | val d => obtain ⟨v, e, _⟩ := q; exact ⟨v, e⟩
  | own d => obtain ⟨l, _, e, _⟩ := q; exact ⟨_, e⟩
  | par d => obtain ⟨l, _, e, _⟩ := q; exact ⟨_, e⟩
theorem SI.read (I : SI K B G H σ ρ) (hv : σ[j]? = some (some v)) (e : ρ[j]? = some s) (q : s.read = some d) : ReadD K G H v d := by
 have h := I.slot j s e
 cases s with
 | emp => cases q
 | two _ _ => cases q
 | tre _ => cases q
 | ptr _ => cases q
 | val d' =>
  cases q
  obtain ⟨w, e1, r⟩ := h
  rw [hv] at e1; cases e1
  exact .of I.fz r
 | own ds =>
  cases q
  obtain ⟨l, xs, e1, _, h3, h4, _⟩ := h
  rw [hv] at e1; cases e1
  exact ⟨l, xs, rfl, h3, h4⟩
 | par ds =>
  cases q
  obtain ⟨l, xs, e1, _, h3, h4, _⟩ := h
  rw [hv] at e1; cases e1
  exact ⟨l, xs, rfl, h3, h4⟩
theorem zn9 {x y : V} {a b d : D} {Q : VK} (I : SI K B G H σ ρ) (ra : ReadD K G H x a) (rb : RepD K G y b) (hf : dIx a b = some d) (k : ∀ v, RepD K G v d -> Q v H) : rIx K x y H Q := by
 cases a <;> cases b <;> simp only [dIx] at hf <;> try cases hf
 ·rename_i ds i
  obtain ⟨p, xs, rfl, hp, r⟩ := ra
  obtain ⟨v, e, q⟩ := r.at hf
  exact .inl ⟨p, xs, i, v, rfl, rb, SqL.of hp, e, k _ q⟩
 ·rename_i ds i
  obtain ⟨p, xs, rfl, hp, r⟩ := I.tup ra
  obtain ⟨v, e, q⟩ := r.at hf
  exact .inr (.inl ⟨p, xs, i, v, rfl, rb, SqT.of hp, e, k _ q⟩)
 ·rename_i ns i
  obtain ⟨p, rfl, hp⟩ := ra
  cases e : atI ns i with
  | none => rw [e] at hf; cases hf
  | some n =>
   rw [e] at hf
   cases hf
   exact .inl ⟨p, _, i, .int n, rfl, rb, I.fz.sql hp, atI_map V.int e, k _ rfl⟩
theorem v2_ix : V2 X (rIx X.K) dIx := fun B G H σ ρ x y a b d Q I ra rb hf k => zn9 I (.of I.fz ra) rb hf fun v q => k G H v I (Fz.refl G) q
theorem zc9 {ma mb : ME} {pos : Pos} (ha : SE X a ma) (hb : SE X b mb) (hs : zj3 b := by exact fun _ _ => rfl) : SE X (.Subscript a b pos) (m2 dIx ma mb) := se_ix ix_seq v2_ix ha hb hs
noncomputable def eIxV (j : Nat) (mi : ME) : ME := fun ρ => if hasV ρ j then (mi ρ).bind fun p => (p.2[j]?.bind Sl.read).bind fun d => (dIx d p.1).map fun e => (e, p.2) else none
theorem zan {pos pos' : Pos} (j : Nat) (hb : SE X b mb) (hN : X.N[j]? = some x := by rfl) (hv : Vis X.env.scope x := by first | exact Or.inl rfl | exact Or.inr (Or.inl rfl) | exact Or.inr (Or.inr rfl)) (hd : (x == ("__debug__" : Str)) = false := by decide)
    (hcd : (x == ("__classdict__" : Str)) = false := by decide) (hs : zj3 b := by exact fun _ _ => rfl) : SE X (.Subscript (.Name x pos') b pos) (eIxV j mb) := by
  obtain ⟨tb, pb, sb⟩ := hb
  refine ⟨_, pe_ix ix_seq (zgs hN hv hd hcd) pb hs, fun B G H σ ρ d ρ' Q I hm k => ?_⟩
  unfold eIxV at hm
  split at hm
  . rename_i hh
    obtain ⟨v, ev⟩ := I.has hh
    cases e1 : mb ρ with
    | none => rw [e1] at hm; cases hm
    | some q =>
      obtain ⟨i, ρ1⟩ := q
      rw [e1] at hm
      simp only [Option.bind_some] at hm
      cases e2 : ρ1[j]? with
      | none => rw [e2] at hm; cases hm
      | some s =>
        rw [e2] at hm
        simp only [Option.bind_some] at hm
        cases e3 : s.read with
        | none => rw [e3] at hm; cases hm
        | some a =>
          rw [e3] at hm
          simp only [Option.bind_some] at hm
          cases e4 : dIx a i with
          | none => rw [e4] at hm; cases hm
          | some c =>
            rw [e4] at hm
            cases hm
            exact ⟨v, ev, sb B G H σ ρ i ρ' _ I e1 fun G1 H1 y I1 f1 r1 => zn9 I1 (I1.read ev e2 e3) r1 e4 fun w q => k G1 H1 w I1 f1 q⟩
  . cases hm
noncomputable def dLen : List D -> Option D
 | [.lst ds] => some (.int ds.length)
 | [.tup ds] => some (.int ds.length)
 | [.scr ns] => some (.int ns.length)
 | _ => none
theorem zmR {x : V} {a d : D} {Q : VK} (I : SI K B G H σ ρ) (ra : ReadD K G H x a) (hf : dLen [a] = some d) (k : ∀ v, RepD K G v d -> Q v H) :
  ∃ p ys, [x] = [V.ref p] /\ (SqL K H p ys \/ SqT K H p ys) /\ Q (.int ys.length) H := by
 cases a <;> simp only [dLen] at hf <;> try cases hf
 ·obtain ⟨p, xs, rfl, hp, r⟩ := ra
  exact ⟨p, xs, rfl, .inl (SqL.of hp), by rw [r.length]; exact k _ rfl⟩
 ·obtain ⟨p, xs, rfl, hp, r⟩ := I.tup ra
  exact ⟨p, xs, rfl, .inr (SqT.of hp), by rw [r.length]; exact k _ rfl⟩
 ·obtain ⟨p, rfl, hp⟩ := ra
  exact ⟨p, _, rfl, .inl (I.fz.sql hp), by rw [List.length_map]; exact k _ rfl⟩
theorem RepL.one (h : RepL K G xs [d]) : ∃ x, xs = [x] /\ RepD K G x d := by
 obtain ⟨x, ys, e, q, r⟩ := h
 cases (show ys = [] from r)
 exact ⟨x, e, q⟩
theorem RepL.two {a b : D} (h : RepL K G xs [a, b]) : ∃ x y, xs = [x, y] /\ RepD K G x a /\ RepD K G y b := by
 obtain ⟨x, ys, e, q, r⟩ := h
 obtain ⟨y, e2, q2⟩ := r.one
 subst e2
 exact ⟨x, y, e, q, q2⟩
theorem dLen_one (h : dLen ds = some d) : ∃ a, ds = [a] := by
 match ds, h with
 | [a], _ => exact ⟨a, rfl⟩
 | [], h => cases h
 | _ :: _ :: _, h => simp [dLen] at h
theorem vc_len : VC X (fun xs H Q => ∃ p ys, xs = [.ref p] /\ (SqL X.K H p ys \/ SqT X.K H p ys) /\ Q (.int ys.length) H) dLen := by
 intro B G H σ ρ xs ds d Q I r hf k
 obtain ⟨a, rfl⟩ := dLen_one hf
 obtain ⟨x, rfl, ra⟩ := r.one
 exact zmR I (.of I.fz ra) hf fun v q => k G H v I (Fz.refl G) q
theorem znR {p pos : Pos} (ml : X.mg "len" = none) (ha : SA X [e] ma) (hg : Gl X "len" := by rfl) (he : starEach [e] X.env = (false, eval e X.env) :: starEach [] X.env := by rfl) : SE X (.Call (.Name "len" p) [e] [] pos) (mC dLen ma) :=
 zdf zh2 vc_len PySem.boot_len ml ha hg (by decide) (by decide) he rfl
noncomputable def zdC (j : Nat) : ME := fun ρ => (ρ[j]?.bind Sl.read).bind fun d => (dLen [d]).map fun e => (e, ρ)
theorem zbu {p pos pos' : Pos} (j : Nat) (ml : X.mg "len" = none) (hN : X.N[j]? = some x := by rfl) (hv : Vis X.env.scope x := by first | exact Or.inl rfl | exact Or.inr (Or.inl rfl) | exact Or.inr (Or.inr rfl)) (hd : (x == ("__debug__" : Str)) = false := by decide)
  (hcd : (x == ("__classdict__" : Str)) = false := by decide) (hg : Gl X "len" := by rfl) (he : starEach [.Name x pos'] X.env = (false, eval (.Name x pos') X.env) :: starEach [] X.env := by rfl) : SE X (.Call (.Name "len" p) [.Name x pos'] [] pos) (zdC j) := by
 refine ⟨_, zmC zh2 hg ml PySem.boot_len (zds (zgs hN hv hd hcd) zjv he) (by decide) (by decide) he rfl, fun B G H σ ρ d ρ' Q I hm k => ?_⟩
 unfold zdC at hm
 cases e2 : ρ[j]? with
 | none => rw [e2] at hm; cases hm
 | some s =>
  rw [e2] at hm
  simp only [Option.bind_some] at hm
  cases e3 : s.read with
  | none => rw [e3] at hm; cases hm
  | some a =>
   rw [e3] at hm
   simp only [Option.bind_some] at hm
   cases e4 : dLen [a] with
   | none => rw [e4] at hm; cases hm
   | some c =>
    rw [e4] at hm
    cases hm
    have hh : hasV ρ j = true := by
     unfold hasV
     rw [e2]
     cases s <;> first | rfl | cases e3
    obtain ⟨v, ev⟩ := I.has hh
    exact ⟨v, ev, zmR I (I.read ev e2 e3) e4 fun w q => k G H w I (Fz.refl G) q⟩
noncomputable def zbQ : List D -> Option D
 | [.lst ds] => some (.tup ds)
 | [.tup ds] => some (.tup ds)
 | [.scr ns] => some (.tup (ns.map .int))
 | _ => none
theorem vc_tuple : VC X (fun xs H Q => ∃ p ys, xs = [.ref p] /\ ((SqL X.K H p ys /\ ∀ l, H l = none -> Q (.ref l) (upd H l (.tup ys))) \/ (SqT X.K H p ys /\ Q (.ref p) H))) zbQ := by
 intro B G H σ ρ xs ds d Q I r hf k
 match ds, hf with
 | [a], hf =>
  obtain ⟨x, rfl, ra⟩ := r.one
  cases a <;> simp only [zbQ] at hf <;> try cases hf
  ·obtain ⟨p, ys, rfl, hp, q⟩ := I.lst ra
   refine ⟨p, ys, rfl, .inl ⟨SqL.of hp, fun l hl => ?_⟩⟩
   obtain ⟨I2, f2, r2⟩ := I.newT hl q
   exact k _ _ _ I2 f2 r2
  ·obtain ⟨p, ys, e, hp, q⟩ := I.tup ra
   subst e
   exact ⟨p, ys, rfl, .inr ⟨SqT.of hp, k G H _ I (Fz.refl G) ra⟩⟩
  ·obtain ⟨p, rfl, hp⟩ := ra
   refine ⟨p, _, rfl, .inl ⟨I.fz.sql hp, fun l hl => ?_⟩⟩
   obtain ⟨I2, f2, r2⟩ := I.newT hl (RepL.ints _)
   exact k _ _ _ I2 f2 r2
 | [], hf => cases hf
 | _ :: _ :: _, hf => simp [zbQ] at hf
theorem zbx {p pos : Pos} (ml : X.mg "tuple" = none) (ha : SA X [e] ma) (hg : Gl X "tuple" := by rfl) (he : starEach [e] X.env = (false, eval e X.env) :: starEach [] X.env := by rfl) (hb : bootBuiltins "tuple" = some (.type "tuple") := by decide +kernel) :
  SE X (.Call (.Name "tuple" p) [e] [] pos) (mC zbQ ma) :=
 zpd zkh vc_tuple hb ml ha hg (by decide) (by decide) he rfl
noncomputable def zaL : List D -> Option (List D)
 | [.lst ds] => some ds
 | [.tup ds] => some ds
 | [.scr ns] => some (ns.map .int)
 | _ => none
noncomputable def oC (f : List D -> Option (List D)) (ma : MA) : MO := fun ρ => (ma ρ).bind fun p => (f p.1).map fun d => (d, p.2)
theorem oC_inv {f : List D -> Option (List D)} {d : List D} (h : oC f ma ρ = some (d, ρ')) : ∃ a, ma ρ = some (a, ρ') /\ f a = some d := by
 unfold oC at h
 cases e1 : ma ρ with
 | none => rw [e1] at h; cases h
 | some p =>
  obtain ⟨a, ρ1⟩ := p
  rw [e1] at h
  simp only [Option.bind_some] at h
  cases e3 : f a with
  | none => rw [e3] at h; cases h
  | some c => rw [e3] at h; cases h; exact ⟨a, rfl, e3⟩
theorem SI.newO (I : SI K B G H σ ρ) {p : Addr} (hp : H p = none) (xs : List V) : SI K B G (upd H p (.lst xs)) σ ρ /\ G p = none /\ (upd H p (.lst xs)) p = some (.lst xs) /\ B.H p = none /\ Nw K G (upd H p (.lst xs)) σ ρ p :=
 ⟨I.allocO hp _, I.fz.free hp, zaV, I.there p hp, I.nw_move (I.nw hp) fun i s a _ _ g h => ⟨g, zaC fun z => h (by rw [z]; exact hp)⟩⟩
theorem zlK {p pos : Pos} (ml : X.mg "list" = none) (ha : SA X [e] ma) (hg : Gl X "list" := by rfl) (he : starEach [e] X.env = (false, eval e X.env) :: starEach [] X.env := by rfl) (hb : bootBuiltins "list" = some (.type "list") := by decide +kernel) :
  SO X (.Call (.Name "list" p) [e] [] pos) (oC zaL ma) := by
 obtain ⟨t, pa, sa⟩ := ha
 refine ⟨_, zk4 zk0 hg ml hb pa (by decide) (by decide) he rfl, fun B G H σ ρ ds ρ' Q I hm k => ?_⟩
 obtain ⟨as, e1, e2⟩ := oC_inv hm
 refine sa B G H σ ρ as ρ' _ I e1 fun G1 H1 vs I1 f1 r1 => ?_
 match as, e2 with
 | [a], e2 =>
  obtain ⟨x, rfl, ra⟩ := r1.one
  have fin : ∀ (q : Addr) (ys : List V) (sq : SqL X.K H1 q ys \/ SqT X.K H1 q ys), x = .ref q -> RepL X.K G1 ys ds -> ∃ p ys, [x] = [V.ref p] /\ (SqL X.K H1 p ys \/ SqT X.K H1 p ys) /\ ∀ l, H1 l = none -> Q (.ref l) (upd H1 l (.lst ys)) := fun q ys sq ex r => by
   refine ⟨q, ys, by rw [ex], sq, fun l hl => ?_⟩
   obtain ⟨I2, g2, h2, b2, n2⟩ := I1.newO hl ys
   exact k G1 _ l ys I2 f1 g2 h2 r b2 n2
  cases a <;> simp only [zaL] at e2 <;> try cases e2
  ·obtain ⟨p, ys, ex, hp, q⟩ := I1.lst ra
   exact fin p ys (.inl (SqL.of hp)) ex q
  ·obtain ⟨p, ys, ex, hp, q⟩ := I1.tup ra
   exact fin p ys (.inr (SqT.of hp)) ex q
  ·obtain ⟨p, ex, hp⟩ := ra
   exact fin p _ (.inl (I1.fz.sql hp)) ex (RepL.ints _)
 | [], e2 => cases e2
 | _ :: _ :: _, e2 => simp [zaL] at e2
section
variable {X : Cx} {es : List Expr} {ma : MA} {pos : Pos}
noncomputable def eTup (ma : MA) : ME := fun ρ => (ma ρ).bind fun p => if p.1.length <= 16777216 then some (.tup p.1, p.2) else none
theorem zbT {x1} (h : SA X es ma) : SE X (.Tuple es x1 pos) (eTup ma) := by
 obtain ⟨t, pa, sa⟩ := h
 refine ⟨_, pe_tup pa, fun B G H σ ρ d ρ' Q I hm k => ?_⟩
 unfold eTup at hm
 cases e1 : ma ρ with
 | none => rw [e1] at hm; cases hm
 | some q =>
  obtain ⟨ds, ρ1⟩ := q
  rw [e1] at hm
  simp only [Option.bind_some] at hm
  split at hm
  ·rename_i hl
   cases hm
   refine sa B G H σ ρ ds ρ' _ I e1 fun G1 H1 vs I1 f1 r1 => ⟨by rw [r1.length, sizeLine_eq]; exact hl, fun p hp => ?_⟩
   obtain ⟨I2, f2, r2⟩ := I1.newT hp r1
   exact k _ _ _ I2 (f1.trans f2) r2
  ·cases hm
noncomputable def oLst (ma : MA) : MO := fun ρ => (ma ρ).bind fun p => if p.1.length <= 16777216 then some (p.1, p.2) else none
theorem zdd (h : SA X es ma) : SO X (.List es pos) (oLst ma) := by
 obtain ⟨t, pa, sa⟩ := h
 refine ⟨_, pe_lst pa, fun B G H σ ρ d ρ' Q I hm k => ?_⟩
 unfold oLst at hm
 cases e1 : ma ρ with
 | none => rw [e1] at hm; cases hm
 | some q =>
  obtain ⟨ds, ρ1⟩ := q
  rw [e1] at hm
  simp only [Option.bind_some] at hm
  split at hm
  ·rename_i hl
   cases hm
   refine sa B G H σ ρ _ ρ' _ I e1 fun G1 H1 vs I1 f1 r1 => ⟨by rw [r1.length, sizeLine_eq]; exact hl, fun p hp => ?_⟩
   obtain ⟨I2, g2, h2, b2, n2⟩ := I1.newO hp vs
   exact k G1 _ p vs I2 f1 g2 h2 r1 b2 n2
  ·cases hm
end
theorem zah {α β : Type} {o : Option α} {f : α -> Option β} {b : β} (h : o.bind f = some b) : ∃ a, o = some a /\ f a = some b := by
 cases o with
 | none => cases h
 | some a => exact ⟨a, rfl, h⟩
theorem zaA {α β : Type} {o : Option α} {f : α -> β} {b : β} (h : o.map f = some b) : ∃ a, o = some a /\ f a = b := by
 cases o with
 | none => cases h
 | some a => cases h; exact ⟨a, rfl, rfl⟩
noncomputable def dTru : D -> Option Bool
 | .bl b => some b
 | .int i => some (i != 0)
 | .non => some false
 | .lst ds => some (!ds.isEmpty)
 | .tup ds => some (!ds.isEmpty)
 | _ => none
noncomputable def tTru (ma : ME) : MT := fun ρ => (ma ρ).bind fun p => (dTru p.1).map fun b => (b, p.2)
section
variable {X : Cx} {a b c : Expr} {ma mb mc : ME} {pos : Pos}
theorem zoP (h : RepL K G xs ds) : (!xs.isEmpty) = !ds.isEmpty := by
 have := h.length
 cases xs <;> cases ds <;> simp_all
theorem zf6 (ha : SE X a ma) (he : ∀ whole, isTrue a X.env whole = (do let v <- whole; standAt a.pos; holding [v] (truthy v)) := by exact fun _ => rfl) : STt X a (tTru ma) := by
  obtain ⟨ta, pa, sa⟩ := ha
  refine ⟨_, pt_truth pa he, fun B G H σ ρ d ρ' Q I hm k => ?_⟩
  obtain ⟨⟨x, ρ1⟩, e1, e2⟩ := zah hm
  obtain ⟨t, e3, e4⟩ := zaA e2
  obtain ⟨rfl, rfl⟩ := Prod.mk.inj e4
  refine sa B G H σ ρ x ρ1 _ I e1 fun G1 H1 v I1 f1 r1 => ⟨t, ?_, k G1 H1 I1 f1⟩
  cases x <;> simp only [dTru] at e3 <;> try cases e3
  . cases r1; exact rfl
  . cases r1; exact rfl
  . cases r1; exact rfl
  . obtain ⟨p, xs, rfl, hp, r⟩ := I1.lst r1
    exact .inl ⟨xs, SqL.of hp, (zoP r).symm⟩
  . obtain ⟨p, xs, rfl, hp, r⟩ := I1.tup r1
    exact .inr (.inl ⟨xs, SqT.of hp, (zoP r).symm⟩)
theorem zhn {r : R2} (ho : OpR X (compareOp op) r) (hv : V2 X r f) (hB : ∀ x y d, f x y = some d -> ∃ t, d = .bl t) (ha : SE X a ma) (hb : SE X b mb) (hm : behindInMarks op b = false) : STt X (.Compare a [op] [b] pos) (tTru (m2 f ma mb)) := by
 obtain ⟨ta, pa, sa⟩ := ha
 obtain ⟨tb, pb, sb⟩ := hb
 refine ⟨_, pt_cmpR ho pa pb hm, fun B G H σ ρ d ρ' Q I hm k => ?_⟩
 obtain ⟨⟨x, ρ1⟩, e1, e2⟩ := zah hm
 obtain ⟨t, e3, e4⟩ := zaA e2
 obtain ⟨rfl, rfl⟩ := Prod.mk.inj e4
 obtain ⟨_, _, _, _, _, e5⟩ := m2_inv e1
 obtain ⟨t', rfl⟩ := hB _ _ _ e5
 obtain rfl : t' = t := Option.some.inj e3
 refine zmi hv sa sb B G H σ ρ (.bl t') ρ1 _ I e1 fun G1 H1 v I1 f1 r1 => ?_
 cases (show v = V.bl t' from r1)
 exact ⟨t', rfl, k G1 H1 I1 f1⟩
theorem zjE {g : Int -> Int -> Bool} (x y d : D) (h : dI2 (fun _ _ => true) (fun i j => .bl (g i j)) x y = some d) : ∃ t, d = .bl t := by
 cases x <;> cases y <;> simp only [dI2] at h <;> try cases h
 exact ⟨_, rfl⟩
theorem bl_eq (x y d : D) (h : dEq x y = some d) : ∃ t, d = .bl t := by
 unfold dEq at h
 split at h
 ·cases h; exact ⟨_, rfl⟩
 ·cases h
theorem bl_ne (x y d : D) (h : dNe x y = some d) : ∃ t, d = .bl t := by
 unfold dNe at h
 split at h
 ·cases h; exact ⟨_, rfl⟩
 ·cases h
theorem st_lt (ha : SE X a ma) (hb : SE X b mb) : STt X (.Compare a [.Lt] [b] pos) (tTru (m2 dLt ma mb)) := zhn zlW zbV zjE ha hb (zic _)
theorem st_gt (ha : SE X a ma) (hb : SE X b mb) : STt X (.Compare a [.Gt] [b] pos) (tTru (m2 dGt ma mb)) := zhn op_gt zbV zjE ha hb (zic _)
theorem st_ge (ha : SE X a ma) (hb : SE X b mb) : STt X (.Compare a [.GtE] [b] pos) (tTru (m2 dGe ma mb)) := zhn op_ge zbV zjE ha hb (zic _)
theorem zhu (hu : X.A.units + 64 < cLine) (ha : SE X a ma) (hb : SE X b mb) : STt X (.Compare a [.Eq] [b] pos) (tTru (m2 dEq ma mb)) := zhn (op_eqD hu) v2_eq bl_eq ha hb (zic _)
theorem znx (hu : X.A.units + 64 < cLine) (ha : SE X a ma) (hb : SE X b mb) : STt X (.Compare a [.NotEq] [b] pos) (tTru (m2 dNe ma mb)) := zhn (op_neD hu) v2_ne bl_ne ha hb (zic _)
end
noncomputable def STw (X : Cx) (e : Expr) (m : MT) : Prop :=
 ∃ t, PW X e t /\ ∀ B G H σ ρ d ρ' (Q : Bool -> Hp -> Prop), SI X.K B G H σ ρ -> m ρ = some (d, ρ') -> (∀ G' H', SI X.K B G' H' σ ρ' -> Fz G G' -> Q d H') -> t σ H Q
theorem STw.st (h : STw X e m) : STt X e m := let ⟨t, p, s⟩ := h; ⟨t, p.pt, s⟩
noncomputable def tAndM (a b : MT) : MT := fun ρ => (a ρ).bind fun p => if p.1 then b p.2 else some (false, p.2)
noncomputable def tOrM (a b : MT) : MT := fun ρ => (a ρ).bind fun p => if p.1 then some (true, p.2) else b p.2
noncomputable def zi2 (a : MT) : MT := fun ρ => (a ρ).map fun p => (!p.1, p.2)
section
variable {X : Cx} {a b c : Expr} {ma mb : MT} {pos : Pos} {rest : List Expr}
theorem sw_and1 (h : STt X a ma) : STw X (.BoolOp .And [a] pos) ma := let ⟨t, p, s⟩ := h; ⟨t, pw_and1 p, s⟩
theorem sw_or1 (h : STt X a ma) : STw X (.BoolOp .Or [a] pos) ma := let ⟨t, p, s⟩ := h; ⟨t, pw_or1 p, s⟩
theorem sw_and (ha : STt X a ma) (hb : STw X (.BoolOp .And (b :: rest) pos) mb) : STw X (.BoolOp .And (a :: b :: rest) pos) (tAndM ma mb) := by
 obtain ⟨ta, pa, sa⟩ := ha
 obtain ⟨tb, pb, sb⟩ := hb
 refine ⟨_, pw_and pa pb, fun B G H σ ρ d ρ' Q I hm k => ?_⟩
 obtain ⟨⟨x, ρ1⟩, e1, e2⟩ := zah hm
 refine sa B G H σ ρ x ρ1 _ I e1 fun G1 H1 I1 f1 => ?_
 cases x with
 | true => exact sb B G1 H1 σ ρ1 d ρ' Q I1 e2 fun G2 H2 I2 f2 => k G2 H2 I2 (f1.trans f2)
 | false => cases e2; exact k G1 H1 I1 f1
theorem sw_or (ha : STt X a ma) (hb : STw X (.BoolOp .Or (b :: rest) pos) mb) : STw X (.BoolOp .Or (a :: b :: rest) pos) (tOrM ma mb) := by
 obtain ⟨ta, pa, sa⟩ := ha
 obtain ⟨tb, pb, sb⟩ := hb
 refine ⟨_, pw_or pa pb, fun B G H σ ρ d ρ' Q I hm k => ?_⟩
 obtain ⟨⟨x, ρ1⟩, e1, e2⟩ := zah hm
 refine sa B G H σ ρ x ρ1 _ I e1 fun G1 H1 I1 f1 => ?_
 cases x with
 | false => exact sb B G1 H1 σ ρ1 d ρ' Q I1 e2 fun G2 H2 I2 f2 => k G2 H2 I2 (f1.trans f2)
 | true => cases e2; exact k G1 H1 I1 f1
theorem zie (ha : STt X a ma) : STt X (.UnaryOp .Not a pos) (zi2 ma) := by
 obtain ⟨ta, pa, sa⟩ := ha
 refine ⟨_, pt_not pa, fun B G H σ ρ d ρ' Q I hm k => ?_⟩
 obtain ⟨⟨x, ρ1⟩, e1, e2⟩ := zaA hm
 cases e2
 exact sa B G H σ ρ x ρ1 _ I e1 fun G1 H1 I1 f1 => k G1 H1 I1 f1
end
noncomputable def eAnd (a b : ME) : ME := fun ρ => (a ρ).bind fun p => match p.1 with
 | .bl true => b p.2
 | .bl false => some (.bl false, p.2)
 | _ => none
noncomputable def eOr (a b : ME) : ME := fun ρ => (a ρ).bind fun p => match p.1 with
 | .bl true => some (.bl true, p.2)
 | .bl false => b p.2
 | _ => none
noncomputable def dNot : D -> Option D
 | .bl b => some (.bl (!b))
 | _ => none
section
variable {X : Cx} {a b c : Expr} {ma mb : ME} {pos : Pos} {rest : List Expr} {op : BoolOp}
theorem zh8 (h : SE X a ma) : SE X (.BoolOp op [a] pos) ma := let ⟨t, p, s⟩ := h; ⟨t, pe_one p, s⟩
theorem zgw (ha : SE X a ma) (hb : SE X (.BoolOp .And (b :: rest) pos) mb) : SE X (.BoolOp .And (a :: b :: rest) pos) (eAnd ma mb) := by
 obtain ⟨ta, pa, sa⟩ := ha
 obtain ⟨tb, pb, sb⟩ := hb
 refine ⟨_, pe_and pa pb, fun B G H σ ρ d ρ' Q I hm k => ?_⟩
 obtain ⟨⟨x, ρ1⟩, e1, e2⟩ := zah hm
 refine sa B G H σ ρ x ρ1 _ I e1 fun G1 H1 v I1 f1 r1 => ?_
 cases x <;> try cases e2
 rename_i y
 refine ⟨y, r1, ?_⟩
 cases y with
 | true => exact sb B G1 H1 σ ρ1 d ρ' Q I1 e2 fun G2 H2 v I2 f2 r2 => k G2 H2 v I2 (f1.trans f2) r2
 | false => cases e2; exact k G1 H1 _ I1 f1 rfl
theorem se_not (ha : SE X a ma) : SE X (.UnaryOp .Not a pos) (m1 dNot ma) := by
 obtain ⟨ta, pa, sa⟩ := ha
 refine ⟨_, pe_not pa, fun B G H σ ρ d ρ' Q I hm k => ?_⟩
 obtain ⟨x, e1, e2⟩ := m1_inv hm
 refine sa B G H σ ρ x ρ' _ I e1 fun G1 H1 v I1 f1 r1 => ?_
 cases x <;> simp only [dNot] at e2 <;> try cases e2
 exact ⟨_, r1, k G1 H1 _ I1 f1 rfl⟩
noncomputable def eIf (c : MT) (a b : ME) : ME := fun ρ => (c ρ).bind fun p => if p.1 then a p.2 else b p.2
end
noncomputable def zdG (f g : D -> D -> Option D) (a b c : ME) : ME := fun ρ => (a ρ).bind fun p => (b p.2).bind fun q => (f p.1 q.1).bind fun t => match t with
 | .bl true => (c q.2).bind fun r => (g q.1 r.1).map fun d => (d, r.2)
 | .bl false => some (.bl false, q.2)
 | _ => none
section
variable {X : Cx} {a b c : Expr} {ma mb mc : ME} {pos : Pos}
theorem ziz {r r' : R2} {f g : D -> D -> Option D} {ta tb tc : TE} (hv : V2 X r f) (hw : V2 X r' g)
  (sa : ∀ B G H σ ρ d ρ' (Q : VK), SI X.K B G H σ ρ -> ma ρ = some (d, ρ') -> (∀ G' H' v, SI X.K B G' H' σ ρ' -> Fz G G' -> RepD X.K G' v d -> Q v H') -> ta σ H Q)
  (sb : ∀ B G H σ ρ d ρ' (Q : VK), SI X.K B G H σ ρ -> mb ρ = some (d, ρ') -> (∀ G' H' v, SI X.K B G' H' σ ρ' -> Fz G G' -> RepD X.K G' v d -> Q v H') -> tb σ H Q)
  (sc : ∀ B G H σ ρ d ρ' (Q : VK), SI X.K B G H σ ρ -> mc ρ = some (d, ρ') -> (∀ G' H' v, SI X.K B G' H' σ ρ' -> Fz G G' -> RepD X.K G' v d -> Q v H') -> tc σ H Q) :
  ∀ B G H σ ρ d ρ' (Q : VK), SI X.K B G H σ ρ -> zdG f g ma mb mc ρ = some (d, ρ') -> (∀ G' H' v, SI X.K B G' H' σ ρ' -> Fz G G' -> RepD X.K G' v d -> Q v H') -> zoR r r' ta tb tc σ H Q := by
 intro B G H σ ρ d ρ' Q I hm k
 obtain ⟨⟨x, ρ1⟩, e1, h1⟩ := zah hm
 obtain ⟨⟨y, ρ2⟩, e2, h2⟩ := zah h1
 obtain ⟨t, e3, h3⟩ := zah h2
 refine sa B G H σ ρ x ρ1 _ I e1 fun G1 H1 v I1 f1 r1 => sb B G1 H1 σ ρ1 y ρ2 _ I1 e2 fun G2 H2 u I2 f2 r2 => hv B G2 H2 σ ρ2 v u x y t _ I2 (r1.mono f2) r2 e3 fun G3 H3 z I3 f3 r3 => ?_
 cases t <;> try cases h3
 rename_i t
 refine ⟨t, r3, ?_⟩
 cases t with
 | true =>
  obtain ⟨⟨w, ρ3⟩, e4, h4⟩ := zah h3
  obtain ⟨d', e5, e6⟩ := zaA h4
  cases e6
  exact sc B G3 H3 σ ρ2 w ρ3 _ I3 e4 fun G4 H4 s I4 f4 r4 => hw B G4 H4 σ ρ3 u s y w d Q I4 (r2.mono (f3.trans f4)) r4 e5 fun G5 H5 z5 I5 f5 r5 => k G5 H5 z5 I5 (f1.trans (f2.trans (f3.trans (f4.trans f5)))) r5
 | false => cases h3; exact k G3 H3 _ I3 (f1.trans (f2.trans f3)) rfl
theorem zhE {r r' : R2} {f g : D -> D -> Option D} (ho : OpR X (compareOp op) r) (ho' : OpR X (compareOp op') r') (hv : V2 X r f) (hw : V2 X r' g) (ha : SE X a ma) (hb : SE X b mb) (hc : SE X c mc)
  (hm : lastMarks [op, op'] [b, c] = false := by with_unfolding_all rfl) : SE X (.Compare a [op, op'] [b, c] pos) (zdG f g ma mb mc) := by
 obtain ⟨ta, pa, sa⟩ := ha
 obtain ⟨tb, pb, sb⟩ := hb
 obtain ⟨tc, pc, sc⟩ := hc
 exact ⟨_, pe_chain ho ho' pa pb pc hm, ziz hv hw sa sb sc⟩
theorem zkf {r r' : R2} {f g : D -> D -> Option D} (ho : OpR X (compareOp op) r) (ho' : OpR X (compareOp op') r') (hv : V2 X r f) (hw : V2 X r' g) (hB : ∀ x y d, g x y = some d -> ∃ t, d = .bl t) (ha : SE X a ma) (hb : SE X b mb) (hc : SE X c mc)
  (hm : lastMarks [op, op'] [b, c] = false := by with_unfolding_all rfl) : STt X (.Compare a [op, op'] [b, c] pos) (tTru (zdG f g ma mb mc)) := by
 obtain ⟨ta, pa, sa⟩ := ha
 obtain ⟨tb, pb, sb⟩ := hb
 obtain ⟨tc, pc, sc⟩ := hc
 refine ⟨_, pt_chain ho ho' pa pb pc hm, fun B G H σ ρ d ρ' Q I hm k => ?_⟩
 obtain ⟨⟨x, ρ1⟩, e1, e2⟩ := zah hm
 obtain ⟨t, e3, e4⟩ := zaA e2
 obtain ⟨rfl, rfl⟩ := Prod.mk.inj e4
 have hx : ∃ t', x = .bl t' := by
  obtain ⟨⟨x', ρ1'⟩, _, h1⟩ := zah e1
  obtain ⟨⟨y', ρ2'⟩, _, h2⟩ := zah h1
  obtain ⟨t', et', h3⟩ := zah h2
  clear et'
  cases t' <;> try cases h3
  rename_i t'
  cases t' with
  | true =>
   obtain ⟨⟨w, ρ3⟩, e4, h4⟩ := zah h3
   obtain ⟨d', e5, e6⟩ := zaA h4
   cases e6
   exact hB _ _ _ e5
  | false => cases h3; exact ⟨_, rfl⟩
 obtain ⟨t', rfl⟩ := hx
 obtain rfl : t' = t := Option.some.inj e3
 refine ziz hv hw sa sb sc B G H σ ρ (.bl t') ρ1 _ I e1 fun G1 H1 v I1 f1 r1 => ?_
 cases (show v = V.bl t' from r1)
 exact ⟨t', rfl, k G1 H1 I1 f1⟩
end
inductive Fl where
 | next | brk | cont | ret (r : Sl)
noncomputable abbrev MS := R -> Option (Fl × R)
noncomputable def ResOk (K : W.Frag) (B : Bs) (G H : Hp) (v : V) : Sl -> Prop
 | .val d => RepD K G v d
 | .own ds => ∃ l xs, v = .ref l /\ G l = none /\ H l = some (.lst xs) /\ RepL K G xs ds /\ B.H l = none
 | .tre t => ∃ A, RepT K G H v t A /\ A.Nodup /\ ∀ a ∈ A, G a = none /\ B.H a = none
 | .two ds es => ∃ t l xs m ys, v = .ref t /\ H t = some (.tup [.ref l, .ref m]) /\ l ≠ m /\ G l = none /\ H l = some (.lst xs) /\ RepL K G xs ds /\ B.H l = none /\ G m = none /\ H m = some (.lst ys) /\ RepL K G ys es /\ B.H m = none
 | _ => False
noncomputable def Post (K : W.Frag) (B : Bs) (G : Hp) (E : Ends) (fl : Fl) (ρ' : R) : Prop := match fl with
 | .next => ∀ G' H' σ', SI K B G' H' σ' ρ' -> Fz G G' -> E.nx σ' H'
 | .brk => ∀ G' H' σ', SI K B G' H' σ' ρ' -> Fz G G' -> E.bk σ' H'
 | .cont => ∀ G' H' σ', SI K B G' H' σ' ρ' -> Fz G G' -> E.ct σ' H'
 | .ret r => ∀ G' H' σ' v, SI K B G' H' σ' ρ' -> Fz G G' -> ResOk K B G' H' v r -> E.rt v H'
theorem Post.mono {G G1 : Hp} {E : Ends} {fl : Fl} (h : Post K B G E fl ρ') (f : Fz G G1) : Post K B G1 E fl ρ' := by
 cases fl with
 | next => exact fun G' H' σ' I g => h G' H' σ' I (f.trans g)
 | brk => exact fun G' H' σ' I g => h G' H' σ' I (f.trans g)
 | cont => exact fun G' H' σ' I g => h G' H' σ' I (f.trans g)
 | ret r => exact fun G' H' σ' v I g => h G' H' σ' v I (f.trans g)
noncomputable def SS (X : Cx) (st : Stmt) (m : MS) : Prop := ∃ t, PS X st t /\ ∀ B G H σ ρ fl ρ' (E : Ends), SI X.K B G H σ ρ -> m ρ = some (fl, ρ') -> Post X.K B G E fl ρ' -> t E σ H
noncomputable def SSs (X : Cx) (st : List Stmt) (m : MS) : Prop := ∃ t, PSs X st t /\ ∀ B G H σ ρ fl ρ' (E : Ends), SI X.K B G H σ ρ -> m ρ = some (fl, ρ') -> Post X.K B G E fl ρ' -> t E σ H
noncomputable def zbo : MS := fun ρ => some (.next, ρ)
noncomputable def sSeq (a b : MS) : MS := fun ρ => (a ρ).bind fun p => match p.1 with
 | .next => b p.2
 | f => some (f, p.2)
section
variable {X : Cx} {st : Stmt} {rest : List Stmt} {m n : MS} {e : Expr} {me : ME} {pos : Pos}
theorem zaB : SSs X [] zbo := ⟨_, pss_nil, fun B G H σ ρ fl ρ' E I hm k => by cases hm; exact k G H σ I (Fz.refl G)⟩
theorem zaj (h : SS X st m) : SSs X [st] m := let ⟨t, p, s⟩ := h; ⟨t, pss_one p, s⟩
theorem zaf (h : SS X st m) (hr : SSs X rest n) : SSs X (st :: rest) (sSeq m n) := by
 obtain ⟨t, p, s⟩ := h
 obtain ⟨u, q, z⟩ := hr
 refine ⟨_, pss_cons p q, fun B G H σ ρ fl ρ' E I hm k => ?_⟩
 obtain ⟨⟨f, ρ1⟩, e1, e2⟩ := zah hm
 refine s B G H σ ρ f ρ1 _ I e1 ?_
 cases f with
 | next => exact fun G1 H1 σ1 I1 f1 => z B G1 H1 σ1 ρ1 fl ρ' E I1 e2 (k.mono f1)
 | brk => cases e2; exact k
 | cont => cases e2; exact k
 | ret r => cases e2; exact k
noncomputable def sRet (m : ME) : MS := fun ρ => (m ρ).map fun p => (.ret (.val p.1), p.2)
theorem zav (h : SE X e me) : SS X (.Return (some e) pos) (sRet me) := by
 obtain ⟨t, p, s⟩ := h
 refine ⟨_, znE p, fun B G H σ ρ fl ρ' E I hm k => ?_⟩
 obtain ⟨⟨d, ρ1⟩, e1, e2⟩ := zaA hm
 cases e2
 exact s B G H σ ρ d ρ1 _ I e1 fun G1 H1 v I1 f1 r1 => k G1 H1 σ v I1 f1 r1
noncomputable def zi9 (m : MO) : MS := fun ρ => (m ρ).map fun p => (.ret (.own p.1), p.2)
theorem zfI {mo : MO} (h : SO X e mo) : SS X (.Return (some e) pos) (zi9 mo) := by
 obtain ⟨t, p, s⟩ := h
 refine ⟨_, znE p, fun B G H σ ρ fl ρ' E I hm k => ?_⟩
 obtain ⟨⟨d, ρ1⟩, e1, e2⟩ := zaA hm
 cases e2
 exact s B G H σ ρ d ρ1 _ I e1 fun G1 H1 l xs I1 f1 g1 h1 r1 b1 _ => k G1 H1 σ _ I1 f1 ⟨l, xs, rfl, g1, h1, r1, b1⟩
theorem SI.emp (I : SI K B G H σ ρ) (i : Nat) : SI K B G H σ (ρ.set i .emp) := by
 by_cases hi : i < ρ.length
 ·have hs : σ[i]? = some (σ[i]'(by rw [I.len]; exact hi)) := List.getElem?_eq_getElem _
  have h := I.chg (i := i) (ov := σ[i]'(by rw [I.len]; exact hi)) (s' := .emp) I.fz (Fz.refl G) I.new I.keep I.there (fun _ _ _ _ _ _ g _ => ⟨g, rfl, id⟩) trivial
  rwa [zmc hs] at h
 ·rw [List.set_eq_of_length_le (by lia)]; exact I
noncomputable def zii (i : Nat) : MS := fun ρ => match ρ[i]? with
 | some (.val d) => some (.ret (.val d), ρ)
 | some (.own ds) => some (.ret (.own ds), ρ.set i .emp)
 | _ => none
theorem zea (i : Nat) (hN : X.N[i]? = some x := by rfl) (hv : Vis X.env.scope x := by first | exact Or.inl rfl | exact Or.inr (Or.inl rfl) | exact Or.inr (Or.inr rfl)) (hd : (x == ("__debug__" : Str)) = false := by decide)
  (hcd : (x == ("__classdict__" : Str)) = false := by decide) : SS X (.Return (some (.Name x pos')) pos) (zii i) := by
 refine ⟨_, znE (zgs hN hv hd hcd), fun B G H σ ρ fl ρ' E I hm k => ?_⟩
 unfold zii at hm
 cases e : ρ[i]? with
 | none => rw [e] at hm; cases hm
 | some s =>
  rw [e] at hm
  have h := I.slot i s e
  cases s with
  | emp => cases hm
  | two _ _ => cases hm
  | tre _ => cases hm
  | ptr _ => cases hm
  | par ds => cases hm
  | val d => cases hm; obtain ⟨v, h1, h2⟩ := h; exact ⟨v, h1, k G H σ v I (Fz.refl G) h2⟩
  | own ds =>
   cases hm
   obtain ⟨l, xs, h1, h2, h3, h4, h5⟩ := h
   exact ⟨.ref l, h1, k G H σ _ (I.emp i) (Fz.refl G) ⟨l, xs, rfl, h2, h3, h4, h5⟩⟩
noncomputable def sIf (c : MT) (a b : MS) : MS := fun ρ => (c ρ).bind fun p => if p.1 then a p.2 else b p.2
theorem zbv {c : Expr} {a b : List Stmt} {mc : MT} {ma mb : MS} (hc : STt X c mc) (ha : SSs X a ma) (hb : SSs X b mb) : SS X (.If c a b pos) (sIf mc ma mb) := by
 obtain ⟨tc, pc, sc⟩ := hc
 obtain ⟨ta, pa, sa⟩ := ha
 obtain ⟨tb, pb, sb⟩ := hb
 refine ⟨_, ps_if pc pa pb, fun B G H σ ρ fl ρ' E I hm k => ?_⟩
 obtain ⟨⟨x, ρ1⟩, e1, e2⟩ := zah hm
 refine sc B G H σ ρ x ρ1 _ I e1 fun G1 H1 I1 f1 => ?_
 cases x with
 | true => exact sa B G1 H1 σ ρ1 fl ρ' E I1 e2 (k.mono f1)
 | false => exact sb B G1 H1 σ ρ1 fl ρ' E I1 e2 (k.mono f1)
end
noncomputable def SG (X : Cx) (tg : Expr) (g : D -> R -> Option R) : Prop := ∃ t, PG X tg t /\ ∀ B G H σ ρ v d ρ' (Q : St -> Hp -> Prop), SI X.K B G H σ ρ -> RepD X.K G v d -> g d ρ = some ρ' -> (∀ G' H' σ', SI X.K B G' H' σ' ρ' -> Fz G G' -> Q σ' H') -> t v σ H Q
noncomputable def SGs (X : Cx) (tgs : List Expr) (g : List D -> R -> Option R) : Prop := ∃ t, PGs X tgs t /\ ∀ B G H σ ρ vs ds ρ' (Q : St -> Hp -> Prop), SI X.K B G H σ ρ -> RepL X.K G vs ds -> g ds ρ = some ρ' -> (∀ G' H' σ', SI X.K B G' H' σ' ρ' -> Fz G G' -> Q σ' H') -> t vs σ H Q
noncomputable def gN (i : Nat) : D -> R -> Option R := fun d ρ => some (ρ.set i (.val d))
noncomputable def zdS : List D -> R -> Option R := fun ds ρ => match ds with
 | [] => some ρ
 | _ => none
noncomputable def zaH (g : D -> R -> Option R) (h : List D -> R -> Option R) : List D -> R -> Option R := fun ds ρ => match ds with
 | d :: ds => (g d ρ).bind fun ρ1 => h ds ρ1
 | [] => none
noncomputable def gT (n : Nat) (g : List D -> R -> Option R) : D -> R -> Option R := fun d ρ => match d with
 | .tup ds => if ds.length = n then g ds ρ else none
 | _ => none
section
variable {X : Cx} {pos : Pos}
theorem zam (i : Nat) (hN : X.N.Nodup) (hi : X.N[i]? = some x := by rfl) (hx : Loc X.env.scope x := by first | exact Or.inl rfl | exact Or.inr rfl) (hf : X.fn x = true \/ X.env.scope.names.lookup x = some .local := by first | exact Or.inl rfl | exact Or.inr rfl) : SG X (.Name x pos) (gN i) :=
 ⟨_, zl0 hN hi hx hf, fun B G H σ ρ v d ρ' Q I r hm k => by cases hm; exact k G H _ (I.set r) (Fz.refl G)⟩
theorem zby : SGs X [] zdS := ⟨_, zoX, fun B G H σ ρ vs ds ρ' Q I r hm k => by
 cases ds with
 | nil => cases hm; exact ⟨r, k G H σ I (Fz.refl G)⟩
 | cons => cases hm⟩
theorem zau {e : Expr} (h1 : SG X e g) (h2 : SGs X es h) (hs : (assignEach (e :: es) X.env).map (·.2) = assign e X.env :: (assignEach es X.env).map (·.2) := by rfl) : SGs X (e :: es) (zaH g h) := by
 obtain ⟨t, p, s⟩ := h1
 obtain ⟨u, q, z⟩ := h2
 refine ⟨_, zmK p q hs, fun B G H σ ρ vs ds ρ' Q I r hm k => ?_⟩
 cases ds with
 | nil => cases hm
 | cons d ds =>
  obtain ⟨x, ys, rfl, rx, ry⟩ := r
  obtain ⟨ρ1, e1, e2⟩ := zah hm
  exact ⟨x, ys, rfl, s B G H σ ρ x d ρ1 _ I rx e1 fun G1 H1 σ1 I1 f1 => z B G1 H1 σ1 ρ1 ys ds ρ' Q I1 (ry.mono f1) e2 fun G2 H2 σ2 I2 f2 => k G2 H2 σ2 I2 (f1.trans f2)⟩
theorem zcx {g : List D -> R -> Option R} (hc : X.calm = true) (h : SGs X es g) (hn : (assignEach es X.env).length = n := by rfl) (hst : (assignEach es X.env).findIdx? (·.1) = none := by rfl) : SG X (.Tuple es k pos) (gT n g) := by
 obtain ⟨t, p, s⟩ := h
 refine ⟨_, pg_tup hc p hn hst, fun B G H σ ρ v d ρ' Q I r hm k => ?_⟩
 cases d <;> try cases hm
 rename_i ds
 simp only [gT] at hm
 split at hm
 ·rename_i hl
  obtain ⟨a, xs, e, ha, rx⟩ := I.tup r
  exact ⟨a, xs, e, SqT.of ha, by rw [rx.length]; exact hl, s B G H σ ρ xs ds ρ' Q I rx hm k⟩
 ·cases hm
variable {e tg : Expr} {me : ME} {mo : MO}
noncomputable def sAsg (m : ME) (g : D -> R -> Option R) : MS := fun ρ => (m ρ).bind fun p => (g p.1 p.2).map fun ρ' => (.next, ρ')
theorem ss_asg (he : SE X e me) (hg : SG X tg g) (hs : swapsWithSole [tg] e pos.line X.env = pure false := by rfl) (hw : swappedStores [tg] e X.env = pure none := by rfl)
  (h1 : (assignEach [tg] X.env).map (·.2) = [assign tg X.env] := by rfl) : SS X (.Assign [tg] e pos) (sAsg me g) := by
 obtain ⟨t, p, s⟩ := he
 obtain ⟨u, q, z⟩ := hg
 refine ⟨_, zoM p q hs hw h1, fun B G H σ ρ fl ρ' E I hm k => ?_⟩
 obtain ⟨⟨d, ρ1⟩, e1, h2⟩ := zah hm
 obtain ⟨ρ2, e2, e3⟩ := zaA h2
 obtain ⟨rfl, rfl⟩ := Prod.mk.inj e3
 exact s B G H σ ρ d ρ1 _ I e1 fun G1 H1 v I1 f1 r1 => z B G1 H1 σ ρ1 v d ρ2 _ I1 r1 e2 fun G2 H2 σ2 I2 f2 => k G2 H2 σ2 I2 (f1.trans f2)
noncomputable def sSet (i : Nat) (m : ME) : MS := fun ρ => (m ρ).map fun p => (.next, p.2.set i (.val p.1))
theorem zas (i : Nat) (he : SE X e me) (hN : X.N.Nodup) (hi : X.N[i]? = some x := by rfl) (hx : Loc X.env.scope x := by first | exact Or.inl rfl | exact Or.inr rfl) (hs : swapsWith e (some (.Name x pos')) pos.line X.env = pure false := by rfl)
    (hf : X.fn x = true \/ X.env.scope.names.lookup x = some .local := by first | exact Or.inl rfl | exact Or.inr rfl) : SS X (.Assign [.Name x pos'] e pos) (sSet i me) := by
  obtain ⟨t, p, s⟩ := he
  refine ⟨_, ps_set hN hi hx p hs hf, fun B G H σ ρ fl ρ' E I hm k => ?_⟩
  obtain ⟨⟨d, ρ1⟩, e1, e3⟩ := zaA hm
  cases e3
  exact s B G H σ ρ d ρ1 _ I e1 fun G1 H1 v I1 f1 r1 => k G1 H1 _ (I1.set r1) f1
noncomputable def zeY (i : Nat) (m : MO) : MS := fun ρ => (m ρ).map fun p => (.next, p.2.set i (.own p.1))
theorem zdR (i : Nat) (he : SO X e mo) (hN : X.N.Nodup) (hi : X.N[i]? = some x := by rfl) (hx : Loc X.env.scope x := by first | exact Or.inl rfl | exact Or.inr rfl) (hs : swapsWith e (some (.Name x pos')) pos.line X.env = pure false := by rfl)
    (hf : X.fn x = true \/ X.env.scope.names.lookup x = some .local := by first | exact Or.inl rfl | exact Or.inr rfl) : SS X (.Assign [.Name x pos'] e pos) (zeY i mo) := by
  obtain ⟨t, p, s⟩ := he
  refine ⟨_, ps_set hN hi hx p hs hf, fun B G H σ ρ fl ρ' E I hm k => ?_⟩
  obtain ⟨⟨d, ρ1⟩, e1, e3⟩ := zaA hm
  cases e3
  exact s B G H σ ρ d ρ1 _ I e1 fun G1 H1 l xs I1 f1 g1 h1 r1 b1 n1 => k G1 H1 _ (I1.setO g1 h1 r1 b1 n1) f1
noncomputable def sApp (i : Nat) (m : ME) : MS := fun ρ => if (ρ[i]?.bind Sl.items).isSome then (m ρ).bind fun p => p.2[i]?.bind fun s => s.items.bind fun ds => if ds.length < 16777216 then some (.next, p.2.set i (s.put (ds ++ [p.1]))) else none else none
theorem zjB (i : Nat) {pos' apos cpos : Pos} (he : SE X e me) (hN : X.N[i]? = some x := by rfl) (hv : Vis X.env.scope x := by first | exact Or.inl rfl | exact Or.inr (Or.inl rfl) | exact Or.inr (Or.inr rfl)) (hd : (x == ("__debug__" : Str)) = false := by decide)
  (hcd : (x == ("__classdict__" : Str)) = false := by decide)
  (hbase : attributeBase (.Name x pos') "append" X.env (eval (.Name x pos') X.env) = eval (.Name x pos') X.env := by rfl)
  (hfew : ((backTo cpos (starEach [e] X.env)).all (fun x => !x.1) && (backToKw cpos (keywordEach [] X.env)).all (fun x => x.1.isSome)
   && decide ([e].length + ([] : List Keyword).length + (if ([] : List Keyword).isEmpty then 0 else 1) < 30)) = true := by rfl)
  (hline : (apos.endLine == cpos.line) = true := by rfl) (hs : starEach [e] X.env = (false, eval e X.env) :: starEach [] X.env := by rfl) : SS X (.Expr (.Call (.Attribute (.Name x pos') "append" apos) [e] [] cpos) pos) (sApp i me) := by
 obtain ⟨t, p, s⟩ := he
 refine ⟨_, ps_expr (pe_bm PySem.F.plainAttrs_list PySem.F.slot_list_append PySem.F.type_list_append zlx (zgs hN hv hd hcd) (zds p zjv hs) hbase hfew hline hs rfl) (by rfl), fun B G H σ ρ fl ρ' E I hm k => ?_⟩
 unfold sApp at hm
 split at hm
 ·rename_i hso
  obtain ⟨ds0, hso⟩ := Option.isSome_iff_exists.mp hso
  obtain ⟨s0, e0, q0⟩ := zah hso
  obtain ⟨l, xs0, h1, h2, h3, h4⟩ := I.wr e0 q0
  obtain ⟨⟨d, ρ1⟩, e1, hm⟩ := zah hm
  obtain ⟨s1, e2, hm⟩ := zah hm
  obtain ⟨ds, e3, hm⟩ := zah hm
  split at hm
  ·rename_i hl
   cases hm
   refine ⟨.ref l, h1, .inl ⟨rfl, _, SqL.of h3⟩, s B G H σ ρ d ρ1 _ I e1 fun G1 H1 v I1 f1 r1 => ?_⟩
   obtain ⟨l', xs, k1, k2, k3, k4⟩ := I1.wr e2 e3
   rw [h1] at k1; cases k1
   refine ⟨l, xs, v, rfl, rfl, k3, by rw [k4.length, sizeLine_eq]; exact hl, ?_⟩
   exact k G1 _ σ (I1.write e2 e3 h1 (k4.snoc r1)) f1
  ·cases hm
 ·cases hm
noncomputable def sPut (j : Nat) (mi me : ME) : MS := fun ρ => (me ρ).bind fun p => if hasV p.2 j then (mi p.2).bind fun q => match q.1 with
 | .int k => q.2[j]?.bind fun s => s.items.bind fun ds => (ixN ds.length k).bind fun n => some (.next, q.2.set j (s.put (ds.set n p.1)))
 | _ => none else none
theorem zgk (j : Nat) {i : Expr} {mi : ME} {pos' tpos : Pos} (he : SE X e me) (hi : SE X i mi) (hN : X.N[j]? = some x := by rfl) (hv : Vis X.env.scope x := by first | exact Or.inl rfl | exact Or.inr (Or.inl rfl) | exact Or.inr (Or.inr rfl)) (hd : (x == ("__debug__" : Str)) = false := by decide)
  (hcd : (x == ("__classdict__" : Str)) = false := by decide)
  (ha : ∀ v, assign (.Subscript (.Name x pos') i tpos) X.env v = (do
   let ov <- holding [v] (eval (.Name x pos') X.env)
   let iv <- holding [v, ov] (eval i X.env)
   standAt tpos
   holding [v, ov, iv] (setItem ov iv v)
   release [v, ov, iv] []) := by exact fun _ => rfl)
  (hs : swapsWithSole [.Subscript (.Name x pos') i tpos] e pos.line X.env = pure false := by rfl) (hw : swappedStores [.Subscript (.Name x pos') i tpos] e X.env = pure none := by rfl)
  (h1 : (assignEach [.Subscript (.Name x pos') i tpos] X.env).map (·.2) = [assign (.Subscript (.Name x pos') i tpos) X.env] := by rfl) : SS X (.Assign [.Subscript (.Name x pos') i tpos] e pos) (sPut j mi me) := by
 obtain ⟨t, p, s⟩ := he
 obtain ⟨u, q, z⟩ := hi
 refine ⟨_, zoM p (pg_sub (zgs hN hv hd hcd) q set_list ha) hs hw h1, fun B G H σ ρ fl ρ' E I hm k => ?_⟩
 obtain ⟨⟨d, ρ1⟩, e1, hm⟩ := zah hm
 refine s B G H σ ρ d ρ1 _ I e1 fun G1 H1 v I1 f1 r1 => ?_
 split at hm
 ·rename_i hh
  obtain ⟨w, ew⟩ := I1.has hh
  obtain ⟨⟨kd, ρ2⟩, e2, hm⟩ := zah hm
  cases kd <;> try cases hm
  rename_i kk
  obtain ⟨s2, e3, hm⟩ := zah hm
  obtain ⟨ds, e4, hm⟩ := zah hm
  obtain ⟨n, e5, hm⟩ := zah hm
  cases hm
  refine ⟨w, ew, z B G1 H1 σ ρ1 (.int kk) ρ2 _ I1 e2 fun G2 H2 y I2 f2 r2 => ?_⟩
  obtain ⟨l, xs, k1, k2, k3, k4⟩ := I2.wr e3 e4
  rw [ew] at k1; cases k1
  refine ⟨l, xs, kk, n, rfl, r2, k3, by rw [k4.length]; exact e5, ?_⟩
  exact k G2 _ σ (I2.write e3 e4 ew (k4.set n (r1.mono f2))) (f1.trans f2)
 ·cases hm
end
structure Itm (K : W.Frag) (J : It) (G : Hp) (items : List D) : Prop where
 go : ∀ H i, Fz G H -> i < items.length -> J.go i H
 yld : ∀ H i x H', Fz G H -> J.yld i H x H' -> ∀ d, items[i]? = some d -> (H' = H /\ RepD K G x d) \/ ∃ p xs ds, H p = none /\ H' = upd H p (.tup xs) /\ x = .ref p /\ d = .tup ds /\ RepL K G xs ds
 stop : ∀ H i, Fz G H -> items.length <= i -> J.stop i H
noncomputable def SIt (X : Cx) (tg it : Expr) (m : MA) : Prop := ∃ wi, PI X tg it wi /\ ∀ B G H σ ρ ds ρ' (Q : It -> Hp -> Prop), SI X.K B G H σ ρ -> m ρ = some (ds, ρ') -> (∀ J G' H', SI X.K B G' H' σ ρ' -> Fz G G' -> Itm X.K J G' ds -> Q J H') -> wi σ H Q
noncomputable def forM (f : D -> R -> Option (Fl × R)) : List D -> R -> Option (Fl × R)
 | [], ρ => some (.next, ρ)
 | d :: ds, ρ => (f d ρ).bind fun p => match p.1 with
  | .next => forM f ds p.2
  | .cont => forM f ds p.2
  | .brk => some (.next, p.2)
  | .ret r => some (.ret r, p.2)
noncomputable def sFor (mi : MA) (g : D -> R -> Option R) (mb : MS) : MS := fun ρ => (mi ρ).bind fun p => forM (fun d ρ => (g d ρ).bind fun ρ' => mb ρ') p.1 p.2
theorem SI.yld {x : V} (I : SI K B G H σ ρ)
  (h : (H' = H /\ RepD K G x d) \/ ∃ p xs ds, H p = none /\ H' = upd H p (.tup xs) /\ x = .ref p /\ d = .tup ds /\ RepL K G xs ds) : ∃ G', SI K B G' H' σ ρ /\ Fz G G' /\ RepD K G' x d := by
 rcases h with ⟨rfl, r⟩ | ⟨p, xs, ds, hp, rfl, rfl, rfl, r⟩
 ·exact ⟨G, I, Fz.refl G, r⟩
 ·obtain ⟨I2, f2, r2⟩ := I.newT hp r
  exact ⟨_, I2, f2, r2⟩
theorem zdj {tg it : Expr} {mi : MA} {mb : MS} {pos : Pos} (hp : PassesOwn (model X.prog X.w) X.A X.env X.xe) (hc : X.calm = true) (hi : SIt X tg it mi) (hg : SG X tg g) (hb : SSs X body mb)
    (hs : ∀ x, foldedSetIterable it X.env x = pure x := by exact fun _ => rfl) : SS X (.For tg it body [] pos) (sFor mi g mb) := by
  obtain ⟨wi, pi, si⟩ := hi
  obtain ⟨tg', pg, sg⟩ := hg
  obtain ⟨tb, pb, sb⟩ := hb
  refine ⟨_, ps_for hp hc pi pg pb hs, fun B G H σ ρ fl ρ' E I hm k => ?_⟩
  obtain ⟨⟨ds, ρ1⟩, e1, hm⟩ := zah hm
  refine si B G H σ ρ ds ρ1 _ I e1 fun J G1 H1 I1 f1 IT => ?_
  refine ⟨fun i m σ H => m = ds.length - i /\ i <= ds.length /\ ∃ G2 ρ2, SI X.K B G2 H σ ρ2 /\ Fz G1 G2 /\ forM (fun d ρ => (g d ρ).bind fun ρ' => mb ρ') (ds.drop i) ρ2 = some (fl, ρ'), ⟨ds.length, by simp, Nat.zero_le _, G1, ρ1, I1, Fz.refl _, by simpa using hm⟩, ?_⟩
  rintro i m σ2 H2 ⟨rfl, hi, G2, ρ2, I2, f2, e2⟩
  by_cases hlt : i < ds.length
  . rw [List.drop_eq_getElem_cons hlt] at e2
    simp only [forM] at e2
    obtain ⟨⟨f, ρ3⟩, e3, e4⟩ := zah e2
    obtain ⟨ρ2', e5, e6⟩ := zah e3
    have fz2 : Fz G1 H2 := f2.trans I2.fz
    refine .inr ⟨IT.go H2 i fz2 hlt, fun σ' H' => (∃ G3, SI X.K B G3 H' σ' ρ3 /\ Fz G1 G3) /\ (f = .next \/ f = .cont), ?_, fun x H' y => ?_⟩
    . rintro σ' H' ⟨⟨G3, I3, f3⟩, hf⟩
      refine ⟨ds.length - (i + 1), by lia, rfl, hlt, G3, ρ3, I3, f3, ?_⟩
      rcases hf with rfl | rfl <;> exact e4
    . have yy := IT.yld H2 i x H' fz2 y ds[i] (List.getElem?_eq_getElem hlt)
      have yy2 : (H' = H2 /\ RepD X.K G2 x ds[i]) \/ ∃ p xs es, H2 p = none /\ H' = upd H2 p (.tup xs) /\ x = .ref p /\ ds[i] = .tup es /\ RepL X.K G2 xs es := by
        rcases yy with ⟨a, b⟩ | ⟨p, xs, es, a, b, c, d, e⟩
        . exact .inl ⟨a, b.mono f2⟩
        . exact .inr ⟨p, xs, es, a, b, c, d, e.mono f2⟩
      obtain ⟨G3, I3, f3, r3⟩ := I2.yld yy2
      refine sg B G3 H' σ2 ρ2 x ds[i] ρ2' _ I3 r3 e5 fun G4 H4 σ4 I4 f4 => sb B G4 H4 σ4 ρ2' f ρ3 _ I4 e6 ?_
      have ff : Fz G1 G4 := f2.trans (f3.trans f4)
      cases f with
      | next => exact fun G5 H5 σ5 I5 f5 => ⟨⟨G5, I5, ff.trans f5⟩, .inl rfl⟩
      | cont => exact fun G5 H5 σ5 I5 f5 => ⟨⟨G5, I5, ff.trans f5⟩, .inr rfl⟩
      | brk => cases e4; exact fun G5 H5 σ5 I5 f5 => k G5 H5 σ5 I5 (f1.trans (ff.trans f5))
      | ret r => cases e4; exact fun G5 H5 σ5 v I5 f5 => k G5 H5 σ5 v I5 (f1.trans (ff.trans f5))
  . have e : i = ds.length := by lia
    subst e
    rw [List.drop_length] at e2
    cases e2
    exact .inl ⟨IT.stop H2 _ (f2.trans I2.fz) (Nat.le_refl _), k G2 H2 σ2 I2 (f1.trans f2)⟩
section
variable {X : Cx} {tg it : Expr} {me : ME}
noncomputable def iSeq (m : ME) : MA := fun ρ => (m ρ).bind fun p => (zaL [p.1]).map fun ds => (ds, p.2)
theorem pi_or {l : Expr} {tl : TE} (hl : PE X l tl) : PI X tg l (fun σ H R => tl σ H fun x H1 => ∃ a, x = .ref a /\ (((∃ xs, SqL X.K H1 a xs) /\ R (Itl X.K a) H1) \/ ((∃ xs, SqT X.K H1 a xs) /\ R (Itt X.K a) H1))) := by
 intro pins s σ H R I h
 refine thn (hl pins s σ H _ I h) fun v s1 ⟨x, H1, I1, r1, q1⟩ => ?_
 obtain ⟨a, e, q⟩ := q1
 subst e
 cases r1
 rcases q with ⟨⟨xs, hq⟩, q⟩ | ⟨⟨xs, hq⟩, q⟩
 ·obtain ⟨its, rv, p, hz⟩ := I1.list hq
  refine wpAny_pyIter_list p.isList ?_
  refine ⟨s1.heap.objs.size, [s1.heap.objs.size], _, _, H1, rfl, I1.kept (t' := s1.toks) fun b o e => Heap.get?_push_of_some _ e, zoN a _, ⟨_, Heap.get?_push_size _ rfl, rfl, rfl⟩, fun b hb => ?_, q⟩
  have e : b = s1.heap.objs.size := by simpa using hb
  subst e
  exact I1.fpOk (Nat.le_refl _) (I1.hok.fresh (Nat.le_refl _))
 ·obtain ⟨its, rv, p, hz⟩ := I1.tuple hq
  refine wpAny_pyIter_tuple (show s1.heap.IsTuple a its.toArray from p) ?_
  refine ⟨s1.heap.objs.size, [s1.heap.objs.size], _, _, H1, rfl, I1.kept (t' := s1.toks) fun b o e => Heap.get?_push_of_some _ e, znk a _, ⟨_, Heap.get?_push_size _ rfl, rfl, rfl⟩, fun b hb => ?_, q⟩
  have e : b = s1.heap.objs.size := by simpa using hb
  subst e
  exact I1.fpOk (Nat.le_refl _) (I1.hok.fresh (Nat.le_refl _))
theorem zmU {a : Addr} (hg : SqL K G a xs) (r : RepL K G xs ds) : Itm K (Itl K a) G ds where
 go := fun H i f hi => by
  have hl := r.length
  exact ⟨xs, xs[i], f.sql hg, List.getElem?_eq_getElem (by lia)⟩
 yld := fun H i x H' f y d e => by
  obtain ⟨rfl, y⟩ := y
  have hx := y xs (f.sql hg)
  obtain ⟨x', h1, h2⟩ := r.get e
  rw [hx] at h1; cases h1
  exact .inl ⟨rfl, h2⟩
 stop := fun H i f hi => ⟨xs, f.sql hg, by rw [r.length]; exact hi⟩
theorem itm_tup {a : Addr} (hg : G a = some (.tup xs)) (r : RepL K G xs ds) : Itm K (Itt K a) G ds where
 go := fun H i f hi => by
  have hl := r.length
  exact ⟨xs, xs[i], SqT.of (f _ _ hg), List.getElem?_eq_getElem (by lia)⟩
 yld := fun H i x H' f y d e => by
  obtain ⟨rfl, y⟩ := y
  have hx := y xs (SqT.of (f _ _ hg))
  obtain ⟨x', h1, h2⟩ := r.get e
  rw [hx] at h1; cases h1
  exact .inl ⟨rfl, h2⟩
 stop := fun H i f hi => ⟨xs, SqT.of (f _ _ hg), by rw [r.length]; exact hi⟩
theorem za6 (h : SE X it me) : SIt X tg it (iSeq me) := by
 obtain ⟨t, p, s⟩ := h
 refine ⟨_, pi_or p, fun B G H σ ρ ds ρ' Q I hm k => ?_⟩
 obtain ⟨⟨d, ρ1⟩, e1, hm⟩ := zah hm
 obtain ⟨es, e2, e3⟩ := zaA hm
 cases e3
 refine s B G H σ ρ d ρ1 _ I e1 fun G1 H1 v I1 f1 r1 => ?_
 cases d <;> simp only [zaL] at e2 <;> try cases e2
 ·obtain ⟨a, xs, rfl, ha, r⟩ := r1
  exact ⟨a, rfl, .inl ⟨⟨xs, SqL.of (I1.fz _ _ ha)⟩, k _ G1 H1 I1 f1 (zmU (SqL.of ha) r)⟩⟩
 ·obtain ⟨a, xs, rfl, ha, r⟩ := r1
  exact ⟨a, rfl, .inr ⟨⟨xs, SqT.of (I1.fz _ _ ha)⟩, k _ G1 H1 I1 f1 (itm_tup ha r)⟩⟩
 ·obtain ⟨a, rfl, ha⟩ := r1
  exact ⟨a, rfl, .inl ⟨⟨_, I1.fz.sql ha⟩, k _ G1 H1 I1 f1 (zmU ha (RepL.ints _))⟩⟩
end
noncomputable def zcZ (lo : Int) (n : Nat) : List D := (List.range n).map fun (i : Nat) => D.int (lo + (i : Int))
theorem zld (lo : Int) (n : Nat) : Itm K (Itr lo n) G (zcZ lo n) where
 go := fun H i f hi => by show i < n; simpa [zcZ] using hi
 yld := fun H i x H' f y d e => by
  obtain ⟨rfl, rfl⟩ := y
  unfold zcZ at e
  rw [List.getElem?_map] at e
  cases q : (List.range n)[i]? with
  | none => rw [q] at e; cases e
  | some j =>
   rw [q] at e
   have hj : j = i := by
    have := List.getElem?_eq_some_iff.mp q
    obtain ⟨h1, h2⟩ := this
    simpa using h2.symm
   subst hj
   cases e
   exact .inl ⟨rfl, rfl⟩
 stop := fun H i f hi => by show n <= i; simpa [zcZ] using hi
noncomputable def zdO (j : Int) : Bool := decide (-1000000000000 <= j) && decide (j <= 1000000000000)
theorem zcL {j : Int} (h : zdO j = true) : -(2 ^ 62) <= j /\ j < 2 ^ 62 := by
 unfold zdO at h
 simp only [Bool.and_eq_true, decide_eq_true_eq] at h
 lia
noncomputable def iR1 (ma : MA) : MA := fun ρ => (ma ρ).bind fun p => match p.1 with
 | [.int j] => if zdO j then some (zcZ 0 j.toNat, p.2) else none
 | _ => none
noncomputable def iR2 (ma : MA) : MA := fun ρ => (ma ρ).bind fun p => match p.1 with
 | [.int i, .int j] => if zdO i && zdO j then some (zcZ i (j - i).toNat, p.2) else none
 | _ => none
section
variable {X : Cx} {tg a b : Expr} {ma : MA} {p pos : Pos}
theorem za2 (hm : X.mg "range" = none) (ha : SA X [a] ma) (hg : Gl X "range" := by rfl) (hs : starEach [a] X.env = [(false, eval a X.env)] := by rfl) : SIt X tg (.Call (.Name "range" p) [a] [] pos) (iR1 ma) := by
 obtain ⟨t, pa, sa⟩ := ha
 refine ⟨_, zoQ hg hm pa hs, fun B G H σ ρ ds ρ' Q I hm k => ?_⟩
 obtain ⟨⟨es, ρ1⟩, e1, h2⟩ := zah hm
 dsimp only at h2
 refine sa B G H σ ρ es ρ1 _ I e1 fun G1 H1 vs I1 f1 r1 => ?_
 split at h2
 ·rename_i j
  split at h2
  ·rename_i hj
   cases h2
   obtain ⟨x, rfl, rx⟩ := r1.one
   cases (show x = V.int j from rx)
   exact ⟨j, rfl, (zcL hj).1, (zcL hj).2, k _ G1 H1 I1 f1 (zld 0 _)⟩
  ·cases h2
 ·cases h2
theorem zhp (hm : X.mg "range" = none) (ha : SA X [a, b] ma) (hg : Gl X "range" := by rfl) (hs : starEach [a, b] X.env = [(false, eval a X.env), (false, eval b X.env)] := by rfl) (hs2 : starEach [b] X.env = [(false, eval b X.env)] := by rfl) : SIt X tg (.Call (.Name "range" p) [a, b] [] pos) (iR2 ma) := by
 obtain ⟨t, pa, sa⟩ := ha
 refine ⟨_, zon hg hm pa hs hs2, fun B G H σ ρ ds ρ' Q I hm k => ?_⟩
 obtain ⟨⟨es, ρ1⟩, e1, h2⟩ := zah hm
 dsimp only at h2
 refine sa B G H σ ρ es ρ1 _ I e1 fun G1 H1 vs I1 f1 r1 => ?_
 split at h2
 ·rename_i i j
  split at h2
  ·rename_i hj
   simp only [Bool.and_eq_true] at hj
   cases h2
   obtain ⟨x, y, rfl, rx, ry⟩ := r1.two
   cases (show x = V.int i from rx)
   cases (show y = V.int j from ry)
   exact ⟨i, j, rfl, ⟨(zcL hj.1).1, (zcL hj.1).2, (zcL hj.2).1, (zcL hj.2).2⟩, k _ G1 H1 I1 f1 (zld i _)⟩
  ·cases h2
 ·cases h2
end
noncomputable def ResF (K : W.Frag) (G' H' H : Hp) (v : V) : Sl -> Prop
 | .val d => RepD K G' v d
 | .own ds => ∃ l xs, v = .ref l /\ G' l = none /\ H' l = some (.lst xs) /\ RepL K G' xs ds /\ H l = none
 | .tre t => ∃ A, RepT K G' H' v t A /\ A.Nodup /\ ∀ a ∈ A, G' a = none /\ H a = none
 | .two ds es => ∃ t l xs m ys, v = .ref t /\ H' t = some (.tup [.ref l, .ref m]) /\ l ≠ m /\ G' l = none /\ H' l = some (.lst xs) /\ RepL K G' xs ds /\ H l = none /\ G' m = none /\ H' m = some (.lst ys) /\ RepL K G' ys es /\ H m = none
 | _ => False
noncomputable def spP (K : W.Frag) (n : Nat) (F : List D -> Option Sl) : Sp := fun vs H Q _ => ∃ G ds r, F ds = some r /\ ds.length = n /\ Fz G H /\ RepL K G vs ds /\
 ∀ G' H' v, Fz G G' -> Fz G' H' -> (∀ b o, G' b = some o -> G b ≠ none \/ H b = none) -> Fz H H' -> ResF K G' H' H v r -> Q v H'
noncomputable def spM (K : W.Frag) (n : Nat) (F : List D -> List D -> Option (Sl × List D)) : Sp := fun vs H Q _ => ∃ G l xs cs ws ds r out, vs = .ref l :: ws /\ F cs ds = some (r, out) /\ ds.length + 1 = n /\ Fz G H /\ G l = none /\ H l = some (.lst xs) /\ RepL K G xs cs /\ RepL K G ws ds /\
 ∀ G' H' v ys, Fz G G' -> Fz G' H' -> (∀ b o, G' b = some o -> G b ≠ none \/ H b = none) -> (∀ b o, b ≠ l -> H b = some o -> H' b = some o) -> G' l = none -> H' l = some (.lst ys) -> RepL K G' ys out -> ResF K G' H' H v r -> Q v H'
noncomputable def fP (N : Nat) (m : MS) : List D -> Option Sl := fun ds => (m (ds.map .val ++ List.replicate (N - ds.length) .emp)).bind fun p => match p.1 with
 | .ret r => some r
 | .next => some (.val .non)
 | _ => none
noncomputable def fM (N : Nat) (m : MS) : List D -> List D -> Option (Sl × List D) := fun cs ds => (m (.par cs :: (ds.map .val ++ List.replicate (N - (ds.length + 1)) .emp))).bind fun p => match p.1, (p.2[0]? : Option Sl) with
 | Fl.ret r, some (Sl.par out) => some (r, out)
 | Fl.next, some (Sl.par out) => some (.val .non, out)
 | _, _ => none
theorem ziB (h : vs.length <= N.length) : (L2.start N vs).length = N.length := by
 unfold L2.start
 rw [List.length_append, List.length_map, List.length_replicate]
 lia
theorem SI.start (fz : Fz G H) (r : RepL K G vs ds) (h : ds.length <= N.length) :
  SI K ⟨G, H, []⟩ G H (L2.start N vs) (ds.map .val ++ List.replicate (N.length - ds.length) .emp) where
 fz := fz
 g0 := Fz.refl G
 new := fun b o e => .inl (by show G b ≠ none; rw [e]; simp)
 keep := fun b o e _ => e
 there := fun b e => e
 ob := fun i b m => by cases m
 len := by rw [ziB (by rw [r.length]; exact h), List.length_append, List.length_map, List.length_replicate]; lia
 slot := fun i s e => by
  by_cases hi : i < ds.length
  ·rw [List.getElem?_append_left (by simpa using hi), List.getElem?_map, List.getElem?_eq_getElem hi] at e
   cases e
   obtain ⟨x, h1, h2⟩ := r.get (List.getElem?_eq_getElem hi)
   refine ⟨x, ?_, h2⟩
   unfold L2.start
   rw [List.getElem?_append_left (by rw [List.length_map, r.length]; exact hi), List.getElem?_map, h1]
   rfl
  ·rw [List.getElem?_append_right (by simpa using hi), List.getElem?_replicate] at e
   split at e
   ·cases e; trivial
   ·cases e
 dis := fun i j s _ a _ e _ w => by
  exfalso
  by_cases hi : i < ds.length
  ·rw [List.getElem?_append_left (by simpa using hi), List.getElem?_map, List.getElem?_eq_getElem hi] at e
   cases e; exact w
  ·rw [List.getElem?_append_right (by simpa using hi), List.getElem?_replicate] at e
   split at e
   ·cases e; exact w
   ·cases e
theorem SI.startM (fz : Fz G H) (hg : G l = none) (hl : H l = some (.lst xs)) (rc : RepL K G xs cs) (r : RepL K G vs ds) (h : ds.length + 1 <= N.length) :
  SI K ⟨G, H, [(0, l)]⟩ G H (L2.start N (.ref l :: vs)) (.par cs :: (ds.map .val ++ List.replicate (N.length - (ds.length + 1)) .emp)) where
 fz := fz
 g0 := Fz.refl G
 new := fun b o e => .inl (by show G b ≠ none; rw [e]; simp)
 keep := fun b o e _ => e
 there := fun b e => e
 ob := fun i b m => by
  have : b = l := ((by simpa using m) : i = 0 /\ b = l).2
  subst this
  show H b ≠ none
  rw [hl]; simp
 len := by
  have := r.length
  rw [ziB (by rw [List.length_cons, r.length]; exact h), List.length_cons, List.length_append, List.length_map, List.length_replicate]; lia
 slot := fun i s e => by
  cases i with
  | zero => simp at e; subst e; exact ⟨l, xs, rfl, hg, hl, rc, by simp⟩
  | succ i =>
   rw [List.getElem?_cons_succ] at e
   by_cases hi : i < ds.length
   ·rw [List.getElem?_append_left (by simpa using hi), List.getElem?_map, List.getElem?_eq_getElem hi] at e
    cases e
    obtain ⟨x, h1, h2⟩ := r.get (List.getElem?_eq_getElem hi)
    refine ⟨x, ?_, h2⟩
    unfold L2.start
    rw [List.map_cons, List.cons_append, List.getElem?_cons_succ, List.getElem?_append_left (by rw [List.length_map, r.length]; exact hi), List.getElem?_map, h1]
    rfl
   ·rw [List.getElem?_append_right (by simpa using hi), List.getElem?_replicate] at e
    split at e
    ·cases e; trivial
    ·cases e
 dis := fun i j s t a hij hi hj w1 w2 => by
  have z : ∀ (i : Nat) (s : Sl), (Sl.par cs :: (ds.map .val ++ List.replicate (N.length - (ds.length + 1)) .emp))[i]? = some s -> OwS K G H (L2.start N (.ref l :: vs))[i]? a s -> i = 0 := fun i s e q => by
   cases i with
   | zero => rfl
   | succ i =>
    exfalso
    rw [List.getElem?_cons_succ] at e
    by_cases hi : i < ds.length
    ·rw [List.getElem?_append_left (by simpa using hi), List.getElem?_map, List.getElem?_eq_getElem hi] at e
     cases e; exact q
    ·rw [List.getElem?_append_right (by simpa using hi), List.getElem?_replicate] at e
     split at e
     ·cases e; exact q
     ·cases e
  exact hij ((z i s hi w1).trans (z j t hj w2).symm)
section
variable {P : Program} {w : World} {K : W.Frag} {mg : Str -> Option Value} {base : Heap}
theorem fnP_ok {st : Stmt} {f : Addr} {m : MS} (F : Fun K x qual st f fd) (S : FnScope N ps (zaG st)) (hn : ps.length = n) (hN : n <= N.length)
  (body : ∀ (cdv : Value) (A : Around) (outer : List Env) (s : Shared) (H : Hp) (E : XK), Room k (A.deeper (envOfC qual (zaG st) s.heap.objs.size f cdv)) -> SSs (cxOf CX0 P w K mg base N qual (zaG st) f cdv A outer s H E).nox (zcq st) m) :
  FnOk P w K mg base CX0 (k + 1) f fd ps (spP K n (fP N.length m)) := by
 refine F.ok S (fun vs H Q E h => ?_) (fun cdv A outer s H vs Q E hr h => ?_)
 ·obtain ⟨G, ds, r, _, h2, _, h4, _⟩ := h
  rw [h4.length, h2, hn]
 ·obtain ⟨G, ds, r, e1, h2, fz, h4, kk⟩ := h
  obtain ⟨t, pt, so⟩ := body cdv A outer s H E hr
  refine ⟨t, pt, ?_⟩
  obtain ⟨⟨fl, ρ'⟩, e2, e3⟩ := zah e1
  refine so ⟨G, H, []⟩ G H (L2.start N vs) _ fl ρ' _ (SI.start fz h4 (by lia)) e2 ?_
  have fin : ∀ G' H' σ' v, SI K ⟨G, H, []⟩ G' H' σ' ρ' -> Fz G G' -> ResF K G' H' H v r -> Q v H' := fun G' H' σ' v I f rr => kk G' H' v f I.fz I.new (fun b o e => I.keep b o e (by simp)) rr
  cases fl with
  | next => cases e3; exact fun G' H' σ' I f => fin G' H' σ' .non I f rfl
  | brk => cases e3
  | cont => cases e3
  | ret r' =>
   cases e3
   refine fun G' H' σ' v I f rr => fin G' H' σ' v I f ?_
   cases r with
   | val d => exact rr
   | own ds => exact rr
   | emp => exact rr
   | two _ _ => exact rr
   | tre _ => exact rr
   | ptr _ => exact rr
   | par ds => exact rr
theorem fnM_ok {st : Stmt} {f : Addr} {m : MS} (F : Fun K x qual st f fd) (S : FnScope N ps (zaG st)) (hn : ps.length = n) (hN : n <= N.length)
  (body : ∀ (cdv : Value) (A : Around) (outer : List Env) (s : Shared) (H : Hp) (E : XK), Room k (A.deeper (envOfC qual (zaG st) s.heap.objs.size f cdv)) -> SSs (cxOf CX0 P w K mg base N qual (zaG st) f cdv A outer s H E).nox (zcq st) m) :
  FnOk P w K mg base CX0 (k + 1) f fd ps (spM K n (fM N.length m)) := by
 refine F.ok S (fun vs H Q E h => ?_) (fun cdv A outer s H vs Q E hr h => ?_)
 ·obtain ⟨G, l, xs, cs, ws, ds, r, out, rfl, _, h2, _, _, _, _, h4, _⟩ := h
  rw [List.length_cons, h4.length, h2, hn]
 ·obtain ⟨G, l, xs, cs, ws, ds, r, out, rfl, e1, h2, fz, hg, hl, rc, h4, kk⟩ := h
  obtain ⟨t, pt, so⟩ := body cdv A outer s H E hr
  refine ⟨t, pt, ?_⟩
  obtain ⟨⟨fl, ρ'⟩, e2, e3⟩ := zah e1
  refine so ⟨G, H, [(0, l)]⟩ G H _ _ fl ρ' _ (SI.startM fz hg hl rc h4 (by lia)) e2 ?_
  have fin : ∀ G' H' σ' v, ρ'[0]? = some (.par out) -> SI K ⟨G, H, [(0, l)]⟩ G' H' σ' ρ' -> Fz G G' -> ResF K G' H' H v r -> Q v H' := fun G' H' σ' v e0 I f rr => by
   obtain ⟨l', ys, k1, k2, k3, k4, k5⟩ := I.slot 0 _ e0
   have : l' = l := by simpa using k5
   subst this
   exact kk G' H' v ys f I.fz I.new (fun b o hb e => I.keep b o e (fun i hm => by simp at hm; exact hb hm.2)) k2 k3 k4 rr
  cases e0 : ρ'[0]? with
  | none => rw [e0] at e3; cases fl <;> cases e3
  | some s0 =>
   rw [e0] at e3
   cases s0 with
   | emp => cases fl <;> cases e3
   | two _ _ => cases fl <;> cases e3
   | tre _ => cases fl <;> cases e3
   | ptr _ => cases fl <;> cases e3
   | val d => cases fl <;> cases e3
   | own d => cases fl <;> cases e3
   | par o2 =>
    cases fl with
    | next => cases e3; exact fun G' H' σ' I f => fin G' H' σ' .non e0 I f rfl
    | brk => cases e3
    | cont => cases e3
    | ret r' =>
     cases e3
     refine fun G' H' σ' v I f rr => fin G' H' σ' v e0 I f ?_
     cases r with
     | val d => exact rr
     | own ds => exact rr
     | emp => exact rr
     | two _ _ => exact rr
     | tre _ => exact rr
     | ptr _ => exact rr
     | par ds => exact rr
end
structure FD (P : Program) (w : World) (K : W.Frag) (mg : Str -> Option Value) (base : Heap) (k : Nat) (x : Str) (sp : Sp) : Prop where
 ex : ∃ f fd ps, FnOk P w K mg base CX0 k f fd ps sp /\ mg x = some (.ref f) /\ W.keepIn K (.ref f) = true /\ Binds K fd ps []
theorem zn5 (nw : ∀ b o, G' b = some o -> G b ≠ none \/ H b = none) (kp : Fz H H') : ∀ (i : Nat) (s : Sl) (a : Addr), ρ[i]? = some s -> OwS K G H σ[i]? a s -> G a = none -> H a ≠ none -> G' a = none /\ H' a = H a := fun i s a _ _ g h => by
 obtain ⟨u, hu⟩ := Option.ne_none_iff_exists'.mp h
 refine ⟨?_, (kp a u hu).trans hu.symm⟩
 cases q : G' a with
 | none => rfl
 | some u =>
  rcases nw a u q with z | z
  ·exact absurd g z
  ·exact absurd z h
theorem SI.grow (I : SI K B G H σ ρ) (f : Fz G G') (fz : Fz G' H') (nw : ∀ b o, G' b = some o -> G b ≠ none \/ H b = none) (kp : Fz H H') : SI K B G' H' σ ρ :=
 I.move fz f (fun b o e => by
  rcases nw b o e with h | h
  ·cases q : G b with
   | none => exact absurd q h
   | some u => exact I.new b u q
  ·exact .inr (I.there b h)) (fun b o e n => kp b o (I.keep b o e n)) (fun b e => I.there b (kp.free e)) (zn5 nw kp)
theorem SI.own_ne (I : SI K B G H σ ρ) {p : Addr} (hp : H p = none) (nw : ∀ b o, G' b = some o -> G b ≠ none \/ H b = none) (kp : Fz H H') : Nw K G' H' σ ρ p := I.nw_move (I.nw hp) (zn5 nw kp)
noncomputable def zat (F : List D -> Option Sl) (ma : MA) : ME := fun ρ => (ma ρ).bind fun p => (F p.1).bind fun r => match r with
 | .val d => some (d, p.2)
 | .own ds => some (.lst ds, p.2)
 | _ => none
noncomputable def zm4 (F : List D -> Option Sl) (ma : MA) : MO := fun ρ => (ma ρ).bind fun p => (F p.1).bind fun r => match r with
 | .own ds => some (ds, p.2)
 | _ => none
section
variable {X : Cx} {x : Str} {p pos : Pos} {e : Expr} {es : List Expr} {ma : MA} {k k' n : Nat} {F : List D -> Option Sl}
theorem zak (fd : FD X.prog X.w X.K X.mg X.base k x (spP X.K n F)) (hr : Room k' X.A) (ha : SA X (e :: es) ma) (hn : (e :: es).length = n := by rfl) (hk : k <= k' := by decide) (hg : Gl X x := by rfl) (hdb : (x == ("__debug__" : Str)) = false := by decide)
  (he : starEach (e :: es) X.env = (false, eval e X.env) :: starEach es X.env := by rfl) (hpl : (backTo pos (starEach es X.env)).any (·.1) = false := by rfl) (hlen : ∀ ρ as ρ', ma ρ = some (as, ρ') -> as.length = n) : SE X (.Call (.Name x p) (e :: es) [] pos) (zat F ma) := by
 obtain ⟨f, fdd, ps, G0, h1, h2, h3⟩ := fd.ex
 obtain ⟨t, pa, sa⟩ := ha
 refine ⟨_, zjV G0 (hr.mono hk) hg h1 h2 h3 .nil pass0 pa hdb he hpl, fun B G H σ ρ d ρ' Q I hm kk => ?_⟩
 obtain ⟨⟨as, ρ1⟩, e1, hm⟩ := zah hm
 obtain ⟨r, e2, hm⟩ := zah hm
 refine sa B G H σ ρ as ρ1 _ I e1 fun G1 H1 vs I1 f1 r1 => ?_
 show spP X.K n F (vs ++ []) H1 Q E0
 rw [List.append_nil]
 refine ⟨G1, as, r, e2, hlen ρ as ρ1 e1, I1.fz, r1, fun G2 H2 v f2 fz2 nw kp rr => ?_⟩
 have I2 := I1.grow f2 fz2 nw kp
 cases r with
 | val d' => cases hm; exact kk G2 H2 v I2 (f1.trans f2) rr
 | own ds =>
  cases hm
  obtain ⟨l, xs, rfl, g3, h3, r3, b3⟩ := rr
  obtain ⟨I3, f3, r4⟩ := zjx I2 g3 h3 r3 (I1.there l b3) (I1.own_ne b3 nw kp)
  exact kk _ H2 _ I3 (f1.trans (f2.trans f3)) r4
 | emp => cases hm
 | two _ _ => cases hm
 | tre _ => cases hm
 | ptr _ => cases hm
 | par _ => cases hm
theorem zj8 (fd : FD X.prog X.w X.K X.mg X.base k x (spP X.K n F)) (hr : Room k' X.A) (ha : SA X (e :: es) ma) (hn : (e :: es).length = n := by rfl) (hk : k <= k' := by decide) (hg : Gl X x := by rfl) (hdb : (x == ("__debug__" : Str)) = false := by decide)
  (he : starEach (e :: es) X.env = (false, eval e X.env) :: starEach es X.env := by rfl) (hpl : (backTo pos (starEach es X.env)).any (·.1) = false := by rfl) (hlen : ∀ ρ as ρ', ma ρ = some (as, ρ') -> as.length = n) : SO X (.Call (.Name x p) (e :: es) [] pos) (zm4 F ma) := by
 obtain ⟨f, fdd, ps, G0, h1, h2, h3⟩ := fd.ex
 obtain ⟨t, pa, sa⟩ := ha
 refine ⟨_, zjV G0 (hr.mono hk) hg h1 h2 h3 .nil pass0 pa hdb he hpl, fun B G H σ ρ d ρ' Q I hm kk => ?_⟩
 obtain ⟨⟨as, ρ1⟩, e1, hm⟩ := zah hm
 obtain ⟨r, e2, hm⟩ := zah hm
 refine sa B G H σ ρ as ρ1 _ I e1 fun G1 H1 vs I1 f1 r1 => ?_
 show spP X.K n F (vs ++ []) H1 Q E0
 rw [List.append_nil]
 refine ⟨G1, as, r, e2, hlen ρ as ρ1 e1, I1.fz, r1, fun G2 H2 v f2 fz2 nw kp rr => ?_⟩
 have I2 := I1.grow f2 fz2 nw kp
 cases r with
 | val d' => cases hm
 | own ds =>
  cases hm
  obtain ⟨l, xs, rfl, g3, h3, r3, b3⟩ := rr
  exact kk G2 H2 l xs I2 (f1.trans f2) g3 h3 r3 (I1.there l b3) (I1.own_ne b3 nw kp)
 | emp => cases hm
 | two _ _ => cases hm
 | tre _ => cases hm
 | ptr _ => cases hm
 | par _ => cases hm
end
noncomputable def aLen (ma : MA) (n : Nat) : Prop := ∀ ρ as ρ', ma ρ = some (as, ρ') -> as.length = n
theorem zag : aLen aNil 0 := fun ρ as ρ' h => by cases h; rfl
theorem zac {m : ME} {r : MA} (h : aLen r n) : aLen (zad m r) (n + 1) := fun ρ as ρ' e => by
 obtain ⟨⟨d, ρ1⟩, _, h2⟩ := zah e
 obtain ⟨⟨ds, ρ2⟩, e3, e4⟩ := zaA h2
 cases e4
 rw [List.length_cons, h ρ1 ds ρ2 e3]
noncomputable def zbR (F : List D -> List D -> Option (Sl × List D)) (j : Nat) (ma : MA) : ME := fun ρ => if (ρ[j]?.bind Sl.items).isSome then (ma ρ).bind fun p => p.2[j]?.bind fun s => s.items.bind fun cs => (F cs p.1).bind fun r => match r.1 with
 | .val d => some (d, p.2.set j (s.put r.2))
 | .own ds => some (.lst ds, p.2.set j (s.put r.2))
 | _ => none else none
theorem SI.growW (I : SI K B G H σ ρ) (e : ρ[j]? = some s) (q : s.items = some cs) (hl : σ[j]? = some (some (.ref l)))
  (f : Fz G G') (fz : Fz G' H') (nw : ∀ b o, G' b = some o -> G b ≠ none \/ H b = none) (kp : ∀ b o, b ≠ l -> H b = some o -> H' b = some o) (gl : G' l = none) (hl' : H' l = some (.lst ys)) (r : RepL K G' ys out) : SI K B G' H' σ (ρ.set j (s.put out)) :=
 I.chgW e q hl fz f nw kp gl hl' r
theorem SI.own_neW {l p : Addr} (I : SI K B G H σ ρ) (e : ρ[j]? = some s) (q : s.items = some cs) (hl : σ[j]? = some (some (.ref l))) (hp : H p = none)
  (nw : ∀ b o, G' b = some o -> G b ≠ none \/ H b = none) (kp : ∀ b o, b ≠ l -> H b = some o -> H' b = some o) : Nw K G' H' σ (ρ.set j (s.put out)) p := fun i t et w => by
 obtain ⟨l', xs, e1, e2, e3, e4⟩ := I.wr e q
 rw [hl] at e1; cases e1
 have hpl : p ≠ l := fun z => by rw [z, e3] at hp; cases hp
 by_cases z : i = j
 ·subst z
  rw [List.getElem?_set, if_pos rfl] at et
  split at et
  ·cases et
   have := (zbk (zhm q out)).mp w
   rw [hl] at this
   exact hpl (V.ref.inj (Option.some.inj (Option.some.inj this))).symm
  ·cases et
 ·rw [List.getElem?_set_ne (Ne.symm z)] at et
  have sl := I.slot i t et
  refine (sl.own (sl.back (fun a w g h => ?_) w)).2.1 hp
  have na : a ≠ l := fun w' => by subst w'; exact I.dis i j t s a z et e w ((zbk q).mpr hl)
  obtain ⟨u, hu⟩ := Option.ne_none_iff_exists'.mp h
  refine ⟨?_, (kp a u na hu).trans hu.symm⟩
  cases q2 : G' a with
  | none => rfl
  | some u =>
   rcases nw a u q2 with z | z
   ·exact absurd g z
   ·exact absurd z h
section
variable {X : Cx} {x y : Str} {p py pos : Pos} {es : List Expr} {ma : MA} {k k' n : Nat} {F : List D -> List D -> Option (Sl × List D)}
theorem soundM {t : TA} {Q : VK} (sa : ∀ B G H σ ρ ds ρ' (Q : List V -> Hp -> Prop), SI X.K B G H σ ρ -> ma ρ = some (ds, ρ') -> (∀ G' H' vs, SI X.K B G' H' σ ρ' -> Fz G G' -> RepL X.K G' vs ds -> Q vs H') -> t σ H Q)
  (hlen : ∀ ρ as ρ', ma ρ = some (as, ρ') -> as.length + 1 = n) (I : SI X.K B G H σ ρ) {ds0 : List D} (h0 : ρ[j]?.bind Sl.items = some ds0) {as : List D} {ρ1 : R} (e1 : ma ρ = some (as, ρ1)) {s : Sl} (e2 : ρ1[j]? = some s) {cs : List D} (e3 : s.items = some cs)
  {r : Sl} {out : List D} (e4 : F cs as = some (r, out))
  (kk : ∀ G' H' v, SI X.K B G' H' σ (ρ1.set j (s.put out)) -> Fz G G' -> True -> (∃ H1, ResF X.K G' H' H1 v r /\ (∀ b, H1 b = none -> B.H b = none) /\ ∀ b, H1 b = none -> Nw X.K G' H' σ (ρ1.set j (s.put out)) b) -> Q v H') :
  tCall (spM X.K n F) [] E0 (tCons (tVar j) t) σ H Q := by
 obtain ⟨s0, k0, q0⟩ := zah h0
 obtain ⟨l, xs0, h1, h2, h3, h4⟩ := I.wr k0 q0
 refine ⟨.ref l, h1, sa B G H σ ρ as ρ1 _ I e1 fun G1 H1 vs I1 f1 r1 => ?_⟩
 show spM X.K n F ((.ref l :: vs) ++ []) H1 Q E0
 rw [List.append_nil]
 obtain ⟨l', xs, m1, m2, m3, m4⟩ := I1.wr e2 e3
 rw [h1] at m1; cases m1
 refine ⟨G1, l, xs, cs, vs, as, r, out, rfl, e4, hlen ρ as ρ1 e1, I1.fz, m2, m3, m4, r1, fun G2 H2 v ys f2 fz2 nw kp gl hl r2 rr => ?_⟩
 exact kk G2 H2 v (I1.growW e2 e3 h1 f2 fz2 nw kp gl hl r2) (f1.trans f2) trivial ⟨H1, rr, fun b hb => I1.there b hb, fun b hb => I1.own_neW e2 e3 h1 hb nw kp⟩
theorem zaU (j : Nat) (fd : FD X.prog X.w X.K X.mg X.base k x (spM X.K n F)) (hr : Room k' X.A) (ha : SA X es ma) (hlen : ∀ ρ as ρ', ma ρ = some (as, ρ') -> as.length + 1 = n) (hN : X.N[j]? = some y := by rfl) (hv : Vis X.env.scope y := by first | exact Or.inl rfl | exact Or.inr (Or.inl rfl) | exact Or.inr (Or.inr rfl)) (hd : (y == ("__debug__" : Str)) = false := by decide)
  (hcd : (y == ("__classdict__" : Str)) = false := by decide) (hk : k <= k' := by decide) (hg : Gl X x := by rfl) (hdb : (x == ("__debug__" : Str)) = false := by decide)
  (he : starEach (.Name y py :: es) X.env = (false, eval (.Name y py) X.env) :: starEach es X.env := by rfl) (hpl : (backTo pos (starEach es X.env)).any (·.1) = false := by rfl) : SE X (.Call (.Name x p) (.Name y py :: es) [] pos) (zbR F j ma) := by
 obtain ⟨f, fdd, ps, G0, h1, h2, h3⟩ := fd.ex
 obtain ⟨t, pa, sa⟩ := ha
 refine ⟨_, zjV G0 (hr.mono hk) hg h1 h2 h3 .nil pass0 (zds (zgs hN hv hd hcd) pa he) hdb he hpl, fun B G H σ ρ d ρ' Q I hm kk => ?_⟩
 unfold zbR at hm
 split at hm
 ·rename_i hso
  obtain ⟨ds0, hso⟩ := Option.isSome_iff_exists.mp hso
  obtain ⟨⟨as, ρ1⟩, e1, hm⟩ := zah hm
  obtain ⟨s, e2, hm⟩ := zah hm
  obtain ⟨cs, e3, hm⟩ := zah hm
  obtain ⟨⟨r, out⟩, e4, hm⟩ := zah hm
  refine soundM sa hlen I hso e1 e2 e3 e4 fun G' H' v I' f' _ ⟨H1, rr, bb, nn⟩ => ?_
  cases r with
  | val d' => cases hm; exact kk G' H' v I' f' rr
  | own ds =>
   cases hm
   obtain ⟨l, xs, rfl, g3, h3, r3, b3⟩ := rr
   obtain ⟨I3, f3, r4⟩ := zjx I' g3 h3 r3 (bb l b3) (nn l b3)
   exact kk _ H' _ I3 (f'.trans f3) r4
  | emp => cases hm
  | two _ _ => cases hm
  | tre _ => cases hm
  | ptr _ => cases hm
  | par _ => cases hm
 ·cases hm
end
noncomputable def zfl (env : Env) (cs : List (Str × Addr)) (x : Str × NameKind) : List (Str × Addr) := if x.2 == .free then (x.1, (env.cells.lookup x.1).getD 0) :: cs else cs
noncomputable def clOf (scope : Scope) (env : Env) : List (Str × Addr) := scope.names.foldl (zfl env) []
theorem zh1 : ∀ (names : List (Str × NameKind)) (cs : List (Str × Addr)), (∀ y ∈ names, y.2 = .free -> ∃ c, env.cells.lookup y.1 = some c) ->
  (forIn names cs (fun x r => if x.2 == NameKind.free then do let a <- cellOf env x.1; pure (ForInStep.yield ((x.1, a) :: r)) else pure (ForInStep.yield r)) : Sem (List (Str × Addr))) = pure (names.foldl (zfl env) cs)
 | [], cs, _ => rfl
 | (n, k) :: r, cs, h => by
  have ih := fun cs' => zh1 r cs' (fun y hy => h y (List.mem_cons_of_mem _ hy))
  rw [List.forIn_cons, List.foldl_cons]
  by_cases hk : (k == NameKind.free) = true
  ·obtain ⟨c, hc⟩ := h (n, k) List.mem_cons_self (by simpa using hk)
   have e : zfl env cs (n, k) = (n, c) :: cs := by unfold zfl; simp [hk, hc]
   rw [e, <- ih]
   simp only [hk, if_true]
   unfold cellOf
   simp only at hc
   rw [hc]
   rfl
  ·have e : zfl env cs (n, k) = cs := by unfold zfl; simp [hk]
   rw [e, <- ih]
   simp only [hk]
   rfl
theorem znm {env : Env} (h : ∀ y ∈ scope.names, y.2 = .free -> ∃ c, env.cells.lookup y.1 = some c) : closureFor scope env = pure (clOf scope env) := by
 unfold closureFor clOf
 have e := zh1 (env := env) scope.names [] h
 simp only [bind_pure]
 exact e
theorem zdo : ∀ {names : List (Str × NameKind)} {cs : List (Str × Addr)}, (∀ y ∈ names, y.2 = .free -> ∃ c, env.cells.lookup y.1 = some c) -> (cs.lookup x = some c -> env.cells.lookup x = some c) ->
  (names.foldl (zfl env) cs).lookup x = some c -> env.cells.lookup x = some c
 | [], cs, _, h0, h => h0 h
 | (n, k) :: r, cs, hn, h0, h => by
  rw [List.foldl_cons] at h
  refine zdo (names := r) (fun y hy => hn y (List.mem_cons_of_mem _ hy)) ?_ h
  intro q
  unfold zfl at q
  split at q
  ·rename_i hk
   obtain ⟨c', hc⟩ := hn (n, k) List.mem_cons_self (by simpa using hk)
   rw [List.lookup_cons] at q
   simp only at hc
   by_cases z : (x == n) = true
   ·rw [z] at q
    have zz : x = n := by simpa using z
    subst zz
    simp only [hc, Option.getD_some] at q
    rw [hc]; exact q
   ·have z' : (x == n) = false := by simpa using z
    rw [z'] at q; exact h0 q
  ·exact h0 q
theorem zfw : ∀ {names : List (Str × NameKind)} {cs : List (Str × Addr)}, ((x, NameKind.free) ∈ names \/ (cs.lookup x).isSome = true) -> ((names.foldl (zfl env) cs).lookup x).isSome = true
 | [], cs, h => by
  rcases h with h | h
  ·simp at h
  ·exact h
 | (n, k) :: r, cs, h => by
  rw [List.foldl_cons]
  refine zfw (names := r) ?_
  rcases h with h | h
  ·rcases List.mem_cons.mp h with h | h
   ·cases h
    refine .inr ?_
    unfold zfl
    simp
   ·exact .inl h
  ·refine .inr ?_
   unfold zfl
   split
   ·rw [List.lookup_cons]
    by_cases z : (x == n) = true
    ·rw [z]; rfl
    ·have z' : (x == n) = false := by simpa using z
     rw [z']; exact h
   ·exact h
theorem ziu : ∀ {names : List (Str × NameKind)} {n : Nat} {acc : List (Str × Addr)}, (cellsFrom n names acc).lookup x = some c -> (n <= c /\ (x, NameKind.cell) ∈ names) \/ acc.lookup x = some c
 | [], n, acc, h => .inr h
 | (m, k) :: r, n, acc, h => by
  unfold cellsFrom at h
  split at h
  ·rename_i hk
   have hk' : k = .cell := by simpa using hk
   subst hk'
   rcases ziu h with ⟨h1, h2⟩ | h1
   ·exact .inl ⟨Nat.le_of_succ_le h1, List.mem_cons_of_mem _ h2⟩
   ·rw [List.lookup_cons] at h1
    cases q : x == m with
    | true =>
     rw [q] at h1
     cases h1
     rw [beq_iff_eq.mp q]
     exact .inl ⟨Nat.le_refl _, List.mem_cons_self⟩
    | false => rw [q] at h1; exact .inr h1
  ·rcases ziu h with ⟨h1, h2⟩ | h1
   ·exact .inl ⟨h1, List.mem_cons_of_mem _ h2⟩
   ·exact .inr h1
theorem zmv : ∀ {names : List (Str × NameKind)} {n : Nat} {acc : List (Str × Addr)}, (x, NameKind.cell) ∉ names -> (cellsFrom n names acc).lookup x = acc.lookup x
 | [], n, acc, _ => rfl
 | (m, k) :: r, n, acc, h => by
  unfold cellsFrom
  split
  ·rename_i hk
   have hk' : k = .cell := by simpa using hk
   subst hk'
   rw [zmv fun z => h (List.mem_cons_of_mem _ z), List.lookup_cons]
   cases q : x == m with
   | true => exact absurd (by rw [beq_iff_eq.mp q]; exact List.mem_cons_self) h
   | false => rfl
  ·exact zmv fun z => h (List.mem_cons_of_mem _ z)
theorem zmj : ∀ {names : List (Str × NameKind)} {n : Nat} {acc : List (Str × Addr)}, (x, NameKind.cell) ∈ names -> ∃ c, (cellsFrom n names acc).lookup x = some c /\ n <= c
 | (m, k) :: r, n, acc, h => by
  unfold cellsFrom
  by_cases hr : (x, NameKind.cell) ∈ r
  ·split
   ·obtain ⟨c, h1, h2⟩ := zmj (n := n + 1) (acc := (m, n) :: acc) hr
    exact ⟨c, h1, Nat.le_of_succ_le h2⟩
   ·exact zmj hr
  ·rcases List.mem_cons.mp h with e | e
   ·cases e
    rw [if_pos (beq_self_eq_true _), zmv hr, List.lookup_cons, beq_self_eq_true]
    exact ⟨n, rfl, Nat.le_refl _⟩
   ·exact absurd e hr
theorem zoB : ∀ {names : List (Str × NameKind)} {n : Nat} {acc : List (Str × Addr)}, (∀ x c, acc.lookup x = some c -> c < n) -> (∀ x y c, acc.lookup x = some c -> acc.lookup y = some c -> x = y) ->
  ∀ x y c, (cellsFrom n names acc).lookup x = some c -> (cellsFrom n names acc).lookup y = some c -> x = y
 | [], n, acc, _, hi => hi
 | (m, k) :: r, n, acc, hl, hi => by
  unfold cellsFrom
  split
  ·refine zoB (fun x c h => ?_) (fun x y c h1 h2 => ?_)
   ·rw [List.lookup_cons] at h
    cases q : x == m with
    | true => rw [q] at h; cases h; exact Nat.lt_succ_self _
    | false => rw [q] at h; exact Nat.lt_succ_of_lt (hl x c h)
   ·rw [List.lookup_cons] at h1 h2
    cases q : x == m with
    | true =>
     rw [q] at h1
     cases h1
     cases q2 : y == m with
     | true => rw [beq_iff_eq.mp q, beq_iff_eq.mp q2]
     | false => rw [q2] at h2; exact absurd (hl y n h2) (Nat.lt_irrefl _)
    | false =>
     rw [q] at h1
     cases q2 : y == m with
     | true => rw [q2] at h2; cases h2; exact absurd (hl x n h1) (Nat.lt_irrefl _)
     | false => rw [q2] at h2; exact hi x y c h1 h2
  ·exact zoB hl hi
theorem zlN : ∀ {names : List (Str × NameKind)} {h : Heap} {acc : List (Str × Addr)}, (∀ x c, acc.lookup x = some c -> ∃ v, h.IsCell c v) -> ∀ x c, (cellsFrom h.objs.size names acc).lookup x = some c -> ∃ v, (pushCells h names).IsCell c v
 | [], h, acc, ha => ha
 | (m, k) :: r, h, acc, ha => by
  unfold cellsFrom pushCells
  split
  ·intro x c e
   rw [<- Heap.size_push h { cls := .type "cell", data := .cell none }] at e
   refine zlN (fun y d q => ?_) x c e
   rw [List.lookup_cons] at q
   cases z : y == m with
   | true => rw [z] at q; cases q; exact ⟨none, _, Heap.get?_push_size _ rfl, rfl⟩
   | false =>
    rw [z] at q
    obtain ⟨v, hv⟩ := ha y d q
    exact ⟨v, hv.keeps fun b o e => Heap.get?_push_of_some _ e⟩
  ·exact zlN ha
theorem zlL {M : Model} {s : Shared} {globals : Addr} {Q : Env -> Shared -> Prop}
  (hQ : ∀ h' : Heap, h'.Ns s.heap.objs.size (fun _ => none) -> (∀ a o, s.heap.get? a = some o -> h'.get? a = some o) ->
   ((∀ x c, cl.lookup x = some c -> ∃ v, s.heap.IsCell c v) -> ∀ x c, (cellsFrom (s.heap.objs.size + 1) scope.names cl).lookup x = some c -> ∃ v, h'.IsCell c v) ->
   Q (newEnv scope s.heap.objs.size globals (cellsFrom (s.heap.objs.size + 1) scope.names cl) qual none .none (some env) builtinsNs) { s with heap := h' }) :
  wpAny M A (newFunctionEnv scope globals cl [] qual none .none (some env)) Q E s := by
 simp only [newFunctionEnv, Option.isSome_some, if_true]
 refine wpAny_bind (wpAny_alloc ?_)
 refine wpAny_bind (wpAny_layCells _ (fun name kind cells => by cases hkc : kind == NameKind.cell <;> simp [hkc]) _ _ _ _ ?_)
 rw [show ({ s with heap := s.heap.push { cls := .type "dict", data := .dict #[] } } : Shared).heap.objs.size = s.heap.objs.size + 1 from Heap.size_push ..]
 refine wpAny_bind ?_
 rw [List.forIn_nil]
 refine wpAny_pure (wpAny_pure (hQ _ ((Heap.Ns.new s.heap (.type "dict")).keeps (pushCells_keeps _ _)) (fun a o e => pushCells_keeps _ _ a o (Heap.get?_push_of_some _ e)) fun hc x c e => ?_))
 rw [<- Heap.size_push s.heap { cls := .type "dict", data := .dict #[] }] at e
 refine zlN (fun y d q => ?_) x c e
 obtain ⟨v, hv⟩ := hc y d q
 exact ⟨v, hv.keeps fun b o e => Heap.get?_push_of_some _ e⟩
noncomputable def clC (scope : Scope) (env : Env) (C : Addr) : List (Str × Addr) := cellsFrom (C + 1) scope.names (clOf scope env)
noncomputable def ownC (scope : Scope) (x : Str) : Bool := match scope.names.lookup x with
 | some .cell => true
 | _ => false
noncomputable def cxC (X : Cx) (N : List Str) (scope : Scope) (C : Addr) (s : Shared) (H : Hp) (fp : List Addr) : Cx :=
 { X with N := N, s₀ := s, H₀ := H, env := compEnvC scope (clC scope X.env C) C X.env, outer := X.stack, ex := fp, fn := ownC scope, pn := [], xe := fun _ _ => False }
structure BlkOk (X : Cx) (scope : Scope) : Prop where
 kind : scope.kind = .function
 uniq : ∀ y ∈ scope.names, scope.names.lookup y.1 = some y.2
 free : ∀ y ∈ scope.names, y.2 = .free -> X.env.kindOf y.1 = some .cell \/ X.env.kindOf y.1 = some .free
theorem zf7 {α : Type} {v : α} : ∀ {l : List (Str × α)}, l.lookup x = some v -> (x, v) ∈ l
 | [], h => by simp at h
 | (n, w) :: r, h => by
  rw [List.lookup_cons] at h
  by_cases z : (x == n) = true
  ·rw [z] at h
   have zz : x = n := by simpa using z
   subst zz
   cases h
   exact List.mem_cons_self
  ·have z' : (x == n) = false := by simpa using z
   rw [z'] at h
   exact List.mem_cons_of_mem _ (zf7 h)
theorem zdA {env : Env} {x : Str} : ∀ {names : List (Str × NameKind)}, (names.map fun (n, k) => if (k == NameKind.free && env.scope.kind == .function && env.kindOf n == some .cell) then (n, NameKind.cell) else (n, k)).lookup x =
  (names.lookup x).map fun k => if (k == NameKind.free && env.scope.kind == .function && env.kindOf x == some .cell) then NameKind.cell else k
 | [] => rfl
 | (n, k) :: r => by
  have ih := zdA (env := env) (x := x) (names := r)
  show List.lookup x ((if (k == NameKind.free && env.scope.kind == .function && env.kindOf n == some .cell) = true then (n, NameKind.cell) else (n, k)) :: _) = _
  cases hx : x == n with
  | true =>
   have zz : x = n := by simpa using hx
   by_cases hc : (k == NameKind.free && env.scope.kind == .function && env.kindOf n == some .cell) = true
   ·rw [if_pos hc]
    simp only [List.lookup_cons, hx, Option.map_some]
    rw [zz, if_pos hc]
   ·rw [if_neg hc]
    simp only [List.lookup_cons, hx, Option.map_some]
    rw [zz, if_neg hc]
  | false =>
   by_cases hc : (k == NameKind.free && env.scope.kind == .function && env.kindOf n == some .cell) = true
   ·rw [if_pos hc]; simp only [List.lookup_cons, hx]; exact ih
   ·rw [if_neg hc]; simp only [List.lookup_cons, hx]; exact ih
section
variable {X : Cx} {pins : List (Addr × Obj)} {σ : St} {H : Hp} {s : Shared} {scope : Scope} {N : List Str} {fp : List Addr} {C : Addr}
theorem ziv (I : Inv X pins σ H s) (b : BlkOk X scope) : ∀ y ∈ scope.names, y.2 = .free -> ∃ c, X.env.cells.lookup y.1 = some c := fun y hy hf => I.ok.has y.1 (b.free y hy hf)
theorem blk_vis (h : (relabel scope X.env).names.lookup x = some .cell \/ (relabel scope X.env).names.lookup x = some .free) : (x, NameKind.free) ∈ scope.names \/ (x, NameKind.cell) ∈ scope.names := by
 have e : (relabel scope X.env).names.lookup x = (scope.names.lookup x).map fun k => if (k == NameKind.free && X.env.scope.kind == .function && X.env.kindOf x == some .cell) then NameKind.cell else k := zdA
 rw [e] at h
 cases q : scope.names.lookup x with
 | none => rw [q] at h; simp at h
 | some k =>
  have hm := zf7 q
  by_cases hk : k = .free
  ·subst hk; exact .inl hm
  ·rw [q] at h
   have hkf : (k == NameKind.free) = false := by simpa using hk
   simp only [Option.map_some, hkf, Bool.false_and, Bool.false_eq_true, if_false, Option.some.injEq] at h
   rcases h with h | h
   ·subst h; exact .inr hm
   ·exact absurd h hk
theorem zhl (I : Inv X pins σ H s) (b : BlkOk X scope) (h : (clOf scope X.env).lookup x = some c) : X.env.cells.lookup x = some c := zdo (ziv I b) (by simp) h
theorem zhO (I : Inv X pins σ H s) (b : BlkOk X scope) (h : (clC scope X.env C).lookup x = some c) : C < c \/ X.env.cells.lookup x = some c := by
 rcases ziu h with ⟨h1, _⟩ | h1
 ·exact .inl h1
 ·exact .inr (zhl I b h1)
theorem zmz (b : BlkOk X scope) (h : (x, NameKind.free) ∈ scope.names) : (clC scope X.env C).lookup x = (clOf scope X.env).lookup x := zmv fun z => by
 have h1 := b.uniq _ h
 have h2 := b.uniq _ z
 simp only at h1 h2
 rw [h1] at h2
 cases h2
theorem blk_ok (I : Inv X pins σ H s) (b : BlkOk X scope) (hC : s.heap.objs.size <= C) (hf : ∀ b ∈ fp, FpOk X pins H b) (hfC : ∀ b ∈ fp, b < C) : (cxC X N scope C s H fp).Ok where
 mod := I.ok.mod
 kind := b.kind
 glob := I.ok.glob
 blt := I.ok.blt
 above := hC
 inj := zoB (fun x c h => by
  obtain ⟨v, hv⟩ := I.cell x c (zhl I b h)
  exact Nat.lt_succ_of_lt (Nat.lt_of_lt_of_le hv.lt hC)) fun x y c h1 h2 => I.ok.inj x y c (zhl I b h1) (zhl I b h2)
 has := fun x hx => by
  rcases blk_vis (x := x) hx with hm | hm
  ·show ∃ c, (clC scope X.env C).lookup x = some c
   rw [zmz b hm]
   exact Option.isSome_iff_exists.mp (zfw (.inl hm))
  ·obtain ⟨c, h, _⟩ := zmj (n := C + 1) (acc := clOf scope X.env) hm
   exact ⟨c, h⟩
 cab := fun x c h e => by
  have h' : ownC scope x = true := h
  unfold ownC at h'
  split at h'
  ·rename_i q
   obtain ⟨c', h1, h2⟩ := zmj (n := C + 1) (acc := clOf scope X.env) (zf7 q)
   have e' : some c' = some c := h1.symm.trans e
   cases e'
   exact Nat.le_trans hC (Nat.le_of_succ_le h2)
  ·cases h'
 hd := I.ok.hd
 frames := I.ok.frames
 stk := .inl rfl
 exf := fun a ha => ⟨Nat.ne_of_lt (hfC a ha), fun x c e z => by
  rcases zhO I b e with q | q
  ·exact Nat.lt_asymm q (z ▸ hfC a ha)
  ·exact (hf a ha).2.2.2.2.1 x c q z⟩
 bs := I.bs
 bsz := Nat.le_trans I.ok.bsz I.sz
 noex := fun a o e ha => by
  rcases (hf a ha).2.2.2.1 with z | z
  ·exact I.ok.noex a o e z
  ·exact absurd (Nat.lt_of_lt_of_le (Heap.lt_size e) (Nat.le_trans I.ok.bsz z)) (Nat.lt_irrefl _)
 exfs := fun a ha hs => by
  rcases List.mem_cons.mp (I.stkSub a hs) with z | z
  ·exact (hf a ha).2.1 z
  ·exact (hf a ha).2.2.1 z
 funs := I.stack
 frf := I.stkFree
theorem zo1 {tk : Nat} (I : Inv X pins σ H s) (b : BlkOk X scope) (hf : ∀ b ∈ fp, FpOk X pins H b) (hfs : ∀ b ∈ fp, b < s.heap.objs.size)
  (hns : h'.Ns s.heap.objs.size (fun _ => none)) (hk : ∀ a o, s.heap.get? a = some o -> h'.get? a = some o) (hcl : ∀ x c, (clC scope X.env s.heap.objs.size).lookup x = some c -> ∃ v, h'.IsCell c v) (hl : σc.length = N.length)
  (hσ : ∀ (i : Nat) (x : Str) (v : V), N[i]? = some x -> σc[i]? = some (some v) -> (x, NameKind.free) ∈ scope.names /\ ∃ j : Nat, X.N[j]? = some x /\ σ[j]? = some (some v)) (hloc : ∀ (i : Nat) (x : Str) (v : V), N[i]? = some x -> σc[i]? = some (some v) -> ¬ (relabel scope X.env).names.lookup x = some .local) :
  Inv (cxC X N scope s.heap.objs.size s H fp) [] σc H { s with heap := h', toks := tk } := by
 have ok := blk_ok (N := N) I b (Nat.le_refl _) hf hfs
 refine ⟨ok, rfl, I.bare, Un.kept hk, ⟨_, hns, fun i x v h1 h2 h3 => ?_⟩, fun x c e => ?_, I.hok.fresh (Nat.le_refl _), fun x c e => ?_, fun p hp => absurd (show p ∈ ([] : List (Addr × Obj)) from hp) (by simp), I.hok.kept hk, hl⟩
 ·obtain ⟨hm, j, hj, hv⟩ := hσ i x v h1 h2
  have hkind := b.free _ hm rfl
  obtain ⟨m, hn, hloc'⟩ := I.loc
  have hvis : Vis X.env.scope x := by
   rcases hkind with z | z
   ·exact .inr (.inl z)
   ·exact .inr (.inr z)
  obtain ⟨u, ru, lk⟩ := hloc' j x v hj hv hvis
  refine ⟨u, ru, ?_⟩
  rcases lk with ⟨z, _⟩ | ⟨_, c, ec, hc⟩
  ·exfalso
   rcases hkind with w | w <;> simp only at w <;> rw [z] at w <;> cases w
  ·refine .inr ⟨?_, c, ?_, ?_⟩
   ·rcases h3 with z | z | z
    ·exact absurd z (hloc i x v h1 h2)
    ·exact .inl z
    ·exact .inr z
   ·have hs : ((clOf scope X.env).lookup x).isSome = true := zfw (.inl hm)
    obtain ⟨c', ec'⟩ := Option.isSome_iff_exists.mp hs
    have := zdo (ziv I b) (by simp) ec'
    rw [ec] at this
    cases this
    exact (zmz b hm).trans ec'
   ·obtain ⟨o, ho, hd⟩ := hc
    exact ⟨o, hk _ _ ho, hd⟩
 ·exact hcl x c e
 ·rcases zhO I b e with q | q
  ·exact I.hok.fresh (Nat.le_of_lt q)
  ·exact I.freeC x c q
theorem zoE {h' : Heap} {s1 : Shared} (I : Inv X pins σ H s) (hf : ∀ b ∈ fp, FpOk X pins H b) (J : Inv (cxC X N scope s.heap.objs.size s H fp) [] σc H' s1) (hs : Heap.SameBut s.heap.objs.size s1.heap h') : Inv X pins σ H' { s1 with heap := h' } := by
 have kp : ∀ a o, a ≠ s.heap.objs.size -> s1.heap.get? a = some o -> h'.get? a = some o := fun a o ha e => hs.extBut a o ha e
 have free : H' s.heap.objs.size = none := J.free
 have ntr : ∀ a u, H' a = some u -> a ≠ s.heap.objs.size := fun a u e z => by rw [z, free] at e; cases e
 have lt : ∀ a o, s.heap.get? a = some o -> a ≠ s.heap.objs.size := fun a o e => Nat.ne_of_lt (Heap.lt_size e)
 have u : Un (frs X.stack) fp H H' s.heap s1.heap := J.base
 have u' : Un (frs X.stack) fp H H' s.heap h' := by
  refine ⟨fun a o e n hb hx => kp a o (lt a o e) (u.keep a o e n hb hx), fun a o e n hb hx => ?_, u.free, fun a o e hx => ?_, u.tups, u.frzs, u.tbls⟩
  ·obtain ⟨sl, q⟩ := u.slot a o e n hb hx
   exact ⟨sl, kp a _ (lt a o e) q⟩
  ·obtain ⟨o', q⟩ := u.there a o e hx
   exact ⟨o', kp a _ (lt a o e) q⟩
 have hok : HOk X.prog X.w H' h' := fun a o e => (J.hok a o e).stay (fun c v hc q => by
  refine kp c v ?_ q
  rcases hc with rfl | hc
  ·exact ntr _ _ e
  ·exact ntr _ _ hc) (fun _ q => q) fun _ _ q => q
 obtain ⟨hh, g, d, t, os'⟩ := s1
 have os : os' = s.os := J.os
 subst os
 have z := I.call (h' := h') (g' := g) (d' := d) (t' := t) (ch := fp) u' hok J.bare (fun a ha => ⟨(hf a ha).2.2.2.1, (hf a ha).2.1, (hf a ha).2.2.2.2.1, (hf a ha).2.2.2.2.2⟩)
 exact z
end
noncomputable def PTs (X : Cx) (ifs : List Expr) (t : TT) : Prop := ∀ (pins : List (Addr × Obj)) (s : Shared) (σ : St) (H : Hp) (Q : Bool -> Hp -> Prop), Inv X pins σ H s -> t σ H Q ->
 wpAny (model X.prog X.w) X.A (forIn ifs true fun c r => if r = true then do let ok <- isTrue c X.env (eval c X.env); pure (ForInStep.yield ok) else pure (ForInStep.yield r)) (TP X pins σ Q) X.xe s
theorem pts_nil : PTs X [] (fun _ H Q => Q true H) := fun pins s σ H Q I h => wpAny_tests_nil ⟨H, I, h⟩
theorem pts_one {c : Expr} {t : TT} (h : PT X c t) : PTs X [c] t := fun pins s σ H Q I hw => wpAny_tests_one (h pins s σ H Q I hw)
theorem zlX {R : Result -> Shared -> Prop} {s : Shared} {elt target iter : Expr} {pos : Pos} {it acc : Value} (I : Nat -> Shared -> Prop)
  (turn : ∀ n s, I n s -> wpAny (model prog w) A (pyNext it) (fun r s₁ => match r with
   | none => R (.ok .next) s₁
   | some v => wpAny (model prog w) A (letOwnedTupleGo target it v) (fun _ s₁' => wpAny (model prog w) A (assign target env v) (fun _ s₂ =>
     wpAny (model prog w) A (forIn ifs true fun c r => if r = true then do let ok <- isTrue c env (eval c env); pure (ForInStep.yield ok) else pure (ForInStep.yield r)) (fun ok s₃ =>
      if ok = true then wpAny (model prog w) A (eval elt env) (fun x s₄ =>
       wpAny (model prog w) A (call (.builtin "list.append") [acc, x]) (fun _ s₅ => ∃ m, m < n /\ I m s₅) (fun _ _ => False) s₄) (fun _ _ => False) s₃
      else ∃ m, m < n /\ I m s₃) (fun _ _ => False) s₂) (fun _ _ => False) s₁') (fun _ _ => False) s₁) (fun _ _ => False) s)
  (n : Nat) (h : I n s) : codeAny (model prog w) A (.compLoop (.ListComp elt [⟨target, iter, ifs, 0⟩] scope pos) 0 it acc env) R s := by
 refine codeAny_loop rfl I (fun n s hI => ?_) n h
 show wpAny _ A ((compTurn (.ListComp elt [⟨target, iter, ifs, 0⟩] scope pos) 0 it acc env).onRaise (fun x => do noteFrame x env; theTreesLotGoes x)) _ _ s
 refine wpAny_noted ?_
 rw [compTurn_list]
 have no : ∀ {E : Value -> Shared -> Prop}, ∀ x s', (fun (_ : Value) (_ : Shared) => False) x s' -> E x s' := fun _ _ z => z.elim
 refine wpAny_bind (wpAny_standAt (wpAny_bind (wpAny_mono (turn n s hI) (fun r s₁ h₁ => ?_) no)))
 cases r with
 | none => exact wpAny_pure h₁
 | some v =>
  refine wpAny_bind (wpAny_mono h₁ (fun _ s₁' h₁' => ?_) no)
  refine wpAny_bind (wpAny_mono h₁' (fun _ s₂ h₂ => wpAny_bind (wpAny_mono h₂ (fun ok s₃ h₃ => ?_) no)) no)
  cases ok with
  | false => exact wpAny_pure ⟨rfl, h₃⟩
  | true =>
   exact wpAny_bind (wpAny_bind (wpAny_mono h₃ (fun x s₄ h₄ => wpAny_bind (wpAny_mono h₄ (fun _ s₅ h₅ => wpAny_pure (wpAny_pure ⟨rfl, h₅⟩)) no)) no))
noncomputable def tLC (σ0 : St -> St) (wi : TI) (g : Addr -> Shared -> Hp -> List Addr -> TG) (tt : Addr -> Shared -> Hp -> List Addr -> TT) (te : Addr -> Shared -> Hp -> List Addr -> TE) : TE := fun σ H Q => wi σ H fun J H1 => ∀ D, H1 D = none -> ∃ W : Nat -> Nat -> St -> Hp -> Prop, (∃ m, W 0 m (σ0 σ) (upd H1 D (.lst []))) /\ ∀ i m σ H, W i m σ H ->
 (J.stop i H /\ Q (.ref D) H) \/ (J.go i H /\ ∀ C s₀ H₀ fp x H', J.yld i H x H' -> g C s₀ H₀ fp x σ H' fun σ2 H2 => tt C s₀ H₀ fp σ2 H2 fun ok H3 => if ok = true then te C s₀ H₀ fp σ2 H3 fun v H4 => ∃ xs, H4 D = some (.lst xs) /\ xs.length < sizeLine /\ ∃ m', m' < m /\ W (i + 1) m' σ2 (upd H4 D (.lst (xs ++ [v])))
  else ∃ m', m' < m /\ W (i + 1) m' σ2 H3)
section
variable {X : Cx} {elt iter tg : Expr} {ifs : List Expr} {scope : Scope} {pos : Pos} {N : List Str} {σ0 : St -> St} {wi : TI} {g : Addr -> Shared -> Hp -> List Addr -> TG} {tt : Addr -> Shared -> Hp -> List Addr -> TT} {te : Addr -> Shared -> Hp -> List Addr -> TE}
structure Cap (X : Cx) (scope : Scope) (N : List Str) (σ0 : St -> St) : Prop where
 len : ∀ σ, (σ0 σ).length = N.length
 src : ∀ (σ : St) (i : Nat) (x : Str) (v : V), N[i]? = some x -> (σ0 σ)[i]? = some (some v) -> (x, NameKind.free) ∈ scope.names /\ ∃ j : Nat, X.N[j]? = some x /\ σ[j]? = some (some v)
 loc : ∀ (σ : St) (i : Nat) (x : Str) (v : V), N[i]? = some x -> (σ0 σ)[i]? = some (some v) -> ¬ (relabel scope X.env).names.lookup x = some .local
theorem znH {E : Value -> Shared -> Prop} (hc : X.calm = true) (b : BlkOk X scope) (cap : Cap X scope N σ0) (hi : PI X tg iter wi) (hg : ∀ C s H fp, PG (cxC X N scope C s H fp) tg (g C s H fp)) (ht : ∀ C s H fp, PTs (cxC X N scope C s H fp) ifs (tt C s H fp)) (he : ∀ C s H fp, PE (cxC X N scope C s H fp) elt (te C s H fp))
  {pins : List (Addr × Obj)} {s : Shared} {σ : St} {H : Hp} {Q : VK} (I : Inv X pins σ H s) (h : tLC σ0 wi g tt te σ H Q) {QQ : Value -> Shared -> Prop} {p0 : Pos}
  (hs : ∀ x, foldedSetIterable iter X.env x = pure x)
  (fin : match use with
   | none => ∀ u s', EP X pins σ Q u s' -> QQ u s'
   | some f => ∀ (D : Addr) (fp : List Addr) (C : Addr) (H1 H' : Hp) (σc : St) (s1 s' : Shared), Inv X pins σ H1 s1 -> (∀ b ∈ fp, FpOk X pins H1 b) -> C = s1.heap.objs.size -> Inv (cxC X N scope C s1 H1 fp) [] σc H' s' -> Q (.ref D) H' ->
     wpAny (model X.prog X.w) X.A (f (.ref D)) (fun _ s'' => ∃ m, s''.heap.Ns C m /\ ∀ h', Heap.SameBut C s''.heap h' -> QQ .none { s'' with heap := h' }) X.xe s') :
  wpAny (model X.prog X.w) X.A (comprehension (.ListComp elt [⟨tg, iter, ifs, 0⟩] scope pos) scope X.env p0 (newList []) false (eval iter X.env) use) QQ X.xe s := by
 refine wpAny_comprehension_free (cl := clOf scope X.env) (g := ⟨tg, iter, ifs, 0⟩) (gs := []) rfl hs (znm (ziv I b)) b.kind (fun x hx hl => hl ▸ b.uniq x hx) ?_
 refine thn (hi pins s σ H _ I h) fun v s1 h1 => thn h1 fun itv s2 h2 => ?_
 obtain ⟨it, fp, tn, J, H2, e, I2, T, st2, f2, h3⟩ := h2
 subst e
 refine wpAny_newObj_type ?_ (by show (0 : Nat) <= sizeLine; exact Nat.zero_le _)
 have hD : H2 s2.heap.objs.size = none := I2.fresh
 obtain ⟨W, ⟨m0, w0⟩, turn⟩ := h3 _ hD
 have I3 : Inv X pins σ (upd H2 s2.heap.objs.size (.lst [])) { s2 with heap := s2.heap.push { cls := .type "list", data := .seq ([] : List Value).toArray } } := I2.lnew (t' := s2.toks) .nil (Nat.zero_le _)
 have f3 : ∀ b ∈ fp, FpOk X pins (upd H2 s2.heap.objs.size (.lst [])) b := fun b hb => by
  obtain ⟨a1, a2⟩ := f2 b hb
  obtain ⟨o, ho, _⟩ := T.obj _ _ st2 b hb
  exact ⟨by rw [zaC (Nat.ne_of_lt (Heap.lt_size ho))]; exact a1, a2⟩
 have st3 : tn 0 (s2.heap.push { cls := .type "list", data := .seq ([] : List Value).toArray }) := T.keep _ _ _ st2 fun b hb o e => Heap.get?_push_of_some _ e
 generalize hs3 : ({ s2 with heap := s2.heap.push { cls := .type "list", data := .seq ([] : List Value).toArray } } : Shared) = s3 at I3
 have hs3' : s3.heap = s2.heap.push { cls := .type "list", data := .seq ([] : List Value).toArray } := by rw [<- hs3]
 rw [<- hs3'] at st3
 have hfs : ∀ b ∈ fp, b < s3.heap.objs.size := fun b hb => by
  obtain ⟨o, ho, _⟩ := T.obj _ _ st3 b hb
  exact Heap.lt_size ho
 show wpAny _ _ (newFunctionEnv scope X.env.globals (clOf scope X.env) [] X.env.qual none .none (some X.env)) _ _ s3
 refine zlL fun h' hns hk hcl => ?_
 have hcl := hcl fun x c e => I3.cell x c (zhl I3 b e)
 generalize hDD : s2.heap.objs.size = DD at *
 have B0 : Inv (cxC X N scope s3.heap.objs.size s3 (upd H2 DD (.lst [])) fp) [] (σ0 σ) (upd H2 DD (.lst [])) { s3 with heap := h' } :=
  zo1 (tk := s3.toks) I3 b f3 hfs hns hk hcl (cap.len σ) (cap.src σ) (cap.loc σ)
 have stat : ∀ {H' : Hp}, (∀ b ∈ fp, H' b = none) -> ∀ b ∈ fp, FpOk (cxC X N scope s3.heap.objs.size s3 (upd H2 DD (.lst [])) fp) [] H' b := fun hn b' hb => by
  refine ⟨hn b' hb, Nat.ne_of_lt (hfs b' hb), fun z => ?_, .inl hb, fun x c e => ?_, fun p hp => absurd (show p ∈ ([] : List (Addr × Obj)) from hp) (by simp)⟩
  ·rcases List.mem_cons.mp (I3.stkSub b' z) with w | w
   ·exact (f3 b' hb).2.1 w
   ·exact (f3 b' hb).2.2.1 w
  ·intro z
   rcases zhO I3 b e with q | q
   ·exact Nat.lt_asymm q (z ▸ hfs b' hb)
   ·exact (f3 b' hb).2.2.2.2.1 x c q z
 have tn0 : tn 0 h' := T.keep _ _ _ st3 fun b' hb o e => hk b' o e
 have post : ∀ (s' : Shared) (σc : St) (H' : Hp), Inv (cxC X N scope s3.heap.objs.size s3 (upd H2 DD (.lst [])) fp) [] σc H' s' -> Q (.ref DD) H' -> compPost (model X.prog X.w) X.A X.xe use QQ (.ref DD) s3.heap.objs.size (.ok .next) s' := fun s' σc H' J' q => by
  cases use with
  | none =>
   obtain ⟨m, hn, _⟩ := J'.loc
   exact ⟨m, hn, fun h'' hs'' => fin _ _ ⟨.ref DD, H', zoE I3 f3 J' hs'', rfl, q⟩⟩
  | some f => exact fin DD fp _ _ H' σc s3 s' I3 f3 rfl J' q
 have loop : codeAny (model X.prog X.w) X.A (.compLoop (.ListComp elt [⟨tg, iter, ifs, 0⟩] scope pos) 0 (.ref it) (.ref DD) (compEnvC scope (clC scope X.env s3.heap.objs.size) s3.heap.objs.size X.env)) (compPost (model X.prog X.w) X.A X.xe use QQ (.ref DD) s3.heap.objs.size) { s3 with heap := h' } := by
  refine zlX (fun n s' => ∃ i σ' H', Inv (cxC X N scope s3.heap.objs.size s3 (upd H2 DD (.lst [])) fp) [] σ' H' s' /\ tn i s'.heap /\ (∀ b ∈ fp, H' b = none) /\ W i n σ' H') ?_ m0 ⟨0, σ0 σ, _, B0, tn0, fun b' hb => (f3 b' hb).1, w0⟩
  rintro n s5 ⟨i, σ5, H5, I5, st5, fr5, w5⟩
  rcases turn i n σ5 H5 w5 with ⟨stop, qn⟩ | ⟨go, step⟩
  ·refine thn (T.done (cxC X N scope s3.heap.objs.size s3 (upd H2 DD (.lst [])) fp) rfl rfl rfl hc i [] s5 σ5 H5 (fun _ _ => False) I5 (stat fr5) st5 stop) fun r s6 ⟨hr, I6⟩ => ?_
   subst hr
   exact post s6 σ5 H5 I6 qn
  ·refine thn (T.item (cxC X N scope s3.heap.objs.size s3 (upd H2 DD (.lst [])) fp) rfl rfl rfl hc i [] s5 σ5 H5 (fun _ _ => False) I5 (stat fr5) st5 go) fun r s6 ⟨u, hr, h6⟩ => ?_
   subst hr
   refine thn h6 fun _ s7 ⟨x, H7, I7, r7, y7, st7, fr7⟩ => ?_
   have I7' := I7.pinned (stat fr7) (T.obj _ _ st7)
   have again : ∀ {σ8 : St} {H8 : Hp} {s8 : Shared} {m' : Nat}, Inv (cxC X N scope s3.heap.objs.size s3 (upd H2 DD (.lst [])) fp) ([] ++ zle fp s7.heap) σ8 H8 s8 -> m' < n -> W (i + 1) m' σ8 H8 ->
     ∃ m, m < n /\ ∃ i σ' H', Inv (cxC X N scope s3.heap.objs.size s3 (upd H2 DD (.lst [])) fp) [] σ' H' s8 /\ tn i s8.heap /\ (∀ b ∈ fp, H' b = none) /\ W i m σ' H' := fun {σ8 H8 s8 m'} I8 hm w8 => by
    refine ⟨m', hm, i + 1, σ8, H8, I8.unpinned, T.keep _ _ _ st7 fun b' hb o e => (I8.pin (b', o) (List.mem_append_right _ (List.mem_append_right _ (zf4 hb e)))).1, fun b' hb => ?_, w8⟩
    obtain ⟨o, e, d⟩ := T.obj _ _ st7 b' hb
    exact (I8.pin (b', o) (List.mem_append_right _ (List.mem_append_right _ (zf4 hb e)))).2.1
   refine thn (hg _ _ _ _ _ s7 σ5 H7 x u _ I7' r7 (step _ _ _ _ x H7 y7)) fun _ s8 ⟨σ8, H8, I8, q8⟩ => ?_
   refine thn (ht _ _ _ _ _ s8 σ8 H8 _ I8 q8) fun ok s9 ⟨H9, I9, q9⟩ => ?_
   cases ok with
   | false =>
    obtain ⟨m', hm, w9⟩ := q9
    exact again I9 hm w9
   | true =>
    refine thn (he _ _ _ _ _ s9 σ8 H9 _ I9 q9) fun u10 s10 ⟨v10, H10, I10, r10, xs, hx, hz, m', hm, w10⟩ => ?_
    refine thn (zlx _ s10 σ8 H10 (.ref DD) [v10] (.ref DD) [u10] (fun v H' => v = .non /\ H' = upd H10 DD (.lst (xs ++ [v10]))) I10 rfl (.cons r10 .nil) ⟨DD, xs, v10, rfl, rfl, hx, hz, rfl, rfl⟩) fun _ s11 ⟨_, H11, I11, _, _, e11⟩ => ?_
    subst e11
    exact again I11 hm w10
 exact codeAny_compStart_list loop (T.self _ _ _ _ _ tn0 loop)
theorem pe_lc (hc : X.calm = true) (b : BlkOk X scope) (cap : Cap X scope N σ0) (hi : PI X tg iter wi) (hg : ∀ C s H fp, PG (cxC X N scope C s H fp) tg (g C s H fp)) (ht : ∀ C s H fp, PTs (cxC X N scope C s H fp) ifs (tt C s H fp)) (he : ∀ C s H fp, PE (cxC X N scope C s H fp) elt (te C s H fp))
    (hs : ∀ x, foldedSetIterable iter X.env x = pure x := by exact fun _ => rfl) : PE X (.ListComp elt [⟨tg, iter, ifs, 0⟩] scope pos) (tLC σ0 wi g tt te) := by
  intro pins s σ H Q I h
  rw [eval_ListComp]
  exact znH (use := none) (E := X.xe) hc b cap hi hg ht he I h hs (fun u s' q => q)
end
noncomputable def zdu (ρ : R) : Bool := ρ.all fun s => match s with
 | .own _ => false
 | .par _ => false
 | .tre _ => false
 | .ptr _ => false
 | _ => true
theorem zmf (h : zdu ρ = true) {a : Addr} (e : ρ[i]? = some s) : ¬ OwS K G H ov a s := fun w => by
 unfold zdu at h
 rw [List.all_eq_true] at h
 have := h s (List.mem_of_getElem? e)
 cases s with
 | emp => exact w
 | two _ _ => exact w
 | val d => exact w
 | _ => exact absurd (show false = true from this) Bool.false_ne_true
theorem zin (h : zdu ρ = true) (e : ρ[i]? = some s) : (∀ t, s ≠ .tre t) /\ ∀ t, s ≠ .ptr t := by
 unfold zdu at h
 rw [List.all_eq_true] at h
 have := h s (List.mem_of_getElem? e)
 constructor
 ·rintro t rfl; exact absurd (show false = true from this) Bool.false_ne_true
 ·rintro t rfl; exact absurd (show false = true from this) Bool.false_ne_true
theorem zil (h : zdu ρ = true) : ¬ Wr ρ i := fun ⟨s, ds, e, q⟩ => by
 unfold zdu at h
 rw [List.all_eq_true] at h
 have := h s (List.mem_of_getElem? e)
 cases s with
 | emp => cases q
 | two _ _ => cases q
 | tre _ => cases q
 | ptr _ => cases q
 | val d => cases q
 | own d => exact absurd (show false = true from this) Bool.false_ne_true
 | par d => exact absurd (show false = true from this) Bool.false_ne_true
structure VS (K : W.Frag) (G : Hp) (σ : St) (ρ : R) : Prop where
 len : σ.length = ρ.length
 no : zdu ρ = true
 val : ∀ (i : Nat) d, ρ[i]? = some (.val d) -> ∃ v, σ[i]? = some (some v) /\ RepD K G v d
theorem VS.si (h : VS K G σ ρ) (fz : Fz G H) : SI K ⟨G, H, []⟩ G H σ ρ where
 fz := fz
 g0 := Fz.refl G
 new := fun b o e => .inl (by show G b ≠ none; rw [e]; simp)
 keep := fun b o e _ => e
 there := fun b e => e
 ob := fun i b m => by cases m
 len := h.len
 slot := fun i s e => by
  cases s with
  | emp => trivial
  | two _ _ => trivial
  | tre t => exact absurd rfl ((zin h.no e).1 t)
  | ptr t => exact absurd rfl ((zin h.no e).2 t)
  | val d => exact h.val i d e
  | own ds => exact absurd ⟨_, ds, e, rfl⟩ (zil h.no (i := i))
  | par ds => exact absurd ⟨_, ds, e, rfl⟩ (zil h.no (i := i))
 dis := fun i j s _ a _ e _ w => absurd w (zmf h.no e)
theorem VS.of (I : SI K B G H σ ρ) (h : zdu ρ = true) : VS K G σ ρ := ⟨I.len, h, fun i d e => I.slot i _ e⟩
noncomputable def fz1 (i : Nat) (ρ : R) : R := match ρ[i]? with
 | some (.own ds) => ρ.set i (.val (.lst ds))
 | _ => ρ
noncomputable def fzL : List Nat -> R -> R
 | [], ρ => ρ
 | i :: is, ρ => fzL is (fz1 i ρ)
theorem SI.fz1 (I : SI K B G H σ ρ) (i : Nat) : ∃ G', SI K B G' H σ (M.fz1 i ρ) /\ Fz G G' := by
 unfold M.fz1
 cases e : ρ[i]? with
 | none => exact ⟨G, I, Fz.refl G⟩
 | some s =>
  cases s with
  | own ds => obtain ⟨l, xs, _, f, _, I'⟩ := I.freeze e; exact ⟨_, I', f⟩
  | emp => exact ⟨G, I, Fz.refl G⟩
  | two _ _ => exact ⟨G, I, Fz.refl G⟩
  | tre _ => exact ⟨G, I, Fz.refl G⟩
  | ptr _ => exact ⟨G, I, Fz.refl G⟩
  | val _ => exact ⟨G, I, Fz.refl G⟩
  | par _ => exact ⟨G, I, Fz.refl G⟩
theorem SI.fzL : ∀ (is : List Nat) {G : Hp} {ρ : R}, SI K B G H σ ρ -> ∃ G', SI K B G' H σ (M.fzL is ρ) /\ Fz G G'
 | [], G, ρ, I => ⟨G, I, Fz.refl G⟩
 | i :: is, G, ρ, I => by
  obtain ⟨G1, I1, f1⟩ := I.fz1 i
  obtain ⟨G2, I2, f2⟩ := SI.fzL is I1
  exact ⟨G2, I2, f1.trans f2⟩
noncomputable def capS (ρ : R) (i : Nat) : Sl := match ρ[i]? with
 | some (.val d) => .val d
 | _ => .emp
theorem znw (ρ : R) (i : Nat) : capS ρ i = .emp \/ ∃ d, capS ρ i = .val d := by
 unfold capS
 split
 ·exact .inr ⟨_, rfl⟩
 ·exact .inl rfl
noncomputable def capR (cap : List Nat) (t : Nat) (ρ : R) : R := cap.map (capS ρ) ++ List.replicate t .emp
noncomputable def capσ (cap : List Nat) (t : Nat) (σ : St) : St := cap.map (fun i => (σ[i]?).join) ++ List.replicate t none
theorem cap_vs (I : SI K B G H σ ρ) (cap : List Nat) (t : Nat) : VS K G (capσ cap t σ) (capR cap t ρ) where
 len := by unfold capσ capR; simp
 no := by
  unfold zdu capR
  rw [List.all_eq_true]
  intro s hs
  rcases List.mem_append.mp hs with h | h
  ·obtain ⟨i, _, rfl⟩ := List.mem_map.mp h
   rcases znw ρ i with e | ⟨d, e⟩
   ·rw [e]
   ·rw [e]
  ·rw [List.eq_of_mem_replicate h]
 val := fun i d e => by
  unfold capR at e
  by_cases hi : i < cap.length
  ·rw [List.getElem?_append_left (by simpa using hi), List.getElem?_map, List.getElem?_eq_getElem hi] at e
   have e' : capS ρ cap[i] = .val d := by simpa using e
   unfold capS at e'
   split at e'
   ·rename_i d' q
    cases e'
    obtain ⟨v, h1, h2⟩ := I.slot _ _ q
    refine ⟨v, ?_, h2⟩
    unfold capσ
    rw [List.getElem?_append_left (by simpa using hi), List.getElem?_map, List.getElem?_eq_getElem hi]
    simp [h1]
   ·cases e'
  ·rw [List.getElem?_append_right (by simpa using hi), List.getElem?_replicate] at e
   split at e
   ·cases e
   ·cases e
noncomputable def zeX (f : D -> R -> Option (Option D × R)) : List D -> R -> Option (List D × R)
 | [], ρ => some ([], ρ)
 | d :: ds, ρ => (f d ρ).bind fun p => (zeX f ds p.2).map fun q => (p.1.toList ++ q.1, q.2)
noncomputable def zm7 (g : D -> R -> Option R) (mt : MT) (me : ME) : D -> R -> Option (Option D × R) := fun d ρ => (g d ρ).bind fun ρ1 => (mt ρ1).bind fun p => if p.1 then (me p.2).bind fun q => if zdu q.2 then some (some q.1, q.2) else none else if zdu p.2 then some (none, p.2) else none
noncomputable def oLC (cap : List Nat) (t : Nat) (mi : MA) (g : D -> R -> Option R) (mt : MT) (me : ME) : MO := fun ρ => (mi ρ).bind fun p => if p.1.length <= 16777216 then (zeX (zm7 g mt me) p.1 (capR cap t (fzL cap p.2))).map fun q => (q.1, fzL cap p.2) else none
noncomputable def STs (X : Cx) (ifs : List Expr) (m : MT) : Prop :=
 ∃ t, PTs X ifs t /\ ∀ B G H σ ρ d ρ' (Q : Bool -> Hp -> Prop), SI X.K B G H σ ρ -> m ρ = some (d, ρ') -> (∀ G' H', SI X.K B G' H' σ ρ' -> Fz G G' -> Q d H') -> t σ H Q
noncomputable def zbj : MT := fun ρ => some (true, ρ)
theorem zaz : STs X [] zbj := ⟨_, pts_nil, fun B G H σ ρ d ρ' Q I hm k => by cases hm; exact k G H I (Fz.refl G)⟩
theorem znA {c : Expr} (h : STt X c m) : STs X [c] m := let ⟨t, p, s⟩ := h; ⟨t, pts_one p, s⟩
noncomputable def blkB (env : Env) (scope : Scope) : Bool := (scope.names.all fun x => scope.names.lookup x.1 == some x.2 && (x.2 != .free || (env.kindOf x.1 == some .cell || env.kindOf x.1 == some .free)))
theorem zjo (hk : scope.kind = .function) (h : blkB X.env scope = true) : BlkOk X scope := by
 unfold blkB at h
 rw [List.all_eq_true] at h
 refine ⟨hk, fun x hx => ?_, fun x hx hf => ?_⟩
 ·have := h x hx
  simp only [Bool.and_eq_true, Bool.or_eq_true, bne_iff_ne, beq_iff_eq] at this
  exact this.1
 ·have := h x hx
  simp only [Bool.and_eq_true, Bool.or_eq_true, bne_iff_ne, beq_iff_eq] at this
  exact (this.2).resolve_left (fun z => z hf)
noncomputable def capB (names : List (Str × NameKind)) (N XN : List Str) (cap : List Nat) (t : Nat) : Bool := N.length == cap.length + t && (cap.zip N).all fun p => XN[p.1]? == some p.2 && names.lookup p.2 == some .free
theorem zjr (h : capB scope.names N X.N cap t = true) : Cap X scope N (capσ cap t) := by
 unfold capB at h
 rw [Bool.and_eq_true, List.all_eq_true] at h
 obtain ⟨hl, h⟩ := h
 have hl : N.length = cap.length + t := by simpa using hl
 have key : ∀ (σ : St) (i : Nat) (x : Str) (v : V), N[i]? = some x -> (capσ cap t σ)[i]? = some (some v) -> ∃ j, cap[i]? = some j /\ σ[j]? = some (some v) /\ X.N[j]? = some x /\ scope.names.lookup x = some .free := fun σ i x v h1 h2 => by
  unfold capσ at h2
  by_cases hi : i < cap.length
  ·rw [List.getElem?_append_left (by simpa using hi), List.getElem?_map, List.getElem?_eq_getElem hi] at h2
   have h3 : (σ[cap[i]]?).join = some v := by simpa using h2
   have hz : (cap[i], x) ∈ cap.zip N := by
    refine List.mem_of_getElem? (i := i) ?_
    rw [List.getElem?_zip_eq_some]
    exact ⟨List.getElem?_eq_getElem hi, h1⟩
   have := h _ hz
   simp only [Bool.and_eq_true, beq_iff_eq] at this
   refine ⟨cap[i], List.getElem?_eq_getElem hi, ?_, this.1, this.2⟩
   cases q : σ[cap[i]]? with
   | none => rw [q] at h3; cases h3
   | some o => rw [q] at h3; rw [show o = some v from h3]
  ·rw [List.getElem?_append_right (by simpa using hi), List.getElem?_replicate] at h2
   split at h2 <;> cases h2
 refine ⟨fun σ => by unfold capσ; simp [hl], fun σ i x v h1 h2 => ?_, fun σ i x v h1 h2 z => ?_⟩
 ·obtain ⟨j, _, a, b, c⟩ := key σ i x v h1 h2
  exact ⟨zf7 c, j, b, a⟩
 ·obtain ⟨j, _, a, b, c⟩ := key σ i x v h1 h2
  have e : (relabel scope X.env).names.lookup x = (scope.names.lookup x).map fun k => if (k == NameKind.free && X.env.scope.kind == .function && X.env.kindOf x == some .cell) then NameKind.cell else k := zdA
  rw [e, c] at z
  simp only [Option.map_some, Option.some.injEq] at z
  split at z <;> cases z
structure LcV (K : W.Frag) (g : D -> R -> Option R) (mt : MT) (me : ME) (items all : List D) (G2 H1 : Hp) (DD : Addr) (i : Nat) (σc : St) (Hc Gc : Hp) (ρc : R) (acc : List D) (xs : List V) (rest : List D) (ρe : R) : Prop where
 fc : Fz G2 Gc
 fcH : Fz Gc Hc
 nw : ∀ b o, Gc b = some o -> G2 b ≠ none \/ H1 b = none
 kp : ∀ b o, H1 b = some o -> Hc b = some o
 gD : Gc DD = none
 hDc : Hc DD = some (.lst xs)
 ra : RepL K Gc xs acc
 hx : xs.length <= i
 vs : VS K Gc σc ρc
 ec : zeX (zm7 g mt me) (items.drop i) ρc = some (rest, ρe)
 eall : all = acc ++ rest
section
variable {X : Cx} {elt iter tg : Expr} {ifs : List Expr} {scope : Scope} {pos : Pos} {N : List Str} {cap : List Nat} {t : Nat} {mi : MA} {g : D -> R -> Option R} {mt : MT} {me : ME}
theorem zjJ 
  (si : ∀ B G H σ ρ ds ρ' (Q : It -> Hp -> Prop), SI X.K B G H σ ρ -> mi ρ = some (ds, ρ') -> (∀ J G' H', SI X.K B G' H' σ ρ' -> Fz G G' -> Itm X.K J G' ds -> Q J H') -> wi σ H Q)
  (sg : ∀ C s H₀ fp B G H σ ρ v d ρ' (Q : St -> Hp -> Prop), SI X.K B G H σ ρ -> RepD X.K G v d -> g d ρ = some ρ' -> (∀ G' H' σ', SI X.K B G' H' σ' ρ' -> Fz G G' -> Q σ' H') -> tg' C s H₀ fp v σ H Q)
  (st : ∀ C s H₀ fp B G H σ ρ d ρ' (Q : Bool -> Hp -> Prop), SI X.K B G H σ ρ -> mt ρ = some (d, ρ') -> (∀ G' H', SI X.K B G' H' σ ρ' -> Fz G G' -> Q d H') -> tt C s H₀ fp σ H Q)
  (se : ∀ C s H₀ fp B G H σ ρ d ρ' (Q : VK), SI X.K B G H σ ρ -> me ρ = some (d, ρ') -> (∀ G' H' v, SI X.K B G' H' σ ρ' -> Fz G G' -> RepD X.K G' v d -> Q v H') -> te C s H₀ fp σ H Q) :
  ∀ B G H σ ρ ds ρ' (Q : VK), SI X.K B G H σ ρ -> oLC cap t mi g mt me ρ = some (ds, ρ') ->
   (∀ G' H' l xs, SI X.K B G' H' σ ρ' -> Fz G G' -> G' l = none -> H' l = some (.lst xs) -> RepL X.K G' xs ds -> B.H l = none -> Nw X.K G' H' σ ρ' l -> Q (.ref l) H') -> tLC (capσ cap t) wi tg' tt te σ H Q := by
 intro B G H σ ρ ds ρ' Q I hm k
 obtain ⟨⟨items, ρ1⟩, e1, hm⟩ := zah hm
 refine si B G H σ ρ items ρ1 _ I e1 fun J G1 H1 I1 f1 IT DD hD => ?_
 dsimp only at hm
 split at hm
 ·rename_i hlen
  obtain ⟨⟨all, ρf⟩, e2, e3⟩ := zaA hm
  obtain ⟨rfl, rfl⟩ := Prod.mk.inj e3
  obtain ⟨G2, I2, f2⟩ := SI.fzL cap I1
  have hDG : G2 DD = none := I2.fz.free hD
  refine ⟨fun i m σc Hc => m = items.length - i /\ i <= items.length /\ ∃ Gc ρc acc xs rest ρe, LcV X.K g mt me items all G2 H1 DD i σc Hc Gc ρc acc xs rest ρe,
   ⟨items.length, by simp, Nat.zero_le _, G2, capR cap t (M.fzL cap ρ1), [], [], all, ρf, { fc := Fz.refl _, fcH := I2.fz.right hDG _, nw := fun b o e => .inl (by rw [e]; simp), kp := fun b o e => by rw [zaC (zaK e hD)]; exact e, gD := hDG, hDc := zaV, ra := .nil, hx := Nat.le_refl _, vs := cap_vs I2 cap t, ec := by simpa using e2, eall := rfl }⟩, ?_⟩
  rintro i m σc Hc ⟨rfl, hi, Gc, ρc, acc, xs, rest, ρe, J0⟩
  obtain ⟨fc, fcH, nw, kp, gD, hDc, ra, hx, vs, ec, eall⟩ := J0
  by_cases hlt : i < items.length
  ·refine .inr ⟨IT.go Hc i (f2.trans (fc.trans fcH)) hlt, fun C s₀ H₀ fp x H' y => ?_⟩
   rw [List.drop_eq_getElem_cons hlt] at ec
   simp only [zeX] at ec
   obtain ⟨⟨o, ρ3⟩, h3, ec⟩ := zah ec
   obtain ⟨⟨rest2, ρ4⟩, h4, ec⟩ := zaA ec
   obtain ⟨rfl, rfl⟩ := Prod.mk.inj ec
   dsimp only at h4
   unfold zm7 at h3
   obtain ⟨ρ5, h5, h3⟩ := zah h3
   obtain ⟨⟨ok, ρ6⟩, h6, h3⟩ := zah h3
   dsimp only at h3
   have Ic : SI X.K ⟨Gc, Hc, []⟩ Gc Hc σc ρc := vs.si fcH
   have fz2 : Fz G1 Hc := f2.trans (fc.trans fcH)
   have yy := IT.yld Hc i x H' fz2 y items[i] (List.getElem?_eq_getElem hlt)
   have yy2 : (H' = Hc /\ RepD X.K Gc x items[i]) \/ ∃ p xs es, Hc p = none /\ H' = upd Hc p (.tup xs) /\ x = .ref p /\ items[i] = .tup es /\ RepL X.K Gc xs es := by
    rcases yy with ⟨a, b⟩ | ⟨p, xs, es, a, b, c, d, e⟩
    ·exact .inl ⟨a, b.mono (f2.trans fc)⟩
    ·exact .inr ⟨p, xs, es, a, b, c, d, e.mono (f2.trans fc)⟩
   obtain ⟨G3, I3, f3, r3⟩ := Ic.yld yy2
   refine sg C s₀ H₀ fp _ G3 H' σc ρc x items[i] ρ5 _ I3 r3 h5 fun G4 H4 σ4 I4 f4 => st C s₀ H₀ fp _ G4 H4 σ4 ρ5 ok ρ6 _ I4 h6 fun G5 H5 I5 f5 => ?_
   have facts : ∀ (G' H' : Hp) (σ' : St) (ρ' : R), SI X.K ⟨Gc, Hc, []⟩ G' H' σ' ρ' -> (∀ b o, G' b = some o -> G2 b ≠ none \/ H1 b = none) /\ (∀ b o, H1 b = some o -> H' b = some o) /\ G' DD = none /\ H' DD = some (.lst xs) := fun G' H' σ' ρ' I' => by
    refine ⟨fun b o e => ?_, fun b o e => I'.keep b o (kp b o e) (by simp), ?_, I'.keep DD _ hDc (by simp)⟩
    ·rcases I'.new b o e with h | h
     ·have h : Gc b ≠ none := h
      cases q : Gc b with
      | none => exact absurd q h
      | some u => exact nw b u q
     ·refine .inr ?_
      cases q : H1 b with
      | none => rfl
      | some u => have := kp b u q; rw [show Hc b = none from h] at this; cases this
    ·cases q : G' DD with
     | none => rfl
     | some u =>
      rcases I'.new DD u q with h | h
      ·exact absurd gD h
      ·rw [show Hc DD = none from h] at hDc; cases hDc
   cases ok with
   | false =>
    simp only [Bool.false_eq_true, if_false] at h3
    split at h3
    ·rename_i hno
     cases h3
     obtain ⟨a1, a2, a3, a4⟩ := facts G5 H5 σ4 _ I5
     exact ⟨items.length - (i + 1), by lia, rfl, hlt, G5, _, acc, xs, rest2, ρ4, { fc := fc.trans (f3.trans (f4.trans f5)), fcH := I5.fz, nw := a1, kp := a2, gD := a3, hDc := a4, ra := ra.mono (f3.trans (f4.trans f5)), hx := by lia, vs := VS.of I5 hno, ec := h4, eall := by simpa using eall }⟩
    ·cases h3
   | true =>
    simp only [if_true] at h3 ⊢
    obtain ⟨⟨dv, ρ7⟩, h7, h3⟩ := zah h3
    dsimp only at h3
    split at h3
    ·rename_i hno
     cases h3
     refine se C s₀ H₀ fp _ G5 H5 σ4 ρ6 dv _ _ I5 h7 fun G6 H6 v I6 f6 r6 => ?_
     obtain ⟨a1, a2, a3, a4⟩ := facts G6 H6 σ4 _ I6
     have ff : Fz Gc G6 := f3.trans (f4.trans (f5.trans f6))
     exact ⟨xs, a4, by rw [sizeLine_eq]; lia, items.length - (i + 1), by lia, rfl, hlt, G6, _, acc ++ [dv], xs ++ [v], rest2, ρ4, { fc := fc.trans ff, fcH := I6.fz.right a3 _, nw := a1, kp := fun b o e => by rw [zaC (zaK e hD)]; exact a2 b o e, gD := a3, hDc := zaV, ra := (ra.mono ff).snoc r6, hx := by rw [List.length_append, List.length_singleton]; lia, vs := VS.of I6 hno, ec := h4, eall := by rw [eall]; simp }⟩
    ·cases h3
  ·have e : i = items.length := by lia
   subst e
   rw [List.drop_length] at ec
   cases ec
   have hall : all = acc := by rw [eall, List.append_nil]
   refine .inl ⟨IT.stop Hc _ (f2.trans (fc.trans fcH)) (Nat.le_refl _), ?_⟩
   rw [<- hall] at ra
   exact k Gc Hc DD xs (I2.grow fc fcH nw kp) (f1.trans (f2.trans fc)) gD hDc ra (I2.there DD hD) (I2.own_ne hD nw kp)
 ·cases hm
theorem zcf (cap : List Nat) (t : Nat) (N : List Str) (hc : X.calm = true) (hi : SIt X tg iter mi) (hg : ∀ C s H fp, SG (cxC X N scope C s H fp) tg g) (ht : ∀ C s H fp, STs (cxC X N scope C s H fp) ifs mt) (he : ∀ C s H fp, SE (cxC X N scope C s H fp) elt me)
    (hk : scope.kind = .function := by rfl) (hb : blkB X.env scope = true := by kernel_rfl) (hcap : capB scope.names N X.N cap t = true := by kernel_rfl)
    (hs : ∀ x, foldedSetIterable iter X.env x = pure x := by exact fun _ => rfl) : SO X (.ListComp elt [⟨tg, iter, ifs, 0⟩] scope pos) (oLC cap t mi g mt me) := by
  obtain ⟨wi, pi, si⟩ := hi
  exact ⟨_, pe_lc hc (zjo hk hb) (zjr hcap) pi (fun C s H fp => (hg C s H fp).choose_spec.1) (fun C s H fp => (ht C s H fp).choose_spec.1) (fun C s H fp => (he C s H fp).choose_spec.1) hs,
    zjJ si (fun C s H fp => (hg C s H fp).choose_spec.2) (fun C s H fp => (ht C s H fp).choose_spec.2) (fun C s H fp => (he C s H fp).choose_spec.2)⟩
end
section
variable {X : Cx} {elt iter tg : Expr} {ifs : List Expr} {scope : Scope} {pos lpos pos' : Pos} {N : List Str} {cap : List Nat} {t : Nat} {mi : MA} {g : D -> R -> Option R} {mt : MT} {me : ME}
theorem zim {σ0 : St -> St} (hN : X.N.Nodup) (hxi : X.N[i]? = some x) (hx : Loc X.env.scope x) (hf : X.fn x = true \/ X.env.scope.names.lookup x = some .local)
  (hsw : swapsWith (.ListComp elt [⟨tg, iter, ifs, 0⟩] scope lpos) (some (.Name x pos')) pos.line X.env = pure true) (hc : X.calm = true) (b : BlkOk X scope) (cap : Cap X scope N σ0) (hi : PI X tg iter wi) (hg : ∀ C s H fp, PG (cxC X N scope C s H fp) tg (tg' C s H fp)) (ht : ∀ C s H fp, PTs (cxC X N scope C s H fp) ifs (tt C s H fp)) (he : ∀ C s H fp, PE (cxC X N scope C s H fp) elt (te C s H fp))
  (hs : ∀ x, foldedSetIterable iter X.env x = pure x) : PS X (.Assign [.Name x pos'] (.ListComp elt [⟨tg, iter, ifs, 0⟩] scope lpos) pos) (fun E σ H => tLC σ0 wi tg' tt te σ H fun v H' => E.nx (σ.set i (some v)) H') := by
 intro pins s σ H E I h
 rw [exec_Assign_Name_used _ _ _ _ hsw]
 refine wpAny_bind (wpAny_standAt (wpAny_bind ?_))
 show wpAny _ _ (do let _ <- comprehension (.ListComp elt [⟨tg, iter, ifs, 0⟩] scope lpos) scope X.env _ (newList []) false (eval iter X.env) (some (assign (.Name x pos') X.env))) _ _ s
 refine wpAny_bind (thn (znH (use := some (assign (.Name x pos') X.env)) (QQ := fun _ s' => SP X pins E .next s') (E := X.xe) hc b cap hi hg ht he I h hs ?_) fun _ s' hq => wpAny_pure (wpAny_pure hq))
 intro D fp C H1 H' σc s1 s' I1 f1 eC J q
 subst eC
 have I2 : Inv X pins σ H' s' := by
  have z := zoE (h' := s'.heap) I1 f1 J (Heap.SameBut.refl _ _)
  exact z
 obtain ⟨m, ⟨o, es, ep, ho, hd, hrest⟩, _⟩ := J.loc
 have fpk : FpOk X pins H' s1.heap.objs.size := I1.fpOk (Nat.le_refl _) J.free
 have I3 : Inv X (pins ++ [(s1.heap.objs.size, o)]) σ H' s' := I2.pins_of fun p hp => by
  rcases List.mem_append.mp hp with hp | hp
  ·exact I2.pin p (List.mem_append_right _ hp)
  ·have e : p = (s1.heap.objs.size, o) := by simpa using hp
   subst e
   exact ⟨ho, fpk.1, fpk.2.1, fpk.2.2.1, fun v z => by rw [hd] at z; cases z⟩
 refine thn (zl0 hN hxi hx hf (pins ++ [(s1.heap.objs.size, o)]) s' σ H' (.ref D) (.ref D) (fun σ2 H2 => E.nx σ2 H2) I3 rfl q) fun _ s'' ⟨σ2, H2, I4, q4⟩ => ?_
 have pC := I4.pin (s1.heap.objs.size, o) (List.mem_append_right _ (List.mem_append_right _ (by simp)))
 refine ⟨m, ⟨o, es, ep, pC.1, hd, hrest⟩, fun h' hs' => ?_⟩
 have I5 : Inv X pins σ2 H2 s'' := I4.unpinned
 have fp2 : FpOk X pins H2 s1.heap.objs.size := I1.fpOk (Nat.le_refl _) pC.2.1
 have I6 := I5.turned (t' := s''.toks) (h' := h') (it := s1.heap.objs.size) (fun b' o' hb e => hs'.extBut b' o' hb e) fp2.1 fp2.2.1 fp2.2.2.2.1 fp2.2.2.2.2.1 fp2.2.2.2.2.2
 exact ⟨σ2, H2, I6, q4⟩
theorem zkm (i : Nat) (cap : List Nat) (t : Nat) (N : List Str) (hc : X.calm = true) (hi : SIt X tg iter mi) (hg : ∀ C s H fp, SG (cxC X N scope C s H fp) tg g) (ht : ∀ C s H fp, STs (cxC X N scope C s H fp) ifs mt) (he : ∀ C s H fp, SE (cxC X N scope C s H fp) elt me) (hN : X.N.Nodup)
    (hxi : X.N[i]? = some x := by rfl) (hx : Loc X.env.scope x := by first | exact Or.inl rfl | exact Or.inr rfl) (hf : X.fn x = true \/ X.env.scope.names.lookup x = some .local := by first | exact Or.inl rfl | exact Or.inr rfl)
    (hsw : swapsWith (.ListComp elt [⟨tg, iter, ifs, 0⟩] scope lpos) (some (.Name x pos')) pos.line X.env = pure true := by rfl)
    (hk : scope.kind = .function := by rfl) (hb : blkB X.env scope = true := by kernel_rfl) (hcap : capB scope.names N X.N cap t = true := by kernel_rfl)
    (hs : ∀ x, foldedSetIterable iter X.env x = pure x := by exact fun _ => rfl) : SS X (.Assign [.Name x pos'] (.ListComp elt [⟨tg, iter, ifs, 0⟩] scope lpos) pos) (zeY i (oLC cap t mi g mt me)) := by
  obtain ⟨wi, pi, si⟩ := hi
  refine ⟨_, zim hN hxi hx hf hsw hc (zjo hk hb) (zjr hcap) pi (fun C s H fp => (hg C s H fp).choose_spec.1) (fun C s H fp => (ht C s H fp).choose_spec.1) (fun C s H fp => (he C s H fp).choose_spec.1) hs, fun B G H σ ρ fl ρ' E I hm k => ?_⟩
  obtain ⟨⟨d, ρ1⟩, e1, e3⟩ := zaA hm
  obtain ⟨rfl, rfl⟩ := Prod.mk.inj e3
  exact zjJ si (fun C s H fp => (hg C s H fp).choose_spec.2) (fun C s H fp => (ht C s H fp).choose_spec.2) (fun C s H fp => (he C s H fp).choose_spec.2) B G H σ ρ d ρ1 _ I e1 fun G1 H1 l xs I1 f1 g1 h1 r1 b1 n1 => k G1 H1 _ (I1.setO g1 h1 r1 b1 n1) f1
end
section
variable {X : Cx} {pins : List (Addr × Obj)} {σ : St} {H : Hp} {s : Shared}
theorem zf8 {A : Around} {p : Addr} (hh : A.handled = none) (I : Inv X pins σ H s) (hq : SqL X.K H p ys \/ SqT X.K H p ys)
  (k : ∀ (its : List Value) (s₂ : Shared) (St : Nat -> Heap -> Prop), Vals ys its -> Walks X.prog X.w A s.heap.objs.size [s.heap.objs.size, p] [s.heap.objs.size] its.length (fun i v => its[i]? = some v) St -> St 0 s₂.heap -> (∀ b ∈ [s.heap.objs.size, p], b < s₂.heap.objs.size) ->
   (∀ h' tk, (∀ b o, b ∉ [s.heap.objs.size] -> s₂.heap.get? b = some o -> h'.get? b = some o) -> Inv X pins σ H { s₂ with heap := h', toks := tk }) -> Q (.ref s.heap.objs.size) s₂) : wpAny (model X.prog X.w) A (pyIter (.ref p)) Q E s := by
 have fin : ∀ (o : Obj), ∀ h' tk, (∀ b o', b ∉ [s.heap.objs.size] -> (s.heap.push o).get? b = some o' -> h'.get? b = some o') -> Inv X pins σ H { ({ s with heap := s.heap.push o } : Shared) with heap := h', toks := tk } := fun o h' tk hk => by
  have z := I.kept (h' := h') (t' := tk) fun b o' e => hk b o' (by simpa using Nat.ne_of_lt (Heap.lt_size e)) (Heap.get?_push_of_some _ e)
  exact z
 rcases hq with hq | hq
 ·obtain ⟨its, r, pl, hz⟩ := I.list hq
  have hlt : p < s.heap.objs.size := by obtain ⟨_, _, e, _⟩ := pl; exact Heap.lt_size e
  refine wpAny_pyIter_list pl.isList (k its _ (fun i h => h.IsListIter s.heap.objs.size p i /\ h.IsList p its.toArray) r ?_ ⟨⟨_, Heap.get?_push_size _ rfl, rfl, rfl⟩, pl.isList.push _⟩ (fun b hb => ?_) (fin _))
  ·have w := Walks.list (prog := X.prog) (w := X.w) (A := A) hh s.heap.objs.size p (Nat.ne_of_lt hlt) its.toArray
   simpa using w
  ·show b < (s.heap.push _).objs.size
   rw [Heap.size_push]
   simp at hb
   rcases hb with z | z
   ·rw [z]; exact Nat.lt_succ_self _
   ·rw [z]; exact Nat.lt_succ_of_lt hlt
 ·obtain ⟨its, r, pl, hz⟩ := I.tuple hq
  have hlt : p < s.heap.objs.size := pl.lt
  refine wpAny_pyIter_tuple (show s.heap.IsTuple p its.toArray from pl) (k its _ (fun i h => h.IsTupleIter s.heap.objs.size p i /\ h.IsTuple p its.toArray) r ?_ ⟨⟨_, Heap.get?_push_size _ rfl, rfl, rfl⟩, (show s.heap.IsTuple p its.toArray from pl).push _⟩ (fun b hb => ?_) (fin _))
  ·have w := Walks.tuple (prog := X.prog) (w := X.w) (A := A) hh s.heap.objs.size p (Nat.ne_of_lt hlt) its.toArray
   simpa using w
  ·show b < (s.heap.push _).objs.size
   rw [Heap.size_push]
   simp at hb
   rcases hb with z | z
   ·rw [z]; exact Nat.lt_succ_self _
   ·rw [z]; exact Nat.lt_succ_of_lt hlt
end
theorem zjt (ns : List Int) : ∀ j, preSum (fun i => ns.getD i 0) j = (ns.take j).sum
 | 0 => by simp [preSum]
 | j + 1 => by
  rw [preSum, zjt ns j]
  by_cases h : j < ns.length
  ·rw [List.take_succ_eq_append_getElem h, List.sum_append]
   simp [h]
  ·rw [List.take_of_length_le (by lia), List.take_of_length_le (by lia)]
   simp [List.getElem?_eq_none (by lia : ns.length <= j)]
theorem zg3 (r : Vals (ns.map V.int) its) {v : Value} (e : its[i]? = some v) : ∃ t, v = .int (ns.getD i 0) t := by
 have hl := r.length
 have hi : i < its.length := (List.getElem?_eq_some_iff.mp e).1
 rw [List.length_map] at hl
 have e2 : (ns.map V.int)[i]? = some (.int ns[i]) := by rw [List.getElem?_map, List.getElem?_eq_getElem (by lia)]; rfl
 obtain ⟨u, h1, t, h2⟩ := r.get e2
 rw [e] at h1; cases h1
 exact ⟨t, by rw [h2]; simp [show i < ns.length by lia]⟩
noncomputable def rSum (K : W.Frag) : List V -> Hp -> VK -> Prop := fun xs H Q => ∃ (p : Addr) (ns : List Int), xs = [.ref p] /\ (SqL K H p (ns.map V.int) \/ SqT K H p (ns.map V.int)) /\ Q (.int ns.sum) H
theorem zoa (hc : X.calm = true) : zhe X (.builtin "sum") (rSum X.K) := by
 intro pins s σ H xs us Q I r h
 obtain ⟨p, ns, rfl, hq, q⟩ := h
 obtain ⟨u, rfl, ru⟩ := zjL r
 cases ru
 refine call_sum_walkG (zf8 (A := X.A.in1) (I.ok.hd hc) I hq fun its s₂ St rv W st hfp fin => ?_)
 refine ⟨_, _, _, _, _, _, fun i => ns.getD i 0, rfl, W, st, hfp, fun i v e => zg3 rv e, fun h' tk t' hk => ⟨.int ns.sum, H, fin h' tk hk, ⟨t', ?_⟩, q⟩⟩
 have hl := rv.length
 rw [List.length_map] at hl
 rw [zjt, <- hl, List.take_of_length_le (Nat.le_refl _)]
noncomputable def zcn : List D -> Option (List Int)
 | [] => some []
 | .int i :: ds => (zcn ds).map (i :: ·)
 | _ => none
theorem zhx : ∀ {ds : List D} {ns : List Int}, zcn ds = some ns -> ds = ns.map .int
 | [], ns, h => by cases h; rfl
 | d :: ds, ns, h => by
  cases d <;> simp only [zcn] at h <;> try cases h
  obtain ⟨ms, e1, e2⟩ := zaA h
  subst e2
  rw [zhx e1]; rfl
@[simp] theorem intsOf_map : ∀ (ns : List Int), zcn (ns.map .int) = some ns
 | [] => rfl
 | n :: ns => by simp [zcn, intsOf_map ns]
noncomputable def dSum : List D -> Option D
 | [d] => (zaL [d]).bind fun ds => (zcn ds).map fun ns => .int ns.sum
 | _ => none
theorem zik (I : SI K B G H σ ρ) {x : V} (r : RepD K G x d) (e : zaL [d] = some ds) : ∃ p ys, x = .ref p /\ (SqL K H p ys \/ SqT K H p ys) /\ RepL K G ys ds := by
 cases d <;> simp only [zaL] at e <;> try cases e
 ·obtain ⟨p, ys, ex, hp, q⟩ := I.lst r
  exact ⟨p, ys, ex, .inl (SqL.of hp), q⟩
 ·obtain ⟨p, ys, ex, hp, q⟩ := I.tup r
  exact ⟨p, ys, ex, .inr (SqT.of hp), q⟩
 ·obtain ⟨p, ex, hp⟩ := r
  exact ⟨p, _, ex, .inl (I.fz.sql hp), RepL.ints _⟩
theorem vc_sum : VC X (rSum X.K) dSum := by
 intro B G H σ ρ xs ds d Q I r hf k
 match ds, hf with
 | [a], hf =>
  obtain ⟨es, e1, hf⟩ := zah hf
  obtain ⟨ns, e2, e3⟩ := zaA hf
  subst e3
  obtain ⟨x, rfl, ra⟩ := r.one
  obtain ⟨p, ys, rfl, hq, ry⟩ := zik I ra e1
  rw [zhx e2] at ry
  rw [RepL.ints_eq ry] at hq
  exact ⟨p, ns, rfl, hq, k G H _ I (Fz.refl G) rfl⟩
 | [], hf => cases hf
 | _ :: _ :: _, hf => cases hf
theorem zhh {p pos : Pos} (hc : X.calm = true) (ml : X.mg "sum" = none) (ha : SA X [e] ma) (hg : Gl X "sum" := by rfl) (he : starEach [e] X.env = (false, eval e X.env) :: starEach [] X.env := by rfl) : SE X (.Call (.Name "sum" p) [e] [] pos) (mC dSum ma) :=
 zdf (zoa hc) vc_sum (by decide +kernel) ml ha hg (by decide) (by decide) he rfl
noncomputable def zeb : List D -> Option (List Bool)
 | [] => some []
 | .bl b :: ds => (zeb ds).map (b :: ·)
 | _ => none
theorem zju : ∀ {ds : List D} {bs : List Bool}, zeb ds = some bs -> ds = bs.map .bl
 | [], ns, h => by cases h; rfl
 | d :: ds, ns, h => by
  cases d <;> simp only [zeb] at h <;> try cases h
  obtain ⟨ms, e1, e2⟩ := zaA h
  subst e2
  rw [zju e1]; rfl
@[simp] theorem boolsOf_map : ∀ (bs : List Bool), zeb (bs.map .bl) = some bs
 | [] => rfl
 | n :: ns => by simp [zeb, boolsOf_map ns]
theorem RepL.bools_eq : ∀ {bs : List Bool} {xs : List V}, RepL K G xs (bs.map D.bl) -> xs = bs.map V.bl
 | [], _, e => e
 | n :: ns, _, ⟨x, ys, e, q, r⟩ => by subst e; cases (show x = V.bl n from q); rw [RepL.bools_eq r]; rfl
theorem zkO {bs : List Bool} (r : Vals (bs.map V.bl) its) {v : Value} (e : its[i]? = some v) : ∃ b, bs[i]? = some b /\ v = .bool b := by
 have hl := r.length
 have hi : i < its.length := (List.getElem?_eq_some_iff.mp e).1
 rw [List.length_map] at hl
 have e2 : (bs.map V.bl)[i]? = some (.bl bs[i]) := by rw [List.getElem?_map, List.getElem?_eq_getElem (by lia)]; rfl
 obtain ⟨u, h1, h2⟩ := r.get e2
 rw [e] at h1; cases h1
 exact ⟨bs[i], List.getElem?_eq_getElem (by lia), h2⟩
noncomputable def rAll (K : W.Frag) (f : List Bool -> Bool) : List V -> Hp -> VK -> Prop := fun xs H Q => ∃ (p : Addr) (bs : List Bool), xs = [.ref p] /\ (SqL K H p (bs.map V.bl) \/ SqT K H p (bs.map V.bl)) /\ Q (.bl (f bs)) H
theorem zox (hc : X.calm = true) : zhe X (.builtin "all") (rAll X.K fun bs => bs.all id) := by
 intro pins s σ H xs us Q I r h
 obtain ⟨p, bs, rfl, hq, q⟩ := h
 obtain ⟨u, rfl, ru⟩ := zjL r
 cases ru
 refine call_all_walk (zf8 (A := X.A.in1) (I.ok.hd hc) I hq fun its s₂ St rv W st hfp fin => ?_)
 have hl := rv.length
 rw [List.length_map] at hl
 refine ⟨_, _, _, _, _, _, fun i => (bs[i]?).getD true, rfl, W, st, fun i v s' Q' E' hP hQ => ?_, fun h' tk hk => ⟨.bl (bs.all id), H, fin h' tk hk, ?_, q⟩⟩
 ·obtain ⟨b, e, rfl⟩ := zkO rv hP
  simp only [e, Option.getD_some] at hQ
  exact wpAny_truthy_bool hQ
 ·rw [<- hl, LSm.range_all]; rfl
theorem zof (hc : X.calm = true) : zhe X (.builtin "any") (rAll X.K fun bs => bs.any id) := by
 intro pins s σ H xs us Q I r h
 obtain ⟨p, bs, rfl, hq, q⟩ := h
 obtain ⟨u, rfl, ru⟩ := zjL r
 cases ru
 refine call_any_walk (zf8 (A := X.A.in1) (I.ok.hd hc) I hq fun its s₂ St rv W st hfp fin => ?_)
 have hl := rv.length
 rw [List.length_map] at hl
 refine ⟨_, _, _, _, _, _, fun i => (bs[i]?).getD false, rfl, W, st, fun i v s' Q' E' hP hQ => ?_, fun h' tk hk => ⟨.bl (bs.any id), H, fin h' tk hk, ?_, q⟩⟩
 ·obtain ⟨b, e, rfl⟩ := zkO rv hP
  simp only [e, Option.getD_some] at hQ
  exact wpAny_truthy_bool hQ
 ·rw [<- hl, LSm.range_any]; rfl
noncomputable def dAll (f : List Bool -> Bool) : List D -> Option D
 | [d] => (zaL [d]).bind fun ds => (zeb ds).map fun bs => .bl (f bs)
 | _ => none
theorem vc_all (f : List Bool -> Bool) : VC X (rAll X.K f) (dAll f) := by
 intro B G H σ ρ xs ds d Q I r hf k
 match ds, hf with
 | [a], hf =>
  obtain ⟨es, e1, hf⟩ := zah hf
  obtain ⟨ns, e2, e3⟩ := zaA hf
  subst e3
  obtain ⟨x, rfl, ra⟩ := r.one
  obtain ⟨p, ys, rfl, hq, ry⟩ := zik I ra e1
  rw [zju e2] at ry
  rw [RepL.bools_eq ry] at hq
  exact ⟨p, ns, rfl, hq, k G H _ I (Fz.refl G) rfl⟩
 | [], hf => cases hf
 | _ :: _ :: _, hf => cases hf
theorem zma {p pos : Pos} (hc : X.calm = true) (ml : X.mg "all" = none) (ha : SA X [e] ma) (hg : Gl X "all" := by rfl) (he : starEach [e] X.env = (false, eval e X.env) :: starEach [] X.env := by rfl) : SE X (.Call (.Name "all" p) [e] [] pos) (mC (dAll fun bs => bs.all id) ma) :=
 zdf (zox hc) (vc_all _) (by decide +kernel) ml ha hg (by decide) (by decide) he rfl
theorem se_any {p pos : Pos} (hc : X.calm = true) (ml : X.mg "any" = none) (ha : SA X [e] ma) (hg : Gl X "any" := by rfl) (he : starEach [e] X.env = (false, eval e X.env) :: starEach [] X.env := by rfl) : SE X (.Call (.Name "any" p) [e] [] pos) (mC (dAll fun bs => bs.any id) ma) :=
 zdf (zof hc) (vc_all _) (by decide +kernel) ml ha hg (by decide) (by decide) he rfl
noncomputable def d2I (g : Int -> Int -> Int) : List D -> Option D
 | [.int i, .int j] => some (.int (g i j))
 | _ => none
theorem vc_2I (g : Int -> Int -> Int) : VC X (fun xs H Q => ∃ i j, xs = [.int i, .int j] /\ Q (.int (g i j)) H) (d2I g) := by
 intro B G H σ ρ xs ds d Q I r hf k
 unfold d2I at hf
 split at hf
 ·rename_i i j
  cases hf
  obtain ⟨x, y, rfl, rx, ry⟩ := r.two
  cases (show x = V.int i from rx)
  cases (show y = V.int j from ry)
  exact ⟨i, j, rfl, k G H _ I (Fz.refl G) rfl⟩
 ·cases hf
noncomputable def max2 (i j : Int) : Int := if j > i then j else i
noncomputable def min2 (i j : Int) : Int := if j < i then j else i
theorem zoz {p pos : Pos} (hc : X.calm = true) (ml : X.mg "max" = none) (ha : SA X [a, b] ma) (hg : Gl X "max" := by rfl) (he : starEach [a, b] X.env = (false, eval a X.env) :: starEach [b] X.env := by rfl) (hpl : (backTo pos (starEach [b] X.env)).any (·.1) = false := by rfl) : SE X (.Call (.Name "max" p) [a, b] [] pos) (mC (d2I max2) ma) :=
 zdf (zoe hc) (vc_2I max2) (by decide +kernel) ml ha hg (by decide) (by decide) he hpl
theorem se_min2 {p pos : Pos} (hc : X.calm = true) (ml : X.mg "min" = none) (ha : SA X [a, b] ma) (hg : Gl X "min" := by rfl) (he : starEach [a, b] X.env = (false, eval a X.env) :: starEach [b] X.env := by rfl) (hpl : (backTo pos (starEach [b] X.env)).any (·.1) = false := by rfl) : SE X (.Call (.Name "min" p) [a, b] [] pos) (mC (d2I min2) ma) :=
 zdf (zoS hc) (vc_2I min2) (by decide +kernel) ml ha hg (by decide) (by decide) he hpl
noncomputable def isI (T : String) : D -> Bool
 | .non => false
 | .bl _ => T == "bool" || T == "int"
 | .int _ => T == "int"
 | .str _ => T == "str"
 | .lst _ => T == "list"
 | .tup _ => T == "tuple"
 | .scr _ => T == "list"
 | .exc _ => false
 | .dic _ _ => false
 | .dit _ _ => false
noncomputable def okT (T : String) : Bool := ["int", "bool", "tuple", "list", "str"].contains T
noncomputable def eIsI (T : String) (ma : ME) : ME := fun ρ => (ma ρ).bind fun p => if okT T && noS1 p.1 then some (.bl (isI T p.1), p.2) else none
where noS1 : D -> Bool
 | .scr _ => false
 | .exc _ => false
 | .dic _ _ => false
 | .dit _ _ => false
 | _ => true
noncomputable def cutD {α : Type} (xs : List α) (lo hi : Option Int) : List α := (xs.drop (HT.sIx xs.length 0 lo)).take (HT.sIx xs.length xs.length hi - HT.sIx xs.length 0 lo)
theorem RepL.cut (h : RepL K G xs ds) (lo hi : Option Int) : RepL K G (cutV xs lo hi) (cutD ds lo hi) := by
 unfold cutV cutD
 rw [h.length]
 exact (h.drop _).take _
section
variable {prog : Program} {w : World} {A : Around} {E : Value -> Shared -> Prop} {s : Shared}
theorem zgZ {t sl : Addr} {items : Array Value} {vl vu : Value} {lo hi : Option Int} (ht : IsTup s.heap t items) (hs : s.heap.IsSliceOf sl vl vu .none) (pl : IsPart vl lo) (pu : IsPart vu hi)
  (hw : HT.sIx items.size 0 lo = 0 /\ HT.sIx items.size items.size hi = items.size) (h : Q (.ref t) s) : wpAny (model prog w) A (getItem (.ref t) (.ref sl)) Q E s := by
 obtain ⟨os, hos, hcs, hds⟩ := id hs
 have hTs : s.TypeIs (.ref sl) "slice" := ⟨os, hos, hcs⟩
 unfold getItem
 try with_reducible refine wpAny_holding ?_
 first | refine wpAny_bind (wpAny_pure ?_) | skip
 refine wpAny_bind (wpAny_sequenceKey ht.typeIs (by decide) ?_)
 refine wpAny_bind (wpAny_callSpecial?_slot (name := Str.ofString "__getitem__") ht.typeIs PyProof.Rows.slot_tuple_getitem
  (wpAny_call_entry PyProof.Rows.slot_tuple_getitem ht.typeIs entry_tuple_getitem ?_ (args_tuple_getitem _ _)))
 show wpAny _ _ (Builtin.Tuple.tupleItemsOf (.ref t) >>= _) _ _ s
 refine wpAny_bind (tupleItemsOf_ ht ?_)
 refine wpAny_bind (wpAny_typeOf hTs ?_)
 rw [if_pos (by decide)]
 refine wpAny_bind (HT.zeu hs pl pu ?_)
 have hyes : (((HT.sIx items.size 0 lo : Nat) : Int) == 0 && (1 : Int) == 1 && (HT.sIx items.size items.size hi - HT.sIx items.size 0 lo) == items.size) = true := by
  rw [hw.1, hw.2]; simp
 show wpAny _ _ (if (((HT.sIx items.size 0 lo : Nat) : Int) == 0 && (1 : Int) == 1 && (HT.sIx items.size items.size hi - HT.sIx items.size 0 lo) == items.size) = true then _ else _) _ _ s
 rw [if_pos hyes]
 refine wpAny_bind (m := Builtin.Tuple.tupleIsExact _) ?_
 unfold Builtin.Tuple.tupleIsExact
 refine wpAny_bind (wpAny_typeOf ht.typeIs (wpAny_pure ?_))
 rw [if_pos (by decide)]
 refine wpAny_bind (wpAny_rule ?_)
 exact wpAny_pure ⟨_, rfl, wpAny_pure h⟩
end
noncomputable def rSlTW (K : W.Frag) : V -> Option Int -> Option Int -> Hp -> VK -> Prop := fun x lo hi H Q => ∃ a xs, x = .ref a /\ SqT K H a xs /\ (HT.sIx xs.length 0 lo = 0 /\ HT.sIx xs.length xs.length hi = xs.length) /\ Q (.ref a) H
theorem sl_tupW : SlR X (rSlTW X.K) := by
 intro pins s σ H x v vl vu lo hi sl Q I rx hs pl pu h
 obtain ⟨a, xs, rfl, hx, hw, q⟩ := h
 cases rx
 obtain ⟨its, r, ht, hz⟩ := I.tuple hx
 have hlen : its.toArray.size = xs.length := by rw [List.size_toArray]; exact r.length.symm
 refine ⟨"tuple", _, PyProof.Rows.slot_tuple_getitem.lookup, ht.typeIs, ?_⟩
 exact zgZ ht hs pl pu (by rw [hlen]; exact hw) ⟨.ref a, H, I, rfl, q⟩
noncomputable abbrev MP := R -> Option (Option Int × R)
noncomputable def SPt (X : Cx) (e : Option Expr) (m : MP) : Prop := ∃ t, PO X e t /\ ∀ B G H σ ρ o ρ' (Q : Option Int -> Hp -> Prop), SI X.K B G H σ ρ -> m ρ = some (o, ρ') -> (∀ G' H', SI X.K B G' H' σ ρ' -> Fz G G' -> Q o H') -> t σ H Q
noncomputable def pNo : MP := fun ρ => some (none, ρ)
noncomputable def zeW (m : ME) : MP := fun ρ => (m ρ).bind fun p => match p.1 with
 | .int i => some (some i, p.2)
 | _ => none
theorem zir : SPt X none pNo := ⟨_, po_none, fun B G H σ ρ o ρ' Q I hm k => by cases hm; exact k G H I (Fz.refl G)⟩
theorem zbU {m : ME} (h : SE X e m) : SPt X (some e) (zeW m) := by
 obtain ⟨t, p, s⟩ := h
 refine ⟨_, po_some p, fun B G H σ ρ o ρ' Q I hm k => ?_⟩
 obtain ⟨⟨d, ρ1⟩, e1, hm⟩ := zah hm
 refine s B G H σ ρ d ρ1 _ I e1 fun G1 H1 v I1 f1 r1 => ?_
 cases d <;> try cases hm
 rename_i i
 exact ⟨i, r1, k G1 H1 I1 f1⟩
noncomputable def dCut (d : D) (lo hi : Option Int) : Option D := match d with
 | .lst ds => some (.lst (cutD ds lo hi))
 | .tup ds => some (.tup (cutD ds lo hi))
 | .scr ns => some (.lst ((cutD ns lo hi).map .int))
 | _ => none
noncomputable def eCut (ma : ME) (ml mh : MP) : ME := fun ρ => (ma ρ).bind fun p => (ml p.2).bind fun q => (mh q.2).bind fun r => (dCut p.1 q.1 r.1).map fun d => (d, r.2)
theorem znF (ns : List Int) (lo hi : Option Int) : cutV (ns.map V.int) lo hi = (cutD ns lo hi).map V.int := by
 unfold cutV cutD
 rw [List.length_map, <- List.map_drop, <- List.map_take]
theorem zg0 {lo hi : Option Expr} {ma : ME} {ml mh : MP} {pos p2 : Pos} (he : SE X e ma) (hl : SPt X lo ml) (hu : SPt X hi mh) : SE X (.Subscript e (.Slice lo hi none p2) pos) (eCut ma ml mh) := by
 obtain ⟨ta, pa, sa⟩ := he
 obtain ⟨tl, pl, sl⟩ := hl
 obtain ⟨th, ph, sh⟩ := hu
 refine ⟨_, pe_slice (sl_list.or (sl_tup.or sl_tupW)) pa pl ph, fun B G H σ ρ d ρ' Q I hm k => ?_⟩
 obtain ⟨⟨x, ρ1⟩, e1, hm⟩ := zah hm
 obtain ⟨⟨l, ρ2⟩, e2, hm⟩ := zah hm
 obtain ⟨⟨u, ρ3⟩, e3, hm⟩ := zah hm
 obtain ⟨c, e4, e5⟩ := zaA hm
 obtain ⟨rfl, rfl⟩ := Prod.mk.inj e5
 refine sa B G H σ ρ x ρ1 _ I e1 fun G1 H1 v I1 f1 r1 => sl B G1 H1 σ ρ1 l ρ2 _ I1 e2 fun G2 H2 I2 f2 => sh B G2 H2 σ ρ2 u ρ3 _ I2 e3 fun G3 H3 I3 f3 => ?_
 have r3 := r1.mono (f2.trans f3)
 dsimp only at e4
 cases x with
 | exc _ => cases e4
 | dic _ _ => cases e4
 | dit _ _ => cases e4
 | non => cases e4
 | bl _ => cases e4
 | int _ => cases e4
 | str _ => cases e4
 | lst ds =>
  cases e4
  obtain ⟨a, xs, rfl, ha, r⟩ := I3.lst r3
  refine .inl ⟨a, xs, rfl, SqL.of ha, fun p hp => ?_⟩
  obtain ⟨I4, f4, r4⟩ := I3.newL hp (r.cut l u)
  exact k _ _ _ I4 (f1.trans (f2.trans (f3.trans f4))) r4
 | tup ds =>
  cases e4
  obtain ⟨a, xs, rfl, ha, r⟩ := I3.tup r3
  by_cases hw : HT.sIx xs.length 0 l = 0 /\ HT.sIx xs.length xs.length u = xs.length
  ·refine .inr (.inr ⟨a, xs, rfl, SqT.of ha, hw, ?_⟩)
   have e : cutD ds l u = ds := by
    unfold cutD
    rw [<- r.length, hw.1, hw.2, List.drop_zero, Nat.sub_zero, List.take_of_length_le (by rw [r.length]; exact Nat.le_refl _)]
   rw [e] at k
   exact k G3 H3 _ I3 (f1.trans (f2.trans f3)) r3
  ·refine .inr (.inl ⟨a, xs, rfl, SqT.of ha, hw, fun p hp => ?_⟩)
   obtain ⟨I4, f4, r4⟩ := I3.newT hp (r.cut l u)
   exact k _ _ _ I4 (f1.trans (f2.trans (f3.trans f4))) r4
 | scr ns =>
  cases e4
  obtain ⟨a, rfl, ha⟩ := r3
  refine .inl ⟨a, _, rfl, I3.fz.sql ha, fun p hp => ?_⟩
  rw [znF]
  obtain ⟨I4, f4, r4⟩ := I3.newL hp (RepL.ints (cutD ns l u))
  exact k _ _ _ I4 (f1.trans (f2.trans (f3.trans f4))) r4
theorem zdW (h : aLen ma n) : ∀ ρ as ρ', ma ρ = some (as, ρ') -> as.length + 1 = n + 1 := fun ρ as ρ' e => congrArg (· + 1) (h ρ as ρ' e)
section
variable {X : Cx} {elt iter tg : Expr} {ifs : List Expr} {scope : Scope} {pos lpos pos' : Pos} {N : List Str} {cap : List Nat} {t : Nat} {mi : MA} {g : D -> R -> Option R} {mt : MT} {me : ME}
theorem ziV (i : Nat) (cap : List Nat) (t : Nat) (N : List Str) (hc : X.calm = true) (hi : SIt X tg iter mi) (hg : ∀ C s H fp, SG (cxC X N scope C s H fp) tg g) (ht : ∀ C s H fp, STs (cxC X N scope C s H fp) ifs mt) (he : ∀ C s H fp, SE (cxC X N scope C s H fp) elt me) (hN : X.N.Nodup)
    (hxi : X.N[i]? = some x := by rfl) (hx : Loc X.env.scope x := by first | exact Or.inl rfl | exact Or.inr rfl) (hf : X.fn x = true \/ X.env.scope.names.lookup x = some .local := by first | exact Or.inl rfl | exact Or.inr rfl)
    (hsw : swapsWith (.ListComp elt [⟨tg, iter, ifs, 0⟩] scope lpos) (some (.Name x pos')) pos.line X.env = pure true := by rfl)
    (hk : scope.kind = .function := by rfl) (hb : blkB X.env scope = true := by kernel_rfl) (hcap : capB scope.names N X.N cap t = true := by kernel_rfl)
    (hs : ∀ x, foldedSetIterable iter X.env x = pure x := by exact fun _ => rfl) : SS X (.Assign [.Name x pos'] (.ListComp elt [⟨tg, iter, ifs, 0⟩] scope lpos) pos) (sSet i (eFz (oLC cap t mi g mt me))) := by
  obtain ⟨wi, pi, si⟩ := hi
  refine ⟨_, zim hN hxi hx hf hsw hc (zjo hk hb) (zjr hcap) pi (fun C s H fp => (hg C s H fp).choose_spec.1) (fun C s H fp => (ht C s H fp).choose_spec.1) (fun C s H fp => (he C s H fp).choose_spec.1) hs, fun B G H σ ρ fl ρ' E I hm k => ?_⟩
  obtain ⟨⟨d, ρ1⟩, e1, e3⟩ := zaA hm
  obtain ⟨⟨ds, ρ2⟩, e4, e5⟩ := zaA e1
  obtain ⟨rfl, rfl⟩ := Prod.mk.inj e5
  obtain ⟨rfl, rfl⟩ := Prod.mk.inj e3
  refine zjJ si (fun C s H fp => (hg C s H fp).choose_spec.2) (fun C s H fp => (ht C s H fp).choose_spec.2) (fun C s H fp => (he C s H fp).choose_spec.2) B G H σ ρ ds ρ2 _ I e4 fun G1 H1 l xs I1 f1 g1 h1 r1 b1 n1 => ?_
  obtain ⟨I2, f2, r2⟩ := zjx I1 g1 h1 r1 b1 n1
  exact k _ H1 _ (I2.set r2) (f1.trans f2)
end
noncomputable def oR (m : MA) : MO := fun ρ => (m ρ).bind fun p => if p.1.length <= 16777216 then some p else none
end M
namespace M
open L2 PySem
@[simp] theorem atI_nat' {α : Type} (xs : List α) (i : Nat) : atI xs (i : Int) = xs[i]? := by
 unfold atI ixN
 rw [if_pos (by lia)]
 by_cases h : i < xs.length
 ·rw [if_pos (by lia)]; simp
 ·rw [if_neg (by lia)]; simp [List.getElem?_eq_none (by lia : xs.length <= i)]
end M
namespace M
open L2 PyProof.Rows PySem PySem.Spec
noncomputable def zjb (i : Nat) (g : Int -> Int -> Int) (me : ME) : MS := fun ρ => match ρ[i]? with
 | some (.val (.int a)) => (me ρ).bind fun p => match p.1 with
  | .int b => some (.next, p.2.set i (.val (.int (g a b))))
  | _ => none
 | _ => none
section
variable {X : Cx} {e : Expr} {me : ME} {pos : Pos}
theorem zoq (i : Nat) {x : Str} {pos' : Pos} {op : Operator} {g : Int -> Int -> Int} (ho : PIp X op (ipI g)) (he : SE X e me) (hN : X.N.Nodup) (hi : X.N[i]? = some x := by rfl) (hx : Loc X.env.scope x := by first | exact Or.inl rfl | exact Or.inr rfl)
    (hf : X.fn x = true \/ X.env.scope.names.lookup x = some .local := by first | exact Or.inl rfl | exact Or.inr rfl) : SS X (.AugAssign (.Name x pos') op e pos) (zjb i g me) := by
  obtain ⟨t, p, s⟩ := he
  refine ⟨_, ps_aug hN hi hx p ho hf, fun B G H σ ρ fl ρ' E I hm k => ?_⟩
  unfold zjb at hm
  split at hm
  . rename_i a e0
    obtain ⟨⟨d, ρ1⟩, e1, h2⟩ := zah hm
    dsimp only at h2
    split at h2
    . rename_i b
      cases h2
      obtain ⟨v, h1, hv⟩ := I.slot i _ e0
      cases (show v = V.int a from hv)
      refine ⟨_, h1, s B G H σ ρ (.int b) ρ1 _ I e1 fun G1 H1 w I1 f1 r1 => ?_⟩
      cases (show w = V.int b from r1)
      exact ⟨a, b, rfl, rfl, k G1 H1 _ (I1.set (d := .int (g a b)) rfl) f1⟩
    . cases h2
  . cases hm
theorem zod (i : Nat) {x : Str} {pos' : Pos} (he : SE X e me) (hN : X.N.Nodup) (hi : X.N[i]? = some x := by rfl) (hx : Loc X.env.scope x := by first | exact Or.inl rfl | exact Or.inr rfl)
  (hf : X.fn x = true \/ X.env.scope.names.lookup x = some .local := by first | exact Or.inl rfl | exact Or.inr rfl) : SS X (.AugAssign (.Name x pos') .Add e pos) (zjb i (fun i j => i + j) me) := zoq i ip_add he hN hi hx hf
theorem zg5 (i : Nat) {x : Str} {pos' : Pos} (he : SE X e me) (hN : X.N.Nodup) (hi : X.N[i]? = some x := by rfl) (hx : Loc X.env.scope x := by first | exact Or.inl rfl | exact Or.inr rfl)
  (hf : X.fn x = true \/ X.env.scope.names.lookup x = some .local := by first | exact Or.inl rfl | exact Or.inr rfl) : SS X (.AugAssign (.Name x pos') .Sub e pos) (zjb i (fun i j => i - j) me) := zoq i ip_sub he hN hi hx hf
end
noncomputable def zcT {α : Type} (xs : List α) (lo hi st : Option Int) : List α :=
 (sliceRange (sliceBounds lo hi st xs.length).1 (sliceBounds lo hi st xs.length).2.1 (sliceBounds lo hi st xs.length).2.2).filterMap (xs[·]?)
theorem zh3 (its : List Value) (lo hi st : Option Int) : slicePick its.toArray lo hi st = (zcT its lo hi st).toArray := by
 unfold slicePick zcT
 simp
theorem zlh {xs : List V} {its : List Value} (h : xs.length = its.length) (lo hi st : Option Int) : (zcT its lo hi st).length <= xs.length := by
 have := slicePick_size_le its.toArray lo hi st
 rw [zh3] at this
 simpa [h] using this
theorem picks {its : List Value} {xs : List V} (r : Vals xs its) : ∀ js : List Nat, Vals (js.filterMap (xs[·]?)) (js.filterMap (its[·]?))
 | [] => .nil
 | j :: js => by
  have hl := r.length
  by_cases h : j < xs.length
  ·have h2 : j < its.length := by lia
   obtain ⟨u, e1, e2⟩ := r.get (List.getElem?_eq_getElem h)
   rw [List.filterMap_cons, List.filterMap_cons, List.getElem?_eq_getElem h, e1]
   exact .cons e2 (picks r js)
  ·rw [List.filterMap_cons, List.filterMap_cons, List.getElem?_eq_none (by lia), List.getElem?_eq_none (by lia)]
   exact picks r js
theorem RepL.pickJ {K : W.Frag} {G : Hp} {xs : List V} {ds : List D} (r : RepL K G xs ds) : ∀ js : List Nat, RepL K G (js.filterMap (xs[·]?)) (js.filterMap (ds[·]?))
 | [] => RepL.nil
 | j :: js => by
  have hl := r.length
  by_cases h : j < xs.length
  ·have h2 : j < ds.length := by lia
   obtain ⟨u, e1, e2⟩ := r.get (List.getElem?_eq_getElem h2)
   rw [List.filterMap_cons, List.filterMap_cons, List.getElem?_eq_getElem h2, e1]
   exact RepL.cons e2 (r.pickJ js)
  ·rw [List.filterMap_cons, List.filterMap_cons, List.getElem?_eq_none (by lia), List.getElem?_eq_none (by lia)]
   exact r.pickJ js
section
variable {X : Cx} {e st : Expr} {lo hi : Option Expr} {te : TE} {tl th ts : TO} {p2 pos : Pos}
theorem znv (he : PE X e te) (hl : PO X lo tl) (hu : PO X hi th) (hst : PO X (some st) ts) : PE X (.Subscript e (.Slice lo hi (some st) p2) pos)
  (fun σ H Q => te σ H fun x H1 => tl σ H1 fun l H2 => th σ H2 fun u H3 => ts σ H3 fun c H4 => ∃ a xs, x = .ref a /\ SqL X.K H4 a xs /\ c ≠ some 0 /\ ∀ p, H4 p = none -> Q (.ref p) (upd H4 p (.lst (zcT xs l u c)))) := by
 intro pins s σ H Q I h
 refine Subscript_ (thn (he pins s σ H _ I h) fun v s1 ⟨x, H1, I1, r1, q1⟩ => ?_)
 refine wpAny_Slice (thn (hl pins s1 σ H1 _ I1 q1) fun vl s2 ⟨l, H2, I2, pl, q2⟩ => thn (hu pins s2 σ H2 _ I2 q2) fun vu s3 ⟨u, H3, I3, pu, q3⟩ => thn (hst pins s3 σ H3 _ I3 q3) fun vs s4 ⟨c, H4, I4, pc, q4⟩ => ?_)
 have I5 : Inv X pins σ H4 { s4 with heap := s4.heap.push { cls := .type "slice", data := .fields #[vl, vu, vs] } } := I4.kept (t' := s4.toks) fun b ob q => Heap.get?_push_of_some _ q
 obtain ⟨a, xs, rfl, hx, h0, q⟩ := q4
 cases r1
 obtain ⟨its, r, ht, hz⟩ := I5.list hx
 have hlen := r.length
 have hg : wpAny (model X.prog X.w) X.A (getItem (.ref a) (.ref s4.heap.objs.size)) (EP X pins σ Q) X.xe { s4 with heap := s4.heap.push { cls := .type "slice", data := .fields #[vl, vu, vs] } } := by
  refine wpAny_getItem_list_slice ht.isList (Heap.IsSliceOf.new ..) pl pu pc h0 ?_ (by rw [List.size_toArray] <;> lia)
  rw [zh3]
  refine ⟨.ref _, _, I5.laid (t' := s4.toks) (o := .lst (zcT xs l u c)) (fun b ob q => Heap.get?_push_of_some _ q) (Nat.le_refl _) ?_, rfl, q _ (I5.hok.fresh (Nat.le_refl _))⟩
  refine ⟨?_, _, 0, ?_, Heap.get?_push_size _ rfl⟩
  ·have := zlh hlen l u c
   have e2 : (zcT xs l u c).length = (zcT its l u c).length := by
    unfold zcT; rw [hlen]; exact (picks r _).length
   lia
  ·unfold zcT; rw [hlen]; exact picks r _
 show wpAny (model X.prog X.w) X.A (subscriptTail e (.Slice lo hi (some st) p2) (.ref a) (.ref s4.heap.objs.size)) (EP X pins σ Q) X.xe { s4 with heap := s4.heap.push { cls := .type "slice", data := .fields #[vl, vu, vs] } }
 exact tail_any (ops := [.ref a, .ref s4.heap.objs.size]) ht.isList.typeIs slot_list_getitem.lookup hg (by with_unfolding_all rfl)
end
noncomputable def znS (d : D) (lo hi st : Option Int) : Option D := match d with
 | .lst ds => if st = some 0 then none else some (.lst (zcT ds lo hi st))
 | _ => none
noncomputable def zom (ma : ME) (ml mh ms : MP) : ME := fun ρ => (ma ρ).bind fun p => (ml p.2).bind fun q => (mh q.2).bind fun r => (ms r.2).bind fun t => (znS p.1 q.1 r.1 t.1).map fun d => (d, t.2)
theorem RepL.pick {K : W.Frag} {G : Hp} {xs : List V} {ds : List D} (r : RepL K G xs ds) (lo hi st : Option Int) : RepL K G (zcT xs lo hi st) (zcT ds lo hi st) := by
 unfold zcT
 rw [r.length]
 exact r.pickJ _
theorem zlT {X : Cx} {e st : Expr} {lo hi : Option Expr} {ma : ME} {ml mh ms : MP} {pos p2 : Pos} (he : SE X e ma) (hl : SPt X lo ml) (hu : SPt X hi mh) (hs : SPt X (some st) ms) : SE X (.Subscript e (.Slice lo hi (some st) p2) pos) (zom ma ml mh ms) := by
 obtain ⟨ta, pa, sa⟩ := he
 obtain ⟨tl, pl, sl⟩ := hl
 obtain ⟨th, ph, sh⟩ := hu
 obtain ⟨tc, pc, sc⟩ := hs
 refine ⟨_, znv pa pl ph pc, fun B G H σ ρ d ρ' Q I hm k => ?_⟩
 obtain ⟨⟨x, ρ1⟩, e1, hm⟩ := zah hm
 obtain ⟨⟨l, ρ2⟩, e2, hm⟩ := zah hm
 obtain ⟨⟨u, ρ3⟩, e3, hm⟩ := zah hm
 obtain ⟨⟨c, ρ4⟩, e4, hm⟩ := zah hm
 obtain ⟨y, e5, e6⟩ := zaA hm
 obtain ⟨rfl, rfl⟩ := Prod.mk.inj e6
 refine sa B G H σ ρ x ρ1 _ I e1 fun G1 H1 v I1 f1 r1 => sl B G1 H1 σ ρ1 l ρ2 _ I1 e2 fun G2 H2 I2 f2 => sh B G2 H2 σ ρ2 u ρ3 _ I2 e3 fun G3 H3 I3 f3 => sc B G3 H3 σ ρ3 c ρ4 _ I3 e4 fun G4 H4 I4 f4 => ?_
 have r3 := r1.mono (f2.trans (f3.trans f4))
 dsimp only at e5
 cases x <;> simp only [znS] at e5 <;> try cases e5
 rename_i ds
 split at e5
 ·cases e5
 ·rename_i h0
  cases e5
  obtain ⟨a, xs, rfl, ha, r⟩ := I4.lst r3
  refine ⟨a, xs, rfl, SqL.of ha, h0, fun p hp => ?_⟩
  obtain ⟨I5, f5, r5⟩ := I4.newL hp (r.pick l u c)
  exact k _ _ _ I5 (f1.trans (f2.trans (f3.trans (f4.trans f5)))) r5
end M
namespace M
open L2 PySem PySem.Spec
open PyProof.Rows hiding St
noncomputable def cntS (lo hi st : Int) : Nat := if lo < hi then ((hi - lo - 1) / st + 1).toNat else 0
noncomputable def ziG (lt : Int -> Int -> Bool) (ns : List Int) : Int := ns.getD (argBest (fun i j => lt (ns.getD i 0) (ns.getD j 0)) (ns.length - 1)) 0
noncomputable def rBest (K : W.Frag) (lt : Int -> Int -> Bool) : List V -> Hp -> VK -> Prop := fun xs H Q => ∃ (p : Addr) (ns : List Int), xs = [.ref p] /\ ns ≠ [] /\ (SqL K H p (ns.map V.int) \/ SqT K H p (ns.map V.int)) /\ Q (.int (ziG lt ns)) H
theorem zog {X : Cx} (hc : X.calm = true) : zhe X (.builtin "max") (rBest X.K fun i j => decide (i > j)) := by
 intro pins s σ H xs us Q I r h
 obtain ⟨p, ns, rfl, ne, hq, q⟩ := h
 obtain ⟨u, rfl, ru⟩ := zjL r
 cases ru
 refine call_max_walk (zf8 (A := X.A.in1) (I.ok.hd hc) I hq fun its s₂ St rv W st hfp fin => ?_)
 have hl := rv.length
 rw [List.length_map] at hl
 have hp : 0 < its.length := by rw [<- hl]; exact List.length_pos_iff.mpr ne
 refine ⟨_, _, _, _, _, _, _, rfl, W, st, hfp, hp, CmpOf.ints_gt (fun i => ns.getD i 0) (fun i v e => zg3 rv e), fun v h' tk hP hk => ?_⟩
 obtain ⟨t, rfl⟩ := zg3 rv hP
 refine ⟨.int (ziG _ ns), H, fin h' tk hk, ⟨t, ?_⟩, q⟩
 unfold ziG
 rw [hl]
theorem znC {X : Cx} (hc : X.calm = true) : zhe X (.builtin "min") (rBest X.K fun i j => decide (i < j)) := by
 intro pins s σ H xs us Q I r h
 obtain ⟨p, ns, rfl, ne, hq, q⟩ := h
 obtain ⟨u, rfl, ru⟩ := zjL r
 cases ru
 refine call_min_walk (zf8 (A := X.A.in1) (I.ok.hd hc) I hq fun its s₂ St rv W st hfp fin => ?_)
 have hl := rv.length
 rw [List.length_map] at hl
 have hp : 0 < its.length := by rw [<- hl]; exact List.length_pos_iff.mpr ne
 refine ⟨_, _, _, _, _, _, _, rfl, W, st, hfp, hp, CmpOf.ints_lt (fun i => ns.getD i 0) (fun i v e => zg3 rv e), fun v h' tk hP hk => ?_⟩
 obtain ⟨t, rfl⟩ := zg3 rv hP
 refine ⟨.int (ziG _ ns), H, fin h' tk hk, ⟨t, ?_⟩, q⟩
 unfold ziG
 rw [hl]
noncomputable def znY (lt : Int -> Int -> Bool) : List D -> Option D
 | [d] => (zaL [d]).bind fun ds => (zcn ds).bind fun ns => if ns.isEmpty then none else some (.int (ziG lt ns))
 | _ => none
theorem zo2 {X : Cx} (lt : Int -> Int -> Bool) : VC X (rBest X.K lt) (znY lt) := by
 intro B G H σ ρ xs ds d Q I r hf k
 match ds, hf with
 | [a], hf =>
  obtain ⟨es, e1, hf⟩ := zah hf
  obtain ⟨ns, e2, hf⟩ := zah hf
  split at hf
  ·cases hf
  ·rename_i ne
   cases hf
   obtain ⟨x, rfl, ra⟩ := r.one
   obtain ⟨p, ys, rfl, hq, ry⟩ := zik I ra e1
   rw [zhx e2] at ry
   rw [RepL.ints_eq ry] at hq
   exact ⟨p, ns, rfl, fun z => ne (by rw [z]; rfl), hq, k G H _ I (Fz.refl G) rfl⟩
 | [], hf => cases hf
 | _ :: _ :: _, hf => cases hf
noncomputable def zgW : List D -> Option D := znY fun i j => decide (i > j)
noncomputable def zk8 : List D -> Option D := znY fun i j => decide (i < j)
theorem zlO {X : Cx} {e : Expr} {ma : MA} {p pos : Pos} (hc : X.calm = true) (ml : X.mg "max" = none) (ha : SA X [e] ma) (hg : Gl X "max" := by rfl) (he : starEach [e] X.env = (false, eval e X.env) :: starEach [] X.env := by rfl) : SE X (.Call (.Name "max" p) [e] [] pos) (mC zgW ma) :=
 zdf (zog hc) (zo2 _) (by decide +kernel) ml ha hg (by decide) (by decide) he rfl
theorem se_minL {X : Cx} {e : Expr} {ma : MA} {p pos : Pos} (hc : X.calm = true) (ml : X.mg "min" = none) (ha : SA X [e] ma) (hg : Gl X "min" := by rfl) (he : starEach [e] X.env = (false, eval e X.env) :: starEach [] X.env := by rfl) : SE X (.Call (.Name "min" p) [e] [] pos) (mC zk8 ma) :=
 zdf (znC hc) (zo2 _) (by decide +kernel) ml ha hg (by decide) (by decide) he rfl
noncomputable def oRep (ma mb : ME) : MO := fun ρ => (ma ρ).bind fun p => (mb p.2).bind fun q => match p.1, q.1 with
 | .lst xs, .int k => if zdO k && decide (xs.length * k.toNat <= 16777216) then some ((List.replicate k.toNat xs).flatten, q.2) else none
 | _, _ => none
theorem RepL.times {K : W.Frag} {G : Hp} {xs : List V} {ds : List D} (h : RepL K G xs ds) : ∀ n : Nat, RepL K G (List.replicate n xs).flatten (List.replicate n ds).flatten
 | 0 => RepL.nil
 | n + 1 => by
  rw [List.replicate_succ, List.flatten_cons, List.replicate_succ, List.flatten_cons]
  exact h.append (h.times n)
theorem so_rep {X : Cx} {a b : Expr} {ma mb : ME} {pos : Pos} (ha : SE X a ma) (hb : SE X b mb) : SO X (.BinOp a .Mult b pos) (oRep ma mb) := by
 obtain ⟨ta, pa, sa⟩ := ha
 obtain ⟨tb, pb, sb⟩ := hb
 refine ⟨_, pe_op op_rep pa pb, fun B G H σ ρ d ρ' Q I hm k => ?_⟩
 obtain ⟨⟨x, ρ1⟩, e1, hm⟩ := zah hm
 obtain ⟨⟨y, ρ2⟩, e2, hm⟩ := zah hm
 refine sa B G H σ ρ x ρ1 _ I e1 fun G1 H1 v I1 f1 r1 => sb B G1 H1 σ ρ1 y ρ2 _ I1 e2 fun G2 H2 u I2 f2 r2 => ?_
 dsimp only at hm
 split at hm
 ·rename_i xs n _
  split at hm
  ·rename_i hs
   cases hm
   simp only [Bool.and_eq_true, decide_eq_true_eq] at hs
   cases (show u = V.int n from r2)
   obtain ⟨l, ys, rfl, hl, r⟩ := I2.lst (r1.mono f2)
   have a1 := zcL hs.1
   refine ⟨l, n, ys, rfl, rfl, hl, by lia, by lia, by rw [r.length, sizeLine_eq]; exact hs.2, fun p hp => ?_⟩
   obtain ⟨I3, g3, h3, b3, n3⟩ := I2.newO hp (List.replicate n.toNat ys).flatten
   exact k G2 _ p _ I3 (f1.trans f2) g3 h3 (r.times _) b3 n3
  ·cases hm
 ·cases hm
noncomputable def flV : D -> Option V
 | .non => some .non
 | .bl b => some (.bl b)
 | .int i => some (.int i)
 | .str x => some (.str x)
 | _ => none
noncomputable def flAll : List D -> Option (List V)
 | [] => some []
 | d :: ds => (flV d).bind fun v => (flAll ds).map (v :: ·)
theorem flV_ok {K : W.Frag} {G : Hp} {x v : V} {d : D} (r : RepD K G x d) (e : flV d = some v) : x = v /\ zjk v = true := by
 cases d <;> simp only [flV] at e <;> cases e <;> exact ⟨r, rfl⟩
theorem zmo {K : W.Frag} {G : Hp} : ∀ {ys xs : List V} {ds : List D}, RepL K G ys ds -> flAll ds = some xs -> ys = xs /\ xs.all zjk = true
 | ys, xs, [], r, e => by cases e; cases (show ys = [] from r); exact ⟨rfl, rfl⟩
 | ys, xs, d :: ds, r, e => by
  obtain ⟨y, zs, rfl, ry, rz⟩ := r
  obtain ⟨v, e1, e⟩ := zah e
  obtain ⟨vs, e2, rfl⟩ := zaA e
  obtain ⟨rfl, f1⟩ := flV_ok ry e1
  obtain ⟨rfl, f2⟩ := zmo rz e2
  exact ⟨rfl, by rw [List.all_cons, f1, f2]; rfl⟩
noncomputable def dInB (neg : Bool) (a b : D) : Option D := (flV a).bind fun x => (zaL [b]).bind fun ds => (flAll ds).map fun xs => .bl (if neg then !inV x xs else inV x xs)
noncomputable def dIn : D -> D -> Option D := dInB false
theorem v2_in {X : Cx} (neg : Bool) : V2 X (rIn X.K neg) (dInB neg) := by
 intro B G H σ ρ x y a b d Q I ra rb hf k
 obtain ⟨v, e1, hf⟩ := zah hf
 obtain ⟨ds, e2, hf⟩ := zah hf
 obtain ⟨xs, e3, rfl⟩ := zaA hf
 obtain ⟨rfl, f1⟩ := flV_ok ra e1
 obtain ⟨p, ys, rfl, hq, ry⟩ := zik I rb e2
 obtain ⟨rfl, f2⟩ := zmo ry e3
 exact ⟨p, ys, rfl, hq, f1, f2, k G H _ I (Fz.refl G) rfl⟩
theorem bl_in (neg : Bool) : ∀ x y d, dInB neg x y = some d -> ∃ t, d = .bl t := by
 intro x y d hf
 obtain ⟨v, e1, hf⟩ := zah hf
 obtain ⟨ds, e2, hf⟩ := zah hf
 obtain ⟨xs, e3, rfl⟩ := zaA hf
 exact ⟨_, rfl⟩
theorem st_in {X : Cx} {a b : Expr} {ma mb : ME} {pos : Pos} (ha : SE X a ma) (hb : SE X b mb) (hm : behindInMarks .In b = false := by rfl) : STt X (.Compare a [.In] [b] pos) (tTru (m2 dIn ma mb)) := zhn znL (v2_in false) (bl_in false) ha hb hm
end M
namespace M
open L2 PySem PySem.Spec
open PyProof.Rows hiding St
open Sem (wp)
variable {b N i k : Nat} {a it l : Addr} {t : Bool} {h h' : Heap} {is xs ys : Array Value} {Q : Value -> Shared -> Prop}
theorem nin2 {b x y z : Nat} (h : b ∈ [x, y]) (h1 : x ≠ z) (h2 : y ≠ z) : b ≠ z := by
 simp at h
 rcases h with rfl | rfl <;> assumption
theorem nA {N a b : Nat} (h : a ≠ b) : N + a ≠ N + b := fun e => h (Nat.add_left_cancel e)
theorem nB (h : 0 ≠ b) : N ≠ N + b := fun e => h (Nat.add_left_cancel (show N + 0 = N + b from e))
theorem nC (h : b ≠ 0) : N + b ≠ N := fun e => h (Nat.add_left_cancel (show N + b = N + 0 from e))
theorem nL {a N b : Nat} (h : a < N) : a ≠ N + b := Nat.ne_of_lt (Nat.lt_of_lt_of_le h (Nat.le_add_right _ _))
theorem ne_ {a b : Nat} (h : a ≠ b) : a ≠ b := h
local macro_rules | `(tactic| ac_rfl) => `(tactic| first | exact M.nA (by decide) | exact M.nB (by decide) | exact M.nC (by decide) | exact M.nL (by assumption) | exact Nat.ne_of_lt (by assumption) | lia)
noncomputable def SrcIt : Bool -> Heap -> Addr -> Addr -> Nat -> Prop
 | true, h, it, a, i => h.IsTupleIter it a i
 | false, h, it, a, i => h.IsListIter it a i
noncomputable def SrcH : Bool -> Heap -> Addr -> Array Value -> Prop
 | true, h, a, its => h.IsTuple a its
 | false, h, a, its => h.IsList a its
theorem SrcIt.at (x : SrcIt t h it a i) (e : ∀ o, h.get? it = some o -> h'.get? it = some o) : SrcIt t h' it a i := by
 cases t
 ·exact Heap.IsListIter.at x e
 ·exact Heap.IsTupleIter.at x e
theorem SrcH.at (x : SrcH t h a is) (e : ∀ o, h.get? a = some o -> h'.get? a = some o) : SrcH t h' a is := by
 cases t
 ·exact Heap.IsList.at x e
 ·obtain ⟨o, ho, r⟩ := x; exact ⟨o, e _ ho, r⟩
theorem SrcIt.obj (x : SrcIt t h it a i) : ∃ o, h.get? it = some o /\ ∀ v, o.data ≠ .cell v := by
 cases t <;> (obtain ⟨o, e, c, d⟩ := x; exact ⟨o, e, fun v z => by rw [d] at z; cases z⟩)
theorem SrcH.lt (x : SrcH t h a is) : a < h.objs.size := by
 cases t <;> (obtain ⟨o, e, _⟩ := x; exact Heap.lt_size e)
section
variable {prog : Program} {w : World} {A : Around} {E : Value -> Shared -> Prop} {s : Shared}
theorem zmL {items} (hit : s.heap.IsTupleIter it l i) (hl : s.heap.IsTuple l items)
  (k : (∃ x, items[i]? = some x /\ ∀ h', h'.IsTupleIter it l (i + 1) -> Heap.SameBut it s.heap h' -> Q x { s with heap := h' }) \/
   (items[i]? = none /\ A.handled = none /\ ∀ h' e, Heap.ExtBut it s.heap h' -> (∃ o, h'.get? e = some o /\ o.cls = .type "StopIteration") -> E (.ref e) { s with heap := h' })) :
  wpAny (model prog w) A (Builtin.SmallTypes.nextOf (.ref it)) Q E s := by
 obtain ⟨o, ho, hc, hd⟩ := id hit
 obtain ⟨ol, hol, -, nl, hdl⟩ := hl
 have ne : ¬ ((Value.ref l == Value.none) = true) := Bool.false_ne_true
 unfold Builtin.SmallTypes.nextOf
 refine wpAny_bind (wpAny_callSpecial?_slot (name := Str.ofString "__next__") hit.typeIs slot_tupleiter_next (wpAny_call_entry slot_tupleiter_next hit.typeIs entry_tupleiter_next ?_ (args_tupleiter_next _)))
 refine (?_ : wpAny _ _ (field (.ref it) 0 >>= _) _ _ s)
 refine wpAny_bind (wpAny_field ho hd (x := .ref l) rfl (?_ : wpAny _ _ (if (Value.ref l == Value.none) = true then _ else _) _ _ s))
 rw [if_neg ne]
 refine (?_ : wpAny _ _ (field (.ref it) 1 >>= _) _ _ s)
 refine wpAny_bind (wpAny_field ho hd (x := .int i 0) rfl (?_ : wpAny _ _ (seqItems? (.ref l) >>= _) _ _ s))
 refine wpAny_bind (wpAny_seqItems hol hdl ?_)
 rcases k with ⟨x, hx, k⟩ | ⟨hx, hh, k⟩ <;> simp only [Int.toNat_natCast, hx]
 ·have upd : ∀ h' : Heap, h'.get? it = some (o.mapFields fun a => a.setIfInBounds 1 (rawInt (((i : Nat) : Int) + 1))) -> h'.IsTupleIter it l (i + 1) := fun h' e => ⟨_, e, (Obj.cls_mapFields ..).trans hc, by rw [Obj.data_mapFields hd]; simp [rawInt]⟩
  refine wpAny_bind (wpAny_setField ho hd (by simp) (wpAny_pure ⟨x, rfl, wpAny_pure (k _ ?_ (Heap.SameBut.update ..))⟩))
  refine ⟨_, Heap.get?_update_self _ ho (Obj.isFreed_of_fields (Obj.data_mapFields hd _)), (Obj.cls_mapFields ..).trans hc, ?_⟩
  rw [Obj.data_mapFields hd]
  simp [rawInt]
 ·refine wpAny_bind (wpAny_rule (wpAny_bind (wpAny_setField ho hd (by simp) (?_ : wpAny _ _ (newExc (.type "StopIteration") [] >>= _) _ _ _))))
  refine wpAny_bind ?_
  simp only [newExc, newTuple]
  refine wpAny_bind (wpAny_newObj_type (wpAny_bind (m := firstArgMember _ _) (wpAny_of_eq (a := Value.none) (by first | rfl | (simp only [firstArgMember]; rfl)) (wpAny_newObj_type ?_ (by size_fits)))) (by size_fits))
  simp only [raiseNew]
  refine wpAny_bind (wpAny_handled ?_)
  first | rw [show A.in1.handled = none from hh] | rw [hh]
  exact wpAny_bind (wpAny_pure (wpAny_throw (k _ _ (((Heap.SameBut.update ..).extBut.push _).push _) ⟨_, Heap.get?_push_size _ rfl, rfl⟩)))
theorem zbp (hh : A.handled = none) (it l : Addr) (hne : l ≠ it) (items : Array Value) : Draws prog w A it [it, l] items.size (fun i v => items[i]? = some v) (fun i h => SrcIt t h it l i /\ SrcH t h l items) := by
 cases t
 ·exact Draws.list hh it l hne items
 ·refine ⟨fun _ _ st => ?_, fun _ _ _ st hk => ⟨SrcIt.at st.1 fun o e => hk it (by simp) o e, SrcH.at st.2 fun o e => hk l (by simp) o e⟩, fun i s Q E hi st hQ => ?_, fun s Q E st hE => zmL st.1 st.2 (.inr ⟨by simp, hh, hE⟩)⟩
  ·obtain ⟨o, e, -⟩ := SrcIt.obj st.1
   exact ⟨o, e⟩
  ·exact zmL st.1 st.2 (.inl ⟨items[i], by simp [hi], fun h' a b => hQ _ h' s.toks (by simp [hi]) ⟨a, SrcH.at st.2 fun o e => (b.2 l hne).trans e⟩ b⟩)
noncomputable def srcO (t : Bool) (a : Addr) : Obj := { cls := .type (if t then "tuple_iterator" else "list_iterator"), data := .fields #[.ref a, .int 0 0] }
theorem zhT (e : h.get? it = some (srcO t a)) : SrcIt t h it a 0 := by
 cases t <;> exact ⟨_, e, rfl, rfl⟩
theorem zdL (t : Bool) (a : Addr) : (srcO t a).isFreed = false := by cases t <;> rfl
theorem zco {items} (hl : SrcH t s.heap a items) (hQ : Q (.ref s.heap.objs.size) { s with heap := s.heap.push (srcO t a) }) :
  wpAny (model prog w) A (pyIter (.ref a)) Q E s := by
 cases t
 ·exact wpAny_pyIter_list hl hQ
 ·exact wpAny_pyIter_tuple hl hQ
noncomputable abbrev zdn (h : Heap) (T : Addr) (a b c : Value) : Prop := h.get? T = some { cls := .type "tuple", data := .seq #[a, b, c] }
theorem ziM {T : Addr} {a b c x : Value} {Q : Unit -> Shared -> Prop} (hT : zdn s.heap T a b c)
  (h : ∀ h', h'.get? T = some { cls := .type "tuple", data := .seq ((#[a, b, c] : Array Value).setIfInBounds k x) } -> Heap.SameBut T s.heap h' -> Q () { s with heap := h' }) :
  wpAny (model prog w) A (updateSeq T (·.setIfInBounds k x)) Q E s :=
 wpAny_updateSeq hT rfl (h _ (by rw [Heap.get?_update_self _ hT rfl]; simp [Obj.mapSeq]) (Heap.SameBut.update ..))
section
variable {N a1 a2 a3 : Nat} {n1 n2 n3 : Nat} {P1 P2 P3 : Nat -> Value -> Prop} {S1 S2 S3 : Nat -> Heap -> Prop}
theorem znX {a b c : Value} (D1 : Draws prog w A N [N, a1] n1 P1 S1) (D2 : Draws prog w A (N + 1) [N + 1, a2] n2 P2 S2) (D3 : Draws prog w A (N + 2) [N + 2, a3] n3 P3 S3) (l1 : a1 < N) (l2 : a2 < N) (l3 : a3 < N)
  (hz : IsZip s.heap (N + 5) (N + 3) (N + 4) .none) (hTI : zdn s.heap (N + 3) (.ref N) (.ref (N + 1)) (.ref (N + 2))) (hTO : zdn s.heap (N + 4) a b c) (h1 : S1 i s.heap) (h2 : S2 i s.heap) (h3 : S3 i s.heap) (i1 : i < n1) (i2 : i < n2) (i3 : i < n3)
  (k : ∀ x y z h' tk, P1 i x -> P2 i y -> P3 i z -> IsZip h' (N + 5) (N + 3) (N + 4) (rawInt s.heap.objs.size) -> zdn h' (N + 4) x y z -> S1 (i + 1) h' -> S2 (i + 1) h' -> S3 (i + 1) h' -> zdn h' s.heap.objs.size x y z ->
   (∀ c o, c ≠ N -> c ≠ N + 1 -> c ≠ N + 2 -> c ≠ N + 4 -> c ≠ N + 5 -> s.heap.get? c = some o -> h'.get? c = some o) -> Q (.ref s.heap.objs.size) { s with heap := h', toks := tk }) :
  wpAny (model prog w) A (Builtin.«zip.__next__» ⟨[.ref (N + 5)], []⟩) (fun fin s' => ∃ v, fin = .done (.ret v) /\ Q v s') E s := by
 refine (?_ : wpAny _ _ (field (.ref (N + 5)) 2 >>= _) _ _ _)
 refine wpAny_bind (wpAny_field hz rfl (x := .bool false) rfl (?_ : wpAny _ _ (field (.ref (N + 5)) 3 >>= _) _ _ _))
 refine wpAny_bind (wpAny_field hz rfl (x := .ref (N + 3)) rfl (wpAny_bind (wpAny_seqItems hTI rfl (?_ : wpAny _ _ (Builtin.SmallTypes.ownedTupleIsFree (.ref (N + 5)) >>= _) _ _ _))))
 refine wpAny_bind ?_
 unfold Builtin.SmallTypes.ownedTupleIsFree
 refine wpAny_bind (wpAny_field hz rfl (x := .none) rfl (wpAny_pure ?_))
 simp only [if_true]
 refine wpAny_bind (wpAny_rule (wpAny_bind (wpAny_field hz rfl (x := .ref (N + 4)) rfl (wpAny_bind (wpAny_setField_rec hz (by simp) fun g1 z1 s1 => wpAny_bind ?_)))))
 replace z1 : IsZip g1 (N + 5) (N + 3) (N + 4) .ellipsis := z1
 simp only [List.zipIdx_cons, List.zipIdx_nil, List.forIn_cons, List.forIn_nil]
 refine wpAny_bind (wpAny_bind (wpAny_onRaise (?_ : wpAny _ _ (Builtin.SmallTypes.nextOf (.ref N) >>= _) _ _ _)))
 have e1 : S1 i g1 := D1.frame _ _ _ h1 fun b hb o e => (s1.2 b (nin2 hb (by ac_rfl) (by ac_rfl))).trans e
 refine wpAny_bind (D1.item i _ _ _ i1 e1 fun x g2 t2 p1 f2 s2 => wpAny_pure ?_)
 have q2 : zdn g2 (N + 4) a b c := (s2.2 _ (ne_ (by ac_rfl))).trans ((s1.2 _ (ne_ (by ac_rfl))).trans hTO)
 refine wpAny_bind (wpAny_seqItems q2 rfl (wpAny_bind (ziM q2 fun g3 q3 s3 => wpAny_bind (wpAny_letGo (wpAny_pure ?_)))))
 replace q3 : zdn g3 (N + 4) x b c := q3
 have k3 : ∀ d o, d ≠ N -> d ≠ N + 4 -> d ≠ N + 5 -> s.heap.get? d = some o -> g3.get? d = some o := fun d o c1 c2 c3 e => (s3.2 d c2).trans ((s2.2 d c1).trans ((s1.2 d c3).trans e))
 refine wpAny_bind (wpAny_bind (wpAny_onRaise (?_ : wpAny _ _ (Builtin.SmallTypes.nextOf (.ref (N + 1)) >>= _) _ _ _)))
 have e3 : S2 i g3 := D2.frame _ _ _ h2 fun b hb o e => k3 b o (nin2 hb (by ac_rfl) (by ac_rfl)) (nin2 hb (by ac_rfl) (by ac_rfl)) (nin2 hb (by ac_rfl) (by ac_rfl)) e
 refine wpAny_bind (D2.item i _ _ _ i2 e3 fun y g4 t4 p2 f4 s4 => wpAny_pure ?_)
 have q4 : zdn g4 (N + 4) x b c := (s4.2 _ (ne_ (by ac_rfl))).trans q3
 refine wpAny_bind (wpAny_seqItems q4 rfl (wpAny_bind (ziM q4 fun g5 q5 s5 => wpAny_bind (wpAny_letGo (wpAny_pure ?_)))))
 replace q5 : zdn g5 (N + 4) x y c := q5
 refine wpAny_bind (wpAny_bind (wpAny_onRaise (?_ : wpAny _ _ (Builtin.SmallTypes.nextOf (.ref (N + 2)) >>= _) _ _ _)))
 have e5 : S3 i g5 := D3.frame _ _ _ h3 fun b hb o e => (s5.2 b (nin2 hb (by ac_rfl) (by ac_rfl))).trans ((s4.2 b (nin2 hb (by ac_rfl) (by ac_rfl))).trans (k3 b o (nin2 hb (by ac_rfl) (by ac_rfl)) (nin2 hb (by ac_rfl) (by ac_rfl)) (nin2 hb (by ac_rfl) (by ac_rfl)) e))
 refine wpAny_bind (D3.item i _ _ _ i3 e5 fun z g6 t6 p3 f6 s6 => wpAny_pure ?_)
 have q6 : zdn g6 (N + 4) x y c := (s6.2 _ (ne_ (by ac_rfl))).trans q5
 refine wpAny_bind (wpAny_seqItems q6 rfl (wpAny_bind (ziM q6 fun g7 q7 s7 => wpAny_bind (wpAny_letGo (wpAny_pure (wpAny_pure ?_))))))
 replace q7 : zdn g7 (N + 4) x y z := q7
 have sz : g7.objs.size = s.heap.objs.size := by rw [s7.1, s6.1, s5.1, s4.1, s3.1, s2.1, s1.1]
 have z7 : IsZip g7 (N + 5) (N + 3) (N + 4) .ellipsis := (s7.2 _ (ne_ (by ac_rfl))).trans ((s6.2 _ (ne_ (by ac_rfl))).trans ((s5.2 _ (ne_ (by ac_rfl))).trans ((s4.2 _ (ne_ (by ac_rfl))).trans ((s3.2 _ (ne_ (by ac_rfl))).trans ((s2.2 _ (ne_ (by ac_rfl))).trans z1)))))
 have zl : (N + 5 : Nat) < g7.objs.size := Heap.lt_size z7
 have k7 : ∀ d o, d ≠ N -> d ≠ N + 1 -> d ≠ N + 2 -> d ≠ N + 4 -> d ≠ N + 5 -> s.heap.get? d = some o -> g7.get? d = some o := fun d o c1 c2 c3 c4 c5 e => (s7.2 d c4).trans ((s6.2 d c3).trans ((s5.2 d c4).trans ((s4.2 d c2).trans (k3 d o c1 c4 c5 e))))
 have f7 : S1 (i + 1) g7 := D1.frame _ _ _ f2 fun b hb o e => (s7.2 b (nin2 hb (by ac_rfl) (by ac_rfl))).trans ((s6.2 b (nin2 hb (by ac_rfl) (by ac_rfl))).trans ((s5.2 b (nin2 hb (by ac_rfl) (by ac_rfl))).trans ((s4.2 b (nin2 hb (by ac_rfl) (by ac_rfl))).trans ((s3.2 b (nin2 hb (by ac_rfl) (by ac_rfl))).trans e))))
 have f7' : S2 (i + 1) g7 := D2.frame _ _ _ f4 fun b hb o e => (s7.2 b (nin2 hb (by ac_rfl) (by ac_rfl))).trans ((s6.2 b (nin2 hb (by ac_rfl) (by ac_rfl))).trans ((s5.2 b (nin2 hb (by ac_rfl) (by ac_rfl))).trans e))
 have f7'' : S3 (i + 1) g7 := D3.frame _ _ _ f6 fun b hb o e => (s7.2 b (nin2 hb (by ac_rfl) (by ac_rfl))).trans e
 refine wpAny_bind (wpAny_seqItems q7 rfl (wpAny_bind (wpAny_newTuple (?_ : wpAny _ _ (Builtin.SmallTypes.ownedTupleHandOut (.ref (N + 5)) (.ref g7.objs.size) >>= _) _ _ _))))
 refine wpAny_bind ?_
 unfold Builtin.SmallTypes.ownedTupleHandOut
 refine wpAny_bind (wpAny_setField_rec (show IsZip (g7.push { cls := .type "tuple", data := .seq #[x, y, z] }) (N + 5) (N + 3) (N + 4) .ellipsis from Heap.get?_push_of_some _ z7) (by simp) fun g9 z9 s9 => ?_)
 replace z9 : IsZip g9 (N + 5) (N + 3) (N + 4) (rawInt g7.objs.size) := z9
 refine wpAny_setField_rec z9 (by simp) fun g8 z8 s8 => wpAny_pure ⟨_, rfl, ?_⟩
 replace z8 : IsZip g8 (N + 5) (N + 3) (N + 4) (rawInt g7.objs.size) := z8
 have up : ∀ c o, c ≠ N + 5 -> g7.get? c = some o -> g8.get? c = some o := fun c o c1 e => (s8.2 c c1).trans ((s9.2 c c1).trans (Heap.get?_push_of_some _ e))
 have T8 : zdn g8 g7.objs.size x y z := (s8.2 _ (ne_ (by ac_rfl))).trans ((s9.2 _ (ne_ (by ac_rfl))).trans (Heap.get?_push_size _ rfl))
 rw [sz] at z8 T8
 refine (?_ : Q (.ref g7.objs.size) _)
 rw [sz]
 exact k x y z g8 _ p1 p2 p3 z8 (up _ _ (ne_ (by ac_rfl)) q7) (D1.frame _ _ _ f7 fun b hb o e => up b o (nin2 hb (by ac_rfl) (by ac_rfl)) e) (D2.frame _ _ _ f7' fun b hb o e => up b o (nin2 hb (by ac_rfl) (by ac_rfl)) e) (D3.frame _ _ _ f7'' fun b hb o e => up b o (nin2 hb (by ac_rfl) (by ac_rfl)) e) T8 fun c o c1 c2 c3 c4 c5 e => up c o c5 (k7 c o c1 c2 c3 c4 c5 e)
theorem zip3_end {a b c : Value} {Q : Fin -> Shared -> Prop} (D1 : Draws prog w A N [N, a1] n1 P1 S1) (D2 : Draws prog w A (N + 1) [N + 1, a2] n2 P2 S2) (D3 : Draws prog w A (N + 2) [N + 2, a3] n3 P3 S3) (l1 : a1 < N) (l2 : a2 < N) (l3 : a3 < N)
  (hz : IsZip s.heap (N + 5) (N + 3) (N + 4) .none) (hTI : zdn s.heap (N + 3) (.ref N) (.ref (N + 1)) (.ref (N + 2))) (hTO : zdn s.heap (N + 4) a b c) (h1 : S1 i s.heap) (h2 : S2 i s.heap) (h3 : S3 i s.heap) (hi : i = n1 \/ (i < n1 /\ (i = n2 \/ (i < n2 /\ i = n3))))
  (k : ∀ h' e tk, (∀ c o, c ≠ N -> c ≠ N + 1 -> c ≠ N + 2 -> c ≠ N + 4 -> c ≠ N + 5 -> s.heap.get? c = some o -> h'.get? c = some o) -> (∃ o, h'.get? e = some o /\ o.cls = .type "StopIteration") -> E (.ref e) { s with heap := h', toks := tk }) :
  wpAny (model prog w) A (Builtin.«zip.__next__» ⟨[.ref (N + 5)], []⟩) Q E s := by
 refine (?_ : wpAny _ _ (field (.ref (N + 5)) 2 >>= _) _ _ _)
 refine wpAny_bind (wpAny_field hz rfl (x := .bool false) rfl (?_ : wpAny _ _ (field (.ref (N + 5)) 3 >>= _) _ _ _))
 refine wpAny_bind (wpAny_field hz rfl (x := .ref (N + 3)) rfl (wpAny_bind (wpAny_seqItems hTI rfl (?_ : wpAny _ _ (Builtin.SmallTypes.ownedTupleIsFree (.ref (N + 5)) >>= _) _ _ _))))
 refine wpAny_bind ?_
 unfold Builtin.SmallTypes.ownedTupleIsFree
 refine wpAny_bind (wpAny_field hz rfl (x := .none) rfl (wpAny_pure ?_))
 simp only [if_true]
 refine wpAny_bind (wpAny_rule (wpAny_bind (wpAny_field hz rfl (x := .ref (N + 4)) rfl (wpAny_bind (wpAny_setField_rec hz (by simp) fun g1 z1 s1 => wpAny_bind ?_)))))
 replace z1 : IsZip g1 (N + 5) (N + 3) (N + 4) .ellipsis := z1
 simp only [List.zipIdx_cons, List.zipIdx_nil, List.forIn_cons, List.forIn_nil]
 refine wpAny_bind (wpAny_bind (wpAny_onRaise (?_ : wpAny _ _ (Builtin.SmallTypes.nextOf (.ref N) >>= _) _ _ _)))
 have e1 : S1 i g1 := D1.frame _ _ _ h1 fun b hb o e => (s1.2 b (nin2 hb (by ac_rfl) (by ac_rfl))).trans e
 rcases hi with rfl | ⟨i1, hi⟩
 ·refine wpAny_bind (D1.done _ _ _ e1 fun g2 e x2 he => ?_)
  obtain ⟨oe, hoe, hce⟩ := he
  have z2 : IsZip g2 (N + 5) (N + 3) (N + 4) .ellipsis := x2 _ _ (ne_ (by ac_rfl)) z1
  have hez : e ≠ N + 5 := fun x => by subst x; rw [z2] at hoe; cases hoe; simp at hce
  exact wpAny_setField_rec z2 (by simp) fun g3 _ s3 => k g3 e _ (fun c o c1 c2 c3 c4 c5 x => (s3.2 c c5).trans (x2 c o c1 ((s1.2 c c5).trans x))) ⟨oe, (s3.2 _ hez).trans hoe, hce⟩
 refine wpAny_bind (D1.item i _ _ _ i1 e1 fun x g2 t2 p1 f2 s2 => wpAny_pure ?_)
 have q2 : zdn g2 (N + 4) a b c := (s2.2 _ (ne_ (by ac_rfl))).trans ((s1.2 _ (ne_ (by ac_rfl))).trans hTO)
 refine wpAny_bind (wpAny_seqItems q2 rfl (wpAny_bind (ziM q2 fun g3 q3 s3 => wpAny_bind (wpAny_letGo (wpAny_pure ?_)))))
 replace q3 : zdn g3 (N + 4) x b c := q3
 have k3 : ∀ d o, d ≠ N -> d ≠ N + 4 -> d ≠ N + 5 -> s.heap.get? d = some o -> g3.get? d = some o := fun d o c1 c2 c3 e => (s3.2 d c2).trans ((s2.2 d c1).trans ((s1.2 d c3).trans e))
 have z3 : IsZip g3 (N + 5) (N + 3) (N + 4) .ellipsis := (s3.2 _ (ne_ (by ac_rfl))).trans ((s2.2 _ (ne_ (by ac_rfl))).trans z1)
 refine wpAny_bind (wpAny_bind (wpAny_onRaise (?_ : wpAny _ _ (Builtin.SmallTypes.nextOf (.ref (N + 1)) >>= _) _ _ _)))
 have e3 : S2 i g3 := D2.frame _ _ _ h2 fun b hb o e => k3 b o (nin2 hb (by ac_rfl) (by ac_rfl)) (nin2 hb (by ac_rfl) (by ac_rfl)) (nin2 hb (by ac_rfl) (by ac_rfl)) e
 rcases hi with rfl | ⟨i2, rfl⟩
 ·refine wpAny_bind (D2.done _ _ _ e3 fun g4 e x4 he => ?_)
  obtain ⟨oe, hoe, hce⟩ := he
  have z4 : IsZip g4 (N + 5) (N + 3) (N + 4) .ellipsis := x4 _ _ (ne_ (by ac_rfl)) z3
  have hez : e ≠ N + 5 := fun x => by subst x; rw [z4] at hoe; cases hoe; simp at hce
  exact wpAny_setField_rec z4 (by simp) fun g5 _ s5 => k g5 e _ (fun c o c1 c2 c3 c4 c5 x => (s5.2 c c5).trans (x4 c o c2 (k3 c o c1 c4 c5 x))) ⟨oe, (s5.2 _ hez).trans hoe, hce⟩
 refine wpAny_bind (D2.item i _ _ _ i2 e3 fun y g4 t4 p2 f4 s4 => wpAny_pure ?_)
 have q4 : zdn g4 (N + 4) x b c := (s4.2 _ (ne_ (by ac_rfl))).trans q3
 refine wpAny_bind (wpAny_seqItems q4 rfl (wpAny_bind (ziM q4 fun g5 q5 s5 => wpAny_bind (wpAny_letGo (wpAny_pure ?_)))))
 have z5 : IsZip g5 (N + 5) (N + 3) (N + 4) .ellipsis := (s5.2 _ (ne_ (by ac_rfl))).trans ((s4.2 _ (ne_ (by ac_rfl))).trans z3)
 refine wpAny_bind (wpAny_bind (wpAny_onRaise (?_ : wpAny _ _ (Builtin.SmallTypes.nextOf (.ref (N + 2)) >>= _) _ _ _)))
 have e5 : S3 i g5 := D3.frame _ _ _ h3 fun b hb o e => (s5.2 b (nin2 hb (by ac_rfl) (by ac_rfl))).trans ((s4.2 b (nin2 hb (by ac_rfl) (by ac_rfl))).trans (k3 b o (nin2 hb (by ac_rfl) (by ac_rfl)) (nin2 hb (by ac_rfl) (by ac_rfl)) (nin2 hb (by ac_rfl) (by ac_rfl)) e))
 refine wpAny_bind (D3.done _ _ _ e5 fun g6 e x6 he => ?_)
 obtain ⟨oe, hoe, hce⟩ := he
 have z6 : IsZip g6 (N + 5) (N + 3) (N + 4) .ellipsis := x6 _ _ (ne_ (by ac_rfl)) z5
 have hez : e ≠ N + 5 := fun x => by subst x; rw [z6] at hoe; cases hoe; simp at hce
 exact wpAny_setField_rec z6 (by simp) fun g7 _ s7 => k g7 e _ (fun c o c1 c2 c3 c4 c5 x => (s7.2 c c5).trans (x6 c o c3 ((s5.2 c c4).trans ((s4.2 c c2).trans (k3 c o c1 c4 c5 x))))) ⟨oe, (s7.2 _ hez).trans hoe, hce⟩
end
end
noncomputable abbrev tup_ (vs : Array Value) : Obj := { cls := .type "tuple", data := .seq vs }
noncomputable abbrev zip_ (ti to : Addr) : Obj := { cls := .type "zip", data := .fields #[.none, .bool false, .bool false, .ref ti, .ref to] }
noncomputable abbrev z2a (h : Heap) (t1 t2 : Bool) (l1 l2 : Addr) : Heap := (h.push (srcO t1 l1)).push (srcO t2 l2)
noncomputable abbrev z2b (h : Heap) (t1 t2 : Bool) (l1 l2 : Addr) : Heap := (z2a h t1 t2 l1 l2).push (tup_ #[.ref h.objs.size, .ref (h.push (srcO t1 l1)).objs.size])
noncomputable abbrev z2c (h : Heap) (t1 t2 : Bool) (l1 l2 : Addr) : Heap := (z2b h t1 t2 l1 l2).push (tup_ #[.none, .none])
noncomputable abbrev z2d (h : Heap) (t1 t2 : Bool) (l1 l2 : Addr) : Heap := (z2c h t1 t2 l1 l2).push (zip_ (z2a h t1 t2 l1 l2).objs.size (z2b h t1 t2 l1 l2).objs.size)
theorem zm5 (t1 t2 : Bool) (l1 l2 : Addr) (xs ys : Array Value) : Meets (Builtin.«zip.__new__» ⟨[.type "zip", .ref l1, .ref l2], []⟩) (fun _ R s => SrcH t1 s.heap l1 xs /\ SrcH t2 s.heap l2 ys /\
   R (.ok (.ret (.ref (z2c s.heap t1 t2 l1 l2).objs.size))) { s with heap := z2d s.heap t1 t2 l1 l2 }) :=
 .of_wp fun prog w A R s h => by
  obtain ⟨hp, g, d, tk, os⟩ := s
  obtain ⟨b1, b2, h⟩ := h
  have hsub := sub_zip
  have L1 : SrcH t1 (Shared.heap ⟨hp, g, d, tk, os⟩) l1 xs := b1
  have L2 : SrcH t2 (Shared.heap ⟨hp.push (srcO t1 l1), g, d, tk, os⟩) l2 ys := SrcH.at b2 fun o e => Heap.get?_push_of_some _ e
  wp_walk using zco L1, zco L2
  exact ⟨_, rfl, h⟩
noncomputable abbrev z3a (h : Heap) (t1 t2 t3 : Bool) (l1 l2 l3 : Addr) : Heap := ((h.push (srcO t1 l1)).push (srcO t2 l2)).push (srcO t3 l3)
noncomputable abbrev z3b (h : Heap) (t1 t2 t3 : Bool) (l1 l2 l3 : Addr) : Heap := (z3a h t1 t2 t3 l1 l2 l3).push (tup_ #[.ref h.objs.size, .ref (h.push (srcO t1 l1)).objs.size, .ref ((h.push (srcO t1 l1)).push (srcO t2 l2)).objs.size])
noncomputable abbrev z3c (h : Heap) (t1 t2 t3 : Bool) (l1 l2 l3 : Addr) : Heap := (z3b h t1 t2 t3 l1 l2 l3).push (tup_ #[.none, .none, .none])
noncomputable abbrev z3d (h : Heap) (t1 t2 t3 : Bool) (l1 l2 l3 : Addr) : Heap := (z3c h t1 t2 t3 l1 l2 l3).push (zip_ (z3a h t1 t2 t3 l1 l2 l3).objs.size (z3b h t1 t2 t3 l1 l2 l3).objs.size)
set_option maxHeartbeats 4000000 in
theorem znq (t1 t2 t3 : Bool) (l1 l2 l3 : Addr) (xs ys zs : Array Value) : Meets (Builtin.«zip.__new__» ⟨[.type "zip", .ref l1, .ref l2, .ref l3], []⟩) (fun _ R s => SrcH t1 s.heap l1 xs /\ SrcH t2 s.heap l2 ys /\ SrcH t3 s.heap l3 zs /\
   R (.ok (.ret (.ref (z3c s.heap t1 t2 t3 l1 l2 l3).objs.size))) { s with heap := z3d s.heap t1 t2 t3 l1 l2 l3 }) :=
 .of_wp fun prog w A R s h => by
  obtain ⟨hp, g, d, tk, os⟩ := s
  obtain ⟨b1, b2, b3, h⟩ := h
  have hsub := sub_zip
  have L1 : SrcH t1 (Shared.heap ⟨hp, g, d, tk, os⟩) l1 xs := b1
  have L2 : SrcH t2 (Shared.heap ⟨hp.push (srcO t1 l1), g, d, tk, os⟩) l2 ys := SrcH.at b2 fun o e => Heap.get?_push_of_some _ e
  have L3 : SrcH t3 (Shared.heap ⟨(hp.push (srcO t1 l1)).push (srcO t2 l2), g, d, tk, os⟩) l3 zs := SrcH.at b3 fun o e => Heap.get?_push_of_some _ (Heap.get?_push_of_some _ e)
  wp_walk using zco L1, zco L2, zco L3
  exact ⟨_, rfl, h⟩
theorem zkk (a b c : Value) : checkTypeCall "zip" ⟨[a, b, c], []⟩ = pure () := by kernel_rfl
theorem zlo (a b c : Value) : checkBuiltinCall "zip.__new__" ⟨[.type "zip", a, b, c], []⟩ = pure () := by kernel_rfl
theorem zm9 (a b c d : Value) : argsOk "object.__init__" ⟨[a, b, c, d], []⟩ := by
 unfold argsOk; rw [signature?_of (id := "object.__init__") (n := ['_', '_', 't', 'i', 'n', 'i', '_', '_']) (o := ['t', 'c', 'e', 'j', 'b', 'o']) (by kernel_rfl) F.owner_object]; kernel_rfl
section
variable {prog : Program} {w : World} {A : Around} {E : Value -> Shared -> Prop} {s : Shared}
theorem zou {t1 t2 : Bool} {l1 l2 : Addr} (h1 : SrcH t1 s.heap l1 xs) (h2 : SrcH t2 s.heap l2 ys)
  (k : ∀ h', IsZip h' (s.heap.objs.size + 4) (s.heap.objs.size + 2) (s.heap.objs.size + 3) .none -> IsPair h' (s.heap.objs.size + 2) (.ref s.heap.objs.size) (.ref (s.heap.objs.size + 1)) ->
   IsPair h' (s.heap.objs.size + 3) .none .none -> SrcIt t1 h' s.heap.objs.size l1 0 -> SrcIt t2 h' (s.heap.objs.size + 1) l2 0 ->
   (∀ c o, s.heap.get? c = some o -> h'.get? c = some o) -> Q (.ref (s.heap.objs.size + 4)) { s with heap := h' }) : wpAny (model prog w) A (call (.type "zip") [.ref l1, .ref l2]) Q E s := by
 refine callType_new F.called_zip (by decide) (F.typeCall_zip_2 _ _) (F.newCall_zip_2 _ _) (fun obj => F.args_object_init_3 obj _ _) F.entry_zip_new (zm5 t1 t2 l1 l2 xs ys) ⟨h1, h2, (?_ : _ /\ _)⟩
 have y1 : (s.heap.push (srcO t1 l1)).objs.size = s.heap.objs.size + 1 := Heap.size_push ..
 have y2 : (z2a s.heap t1 t2 l1 l2).objs.size = s.heap.objs.size + 2 := by rw [Heap.size_push, y1]
 have y3 : (z2b s.heap t1 t2 l1 l2).objs.size = s.heap.objs.size + 3 := by rw [Heap.size_push, y2]
 have y4 : (z2c s.heap t1 t2 l1 l2).objs.size = s.heap.objs.size + 4 := by rw [Heap.size_push, y3]
 have g5 : (z2d s.heap t1 t2 l1 l2).get? (z2c s.heap t1 t2 l1 l2).objs.size = some _ := Heap.get?_push_size _ rfl
 have g4 : (z2d s.heap t1 t2 l1 l2).get? (z2b s.heap t1 t2 l1 l2).objs.size = some _ := Heap.get?_push_of_some _ (Heap.get?_push_size _ rfl)
 have g3 : (z2d s.heap t1 t2 l1 l2).get? (z2a s.heap t1 t2 l1 l2).objs.size = some _ := Heap.get?_push_of_some _ (Heap.get?_push_of_some _ (Heap.get?_push_size _ rfl))
 have g2 : (z2d s.heap t1 t2 l1 l2).get? (s.heap.push (srcO t1 l1)).objs.size = some (srcO t2 l2) := Heap.get?_push_of_some _ (Heap.get?_push_of_some _ (Heap.get?_push_of_some _ (Heap.get?_push_size _ (zdL ..))))
 have g1 : (z2d s.heap t1 t2 l1 l2).get? s.heap.objs.size = some (srcO t1 l1) := Heap.get?_push_of_some _ (Heap.get?_push_of_some _ (Heap.get?_push_of_some _ (Heap.get?_push_of_some _ (Heap.get?_push_size _ (zdL ..)))))
 rw [y2, y3, y4] at g5
 rw [y1, y2] at g3
 rw [y3] at g4
 rw [y1] at g2
 rw [y4]
 exact ⟨⟨_, g5, rfl⟩, k _ g5 g3 g4 (zhT g1) (zhT g2) fun c o x => Heap.get?_push_of_some _ (Heap.get?_push_of_some _ (Heap.get?_push_of_some _ (Heap.get?_push_of_some _ (Heap.get?_push_of_some _ x))))⟩
theorem zob {t1 t2 t3 : Bool} {l1 l2 l3 : Addr} {xs ys zs : Array Value} (h1 : SrcH t1 s.heap l1 xs) (h2 : SrcH t2 s.heap l2 ys) (h3 : SrcH t3 s.heap l3 zs)
  (k : ∀ h', IsZip h' (s.heap.objs.size + 5) (s.heap.objs.size + 3) (s.heap.objs.size + 4) .none -> zdn h' (s.heap.objs.size + 3) (.ref s.heap.objs.size) (.ref (s.heap.objs.size + 1)) (.ref (s.heap.objs.size + 2)) ->
   zdn h' (s.heap.objs.size + 4) .none .none .none -> SrcIt t1 h' s.heap.objs.size l1 0 -> SrcIt t2 h' (s.heap.objs.size + 1) l2 0 -> SrcIt t3 h' (s.heap.objs.size + 2) l3 0 ->
   (∀ c o, s.heap.get? c = some o -> h'.get? c = some o) -> Q (.ref (s.heap.objs.size + 5)) { s with heap := h' }) : wpAny (model prog w) A (call (.type "zip") [.ref l1, .ref l2, .ref l3]) Q E s := by
 refine callType_new F.called_zip (by decide) (zkk _ _ _) (zlo _ _ _) (fun obj => zm9 obj _ _ _) F.entry_zip_new (znq t1 t2 t3 l1 l2 l3 xs ys zs) ⟨h1, h2, h3, (?_ : _ /\ _)⟩
 have y1 : (s.heap.push (srcO t1 l1)).objs.size = s.heap.objs.size + 1 := Heap.size_push ..
 have y2 : ((s.heap.push (srcO t1 l1)).push (srcO t2 l2)).objs.size = s.heap.objs.size + 2 := by rw [Heap.size_push, y1]
 have y3 : (z3a s.heap t1 t2 t3 l1 l2 l3).objs.size = s.heap.objs.size + 3 := by rw [Heap.size_push, y2]
 have y4 : (z3b s.heap t1 t2 t3 l1 l2 l3).objs.size = s.heap.objs.size + 4 := by rw [Heap.size_push, y3]
 have y5 : (z3c s.heap t1 t2 t3 l1 l2 l3).objs.size = s.heap.objs.size + 5 := by rw [Heap.size_push, y4]
 have g6 : (z3d s.heap t1 t2 t3 l1 l2 l3).get? (z3c s.heap t1 t2 t3 l1 l2 l3).objs.size = some _ := Heap.get?_push_size _ rfl
 have g5 : (z3d s.heap t1 t2 t3 l1 l2 l3).get? (z3b s.heap t1 t2 t3 l1 l2 l3).objs.size = some _ := Heap.get?_push_of_some _ (Heap.get?_push_size _ rfl)
 have g4 : (z3d s.heap t1 t2 t3 l1 l2 l3).get? (z3a s.heap t1 t2 t3 l1 l2 l3).objs.size = some _ := Heap.get?_push_of_some _ (Heap.get?_push_of_some _ (Heap.get?_push_size _ rfl))
 have g3 : (z3d s.heap t1 t2 t3 l1 l2 l3).get? ((s.heap.push (srcO t1 l1)).push (srcO t2 l2)).objs.size = some (srcO t3 l3) := Heap.get?_push_of_some _ (Heap.get?_push_of_some _ (Heap.get?_push_of_some _ (Heap.get?_push_size _ (zdL ..))))
 have g2 : (z3d s.heap t1 t2 t3 l1 l2 l3).get? (s.heap.push (srcO t1 l1)).objs.size = some (srcO t2 l2) := Heap.get?_push_of_some _ (Heap.get?_push_of_some _ (Heap.get?_push_of_some _ (Heap.get?_push_of_some _ (Heap.get?_push_size _ (zdL ..)))))
 have g1 : (z3d s.heap t1 t2 t3 l1 l2 l3).get? s.heap.objs.size = some (srcO t1 l1) := Heap.get?_push_of_some _ (Heap.get?_push_of_some _ (Heap.get?_push_of_some _ (Heap.get?_push_of_some _ (Heap.get?_push_of_some _ (Heap.get?_push_size _ (zdL ..))))))
 rw [y3, y4, y5] at g6
 rw [y1, y2, y3] at g4
 rw [y4] at g5
 rw [y2] at g3
 rw [y1] at g2
 rw [y5]
 exact ⟨⟨_, g6, rfl⟩, k _ g6 g4 g5 (zhT g1) (zhT g2) (zhT g3) fun c o x => Heap.get?_push_of_some _ (Heap.get?_push_of_some _ (Heap.get?_push_of_some _ (Heap.get?_push_of_some _ (Heap.get?_push_of_some _ (Heap.get?_push_of_some _ x)))))⟩
noncomputable abbrev en_ (it : Addr) : Obj := { cls := .type "enumerate", data := .fields #[.none, .bool false, .ref it, rawInt 0, .none, .none] }
theorem zna (t : Bool) (l : Addr) (o : Obj) (xs : Array Value) : Meets (Builtin.«enumerate.__new__» ⟨[.type "enumerate", .ref l], []⟩) (fun _ R s => s.heap.get? l = some o /\ SrcH t s.heap l xs /\
   R (.ok (.ret (.ref (s.heap.push (srcO t l)).objs.size))) { s with heap := (s.heap.push (srcO t l)).push (en_ s.heap.objs.size) }) :=
 .of_wp fun prog w A R s h => by
  obtain ⟨hp, g, d, tk, os⟩ := s
  obtain ⟨hl, b, h⟩ := h
  have hsub := sub_enumerate
  have hL : SrcH t (Shared.heap ⟨hp, g, d, tk, os⟩) l xs := b
  wp_walk using AutoSeq1.wpAny_loadPart' hl
  refine wpAny_stack_any fun st => wpAny_pure ?_
  split
  ·rename_i c _ _ _ _ _
   cases (c == Value.type "enumerate") <;> (wp_walk using AutoSeq1.wpAny_loadPart' hl, zco hL; exact ⟨_, rfl, h⟩)
  ·wp_walk using AutoSeq1.wpAny_loadPart' hl, zco hL
   exact ⟨_, rfl, h⟩
theorem zoI (h1 : SrcH t s.heap l xs)
  (k : ∀ h', IsEnum h' (s.heap.objs.size + 1) s.heap.objs.size 0 .none -> SrcIt t h' s.heap.objs.size l 0 -> (∀ b o, s.heap.get? b = some o -> h'.get? b = some o) -> Q (.ref (s.heap.objs.size + 1)) { s with heap := h' }) :
  wpAny (model prog w) A (call (.type "enumerate") [.ref l]) Q E s := by
 have ⟨o, ho⟩ : ∃ o, s.heap.get? l = some o := by cases t <;> (obtain ⟨o, e, -⟩ := h1; exact ⟨o, e⟩)
 refine callType_new F.called_enumerate (by decide) (F.typeCall_enumerate_1 _) (F.newCall_enumerate_1 _) (fun obj => F.args_object_init_2 obj _) F.entry_enumerate_new (zna t l o xs) ⟨ho, h1, (?_ : _ /\ _)⟩
 have y1 : (s.heap.push (srcO t l)).objs.size = s.heap.objs.size + 1 := Heap.size_push ..
 have g2 : ((s.heap.push (srcO t l)).push (en_ s.heap.objs.size)).get? (s.heap.push (srcO t l)).objs.size = some _ := Heap.get?_push_size _ rfl
 have g1 : ((s.heap.push (srcO t l)).push (en_ s.heap.objs.size)).get? s.heap.objs.size = some (srcO t l) := Heap.get?_push_of_some _ (Heap.get?_push_size _ (zdL ..))
 rw [y1] at g2
 rw [y1]
 exact ⟨⟨_, g2, rfl⟩, k _ g2 (zhT g1) fun b o x => Heap.get?_push_of_some _ (Heap.get?_push_of_some _ x)⟩
end
end M
namespace M
local macro_rules | `(tactic| ac_rfl) => `(tactic| first | exact M.nA (by decide) | exact M.nB (by decide) | exact M.nC (by decide) | exact M.nL (by assumption) | exact Nat.ne_of_lt (by assumption) | lia)
open L2 PySem PySem.Spec
open PyProof.Rows hiding St
open Sem (wp)
variable {t' ek : Nat} {h' : Heap} {fp : List Addr} {vs xs : List V} {its : List Value} {t : Bool} {X : Cx} {pins : List (Addr × Obj)} {σ : St} {H : Hp} {s : Shared} {a : Expr} {K : W.Frag} {elts : List Expr} {ep : Pos} {ta : TA} {es : List D} {ma : MA}
section
variable {X : Cx} {pins : List (Addr × Obj)} {σ : St} {H : Hp} {s : Shared}
theorem zkA (I : Inv X pins σ H s) (k : ∀ b o, b ∉ fp -> s.heap.get? b = some o -> h'.get? b = some o) (hf : ∀ b ∈ fp, FpOk X pins H b) : Inv X pins σ H { s with heap := h', toks := t' } := by
 have nit : ∀ b u, H b = some u -> b ∉ fp := fun b u e z => by rw [(hf b z).1] at e; cases e
 refine I.step (g' := s.gens) (d' := s.drawn) (ch := fp) (fun b hb => ?_) (fun b o _ _ hc e _ => k b o hc e) (fun b o _ _ hc e _ => ⟨o.slots, k b o hc e⟩) (fun _ _ _ _ n => n)
  (fun b o hc e => ⟨o, k b o hc e⟩) (fun _ _ e => e) (fun _ _ _ e => e) (fun b ps e => ⟨#[], by rw [e]; simp⟩) (fun m hm => ?_) (fun b u e => ?_) I.bare
 ·obtain ⟨f0, f1, f2, f3, f4, f5⟩ := hf b hb
  exact ⟨f3, f1, f4, f5⟩
 ·obtain ⟨o, es, ep, ho, r⟩ := hm
  exact ⟨o, es, ep, k _ o (fun z => (hf _ z).2.1 rfl) ho, r⟩
 ·refine (I.hok b u e).stay (fun c v hc q => k c v ?_ q) (fun _ q => q) fun _ _ q => q
  rcases hc with z | z
  ·rw [z]; exact nit b u e
  ·exact nit c _ z
theorem zl6 {t' : Nat} {h' : Heap} {fp : List Addr} (I : Inv X pins σ H s) (k : ∀ b o, b ∉ fp -> s.heap.get? b = some o -> h'.get? b = some o) (hf : ∀ b ∈ fp, FpOk X pins H b) (hl : ∀ b ∈ fp, b < s.heap.objs.size)
  (hT : h'.get? s.heap.objs.size = some (tup_ its.toArray)) (hz : vs.length <= sizeLine) (r : Vals vs its) : Inv X pins σ (upd H s.heap.objs.size (.tup vs)) { s with heap := h', toks := t' } := by
 have I1 := I.laid (t' := s.toks) (a := s.heap.objs.size) (o := .tup vs) (h' := s.heap.push (tup_ its.toArray)) (fun b u q => Heap.get?_push_of_some _ q) (Nat.le_refl _) ⟨hz, its, r, IsTup.new _ _⟩
 refine zkA (s := { s with heap := s.heap.push (tup_ its.toArray), toks := s.toks }) (t' := t') (fp := fp) I1 (fun b o hb e => ?_) fun b hb => ?_
 ·have e' : (s.heap.push (tup_ its.toArray)).get? b = some o := e
  rcases Heap.get?_push_cases e' with ⟨rfl, rfl⟩ | q
  ·exact hT
  ·exact k b o hb q
 ·obtain ⟨f0, fr⟩ := hf b hb
  refine ⟨?_, fr⟩
  rw [zaC (Nat.ne_of_lt (hl b hb))]
  exact f0
end
noncomputable def SrcSq (t : Bool) (K : W.Frag) (H : Hp) (a : Addr) (xs : List V) : Prop := match t with
 | true => SqT K H a xs
 | false => SqL K H a xs
theorem SrcSq.heap {a : Addr} (I : Inv X pins σ H s) (h : SrcSq t X.K H a xs) : ∃ its : List Value, Vals xs its /\ SrcH t s.heap a its.toArray /\ xs.length <= sizeLine := by
 cases t
 ·obtain ⟨its, r, p, z⟩ := I.list h
  exact ⟨its, r, p.isList, z⟩
 ·obtain ⟨its, r, p, z⟩ := I.tuple h
  exact ⟨its, r, p, z⟩
theorem SrcSq.inj {a : Addr} {xs ys : List V} (I : Inv X pins σ H s) (h : SrcSq t X.K H a xs) (h' : SrcSq t X.K H a ys) : xs = ys := by
 cases t
 ·exact I.list_inj h h'
 ·exact I.tuple_inj h h'
noncomputable def Itz2 (K : W.Frag) (t1 : Bool) (a1 : Addr) (t2 : Bool) (a2 : Addr) (n : Nat) : It where
 go := fun i H => i < n /\ ∃ xs ys, SrcSq t1 K H a1 xs /\ SrcSq t2 K H a2 ys /\ n = min xs.length ys.length
 yld := fun i H x H' => ∃ p x1 x2, H p = none /\ H' = upd H p (.tup [x1, x2]) /\ x = .ref p /\ ∀ xs ys, SrcSq t1 K H a1 xs -> SrcSq t2 K H a2 ys -> xs[i]? = some x1 /\ ys[i]? = some x2
 stop := fun i H => n <= i /\ ∃ xs ys, SrcSq t1 K H a1 xs /\ SrcSq t2 K H a2 ys /\ n = min xs.length ys.length
theorem nin4 {c N : Nat} (h : c ∉ ([N, N + 1, N + 2, N + 3, N + 4] : List Nat)) : c ≠ N /\ c ≠ N + 1 /\ c ≠ N + 3 /\ c ≠ N + 4 :=
 ⟨fun e => h (e ▸ .head _), fun e => h (e ▸ .tail _ (.head _)), fun e => h (e ▸ .tail _ (.tail _ (.tail _ (.head _)))), fun e => h (e ▸ .tail _ (.tail _ (.tail _ (.tail _ (.head _)))))⟩
theorem nin5 {c N : Nat} (h : c ∉ ([N, N + 1, N + 2, N + 3, N + 4, N + 5] : List Nat)) : c ≠ N /\ c ≠ N + 1 /\ c ≠ N + 2 /\ c ≠ N + 4 /\ c ≠ N + 5 :=
 ⟨fun e => h (e ▸ .head _), fun e => h (e ▸ .tail _ (.head _)), fun e => h (e ▸ .tail _ (.tail _ (.head _))), fun e => h (e ▸ .tail _ (.tail _ (.tail _ (.tail _ (.head _))))), fun e => h (e ▸ .tail _ (.tail _ (.tail _ (.tail _ (.tail _ (.head _))))))⟩
noncomputable def Itz3 (K : W.Frag) (t1 : Bool) (a1 : Addr) (t2 : Bool) (a2 : Addr) (t3 : Bool) (a3 : Addr) (n : Nat) : It where
 go := fun i H => i < n /\ ∃ xs ys zs, SrcSq t1 K H a1 xs /\ SrcSq t2 K H a2 ys /\ SrcSq t3 K H a3 zs /\ n = min xs.length (min ys.length zs.length)
 yld := fun i H x H' => ∃ p x1 x2 x3, H p = none /\ H' = upd H p (.tup [x1, x2, x3]) /\ x = .ref p /\ ∀ xs ys zs, SrcSq t1 K H a1 xs -> SrcSq t2 K H a2 ys -> SrcSq t3 K H a3 zs -> xs[i]? = some x1 /\ ys[i]? = some x2 /\ zs[i]? = some x3
 stop := fun i H => n <= i /\ ∃ xs ys zs, SrcSq t1 K H a1 xs /\ SrcSq t2 K H a2 ys /\ SrcSq t3 K H a3 zs /\ n = min xs.length (min ys.length zs.length)
theorem znP {P : Program} {w : World} (t1 : Bool) (a1 : Nat) (t2 : Bool) (a2 : Nat) (t3 : Bool) (a3 : Nat) (n N : Nat) (l1 : a1 < N) (l2 : a2 < N) (l3 : a3 < N) :
  Turn P w K (.Tuple elts ek ep) (Itz3 K t1 a1 t2 a2 t3 a3 n) ([N, N + 1, N + 2, N + 3, N + 4, N + 5] : List Nat) (N + 5 : Nat)
   (fun i h => i <= n /\ IsZip h (N + 5 : Nat) (N + 3 : Nat) (N + 4 : Nat) .none /\ zdn h (N + 3 : Nat) (.ref N) (.ref (N + 1 : Nat)) (.ref (N + 2 : Nat)) /\ (∃ a b c, zdn h (N + 4 : Nat) a b c) /\ SrcIt t1 h N a1 i /\ SrcIt t2 h (N + 1 : Nat) a2 i /\ SrcIt t3 h (N + 2 : Nat) a3 i) where
 mem := by simp
 obj := fun i h st b hb => by
  obtain ⟨-, h5, h3, ⟨a, c, d, h4⟩, h0, h1, h2⟩ := st
  simp only [List.mem_cons, List.not_mem_nil, or_false] at hb
  rcases hb with rfl | rfl | rfl | rfl | rfl | rfl
  ·exact h0.obj
  ·exact h1.obj
  ·exact h2.obj
  ·exact ⟨_, h3, fun v z => by cases z⟩
  ·exact ⟨_, h4, fun v z => by cases z⟩
  ·exact ⟨_, h5, fun v z => by cases z⟩
 keep := fun i h h' st k => by
  obtain ⟨hi, h5, h3, ⟨a, c, d, h4⟩, h0, h1, h2⟩ := st
  exact ⟨hi, k _ (by simp) _ h5, k _ (by simp) _ h3, ⟨a, c, d, k _ (by simp) _ h4⟩, h0.at fun o e => k _ (by simp) o e, h1.at fun o e => k _ (by simp) o e, h2.at fun o e => k _ (by simp) o e⟩
 item := by
  intro X hP hw hK hc i pins s σ H E I hf st hg
  subst hP hw hK
  obtain ⟨hi, h5, h3, ⟨a, c, d, h4⟩, h0, h1, h2⟩ := st
  obtain ⟨hn, xs, ys, zs, q1, q2, q3, en⟩ := hg
  obtain ⟨us, ru, hu, zu⟩ := q1.heap I
  obtain ⟨ws, rw', hw', zw⟩ := q2.heap I
  obtain ⟨os, ro, ho', zo⟩ := q3.heap I
  have lu := ru.length
  have lw := rw'.length
  have lo := ro.length
  have D1 := zbp (prog := X.prog) (w := X.w) (A := X.A.in1) (t := t1) (I.ok.hd hc) N a1 (ne_ (by ac_rfl)) us.toArray
  have D2 := zbp (prog := X.prog) (w := X.w) (A := X.A.in1) (t := t2) (I.ok.hd hc) (N + 1) a2 (ne_ (by ac_rfl)) ws.toArray
  have D3 := zbp (prog := X.prog) (w := X.w) (A := X.A.in1) (t := t3) (I.ok.hd hc) (N + 2) a3 (ne_ (by ac_rfl)) os.toArray
  have hT : s.TypeIs (.ref (N + 5 : Nat)) "zip" := ⟨_, h5, rfl⟩
  unfold pyNext
  refine wpAny_bind (wpAny_attempt (wpAny_callSpecial?_slot (name := Str.ofString "__next__") hT F.slot_zip_next (wpAny_call_entry F.slot_zip_next hT F.entry_zip_next
   (znX D1 D2 D3 l1 l2 l3 h5 h3 h4 ⟨h0, hu⟩ ⟨h1, hw'⟩ ⟨h2, ho'⟩ (by simp; lia) (by simp; lia) (by simp; lia) fun x y z h' tk p1 p2 p3 g5 g4 g0 g1 g2 gT kk => wpAny_pure ?_) (F.args_zip_next_1 _))))
  obtain ⟨x1, hx1⟩ : ∃ x1, xs[i]? = some x1 := ⟨xs[i]'(by lia), List.getElem?_eq_getElem _⟩
  obtain ⟨x2, hx2⟩ : ∃ x2, ys[i]? = some x2 := ⟨ys[i]'(by lia), List.getElem?_eq_getElem _⟩
  obtain ⟨x3, hx3⟩ : ∃ x3, zs[i]? = some x3 := ⟨zs[i]'(by lia), List.getElem?_eq_getElem _⟩
  obtain ⟨u1, hu1, r1⟩ := ru.get hx1
  obtain ⟨u2, hu2, r2⟩ := rw'.get hx2
  obtain ⟨u3, hu3, r3⟩ := ro.get hx3
  have e1 : u1 = x := by
   have : us[i]? = some x := by simpa using p1
   rw [hu1] at this; cases this; rfl
  have e2 : u2 = y := by
   have : ws[i]? = some y := by simpa using p2
   rw [hu2] at this; cases this; rfl
  have e3 : u3 = z := by
   have : os[i]? = some z := by simpa using p3
   rw [hu3] at this; cases this; rfl
  subst e1 e2 e3
  refine ⟨_, rfl, wpAny_letOwnedTupleGo_zip (s := { s with heap := h', toks := tk }) g5 fun h'' g5' sb => ?_⟩
  replace sb : Heap.SameBut (N + 5 : Nat) h' h'' := sb
  have lz : N + 5 < s.heap.objs.size := Heap.lt_size h5
  have kk' : ∀ b o, b ∉ ([N, N + 1, N + 2, N + 3, N + 4, N + 5] : List Nat) -> s.heap.get? b = some o -> h''.get? b = some o := fun b o hb e => by
   obtain ⟨c1, c2, c3, c4, c5⟩ := nin5 hb
   exact (sb.2 b c5).trans (kk b o c1 c2 c3 c4 c5 e)
  have I1 := zl6 (t' := tk) (vs := [x1, x2, x3]) (its := [u1, u2, u3]) I kk' hf (fun b hb => by
   have : b = N \/ b = N + 1 \/ b = N + 2 \/ b = N + 3 \/ b = N + 4 \/ b = N + 5 := by simpa using hb
   exact Nat.lt_of_le_of_lt (show (b : Nat) <= N + 5 by rcases this with h | h | h | h | h | h <;> rw [h] <;> simp) lz) ((sb.2 _ (ne_ (by ac_rfl))).trans gT) (by simp; rw [sizeLine_eq]; decide) (.cons r1 (.cons r2 (.cons r3 .nil)))
  refine ⟨.ref s.heap.objs.size, _, I1, rfl, ⟨_, x1, x2, x3, I.hok.fresh (Nat.le_refl _), rfl, rfl, fun xs' ys' zs' b1 b2 b3 => ?_⟩, ⟨hn, g5', (sb.2 _ (ne_ (by ac_rfl))).trans (kk _ _ (ne_ (by ac_rfl)) (ne_ (by ac_rfl)) (ne_ (by ac_rfl)) (ne_ (by ac_rfl)) (ne_ (by ac_rfl)) h3), ⟨_, _, _, (sb.2 _ (ne_ (by ac_rfl))).trans g4⟩, SrcIt.at g0.1 fun o e => (sb.2 _ (ne_ (by ac_rfl))).trans e, SrcIt.at g1.1 fun o e => (sb.2 _ (ne_ (by ac_rfl))).trans e, SrcIt.at g2.1 fun o e => (sb.2 _ (ne_ (by ac_rfl))).trans e⟩, fun b hb => ?_⟩
  ·rw [SrcSq.inj I b1 q1, SrcSq.inj I b2 q2, SrcSq.inj I b3 q3]
   exact ⟨hx1, hx2, hx3⟩
  ·have : b = N \/ b = N + 1 \/ b = N + 2 \/ b = N + 3 \/ b = N + 4 \/ b = N + 5 := by simpa using hb
   rw [zaC (Nat.ne_of_lt (Nat.lt_of_le_of_lt (show (b : Nat) <= N + 5 by rcases this with h | h | h | h | h | h <;> rw [h] <;> simp) lz))]
   exact (hf b hb).1
 done := by
  intro X hP hw hK hc i pins s σ H E I hf st hg
  subst hP hw hK
  obtain ⟨hi, h5, h3, ⟨a, c, d, h4⟩, h0, h1, h2⟩ := st
  obtain ⟨hn, xs, ys, zs, q1, q2, q3, en⟩ := hg
  obtain ⟨us, ru, hu, zu⟩ := q1.heap I
  obtain ⟨ws, rw', hw', zw⟩ := q2.heap I
  obtain ⟨os, ro, ho', zo⟩ := q3.heap I
  have lu := ru.length
  have lw := rw'.length
  have lo := ro.length
  have D1 := zbp (prog := X.prog) (w := X.w) (A := X.A.in1) (t := t1) (I.ok.hd hc) N a1 (ne_ (by ac_rfl)) us.toArray
  have D2 := zbp (prog := X.prog) (w := X.w) (A := X.A.in1) (t := t2) (I.ok.hd hc) (N + 1) a2 (ne_ (by ac_rfl)) ws.toArray
  have D3 := zbp (prog := X.prog) (w := X.w) (A := X.A.in1) (t := t3) (I.ok.hd hc) (N + 2) a3 (ne_ (by ac_rfl)) os.toArray
  have hT : s.TypeIs (.ref (N + 5 : Nat)) "zip" := ⟨_, h5, rfl⟩
  unfold pyNext
  refine wpAny_bind (wpAny_attempt (wpAny_callSpecial?_slot (name := Str.ofString "__next__") hT F.slot_zip_next (wpAny_call_entry F.slot_zip_next hT F.entry_zip_next
   (zip3_end D1 D2 D3 l1 l2 l3 h5 h3 h4 ⟨h0, hu⟩ ⟨h1, hw'⟩ ⟨h2, ho'⟩ (by simp; lia) fun h' e tk kk he => ?_) (F.args_zip_next_1 _))))
  obtain ⟨o, ho, hce⟩ := he
  refine wpAny_bind (wpAny_isInstance (T := "StopIteration") (b := true) ⟨o, ho, hce⟩ isSubtype_stop (wpAny_pure ⟨rfl, zkA I (fun b o hb e => ?_) hf⟩))
  obtain ⟨c1, c2, c3, c4, c5⟩ := nin5 hb
  exact kk b o c1 c2 c3 c4 c5 e
 self := fun _ _ _ _ _ st h => wpAny_pyIter_zip st.2.1 h
noncomputable def Ite (K : W.Frag) (t1 : Bool) (a1 : Addr) (n : Nat) : It where
 go := fun i H => i < n /\ ∃ xs, SrcSq t1 K H a1 xs /\ n = xs.length
 yld := fun i H x H' => ∃ p x1, H p = none /\ H' = upd H p (.tup [.int i, x1]) /\ x = .ref p /\ ∀ xs, SrcSq t1 K H a1 xs -> xs[i]? = some x1
 stop := fun i H => n <= i /\ ∃ xs, SrcSq t1 K H a1 xs /\ n = xs.length
theorem zo8 {P : Program} {w : World} (t1 : Bool) (a1 : Nat) (n N : Nat) (l1 : a1 < N) :
  Turn P w K (.Tuple elts ek ep) (Ite K t1 a1 n) ([N + 1, N] : List Nat) (N + 1 : Nat) (fun i h => i <= n /\ (∃ old, IsEnum h (N + 1 : Nat) N i old) /\ SrcIt t1 h N a1 i) where
 mem := by simp
 obj := fun i h st b hb => by
  obtain ⟨-, ⟨old, h1⟩, h0⟩ := st
  simp only [List.mem_cons, List.not_mem_nil, or_false] at hb
  rcases hb with rfl | rfl
  ·exact ⟨_, h1, fun v z => by cases z⟩
  ·exact h0.obj
 keep := fun i h h' st k => by
  obtain ⟨hi, ⟨old, h1⟩, h0⟩ := st
  exact ⟨hi, ⟨old, k _ (by simp) _ h1⟩, h0.at fun o e => k _ (by simp) o e⟩
 item := by
  intro X hP hw hK hc i pins s σ H E I hf st hg
  subst hP hw hK
  obtain ⟨hi, ⟨old, h1⟩, h0⟩ := st
  obtain ⟨hn, xs, q1, en⟩ := hg
  obtain ⟨us, ru, hu, zu⟩ := q1.heap I
  have lu := ru.length
  have D1 := zbp (prog := X.prog) (w := X.w) (A := X.A.in1) (t := t1) (I.ok.hd hc) N a1 (ne_ (by ac_rfl)) us.toArray
  refine wpAny_pyNext_enum_itemD D1 h1 ⟨h0, hu⟩ (by simp; lia) (ne_ (by ac_rfl)) (fun z => nin2 (z := N + 1) z (by lia) (by lia) rfl) fun x h' tk p1 ho g0 gT gz kk => ?_
  obtain ⟨x1, hx1⟩ : ∃ x1, xs[i]? = some x1 := ⟨xs[i]'(by lia), List.getElem?_eq_getElem _⟩
  obtain ⟨u1, hu1, r1⟩ := ru.get hx1
  have e1 : u1 = x := by
   have : us[i]? = some x := by simpa using p1
   rw [hu1] at this; cases this; rfl
  subst e1
  refine ⟨_, rfl, wpAny_letOwnedTupleGo_enum (s := { s with heap := h', toks := tk + 1 }) ho fun h'' he' sb => ?_⟩
  replace sb : Heap.SameBut (N + 1 : Nat) h' h'' := sb
  have lz : N + 1 < s.heap.objs.size := Heap.lt_size h1
  have kk' : ∀ b o, b ∉ ([N + 1, N] : List Nat) -> s.heap.get? b = some o -> h''.get? b = some o := fun b o hb e =>
   (sb.2 b fun z => hb (by simp [z])).trans (kk b o (fun z => hb (by simp [z])) (fun z => hb (by simp [z])) e)
  have I1 := zl6 (t' := tk + 1) (vs := [.int i, x1]) (its := [.int i tk, u1]) I kk' hf (fun b hb => by
   have : b = N + 1 \/ b = N := by simpa using hb
   exact Nat.lt_of_le_of_lt (show (b : Nat) <= N + 1 by rcases this with h | h <;> rw [h] <;> simp) lz) ((sb.2 _ (ne_ (by ac_rfl))).trans gT) (by simp; rw [sizeLine_eq]; decide) (.cons ⟨_, rfl⟩ (.cons r1 .nil))
  refine ⟨.ref s.heap.objs.size, _, I1, rfl, ⟨_, x1, I.hok.fresh (Nat.le_refl _), rfl, rfl, fun xs' b1 => ?_⟩, ⟨hn, ⟨_, by simpa using he'⟩, SrcIt.at g0.1 fun o e => (sb.2 _ (ne_ (by ac_rfl))).trans e⟩, fun b hb => ?_⟩
  ·rw [SrcSq.inj I b1 q1]
   exact hx1
  ·have : b = N + 1 \/ b = N := by simpa using hb
   rw [zaC (Nat.ne_of_lt (Nat.lt_of_le_of_lt (show (b : Nat) <= N + 1 by rcases this with h | h <;> rw [h] <;> simp) lz))]
   exact (hf b hb).1
 done := by
  intro X hP hw hK hc i pins s σ H E I hf st hg
  subst hP hw hK
  obtain ⟨hi, ⟨old, h1⟩, h0⟩ := st
  obtain ⟨hn, xs, q1, en⟩ := hg
  obtain ⟨us, ru, hu, zu⟩ := q1.heap I
  have lu := ru.length
  have D1 := zbp (prog := X.prog) (w := X.w) (A := X.A.in1) (t := t1) (I.ok.hd hc) N a1 (ne_ (by ac_rfl)) us.toArray
  have W := WalksT.enumerateD D1 (N + 1 : Nat) (ne_ (by ac_rfl)) (fun z => nin2 (z := N + 1) z (by lia) (by lia) rfl) (by simp)
  have ei : i = us.toArray.size := by simp; lia
  subst ei
  exact W.done s _ _ ⟨⟨old, h1⟩, h0, hu⟩ fun h' tk kk => ⟨rfl, zkA I kk hf⟩
 self := fun _ _ _ _ _ st h => by
  obtain ⟨hi, ⟨old, h1⟩, h0⟩ := st
  exact wpAny_pyIter_enum h1 h
theorem zmJ : bootBuiltins "zip" = some (.type "zip") := by decide +kernel
theorem zji : bootBuiltins "enumerate" = some (.type "enumerate") := by decide +kernel
section
variable {X : Cx} {elts : List Expr} {ek : Nat} {ep : Pos}
theorem pi_zip3 {a b c : Expr} {p pos : Pos} (hg : Gl X "zip") (hm : X.mg "zip" = none) (ha : PA X [a, b, c] ta) (hs : starEach [a, b, c] X.env = (false, eval a X.env) :: starEach [b, c] X.env := by rfl) (hs2 : (backTo pos (starEach [b, c] X.env)).any (·.1) = false := by rfl) :
  PI X (.Tuple elts ek ep) (.Call (.Name "zip" p) [a, b, c] [] pos) (fun σ H R => ta σ H fun vs H1 => ∃ t1 a1 xs t2 a2 ys t3 a3 zs, vs = [.ref a1, .ref a2, .ref a3] /\ SrcSq t1 X.K H1 a1 xs /\ SrcSq t2 X.K H1 a2 ys /\ SrcSq t3 X.K H1 a3 zs /\ R (Itz3 X.K t1 a1 t2 a2 t3 a3 (min xs.length (min ys.length zs.length))) H1) := by
 intro pins s σ H R I h
 refine Call_ (zhF I hg hm zmJ (PyProof.Rows.callWith_type1 (thn (ha pos pins s σ H _ I h) fun us s1 ⟨vs, H1, I1, r1, q1⟩ => ?_) hs hs2))
 obtain ⟨t1, a1, xs, t2, a2, ys, t3, a3, zs, e, q1, q2, q3, q⟩ := q1
 subst e
 cases r1 with
 | cons r rr =>
  cases rr with
  | cons r' rr =>
   cases rr with
   | cons r'' rr =>
    cases rr
    cases r
    cases r'
    cases r''
    obtain ⟨us, ru, hu, -⟩ := q1.heap I1
    obtain ⟨ws, rw', hw', -⟩ := q2.heap I1
    obtain ⟨os, ro, ho', -⟩ := q3.heap I1
    refine zob hu hw' ho' fun h' g5 g3 g4 g0 g1 g2 kk => wpAny_pyIter_zip g5 ⟨_, _, _, _, H1, rfl, I1.kept (t' := s1.toks) kk, znP t1 a1 t2 a2 t3 a3 (min xs.length (min ys.length zs.length)) s1.heap.objs.size hu.lt hw'.lt ho'.lt, ⟨Nat.zero_le _, g5, g3, ⟨_, _, _, g4⟩, g0, g1, g2⟩, fun b hb => ?_, q⟩
    have : b = s1.heap.objs.size \/ b = s1.heap.objs.size + 1 \/ b = s1.heap.objs.size + 2 \/ b = s1.heap.objs.size + 3 \/ b = s1.heap.objs.size + 4 \/ b = s1.heap.objs.size + 5 := by simpa using hb
    have le : s1.heap.objs.size <= b := by rcases this with h | h | h | h | h | h <;> rw [h] <;> simp
    exact I1.fpOk le (I1.hok.fresh le)
theorem pi_enum {p pos : Pos} (hg : Gl X "enumerate") (hm : X.mg "enumerate" = none) (ha : PA X [a] ta) (hs : starEach [a] X.env = (false, eval a X.env) :: starEach [] X.env := by rfl) (hs2 : (backTo pos (starEach [] X.env)).any (·.1) = false := by rfl) :
  PI X (.Tuple elts ek ep) (.Call (.Name "enumerate" p) [a] [] pos) (fun σ H R => ta σ H fun vs H1 => ∃ t1 a1 xs, vs = [.ref a1] /\ SrcSq t1 X.K H1 a1 xs /\ R (Ite X.K t1 a1 xs.length) H1) := by
 intro pins s σ H R I h
 refine Call_ (zhF I hg hm zji (PyProof.Rows.callWith_type1 (thn (ha pos pins s σ H _ I h) fun us s1 ⟨vs, H1, I1, r1, q1⟩ => ?_) hs hs2))
 obtain ⟨t1, a1, xs, e, q1, q⟩ := q1
 subst e
 cases r1 with
 | cons r rr =>
  cases rr
  cases r
  obtain ⟨us, ru, hu, -⟩ := q1.heap I1
  refine zoI hu fun h' g1 g0 kk => wpAny_pyIter_enum g1 ⟨_, _, _, _, H1, rfl, I1.kept (t' := s1.toks) kk, zo8 t1 a1 xs.length s1.heap.objs.size hu.lt, ⟨Nat.zero_le _, ⟨_, g1⟩, g0⟩, fun b hb => ?_, q⟩
  have : b = s1.heap.objs.size + 1 \/ b = s1.heap.objs.size := by simpa using hb
  have le : s1.heap.objs.size <= b := by rcases this with h | h <;> rw [h] <;> simp
  exact I1.fpOk le (I1.hok.fresh le)
end
theorem zjG {G : Hp} {x : V} {d : D} (r : RepD K G x d) (e : zaL [d] = some es) : ∃ t a xs, x = .ref a /\ (∀ H, Fz G H -> SrcSq t K H a xs) /\ RepL K G xs es := by
 cases d <;> simp only [zaL] at e <;> try cases e
 ·obtain ⟨a, xs, rfl, ha, r⟩ := r
  exact ⟨false, a, xs, rfl, fun H f => SqL.of (f _ _ ha), r⟩
 ·obtain ⟨a, xs, rfl, ha, r⟩ := r
  exact ⟨true, a, xs, rfl, fun H f => SqT.of (f _ _ ha), r⟩
 ·obtain ⟨a, rfl, ha⟩ := r
  exact ⟨false, a, _, rfl, fun H f => f.sql ha, RepL.ints _⟩
noncomputable def zlZ (xs ys : List D) : List D := List.zipWith (fun x y => D.tup [x, y]) xs ys
noncomputable def zlJ (xs ys zs : List D) : List D := List.zipWith (fun x (p : D × D) => D.tup [x, p.1, p.2]) xs (List.zip ys zs)
noncomputable def zlC (xs : List D) : List D := List.zipWith (fun x (i : Nat) => D.tup [.int i, x]) xs (List.range xs.length)
noncomputable def iZ2 (ma : MA) : MA := fun ρ => (ma ρ).bind fun p => match p.1 with
 | [a, b] => (zaL [a]).bind fun xs => (zaL [b]).bind fun ys => some (zlZ xs ys, p.2)
 | _ => none
noncomputable def iZ3 (ma : MA) : MA := fun ρ => (ma ρ).bind fun p => match p.1 with
 | [a, b, c] => (zaL [a]).bind fun xs => (zaL [b]).bind fun ys => (zaL [c]).bind fun zs => some (zlJ xs ys zs, p.2)
 | _ => none
noncomputable def iEn (ma : MA) : MA := fun ρ => (ma ρ).bind fun p => (zaL p.1).map fun xs => (zlC xs, p.2)
theorem it_zip3 {a b c : Expr} {p pos : Pos} (hm : X.mg "zip" = none) (ha : SA X [a, b, c] ma) (hg : Gl X "zip" := by rfl) (hs : starEach [a, b, c] X.env = (false, eval a X.env) :: starEach [b, c] X.env := by rfl) (hs2 : (backTo pos (starEach [b, c] X.env)).any (·.1) = false := by rfl) :
  SIt X (.Tuple elts ek ep) (.Call (.Name "zip" p) [a, b, c] [] pos) (iZ3 ma) := by
 obtain ⟨t, pa, sa⟩ := ha
 refine ⟨_, pi_zip3 hg hm pa hs hs2, fun B G H σ ρ ds ρ' Q I hm k => ?_⟩
 obtain ⟨⟨es, ρ1⟩, e1, h2⟩ := zah hm
 dsimp only at h2
 refine sa B G H σ ρ es ρ1 _ I e1 fun G1 H1 vs I1 f1 r1 => ?_
 split at h2
 ·obtain ⟨xs, ex, h2⟩ := zah h2
  obtain ⟨ys, ey, h2⟩ := zah h2
  obtain ⟨zs, ez, h2⟩ := zah h2
  cases h2
  obtain ⟨x, us, rfl, rx, r2⟩ := r1
  obtain ⟨y, ws, rfl, ry, r3⟩ := r2
  obtain ⟨z, os, rfl, rz, r4⟩ := r3
  cases (show os = [] from r4)
  obtain ⟨t1, a1, us, rfl, s1, c1⟩ := zjG rx ex
  obtain ⟨t2, a2, ws, rfl, s2, c2⟩ := zjG ry ey
  obtain ⟨t3, a3, os, rfl, s3, c3⟩ := zjG rz ez
  have n1 := c1.length
  have n2 := c2.length
  have n3 := c3.length
  refine ⟨t1, a1, us, t2, a2, ws, t3, a3, os, rfl, s1 _ I1.fz, s2 _ I1.fz, s3 _ I1.fz, k _ G1 H1 I1 f1 ⟨fun H i f hi => ?_, fun H i x H' f y d e => ?_, fun H i f hi => ?_⟩⟩
  ·exact ⟨by simp [zlJ] at hi; lia, us, ws, os, s1 _ f, s2 _ f, s3 _ f, rfl⟩
  ·obtain ⟨p, x1, x2, x3, hp, eh, ex', q⟩ := y
   obtain ⟨q1, q2, q3⟩ := q us ws os (s1 _ f) (s2 _ f) (s3 _ f)
   simp only [zlJ, List.zip, List.getElem?_zipWith] at e
   have hi : i < us.length /\ i < ws.length /\ i < os.length := ⟨(List.getElem?_eq_some_iff.mp q1).1, (List.getElem?_eq_some_iff.mp q2).1, (List.getElem?_eq_some_iff.mp q3).1⟩
   have g1 : xs[i]? = some (xs[i]'(by lia)) := List.getElem?_eq_getElem _
   have g2 : ys[i]? = some (ys[i]'(by lia)) := List.getElem?_eq_getElem _
   have g3 : zs[i]? = some (zs[i]'(by lia)) := List.getElem?_eq_getElem _
   rw [g1, g2, g3] at e
   cases e
   obtain ⟨v1, b1, r1⟩ := c1.get g1
   obtain ⟨v2, b2, r2⟩ := c2.get g2
   obtain ⟨v3, b3, r3⟩ := c3.get g3
   rw [q1] at b1; cases b1
   rw [q2] at b2; cases b2
   rw [q3] at b3; cases b3
   exact .inr ⟨p, _, _, hp, eh, ex', rfl, ⟨_, _, rfl, r1, _, _, rfl, r2, _, _, rfl, r3, rfl⟩⟩
  ·exact ⟨by simp [zlJ] at hi; lia, us, ws, os, s1 _ f, s2 _ f, s3 _ f, rfl⟩
 ·cases h2
theorem zd6 {p pos : Pos} (hm : X.mg "enumerate" = none) (ha : SA X [a] ma) (hg : Gl X "enumerate" := by rfl) (hs : starEach [a] X.env = (false, eval a X.env) :: starEach [] X.env := by rfl) (hs2 : (backTo pos (starEach [] X.env)).any (·.1) = false := by rfl) :
  SIt X (.Tuple elts ek ep) (.Call (.Name "enumerate" p) [a] [] pos) (iEn ma) := by
 obtain ⟨t, pa, sa⟩ := ha
 refine ⟨_, pi_enum hg hm pa hs hs2, fun B G H σ ρ ds ρ' Q I hm k => ?_⟩
 obtain ⟨⟨es, ρ1⟩, e1, h2⟩ := zah hm
 obtain ⟨xs, ex, h2⟩ := zaA h2
 cases h2
 refine sa B G H σ ρ es ρ1 _ I e1 fun G1 H1 vs I1 f1 r1 => ?_
 match es, ex, r1 with
 | [], ex, _ => cases ex
 | _ :: _ :: _, ex, _ => exact absurd ex (by simp [zaL])
 | [d], ex, r1 =>
  obtain ⟨x, rfl, rx⟩ := r1.one
  obtain ⟨t1, a1, us, rfl, s1, c1⟩ := zjG rx ex
  have n1 := c1.length
  refine ⟨t1, a1, us, rfl, s1 _ I1.fz, k _ G1 H1 I1 f1 ⟨fun H i f hi => ?_, fun H i x H' f y d e => ?_, fun H i f hi => ?_⟩⟩
  ·exact ⟨by simp [zlC] at hi; lia, us, s1 _ f, rfl⟩
  ·obtain ⟨p, x1, hp, eh, ex', q⟩ := y
   have q1 := q us (s1 _ f)
   have hi : i < us.length := (List.getElem?_eq_some_iff.mp q1).1
   have g1 : xs[i]? = some (xs[i]'(by lia)) := List.getElem?_eq_getElem _
   simp only [zlC, List.getElem?_zipWith] at e
   rw [g1, show (List.range xs.length)[i]? = some i from by rw [List.getElem?_range (by lia)]] at e
   cases e
   obtain ⟨v1, b1, r1⟩ := c1.get g1
   rw [q1] at b1; cases b1
   exact .inr ⟨p, _, _, hp, eh, ex', rfl, ⟨_, _, rfl, rfl, _, _, rfl, r1, rfl⟩⟩
  ·exact ⟨by simp [zlC] at hi; lia, us, s1 _ f, rfl⟩
end M
namespace M
open L2 PySem PySem.Spec
open PyProof.Rows hiding St
variable {X : Cx} {K : W.Frag} {G H : Hp} {x : Str} {σ : St} {ρ : R} {b : Nat} {cs : List D} {l : Addr} {ys : List V} {tg' : Addr -> Shared -> Hp -> List Addr -> TG} {tt : Addr -> Shared -> Hp -> List Addr -> TT} {te : Addr -> Shared -> Hp -> List Addr -> TE} {lpos pos' : Pos}
theorem zmg {st : Stmt} : SS X st (fun _ => none) := ⟨_, ps_never, fun B G H σ ρ fl ρ' E I hm k => by cases hm⟩
noncomputable def rIndex (K : W.Frag) : V -> List V -> Hp -> VK -> Prop := fun x vs H Q => ∃ (l : Addr) (ns : List Int) (k : Int), x = .ref l /\ vs = [.int k] /\ SqL K H l (ns.map V.int) /\ k ∈ ns /\ Q (.int (ns.idxOf k : Nat)) H
theorem mt_index : MtR X "list.index" (rIndex X.K) := by
 intro pins s σ H x vs v us Q I rx rv h
 obtain ⟨l, ns, k, rfl, rfl, hq, hk, q⟩ := h
 cases rx
 obtain ⟨u, rfl, t, rfl⟩ := rv.one
 obtain ⟨its, r, p, hz⟩ := I.list hq
 have hi := zns r
 have hlen := hi.length
 have hj : ns.idxOf k < ns.length := List.idxOf_lt_length_iff.mpr hk
 have hb : ns.length <= sizeLine := by simpa using hz
 rw [sizeLine_eq] at hb
 obtain ⟨⟨cls, dd, data, sl⟩, ho, hc, n, hd⟩ := p.isList
 simp only at hc hd
 subst hc hd
 refine call_meets PySem.F.slot_list_index ⟨_, ho, rfl⟩ PySem.F.entry_list_index (PySem.F.args_list_index_2 _ _)
  (PySem.SeqAt.list_indexAt l its.toArray n dd sl (.int k t) (isInt k) (ns.idxOf k) (by simpa [hlen] using hj) (by lia) ?_ ?_) ⟨ho, fun y hy => (eq_isInt k t hi y (by simpa using hy)).at _ _, ⟨.int (ns.idxOf k : Nat), H, I.tok _, ⟨_, rfl⟩, q⟩⟩
 ·show isInt k its[ns.idxOf k] = true
  rw [isInt_at k hi _ (by lia) hj]
  simpa using List.getElem_idxOf hj
 ·intro j hjs hlt
  show isInt k its[j] = false
  rw [isInt_at k hi j (by simpa using hjs) (by lia)]
  exact ne_of_lt_idxOf hlt _
noncomputable def zkM : D -> D -> Option D
 | .lst ds, .int k => (zcn ds).bind fun ns => if k ∈ ns then some (.int (ns.idxOf k : Nat)) else none
 | _, _ => none
theorem se_index {o e : Expr} {mo me : ME} {apos cpos : Pos} (ho : SE X o mo) (he : SE X e me)
  (hbase : attributeBase o "index" X.env (eval o X.env) = eval o X.env := by rfl)
  (hfew : ((backTo cpos (starEach [e] X.env)).all (fun x => !x.1) && (backToKw cpos (keywordEach [] X.env)).all (fun x => x.1.isSome)
   && decide ([e].length + ([] : List Keyword).length + (if ([] : List Keyword).isEmpty then 0 else 1) < 30)) = true := by rfl)
  (hline : (apos.endLine == cpos.line) = true := by rfl) (hs : starEach [e] X.env = (false, eval e X.env) :: starEach [] X.env := by rfl) : SE X (.Call (.Attribute o "index" apos) [e] [] cpos) (m2 zkM mo me) := by
 obtain ⟨to, po, so⟩ := ho
 obtain ⟨te, pe, se⟩ := he
 refine ⟨_, pe_bm PySem.F.plainAttrs_list PySem.F.slot_list_index PySem.F.type_list_index mt_index po (zds pe zjv hs) hbase hfew hline hs rfl, fun B G H σ ρ d ρ' Q I hm k => ?_⟩
 obtain ⟨⟨d1, ρ1⟩, e1, hm⟩ := zah hm
 obtain ⟨⟨d2, ρ2⟩, e2, hm⟩ := zah hm
 obtain ⟨d3, e3, hm⟩ := zaA hm
 cases hm
 refine so B G H σ ρ d1 ρ1 _ I e1 fun G1 H1 v I1 f1 r1 => ?_
 cases d1 with
 | lst ds =>
  cases d2 with
  | int i =>
   obtain ⟨ns, e4, e3⟩ := zah e3
   obtain ⟨a, xs, rfl, ha, rr⟩ := r1
   refine ⟨.inl ⟨rfl, xs, SqL.of (I1.fz _ _ ha)⟩, ?_⟩
   refine se B G1 H1 σ ρ1 _ ρ2 _ I1 e2 fun G2 H2 u I2 f2 r2 => ?_
   cases (show u = V.int i from r2)
   split at e3
   ·rename_i hk
    cases e3
    cases zhx e4
    have rl := rr.mono f2
    have ex : xs = ns.map V.int := RepL.ints_eq rl
    subst ex
    exact ⟨a, ns, i, rfl, rfl, SqL.of (I2.fz _ _ (f2 _ _ ha)), hk, k G2 H2 _ I2 (f1.trans f2) rfl⟩
   ·cases e3
  | _ => cases e3
 | _ => cases e3
noncomputable def isN : D -> Bool
 | .non => true
 | _ => false
theorem isN_ok {x : V} {d : D} (r : RepD K G x d) : decide (x = .non) = isN d := by
 cases d with
 | non => cases (show x = V.non from r); rfl
 | bl b => cases (show x = V.bl b from r); rfl
 | int i => cases (show x = V.int i from r); rfl
 | str s => cases (show x = V.str s from r); rfl
 | lst ds => obtain ⟨a, xs, rfl, -⟩ := r; rfl
 | tup ds => obtain ⟨a, xs, rfl, -⟩ := r; rfl
 | scr ns => obtain ⟨a, rfl, -⟩ := r; rfl
 | exc c => obtain ⟨a, C, rfl, -⟩ := r; rfl
 | dic _ _ => obtain ⟨a, ys, rfl, -⟩ := r; rfl
 | dit _ _ => obtain ⟨a, ys, o, xs, rfl, -⟩ := r; rfl
noncomputable def dIsN : D -> D -> Option D
 | a, .non => some (.bl (isN a))
 | _, _ => none
noncomputable def zjW : D -> D -> Option D
 | a, .non => some (.bl (!isN a))
 | _, _ => none
theorem v2_isN : V2 X (fun x y H Q => y = .non /\ Q (.bl (decide (x = .non))) H) dIsN := by
 intro B G H σ ρ x y a b d Q I ra rb hf k
 cases b <;> simp only [dIsN] at hf <;> cases hf
 exact ⟨rb, k G H _ I (Fz.refl G) (by rw [isN_ok ra]; rfl)⟩
theorem v2_notN : V2 X (fun x y H Q => y = .non /\ Q (.bl (!decide (x = .non))) H) zjW := by
 intro B G H σ ρ x y a b d Q I ra rb hf k
 cases b <;> simp only [zjW] at hf <;> cases hf
 exact ⟨rb, k G H _ I (Fz.refl G) (by rw [isN_ok ra]; rfl)⟩
theorem bl_isN : ∀ x y d, dIsN x y = some d -> ∃ t, d = .bl t := by
 intro x y d hf
 cases y <;> simp only [dIsN] at hf <;> cases hf
 exact ⟨_, rfl⟩
theorem bl_notN : ∀ x y d, zjW x y = some d -> ∃ t, d = .bl t := by
 intro x y d hf
 cases y <;> simp only [zjW] at hf <;> cases hf
 exact ⟨_, rfl⟩
section
variable {X : Cx} {a b : Expr} {ma mb : ME} {pos : Pos}
theorem st_is (ha : SE X a ma) (hb : SE X b mb) (hm : behindInMarks .Is b = false := by rfl) : STt X (.Compare a [.Is] [b] pos) (tTru (m2 dIsN ma mb)) := zhn op_isN v2_isN bl_isN ha hb hm
theorem zjP (ha : SE X a ma) (hb : SE X b mb) (hm : behindInMarks .IsNot b = false := by rfl) : STt X (.Compare a [.IsNot] [b] pos) (tTru (m2 zjW ma mb)) := zhn op_notN v2_notN bl_notN ha hb hm
end
noncomputable def zlV (b : Nat) (ρ : R) : Bool := match ρ[b]? with
 | some (.par _) => zdu (ρ.set b .emp)
 | _ => false
noncomputable def zoG (b : Nat) (ρ : R) : List D := match ρ[b]? with
 | some (.par cs) => cs
 | _ => []
noncomputable def zm3 (b : Nat) (g : D -> R -> Option R) (mt : MT) (me : ME) : D -> R -> Option (Option D × R) := fun d ρ => (g d ρ).bind fun ρ1 => (mt ρ1).bind fun p => if p.1 then (me p.2).bind fun q => if zlV b q.2 then some (some q.1, q.2) else none else if zlV b p.2 then some (none, p.2) else none
noncomputable def oLCM (cap : List Nat) (t b w : Nat) (mi : MA) (g : D -> R -> Option R) (mt : MT) (me : ME) : MO := fun ρ => (mi ρ).bind fun p => if p.1.length <= 16777216 then
    ((fzL (cap.filter (· != w)) p.2)[w]?).bind fun s => s.items.bind fun cs => (zeX (zm3 b g mt me) p.1 ((capR cap t (fzL (cap.filter (· != w)) p.2)).set b (.par cs))).map fun q => (q.1, (fzL (cap.filter (· != w)) p.2).set w (s.put (zoG b q.2)))
  else none
theorem VS.setEmp (h : VS K G σ ρ) (b : Nat) : VS K G σ (ρ.set b .emp) where
 len := by rw [List.length_set]; exact h.len
 no := by
  have h0 := h.no
  unfold zdu at *
  rw [List.all_eq_true] at *
  intro s hs
  rcases List.mem_or_eq_of_mem_set hs with z | z
  ·exact h0 s z
  ·rw [z]
 val := fun i d e => by
  rw [List.getElem?_set] at e
  split at e
  ·split at e
   ·cases e
   ·cases e
  ·exact h.val i d e
theorem VS.siP (h : VS K G σ (ρ.set b .emp)) (fz : Fz G H) (hb : ρ[b]? = some (.par cs)) (hs : σ[b]? = some (some (.ref l))) (gl : G l = none) (hl : H l = some (.lst ys)) (r : RepL K G ys cs) : SI K ⟨G, H, [(b, l)]⟩ G H σ ρ where
 fz := fz
 g0 := Fz.refl G
 new := fun b o e => .inl (by show G b ≠ none; rw [e]; simp)
 keep := fun b o e _ => e
 there := fun b e => e
 ob := fun i c m => by
  have : i = b /\ c = l := by simpa using m
  rw [this.2]
  show H l ≠ none
  rw [hl]; simp
 len := by rw [h.len, List.length_set]
 slot := fun i s e => by
  by_cases z : i = b
  ·subst z
   rw [hb] at e; cases e
   exact ⟨l, ys, hs, gl, hl, r, by simp⟩
  ·have e' : (ρ.set b .emp)[i]? = some s := by rw [List.getElem?_set_ne (Ne.symm z)]; exact e
   cases s with
   | emp => trivial
   | two _ _ => trivial
   | tre t => exact absurd rfl ((zin h.no e').1 t)
   | ptr t => exact absurd rfl ((zin h.no e').2 t)
   | val d => exact h.val i d e'
   | own ds => exact absurd ⟨_, ds, e', rfl⟩ (zil h.no (i := i))
   | par ds => exact absurd ⟨_, ds, e', rfl⟩ (zil h.no (i := i))
 dis := fun i j s t a hij e1 e2 w1 w2 => by
  have key : ∀ (i : Nat) (s : Sl) ov, ρ[i]? = some s -> OwS K G H ov a s -> i = b := fun i s ov e w => by
   by_cases z : i = b
   ·exact z
   ·exact absurd w (zmf h.no (show (ρ.set b .emp)[i]? = some s by rw [List.getElem?_set_ne (Ne.symm z)]; exact e))
  exact hij ((key i s _ e1 w1).trans (key j t _ e2 w2).symm)
theorem VS.ofP {B : Bs} (I : SI K B G H σ ρ) (hO : B.O = [(b, l)]) (h : zlV b ρ = true) : ∃ cs ys, ρ[b]? = some (.par cs) /\ σ[b]? = some (some (.ref l)) /\ G l = none /\ H l = some (.lst ys) /\ RepL K G ys cs /\ VS K G σ (ρ.set b .emp) := by
 unfold zlV at h
 split at h
 ·rename_i cs e
  obtain ⟨l', ys, h1, h2, h3, h4, h5⟩ := I.slot b _ e
  have hl : l' = l := by rw [hO] at h5; simpa using h5
  subst hl
  refine ⟨cs, ys, e, h1, h2, h3, h4, ⟨by rw [List.length_set]; exact I.len, h, fun i d e' => ?_⟩⟩
  rw [List.getElem?_set] at e'
  split at e'
  ·split at e'
   ·cases e'
   ·cases e'
  ·exact I.slot i _ e'
 ·cases h
structure LcP (K : W.Frag) (bk : Nat) (g : D -> R -> Option R) (mt : MT) (me : ME) (items all : List D) (ρf : R) (G2 H1 : Hp) (DD l : Addr) (i : Nat) (σc : St) (Hc Gc : Hp) (ρc : R) (acc : List D) (xs : List V) (rest cs : List D) (ys : List V) : Prop where
 fc : Fz G2 Gc
 fcH : Fz Gc Hc
 nw : ∀ b o, Gc b = some o -> G2 b ≠ none \/ H1 b = none
 kp : ∀ b o, b ≠ l -> H1 b = some o -> Hc b = some o
 gD : Gc DD = none
 hDc : Hc DD = some (.lst xs)
 ra : RepL K Gc xs acc
 hx : xs.length <= i
 eb : ρc[bk]? = some (.par cs)
 sb : σc[bk]? = some (some (.ref l))
 glc : Gc l = none
 hlc : Hc l = some (.lst ys)
 rlc : RepL K Gc ys cs
 vs : VS K Gc σc (ρc.set bk .emp)
 ec : zeX (zm3 bk g mt me) (items.drop i) ρc = some (rest, ρf)
 eall : all = acc ++ rest
section
variable {X : Cx} {elt iter tg : Expr} {ifs : List Expr} {scope : Scope} {pos : Pos} {N : List Str} {cap : List Nat} {t bk wk : Nat} {mi : MA} {g : D -> R -> Option R} {mt : MT} {me : ME}
theorem ziA (hbw : cap[bk]? = some wk) {wi : TI} 
    (si : ∀ B G H σ ρ ds ρ' (Q : It -> Hp -> Prop), SI X.K B G H σ ρ -> mi ρ = some (ds, ρ') -> (∀ J G' H', SI X.K B G' H' σ ρ' -> Fz G G' -> Itm X.K J G' ds -> Q J H') -> wi σ H Q)
    (sg : ∀ C s H₀ fp B G H σ ρ v d ρ' (Q : St -> Hp -> Prop), SI X.K B G H σ ρ -> RepD X.K G v d -> g d ρ = some ρ' -> (∀ G' H' σ', SI X.K B G' H' σ' ρ' -> Fz G G' -> Q σ' H') -> tg' C s H₀ fp v σ H Q)
    (st : ∀ C s H₀ fp B G H σ ρ d ρ' (Q : Bool -> Hp -> Prop), SI X.K B G H σ ρ -> mt ρ = some (d, ρ') -> (∀ G' H', SI X.K B G' H' σ ρ' -> Fz G G' -> Q d H') -> tt C s H₀ fp σ H Q)
    (se : ∀ C s H₀ fp B G H σ ρ d ρ' (Q : VK), SI X.K B G H σ ρ -> me ρ = some (d, ρ') -> (∀ G' H' v, SI X.K B G' H' σ ρ' -> Fz G G' -> RepD X.K G' v d -> Q v H') -> te C s H₀ fp σ H Q) :
    ∀ B G H σ ρ ds ρ' (Q : VK), SI X.K B G H σ ρ -> oLCM cap t bk wk mi g mt me ρ = some (ds, ρ') ->
      (∀ G' H' l xs, SI X.K B G' H' σ ρ' -> Fz G G' -> G' l = none -> H' l = some (.lst xs) -> RepL X.K G' xs ds -> B.H l = none -> Nw X.K G' H' σ ρ' l -> Q (.ref l) H') -> tLC (capσ cap t) wi tg' tt te σ H Q := by
  intro B G H σ ρ ds ρ' Q I hm k
  obtain ⟨⟨items, ρ1⟩, e1, hm⟩ := zah hm
  refine si B G H σ ρ items ρ1 _ I e1 fun J G1 H1 I1 f1 IT DD hD => ?_
  dsimp only at hm
  split at hm
  . rename_i hlen
    obtain ⟨sw, ew, hm⟩ := zah hm
    obtain ⟨cs0, qw, hm⟩ := zah hm
    obtain ⟨⟨all, ρf⟩, e2, e3⟩ := zaA hm
    obtain ⟨rfl, rfl⟩ := Prod.mk.inj e3
    obtain ⟨G2, I2, f2⟩ := SI.fzL (cap.filter (· != wk)) I1
    have hDG : G2 DD = none := I2.fz.free hD
    obtain ⟨l, ys0, hσ, gl0, hl0, rl0⟩ := I2.wr ew qw
    have hlD : DD ≠ l := (zaK hl0 hD).symm
    have hb : bk < cap.length := (List.getElem?_eq_some_iff.mp hbw).1
    have hbe : cap[bk] = wk := (List.getElem?_eq_some_iff.mp hbw).2
    have hσb : (capσ cap t σ)[bk]? = some (some (.ref l)) := by
      unfold capσ
      rw [List.getElem?_append_left (by simpa using hb), List.getElem?_map, List.getElem?_eq_getElem hb, hbe]
      simp [hσ]
    have hcl : bk < (capR cap t (M.fzL (cap.filter (· != wk)) ρ1)).length := by unfold capR; simp; lia
    refine ⟨fun i m σc Hc => m = items.length - i /\ i <= items.length /\ ∃ Gc ρc acc xs rest cs ys, LcP X.K bk g mt me items all ρf G2 H1 DD l i σc Hc Gc ρc acc xs rest cs ys,
      ⟨items.length, by simp, Nat.zero_le _, G2, (capR cap t (M.fzL (cap.filter (· != wk)) ρ1)).set bk (.par cs0), [], [], all, cs0, ys0, { fc := Fz.refl _, fcH := I2.fz.right hDG _, nw := fun b o e => .inl (by rw [e]; simp), kp := fun b o _ e => by rw [zaC (zaK e hD)]; exact e, gD := hDG, hDc := zaV, ra := .nil, hx := Nat.le_refl _, eb := by rw [List.getElem?_set]; simp [hcl], sb := hσb, glc := gl0, hlc := by rw [zaC (zaK hl0 hD)]; exact hl0, rlc := rl0, vs := by rw [List.set_set]; exact (cap_vs I2 cap t).setEmp bk, ec := by simpa using e2, eall := rfl }⟩, ?_⟩
    rintro i m σc Hc ⟨rfl, hi, Gc, ρc, acc, xs, rest, cs, ys, J0⟩
    obtain ⟨fc, fcH, nw, kp, gD, hDc, ra, hx, eb, sb, glc, hlc, rlc, vs, ec, eall⟩ := J0
    by_cases hlt : i < items.length
    . refine .inr ⟨IT.go Hc i (f2.trans (fc.trans fcH)) hlt, fun C s₀ H₀ fp x H' y => ?_⟩
      rw [List.drop_eq_getElem_cons hlt] at ec
      simp only [zeX] at ec
      obtain ⟨⟨o, ρ3⟩, h3, ec⟩ := zah ec
      obtain ⟨⟨rest2, ρ4⟩, h4, ec⟩ := zaA ec
      obtain ⟨rfl, rfl⟩ := Prod.mk.inj ec
      dsimp only at h4
      unfold zm3 at h3
      obtain ⟨ρ5, h5, h3⟩ := zah h3
      obtain ⟨⟨ok, ρ6⟩, h6, h3⟩ := zah h3
      dsimp only at h3
      have Ic : SI X.K ⟨Gc, Hc, [(bk, l)]⟩ Gc Hc σc ρc := vs.siP fcH eb sb glc hlc rlc
      have fz2 : Fz G1 Hc := f2.trans (fc.trans fcH)
      have yy := IT.yld Hc i x H' fz2 y items[i] (List.getElem?_eq_getElem hlt)
      have yy2 : (H' = Hc /\ RepD X.K Gc x items[i]) \/ ∃ p xs es, Hc p = none /\ H' = upd Hc p (.tup xs) /\ x = .ref p /\ items[i] = .tup es /\ RepL X.K Gc xs es := by
        rcases yy with ⟨a, b⟩ | ⟨p, xs, es, a, b, c, d, e⟩
        . exact .inl ⟨a, b.mono (f2.trans fc)⟩
        . exact .inr ⟨p, xs, es, a, b, c, d, e.mono (f2.trans fc)⟩
      obtain ⟨G3, I3, f3, r3⟩ := Ic.yld yy2
      refine sg C s₀ H₀ fp _ G3 H' σc ρc x items[i] ρ5 _ I3 r3 h5 fun G4 H4 σ4 I4 f4 => st C s₀ H₀ fp _ G4 H4 σ4 ρ5 ok ρ6 _ I4 h6 fun G5 H5 I5 f5 => ?_
      have facts : ∀ (G' H' : Hp) (σ' : St) (ρ' : R), SI X.K ⟨Gc, Hc, [(bk, l)]⟩ G' H' σ' ρ' -> (∀ b o, G' b = some o -> G2 b ≠ none \/ H1 b = none) /\ (∀ b o, b ≠ l -> H1 b = some o -> H' b = some o) /\ G' DD = none /\ H' DD = some (.lst xs) := fun G' H' σ' ρ' I' => by
        refine ⟨fun b o e => ?_, fun b o ne e => I'.keep b o (kp b o ne e) (by simp; exact ne), ?_, I'.keep DD _ hDc (by simp; exact hlD)⟩
        . rcases I'.new b o e with h | h
          . have h : Gc b ≠ none := h
            cases q : Gc b with
            | none => exact absurd q h
            | some u => exact nw b u q
          . refine .inr ?_
            cases q : H1 b with
            | none => rfl
            | some u =>
              have hn : Hc b = none := h
              have nb : b ≠ l := fun z => by rw [z, hlc] at hn; cases hn
              have := kp b u nb q
              rw [hn] at this; cases this
        . cases q : G' DD with
          | none => rfl
          | some u =>
            rcases I'.new DD u q with h | h
            . exact absurd gD h
            . rw [show Hc DD = none from h] at hDc; cases hDc
      cases ok with
      | false =>
        simp only [Bool.false_eq_true, if_false] at h3
        split at h3
        . rename_i hno
          cases h3
          obtain ⟨a1, a2, a3, a4⟩ := facts G5 H5 σ4 _ I5
          obtain ⟨cs', ys', w1, w2, w3, w4, w5, w6⟩ := VS.ofP I5 rfl hno
          exact ⟨items.length - (i + 1), by lia, rfl, hlt, G5, _, acc, xs, rest2, cs', ys', { fc := fc.trans (f3.trans (f4.trans f5)), fcH := I5.fz, nw := a1, kp := a2, gD := a3, hDc := a4, ra := ra.mono (f3.trans (f4.trans f5)), hx := by lia, eb := w1, sb := w2, glc := w3, hlc := w4, rlc := w5, vs := w6, ec := h4, eall := by simpa using eall }⟩
        . cases h3
      | true =>
        simp only [if_true] at h3 ⊢
        obtain ⟨⟨dv, ρ7⟩, h7, h3⟩ := zah h3
        dsimp only at h3
        split at h3
        . rename_i hno
          cases h3
          refine se C s₀ H₀ fp _ G5 H5 σ4 ρ6 dv _ _ I5 h7 fun G6 H6 v I6 f6 r6 => ?_
          obtain ⟨a1, a2, a3, a4⟩ := facts G6 H6 σ4 _ I6
          obtain ⟨cs', ys', w1, w2, w3, w4, w5, w6⟩ := VS.ofP I6 rfl hno
          have ff : Fz Gc G6 := f3.trans (f4.trans (f5.trans f6))
          exact ⟨xs, a4, by rw [sizeLine_eq]; lia, items.length - (i + 1), by lia, rfl, hlt, G6, _, acc ++ [dv], xs ++ [v], rest2, cs', ys', { fc := fc.trans ff, fcH := I6.fz.right a3 _, nw := a1, kp := fun b o ne e => by rw [zaC (zaK e hD)]; exact a2 b o ne e, gD := a3, hDc := zaV, ra := (ra.mono ff).snoc r6, hx := by rw [List.length_append, List.length_singleton]; lia, eb := w1, sb := w2, glc := w3, hlc := by rw [zaC (Ne.symm hlD)]; exact w4, rlc := w5, vs := w6, ec := h4, eall := by rw [eall]; simp }⟩
        . cases h3
    . have e : i = items.length := by lia
      subst e
      rw [List.drop_length] at ec
      obtain ⟨rfl, rfl⟩ := Prod.mk.inj (Option.some.inj ec)
      have hall : all = acc := by rw [eall, List.append_nil]
      refine .inl ⟨IT.stop Hc _ (f2.trans (fc.trans fcH)) (Nat.le_refl _), ?_⟩
      rw [<- hall] at ra
      have hp : zoG bk ρc = cs := by unfold zoG; rw [eb]
      rw [hp] at k
      exact k Gc Hc DD xs (I2.growW ew qw hσ fc fcH nw kp glc hlc rlc) (f1.trans (f2.trans fc)) gD hDc ra (I2.there DD hD) (I2.own_neW ew qw hσ hD nw kp)
  . cases hm
theorem so_lcM (cap : List Nat) (t bk wk : Nat) (N : List Str) (hc : X.calm = true) (hi : SIt X tg iter mi) (hg : ∀ C s H fp, SG (cxC X N scope C s H fp) tg g) (ht : ∀ C s H fp, STs (cxC X N scope C s H fp) ifs mt) (he : ∀ C s H fp, SE (cxC X N scope C s H fp) elt me) (hbw : cap[bk]? = some wk := by rfl)
    (hk : scope.kind = .function := by rfl) (hb : blkB X.env scope = true := by kernel_rfl) (hcap : capB scope.names N X.N cap t = true := by kernel_rfl)
    (hs : ∀ x, foldedSetIterable iter X.env x = pure x := by exact fun _ => rfl) : SO X (.ListComp elt [⟨tg, iter, ifs, 0⟩] scope pos) (oLCM cap t bk wk mi g mt me) := by
  obtain ⟨wi, pi, si⟩ := hi
  exact ⟨_, pe_lc hc (zjo hk hb) (zjr hcap) pi (fun C s H fp => (hg C s H fp).choose_spec.1) (fun C s H fp => (ht C s H fp).choose_spec.1) (fun C s H fp => (he C s H fp).choose_spec.1) hs,
    ziA hbw si (fun C s H fp => (hg C s H fp).choose_spec.2) (fun C s H fp => (ht C s H fp).choose_spec.2) (fun C s H fp => (he C s H fp).choose_spec.2)⟩
theorem zk3 (i : Nat) (cap : List Nat) (t bk wk : Nat) (N : List Str) (hc : X.calm = true) (hi : SIt X tg iter mi) (hg : ∀ C s H fp, SG (cxC X N scope C s H fp) tg g) (ht : ∀ C s H fp, STs (cxC X N scope C s H fp) ifs mt) (he : ∀ C s H fp, SE (cxC X N scope C s H fp) elt me) (hN : X.N.Nodup) (hbw : cap[bk]? = some wk := by rfl)
    (hxi : X.N[i]? = some x := by rfl) (hx : Loc X.env.scope x := by first | exact Or.inl rfl | exact Or.inr rfl) (hf : X.fn x = true \/ X.env.scope.names.lookup x = some .local := by first | exact Or.inl rfl | exact Or.inr rfl)
    (hsw : swapsWith (.ListComp elt [⟨tg, iter, ifs, 0⟩] scope lpos) (some (.Name x pos')) pos.line X.env = pure true := by rfl)
    (hk : scope.kind = .function := by rfl) (hb : blkB X.env scope = true := by kernel_rfl) (hcap : capB scope.names N X.N cap t = true := by kernel_rfl)
    (hs : ∀ x, foldedSetIterable iter X.env x = pure x := by exact fun _ => rfl) : SS X (.Assign [.Name x pos'] (.ListComp elt [⟨tg, iter, ifs, 0⟩] scope lpos) pos) (zeY i (oLCM cap t bk wk mi g mt me)) := by
  obtain ⟨wi, pi, si⟩ := hi
  refine ⟨_, zim hN hxi hx hf hsw hc (zjo hk hb) (zjr hcap) pi (fun C s H fp => (hg C s H fp).choose_spec.1) (fun C s H fp => (ht C s H fp).choose_spec.1) (fun C s H fp => (he C s H fp).choose_spec.1) hs, fun B G H σ ρ fl ρ' E I hm k => ?_⟩
  obtain ⟨⟨d, ρ1⟩, e1, e3⟩ := zaA hm
  obtain ⟨rfl, rfl⟩ := Prod.mk.inj e3
  exact ziA hbw si (fun C s H fp => (hg C s H fp).choose_spec.2) (fun C s H fp => (ht C s H fp).choose_spec.2) (fun C s H fp => (he C s H fp).choose_spec.2) B G H σ ρ d ρ1 _ I e1 fun G1 H1 l xs I1 f1 g1 h1 r1 b1 n1 => k G1 H1 _ (I1.setO g1 h1 r1 b1 n1) f1
theorem znt (i : Nat) (cap : List Nat) (t bk wk : Nat) (N : List Str) (hc : X.calm = true) (hi : SIt X tg iter mi) (hg : ∀ C s H fp, SG (cxC X N scope C s H fp) tg g) (ht : ∀ C s H fp, STs (cxC X N scope C s H fp) ifs mt) (he : ∀ C s H fp, SE (cxC X N scope C s H fp) elt me) (hN : X.N.Nodup) (hbw : cap[bk]? = some wk := by rfl)
    (hxi : X.N[i]? = some x := by rfl) (hx : Loc X.env.scope x := by first | exact Or.inl rfl | exact Or.inr rfl) (hf : X.fn x = true \/ X.env.scope.names.lookup x = some .local := by first | exact Or.inl rfl | exact Or.inr rfl)
    (hsw : swapsWith (.ListComp elt [⟨tg, iter, ifs, 0⟩] scope lpos) (some (.Name x pos')) pos.line X.env = pure true := by rfl)
    (hk : scope.kind = .function := by rfl) (hb : blkB X.env scope = true := by kernel_rfl) (hcap : capB scope.names N X.N cap t = true := by kernel_rfl)
    (hs : ∀ x, foldedSetIterable iter X.env x = pure x := by exact fun _ => rfl) : SS X (.Assign [.Name x pos'] (.ListComp elt [⟨tg, iter, ifs, 0⟩] scope lpos) pos) (sSet i (eFz (oLCM cap t bk wk mi g mt me))) := by
  obtain ⟨wi, pi, si⟩ := hi
  refine ⟨_, zim hN hxi hx hf hsw hc (zjo hk hb) (zjr hcap) pi (fun C s H fp => (hg C s H fp).choose_spec.1) (fun C s H fp => (ht C s H fp).choose_spec.1) (fun C s H fp => (he C s H fp).choose_spec.1) hs, fun B G H σ ρ fl ρ' E I hm k => ?_⟩
  obtain ⟨⟨d, ρ1⟩, e1, e3⟩ := zaA hm
  obtain ⟨⟨ds, ρ2⟩, e4, e5⟩ := zaA e1
  obtain ⟨rfl, rfl⟩ := Prod.mk.inj e5
  obtain ⟨rfl, rfl⟩ := Prod.mk.inj e3
  refine ziA hbw si (fun C s H fp => (hg C s H fp).choose_spec.2) (fun C s H fp => (ht C s H fp).choose_spec.2) (fun C s H fp => (he C s H fp).choose_spec.2) B G H σ ρ ds ρ2 _ I e4 fun G1 H1 l xs I1 f1 g1 h1 r1 b1 n1 => ?_
  obtain ⟨I2, f2, r2⟩ := zjx I1 g1 h1 r1 b1 n1
  exact k _ H1 _ (I2.set r2) (f1.trans f2)
end
noncomputable def dIsB : D -> D -> Option D
 | .bl a, .bl b => some (.bl (a == b))
 | _, _ => none
noncomputable def zlI : D -> D -> Option D
 | .bl a, .bl b => some (.bl (a != b))
 | _, _ => none
section
variable {X : Cx}
theorem op_notB : OpR X (compareOp .IsNot) (fun x y H Q => ∃ a b, x = .bl a /\ y = .bl b /\ Q (.bl (a != b)) H) := by
 intro pins s σ H x y v u Q I rx ry h
 obtain ⟨a, b, rfl, rfl, q⟩ := h
 cases rx
 cases ry
 exact isnot_bool (zo5 I q rfl)
theorem v2_notB : V2 X (fun x y H Q => ∃ a b, x = .bl a /\ y = .bl b /\ Q (.bl (a != b)) H) zlI := by
 intro B G H σ ρ x y a b d Q I ra rb hf k
 cases a <;> cases b <;> simp only [zlI] at hf <;> cases hf
 exact ⟨_, _, ra, rb, k G H _ I (Fz.refl G) rfl⟩
theorem bl_notB : ∀ x y d, zlI x y = some d -> ∃ t, d = .bl t := by
 intro x y d hf
 cases x <;> cases y <;> simp only [zlI] at hf <;> cases hf
 exact ⟨_, rfl⟩
variable {a b : Expr} {ma mb : ME} {pos : Pos}
theorem st_notB (ha : SE X a ma) (hb : SE X b mb) (hm : behindInMarks .IsNot b = false := by rfl) : STt X (.Compare a [.IsNot] [b] pos) (tTru (m2 zlI ma mb)) := zhn op_notB v2_notB bl_notB ha hb hm
end
end M
namespace M
open L2 PySem
section
variable {X : Cx} {a b : Expr} {ma mb : ME} {pos : Pos}
theorem se_globE {x : Str} {i : Int} (hm : ∃ t, X.mg x = some (.int i t)) (hg : Gl X x := by rfl) (hd : (x == ("__debug__" : Str)) = false := by decide) : SE X (.Name x pos) (eC (.int i)) :=
 let ⟨_, e⟩ := hm; se_globI e hg hd
end
end M
namespace M
open L2 PySem PySem.Spec
open PyProof.Rows hiding St
noncomputable def iR2L (ma : MA) : MA := fun ρ => (ma ρ).bind fun p => match p.1 with
 | [.int i, .int j] => some (zcZ i (j - i).toNat, p.2)
 | _ => none
theorem nn {α : Type} {o : Option α} {x : α} (e : o = some x) : o ≠ none := by rw [e]; exact fun z => by cases z
noncomputable abbrev MX := R -> Option Str
noncomputable def zh5 (mc : MT) (mb : MS) : Nat -> MS
 | 0, _ => none
 | n + 1, ρ => (mc ρ).bind fun p => if p.1 then (mb p.2).bind fun q => match q.1 with
  | .next => zh5 mc mb n q.2
  | .cont => zh5 mc mb n q.2
  | .brk => some (.next, q.2)
  | .ret r => some (.ret r, q.2)
  else some (.next, p.2)
theorem ss_while {X : Cx} {c : Expr} {body : List Stmt} {mc : MT} {mb : MS} {pos : Pos} (fuel : Nat) (hp : PassesOwn (model X.prog X.w) X.A X.env X.xe) (hc : STt X c mc) (hb : SSs X body mb) : SS X (.While c body [] pos) (zh5 mc mb fuel) := by
 obtain ⟨tc, pc, sc⟩ := hc
 obtain ⟨tb, pb, sb⟩ := hb
 refine ⟨_, ps_while hp pc pb, fun B G H σ ρ fl ρ' E I hm k => ?_⟩
 refine ⟨fun m σ' H' => ∃ G' ρ1, SI X.K B G' H' σ' ρ1 /\ Fz G G' /\ zh5 mc mb m ρ1 = some (fl, ρ'), ⟨fuel, G, ρ, I, Fz.refl G, hm⟩, fun m σ1 H1 w => ?_⟩
 obtain ⟨G1, ρ1, I1, f1, e1⟩ := w
 cases m with
 | zero => cases e1
 | succ m =>
  obtain ⟨⟨b, ρ2⟩, e2, e1⟩ := zah e1
  refine sc B G1 H1 σ1 ρ1 b ρ2 _ I1 e2 fun G2 H2 I2 f2 => ?_
  dsimp only at e1
  cases b with
  | false =>
   rw [if_neg (by simp)] at e1 ⊢
   cases e1
   exact k G2 H2 σ1 I2 (f1.trans f2)
  | true =>
   rw [if_pos rfl] at e1 ⊢
   obtain ⟨⟨f, ρ3⟩, e3, e1⟩ := zah e1
   refine ⟨fun σ' H' => ∃ G' ρ1, SI X.K B G' H' σ' ρ1 /\ Fz G G' /\ zh5 mc mb m ρ1 = some (fl, ρ'), fun σ' H' h => ⟨m, Nat.lt_succ_self m, h⟩, ?_⟩
   refine sb B G2 H2 σ1 ρ2 f ρ3 _ I2 e3 ?_
   have ff := f1.trans f2
   cases f with
   | next => exact fun G' H' σ' I3 f3 => ⟨G', ρ3, I3, ff.trans f3, e1⟩
   | cont => exact fun G' H' σ' I3 f3 => ⟨G', ρ3, I3, ff.trans f3, e1⟩
   | brk => cases e1; exact fun G' H' σ' I3 f3 => k G' H' σ' I3 (ff.trans f3)
   | ret r => cases e1; exact fun G' H' σ' v I3 f3 rr => k G' H' σ' v I3 (ff.trans f3) rr
end M
namespace M
open L2 PySem
noncomputable def likeS : Sl -> Sl -> Bool
 | .own ds, .own es => match zcn ds, zcn es with
  | some a, some b => a == b
  | _, _ => false
 | .par ds, .par es => match zcn ds, zcn es with
  | some a, some b => a == b
  | _, _ => false
 | .own _, _ => false
 | .par _, _ => false
 | .tre _, _ => false
 | .ptr _, _ => false
 | _, _ => true
end M
namespace M
open L2 PySem PySem.Spec
open PyProof.Rows hiding St
noncomputable def Sl.putT (s : Sl) (t : T) : Sl := match s with
 | .tre _ => .tre t
 | .ptr _ => .ptr t
 | s => s
noncomputable def Sl.tree : Sl -> Option T
 | .tre t => some t
 | .ptr t => some t
 | _ => none
section
variable {K : W.Frag} {B : Bs} {G G' H H' : Hp} {σ : St} {ρ : R}
theorem SI.setT (I : SI K B G H σ ρ) {i : Nat} {v : V} {t : T} {A : List Addr} (r : RepT K G H v t A) (nd : A.Nodup) (hA : ∀ a ∈ A, G a = none /\ B.H a = none /\ Nw K G H σ ρ a) : SI K B G H (σ.set i (some v)) (ρ.set i (.tre t)) :=
 I.chg I.fz (Fz.refl G) I.new I.keep I.there (fun j s a _ e w g _ => ⟨g, rfl, fun ⟨v2, A2, k1, k2, k3⟩ => by
  cases k1
  rw [k2.det r fun _ _ => rfl] at k3
  exact (hA a k3).2.2 j s e w⟩) ⟨v, A, rfl, r, nd, fun a m => ⟨(hA a m).1, (hA a m).2.1⟩⟩
open Classical in
noncomputable def Bs.re (B : Bs) (K : W.Frag) (G H : Hp) (σ : St) (ρ : R) : Bs := ⟨G, fun b => if (∃ (i : Nat) (s : Sl), ρ[i]? = some s /\ OwS K G H σ[i]? b s) /\ B.H b = none then none else H b, B.O⟩
theorem zhM (I : SI K B G H σ ρ) {b : Addr} (h : (B.re K G H σ ρ).H b = none) : B.H b = none := by
 unfold Bs.re at h
 dsimp only at h
 split at h
 ·rename_i w; exact w.2
 ·exact I.there b h
theorem zoD {b : Addr} {i : Nat} {s : Sl} (e : ρ[i]? = some s) (w : OwS K G H σ[i]? b s) (n : B.H b = none) : (B.re K G H σ ρ).H b = none := by
 unfold Bs.re
 dsimp only
 rw [if_pos ⟨⟨i, s, e, w⟩, n⟩]
theorem zn8 {b : Addr} {o : HO} (h : H b = some o) (n : Nw K G H σ ρ b) : (B.re K G H σ ρ).H b = some o := by
 unfold Bs.re
 dsimp only
 rw [if_neg fun w => by obtain ⟨⟨i, s, e, w⟩, _⟩ := w; exact n i s e w]
 exact h
theorem SI.re (I : SI K B G H σ ρ) : SI K (B.re K G H σ ρ) G H σ ρ where
 fz := I.fz
 g0 := Fz.refl G
 new := fun b o e => .inl (by show G b ≠ none; rw [e]; simp)
 keep := fun b o e _ => by
  unfold Bs.re at e
  dsimp only at e
  split at e
  ·cases e
  ·exact e
 there := fun b e => by
  unfold Bs.re
  dsimp only
  split
  ·rfl
  ·exact e
 ob := fun i b m => by
  have hb := I.ob i b m
  unfold Bs.re
  dsimp only
  rw [if_neg fun w => hb w.2]
  exact fun z => hb (I.there b z)
 len := I.len
 slot := fun i s e => by
  have h := I.slot i s e
  cases s with
  | emp => trivial
  | two _ _ => trivial
  | val d => exact h
  | own ds => obtain ⟨l, xs, k1, k2, k3, k4, k5⟩ := h; exact ⟨l, xs, k1, k2, k3, k4, zoD e k1 k5⟩
  | par ds => exact h
  | tre t => obtain ⟨v, A, k1, k2, k3, k4⟩ := h; exact ⟨v, A, k1, k2, k3, fun a m => ⟨(k4 a m).1, zoD e ⟨v, A, k1, k2, m⟩ (k4 a m).2⟩⟩
  | ptr t =>
   obtain ⟨v, A, k1, k2, k3, k4⟩ := h
   refine ⟨v, A, k1, k2, k3, fun a m => ⟨(k4 a m).1, ?_⟩⟩
   rcases (k4 a m).2 with z | z
   ·exact .inl (zoD e ⟨v, A, k1, k2, m⟩ z)
   ·exact .inr z
 dis := I.dis
theorem SI.unre {σ' : St} {ρ' : R} (I : SI K B G H σ ρ) (J : SI K (B.re K G H σ ρ) G' H' σ' ρ') : SI K B G' H' σ' ρ' where
 fz := J.fz
 g0 := I.g0.trans J.g0
 new := fun b o e => by
  rcases J.new b o e with z | z
  ·cases q : G b with
   | none => exact absurd q z
   | some u => exact I.new b u q
  ·exact .inr (zhM I z)
 keep := fun b o e n => J.keep b o (by
  unfold Bs.re
  dsimp only
  rw [if_neg fun w => by rw [w.2] at e; cases e]
  exact I.keep b o e n) n
 there := fun b e => zhM I (J.there b e)
 ob := I.ob
 len := J.len
 slot := fun i s e => by
  have h := J.slot i s e
  cases s with
  | emp => trivial
  | two _ _ => trivial
  | val d => exact h
  | own ds => obtain ⟨l, xs, k1, k2, k3, k4, k5⟩ := h; exact ⟨l, xs, k1, k2, k3, k4, zhM I k5⟩
  | par ds => exact h
  | tre t => obtain ⟨v, A, k1, k2, k3, k4⟩ := h; exact ⟨v, A, k1, k2, k3, fun a m => ⟨(k4 a m).1, zhM I (k4 a m).2⟩⟩
  | ptr t =>
   obtain ⟨v, A, k1, k2, k3, k4⟩ := h
   refine ⟨v, A, k1, k2, k3, fun a m => ⟨(k4 a m).1, ?_⟩⟩
   rcases (k4 a m).2 with z | z
   ·exact .inl (zhM I z)
   ·exact .inr z
 dis := J.dis
theorem SI.re_stays {σ' : St} {ρ' : R} (I : SI K B G H σ ρ) (J : SI K (B.re K G H σ ρ) G' H' σ' ρ') {b : Addr} {o : HO} (h : H b = some o) (n : Nw K G H σ ρ b) (hg : G b = none) (hB : B.H b = none) : H' b = some o /\ G' b = none /\ Nw K G' H' σ' ρ' b := by
 have hb : (B.re K G H σ ρ).H b = some o := zn8 h n
 have hO : ∀ i, (i, b) ∉ B.O := fun i m => I.ob i b m hB
 refine ⟨J.keep b o hb hO, ?_, fun i s e w => ?_⟩
 ·cases q : G' b with
  | none => rfl
  | some u =>
   rcases J.new b u q with z | z
   ·exact absurd hg z
   ·rw [hb] at z; cases z
 ·rcases ((J.slot i s e).own w).2.2 with z | z
  ·rw [hb] at z; cases z
  ·exact hO i z
end
noncomputable def Sl.dic : Sl -> Option (List Int × List D)
 | .tre (.dic ks ds) => some (ks, ds)
 | .ptr (.dic ks ds) => some (ks, ds)
 | .val (.dic ks ds) => some (ks, ds)
 | _ => none
noncomputable def fzD (j : Nat) (ρ : R) : R := match ρ[j]? with
 | some (.tre (.dic ks ds)) => ρ.set j (.val (.dic ks ds))
 | _ => ρ
noncomputable def eCallMO (F : List D -> List D -> Option (Sl × List D)) (mo : MO) (ma : MA) : ME := fun ρ => (mo ρ).bind fun p => (ma p.2).bind fun q => (F p.1 q.1).bind fun r => match r.1 with
 | .val d => some (d, q.2)
 | .own ds => some (.lst ds, q.2)
 | _ => none
end M
namespace HT
open L2 PyProof.Rows PySem PySem.Spec
section
variable {prog : Program} {w : World} {A : Around} {E : Value -> Shared -> Prop} {I : Addr} {fp wr : List Addr} {n : Nat} {St : Nat -> Heap -> Prop}
theorem zly {its : List Value} (W : Walks prog w A I fp wr n (fun i v => its[i]? = some v) St) : ∀ (m i : Nat) (s : Shared) (Q : List Value -> Shared -> Prop), i + m <= n -> St i s.heap ->
  (∀ h' tk, St (i + m) h' -> (∀ b o, b ∉ wr -> s.heap.get? b = some o -> h'.get? b = some o) -> Q ((its.drop i).take m) { s with heap := h', toks := tk }) -> wpAny (model prog w) A (draw (.ref I) m) Q E s
 | 0, i, s, Q, _, st, hq => wpAny_pure (by simpa using hq s.heap s.toks st fun _ _ _ e => e)
 | m + 1, i, s, Q, hi, st, hq => by
  show wpAny _ _ (pyNext (.ref I) >>= _) Q E s
  refine wpAny_bind (W.item i s _ _ (by lia) st fun v h1 tk1 hv st1 k1 => ?_)
  refine wpAny_bind (wpAny_holding (zly W m (i + 1) _ _ (by lia) st1 fun h2 tk2 st2 k2 => wpAny_pure ?_))
  have := hq h2 tk2 (by rw [show i + (m + 1) = i + 1 + m by lia]; exact st2) fun b o nb e => k2 b o nb (k1 b o nb e)
  obtain ⟨hl, ev⟩ := List.getElem?_eq_some_iff.mp hv
  rw [List.drop_eq_getElem_cons hl, List.take_succ_cons, ev] at this
  exact this
end
end HT
namespace L2
open PyProof.Rows PySem PySem.Spec
variable {X : Cx} {pos : Pos}
noncomputable def gTupL (K : W.Frag) (n : Nat) (t : TGs) : TG := fun v σ H Q => ∃ a xs, v = .ref a /\ SqL K H a xs /\ xs.length = n /\ t xs σ H Q
theorem pg_tupL {es : List Expr} {k : Nat} {t : TGs} {n : Nat} (hc : X.calm = true) (h : PGs X es t)
  (hn : (assignEach es X.env).length = n := by rfl) (hst : (assignEach es X.env).findIdx? (·.1) = none := by rfl) : PG X (.Tuple es k pos) (gTupL X.K n t) := by
 intro pins s σ H v u Q I r hw
 obtain ⟨a, xs, e1, hq, hl, hw⟩ := hw
 subst e1
 cases r
 obtain ⟨its0, rv0, pl, hz⟩ := I.list hq
 rw [assign_Tuple]
 refine wpAny_bind (wpAny_standAt ?_)
 unfold unpack
 rw [hst, hn]
 refine wpAny_bind (wpAny_holding ?_)
 unfold unpackItems
 refine wpAny_bind ?_
 unfold notIterableAtAll
 refine wpAny_bind (wpAny_specialOf pl.isList.typeIs PySem.F.slot_list_iter.lookup ?_)
 refine wpAny_pure ?_
 simp only [Bool.false_eq_true, if_false]
 refine wpAny_bind (wpAny_holding (M.zf8 (A := X.A) (I.ok.hd hc) I (.inl hq) fun its s₂ St rv W st hfp fin => ?_))
 have ln : its.length = n := by rw [<- rv.length, hl]
 refine wpAny_bind (wpAny_holding (HT.zly W n 0 s₂ _ (by lia) st fun h1 tk1 st1 k1 => ?_))
 have hall : List.take n (List.drop 0 its) = its := by rw [List.drop_zero]; exact List.take_of_length_le (by lia)
 rw [hall, if_neg (by lia)]
 refine wpAny_bind (wpAny_holding (W.done _ _ _ (by rw [ln, <- Nat.zero_add n]; exact st1) fun h2 tk2 k2 => ?_))
 simp only [Option.isSome_none, Bool.false_eq_true, if_false]
 refine wpAny_pure ?_
 exact h pins _ σ H xs _ Q (fin h2 tk2 fun b o nb e => k2 b o nb (k1 b o nb e)) rv hw
end L2
namespace M
open L2 PySem PySem.Spec
open PyProof.Rows hiding St
noncomputable def Ch.sl : Ch -> Sl
 | .d x => .val x
 | .l ds => .own ds
 | .t xss => .tre (.lst (xss.map .l))
theorem tb_cs {K : W.Frag} {G H : Hp} : ∀ {xs : List V} {dss : List (List D)} {A : List Addr}, RepTb K G H xs dss A -> RepCs K G H xs (dss.map .l) A
 | [], [], _, h => h
 | x :: xs, ds :: dss, _, ⟨r, ys, A2, e1, e2, e3, e4, e5⟩ => ⟨[r], A2, ⟨r, ys, e1, e2, e3, rfl⟩, tb_cs e4, e5⟩
 | [], _ :: _, _, h => h.elim
 | _ :: _, [], _, h => h.elim
noncomputable def zn3 : List Nat -> List Ch -> R -> R
 | i :: is, c :: cs, ρ => zn3 is cs (ρ.set i c.sl)
 | _, _, ρ => ρ
noncomputable def sUnT (j : Nat) (is : List Nat) : MS := fun ρ => match ρ[j]? with
 | some (.tre (.lst cs)) => if cs.length = is.length then some (.next, zn3 is cs (ρ.set j .emp)) else none
 | _ => none
section
variable {K : W.Frag} {B : Bs} {G H : Hp}
noncomputable def zmV : List Nat -> TGs
 | [] => gNil
 | i :: is => gCons (gName i) (zmV is)
theorem put_cs : ∀ {is : List Nat} {cs : List Ch} {xs : List V} {A : List Addr} {σ : St} {ρ : R} {Q : St -> Hp -> Prop}, SI K B G H σ ρ -> RepCs K G H xs cs A -> A.Nodup -> (∀ a ∈ A, G a = none /\ B.H a = none /\ Nw K G H σ ρ a) -> cs.length = is.length -> (∀ σ', SI K B G H σ' (zn3 is cs ρ) -> Q σ' H) -> zmV is xs σ H Q
 | [], [], [], _, σ, ρ, Q, I, _, _, _, _, k => ⟨rfl, k σ I⟩
 | [], _ :: _, _, _, _, _, _, _, _, _, _, h, _ => by cases h
 | _ :: _, [], _, _, _, _, _, _, _, _, _, h, _ => by cases h
 | [], [], _ :: _, _, _, _, _, _, r, _, _, _, _ => r.elim
 | i :: is, c :: cs, [], _, _, _, _, _, r, _, _, _, _ => r.elim
 | i :: is, c :: cs, x :: xs, A, σ, ρ, Q, I, ⟨A1, A2, r1, r2, e⟩, nd, hA, hl, k => by
  subst e
  refine ⟨x, xs, rfl, ?_⟩
  have nd2 := (List.nodup_append.mp nd)
  have fin : ∀ s, SI K B G H (σ.set i (some x)) (ρ.set i s) -> s = c.sl -> (∀ a ∈ A2, ¬ OwS K G H (some (some x)) a s) -> zmV is xs (σ.set i (some x)) H Q := fun s I' es no => by
   subst es
   refine put_cs I' r2 nd2.2.1 (fun a m => ?_) (by simpa using hl) k
   have h := hA a (List.mem_append_right _ m)
   refine ⟨h.1, h.2.1, fun j t et w => ?_⟩
   by_cases z : j = i
   ·subst z
    rw [List.getElem?_set, if_pos rfl] at et w
    split at et
    ·cases et
     split at w
     ·exact no a m w
     ·rename_i q1 q2; exact q2 (by rw [I.len]; exact q1)
    ·cases et
   ·rw [List.getElem?_set_ne (Ne.symm z)] at et w
    exact h.2.2 j t et w
  cases c with
  | d y => exact fin _ (I.set r1.1) rfl fun a _ w => w
  | l ds =>
   obtain ⟨l, ys, rfl, h1, h2, rfl⟩ := r1
   have h := hA l (List.mem_append_left _ (by simp))
   refine fin _ (I.setO h.1 h1 h2 h.2.1 h.2.2) rfl fun a m w => ?_
   cases (show some (some (V.ref l)) = some (some (.ref a)) from w)
   exact nd2.2.2 l (by simp) l m rfl
  | t xss =>
   obtain ⟨p, ys, A', rfl, h1, h2, rfl⟩ := r1
   have rt : RepT K G H (.ref p) (.lst (xss.map .l)) (p :: A') := ⟨p, ys, A', rfl, h1, tb_cs h2, rfl⟩
   refine fin _ (I.setT rt nd2.1 fun a m => hA a (List.mem_append_left _ m)) rfl fun a m w => ?_
   obtain ⟨v2, A3, w1, w2, w3⟩ := w
   cases w1
   rw [w2.det rt fun _ _ => rfl] at w3
   exact nd2.2.2 a w3 a m rfl
end
section
variable {X : Cx} {pos : Pos}
noncomputable def zov (X : Cx) : List Nat -> List Expr -> Prop
 | [], [] => True
 | i :: is, .Name x _ :: es => X.N[i]? = some x /\ Loc X.env.scope x /\ (X.fn x = true \/ X.env.scope.names.lookup x = some .local) /\ zov X is es
 | _, _ => False
theorem zln (hN : X.N.Nodup) : ∀ {is : List Nat} {es : List Expr}, zov X is es -> PGs X es (zmV is)
 | [], [], _ => zoX
 | i :: is, .Name x p :: es, ⟨h1, h2, h3, h4⟩ => zmK (zl0 hN h1 h2 h3) (zln hN h4)
theorem ss_unT (j : Nat) (is : List Nat) {x : Str} {es : List Expr} {k : Nat} {p' tp : Pos} (hc : X.calm = true) (hN : X.N.Nodup) (hn : zov X is es) (hi : X.N[j]? = some x := by rfl) (hv : Vis X.env.scope x := by first | exact Or.inl rfl | exact Or.inr (Or.inl rfl) | exact Or.inr (Or.inr rfl)) (hd : (x == ("__debug__" : Str)) = false := by decide)
  (hcd : (x == ("__classdict__" : Str)) = false := by decide) (hl : (assignEach es X.env).length = is.length := by rfl) (hst : (assignEach es X.env).findIdx? (·.1) = none := by rfl) (hs : swapsWithSole [.Tuple es k tp] (.Name x p') pos.line X.env = pure false := by rfl) (hw : swappedStores [.Tuple es k tp] (.Name x p') X.env = pure none := by rfl)
  (h1 : (assignEach [.Tuple es k tp] X.env).map (·.2) = [assign (.Tuple es k tp) X.env] := by rfl) : SS X (.Assign [.Tuple es k tp] (.Name x p') pos) (sUnT j is) := by
 refine ⟨_, zoM (zgs hi hv hd hcd) (pg_tupL hc (zln hN hn) hl hst) hs hw h1, fun B G H σ ρ fl ρ' E I hm k => ?_⟩
 unfold sUnT at hm
 split at hm
 ·rename_i cs e
  split at hm
  ·rename_i hlen
   cases hm
   obtain ⟨v, A, k1, k2, k3, k4⟩ := I.slot j _ e
   have k2' := k2
   obtain ⟨p, xs, A', rfl, h2, h3, rfl⟩ := k2
   have ln : ∀ {xs : List V} {cs : List Ch} {A : List Addr}, RepCs X.K G H xs cs A -> xs.length = cs.length := by
    intro xs
    induction xs with
    | nil => intro cs A r; cases cs with
     | nil => rfl
     | cons _ _ => exact r.elim
    | cons x xs ih => intro cs A r; cases cs with
     | nil => exact r.elim
     | cons c cs => obtain ⟨_, _, _, r2, _⟩ := r; rw [List.length_cons, List.length_cons, ih r2]
   refine ⟨.ref p, k1, p, xs, rfl, SqL.of h2, by rw [ln h3, hlen], ?_⟩
   refine put_cs (I.emp j) h3 (List.nodup_cons.mp k3).2 (fun a m => ⟨(k4 a (by simp [m])).1, (k4 a (by simp [m])).2, fun i s es w => ?_⟩) hlen fun σ' I' => k G H σ' I' (Fz.refl G)
   by_cases z : i = j
   ·subst z
    rw [List.getElem?_set, if_pos rfl] at es
    split at es
    ·cases es; exact w
    ·cases es
   ·rw [List.getElem?_set_ne (Ne.symm z)] at es
    exact I.dis i j s _ a z es e w ⟨.ref p, _, k1, k2', by simp [m]⟩
  ·cases hm
 ·cases hm
end
end M
namespace M
open L2 PySem PySem.Spec
open PyProof.Rows hiding St
variable {H : Hp} {A : List Addr} {b l f : Addr} {K : W.Frag} {N : List Str} {xs vs ys : List V} {cs ds : List D} {x : Str} {fd : FuncData} {n : Nat}
open Classical in
noncomputable def zdM (H : Hp) (A : List Addr) : Hp := fun b => if b ∈ A then none else H b
theorem zkD (h : b ∈ A) : zdM H A b = none := by unfold zdM; rw [if_pos h]
theorem zc3 (h : b ∉ A) : zdM H A b = H b := by unfold zdM; rw [if_neg h]
theorem zhQ (h : zdM H A b = none) : H b = none \/ b ∈ A := by
 by_cases m : b ∈ A
 ·exact .inr m
 ·rw [zc3 m] at h; exact .inl h
theorem znn {o : HO} (h : zdM H A b = some o) : H b = some o /\ b ∉ A := by
 by_cases m : b ∈ A
 ·rw [zkD m] at h; cases h
 ·rw [zc3 m] at h; exact ⟨h, m⟩
noncomputable def spMT (K : W.Frag) (n : Nat) (F : List D -> T -> List D -> Option (Sl × List D)) : Sp := fun vs H Q _ => ∃ G l xs cs v2 t A ws ds r out, vs = .ref l :: v2 :: ws /\ F cs t ds = some (r, out) /\ ds.length + 2 = n /\ Fz G H /\ G l = none /\ H l = some (.lst xs) /\ RepL K G xs cs /\ RepT K G H v2 t A /\ A.Nodup /\ l ∉ A /\ (∀ a ∈ A, G a = none) /\ RepL K G ws ds /\
 ∀ G' H' v ys, Fz G G' -> Fz G' H' -> (∀ b o, G' b = some o -> G b ≠ none \/ zdM H A b = none) -> (∀ b o, b ≠ l -> zdM H A b = some o -> H' b = some o) -> G' l = none -> H' l = some (.lst ys) -> RepL K G' ys out -> ResF K G' H' (zdM H A) v r -> Q v H'
noncomputable def fMT (N : Nat) (m : MS) : List D -> T -> List D -> Option (Sl × List D) := fun cs t ds => (m (.par cs :: .tre t :: (ds.map .val ++ List.replicate (N - (ds.length + 2)) .emp))).bind fun p => match p.1, (p.2[0]? : Option Sl) with
 | Fl.ret r, some (Sl.par out) => some (r, out)
 | Fl.next, some (Sl.par out) => some (.val .non, out)
 | _, _ => none
theorem SI.startMT {G H : Hp} {v2 : V} {t : T} (fz : Fz G H) (hg : G l = none) (hl : H l = some (.lst xs)) (rc : RepL K G xs cs) (rt : RepT K G H v2 t A) (nd : A.Nodup) (nl : l ∉ A) (gA : ∀ a ∈ A, G a = none) (r : RepL K G vs ds) (h : ds.length + 2 <= N.length) :
  SI K ⟨G, zdM H A, [(0, l)]⟩ G H (L2.start N (.ref l :: v2 :: vs)) (.par cs :: .tre t :: (ds.map .val ++ List.replicate (N.length - (ds.length + 2)) .emp)) where
 fz := fz
 g0 := Fz.refl G
 new := fun b o e => .inl (by show G b ≠ none; rw [e]; simp)
 keep := fun b o e _ => (znn e).1
 there := fun b e => by
  show zdM H A b = none
  by_cases m : b ∈ A
  ·exact zkD m
  ·rw [zc3 m]; exact e
 ob := fun i b m => by
  have : b = l := ((by simpa using m) : i = 0 /\ b = l).2
  subst this
  show zdM H A b ≠ none
  rw [zc3 nl, hl]; simp
 len := by
  have := r.length
  rw [ziB (by rw [List.length_cons, List.length_cons, r.length]; lia), List.length_cons, List.length_cons, List.length_append, List.length_map, List.length_replicate]; lia
 slot := fun i s e => by
  match i with
  | 0 => simp at e; subst e; exact ⟨l, xs, rfl, hg, hl, rc, by simp⟩
  | 1 => simp at e; subst e; exact ⟨v2, A, rfl, rt, nd, fun a m => ⟨gA a m, zkD m⟩⟩
  | i + 2 =>
   rw [List.getElem?_cons_succ, List.getElem?_cons_succ] at e
   by_cases hi : i < ds.length
   ·rw [List.getElem?_append_left (by simpa using hi), List.getElem?_map, List.getElem?_eq_getElem hi] at e
    cases e
    obtain ⟨x, h1, h2⟩ := r.get (List.getElem?_eq_getElem hi)
    refine ⟨x, ?_, h2⟩
    unfold L2.start
    rw [List.map_cons, List.map_cons, List.cons_append, List.cons_append, List.getElem?_cons_succ, List.getElem?_cons_succ, List.getElem?_append_left (by rw [List.length_map, r.length]; exact hi), List.getElem?_map, h1]
    rfl
   ·rw [List.getElem?_append_right (by simpa using hi), List.getElem?_replicate] at e
    split at e
    ·cases e; trivial
    ·cases e
 dis := fun i j s u a hij hi hj w1 w2 => by
  have z : ∀ (i : Nat) (s : Sl), (Sl.par cs :: Sl.tre t :: (ds.map .val ++ List.replicate (N.length - (ds.length + 2)) .emp))[i]? = some s -> OwS K G H (L2.start N (.ref l :: v2 :: vs))[i]? a s -> (i = 0 /\ a = l) \/ (i = 1 /\ a ∈ A) := fun i s e q => by
   match i with
   | 0 =>
    simp at e; subst e
    refine .inl ⟨rfl, ?_⟩
    have q' := show (L2.start N (V.ref l :: v2 :: vs))[0]? = some (some (.ref a)) from q
    cases (show some (some (V.ref l)) = some (some (.ref a)) from q')
    rfl
   | 1 =>
    simp at e; subst e
    obtain ⟨v, A', q1, q2, q3⟩ := q
    cases (show some (some v2) = some (some v) from q1)
    rw [<- rt.det q2 fun _ _ => rfl] at q3
    exact .inr ⟨rfl, q3⟩
   | i + 2 =>
    exfalso
    rw [List.getElem?_cons_succ, List.getElem?_cons_succ] at e
    by_cases hi : i < ds.length
    ·rw [List.getElem?_append_left (by simpa using hi), List.getElem?_map, List.getElem?_eq_getElem hi] at e
     cases e; exact q
    ·rw [List.getElem?_append_right (by simpa using hi), List.getElem?_replicate] at e
     split at e
     ·cases e; exact q
     ·cases e
  rcases z i s hi w1 with ⟨a1, a2⟩ | ⟨a1, a2⟩ <;> rcases z j u hj w2 with ⟨b1, b2⟩ | ⟨b1, b2⟩
  ·exact hij (a1.trans b1.symm)
  ·subst a2; exact nl b2
  ·subst b2; exact nl a2
  ·exact hij (a1.trans b1.symm)
section
variable {P : Program} {w : World} {K : W.Frag} {mg : Str -> Option Value} {base : Heap}
theorem fnMT_ok {x qual : Str} {st : Stmt} {N ps : List Str} {k n : Nat} {m : MS} (F : Fun K x qual st f fd) (S : FnScope N ps (zaG st)) (hn : ps.length = n) (hN : n <= N.length)
  (body : ∀ (cdv : Value) (A : Around) (outer : List Env) (s : Shared) (H : Hp) (E : XK), Room k (A.deeper (envOfC qual (zaG st) s.heap.objs.size f cdv)) -> SSs (cxOf CX0 P w K mg base N qual (zaG st) f cdv A outer s H E).nox (zcq st) m) :
  FnOk P w K mg base CX0 (k + 1) f fd ps (spMT K n (fMT N.length m)) := by
 refine F.ok S (fun vs H Q E h => ?_) (fun cdv A outer s H vs Q E hr h => ?_)
 ·obtain ⟨G, l, xs, cs, v2, t, A, ws, ds, r, out, rfl, _, h2, _, _, _, _, _, _, _, _, h4, _⟩ := h
  rw [List.length_cons, List.length_cons, h4.length, <- hn] at *
  lia
 ·obtain ⟨G, l, xs, cs, v2, tt, At, ws, ds, r, out, rfl, e1, h2, fz, hg, hl, rc, rt, nd, nl, gA, h4, kk⟩ := h
  obtain ⟨t, pt, so⟩ := body cdv A outer s H E hr
  refine ⟨t, pt, ?_⟩
  obtain ⟨⟨fl, ρ'⟩, e2, e3⟩ := zah e1
  refine so ⟨G, zdM H At, [(0, l)]⟩ G H _ _ fl ρ' _ (SI.startMT fz hg hl rc rt nd nl gA h4 (by lia)) e2 ?_
  have fin : ∀ G' H' σ' v, ρ'[0]? = some (.par out) -> SI K ⟨G, zdM H At, [(0, l)]⟩ G' H' σ' ρ' -> Fz G G' -> ResF K G' H' (zdM H At) v r -> Q v H' := fun G' H' σ' v e0 I f rr => by
   obtain ⟨l', ys, k1, k2, k3, k4, k5⟩ := I.slot 0 _ e0
   have : l' = l := by simpa using k5
   subst this
   exact kk G' H' v ys f I.fz I.new (fun b o hb e => I.keep b o e (fun i hm => by simp at hm; exact hb hm.2)) k2 k3 k4 rr
  cases e0 : ρ'[0]? with
  | none => rw [e0] at e3; cases fl <;> cases e3
  | some s0 =>
   rw [e0] at e3
   cases s0 with
   | par o2 =>
    cases fl with
    | next => cases e3; exact fun G' H' σ' I f => fin G' H' σ' .non e0 I f rfl
    | brk => cases e3
    | cont => cases e3
    | ret r' =>
     cases e3
     refine fun G' H' σ' v I f rr => fin G' H' σ' v e0 I f ?_
     cases r with
     | val d => exact rr
     | own ds => exact rr
     | _ => exact rr
   | _ => cases fl <;> cases e3
end
noncomputable abbrev MP' := R -> Option (List Ch × R)
noncomputable def SP' (X : Cx) (es : List Expr) (m : MP') : Prop :=
 ∃ t, PA X es t /\ ∀ B G H σ ρ cs ρ' (Q : List V -> Hp -> Prop), SI X.K B G H σ ρ -> m ρ = some (cs, ρ') ->
  (∀ G' H' vs A, SI X.K B G' H' σ ρ' -> Fz G G' -> RepCs X.K G' H' vs cs A -> A.Nodup -> (∀ a ∈ A, G' a = none /\ B.H a = none /\ Nw X.K G' H' σ ρ' a) -> Q vs H') -> t σ H Q
noncomputable def cNil : MP' := fun ρ => some ([], ρ)
noncomputable def cVal (m : ME) (r : MP') : MP' := fun ρ => (m ρ).bind fun p => (r p.2).map fun q => (.d p.1 :: q.1, q.2)
noncomputable def cOwn (i : Nat) (r : MP') : MP' := fun ρ => match ρ[i]? with
 | some (.own ds) => (r (ρ.set i .emp)).map fun q => (.l ds :: q.1, q.2)
 | _ => none
section
variable {X : Cx} {e : Expr} {es : List Expr} {m : ME} {r : MP'}
theorem sc_nil : SP' X [] cNil := ⟨_, zjv, fun B G H σ ρ cs ρ' Q I hm k => by cases hm; exact k G H [] [] I (Fz.refl G) rfl (by simp) (fun a m => by cases m)⟩
theorem sc_val (h : SE X e m) (hr : SP' X es r) (hs : starEach (e :: es) X.env = (false, eval e X.env) :: starEach es X.env := by rfl) : SP' X (e :: es) (cVal m r) := by
 obtain ⟨t, p, s⟩ := h
 obtain ⟨u, q, z⟩ := hr
 refine ⟨_, zds p q hs, fun B G H σ ρ cs ρ' Q I hm k => ?_⟩
 obtain ⟨⟨d, ρ1⟩, e1, hm⟩ := zah hm
 obtain ⟨⟨cs1, ρ2⟩, e2, e3⟩ := zaA hm
 cases e3
 refine s B G H σ ρ d ρ1 _ I e1 fun G1 H1 v I1 f1 r1 => z B G1 H1 σ ρ1 cs1 ρ2 _ I1 e2 fun G2 H2 vs A I2 f2 r2 nd hA => ?_
 exact k G2 H2 (v :: vs) A I2 (f1.trans f2) ⟨[], A, ⟨r1.mono f2, rfl⟩, r2, rfl⟩ nd hA
theorem zop (i : Nat) {p' : Pos} (hr : SP' X es r) (hN : X.N[i]? = some x := by rfl) (hv : Vis X.env.scope x := by first | exact Or.inl rfl | exact Or.inr (Or.inl rfl) | exact Or.inr (Or.inr rfl)) (hd : (x == ("__debug__" : Str)) = false := by decide)
  (hcd : (x == ("__classdict__" : Str)) = false := by decide) (hs : starEach (.Name x p' :: es) X.env = (false, eval (.Name x p') X.env) :: starEach es X.env := by rfl) : SP' X (.Name x p' :: es) (cOwn i r) := by
 obtain ⟨u, q, z⟩ := hr
 refine ⟨_, zds (zgs hN hv hd hcd) q hs, fun B G H σ ρ cs ρ' Q I hm k => ?_⟩
 unfold cOwn at hm
 split at hm
 ·rename_i ds e
  obtain ⟨⟨cs1, ρ1⟩, e1, e2⟩ := zaA hm
  cases e2
  obtain ⟨l, xs, h1, h2, h3, h4, h5⟩ := I.slot i _ e
  have I1 := I.emp i
  have n1 : Nw X.K G H σ (ρ.set i .emp) l := fun j s ej w => by
   by_cases y : j = i
   ·subst y
    rw [List.getElem?_set, if_pos rfl] at ej
    split at ej
    ·cases ej; exact w
    ·cases ej
   ·rw [List.getElem?_set_ne (Ne.symm y)] at ej
    exact I.dis j i s _ l y ej e w h1
  refine ⟨.ref l, h1, z (B.re X.K G H σ (ρ.set i .emp)) G H σ _ cs1 ρ1 _ I1.re e1 fun G1 H1 vs A J f1 r1 nd hA => ?_⟩
  obtain ⟨m1, m2, m3⟩ := I1.re_stays J h3 n1 h2 h5
  have hb : (B.re X.K G H σ (ρ.set i .emp)).H l = some (.lst xs) := zn8 h3 n1
  have nl : l ∉ A := fun m => by rw [(hA l m).2.1] at hb; cases hb
  refine k G1 H1 (.ref l :: vs) (l :: A) (I1.unre J) f1 ⟨[l], A, ⟨l, xs, rfl, m1, h4.mono f1, rfl⟩, r1, rfl⟩ (List.nodup_cons.mpr ⟨nl, nd⟩) fun a m => ?_
  rcases List.mem_cons.mp m with rfl | m
  ·exact ⟨m2, h5, m3⟩
  ·exact ⟨(hA a m).1, zhM I1 (hA a m).2.1, (hA a m).2.2⟩
 ·cases hm
end
theorem SI.chgW2 {B : Bs} {G G' H H' : Hp} {σ : St} {ρ : R} (I : SI K B G H σ ρ) {i : Nat} {s : Sl} {ds es : List D} (e : ρ[i]? = some s) (q : s.items = some ds) (hl : σ[i]? = some (some (.ref l))) (fz : Fz G' H') (fg : Fz G G') (nw : ∀ b o, G' b = some o -> G b ≠ none \/ zdM H A b = none)
  (kp : ∀ b o, b ≠ l -> zdM H A b = some o -> H' b = some o) (gl : G' l = none) (hl' : H' l = some (.lst ys)) (r : RepL K G' ys es) (hA : ∀ a ∈ A, B.H a = none /\ Nw K G H σ ρ a) :
  SI K B G' H' σ (ρ.set i (s.put es)) /\ ∀ p, zdM H A p = none -> B.H p = none /\ Nw K G' H' σ (ρ.set i (s.put es)) p := by
 obtain ⟨l', xs, e1, e2, e3, e4⟩ := I.wr e q
 rw [hl] at e1; cases e1
 have sl := I.slot i s e
 have ow : ∀ (j : Nat) (t : Sl) (a : Addr), j ≠ i -> ρ[j]? = some t -> OwS K G H σ[j]? a t -> G a = none -> H a ≠ none -> G' a = none /\ H' a = H a := fun j t a z ej w g ha => by
  have na : a ≠ l := fun w' => by subst w'; exact I.dis j i t s a z ej e w ((zbk q).mpr hl)
  have nA : a ∉ A := fun m => (hA a m).2 j t ej w
  obtain ⟨u, hu⟩ := Option.ne_none_iff_exists'.mp ha
  refine ⟨?_, (kp a u na (by rw [zc3 nA]; exact hu)).trans hu.symm⟩
  cases q2 : G' a with
  | none => rfl
  | some u =>
   rcases nw a u q2 with z | z
   ·exact absurd g z
   ·rw [zc3 nA] at z; exact absurd z ha
 have bn : ∀ b, zdM H A b = none -> B.H b = none := fun b h => by
  rcases zhQ h with z | z
  ·exact I.there b z
  ·exact (hA b z).1
 refine ⟨?_, fun p hp => ⟨bn p hp, fun j t ej w => ?_⟩⟩
 ·have nb : ∀ b o, B.H b = some o -> (∀ i, (i, b) ∉ B.O) -> b ≠ l := fun b o h1 h2 z => by
   subst z
   rcases (sl.own ((zbk q).mpr hl)).2.2 with z | z
   ·rw [h1] at z; cases z
   ·exact h2 i z
  have h := I.chg (i := i) (ov := some (.ref l)) (s' := s.put es) (G' := G') (H' := H') fz fg (fun b o k => ?_) (fun b o k1 k2 => kp b o (nb b o k1 k2) (by rw [zc3 fun m => by rw [(hA b m).1] at k1; cases k1]; exact I.keep b o k1 k2)) (fun b k => ?_) (fun j t a z ej w g ha => ⟨(ow j t a z ej w g ha).1, (ow j t a z ej w g ha).2, fun z' => ?_⟩) ?_
  ·rwa [zmc hl] at h
  ·rcases nw b o k with h | h
   ·cases q2 : G b with
    | none => exact absurd q2 h
    | some u => exact I.new b u q2
   ·exact .inr (bn b h)
  ·by_cases z : b = l
   ·subst z; rw [hl'] at k; cases k
   ·refine bn b ?_
    cases q2 : zdM H A b with
    | none => rfl
    | some u => rw [kp b u z q2] at k; cases k
  ·cases (zbk (zhm q es)).mp z'; exact I.dis j i t s l z ej e w ((zbk q).mpr hl)
  ·cases s with
   | own es' => obtain ⟨l', xs', k1, k2, k3, k4, k5⟩ := sl; rw [hl] at k1; cases k1; exact ⟨_, ys, rfl, gl, hl', r, k5⟩
   | par es' => obtain ⟨l', xs', k1, k2, k3, k4, k5⟩ := sl; rw [hl] at k1; cases k1; exact ⟨_, ys, rfl, gl, hl', r, k5⟩
   | _ => cases q
 ·by_cases z : j = i
  ·subst z
   rw [List.getElem?_set, if_pos rfl] at ej
   split at ej
   ·cases ej
    have h1 := (zbk (zhm q es)).mp w
    rw [hl] at h1
    have : l = p := V.ref.inj (Option.some.inj (Option.some.inj h1))
    subst this
    rcases zhQ hp with z | z
    ·rw [e3] at z; cases z
    ·exact (hA l z).2 j s e ((zbk q).mpr hl)
   ·cases ej
  ·rw [List.getElem?_set_ne (Ne.symm z)] at ej
   have sj := I.slot j t ej
   have w0 := sj.back (fun a w g h => ow j t a z ej w g h) w
   rcases zhQ hp with y | y
   ·exact (sj.own w0).2.1 y
   ·exact (hA p y).2 j t ej w0
noncomputable def zkp (F : List D -> T -> List D -> Option (Sl × List D)) (j : Nat) (mp : MP') (ma : MA) : ME := fun ρ => if (ρ[j]?.bind Sl.items).isSome then (mp ρ).bind fun c => if c.1.length <= 16777216 then (ma c.2).bind fun p => p.2[j]?.bind fun s => s.items.bind fun cs => (F cs (.lst c.1) p.1).bind fun r => match r.1 with
 | .val d => some (d, p.2.set j (s.put r.2))
 | .own ds => some (.lst ds, p.2.set j (s.put r.2))
 | _ => none else none else none
section
variable {X : Cx} {x y : Str} {p py pl pos : Pos} {es es' : List Expr} {mp : MP'} {ma : MA} {k k' n : Nat} {F : List D -> T -> List D -> Option (Sl × List D)}
theorem zoW (j : Nat) (fd : FD X.prog X.w X.K X.mg X.base k x (spMT X.K n F)) (hr : Room k' X.A) (hp : SP' X es mp) (ha : SA X es' ma) (hlen : ∀ ρ as ρ', ma ρ = some (as, ρ') -> as.length + 2 = n) (hN : X.N[j]? = some y := by rfl) (hv : Vis X.env.scope y := by first | exact Or.inl rfl | exact Or.inr (Or.inl rfl) | exact Or.inr (Or.inr rfl)) (hd : (y == ("__debug__" : Str)) = false := by decide)
  (hcd : (y == ("__classdict__" : Str)) = false := by decide) (hk : k <= k' := by decide) (hg : Gl X x := by rfl) (hdb : (x == ("__debug__" : Str)) = false := by decide)
  (he : starEach (.Name y py :: .List es pl :: es') X.env = (false, eval (.Name y py) X.env) :: starEach (.List es pl :: es') X.env := by rfl) (he2 : starEach (.List es pl :: es') X.env = (false, eval (.List es pl) X.env) :: starEach es' X.env := by rfl) (hpl : (backTo pos (starEach (.List es pl :: es') X.env)).any (·.1) = false := by rfl) : SE X (.Call (.Name x p) (.Name y py :: .List es pl :: es') [] pos) (zkp F j mp ma) := by
 obtain ⟨f, fdd, ps, G0, h1, h2, h3⟩ := fd.ex
 obtain ⟨t, pa, sa⟩ := ha
 obtain ⟨tp, pp, sp⟩ := hp
 refine ⟨_, zjV G0 (hr.mono hk) hg h1 h2 h3 .nil pass0 (zds (zgs hN hv hd hcd) (zds (pe_lst pp) pa he2) he) hdb he hpl, fun B G H σ ρ d ρ' Q I hm kk => ?_⟩
 unfold zkp at hm
 split at hm
 ·rename_i hso
  obtain ⟨ds0, hso⟩ := Option.isSome_iff_exists.mp hso
  obtain ⟨s0, k0, q0⟩ := zah hso
  obtain ⟨l, xs0, w1, w2, w3, w4⟩ := I.wr k0 q0
  obtain ⟨⟨cs1, ρ1⟩, e1, hm⟩ := zah hm
  split at hm
  ·rename_i hsz
   obtain ⟨⟨as, ρ2⟩, e2, hm⟩ := zah hm
   obtain ⟨s, e3, hm⟩ := zah hm
   obtain ⟨cs, e4, hm⟩ := zah hm
   obtain ⟨⟨r, out⟩, e5, hm⟩ := zah hm
   refine ⟨.ref l, w1, sp B G H σ ρ cs1 ρ1 _ I e1 fun G1 H1 vs A I1 f1 r1 nd hA => ?_⟩
   have ln : ∀ {xs : List V} {cs : List Ch} {A : List Addr}, RepCs X.K G1 H1 xs cs A -> xs.length = cs.length := by
    intro xs
    induction xs with
    | nil => intro cs A r; cases cs with
     | nil => rfl
     | cons _ _ => exact r.elim
    | cons x xs ih => intro cs A r; cases cs with
     | nil => exact r.elim
     | cons c cs => obtain ⟨_, _, _, r2, _⟩ := r; rw [List.length_cons, List.length_cons, ih r2]
   refine ⟨by rw [ln r1, sizeLine_eq]; exact hsz, fun q hq => ?_⟩
   have I2 := I1.allocO hq (.lst vs)
   have mv : ∀ (i : Nat) (s : Sl) (a : Addr), ρ1[i]? = some s -> OwS X.K G1 H1 σ[i]? a s -> G1 a = none -> H1 a ≠ none -> G1 a = none /\ upd H1 q (.lst vs) a = H1 a := fun i s a _ _ g h => ⟨g, zaC fun z => h (by rw [z]; exact hq)⟩
   have hA2 : ∀ a ∈ q :: A, G1 a = none /\ B.H a = none /\ Nw X.K G1 (upd H1 q (.lst vs)) σ ρ1 a /\ ∃ o, upd H1 q (.lst vs) a = some o := fun a m => by
    rcases List.mem_cons.mp m with rfl | m
    ·exact ⟨I1.fz.free hq, I1.there a hq, I1.nw_move (I1.nw hq) mv, _, zaV⟩
    ·obtain ⟨ys, z⟩ := r1.here m
     exact ⟨(hA a m).1, (hA a m).2.1, I1.nw_move (hA a m).2.2 mv, _, by rw [zaC fun y => by rw [y, hq] at z; cases z]; exact z⟩
   have nq : q ∉ A := fun m => by obtain ⟨ys, z⟩ := r1.here m; rw [hq] at z; cases z
   have rt : RepT X.K G1 (upd H1 q (.lst vs)) (.ref q) (.lst cs1) (q :: A) := ⟨q, vs, A, rfl, zaV, r1.move (Fz.refl G1) fun a m => zaC fun z => nq (by rw [<- z]; exact m), rfl⟩
   refine sa (B.re X.K G1 (upd H1 q (.lst vs)) σ ρ1) G1 _ σ ρ1 as ρ2 _ I2.re e2 fun G2 H2 ws J f2 r2 => ?_
   have I3 := I2.unre J
   have st : ∀ a ∈ q :: A, H2 a = upd H1 q (.lst vs) a /\ G2 a = none /\ Nw X.K G2 H2 σ ρ2 a := fun a m => by
    obtain ⟨a1, a2, a3, o, a4⟩ := hA2 a m
    obtain ⟨b1, b2, b3⟩ := I2.re_stays J a4 a3 a1 a2
    exact ⟨b1.trans a4.symm, b2, b3⟩
   obtain ⟨l', xs, m1, m2, m3, m4⟩ := I3.wr e3 e4
   rw [w1] at m1; cases m1
   show spMT X.K n F ((.ref l :: .ref q :: ws) ++ []) H2 Q E0
   rw [List.append_nil]
   have nl : l ∉ q :: A := fun m => (st l m).2.2 j s e3 ((zbk e4).mpr w1)
   refine ⟨G2, l, xs, cs, .ref q, .lst cs1, q :: A, ws, as, r, out, rfl, e5, hlen ρ1 as ρ2 e2, I3.fz, m2, m3, m4, rt.move f2 fun a m => (st a m).1, List.nodup_cons.mpr ⟨nq, nd⟩, nl, fun a m => (st a m).2.1, r2, fun G3 H3 v ys f3 fz3 nw kp gl hl r3 rr => ?_⟩
   obtain ⟨I4, fr⟩ := I3.chgW2 e3 e4 w1 fz3 f3 nw kp gl hl r3 fun a m => ⟨(hA2 a m).2.1, (st a m).2.2⟩
   cases r with
   | val d' => cases hm; exact kk G3 H3 v I4 (f1.trans (f2.trans f3)) rr
   | own ds =>
    cases hm
    obtain ⟨l', xs', rfl, g4, h4, r4, b4⟩ := rr
    obtain ⟨I5, f4, r5⟩ := zjx I4 g4 h4 r4 (fr l' b4).1 (fr l' b4).2
    exact kk _ H3 _ I5 (f1.trans (f2.trans (f3.trans f4))) r5
   | emp => cases hm
   | two _ _ => cases hm
   | tre _ => cases hm
   | ptr _ => cases hm
   | par _ => cases hm
  ·cases hm
 ·cases hm
end
theorem aLen2 {ma : MA} (h : aLen ma n) : ∀ ρ as ρ', ma ρ = some (as, ρ') -> as.length + 2 = n + 2 := fun ρ as ρ' e => by rw [h ρ as ρ' e]
end M
namespace M
open L2 PySem PySem.Spec
open PyProof.Rows hiding St
noncomputable def Ch.D : Ch -> M.D
 | .d x => x
 | .l ds => .lst ds
 | .t xss => .lst (xss.map .lst)
noncomputable def sTA (i j : Nat) : MS := fun ρ => match ρ[i]?, ρ[j]? with
 | some (.tre (.lst cs)), some (.own ds) => if cs.length < 16777216 then some (.next, (ρ.set j .emp).set i (.tre (.lst (cs ++ [.l ds])))) else none
 | _, _ => none
noncomputable abbrev MQ := R -> Option D
noncomputable def fzT (j : Nat) (ρ : R) : R := match ρ[j]? with
 | some (.tre (.lst cs)) => ρ.set j (.val (.lst (cs.map Ch.D)))
 | _ => ρ
end M
namespace M
local macro_rules | `(tactic| ac_rfl) => `(tactic| first | exact M.nA (by decide) | exact M.nB (by decide) | exact M.nC (by decide) | exact M.nL (by assumption) | exact Nat.ne_of_lt (by assumption) | lia)
open L2 PySem PySem.Spec
open PyProof.Rows hiding St
open Sem (wp)
variable {a b u : Value} {Q E : Value -> Shared -> Prop} {i : Nat} {prog : Program} {w : World} {A : Around} {s : Shared} {tg : Expr} {K : W.Frag} {X : Cx}
noncomputable abbrev zdN (h : Heap) (z TI TO : Addr) (f0 : Value) (b : Bool) : Prop := h.get? z = some { cls := .type "zip", data := .fields #[f0, .bool b, .bool false, .ref TI, .ref TO] }
noncomputable def ZipAt (h : Heap) (z TI TO : Addr) : Prop := ∃ f0 b, zdN h z TI TO f0 b /\ (f0 = .none \/ ∃ T : Nat, f0 = rawInt T)
section
variable {prog : Program} {w : World} {A : Around} {E : Value -> Shared -> Prop} {s : Shared}
theorem zo3 {a : Addr} {Q : Option Obj -> Shared -> Prop} (h : Q (s.heap.get? a) s) : wpAny (model prog w) A (loadIfAlive a) Q E s := fun Γ p hΓ => by
 show Sem.wp _ _ (Sem.loadIfAlive a Sem.pure) _ _ p s
 rw [Sem.wp_loadIfAlive]
 exact (wpAny_pure (M := model prog w) (A := A) (E := E) h) Γ p hΓ
theorem zok {z TI TO : Addr} {f0 : Value} {b : Bool} (hz : zdN s.heap z TI TO f0 b) (hf : f0 = .none \/ ∃ T : Nat, f0 = rawInt T) {Q : Bool -> Shared -> Prop} (h1 : Q true s)
  (h2 : ∀ h', zdN h' z TI TO f0 true -> Heap.SameBut z s.heap h' -> Q false { s with heap := h' }) : wpAny (model prog w) A (Builtin.SmallTypes.ownedTupleIsFree (.ref z)) Q E s := by
 unfold Builtin.SmallTypes.ownedTupleIsFree
 refine wpAny_bind (wpAny_field hz rfl (x := f0) rfl ?_)
 rcases hf with rfl | ⟨T, rfl⟩
 ·exact wpAny_pure h1
 ·refine (?_ : wpAny _ _ (loadIfAlive _ >>= _) _ _ _)
  refine wpAny_bind (zo3 ?_)
  cases e : s.heap.get? (T : Int).toNat with
  | none => exact wpAny_pure h1
  | some o =>
   refine (?_ : wpAny _ _ (field (.ref z) 1 >>= _) _ _ _)
   refine wpAny_bind (wpAny_field hz rfl (x := .bool b) rfl ?_)
   cases b
   ·refine (?_ : wpAny _ _ (setField (.ref z) 1 (.bool true) >>= _) _ _ _)
    exact wpAny_bind (wpAny_setField_rec hz (by simp) fun g1 z1 s1 => wpAny_pure (h2 g1 z1 s1))
   ·exact wpAny_pure (h2 s.heap hz ⟨rfl, fun _ _ => rfl⟩)
variable {N a1 a2 : Nat} {n1 n2 : Nat} {P1 P2 : Nat -> Value -> Prop} {S1 S2 : Nat -> Heap -> Prop}
theorem znu (D1 : Draws prog w A N [N, a1] n1 P1 S1) (D2 : Draws prog w A (N + 1) [N + 1, a2] n2 P2 S2) (l1 : a1 < N) (l2 : a2 < N)
  (hz' : ZipAt s.heap (N + 4) (N + 2) (N + 3)) (hTI : IsPair s.heap (N + 2) (.ref N) (.ref (N + 1))) (hTO : IsPair s.heap (N + 3) a b) (h1 : S1 i s.heap) (h2 : S2 i s.heap) (i1 : i < n1) (i2 : i < n2)
  (k : ∀ x y h' tk, P1 i x -> P2 i y -> ZipAt h' (N + 4) (N + 2) (N + 3) -> (∃ a b, IsPair h' (N + 3) a b) -> S1 (i + 1) h' -> S2 (i + 1) h' -> IsPair h' s.heap.objs.size x y ->
   (∀ c o, c ≠ N -> c ≠ N + 1 -> c ≠ N + 3 -> c ≠ N + 4 -> s.heap.get? c = some o -> h'.get? c = some o) -> Q (.ref s.heap.objs.size) { s with heap := h', toks := tk }) :
  wpAny (model prog w) A (Builtin.«zip.__next__» ⟨[.ref (N + 4)], []⟩) (fun fin s' => ∃ v, fin = .done (.ret v) /\ Q v s') E s := by
 obtain ⟨f0, bb, hz, hf⟩ := hz'
 refine (?_ : wpAny _ _ (field (.ref (N + 4)) 2 >>= _) _ _ _)
 refine wpAny_bind (wpAny_field hz rfl (x := .bool false) rfl (?_ : wpAny _ _ (field (.ref (N + 4)) 3 >>= _) _ _ _))
 refine wpAny_bind (wpAny_field hz rfl (x := .ref (N + 2)) rfl (wpAny_bind (wpAny_seqItems hTI rfl (?_ : wpAny _ _ (Builtin.SmallTypes.ownedTupleIsFree (.ref (N + 4)) >>= _) _ _ _))))
 refine wpAny_bind (zok hz hf ?_ fun g0 z0 s0 => ?_)
 ·simp only [if_true]
  refine wpAny_bind (wpAny_rule (wpAny_bind (wpAny_field hz rfl (x := .ref (N + 3)) rfl (wpAny_bind (wpAny_setField_rec hz (by simp) fun g1 z1 s1 => wpAny_bind ?_)))))
  replace z1 : zdN g1 (N + 4) (N + 2) (N + 3) .ellipsis bb := z1
  simp only [List.zipIdx_cons, List.zipIdx_nil, List.forIn_cons, List.forIn_nil]
  refine wpAny_bind (wpAny_bind (wpAny_onRaise (?_ : wpAny _ _ (Builtin.SmallTypes.nextOf (.ref N) >>= _) _ _ _)))
  have e1 : S1 i g1 := D1.frame _ _ _ h1 fun b hb o e => (s1.2 b (nin2 hb (by ac_rfl) (by ac_rfl))).trans e
  refine wpAny_bind (D1.item i _ _ _ i1 e1 fun x g2 t2 p1 f2 s2 => wpAny_pure ?_)
  have q2 : IsPair g2 (N + 3) a b := (s2.2 _ (ne_ (by ac_rfl))).trans ((s1.2 _ (ne_ (by ac_rfl))).trans hTO)
  refine wpAny_bind (wpAny_seqItems q2 rfl (wpAny_bind (wpAny_updateSeq_pair q2 fun g3 q3 s3 => wpAny_bind (wpAny_letGo (wpAny_pure ?_)))))
  replace q3 : IsPair g3 (N + 3) x b := q3
  refine wpAny_bind (wpAny_bind (wpAny_onRaise (?_ : wpAny _ _ (Builtin.SmallTypes.nextOf (.ref (N + 1)) >>= _) _ _ _)))
  have e3 : S2 i g3 := D2.frame _ _ _ h2 fun b hb o e => (s3.2 b (nin2 hb (by ac_rfl) (by ac_rfl))).trans ((s2.2 b (nin2 hb (by ac_rfl) (by ac_rfl))).trans ((s1.2 b (nin2 hb (by ac_rfl) (by ac_rfl))).trans e))
  refine wpAny_bind (D2.item i _ _ _ i2 e3 fun y g4 t4 p2 f4 s4 => wpAny_pure ?_)
  have q4 : IsPair g4 (N + 3) x b := (s4.2 _ (ne_ (by ac_rfl))).trans q3
  refine wpAny_bind (wpAny_seqItems q4 rfl (wpAny_bind (wpAny_updateSeq_pair q4 fun g5 q5 s5 => wpAny_bind (wpAny_letGo (wpAny_pure (wpAny_pure ?_))))))
  replace q5 : IsPair g5 (N + 3) x y := q5
  have sz : g5.objs.size = s.heap.objs.size := by rw [s5.1, s4.1, s3.1, s2.1, s1.1]
  have z5 : zdN g5 (N + 4) (N + 2) (N + 3) .ellipsis bb := (s5.2 _ (ne_ (by ac_rfl))).trans ((s4.2 _ (ne_ (by ac_rfl))).trans ((s3.2 _ (ne_ (by ac_rfl))).trans ((s2.2 _ (ne_ (by ac_rfl))).trans z1)))
  have zl : (N + 4 : Nat) < g5.objs.size := Heap.lt_size z5
  have k5 : ∀ c o, c ≠ N -> c ≠ N + 1 -> c ≠ N + 3 -> c ≠ N + 4 -> s.heap.get? c = some o -> g5.get? c = some o := fun c o c1 c2 c3 c4 e => (s5.2 c c3).trans ((s4.2 c c2).trans ((s3.2 c c3).trans ((s2.2 c c1).trans ((s1.2 c c4).trans e))))
  have f5 : S1 (i + 1) g5 := D1.frame _ _ _ f2 fun b hb o e => (s5.2 b (nin2 hb (by ac_rfl) (by ac_rfl))).trans ((s4.2 b (nin2 hb (by ac_rfl) (by ac_rfl))).trans ((s3.2 b (nin2 hb (by ac_rfl) (by ac_rfl))).trans e))
  have f5' : S2 (i + 1) g5 := D2.frame _ _ _ f4 fun b hb o e => (s5.2 b (nin2 hb (by ac_rfl) (by ac_rfl))).trans e
  refine wpAny_bind (wpAny_seqItems q5 rfl (wpAny_bind (wpAny_newTuple (?_ : wpAny _ _ (Builtin.SmallTypes.ownedTupleHandOut (.ref (N + 4)) (.ref g5.objs.size) >>= _) _ _ _))))
  refine wpAny_bind ?_
  unfold Builtin.SmallTypes.ownedTupleHandOut
  refine wpAny_bind (wpAny_setField_rec (show zdN (g5.push { cls := .type "tuple", data := .seq #[x, y] }) (N + 4) (N + 2) (N + 3) .ellipsis bb from Heap.get?_push_of_some _ z5) (by simp) fun g7 z7 s7 => ?_)
  replace z7 : zdN g7 (N + 4) (N + 2) (N + 3) (rawInt g5.objs.size) bb := z7
  refine wpAny_setField_rec z7 (by simp) fun g8 z8 s8 => wpAny_pure ⟨_, rfl, ?_⟩
  replace z8 : zdN g8 (N + 4) (N + 2) (N + 3) (rawInt g5.objs.size) false := z8
  have up : ∀ c o, c ≠ N + 4 -> g5.get? c = some o -> g8.get? c = some o := fun c o c1 e => (s8.2 c c1).trans ((s7.2 c c1).trans (Heap.get?_push_of_some _ e))
  have T8 : IsPair g8 g5.objs.size x y := (s8.2 _ (ne_ (by ac_rfl))).trans ((s7.2 _ (ne_ (by ac_rfl))).trans (Heap.get?_push_size _ rfl))
  rw [sz] at z8 T8
  refine (?_ : Q (.ref g5.objs.size) _)
  rw [sz]
  exact k x y g8 _ p1 p2 ⟨_, _, z8, .inr ⟨_, rfl⟩⟩ ⟨_, _, up _ _ (ne_ (by ac_rfl)) q5⟩ (D1.frame _ _ _ f5 fun b hb o e => up b o (nin2 hb (by ac_rfl) (by ac_rfl)) e) (D2.frame _ _ _ f5' fun b hb o e => up b o (nin2 hb (by ac_rfl) (by ac_rfl)) e) T8 fun c o c1 c2 c3 c4 e => up c o c4 (k5 c o c1 c2 c3 c4 e)
 ·simp only [Bool.false_eq_true, if_false]
  simp only [List.forIn_toArray, List.forIn_cons, List.forIn_nil]
  have e0 : S1 i g0 := D1.frame _ _ _ h1 fun b hb o e => (s0.2 b (nin2 hb (by ac_rfl) (by ac_rfl))).trans e
  refine wpAny_bind (wpAny_bind (wpAny_bind (wpAny_holding (?_ : wpAny _ _ (Builtin.SmallTypes.nextOf (.ref N) >>= _) _ _ _))))
  refine wpAny_bind (D1.item i _ _ _ i1 e0 fun x g2 t2 p1 f2 s2 => wpAny_pure (wpAny_pure ?_))
  refine wpAny_bind (wpAny_bind (wpAny_holding (?_ : wpAny _ _ (Builtin.SmallTypes.nextOf (.ref (N + 1)) >>= _) _ _ _)))
  have e3 : S2 i g2 := D2.frame _ _ _ h2 fun b hb o e => (s2.2 b (nin2 hb (by ac_rfl) (by ac_rfl))).trans ((s0.2 b (nin2 hb (by ac_rfl) (by ac_rfl))).trans e)
  refine wpAny_bind (D2.item i _ _ _ i2 e3 fun y g4 t4 p2 f4 s4 => wpAny_pure (wpAny_pure (wpAny_pure ?_)))
  have sz : g4.objs.size = s.heap.objs.size := by rw [s4.1, s2.1, s0.1]
  have z4 : zdN g4 (N + 4) (N + 2) (N + 3) f0 true := (s4.2 _ (ne_ (by ac_rfl))).trans ((s2.2 _ (ne_ (by ac_rfl))).trans z0)
  have f4' : S1 (i + 1) g4 := D1.frame _ _ _ f2 fun b hb o e => (s4.2 b (nin2 hb (by ac_rfl) (by ac_rfl))).trans e
  refine (?_ : wpAny _ _ (newTuple [x, y] >>= _) _ _ _)
  refine wpAny_bind (wpAny_newTuple (wpAny_pure ⟨_, rfl, ?_⟩))
  have k5 : ∀ c o, c ≠ N -> c ≠ N + 1 -> c ≠ N + 3 -> c ≠ N + 4 -> s.heap.get? c = some o -> g4.get? c = some o := fun c o c1 c2 c3 c4 e => (s4.2 c c2).trans ((s2.2 c c1).trans ((s0.2 c c4).trans e))
  have q4 : IsPair g4 (N + 3) a b := (s4.2 _ (ne_ (by ac_rfl))).trans ((s2.2 _ (ne_ (by ac_rfl))).trans ((s0.2 _ (ne_ (by ac_rfl))).trans hTO))
  have T8 : IsPair (g4.push { cls := .type "tuple", data := .seq #[x, y] }) g4.objs.size x y := Heap.get?_push_size _ rfl
  rw [sz] at T8
  refine (?_ : Q (.ref g4.objs.size) _)
  rw [sz]
  exact k x y _ _ p1 p2 ⟨_, _, Heap.get?_push_of_some _ z4, hf⟩ ⟨_, _, Heap.get?_push_of_some _ q4⟩ (D1.frame _ _ _ f4' fun b hb o e => Heap.get?_push_of_some _ e) (D2.frame _ _ _ f4 fun b hb o e => Heap.get?_push_of_some _ e) T8 fun c o c1 c2 c3 c4 e => Heap.get?_push_of_some _ (k5 c o c1 c2 c3 c4 e)
theorem znJ {Q : Fin -> Shared -> Prop} (D1 : Draws prog w A N [N, a1] n1 P1 S1) (D2 : Draws prog w A (N + 1) [N + 1, a2] n2 P2 S2) (l1 : a1 < N) (l2 : a2 < N)
  (hz' : ZipAt s.heap (N + 4) (N + 2) (N + 3)) (hTI : IsPair s.heap (N + 2) (.ref N) (.ref (N + 1))) (hTO : IsPair s.heap (N + 3) a b) (h1 : S1 i s.heap) (h2 : S2 i s.heap) (hi : i = n1 \/ (i < n1 /\ i = n2))
  (k : ∀ h' e tk, (∀ c o, c ≠ N -> c ≠ N + 1 -> c ≠ N + 3 -> c ≠ N + 4 -> s.heap.get? c = some o -> h'.get? c = some o) -> (∃ o, h'.get? e = some o /\ o.cls = .type "StopIteration") -> E (.ref e) { s with heap := h', toks := tk }) :
  wpAny (model prog w) A (Builtin.«zip.__next__» ⟨[.ref (N + 4)], []⟩) Q E s := by
 obtain ⟨f0, bb, hz, hf⟩ := hz'
 refine (?_ : wpAny _ _ (field (.ref (N + 4)) 2 >>= _) _ _ _)
 refine wpAny_bind (wpAny_field hz rfl (x := .bool false) rfl (?_ : wpAny _ _ (field (.ref (N + 4)) 3 >>= _) _ _ _))
 refine wpAny_bind (wpAny_field hz rfl (x := .ref (N + 2)) rfl (wpAny_bind (wpAny_seqItems hTI rfl (?_ : wpAny _ _ (Builtin.SmallTypes.ownedTupleIsFree (.ref (N + 4)) >>= _) _ _ _))))
 refine wpAny_bind (zok hz hf ?_ fun g0 z0 s0 => ?_)
 ·simp only [if_true]
  refine wpAny_bind (wpAny_rule (wpAny_bind (wpAny_field hz rfl (x := .ref (N + 3)) rfl (wpAny_bind (wpAny_setField_rec hz (by simp) fun g1 z1 s1 => wpAny_bind ?_)))))
  replace z1 : zdN g1 (N + 4) (N + 2) (N + 3) .ellipsis bb := z1
  simp only [List.zipIdx_cons, List.zipIdx_nil, List.forIn_cons, List.forIn_nil]
  refine wpAny_bind (wpAny_bind (wpAny_onRaise (?_ : wpAny _ _ (Builtin.SmallTypes.nextOf (.ref N) >>= _) _ _ _)))
  have e1 : S1 i g1 := D1.frame _ _ _ h1 fun b hb o e => (s1.2 b (nin2 hb (by ac_rfl) (by ac_rfl))).trans e
  rcases hi with rfl | ⟨i1, rfl⟩
  ·refine wpAny_bind (D1.done _ _ _ e1 fun g2 e x2 he => ?_)
   obtain ⟨oe, hoe, hce⟩ := he
   have z2 : zdN g2 (N + 4) (N + 2) (N + 3) .ellipsis bb := x2 _ _ (ne_ (by ac_rfl)) z1
   have hez : e ≠ N + 4 := fun x => by subst x; rw [z2] at hoe; cases hoe; simp at hce
   exact wpAny_setField_rec z2 (by simp) fun g3 _ s3 => k g3 e _ (fun c o c1 c2 c3 c4 x => (s3.2 c c4).trans (x2 c o c1 ((s1.2 c c4).trans x))) ⟨oe, (s3.2 _ hez).trans hoe, hce⟩
  ·refine wpAny_bind (D1.item i _ _ _ i1 e1 fun x g2 t2 p1 f2 s2 => wpAny_pure ?_)
   have q2 : IsPair g2 (N + 3) a b := (s2.2 _ (ne_ (by ac_rfl))).trans ((s1.2 _ (ne_ (by ac_rfl))).trans hTO)
   refine wpAny_bind (wpAny_seqItems q2 rfl (wpAny_bind (wpAny_updateSeq_pair q2 fun g3 q3 s3 => wpAny_bind (wpAny_letGo (wpAny_pure ?_)))))
   replace q3 : IsPair g3 (N + 3) x b := q3
   refine wpAny_bind (wpAny_bind (wpAny_onRaise (?_ : wpAny _ _ (Builtin.SmallTypes.nextOf (.ref (N + 1)) >>= _) _ _ _)))
   have e3 : S2 i g3 := D2.frame _ _ _ h2 fun b hb o e => (s3.2 b (nin2 hb (by ac_rfl) (by ac_rfl))).trans ((s2.2 b (nin2 hb (by ac_rfl) (by ac_rfl))).trans ((s1.2 b (nin2 hb (by ac_rfl) (by ac_rfl))).trans e))
   refine wpAny_bind (D2.done _ _ _ e3 fun g4 e x4 he => ?_)
   obtain ⟨oe, hoe, hce⟩ := he
   have z3 : zdN g3 (N + 4) (N + 2) (N + 3) .ellipsis bb := (s3.2 _ (ne_ (by ac_rfl))).trans ((s2.2 _ (ne_ (by ac_rfl))).trans z1)
   have z4 : zdN g4 (N + 4) (N + 2) (N + 3) .ellipsis bb := x4 _ _ (ne_ (by ac_rfl)) z3
   have hez : e ≠ N + 4 := fun x => by subst x; rw [z4] at hoe; cases hoe; simp at hce
   exact wpAny_setField_rec z4 (by simp) fun g5 _ s5 => k g5 e _ (fun c o c1 c2 c3 c4 x => (s5.2 c c4).trans (x4 c o c2 ((s3.2 c c3).trans ((s2.2 c c1).trans ((s1.2 c c4).trans x))))) ⟨oe, (s5.2 _ hez).trans hoe, hce⟩
 ·simp only [Bool.false_eq_true, if_false, List.forIn_toArray, List.forIn_cons, List.forIn_nil]
  have e0 : S1 i g0 := D1.frame _ _ _ h1 fun b hb o e => (s0.2 b (nin2 hb (by ac_rfl) (by ac_rfl))).trans e
  refine wpAny_bind (wpAny_bind (wpAny_bind (wpAny_holding (?_ : wpAny _ _ (Builtin.SmallTypes.nextOf (.ref N) >>= _) _ _ _))))
  rcases hi with rfl | ⟨i1, rfl⟩
  ·refine wpAny_bind (D1.done _ _ _ e0 fun g2 e x2 he => ?_)
   exact k g2 e _ (fun c o c1 c2 c3 c4 x => x2 c o c1 ((s0.2 c c4).trans x)) he
  ·refine wpAny_bind (D1.item i _ _ _ i1 e0 fun x g2 t2 p1 f2 s2 => wpAny_pure (wpAny_pure ?_))
   refine wpAny_bind (wpAny_bind (wpAny_holding (?_ : wpAny _ _ (Builtin.SmallTypes.nextOf (.ref (N + 1)) >>= _) _ _ _)))
   have e3 : S2 i g2 := D2.frame _ _ _ h2 fun b hb o e => (s2.2 b (nin2 hb (by ac_rfl) (by ac_rfl))).trans ((s0.2 b (nin2 hb (by ac_rfl) (by ac_rfl))).trans e)
   refine wpAny_bind (D2.done _ _ _ e3 fun g4 e x4 he => ?_)
   exact k g4 e _ (fun c o c1 c2 c3 c4 x => x4 c o c2 ((s2.2 c c1).trans ((s0.2 c c4).trans x))) he
end
theorem ZipAt.at {h h' : Heap} {z TI TO : Addr} (x : ZipAt h z TI TO) (e : ∀ o, h.get? z = some o -> h'.get? z = some o) : ZipAt h' z TI TO := by
 obtain ⟨f0, b, q, r⟩ := x
 exact ⟨f0, b, e _ q, r⟩
theorem zlM {z TI TO : Addr} (hz : ZipAt s.heap z TI TO) (h : Q (.ref z) s) : wpAny (model prog w) A (pyIter (.ref z)) Q E s := by
 obtain ⟨f0, b, q, r⟩ := hz
 have hT : s.TypeIs (.ref z) "zip" := ⟨_, q, rfl⟩
 exact wpAny_pyIter_slot hT F.slot_zip_iter (wpAny_call_entry F.slot_zip_iter hT F.entry_zip_iter (wpAny_pure ⟨.ref z, rfl, "zip", .builtin "zip.__next__", hT, F.slot_zip_next.lookup, h⟩) (F.args_zip_iter_1 (.ref z)))
theorem letGoZ {z TI TO : Addr} {Q : Unit -> Shared -> Prop} (hz : ZipAt s.heap z TI TO) (h1 : Q () s)
  (h2 : ∀ h', ZipAt h' z TI TO -> Heap.SameBut z s.heap h' -> Q () { s with heap := h' }) : wpAny (model prog w) A (letOwnedTupleGo tg (.ref z) u) Q E s := by
 obtain ⟨f0, b, q, r⟩ := hz
 have core : ∀ a : Addr, wpAny (model prog w) A (do
   let o <- load z
   match o.cls, o.data with
    | Value.type n, Data.fields vs =>
     if (["enumerate", "zip", "dict_itemiterator", "dict_reverseitemiterator", "odict_iterator", "itertools.zip_longest", "itertools.pairwise"].contains n && vs[0]? == some (rawInt ↑a)) = true then do
      rule "for.unpacks-the-owned-tuple"
      updateField z 0 Value.none
     else pure ()
    | x, x_1 => pure ()) Q E s := fun a => by
  refine wpAny_bind (wpAny_load q ?_)
  dsimp only
  split
  ·refine wpAny_bind (wpAny_rule ?_)
   refine (?_ : wpAny _ _ (setField (.ref z) 0 .none) _ _ _)
   exact wpAny_setField_rec q (by simp) fun g1 z1 s1 => h2 g1 ⟨_, _, z1, .inl rfl⟩ s1
  ·exact wpAny_pure h1
 unfold letOwnedTupleGo
 cases tg <;> first | exact wpAny_pure h1 | (cases u <;> first | exact wpAny_pure h1 | exact core _)
theorem znb {P : Program} {w : World} (t1 : Bool) (a1 : Nat) (t2 : Bool) (a2 : Nat) (n N : Nat) (l1 : a1 < N) (l2 : a2 < N) :
  Turn P w K tg (Itz2 K t1 a1 t2 a2 n) ([N, N + 1, N + 2, N + 3, N + 4] : List Nat) (N + 4 : Nat)
   (fun i h => i <= n /\ ZipAt h (N + 4 : Nat) (N + 2 : Nat) (N + 3 : Nat) /\ IsPair h (N + 2 : Nat) (.ref N) (.ref (N + 1 : Nat)) /\ (∃ a b, IsPair h (N + 3 : Nat) a b) /\ SrcIt t1 h N a1 i /\ SrcIt t2 h (N + 1 : Nat) a2 i) where
 mem := by simp
 obj := fun i h st b hb => by
  obtain ⟨-, h4, h2, ⟨a, c, h3⟩, h0, h1⟩ := st
  simp only [List.mem_cons, List.not_mem_nil, or_false] at hb
  rcases hb with rfl | rfl | rfl | rfl | rfl
  ·exact h0.obj
  ·exact h1.obj
  ·exact ⟨_, h2, fun v z => by cases z⟩
  ·exact ⟨_, h3, fun v z => by cases z⟩
  ·obtain ⟨f0, bb, z4, -⟩ := h4
   exact ⟨_, z4, fun v z => by cases z⟩
 keep := fun i h h' st k => by
  obtain ⟨hi, h4, h2, ⟨a, c, h3⟩, h0, h1⟩ := st
  exact ⟨hi, h4.at fun o e => k _ (by simp) o e, k _ (by simp) _ h2, ⟨a, c, k _ (by simp) _ h3⟩, h0.at fun o e => k _ (by simp) o e, h1.at fun o e => k _ (by simp) o e⟩
 item := by
  intro X hP hw hK hc i pins s σ H E I hf st hg
  subst hP hw hK
  obtain ⟨hi, h4, h2, ⟨a, c, h3⟩, h0, h1⟩ := st
  obtain ⟨hn, xs, ys, q1, q2, en⟩ := hg
  obtain ⟨us, ru, hu, zu⟩ := q1.heap I
  obtain ⟨ws, rw', hw', zw⟩ := q2.heap I
  have lu := ru.length
  have lw := rw'.length
  have D1 := zbp (prog := X.prog) (w := X.w) (A := X.A.in1) (t := t1) (I.ok.hd hc) N a1 (ne_ (by ac_rfl)) us.toArray
  have D2 := zbp (prog := X.prog) (w := X.w) (A := X.A.in1) (t := t2) (I.ok.hd hc) (N + 1) a2 (ne_ (by ac_rfl)) ws.toArray
  have z4 := h4
  obtain ⟨f0, bb, z4, -⟩ := z4
  have hT : s.TypeIs (.ref (N + 4 : Nat)) "zip" := ⟨_, z4, rfl⟩
  unfold pyNext
  refine wpAny_bind (wpAny_attempt (wpAny_callSpecial?_slot (name := Str.ofString "__next__") hT F.slot_zip_next (wpAny_call_entry F.slot_zip_next hT F.entry_zip_next
   (znu D1 D2 l1 l2 h4 h2 h3 ⟨h0, hu⟩ ⟨h1, hw'⟩ (by simp; lia) (by simp; lia) fun x y h' tk p1 p2 g4 g3 g0 g1 gT kk => wpAny_pure ?_) (F.args_zip_next_1 _))))
  obtain ⟨x1, hx1⟩ : ∃ x1, xs[i]? = some x1 := ⟨xs[i]'(by lia), List.getElem?_eq_getElem _⟩
  obtain ⟨x2, hx2⟩ : ∃ x2, ys[i]? = some x2 := ⟨ys[i]'(by lia), List.getElem?_eq_getElem _⟩
  obtain ⟨u1, hu1, r1⟩ := ru.get hx1
  obtain ⟨u2, hu2, r2⟩ := rw'.get hx2
  have e1 : u1 = x := by
   have : us[i]? = some x := by simpa using p1
   rw [hu1] at this; cases this; rfl
  have e2 : u2 = y := by
   have : ws[i]? = some y := by simpa using p2
   rw [hu2] at this; cases this; rfl
  subst e1 e2
  refine ⟨_, rfl, ?_⟩
  have fin : ∀ h'', ZipAt h'' (N + 4 : Nat) (N + 2 : Nat) (N + 3 : Nat) -> Heap.SameBut (N + 4 : Nat) h' h'' -> ∃ x H', L2.Inv X pins σ H' { s with heap := h'', toks := tk } /\ RelV x (.ref s.heap.objs.size) /\ (Itz2 X.K t1 a1 t2 a2 n).yld i H x H' /\ (i + 1 <= n /\ ZipAt h'' (N + 4 : Nat) (N + 2 : Nat) (N + 3 : Nat) /\ IsPair h'' (N + 2 : Nat) (.ref N) (.ref (N + 1 : Nat)) /\ (∃ a b, IsPair h'' (N + 3 : Nat) a b) /\ SrcIt t1 h'' N a1 (i + 1) /\ SrcIt t2 h'' (N + 1 : Nat) a2 (i + 1)) /\ ∀ b ∈ ([N, N + 1, N + 2, N + 3, N + 4] : List Nat), H' b = none := fun h'' z'' sb => by
   have lz : N + 4 < s.heap.objs.size := Heap.lt_size z4
   have kk' : ∀ b o, b ∉ ([N, N + 1, N + 2, N + 3, N + 4] : List Nat) -> s.heap.get? b = some o -> h''.get? b = some o := fun b o hb e => by
    obtain ⟨c1, c2, c3, c4⟩ := nin4 hb
    exact (sb.2 b c4).trans (kk b o c1 c2 c3 c4 e)
   have I1 := zl6 (t' := tk) (vs := [x1, x2]) (its := [u1, u2]) I kk' hf (fun b hb => by
    have : b = N \/ b = N + 1 \/ b = N + 2 \/ b = N + 3 \/ b = N + 4 := by simpa using hb
    exact Nat.lt_of_le_of_lt (show (b : Nat) <= N + 4 by rcases this with h | h | h | h | h <;> rw [h] <;> simp) lz) ((sb.2 _ (ne_ (by ac_rfl))).trans gT) (by simp; rw [sizeLine_eq]; decide) (.cons r1 (.cons r2 .nil))
   refine ⟨.ref s.heap.objs.size, _, I1, rfl, ⟨_, x1, x2, I.hok.fresh (Nat.le_refl _), rfl, rfl, fun xs' ys' b1 b2 => ?_⟩, ⟨hn, z'', (sb.2 _ (ne_ (by ac_rfl))).trans (kk _ _ (ne_ (by ac_rfl)) (ne_ (by ac_rfl)) (ne_ (by ac_rfl)) (ne_ (by ac_rfl)) h2), (let ⟨a', b', e'⟩ := g3; ⟨a', b', (sb.2 _ (ne_ (by ac_rfl))).trans e'⟩), SrcIt.at g0.1 fun o e => (sb.2 _ (ne_ (by ac_rfl))).trans e, SrcIt.at g1.1 fun o e => (sb.2 _ (ne_ (by ac_rfl))).trans e⟩, fun b hb => ?_⟩
   ·rw [SrcSq.inj I b1 q1, SrcSq.inj I b2 q2]
    exact ⟨hx1, hx2⟩
   ·have : b = N \/ b = N + 1 \/ b = N + 2 \/ b = N + 3 \/ b = N + 4 := by simpa using hb
    rw [zaC (Nat.ne_of_lt (Nat.lt_of_le_of_lt (show (b : Nat) <= N + 4 by rcases this with h | h | h | h | h <;> rw [h] <;> simp) lz))]
    exact (hf b hb).1
  exact letGoZ (s := { s with heap := h', toks := tk }) g4 (fin h' g4 ⟨rfl, fun _ _ => rfl⟩) fun h'' z'' sb => fin h'' z'' sb
 done := by
  intro X hP hw hK hc i pins s σ H E I hf st hg
  subst hP hw hK
  obtain ⟨hi, h4, h2, ⟨a, c, h3⟩, h0, h1⟩ := st
  obtain ⟨hn, xs, ys, q1, q2, en⟩ := hg
  obtain ⟨us, ru, hu, zu⟩ := q1.heap I
  obtain ⟨ws, rw', hw', zw⟩ := q2.heap I
  have lu := ru.length
  have lw := rw'.length
  have D1 := zbp (prog := X.prog) (w := X.w) (A := X.A.in1) (t := t1) (I.ok.hd hc) N a1 (ne_ (by ac_rfl)) us.toArray
  have D2 := zbp (prog := X.prog) (w := X.w) (A := X.A.in1) (t := t2) (I.ok.hd hc) (N + 1) a2 (ne_ (by ac_rfl)) ws.toArray
  have z4 := h4
  obtain ⟨f0, bb, z4, -⟩ := z4
  have hT : s.TypeIs (.ref (N + 4 : Nat)) "zip" := ⟨_, z4, rfl⟩
  unfold pyNext
  refine wpAny_bind (wpAny_attempt (wpAny_callSpecial?_slot (name := Str.ofString "__next__") hT F.slot_zip_next (wpAny_call_entry F.slot_zip_next hT F.entry_zip_next
   (znJ D1 D2 l1 l2 h4 h2 h3 ⟨h0, hu⟩ ⟨h1, hw'⟩ (by simp; lia) fun h' e tk kk he => ?_) (F.args_zip_next_1 _))))
  obtain ⟨o, ho, hce⟩ := he
  refine wpAny_bind (wpAny_isInstance (T := "StopIteration") (b := true) ⟨o, ho, hce⟩ isSubtype_stop (wpAny_pure ⟨rfl, zkA I (fun b o hb e => ?_) hf⟩))
  obtain ⟨c1, c2, c3, c4⟩ := nin4 hb
  exact kk b o c1 c2 c3 c4 e
 self := fun _ _ _ _ _ st h => zlM st.2.1 h
theorem pi_zip2N {a b : Expr} {ta : TA} {p pos : Pos} (hg : Gl X "zip") (hm : X.mg "zip" = none) (ha : PA X [a, b] ta) (hs : starEach [a, b] X.env = (false, eval a X.env) :: starEach [b] X.env := by rfl) (hs2 : (backTo pos (starEach [b] X.env)).any (·.1) = false := by rfl) :
  PI X tg (.Call (.Name "zip" p) [a, b] [] pos) (fun σ H R => ta σ H fun vs H1 => ∃ t1 a1 xs t2 a2 ys, vs = [.ref a1, .ref a2] /\ SrcSq t1 X.K H1 a1 xs /\ SrcSq t2 X.K H1 a2 ys /\ R (Itz2 X.K t1 a1 t2 a2 (min xs.length ys.length)) H1) := by
 intro pins s σ H R I h
 refine Call_ (zhF I hg hm zmJ (PyProof.Rows.callWith_type1 (thn (ha pos pins s σ H _ I h) fun us s1 ⟨vs, H1, I1, r1, q1⟩ => ?_) hs hs2))
 obtain ⟨t1, a1, xs, t2, a2, ys, e, q1, q2, q⟩ := q1
 subst e
 cases r1 with
 | cons r rr =>
  cases rr with
  | cons r' rr =>
   cases rr
   cases r
   cases r'
   obtain ⟨us, ru, hu, -⟩ := q1.heap I1
   obtain ⟨ws, rw', hw', -⟩ := q2.heap I1
   refine zou hu hw' fun h' g4 g2 g3 g0 g1 kk => wpAny_pyIter_zip g4 ⟨_, _, _, _, H1, rfl, I1.kept (t' := s1.toks) kk, znb t1 a1 t2 a2 (min xs.length ys.length) s1.heap.objs.size hu.lt hw'.lt, ⟨Nat.zero_le _, ⟨_, _, g4, .inl rfl⟩, g2, ⟨_, _, g3⟩, g0, g1⟩, fun b hb => ?_, q⟩
   have : b = s1.heap.objs.size \/ b = s1.heap.objs.size + 1 \/ b = s1.heap.objs.size + 2 \/ b = s1.heap.objs.size + 3 \/ b = s1.heap.objs.size + 4 := by simpa using hb
   have le : s1.heap.objs.size <= b := by rcases this with h | h | h | h | h <;> rw [h] <;> simp
   exact I1.fpOk le (I1.hok.fresh le)
theorem zj9 {a b : Expr} {ma : MA} {p pos : Pos} (hm : X.mg "zip" = none) (ha : SA X [a, b] ma) (hg : Gl X "zip" := by rfl) (hs : starEach [a, b] X.env = (false, eval a X.env) :: starEach [b] X.env := by rfl) (hs2 : (backTo pos (starEach [b] X.env)).any (·.1) = false := by rfl) :
  SIt X tg (.Call (.Name "zip" p) [a, b] [] pos) (iZ2 ma) := by
 obtain ⟨t, pa, sa⟩ := ha
 refine ⟨_, pi_zip2N hg hm pa hs hs2, fun B G H σ ρ ds ρ' Q I hm k => ?_⟩
 obtain ⟨⟨es, ρ1⟩, e1, h2⟩ := zah hm
 dsimp only at h2
 refine sa B G H σ ρ es ρ1 _ I e1 fun G1 H1 vs I1 f1 r1 => ?_
 split at h2
 ·obtain ⟨xs, ex, h2⟩ := zah h2
  obtain ⟨ys, ey, h2⟩ := zah h2
  cases h2
  obtain ⟨x, y, rfl, rx, ry⟩ := r1.two
  obtain ⟨t1, a1, us, rfl, s1, c1⟩ := zjG rx ex
  obtain ⟨t2, a2, ws, rfl, s2, c2⟩ := zjG ry ey
  have n1 := c1.length
  have n2 := c2.length
  refine ⟨t1, a1, us, t2, a2, ws, rfl, s1 _ I1.fz, s2 _ I1.fz, k _ G1 H1 I1 f1 ⟨fun H i f hi => ?_, fun H i x H' f y d e => ?_, fun H i f hi => ?_⟩⟩
  ·exact ⟨by simp [zlZ] at hi; lia, us, ws, s1 _ f, s2 _ f, rfl⟩
  ·obtain ⟨p, x1, x2, hp, eh, ex', q⟩ := y
   obtain ⟨q1, q2⟩ := q us ws (s1 _ f) (s2 _ f)
   simp only [zlZ, List.getElem?_zipWith] at e
   split at e
   ·rename_i d1 d2 g1 g2
    cases e
    obtain ⟨v1, b1, r1⟩ := c1.get g1
    obtain ⟨v2, b2, r2⟩ := c2.get g2
    rw [q1] at b1; cases b1
    rw [q2] at b2; cases b2
    exact .inr ⟨p, _, _, hp, eh, ex', rfl, ⟨_, _, rfl, r1, _, _, rfl, r2, rfl⟩⟩
   ·cases e
  ·exact ⟨by simp [zlZ] at hi; lia, us, ws, s1 _ f, s2 _ f, rfl⟩
 ·cases h2
end M
namespace M
open L2 PySem PySem.Spec
open PyProof.Rows hiding St
theorem ndk {l : List Str} (h : decide l.Nodup = true := by kernel_rfl) : l.Nodup := of_decide_eq_true h
theorem us_0 {p : List Value -> Prop} (h : p []) : ∀ us : List Value, us.length = 0 -> p us := fun us e => by
 cases us with
 | nil => exact h
 | cons => cases e
theorem us_s {p : List Value -> Prop} {n : Nat} (h : ∀ (a : Value) (us : List Value), us.length = n -> p (a :: us)) : ∀ us : List Value, us.length = n + 1 -> p us := fun us e => by
 cases us with
 | nil => cases e
 | cons a us => exact h a us (Nat.succ.inj e)
section
variable {P : Program} {w : World} {K : W.Frag} {mg : Str -> Option Value} {base hp : Heap} {x : Str} {st : Stmt} {f : Addr}
noncomputable def FnAt (K : W.Frag) (x : Str) (st : Stmt) : Prop := ∃ f fd, W.nsIn K mainGlobals x = some (some (.ref f)) /\ Fun K x x st f fd
theorem FnAt.mk {oc : Value} {od an : Option Addr} {osl : Array (Option Value)} {kV doc pm cdv ct : Value} (a : W.nsIn K mainGlobals x = some (some (.ref f))) (l : K.lookup f = some ⟨oc, od, .func (W.fnOf x x (zfm st) (zcq st) (zaG st) .none kV doc pm an cdv ct), osl⟩)
  (c : W.codeIn K cdv x = true) (k : W.keepIn K (.ref f) = true) : FnAt K x st := ⟨f, _, a, fun_mk l c k⟩
noncomputable abbrev BindsAt (x : Str) (st : Stmt) (ps : List Str) : Prop := ∀ (kV doc pm : Value) (an : Option Addr) (cdv ct : Value) (us : List Value), us.length = ps.length -> bindArgs (W.fnOf x x (zfm st) (zcq st) (zaG st) .none kV doc pm an cdv ct) ⟨us, []⟩ = pure (ps.zip us)
theorem FnAt.law (h : FnAt K x st) (X : K.In hp) (G : hp.Ns mainGlobals mg) (hf : mg x = some (.ref f)) : ∃ kV doc pm an cdv ct, Fun K x x st f (W.fnOf x x (zfm st) (zcq st) (zaG st) .none kV doc pm an cdv ct) := by
 obtain ⟨f', fd, a, T⟩ := h
 have e := hf.symm.trans (W.mg_of X G a)
 cases e
 obtain ⟨oc, od, kV, doc, pm, an, cdv, ct, osl, rfl, lk, hcd⟩ := id T.ex
 exact ⟨kV, doc, pm, an, cdv, ct, T⟩
variable {N : List Str} {k n : Nat} {m : MS}
noncomputable abbrev Bd (P : Program) (w : World) (K : W.Frag) (mg : Str -> Option Value) (base : Heap) (x : Str) (st : Stmt) (N : List Str) (k : Nat) (m : MS) : Prop := ∀ (f : Addr) (cdv : Value) (A : Around) (outer : List Env) (s : Shared) (H : Hp) (E : XK), Room k (A.deeper (PyProof.Rows.envOfC x (zaG st) s.heap.objs.size f cdv)) -> N.Nodup -> SSs (cxOf CX0 P w K mg base N x (zaG st) f cdv A outer s H E).nox (zcq st) m
structure DefOk (x : Str) (st : Stmt) (N : List Str) (n : Nat) : Prop where
 sc : FnScope N (N.take n) (zaG st)
 len : (N.take n).length = n
 le : n <= N.length
 bs : BindsAt x st (N.take n)
theorem lawP {fd : FuncData} (F : Fun K x x st f fd) (b : Bd P w K mg base x st N k m) (d : DefOk x st N n := by exact ⟨⟨rfl, rfl, rfl, by decide +kernel, rfl, by decide +kernel, by decide +kernel⟩, rfl, by decide, fun _ _ _ _ _ _ => by first | exact us_s fun _ => us_0 rfl | exact us_s fun _ => us_s fun _ => us_0 rfl | exact us_s fun _ => us_s fun _ => us_s fun _ => us_0 rfl | exact us_s fun _ => us_s fun _ => us_s fun _ => us_s fun _ => us_0 rfl | exact us_0 rfl | exact us_s fun _ => us_s fun _ => us_s fun _ => us_s fun _ => us_s fun _ => us_0 rfl⟩) : FnOk P w K mg base CX0 (k + 1) f fd (N.take n) (spP K n (fP N.length m)) := fnP_ok F d.sc d.len d.le fun cdv A outer s H E hr => b _ cdv A outer s H E hr d.sc.nd
theorem fdP (X : K.In hp) (G : hp.Ns mainGlobals mg) (h : FnAt K x st) (b : Bd P w K mg base x st N k m) (d : DefOk x st N n := by exact ⟨⟨rfl, rfl, rfl, by decide +kernel, rfl, by decide +kernel, by decide +kernel⟩, rfl, by decide, fun _ _ _ _ _ _ => by first | exact us_s fun _ => us_0 rfl | exact us_s fun _ => us_s fun _ => us_0 rfl | exact us_s fun _ => us_s fun _ => us_s fun _ => us_0 rfl | exact us_s fun _ => us_s fun _ => us_s fun _ => us_s fun _ => us_0 rfl | exact us_0 rfl | exact us_s fun _ => us_s fun _ => us_s fun _ => us_s fun _ => us_s fun _ => us_0 rfl⟩) : FD P w K mg base (k + 1) x (spP K n (fP N.length m)) :=
 let ⟨f, fd, a, T⟩ := h
 ⟨⟨f, fd, _, fnP_ok T d.sc d.len d.le fun cdv A outer s H E hr => b _ cdv A outer s H E hr d.sc.nd, W.mg_of X G a, T.kp, T.binds d.bs⟩⟩
theorem fdM (X : K.In hp) (G : hp.Ns mainGlobals mg) (h : FnAt K x st) (b : Bd P w K mg base x st N k m) (d : DefOk x st N n := by exact ⟨⟨rfl, rfl, rfl, by decide +kernel, rfl, by decide +kernel, by decide +kernel⟩, rfl, by decide, fun _ _ _ _ _ _ => by first | exact us_s fun _ => us_0 rfl | exact us_s fun _ => us_s fun _ => us_0 rfl | exact us_s fun _ => us_s fun _ => us_s fun _ => us_0 rfl | exact us_s fun _ => us_s fun _ => us_s fun _ => us_s fun _ => us_0 rfl | exact us_0 rfl | exact us_s fun _ => us_s fun _ => us_s fun _ => us_s fun _ => us_s fun _ => us_0 rfl⟩) : FD P w K mg base (k + 1) x (spM K n (fM N.length m)) :=
 let ⟨f, fd, a, T⟩ := h
 ⟨⟨f, fd, _, fnM_ok T d.sc d.len d.le fun cdv A outer s H E hr => b _ cdv A outer s H E hr d.sc.nd, W.mg_of X G a, T.kp, T.binds d.bs⟩⟩
theorem fdMT (X : K.In hp) (G : hp.Ns mainGlobals mg) (h : FnAt K x st) (b : Bd P w K mg base x st N k m) (d : DefOk x st N n := by exact ⟨⟨rfl, rfl, rfl, by decide +kernel, rfl, by decide +kernel, by decide +kernel⟩, rfl, by decide, fun _ _ _ _ _ _ => by first | exact us_s fun _ => us_0 rfl | exact us_s fun _ => us_s fun _ => us_0 rfl | exact us_s fun _ => us_s fun _ => us_s fun _ => us_0 rfl | exact us_s fun _ => us_s fun _ => us_s fun _ => us_s fun _ => us_0 rfl | exact us_0 rfl | exact us_s fun _ => us_s fun _ => us_s fun _ => us_s fun _ => us_s fun _ => us_0 rfl⟩) : FD P w K mg base (k + 1) x (spMT K n (fMT N.length m)) :=
 let ⟨f, fd, a, T⟩ := h
 ⟨⟨f, fd, _, fnMT_ok T d.sc d.len d.le fun cdv A outer s H E hr => b _ cdv A outer s H E hr d.sc.nd, W.mg_of X G a, T.kp, T.binds d.bs⟩⟩
end
variable {P : Program} {w : World} {H G : Hp} {h : Heap} {a b : Addr} {o : Obj} {xs : List (List L2.Key × Addr × Value)} {ks : List (List Int)} {ys : List (List L2.Key × V)}
noncomputable def Sl.dit : Sl -> Option (List (List Int) × List D)
 | .tre (.dit ks ds) => some (ks, ds)
 | .ptr (.dit ks ds) => some (ks, ds)
 | .val (.dit ks ds) => some (ks, ds)
 | _ => none
end M
namespace HT
open PySem PySem.Spec
open Sem (wp)
variable {a t it : Addr} {i : Int} {Q : Value -> Shared -> Prop} {prog : Program} {w : World} {A : Around}
theorem zgU : typeLookup (.type "tuple") "__reversed__" = pure none := by rw [typeLookup_type, builtinLookup_eq_fast]; kernel_rfl
theorem zjO : Manifest.owners.lookup (String.ofList ['d', 'e', 's', 'r', 'e', 'v', 'e', 'r'].reverse) = some Manifest.sig_reversed := by kernel_rfl
theorem slot_rv_next : Slot "reversed" "__next__" "reversed.__next__" :=
 .of (owner := "reversed") (n := "__next__") (by rw [typeLookup_type, builtinLookup_eq_fast]; kernel_rfl) (by decide +kernel) (by decide +kernel) (by decide +kernel)
  (by first | exact .inl (by decide +kernel) | exact .inr (by decide +kernel)) (by rw [isSubtype_type]; kernel_rfl)
theorem zhc : entryFor table "reversed.__next__" = some Builtin.«reversed.__next__» := entryFor_of_tree (by kernel_rfl)
theorem zgc (a : Value) : argsOk "reversed.__next__" ⟨[a], []⟩ := by
 unfold argsOk; rw [signature?_of (id := "reversed.__next__") (n := ['_', '_', 't', 'x', 'e', 'n', '_', '_']) (o := ['d', 'e', 's', 'r', 'e', 'v', 'e', 'r']) (by kernel_rfl) zjO]; kernel_rfl
theorem zib : Slot "reversed" "__iter__" "reversed.__iter__" :=
 .of (owner := "reversed") (n := "__iter__") (by rw [typeLookup_type, builtinLookup_eq_fast]; kernel_rfl) (by decide +kernel) (by decide +kernel) (by decide +kernel)
  (by first | exact .inl (by decide +kernel) | exact .inr (by decide +kernel)) (by rw [isSubtype_type]; kernel_rfl)
theorem zi5 (a : Value) : argsOk "reversed.__iter__" ⟨[a], []⟩ := by
 unfold argsOk; rw [signature?_of (id := "reversed.__iter__") (n := ['_', '_', 'r', 'e', 't', 'i', '_', '_']) (o := ['d', 'e', 's', 'r', 'e', 'v', 'e', 'r']) (by kernel_rfl) zjO]; kernel_rfl
theorem zkq : entryFor table "reversed.__iter__" = some Builtin.«dict_keyiterator.__iter__» :=
 entryFor_alias (id' := "dict_keyiterator.__iter__") (by kernel_rfl) (by first | rfl | decide +kernel | (unfold String.splitOn; simp +decide [String.splitOnAux])) (by decide +kernel) (by kernel_rfl)
theorem slot_rv_hint : Slot "reversed" "__length_hint__" "reversed.__length_hint__" :=
 .of (owner := "reversed") (n := "__length_hint__") (by rw [typeLookup_type, builtinLookup_eq_fast]; kernel_rfl) (by decide +kernel) (by decide +kernel) (by decide +kernel)
  (by first | exact .inl (by decide +kernel) | exact .inr (by decide +kernel)) (by rw [isSubtype_type]; kernel_rfl)
theorem zjS : entryFor table "reversed.__length_hint__" = some Builtin.«reversed.__length_hint__» := entryFor_of_tree (by kernel_rfl)
theorem zi8 (a : Value) : argsOk "reversed.__length_hint__" ⟨[a], []⟩ := by
 unfold argsOk; rw [signature?_of (id := "reversed.__length_hint__") (n := ['_', '_', 't', 'n', 'i', 'h', '_', 'h', 't', 'g', 'n', 'e', 'l', '_', '_']) (o := ['d', 'e', 's', 'r', 'e', 'v', 'e', 'r']) (by kernel_rfl) zjO]; kernel_rfl
theorem zpc : typeLookup (.type "reversed") "__len__" = pure none := by rw [typeLookup_type, builtinLookup_eq_fast]; kernel_rfl
noncomputable def revT (t : Addr) (i : Int) : Obj := { cls := .type "reversed", data := .fields #[.ref t, rawInt i] }
noncomputable def IsRv (h : Heap) (a t : Addr) (i : Int) : Prop := ∃ o, h.get? a = some o /\ o.cls = .type "reversed" /\ o.data = .fields #[.ref t, rawInt i]
section
variable {prog : Program} {w : World} {A : Around} {E : Value -> Shared -> Prop} {s : Shared}
theorem IsRv.typeIs (x : IsRv s.heap a t i) : s.TypeIs (.ref a) "reversed" := let ⟨o, ho, hc, _⟩ := x; ⟨o, ho, hc⟩
theorem IsRv.at {h h' : Heap} {a l : Addr} (x : IsRv h a l i) (e : ∀ o, h.get? a = some o -> h'.get? a = some o) : IsRv h' a l i := let ⟨o, ho, r⟩ := x; ⟨o, e _ ho, r⟩
end
theorem zlv : Slot "reversed" "__init__" "object.__init__" :=
 .of (owner := "object") (n := "__init__") (by rw [typeLookup_type, builtinLookup_eq_fast]; kernel_rfl) (by decide +kernel) (by decide +kernel) (by decide +kernel)
  (by first | exact .inl (by decide +kernel) | exact .inr (by decide +kernel)) (by rw [isSubtype_type]; kernel_rfl)
theorem znW : TypeCalled "reversed" "reversed.__new__" "object.__init__" :=
 ⟨by decide +kernel, by decide +kernel, ⟨_, _, F.mro_reversed⟩, F.made_reversed, by decide +kernel, by rw [isSubtype_type]; kernel_rfl, zlv⟩
theorem zjf {items : Array Value} :
  Meets (Builtin.«reversed.__new__» ⟨[.type "reversed", .ref t], []⟩)
   (fun A R s => s.heap.IsTuple t items /\ items.size <= sizeLine /\ ∀ tk, R (.ok (.ret (.ref s.heap.objs.size))) { s with heap := s.heap.push (revT t ((items.size : Int) - 1)), toks := tk }) :=
 .of_wp fun prog w A R s h => by
  obtain ⟨ht, hz, h⟩ := h
  have hz2 : (items.size : Int) < 2 ^ 63 := by rw [sizeLine_eq] at hz; lia
  unfold Builtin.«reversed.__new__»
  refine wpAny_bind (wpAny_of_eq (newClass_reversed _) ?_)
  try dsimp only
  refine wpAny_bind (wpAny_of_eq (a := ()) (by first | rfl | kernel_rfl) ?_)
  refine wpAny_bind (wpAny_of_eq (a := ()) (by first | rfl | kernel_rfl) ?_)
  try dsimp only
  refine wpAny_bind (wpAny_specialOf ht.typeIs zgU ?_)
  try dsimp only
  refine wpAny_bind ?_
  wp_delta
  refine wpAny_bind (wpAny_isInstance (T := "tuple") (b := false) ht.typeIs (by rw [isSubtype_type]; kernel_rfl) ?_)
  try dsimp only
  rw [if_neg (by decide)]
  refine wpAny_bind (wpAny_specialOf (name := Str.ofString "__getitem__") ht.typeIs PyProof.Rows.slot_tuple_getitem.lookup ?_)
  try dsimp only
  rw [if_pos (by decide +kernel)]
  refine wpAny_pure ?_
  rw [if_neg (by decide)]
  refine wpAny_bind (PyProof.Rows.len_tuple (show PyProof.Rows.IsTup s.heap t items from ht) hz2 ?_)
  refine wpAny_bind (m := asInt? _) (wpAny_pure ?_)
  try dsimp only
  refine wpAny_bind ?_
  unfold Builtin.SmallTypes.newRecord
  refine wpAny_newObj_type ?_ (by size_fits)
  exact wpAny_pure ⟨_, rfl, h _⟩
section
variable {prog : Program} {w : World} {A : Around} {E : Value -> Shared -> Prop} {s : Shared}
theorem zgP {items : Array Value} (ht : s.heap.IsTuple t items) (hz : items.size <= sizeLine)
  (h : ∀ tk, Q (.ref s.heap.objs.size) { s with heap := s.heap.push (revT t ((items.size : Int) - 1)), toks := tk }) : wpAny (model prog w) A (call (.type "reversed") [.ref t]) Q E s :=
 callType_new znW (by decide) (F.typeCall_reversed_1 _) (F.newCall_reversed_1 _) (fun obj => F.args_object_init_2 obj _) F.entry_reversed_new
  zjf ⟨ht, hz, fun tk => ⟨⟨_, Heap.get?_push_size _ rfl, rfl⟩, h tk⟩⟩
theorem zk5 {i : Nat} {items : Array Value} {x : Value} {Q : Option Value -> Shared -> Prop} (hit : IsRv s.heap it t (i : Int)) (ht : s.heap.IsTuple t items) (hz : items.size <= sizeLine) (hx : items[i]? = some x)
  (hQ : ∀ h' tk, IsRv h' it t ((i : Int) - 1) -> Heap.SameBut it s.heap h' -> Q (some x) { s with heap := h', toks := tk }) : wpAny (model prog w) A (pyNext (.ref it)) Q E s := by
 obtain ⟨o, ho, hc, hd⟩ := id hit
 unfold pyNext
 refine wpAny_bind (wpAny_attempt (wpAny_callSpecial?_slot (name := Str.ofString "__next__") hit.typeIs slot_rv_next
  (wpAny_call_entry slot_rv_next hit.typeIs zhc ?_ (zgc _))))
 unfold Builtin.«reversed.__next__»
 refine wpAny_bind (wpAny_of_eq (a := (Value.ref it, [])) rfl ?_)
 try dsimp only
 refine wpAny_bind (wpAny_field ho hd (x := .ref t) rfl ?_)
 refine wpAny_bind (wpAny_field ho hd (x := rawInt (i : Int)) rfl ?_)
 show wpAny _ _ (if (i : Int) < 0 then _ else _) _ _ s
 rw [if_neg (by lia)]
 refine wpAny_bind (wpAny_specialOf (name := Str.ofString "__getitem__") ht.typeIs PyProof.Rows.slot_tuple_getitem.lookup ?_)
 try dsimp only
 rw [if_neg (by decide)]
 refine wpAny_bind (wpAny_mkInt ?_)
 have hi : i < items.size := by
  rcases Nat.lt_or_ge i items.size with h | h
  ·exact h
  ·rw [Array.getElem?_eq_none h] at hx; cases hx
 refine wpAny_bind (wpAny_attempt (PyProof.Rows.getItem_tuple (j := i) (x := x) (show PyProof.Rows.IsTup s.heap t items from ht) (by lia) (by rw [sizeLine_eq] at hz; lia) (by unfold seqIndex?; simp; lia) hx ?_))
 try dsimp only
 refine wpAny_bind (wpAny_field ho hd (x := rawInt (i : Int)) rfl ?_)
 try dsimp only
 refine wpAny_bind (wpAny_setField ho hd (by simp) ?_)
 refine wpAny_pure ⟨x, rfl, wpAny_pure (hQ _ _ ?_ (Heap.SameBut.update ..))⟩
 exact ⟨_, Heap.get?_update_self _ ho (Obj.isFreed_of_fields (Obj.data_mapFields hd _)), (Obj.cls_mapFields ..).trans hc, by
  rw [Obj.data_mapFields hd]; simp⟩
theorem zlU {Q : Option Value -> Shared -> Prop} (hh : A.handled = none) (hit : IsRv s.heap it t (-1))
  (hQ : ∀ h', Heap.ExtBut it s.heap h' -> Q none { s with heap := h' }) : wpAny (model prog w) A (pyNext (.ref it)) Q E s := by
 obtain ⟨o, ho, hc, hd⟩ := id hit
 unfold pyNext
 refine wpAny_bind (wpAny_attempt (wpAny_callSpecial?_slot (name := Str.ofString "__next__") hit.typeIs slot_rv_next
  (wpAny_call_entry slot_rv_next hit.typeIs zhc ?_ (zgc _))))
 unfold Builtin.«reversed.__next__»
 refine wpAny_bind (wpAny_of_eq (a := (Value.ref it, [])) rfl ?_)
 try dsimp only
 refine wpAny_bind (wpAny_field ho hd (x := .ref t) rfl ?_)
 refine wpAny_bind (wpAny_field ho hd (x := rawInt (-1)) rfl ?_)
 show wpAny _ _ (if (-1 : Int) < 0 then _ else _) _ _ s
 rw [if_pos (by decide)]
 refine wpAny_bind (wpAny_rule ?_)
 refine wpAny_bind ?_
 wp_delta
 refine wpAny_bind (wpAny_setField ho hd (by simp) ?_)
 have ho2 := Heap.get?_update_self (Obj.mapFields fun x => x.setIfInBounds 1 (rawInt (-1))) ho (Obj.isFreed_of_fields (Obj.data_mapFields hd _))
 have hd2 := Obj.data_mapFields hd fun x => x.setIfInBounds 1 (rawInt (-1))
 refine wpAny_setField ho2 hd2 (by simp) ?_
 first
 | show wpAny _ _ (newExc (.type "StopIteration") [] >>= _) _ _ _
 | (refine wpAny_bind ?_; show wpAny _ _ (newExc (.type "StopIteration") [] >>= _) _ _ _)
 refine wpAny_bind ?_
 simp only [newExc, newTuple]
 refine wpAny_bind (wpAny_newObj_type ?_ (by size_fits))
 refine wpAny_bind (m := firstArgMember _ _) (wpAny_of_eq (a := Value.none) (by first | rfl | (simp only [firstArgMember]; rfl)) ?_)
 refine wpAny_newObj_type ?_ (by size_fits)
 simp only [raiseNew]
 refine wpAny_bind (wpAny_handled ?_)
 first | rw [show A.in1.handled = none from hh] | rw [hh]
 refine wpAny_bind (wpAny_pure (wpAny_throw ?_))
 refine wpAny_bind (wpAny_isInstance (T := "StopIteration") (b := true) ⟨_, Heap.get?_push_size _ rfl, rfl⟩ isSubtype_stop ?_)
 refine wpAny_pure (hQ _ ((Heap.ExtBut.push (Heap.ExtBut.push ?_ _) _)))
 exact fun b o' hb e => (Heap.get?_update_other _ _ (Ne.symm hb)).trans ((Heap.get?_update_other _ _ (Ne.symm hb)).trans e)
theorem znO (hit : IsRv s.heap it t i) (h : Q (.ref it) s) : wpAny (model prog w) A (pyIter (.ref it)) Q E s := by
 refine wpAny_pyIter_slot hit.typeIs zib (wpAny_call_entry zib hit.typeIs zkq ?_ (zi5 _))
 show wpAny _ _ (ret (.ref it)) _ _ s
 exact wpAny_pure ⟨_, rfl, "reversed", _, hit.typeIs, slot_rv_next.lookup, h⟩
theorem zlr {i : Nat} {items : Array Value} (hit : IsRv s.heap it t ((items.size : Int) - 1)) (ht : s.heap.IsTuple t items) (hz : items.size <= sizeLine)
  (h : ∀ u tk, Q (.int items.size u) { s with toks := tk }) : wpAny (model prog w) A (call (.builtin "reversed.__length_hint__") [.ref it]) Q E s := by
 have hz2 : (items.size : Int) < 2 ^ 63 := by rw [sizeLine_eq] at hz; lia
 obtain ⟨o, ho, hc, hd⟩ := id hit
 refine wpAny_call_entry slot_rv_hint hit.typeIs zjS ?_ (zi8 _)
 unfold Builtin.«reversed.__length_hint__»
 refine wpAny_bind (wpAny_of_eq (a := Value.ref it) (by first | rfl | kernel_rfl) ?_)
 refine wpAny_bind (wpAny_field ho hd (x := .ref t) rfl ?_)
 rw [if_neg (show ¬ ((Value.ref t == Value.none) = true) from Bool.false_ne_true)]
 refine wpAny_bind (PyProof.Rows.len_tuple (show PyProof.Rows.IsTup s.heap t items from ht) hz2 ?_)
 refine wpAny_bind (m := asInt? _) (wpAny_pure ?_)
 try dsimp only
 refine wpAny_bind (wpAny_field (s := { s with toks := s.toks + 1 + 1 }) ho hd (x := rawInt ((items.size : Int) - 1)) rfl ?_)
 show wpAny _ _ (if (items.size : Int) < (items.size : Int) - 1 + 1 then _ else _) _ _ _
 rw [if_neg (by lia)]
 refine wpAny_bind (wpAny_mkInt (wpAny_pure ⟨_, rfl, ?_⟩))
 rw [show ((items.size : Int) - 1 + 1) = (items.size : Int) by lia]
 exact h _ _
theorem hint_rv {items : Array Value} {Q : Bool -> Shared -> Prop} (hit : IsRv s.heap it t ((items.size : Int) - 1)) (ht : s.heap.IsTuple t items) (hz : items.size <= sizeLine)
  (h : ∀ b tk, Q b { s with toks := tk }) : wpAny (model prog w) A (Builtin.List.listLengthHint (.ref it)) Q E s := by
 unfold Builtin.List.listLengthHint
 refine wpAny_bind (wpAny_specialOf hit.typeIs zpc ?_)
 try dsimp only
 refine wpAny_ite_split (fun hab => absurd hab (by decide +kernel)) (fun _ => ?_)
 refine wpAny_ite_split (fun hab => absurd hab (by decide +kernel)) (fun _ => ?_)
 refine wpAny_bind (wpAny_specialOf hit.typeIs slot_rv_hint.lookup ?_)
 generalize hid : ("reversed.__length_hint__" : String) = id0
 try dsimp only
 rw [show splitId id0 = some ("reversed", "__length_hint__") from by subst hid; decide +kernel]
 subst hid
 try dsimp only
 refine wpAny_bind (wpAny_isInstance (T := "reversed") (b := true) hit.typeIs (by rw [isSubtype_type]; kernel_rfl) ?_)
 refine wpAny_ite_split (fun hab => absurd hab (by decide)) (fun _ => ?_)
 refine wpAny_ite_split (fun hab => absurd hab (by decide +kernel)) (fun _ => ?_)
 refine wpAny_bind (wpAny_rule ?_)
 refine wpAny_bind (wpAny_of_eq (slot_rv_hint.bind _) ?_)
 try dsimp only
 refine wpAny_bind (wpAny_attempt (zlr (i := 0) hit ht hz fun u tk => ?_))
 try dsimp only
 rw [show asInt? (Value.int ((items.size : Nat) : Int) u) = pure (some ((items.size : Nat) : Int)) from rfl]
 simp only [pure_bind]
 have z2 : items.size < 9223372036854775808 := by rw [sizeLine_eq] at hz; lia
 rw [if_neg (by
  have : Builtin.List.listFitsIndex ((items.size : Nat) : Int) = true := by
   unfold Builtin.List.listFitsIndex
   rw [decide_eq_true (by lia), decide_eq_true (by lia)]; rfl
  rw [this]; decide), if_neg (by lia), if_neg (by
  have : Builtin.List.listTooLong ((items.size : Nat) : Int).toNat = false := by
   unfold Builtin.List.listTooLong
   rw [Int.toNat_natCast]
   exact decide_eq_false (by lia)
  rw [this]; decide)]
 exact wpAny_pure (h _ _)
end
theorem Walks.rv (hh : A.handled = none) (I t : Addr) (hne : t ≠ I) (items : Array Value) (hz : items.size <= sizeLine) :
  Walks prog w A I [I, t] [I] items.size (fun i v => items[items.size - 1 - i]? = some v) (fun i h => i <= items.size /\ IsRv h I t ((items.size : Int) - 1 - (i : Int)) /\ h.IsTuple t items) where
 sub := fun b hb => by simp at hb; simp [hb]
 frame := fun _ _ _ x hk => ⟨x.1, x.2.1.at fun o e => hk I (by simp) o e, let ⟨o, ho, r⟩ := x.2.2; ⟨o, hk t (by simp) o ho, r⟩⟩
 item := fun i s Q E hi x hQ => by
  have e : (items.size : Int) - 1 - (i : Int) = ((items.size - 1 - i : Nat) : Int) := by lia
  have hit := x.2.1
  rw [e] at hit
  have hx : items[items.size - 1 - i]? = some (items[items.size - 1 - i]'(by lia)) := Array.getElem?_eq_getElem (by lia)
  refine zk5 hit x.2.2 hz hx fun h' tk hit' hs' => ?_
  have e2 : ((items.size - 1 - i : Nat) : Int) - 1 = (items.size : Int) - 1 - ((i + 1 : Nat) : Int) := by lia
  rw [e2] at hit'
  exact hQ _ h' tk hx ⟨hi, hit', let ⟨o, ho, r⟩ := x.2.2; ⟨o, (hs'.2 t hne).trans ho, r⟩⟩ fun b o hb eo => hs'.extBut b o (fun h => hb (by simp [h])) eo
 done := fun s Q E x hQ => by
  have e : (items.size : Int) - 1 - (items.size : Int) = -1 := by lia
  have hit := x.2.1
  rw [e] at hit
  exact zlU hh hit fun h' he' => hQ h' s.toks fun b o hb eo => he' b o (fun h => hb (by simp [h])) eo
 self := fun _ _ _ _ x hQ => znO x.2.1 hQ
section
variable {prog : Program} {w : World} {A : Around} {E : Value -> Shared -> Prop} {s : Shared}
theorem zol {R : Result -> Shared -> Prop} {t I : Addr} {items : Array Value} (hh : A.handled = none) (ht : s.heap.IsTuple t items) (hit : IsRv s.heap I t ((items.size : Int) - 1)) (hne : t ≠ I) (hz : items.size <= sizeLine)
  (S : Addr) (res : Value) (c₀ : Nat) (hS : s.heap.get? S = some { cls := .type "list", data := .seq #[] c₀ }) (hSt : S ≠ t) (hSI : S ≠ I)
  (hR : ∀ h' tk acc' c', (∀ b o, b ≠ S -> b ≠ I -> s.heap.get? b = some o -> h'.get? b = some o) -> h'.get? S = some { cls := .type "list", dict := none, data := .seq acc' c', slots := #[] } ->
   ItemsOf (fun i v => items[items.size - 1 - i]? = some v) acc' items.size -> R (.ok (.ret res)) { s with heap := h', toks := tk }) :
  wpAny (model prog w) A.in1 (Builtin.List.listExtendWith (.ref S) (.ref I) res)
   (fun fin s' => match fin with | .done f => R (.ok f) s' | .again c' => c'.quiet = true /\ codeAny (model prog w) A c' R s') (fun e s' => R (.error e) s') s := by
 have hSf : S ∉ [I, t] := fun hm => by
  rcases List.mem_cons.mp hm with e | hm
  ·exact hSI e
  ·exact hSt (List.mem_singleton.mp hm)
 have W := (Walks.rv (prog := prog) (w := w) (A := A.in1) hh I t hne items hz).toS
 have key : ∀ (h : Heap) (c₁ tk : Nat), (∀ b o, b ≠ S -> s.heap.get? b = some o -> h.get? b = some o) ->
   h.get? S = some { cls := .type "list", data := .seq #[] c₁ } -> codeAny (model prog w) A (.builtin "list.extend.loop" ⟨[.ref S, .ref I, res], []⟩) R { s with heap := h, toks := tk } := by
  intro h c₁ tk hk hS₁
  have st0 : 0 <= items.size /\ IsRv h I t ((items.size : Int) - 1 - ((0 : Nat) : Int)) /\ h.IsTuple t items := by
   refine ⟨Nat.zero_le _, ?_, let ⟨o, ho, r⟩ := ht; ⟨o, hk t o (Ne.symm hSt) ho, r⟩⟩
   rw [show (items.size : Int) - 1 - ((0 : Nat) : Int) = (items.size : Int) - 1 by lia]
   exact hit.at fun o e => hk I o (Ne.symm hSI) e
  refine codeAny_extend_loopS W hz S hSf res items.size 0 _ #[] c₁ rfl (Nat.zero_le _) st0 hS₁ (ItemsOf.nil _) fun s' acc' c' hm hS' hacc => ?_
  rw [Moved.eq_with hm]
  refine hR s'.heap s'.toks acc' c' (fun b o hb hbI e => hm.heap b o (fun hmem => ?_) (hk b o hb e)) hS' hacc
  rcases List.mem_cons.mp hmem with e' | hmem
  ·exact hb e'
  ·exact hbI (List.mem_singleton.mp hmem)
 unfold Builtin.List.listExtendWith
 refine wpAny_bind (wpAny_typeOf hit.typeIs ?_)
 have h1 : Builtin.List.listSameRef (.ref S) (.ref I) = false := by simp [Builtin.List.listSameRef, hSI]
 have h2 : (Value.type "reversed" == Value.type "list") = false := by decide
 have h3 : (Value.type "reversed" == Value.type "tuple") = false := by decide
 simp only [h1, h2, h3, Bool.or_false, Bool.false_eq_true, if_false]
 refine wpAny_bind (znO hit ?_)
 refine wpAny_bind (wpAny_holding (hint_rv hit ht hz fun b tk => ?_))
 refine wpAny_ite_split (fun _ => ?_) (fun _ => wpAny_pure ⟨plainId_quiet F.plain_extend_loop _, key _ c₀ _ (fun b o _ e => e) hS⟩)
 refine wpAny_bind (wpAny_rule ?_)
 refine wpAny_bind ?_
 show wpAny _ _ (updateSeq S (·.push .none) >>= fun _ => updateSeq S (·.pop)) _ _ _
 refine wpAny_bind (wpAny_updateSeq hS rfl ?_)
 have hS₂ := Heap.get?_update_self (Obj.mapSeq (·.push Value.none)) hS rfl
 refine wpAny_updateSeq (hz := by seq_fits) hS₂ rfl ?_
 have hS₃ := Heap.get?_update_self (Obj.mapSeq (·.pop)) hS₂ rfl
 refine wpAny_pure ⟨plainId_quiet F.plain_extend_loop _, key _ _ _ (fun b o hb e => ?_) hS₃⟩
 exact (Heap.get?_update_other _ _ (Ne.symm hb)).trans ((Heap.get?_update_other _ _ (Ne.symm hb)).trans e)
end
end HT
namespace HT
open PySem PySem.Spec
section
variable {prog : Program} {w : World} {A : Around} {E : Value -> Shared -> Prop} {s : Shared}
noncomputable abbrev RvI (items : Array Value) (i : Nat) (v : Value) : Prop := items[items.size - 1 - i]? = some v
theorem init_rv {R : Result -> Shared -> Prop} {t I : Addr} {items : Array Value} (hh : A.handled = none) (ht : s.heap.IsTuple t items) (hit : IsRv s.heap I t ((items.size : Int) - 1)) (hne : t ≠ I) (hz : items.size <= sizeLine)
  (S : Addr) (hS : s.heap.get? S = some { cls := .type "list", data := .seq #[] }) (hSt : S ≠ t) (hSI : S ≠ I)
  (hR : ∀ h' tk acc' c', (∀ b o, b ≠ S -> b ≠ I -> s.heap.get? b = some o -> h'.get? b = some o) -> h'.get? S = some { cls := .type "list", dict := none, data := .seq acc' c', slots := #[] } ->
   ItemsOf (RvI items) acc' items.size -> R (.ok (.ret .none)) { s with heap := h', toks := tk }) :
  wpAny (model prog w) A.in1 (Builtin.«list.__init__» ⟨[.ref S, .ref I], []⟩)
   (fun fin s' => match fin with | .done f => R (.ok f) s' | .again c' => c'.quiet = true /\ codeAny (model prog w) A c' R s') (fun e s' => R (.error e) s') s := by
 show wpAny _ _ (do let old <- Builtin.List.listItems (.ref S); Builtin.List.listUpdate (.ref S) (fun _ => #[]); letGo old.toList.reverse; Builtin.List.listExtendWith (.ref S) (.ref I) .none) _ _ s
 refine wpAny_bind ?_
 unfold Builtin.List.listItems
 refine wpAny_bind (wpAny_seqItems hS rfl (wpAny_pure ?_))
 show wpAny _ _ (updateSeq S (fun _ => #[]) >>= fun _ => letGo (#[] : Array Value).toList.reverse >>= fun _ => Builtin.List.listExtendWith (.ref S) (.ref I) .none) _ _ s
 refine wpAny_bind (wpAny_updateSeq hS rfl ?_)
 have hS₂ := Heap.get?_update_self (Obj.mapSeq (fun _ => (#[] : Array Value))) hS rfl
 have oth : ∀ b o, b ≠ S -> s.heap.get? b = some o -> (s.heap.update S (Obj.mapSeq (fun _ => (#[] : Array Value)))).get? b = some o :=
  fun b o hb e => (Heap.get?_update_other _ _ (Ne.symm hb)).trans e
 refine wpAny_bind (wpAny_letGo ?_)
 refine zol hh (let ⟨o, ho, r⟩ := ht; ⟨o, oth t o (Ne.symm hSt) ho, r⟩) (hit.at fun o e => oth I o (Ne.symm hSI) e) hne hz S .none _ hS₂ hSt hSI fun h' tk acc' c' hk hS' hacc => ?_
 exact hR h' tk acc' c' (fun b o hb hI e => hk b o hb hI (oth b o hb e)) hS' hacc
theorem zlb {Q : Value -> Shared -> Prop} {t I : Addr} {items : Array Value} (hh : A.handled = none) (ht : s.heap.IsTuple t items) (hit : IsRv s.heap I t ((items.size : Int) - 1)) (hne : t ≠ I) (hz : items.size <= sizeLine)
  (hQ : ∀ h' tk acc' c', (∀ b o, b ≠ I -> s.heap.get? b = some o -> h'.get? b = some o) ->
   h'.get? s.heap.objs.size = some { cls := .type "list", dict := none, data := .seq acc' c', slots := #[] } -> ItemsOf (RvI items) acc' items.size -> Q (.ref s.heap.objs.size) { s with heap := h', toks := tk }) :
  wpAny (model prog w) A (call (.type "list") [.ref I]) Q E s := by
 refine callType_codes (Q₁ := fun obj s₁ => obj = .ref s.heap.objs.size /\ s₁ = { s with heap := s.heap.push { cls := .type "list", data := .seq #[] } }) F.called_list (F.typeCall_list_1 _) F.entry_list_init
  (code_list_new _ ⟨rfl, rfl⟩) fun obj s₁ h₁ => ?_
 obtain ⟨rfl, rfl⟩ := h₁
 have hS : (s.heap.push { cls := .type "list", data := .seq #[] }).get? s.heap.objs.size = some { cls := .type "list", data := .seq #[] } := Heap.get?_push_size _ rfl
 have lt : t < s.heap.objs.size := let ⟨o, ho, _⟩ := ht; Heap.lt_size ho
 have lI : I < s.heap.objs.size := let ⟨o, ho, _⟩ := hit; Heap.lt_size ho
 refine ⟨⟨_, hS, rfl⟩, F.args_list_init_2 _ _, init_rv (A := A.in1) hh (let ⟨o, ho, r⟩ := ht; ⟨o, Heap.get?_push_of_some _ ho, r⟩) (hit.at fun o e => Heap.get?_push_of_some _ e) hne hz _ hS (Ne.symm (Nat.ne_of_lt lt)) (Ne.symm (Nat.ne_of_lt lI)) fun h' tk acc' c' hk hS' hacc => ?_⟩
 exact ⟨rfl, hQ h' tk acc' c' (fun b o hI e => hk b o (Nat.ne_of_lt (Heap.lt_size e)) hI (Heap.get?_push_of_some _ e)) hS' hacc⟩
end
end HT
namespace M
open L2 PySem PySem.Spec
open PyProof.Rows hiding St
theorem rv_items {its : List Value} {xs : List V} (r : Vals xs its) {acc : Array Value} (h : ItemsOf (HT.RvI its.toArray) acc its.toArray.size) : acc.toList = its.reverse := by
 obtain ⟨h1, h2⟩ := h
 simp only [List.size_toArray] at h1
 apply List.ext_getElem?
 intro i
 by_cases hi : i < its.length
 ·have := h2 i (acc[i]'(by lia)) (Array.getElem?_eq_getElem (by lia))
  rw [List.getElem?_reverse hi, Array.getElem?_toList, Array.getElem?_eq_getElem (by lia)]
  simpa [HT.RvI] using this.symm
 ·rw [List.getElem?_eq_none (by simp; lia), List.getElem?_eq_none (by simp; lia)]
theorem Vals.rev {its : List Value} {xs : List V} (r : Vals xs its) : Vals xs.reverse its.reverse := by
 induction r with
 | nil => exact .nil
 | cons h _ ih => rw [List.reverse_cons, List.reverse_cons]; exact Vals.append ih (.cons h .nil)
noncomputable def tRv (te : TE) (mk : List V -> HO) : TE := fun σ H Q => te σ H fun x H1 => ∃ a xs, [x] = [V.ref a] /\ H1 a = some (.tup xs) /\ ∀ p, H1 p = none -> Q (.ref p) (upd H1 p (mk xs.reverse))
section
variable {X : Cx} {e : Expr} {te : TE} {p q pos pos' : Pos}
theorem rv_made (he : PE X e te) (hgr : Gl X "reversed") (mr : X.mg "reversed" = none)
  (h1 : starEach [e] X.env = (false, eval e X.env) :: starEach [] X.env) (h2 : (backTo pos' (starEach [] X.env)).any (·.1) = false)
  {pins : List (Addr × Obj)} {s : Shared} {σ : St} {H : Hp} {Q : VK} {mk : List V -> HO} (I : Inv X pins σ H s) (h : tRv te mk σ H Q) :
  wpAny (model X.prog X.w) X.A (eval (.Call (.Name "reversed" q) [e] [] pos') X.env) (fun u s2 => ∃ s1 H1 a xs its tk, Inv X pins σ H1 s1 /\ u = .ref s1.heap.objs.size /\ s2 = { s1 with heap := s1.heap.push (HT.revT a ((its.length : Int) - 1)), toks := tk } /\ Vals xs its /\ s1.heap.IsTuple a its.toArray /\ xs.length <= sizeLine /\ ∀ p, H1 p = none -> Q (.ref p) (upd H1 p (mk xs.reverse))) X.xe s := by
 refine wpAny_Call_Name_kw (zhF I hgr mr (show bootBuiltins "reversed" = some (.type "reversed") by decide +kernel) ?_ (by decide) (by decide))
 refine PyProof.Rows.callWith_type1 (thn ((zds he zjv h1) pos' pins s σ H (fun vs H1 => ∃ a xs, vs = [.ref a] /\ H1 a = some (.tup xs) /\ ∀ p, H1 p = none -> Q (.ref p) (upd H1 p (mk xs.reverse))) I ?_) fun us s1 ⟨vs, H1, I1, r1, q1⟩ => ?_) h1 h2
 ·exact h
 ·obtain ⟨a, xs, rfl, ha, q⟩ := q1
  obtain ⟨u, rfl, ru⟩ := zjL r1
  cases ru
  obtain ⟨its, r, ht, hz⟩ := I1.tuple (SqT.of ha)
  refine HT.zgP (items := its.toArray) ht (by rw [List.size_toArray, <- r.length]; exact hz) fun tk => ?_
  exact ⟨s1, H1, a, xs, its, tk, I1, rfl, by simp, r, ht, hz, q⟩
theorem znV (he : PE X e te) (hc : X.calm = true) (hg : Gl X "list") (ml : X.mg "list" = none) (hgr : Gl X "reversed") (mr : X.mg "reversed" = none)
  (h1 : starEach [e] X.env = (false, eval e X.env) :: starEach [] X.env) (h2 : (backTo pos' (starEach [] X.env)).any (·.1) = false)
  (h3 : starEach [.Call (.Name "reversed" q) [e] [] pos'] X.env = (false, eval (.Call (.Name "reversed" q) [e] [] pos') X.env) :: starEach [] X.env) (h4 : (backTo pos (starEach [] X.env)).any (·.1) = false) :
  PE X (.Call (.Name "list" p) [.Call (.Name "reversed" q) [e] [] pos'] [] pos) (tRv te .lst) := by
 intro pins s σ H Q I h
 refine wpAny_Call_Name_kw (zhF I hg ml (show bootBuiltins "list" = some (.type "list") by decide +kernel) ?_ (by decide) (by decide))
 refine PyProof.Rows.callWith_type1 ?_ h3 h4
 rw [h3]
 refine Calls.spliced_cons (thn (rv_made (mk := .lst) he hgr mr h1 h2 I h) fun u s2 ⟨s1, H1, a, xs, its, tk, I1, eu, es, r, ht, hz, q⟩ => ?_)
 subst eu es
 show wpAny _ _ (spliced []) _ _ _
 rw [spliced]
 refine wpAny_pure ?_
 have ha : a < s1.heap.objs.size := let ⟨o, ho, _⟩ := ht; Heap.lt_size ho
 have hz2 : its.toArray.size <= sizeLine := by rw [List.size_toArray, <- r.length]; exact hz
 refine HT.zlb (s := { s1 with heap := s1.heap.push (HT.revT a ((its.length : Int) - 1)), toks := tk }) (t := a) (items := its.toArray) (I1.ok.hd hc) (let ⟨o, ho, r⟩ := ht; ⟨o, Heap.get?_push_of_some _ ho, r⟩)
  ⟨_, Heap.get?_push_size _ rfl, rfl, by simp [HT.revT]⟩ (Nat.ne_of_lt ha) hz2 fun h' tk' acc c' hk hl hacc => ?_
 have ea := rv_items r hacc
 have I3 := I1.laid (h' := h') (t' := tk') (a := (s1.heap.push (HT.revT a ((its.length : Int) - 1))).objs.size) (o := .lst xs.reverse) (fun b o e => hk b o (Nat.ne_of_lt (Heap.lt_size e)) (Heap.get?_push_of_some _ e)) (by rw [Heap.size_push]; exact Nat.le_succ _)
  ⟨by rw [List.length_reverse]; exact hz, acc.toList, c', by rw [ea]; exact Vals.rev r, by simpa using hl⟩
 exact ⟨.ref _, _, I3, rfl, q _ (I1.hok.fresh (by rw [Heap.size_push]; exact Nat.le_succ _))⟩
end
noncomputable def eRvT (ma : ME) : ME := fun ρ => (ma ρ).bind fun p => match p.1 with
 | .tup ds => some (.tup ds.reverse, p.2)
 | _ => none
noncomputable def oRvL (ma : ME) : MO := fun ρ => (ma ρ).bind fun p => match p.1 with
 | .tup ds => some (ds.reverse, p.2)
 | _ => none
theorem ziE {X : Cx} {e : Expr} {ma : ME} {p q pos pos' : Pos} (ml : X.mg "list" = none) (mr : X.mg "reversed" = none) (he : SE X e ma) (hc : X.calm = true := by rfl) (hg : Gl X "list" := by rfl) (hgr : Gl X "reversed" := by rfl)
  (h1 : starEach [e] X.env = (false, eval e X.env) :: starEach [] X.env := by rfl) (h2 : (backTo pos' (starEach [] X.env)).any (·.1) = false := by rfl)
  (h3 : starEach [.Call (.Name "reversed" q) [e] [] pos'] X.env = (false, eval (.Call (.Name "reversed" q) [e] [] pos') X.env) :: starEach [] X.env := by rfl) (h4 : (backTo pos (starEach [] X.env)).any (·.1) = false := by rfl) :
  SO X (.Call (.Name "list" p) [.Call (.Name "reversed" q) [e] [] pos'] [] pos) (oRvL ma) := by
 obtain ⟨t, pa, sa⟩ := he
 refine ⟨_, znV pa hc hg ml hgr mr h1 h2 h3 h4, fun B G H σ ρ ds' ρ' Q I hm k => ?_⟩
 obtain ⟨⟨x, ρ1⟩, e1, hm⟩ := zah hm
 dsimp only at hm
 obtain ⟨ds, rfl⟩ : ∃ ds, x = .tup ds := by
  cases x <;> first | exact ⟨_, rfl⟩ | cases hm
 obtain ⟨rfl, rfl⟩ := Prod.mk.inj (Option.some.inj hm)
 refine sa B G H σ ρ _ ρ1 _ I e1 fun G1 H1 v I1 f1 r1 => ?_
 obtain ⟨a, xs, rfl, ha, r⟩ := I1.tup r1
 refine ⟨a, xs, rfl, ha, fun p hp => ?_⟩
 obtain ⟨I2, g2, h2, b2, n2⟩ := I1.newO hp xs.reverse
 exact k G1 _ p _ I2 f1 g2 h2 r.reverse b2 n2
noncomputable def fzDT (j : Nat) (ρ : R) : R := match ρ[j]? with
 | some (.tre (.dit ks ds)) => ρ.set j (.val (.dit ks ds))
 | _ => ρ
noncomputable def eCallU (F : List D -> Option Sl) (ma : MA) : ME := fun ρ => (ma ρ).bind fun p => (F p.1).bind fun r => match r with
 | .tre (.tup cs) => some (.tup (cs.map Ch.D), p.2)
 | _ => none
noncomputable def fzU (j : Nat) (ρ : R) : R := match ρ[j]? with
 | some (.tre (.tup cs)) => ρ.set j (.val (.tup (cs.map Ch.D)))
 | _ => ρ
noncomputable def turnT (g : D -> R -> Option R) (mt : MT) (mo : MO) : D -> R -> Option (Option (List D) × R) := fun d ρ => (g d ρ).bind fun ρ1 => (mt ρ1).bind fun p => if p.1 then (mo p.2).bind fun q => if zdu q.2 then some (some q.1, q.2) else none else if zdu p.2 then some (none, p.2) else none
noncomputable def rowsOf : List Ch -> Option (List (List D))
 | [] => some []
 | .l ds :: cs => (rowsOf cs).map (ds :: ·)
 | _ => none
noncomputable def zoY (b c : Nat) (ρ : R) : Bool := match ρ[b]?, ρ[c]? with
 | some (.par _), some (.par _) => zdu ((ρ.set b .emp).set c .emp)
 | _, _ => false
noncomputable def turnQ (b c : Nat) (g : D -> R -> Option R) (mt : MT) (me : ME) : D -> R -> Option (Option D × R) := fun d ρ => (g d ρ).bind fun ρ1 => (mt ρ1).bind fun p => if p.1 then (me p.2).bind fun q => if zoY b c q.2 then some (some q.1, q.2) else none else if zoY b c p.2 then some (none, p.2) else none
end M
namespace M
open L2 PySem
variable {c : Prop} {z : Bool} {Q : Fl × R -> Prop} {me m : ME} {b : MS} {f : D -> R -> Option (Option D × R)} {g : D -> R -> Option R} {mt : MT} {d : D} {ρ : R} {r : Sl} {i n j t N k : Nat} {h : List D -> R -> Option R} {ds : List D} {mi ma : MA} {F : List D -> Option Sl} {cap : List Nat} {I : R -> Prop} {ns : List Int}
structure Lock {α : Type} (Q : α -> Prop) : Type where
noncomputable def Ok {α : Type} (o : Option α) (Q : α -> Prop) (l : Lock Q := ⟨⟩) : Prop := ∃ a, o = some a /\ Q a
section
variable {α β : Type} {o : Option α} {Q Q' : α -> Prop}
theorem ok_some {a : α} : Ok (some a) Q ↔ Q a := ⟨fun ⟨_, e, q⟩ => by cases e; exact q, fun q => ⟨a, rfl, q⟩⟩
theorem ok_none : Ok (none : Option α) Q ↔ False := ⟨fun ⟨_, e, _⟩ => (by cases e), False.elim⟩
theorem ok_bind {f : α -> Option β} {Q : β -> Prop} : Ok (o.bind f) Q ↔ Ok o fun a => Ok (f a) Q := by
 cases o with
 | none => exact ⟨fun ⟨_, e, _⟩ => (by cases e), fun ⟨_, e, _⟩ => (by cases e)⟩
 | some a => exact ⟨fun h => ⟨a, rfl, h⟩, fun ⟨_, e, h⟩ => by cases e; exact h⟩
theorem ok_map {f : α -> β} {Q : β -> Prop} : Ok (o.map f) Q ↔ Ok o fun a => Q (f a) := by
 cases o with
 | none => exact ⟨fun ⟨_, e, _⟩ => (by cases e), fun ⟨_, e, _⟩ => (by cases e)⟩
 | some a => exact ⟨fun h => ⟨a, rfl, ok_some.mp h⟩, fun ⟨_, e, h⟩ => by cases e; exact ok_some.mpr h⟩
theorem ze8 [Decidable c] : Ok (if c then o else none) Q ↔ c /\ Ok o Q := by
 by_cases h : c
 ·rw [if_pos h]; exact ⟨fun k => ⟨h, k⟩, fun k => k.2⟩
 ·rw [if_neg h]; exact ⟨fun k => (ok_none.mp k).elim, fun k => absurd k.1 h⟩
theorem Ok.mono (h : Ok o Q) (k : ∀ a, Q a -> Q' a) : Ok o Q' := by obtain ⟨a, e, q⟩ := h; exact ⟨a, e, k a q⟩
theorem zaQ {Q' : α -> Prop} (h : ∀ a, Q a ↔ Q' a) : Ok o Q ↔ Ok o Q' := ⟨fun ⟨a, e, q⟩ => ⟨a, e, (h a).mp q⟩, fun ⟨a, e, q⟩ => ⟨a, e, (h a).mpr q⟩⟩
end
section
variable {c : MT} {a b : MS} {ρ : R}
theorem zlc {α : Type} {o u : Option α} {Q : α -> Prop} : Ok (if z then o else u) Q ↔ (z = true -> Ok o Q) /\ (z = false -> Ok u Q) := by cases z <;> simp
theorem ok_sIf : Ok (sIf c a b ρ) Q ↔ Ok (c ρ) fun p => (p.1 = true -> Ok (a p.2) Q) /\ (p.1 = false -> Ok (b p.2) Q) := by
 unfold sIf; rw [ok_bind]; exact zaQ fun p => zlc
theorem ok_eIf {a b : ME} {Q : D × R -> Prop} : Ok (eIf c a b ρ) Q ↔ Ok (c ρ) fun p => (p.1 = true -> Ok (a p.2) Q) /\ (p.1 = false -> Ok (b p.2) Q) := by
 unfold eIf; rw [ok_bind]; exact zaQ fun p => zlc
theorem ok_tAnd {a b : MT} {Q : Bool × R -> Prop} : Ok (tAndM a b ρ) Q ↔ Ok (a ρ) fun p => (p.1 = true -> Ok (b p.2) Q) /\ (p.1 = false -> Q (false, p.2)) := by
 unfold tAndM; rw [ok_bind]; exact zaQ fun p => by rw [zlc, ok_some]
theorem ok_tOr {a b : MT} {Q : Bool × R -> Prop} : Ok (tOrM a b ρ) Q ↔ Ok (a ρ) fun p => (p.1 = true -> Q (true, p.2)) /\ (p.1 = false -> Ok (b p.2) Q) := by
 unfold tOrM; rw [ok_bind]; exact zaQ fun p => by rw [zlc, ok_some]
theorem ok_eAnd {a b : ME} {Q : D × R -> Prop} : Ok (eAnd a b ρ) Q ↔ Ok (a ρ) fun p => ∃ z, p.1 = .bl z /\ (z = true -> Ok (b p.2) Q) /\ (z = false -> Q (.bl false, p.2)) := by
 unfold eAnd; rw [ok_bind]
 have : ∀ p : D × R, Ok (match p.1 with
  | .bl true => b p.2
  | .bl false => some (.bl false, p.2)
  | _ => none) Q ↔ ∃ z, p.1 = .bl z /\ (z = true -> Ok (b p.2) Q) /\ (z = false -> Q (.bl false, p.2)) := by
  rintro ⟨d, ρ⟩
  cases d with
  | bl z => cases z <;> simp [ok_some]
  | _ => simp [ok_none]
 exact zaQ this
theorem ok_eOr {a b : ME} {Q : D × R -> Prop} : Ok (eOr a b ρ) Q ↔ Ok (a ρ) fun p => ∃ z, p.1 = .bl z /\ (z = true -> Q (.bl true, p.2)) /\ (z = false -> Ok (b p.2) Q) := by
 unfold eOr; rw [ok_bind]
 have : ∀ p : D × R, Ok (match p.1 with
  | .bl true => some (.bl true, p.2)
  | .bl false => b p.2
  | _ => none) Q ↔ ∃ z, p.1 = .bl z /\ (z = true -> Q (.bl true, p.2)) /\ (z = false -> Ok (b p.2) Q) := by
  rintro ⟨d, ρ⟩
  cases d with
  | bl z => cases z <;> simp [ok_some]
  | _ => simp [ok_none]
 exact zaQ this
theorem ok_chain {f g : D -> D -> Option D} {a b c : ME} {Q : D × R -> Prop} : Ok (zdG f g a b c ρ) Q ↔ Ok (a ρ) fun p => Ok (b p.2) fun q => Ok (f p.1 q.1) fun t => ∃ z, t = .bl z /\ (z = true -> Ok (c q.2) fun r => Ok (g q.1 r.1) fun d => Q (d, r.2)) /\ (z = false -> Q (.bl false, q.2)) := by
 unfold zdG; rw [ok_bind]
 have : ∀ (p q : D × R) (t : D), Ok (match t with
  | .bl true => (c q.2).bind fun r => (g q.1 r.1).map fun d => (d, r.2)
  | .bl false => some (.bl false, q.2)
  | _ => none) Q ↔ ∃ z, t = .bl z /\ (z = true -> Ok (c q.2) fun r => Ok (g q.1 r.1) fun d => Q (d, r.2)) /\ (z = false -> Q (.bl false, q.2)) := by
  intro p q t
  cases t with
  | bl z =>
   cases z
   ·simp [ok_some]
   ·simp only [ok_bind, D.bl.injEq, exists_eq_left', forall_const, reduceCtorEq, false_implies, and_true]
    exact zaQ fun r => ok_map
  | _ => simp [ok_none]
 exact zaQ fun p => by rw [ok_bind]; exact zaQ fun q => by rw [ok_bind]; exact zaQ fun t => this p q t
theorem ok_turnM {Q : Option D × R -> Prop} : Ok (zm7 g mt me d ρ) Q ↔ Ok (g d ρ) fun ρ1 => Ok (mt ρ1) fun p => (p.1 = true -> Ok (me p.2) fun q => zdu q.2 = true /\ Q (some q.1, q.2)) /\ (p.1 = false -> zdu p.2 = true /\ Q (none, p.2)) := by
 unfold zm7; rw [ok_bind]; exact zaQ fun ρ1 => by rw [ok_bind]; exact zaQ fun p => by rw [zlc, ok_bind, ze8, ok_some]; exact and_congr (imp_congr Iff.rfl (zaQ fun q => by rw [ze8, ok_some])) Iff.rfl
theorem ok_turnP {bk : Nat} {Q : Option D × R -> Prop} : Ok (zm3 bk g mt me d ρ) Q ↔ Ok (g d ρ) fun ρ1 => Ok (mt ρ1) fun p => (p.1 = true -> Ok (me p.2) fun q => zlV bk q.2 = true /\ Q (some q.1, q.2)) /\ (p.1 = false -> zlV bk p.2 = true /\ Q (none, p.2)) := by
 unfold zm3; rw [ok_bind]; exact zaQ fun ρ1 => by rw [ok_bind]; exact zaQ fun p => by rw [zlc, ok_bind, ze8, ok_some]; exact and_congr (imp_congr Iff.rfl (zaQ fun q => by rw [ze8, ok_some])) Iff.rfl
theorem znr (n : Nat) : Int.natAbs (no_index (OfNat.ofNat n)) = n := rfl
end
section
theorem ok_sNext : Ok (zbo ρ) Q ↔ Q (.next, ρ) := ok_some
noncomputable def SeqK (b : MS) (Q : Fl × R -> Prop) (p : Fl × R) : Prop := Ok (match p.1 with
 | .next => b p.2
 | f => some (f, p.2)) Q
theorem zoF : SeqK b Q (.next, ρ) ↔ Ok (b ρ) Q := Iff.rfl
theorem seqK_ret : SeqK b Q (.ret r, ρ) ↔ Q (.ret r, ρ) := ok_some
theorem seqK_brk : SeqK b Q (.brk, ρ) ↔ Q (.brk, ρ) := ok_some
theorem zos : SeqK b Q (.cont, ρ) ↔ Q (.cont, ρ) := ok_some
theorem ok_sSeq {a b : MS} : Ok (sSeq a b ρ) Q ↔ Ok (a ρ) (SeqK b Q) := ok_bind
theorem ok_sRet : Ok (sRet m ρ) Q ↔ Ok (m ρ) fun p => Q (.ret (.val p.1), p.2) := ok_map
theorem ok_sRetO {m : MO} : Ok (zi9 m ρ) Q ↔ Ok (m ρ) fun p => Q (.ret (.own p.1), p.2) := ok_map
theorem ok_sRetV : Ok (zii i ρ) Q = Ok (match ρ[i]? with
 | some (.val d) => some (.ret (.val d), ρ)
 | some (.own ds) => some (.ret (.own ds), ρ.set i .emp)
 | _ => none) Q := rfl
theorem ok_gN {Q : R -> Prop} : Ok (gN i d ρ) Q ↔ Q (ρ.set i (.val d)) := ok_some
theorem ok_gsNil  {ds : List D} {ρ : R} {Q : R -> Prop} : Ok (zdS ds ρ) Q = Ok (match ds with
 | [] => some ρ
 | _ => none) Q := rfl
theorem znK {Q : R -> Prop} : Ok (zaH g h ds ρ) Q = Ok (match ds with
 | d :: ds => (g d ρ).bind fun ρ1 => h ds ρ1
 | [] => none) Q := rfl
theorem ok_gT {g : List D -> R -> Option R} {Q : R -> Prop} : Ok (gT n g d ρ) Q = Ok (match d with
 | .tup ds => if ds.length = n then g ds ρ else none
 | _ => none) Q := rfl
theorem ok_sAsg : Ok (sAsg m g ρ) Q ↔ Ok (m ρ) fun p => Ok (g p.1 p.2) fun ρ' => Q (.next, ρ') := ok_bind.trans (zaQ fun _ => ok_map)
theorem ok_sSet : Ok (sSet i m ρ) Q ↔ Ok (m ρ) fun p => Q (.next, p.2.set i (.val p.1)) := ok_map
theorem ok_sSetO {m : MO} : Ok (zeY i m ρ) Q ↔ Ok (m ρ) fun p => Q (.next, p.2.set i (.own p.1)) := ok_map
theorem ok_sApp : Ok (sApp i m ρ) Q = Ok (if (ρ[i]?.bind Sl.items).isSome then (m ρ).bind fun p => p.2[i]?.bind fun s => s.items.bind fun ds => if ds.length < 16777216 then some (.next, p.2.set i (s.put (ds ++ [p.1]))) else none else none) Q := rfl
theorem ok_sPut {mi me : ME} : Ok (sPut j mi me ρ) Q = Ok ((me ρ).bind fun p => if hasV p.2 j then (mi p.2).bind fun q => match q.1 with
 | .int k => q.2[j]?.bind fun s => s.items.bind fun ds => (ixN ds.length k).bind fun n => some (.next, q.2.set j (s.put (ds.set n p.1)))
 | _ => none else none) Q := rfl
theorem ok_eC {Q : D × R -> Prop} : Ok (eC d ρ) Q ↔ Q (d, ρ) := ok_some
theorem ok_eVar {Q : D × R -> Prop} : Ok (eVar i ρ) Q = Ok (match ρ[i]? with
 | some (.val d) => some (d, ρ)
 | some (.own ds) => some (.lst ds, ρ.set i (.val (.lst ds)))
 | _ => none) Q := rfl
theorem ok_aNil {Q : List D × R -> Prop} : Ok (aNil ρ) Q ↔ Q ([], ρ) := ok_some
theorem ok_aCons {r : MA} {Q : List D × R -> Prop} : Ok (zad m r ρ) Q ↔ Ok (m ρ) fun p => Ok (r p.2) fun q => Q (p.1 :: q.1, q.2) := ok_bind.trans (zaQ fun _ => ok_map)
theorem ok_m2 {f : D -> D -> Option D} {ma mb : ME} {Q : D × R -> Prop} : Ok (m2 f ma mb ρ) Q ↔ Ok (ma ρ) fun p => Ok (mb p.2) fun q => Ok (f p.1 q.1) fun d => Q (d, q.2) := ok_bind.trans (zaQ fun _ => ok_bind.trans (zaQ fun _ => ok_map))
theorem ok_m1 {f : D -> Option D} {ma : ME} {Q : D × R -> Prop} : Ok (m1 f ma ρ) Q ↔ Ok (ma ρ) fun p => Ok (f p.1) fun d => Q (d, p.2) := ok_bind.trans (zaQ fun _ => ok_map)
theorem ok_mC {f : List D -> Option D} {Q : D × R -> Prop} : Ok (mC f ma ρ) Q ↔ Ok (ma ρ) fun p => Ok (f p.1) fun d => Q (d, p.2) := ok_bind.trans (zaQ fun _ => ok_map)
theorem ok_eIxV {mi : ME} {Q : D × R -> Prop} : Ok (eIxV j mi ρ) Q = Ok (if hasV ρ j then (mi ρ).bind fun p => (p.2[j]?.bind Sl.read).bind fun d => (dIx d p.1).map fun e => (e, p.2) else none) Q := rfl
theorem ok_eLenV {Q : D × R -> Prop} : Ok (zdC j ρ) Q = Ok ((ρ[j]?.bind Sl.read).bind fun d => (dLen [d]).map fun e => (e, ρ)) Q := rfl
theorem ok_oC {f : List D -> Option (List D)} {Q : List D × R -> Prop} : Ok (oC f ma ρ) Q ↔ Ok (ma ρ) fun p => Ok (f p.1) fun d => Q (d, p.2) := ok_bind.trans (zaQ fun _ => ok_map)
theorem ok_eTup {Q : D × R -> Prop} : Ok (eTup ma ρ) Q ↔ Ok (ma ρ) fun p => p.1.length <= 16777216 /\ Q (.tup p.1, p.2) := ok_bind.trans (zaQ fun _ => by rw [ze8, ok_some])
theorem ok_oLst {Q : List D × R -> Prop} : Ok (oLst ma ρ) Q ↔ Ok (ma ρ) fun p => p.1.length <= 16777216 /\ Q (p.1, p.2) := ok_bind.trans (zaQ fun _ => by rw [ze8, ok_some])
theorem ok_tTru {ma : ME} {Q : Bool × R -> Prop} : Ok (tTru ma ρ) Q ↔ Ok (ma ρ) fun p => Ok (dTru p.1) fun b => Q (b, p.2) := ok_bind.trans (zaQ fun _ => ok_map)
theorem ok_tNotM {a : MT} {Q : Bool × R -> Prop} : Ok (zi2 a ρ) Q ↔ Ok (a ρ) fun p => Q (!p.1, p.2) := ok_map
theorem ok_eCall {Q : D × R -> Prop} : Ok (zat F ma ρ) Q = Ok ((ma ρ).bind fun p => (F p.1).bind fun r => match r with
 | .val d => some (d, p.2)
 | .own ds => some (.lst ds, p.2)
 | _ => none) Q := rfl
theorem ok_oCall {Q : List D × R -> Prop} : Ok (zm4 F ma ρ) Q = Ok ((ma ρ).bind fun p => (F p.1).bind fun r => match r with
 | .own ds => some (ds, p.2)
 | _ => none) Q := rfl
theorem zoJ {F : List D -> List D -> Option (Sl × List D)} {Q : D × R -> Prop} : Ok (zbR F j ma ρ) Q = Ok (if (ρ[j]?.bind Sl.items).isSome then (ma ρ).bind fun p => p.2[j]?.bind fun s => s.items.bind fun cs => (F cs p.1).bind fun r => match r.1 with
 | .val d => some (d, p.2.set j (s.put r.2))
 | .own ds => some (.lst ds, p.2.set j (s.put r.2))
 | _ => none else none) Q := rfl
theorem ok_iR2L {Q : List D × R -> Prop} : Ok (iR2L ma ρ) Q = Ok ((ma ρ).bind fun p => match p.1 with
 | [.int i, .int j] => some (zcZ i (j - i).toNat, p.2)
 | _ => none) Q := rfl
theorem ok_eFz {m : MO} {Q : D × R -> Prop} : Ok (eFz m ρ) Q ↔ Ok (m ρ) fun p => Q (.lst p.1, p.2) := ok_map
theorem ok_eCut {ma : ME} {ml mh : MP} {Q : D × R -> Prop} : Ok (eCut ma ml mh ρ) Q = Ok ((ma ρ).bind fun p => (ml p.2).bind fun q => (mh q.2).bind fun r => (dCut p.1 q.1 r.1).map fun d => (d, r.2)) Q := rfl
theorem ok_pNo {Q : Option Int × R -> Prop} : Ok (pNo ρ) Q ↔ Q (none, ρ) := ok_some
theorem ok_pSome {Q : Option Int × R -> Prop} : Ok (zeW m ρ) Q = Ok ((m ρ).bind fun p => match p.1 with
 | .int i => some (some i, p.2)
 | _ => none) Q := rfl
theorem ok_iSeq {Q : List D × R -> Prop} : Ok (iSeq m ρ) Q ↔ Ok (m ρ) fun p => Ok (zaL [p.1]) fun ds => Q (ds, p.2) := ok_bind.trans (zaQ fun _ => ok_map)
theorem ok_iR1 {Q : List D × R -> Prop} : Ok (iR1 ma ρ) Q = Ok ((ma ρ).bind fun p => match p.1 with
 | [.int j] => if zdO j then some (zcZ 0 j.toNat, p.2) else none
 | _ => none) Q := rfl
theorem ok_iR2 {Q : List D × R -> Prop} : Ok (iR2 ma ρ) Q = Ok ((ma ρ).bind fun p => match p.1 with
 | [.int i, .int j] => if zdO i && zdO j then some (zcZ i (j - i).toNat, p.2) else none
 | _ => none) Q := rfl
theorem ok_sFor {mb : MS} : Ok (sFor mi g mb ρ) Q ↔ Ok (mi ρ) fun p => Ok (forM (fun d ρ => (g d ρ).bind fun ρ' => mb ρ') p.1 p.2) Q := ok_bind
theorem ok_oLC {Q : List D × R -> Prop} : Ok (oLC cap t mi g mt me ρ) Q = Ok ((mi ρ).bind fun p => if p.1.length <= 16777216 then (zeX (zm7 g mt me) p.1 (capR cap t (fzL cap p.2))).map fun q => (q.1, fzL cap p.2) else none) Q := rfl
theorem ok_tTrue {Q : Bool × R -> Prop} : Ok (zbj ρ) Q ↔ Q (true, ρ) := ok_some
theorem ok_sAugI {g : Int -> Int -> Int} : Ok (zjb i g me ρ) Q = Ok (match ρ[i]? with
 | some (.val (.int a)) => (me ρ).bind fun p => match p.1 with
  | .int b => some (.next, p.2.set i (.val (.int (g a b))))
  | _ => none
 | _ => none) Q := rfl
theorem ok_eCutS {ma : ME} {ml mh ms : MP} {Q : D × R -> Prop} : Ok (zom ma ml mh ms ρ) Q = Ok ((ma ρ).bind fun p => (ml p.2).bind fun q => (mh q.2).bind fun r => (ms r.2).bind fun t => (znS p.1 q.1 r.1 t.1).map fun d => (d, t.2)) Q := rfl
theorem ok_oRep {ma mb : ME} {Q : List D × R -> Prop} : Ok (oRep ma mb ρ) Q = Ok ((ma ρ).bind fun p => (mb p.2).bind fun q => match p.1, q.1 with
 | .lst xs, .int k => if zdO k && decide (xs.length * k.toNat <= 16777216) then some ((List.replicate k.toNat xs).flatten, q.2) else none
 | _, _ => none) Q := rfl
theorem ok_iZ2 {Q : List D × R -> Prop} : Ok (iZ2 ma ρ) Q = Ok ((ma ρ).bind fun p => match p.1 with
 | [a, b] => (zaL [a]).bind fun xs => (zaL [b]).bind fun ys => some (zlZ xs ys, p.2)
 | _ => none) Q := rfl
theorem ok_iZ3 {Q : List D × R -> Prop} : Ok (iZ3 ma ρ) Q = Ok ((ma ρ).bind fun p => match p.1 with
 | [a, b, c] => (zaL [a]).bind fun xs => (zaL [b]).bind fun ys => (zaL [c]).bind fun zs => some (zlJ xs ys zs, p.2)
 | _ => none) Q := rfl
theorem ok_iEn {Q : List D × R -> Prop} : Ok (iEn ma ρ) Q = Ok ((ma ρ).bind fun p => (zaL p.1).map fun xs => (zlC xs, p.2)) Q := rfl
theorem ok_oLCM {t b w : Nat} {Q : List D × R -> Prop} : Ok (oLCM cap t b w mi g mt me ρ) Q = Ok ((mi ρ).bind fun p => if p.1.length <= 16777216 then
    ((fzL (cap.filter (· != w)) p.2)[w]?).bind fun s => s.items.bind fun cs => (zeX (zm3 b g mt me) p.1 ((capR cap t (fzL (cap.filter (· != w)) p.2)).set b (.par cs))).map fun q => (q.1, (fzL (cap.filter (· != w)) p.2).set w (s.put (zoG b q.2)))
  else none) Q := rfl
theorem ok_fP {m : MS} {Q : Sl -> Prop} : Ok (fP N m ds) Q = Ok ((m (ds.map .val ++ List.replicate (N - ds.length) .emp)).bind fun p => match p.1 with
 | .ret r => some r
 | .next => some (.val .non)
 | _ => none) Q := rfl
theorem ok_fM {m : MS} {cs : List D} {Q : Sl × List D -> Prop} : Ok (fM N m cs ds) Q = Ok ((m (.par cs :: (ds.map .val ++ List.replicate (N - (ds.length + 1)) .emp))).bind fun p => match p.1, (p.2[0]? : Option Sl) with
 | Fl.ret r, some (Sl.par out) => some (r, out)
 | Fl.next, some (Sl.par out) => some (.val .non, out)
 | _, _ => none) Q := rfl
end
noncomputable def Turn (I : R -> Prop) (Q : Fl × R -> Prop) (p : Fl × R) : Prop := match p.1 with
 | .next => I p.2
 | .cont => I p.2
 | .brk => Q (.next, p.2)
 | .ret r => Q (.ret r, p.2)
theorem znQ : Turn I Q (.next, ρ) ↔ I ρ := Iff.rfl
theorem zoo : Turn I Q (.cont, ρ) ↔ I ρ := Iff.rfl
theorem turn_brk : Turn I Q (.brk, ρ) ↔ Q (.next, ρ) := Iff.rfl
theorem turn_ret : Turn I Q (.ret r, ρ) ↔ Q (.ret r, ρ) := Iff.rfl
theorem zpa {α : Type} {f : D -> R -> Option (Fl × R)} (enc : α -> D) (I : Nat -> R -> Prop) : ∀ (l : List α) (b : Nat) (ρ : R), I b ρ ->
  (∀ i a ρ, l[i]? = some a -> I (b + i) ρ -> Ok (f (enc a) ρ) (Turn (I (b + i + 1)) Q)) -> (∀ ρ, I (b + l.length) ρ -> Q (.next, ρ)) -> Ok (forM f (l.map enc) ρ) Q
 | [], b, ρ, h0, _, hq => ok_some.mpr (hq ρ h0)
 | a :: l, b, ρ, h0, hs, hq => by
  obtain ⟨p, e, t⟩ := hs 0 a ρ rfl h0
  obtain ⟨fl, ρ1⟩ := p
  have go : ∀ ρ1, I (b + 1) ρ1 -> Ok (forM f (l.map enc) ρ1) Q := fun ρ1 h1 => zpa enc I l (b + 1) ρ1 h1 (fun i a' ρ' hi hp => by
   have := hs (i + 1) a' ρ' (by simpa using hi) (by rw [show b + (i + 1) = b + 1 + i by lia]; exact hp)
   rw [show b + (i + 1) + 1 = b + 1 + i + 1 by lia] at this
   exact this) (fun ρ h => hq ρ (by rw [List.length_cons, show b + (l.length + 1) = b + 1 + l.length by lia]; exact h))
  have e' : forM f ((a :: l).map enc) ρ = (f (enc a) ρ).bind fun p => match p.1 with
   | .next => forM f (l.map enc) p.2
   | .cont => forM f (l.map enc) p.2
   | .brk => some (.next, p.2)
   | .ret r => some (.ret r, p.2) := rfl
  rw [e', e]
  cases fl with
  | next => exact go ρ1 t
  | cont => exact go ρ1 t
  | brk => exact ok_some.mpr t
  | ret r => exact ok_some.mpr t
theorem ok_for {α : Type} {f : D -> R -> Option (Fl × R)} {enc : α -> D} {l : List α} (I : Nat -> R -> Prop) (h0 : I 0 ρ)
  (hs : ∀ i a ρ, l[i]? = some a -> I i ρ -> Ok (f (enc a) ρ) (Turn (I (i + 1)) Q)) (hq : ∀ ρ, I l.length ρ -> Q (.next, ρ)) : Ok (forM f (l.map enc) ρ) Q :=
 zpa enc I l 0 ρ h0 (fun i a ρ hi h => by rw [Nat.zero_add] at h ⊢; exact hs i a ρ hi h) (fun ρ h => hq ρ (by rw [Nat.zero_add] at h; exact h))
theorem zlj {α : Type} (enc : α -> D) {Q : List D × R -> Prop} (I : Nat -> List D -> R -> Prop) : ∀ (l : List α) (b : Nat) (acc : List D) (ρ : R), I b acc ρ ->
  (∀ i a acc ρ, l[i]? = some a -> I (b + i) acc ρ -> Ok (f (enc a) ρ) fun p => I (b + i + 1) (acc ++ p.1.toList) p.2) -> (∀ ds ρ, I (b + l.length) (acc ++ ds) ρ -> Q (ds, ρ)) -> Ok (zeX f (l.map enc) ρ) Q
 | [], b, acc, ρ, h0, _, hq => ok_some.mpr (hq [] ρ (by rw [List.append_nil]; exact h0))
 | a :: l, b, acc, ρ, h0, hs, hq => by
  obtain ⟨p, e, t⟩ := hs 0 a acc ρ rfl h0
  have go := zlj enc (Q := fun q => Q (p.1.toList ++ q.1, q.2)) I l (b + 1) (acc ++ p.1.toList) p.2 t (fun i a' acc' ρ' hi hp => by
   have := hs (i + 1) a' acc' ρ' (by simpa using hi) (by rw [show b + (i + 1) = b + 1 + i by lia]; exact hp)
   rw [show b + (i + 1) + 1 = b + 1 + i + 1 by lia] at this
   exact this) (fun ds ρ h => hq _ ρ (by rw [List.length_cons, show b + (l.length + 1) = b + 1 + l.length by lia, <- List.append_assoc]; exact h))
  have e' : zeX f ((a :: l).map enc) ρ = (f (enc a) ρ).bind fun p => (zeX f (l.map enc) p.2).map fun q => (p.1.toList ++ q.1, q.2) := rfl
  rw [e', e]
  exact ok_map.mpr go
theorem zm1 {α : Type} {enc : α -> D} {l : List α} {Q : List D × R -> Prop} (I : Nat -> List D -> R -> Prop) (h0 : I 0 [] ρ)
  (hs : ∀ i a acc ρ, l[i]? = some a -> I i acc ρ -> Ok (f (enc a) ρ) fun p => I (i + 1) (acc ++ p.1.toList) p.2) (hq : ∀ ds ρ, I l.length ds ρ -> Q (ds, ρ)) : Ok (zeX f (l.map enc) ρ) Q :=
 zlj enc I l 0 [] ρ h0 (fun i a acc ρ hi h => by rw [Nat.zero_add] at h ⊢; exact hs i a acc ρ hi h) (fun ds ρ h => hq ds ρ (by rw [Nat.zero_add] at h; exact h))
theorem zeT {α β : Type} {f g : α -> Option β} : ∀ (l : List α), (∀ a ∈ l, f a = g a) -> l.filterMap f = l.filterMap g
 | [], _ => rfl
 | a :: l, h => by rw [List.filterMap_cons, List.filterMap_cons, h a List.mem_cons_self, zeT l fun b hb => h b (List.mem_cons_of_mem _ hb)]
theorem zkg {α : Type} {enc : α -> D} {l : List α} {Q : List D × R -> Prop} (P : R -> Prop) (g : α -> Option D) (h0 : P ρ)
  (hs : ∀ a ρ, a ∈ l -> P ρ -> Ok (f (enc a) ρ) fun p => p.1 = g a /\ P p.2) (hq : ∀ ρ, P ρ -> Q (l.filterMap g, ρ)) : Ok (zeX f (l.map enc) ρ) Q :=
 zm1 (fun i ds ρ => ds = (l.take i).filterMap g /\ P ρ) ⟨rfl, h0⟩ (fun i a acc ρ hi ⟨e, p⟩ => by
  refine (hs a ρ (List.mem_of_getElem? hi) p).mono fun r h => ⟨?_, h.2⟩
  obtain ⟨h1, h2⟩ := List.getElem?_eq_some_iff.mp hi
  rw [h.1, e, List.take_add_one, hi, List.filterMap_append]
  cases q : g a <;> simp [q]) (fun ds ρ ⟨e, p⟩ => by rw [List.take_length] at e; rw [e]; exact hq ρ p)
theorem zoj {α : Type} {enc : α -> D} {l : List α} {Q : List D × R -> Prop} (P : R -> Prop) (g : α -> D) (h0 : P ρ)
  (hs : ∀ a ρ, a ∈ l -> P ρ -> Ok (f (enc a) ρ) fun p => p.1 = some (g a) /\ P p.2) (hq : ∀ ρ, P ρ -> Q (l.map g, ρ)) : Ok (zeX f (l.map enc) ρ) Q :=
 zkg P (fun a => some (g a)) h0 hs (fun ρ p => by rw [<- Function.comp_def some g, List.filterMap_eq_map]; exact hq ρ p)
theorem dEq_int (i j : Int) : dEq (.int i) (.int j) = some (.bl (i == j)) := by
 unfold dEq
 rw [show noS (.int i) = true from rfl, show noS (.int j) = true from rfl, show depth (.int i) = 0 from rfl]
 rfl
theorem dNe_int (i j : Int) : dNe (.int i) (.int j) = some (.bl (i != j)) := by
 unfold dNe
 rw [show noS (.int i) = true from rfl, show noS (.int j) = true from rfl, show depth (.int i) = 0 from rfl]
 rfl
theorem atI_n {α : Type} (xs : List α) (i : Nat) : atI xs (i : Int) = xs[i]? := by
 unfold atI ixN
 rw [if_pos (by lia)]
 by_cases h : i < xs.length
 ·rw [if_pos (by lia)]; simp
 ·rw [if_neg (by lia)]; simp [List.getElem?_eq_none (by lia : xs.length <= i)]
theorem atI_lit {α : Type} (xs : List α) (n : Nat) : atI xs (no_index (@OfNat.ofNat Int n _)) = xs[n]? := atI_n xs n
theorem atI_n1 {α : Type} (xs : List α) (i : Nat) : atI xs ((i : Int) + 1) = xs[i + 1]? := atI_n xs (i + 1)
theorem ixN_n (n i : Nat) : ixN n (i : Int) = if i < n then some i else none := by
 unfold ixN
 rw [if_pos (by lia)]
 by_cases h : i < n
 ·rw [if_pos (by lia), if_pos h]; simp
 ·rw [if_neg (by lia), if_neg h]
theorem ixN_lit (n i : Nat) : ixN n (no_index (@OfNat.ofNat Int i _)) = if i < n then some i else none := ixN_n n i
theorem zmB {α : Type} (xs : List α) (x : α) : atI (xs ++ [x]) (-1) = some x := by
 unfold atI ixN
 rw [if_neg (by lia), if_pos (by simp; lia)]
 have : (-1 + ((xs ++ [x]).length : Int)).toNat = xs.length := by simp; lia
 simp only [Option.bind_some, this]
 simp
theorem zcD {i j : Int} (h : i.natAbs < 18446744073709551616) : zjX i j = true := by
 unfold zjX
 have : decide (i.natAbs < 2 ^ 64) = true := decide_eq_true h
 rw [this]; rfl
theorem mulOk_r {i j : Int} (h : j.natAbs < 18446744073709551616) : zjX i j = true := by
 unfold zjX
 have : decide (j.natAbs < 2 ^ 64) = true := decide_eq_true h
 rw [this]; simp
theorem zaZ {j : Int} (h1 : -1000000000000 <= j) (h2 : j <= 1000000000000) : zdO j = true := by
 unfold zdO; rw [decide_eq_true h1, decide_eq_true h2]; rfl
noncomputable def wL (n : Nat) (f : Nat -> D) : List D := (List.range n).map f
noncomputable abbrev wI (n : Nat) (f : Nat -> Int) : List D := wL n fun i => .int (f i)
theorem zaE (n : Nat) (f : Nat -> D) : (wL n f).length = n := by simp [wL]
theorem zay (f : Nat -> D) (h : i < n) : (wL n f)[i]? = some (f i) := by simp [wL, h]
theorem zgQ (n : Nat) (f : Nat -> D) : wL (n + 1) f = wL n f ++ [f n] := by simp [wL, List.range_succ]
theorem zcH {f g : Nat -> D} (h : ∀ i, i < n -> f i = g i) : wL n f = wL n g := List.map_congr_left fun i hi => h i (List.mem_range.mp hi)
theorem zpb (n : Nat) (f : Nat -> D) (x : D) : wL n f ++ [x] = wL (n + 1) fun j => if j < n then f j else x := by
 rw [zgQ]; congr 1
 ·exact zcH fun i hi => by rw [if_pos hi]
 ·rw [if_neg (by lia)]
theorem wL_set (f : Nat -> D) (x : D) (h : i < n) : (wL n f).set i x = wL n fun j => if j = i then x else f j := by
 apply List.ext_getElem?
 intro j
 by_cases hj : j < n
 ·rw [zay _ hj, List.getElem?_set]
  by_cases e : i = j
  ·subst e; simp [zaE, h]
  ·simp [e, zay _ hj, Ne.symm e]
 ·rw [List.getElem?_eq_none (by simp [zaE]; lia), List.getElem?_eq_none (by simp [zaE]; lia)]
theorem atI_w1 (f : Nat -> D) : atI (wL (n + 1) f) (-1) = some (f n) := by rw [zgQ]; exact zmB _ _
theorem zl8 (n : Nat) (f : Nat -> D) : zlC (wL n f) = wL n fun i => .tup [.int (i : Nat), f i] := by
 apply List.ext_getElem?
 intro j
 unfold zlC
 by_cases hj : j < n
 ·rw [List.getElem?_zipWith, zay _ hj, zay _ hj]
  simp [zaE, hj]
 ·rw [List.getElem?_eq_none (by simp [zaE]; lia), List.getElem?_eq_none (by simp [zaE]; lia)]
theorem zlS (n : Nat) (f g : Nat -> D) : zlZ (wL n f) (wL n g) = wL n fun i => .tup [f i, g i] := by
 apply List.ext_getElem?
 intro j
 unfold zlZ
 by_cases hj : j < n
 ·rw [List.getElem?_zipWith, zay _ hj, zay _ hj, zay _ hj]
 ·rw [List.getElem?_eq_none (by simp [zaE]; lia), List.getElem?_eq_none (by simp [zaE]; lia)]
theorem zky {α : Type} (xs : List α) (i : Nat) : cutD xs none (some (i : Int)) = xs.take i := by
 unfold cutD
 rw [HT.zkF, HT.zkw, Nat.sub_zero, List.drop_zero]
 by_cases h : i <= xs.length
 ·rw [Nat.min_eq_left h]
 ·rw [Nat.min_eq_right (by lia), List.take_of_length_le (Nat.le_refl _), List.take_of_length_le (by lia)]
theorem zjN {α : Type} (xs : List α) (i : Nat) : cutD xs (some (i : Int)) none = xs.drop i := by
 unfold cutD
 rw [HT.zkF, HT.zkw]
 by_cases h : i <= xs.length
 ·rw [Nat.min_eq_left h, List.take_of_length_le (by simp)]
 ·rw [Nat.min_eq_right (by lia), List.drop_of_length_le (Nat.le_refl _), List.drop_of_length_le (by lia)]; simp
theorem zcr : ∀ (l : List Int), zcn (l.map .int) = some l
 | [] => rfl
 | i :: l => by simp [zcn, zcr l]
theorem ziW (bt : Nat -> Nat -> Bool) : ∀ n, argBest bt n <= n
 | 0 => Nat.le_refl 0
 | n + 1 => by
  have := ziW bt n
  unfold argBest
  split <;> lia
theorem zk1 (lt : Int -> Int -> Bool) (h : ns ≠ []) : ziG lt ns ∈ ns := by
 unfold ziG
 have hl : 0 < ns.length := List.length_pos_iff.mpr h
 have := ziW (fun i j => lt (ns.getD i 0) (ns.getD j 0)) (ns.length - 1)
 generalize argBest (fun i j => lt (ns.getD i 0) (ns.getD j 0)) (ns.length - 1) = k at *
 rw [List.getD_eq_getElem?_getD, List.getElem?_eq_getElem (by lia)]
 exact List.getElem_mem _
theorem zjA (lt : Int -> Int -> Bool) (h : ns ≠ []) : znY lt [.lst (ns.map .int)] = some (.int (ziG lt ns)) := by
 have hne : ns.isEmpty = false := by cases ns with | nil => exact absurd rfl h | cons => rfl
 simp only [znY, zaL, Option.bind_some, zcr, hne]
 rfl
mutual
theorem zku : ∀ (d : D), noS d = true -> eqB d d = true
 | .non, _ => rfl
 | .bl b, _ => by simp [eqB]
 | .int i, _ => by simp [eqB]
 | .str s, _ => by simp [eqB]
 | .lst ds, h => by simp only [eqB]; exact ziU ds (by simpa [noS] using h)
 | .tup ds, h => by simp only [eqB]; exact ziU ds (by simpa [noS] using h)
 | .scr _, h => by simp [noS] at h
 | .exc _, h => by simp [noS] at h
theorem ziU : ∀ (ds : List D), noSL ds = true -> eqBL ds ds = true
 | [], _ => rfl
 | d :: ds, h => by
  simp only [noSL, Bool.and_eq_true] at h
  simp only [eqBL, Bool.and_eq_true]
  exact ⟨zku d h.1, ziU ds h.2⟩
end
theorem dEq_same (h : noS d = true) (k : depth d <= 50) : dEq d d = some (.bl true) := by simp [dEq, h, k, zku d h]
theorem dNe_same (h : noS d = true) (k : depth d <= 50) : dNe d d = some (.bl false) := by simp [dNe, h, k, zku d h]
theorem zl4 : ∀ {ds : List D}, (∀ d ∈ ds, noS d = true) -> noSL ds = true
 | [], _ => rfl
 | d :: ds, h => by simp only [noSL, Bool.and_eq_true]; exact ⟨h d List.mem_cons_self, zl4 fun e he => h e (List.mem_cons_of_mem _ he)⟩
theorem ziK : ∀ {ds : List D}, (∀ d ∈ ds, depth d <= k) -> zgz ds <= k
 | [], _ => Nat.zero_le _
 | d :: ds, h => by simp only [zgz]; exact Nat.max_le.mpr ⟨h d List.mem_cons_self, ziK fun e he => h e (List.mem_cons_of_mem _ he)⟩
noncomputable def Pl (k : Nat) (d : D) : Prop := noS d = true /\ depth d <= k
theorem zls (k : Nat) (i : Int) : Pl k (.int i) := ⟨rfl, Nat.zero_le _⟩
theorem pl_lst (h : ∀ d ∈ ds, Pl k d) : Pl (k + 1) (.lst ds) := ⟨by simp only [noS]; exact zl4 fun d hd => (h d hd).1, by simp only [depth]; exact Nat.succ_le_succ (ziK fun d hd => (h d hd).2)⟩
theorem zmW (h : ∀ d ∈ ds, Pl k d) : Pl (k + 1) (.tup ds) := ⟨by simp only [noS]; exact zl4 fun d hd => (h d hd).1, by simp only [depth]; exact Nat.succ_le_succ (ziK fun d hd => (h d hd).2)⟩
theorem pl_w {f : Nat -> D} (h : ∀ i, Pl k (f i)) : ∀ d ∈ wL n f, Pl k d := fun d hd => by
 obtain ⟨i, _, rfl⟩ := List.mem_map.mp hd; exact h i
theorem Pl.eq (h : Pl k d) (l : k <= 50) : dEq d d = some (.bl true) := dEq_same h.1 (Nat.le_trans h.2 l)
theorem Pl.ne (h : Pl k d) (l : k <= 50) : dNe d d = some (.bl false) := dNe_same h.1 (Nat.le_trans h.2 l)
theorem rangeD_w (n : Nat) : zcZ 0 n = wL n fun i => .int (i : Nat) := by unfold zcZ wL; simp only [Int.zero_add]
theorem zhD (lo : Int) (n : Nat) : zcZ lo n = wL n fun i => .int (lo + (i : Nat)) := rfl
section
variable {n : Nat} {e : Nat -> D} {ρ : R}
theorem zcp {f : D -> R -> Option (Fl × R)} (I : Nat -> R -> Prop) (h0 : I 0 ρ)
  (hs : ∀ i ρ, i < n -> I i ρ -> Ok (f (e i) ρ) (Turn (I (i + 1)) Q)) (hq : ∀ ρ, I n ρ -> Q (.next, ρ)) : Ok (forM f (wL n e) ρ) Q :=
 ok_for (enc := e) (l := List.range n) I h0 (fun i a ρ hi h => by
  obtain ⟨h1, h2⟩ := List.getElem?_eq_some_iff.mp hi
  have : a = i := by simpa using h2.symm
  subst this
  exact hs a ρ (by simpa using h1) h) (fun ρ h => hq ρ (by simpa using h))
variable {f : D -> R -> Option (Option D × R)} {Q : List D × R -> Prop}
theorem zhd (I : Nat -> List D -> R -> Prop) (h0 : I 0 [] ρ)
  (hs : ∀ i acc ρ, i < n -> I i acc ρ -> Ok (f (e i) ρ) fun p => I (i + 1) (acc ++ p.1.toList) p.2) (hq : ∀ ds ρ, I n ds ρ -> Q (ds, ρ)) : Ok (zeX f (wL n e) ρ) Q :=
 zm1 (enc := e) (l := List.range n) I h0 (fun i a acc ρ hi h => by
  obtain ⟨h1, h2⟩ := List.getElem?_eq_some_iff.mp hi
  have : a = i := by simpa using h2.symm
  subst this
  exact hs a acc ρ (by simpa using h1) h) (fun ds ρ h => hq ds ρ (by simpa using h))
theorem znD (P : R -> Prop) (g : Nat -> Option D) (h0 : P ρ)
  (hs : ∀ i ρ, i < n -> P ρ -> Ok (f (e i) ρ) fun p => p.1 = g i /\ P p.2) (hq : ∀ ρ, P ρ -> Q ((List.range n).filterMap g, ρ)) : Ok (zeX f (wL n e) ρ) Q :=
 zkg (enc := e) (l := List.range n) P g h0 (fun a ρ ha hp => hs a ρ (List.mem_range.mp ha) hp) hq
theorem zaw (P : R -> Prop) (g : Nat -> D) (h0 : P ρ)
  (hs : ∀ i ρ, i < n -> P ρ -> Ok (f (e i) ρ) fun p => p.1 = some (g i) /\ P p.2) (hq : ∀ ρ, P ρ -> Q (wL n g, ρ)) : Ok (zeX f (wL n e) ρ) Q :=
 zoj (enc := e) (l := List.range n) P g h0 (fun a ρ ha hp => hs a ρ (List.mem_range.mp ha) hp) hq
end
end M
namespace M
theorem zka (n : Nat) (f : Nat -> Int) (x : Int) : wI n f ++ [.int x] = wI (n + 1) fun j => if j < n then f j else x := by
 rw [wI, zpb]; exact zcH fun j _ => by dsimp only; split <;> rfl
theorem zc1 {j : Int} (h0 : 0 < j) (h1 : j < 1073741824) : znp j = true := by
 have h : j.natAbs.log2 < 9000 := by
  have : j.natAbs.log2 < 30 := (Nat.log2_lt (by lia)).mpr (by lia)
  lia
 unfold znp; rw [decide_eq_true h0, decide_eq_true h]; rfl
theorem zoc {j : Int} (h0 : 0 < j) (h1 : j < 2 ^ 250) : znp j = true := by
 have h : j.natAbs.log2 < 9000 := by
  have : j.natAbs.log2 < 250 := (Nat.log2_lt (by lia)).mpr (by lia)
  lia
 unfold znp; rw [decide_eq_true h0, decide_eq_true h]; rfl
theorem ziP {n i : Nat} (f : Nat -> Int) (x : Int) (h : i < n) : (wI n f).set i (.int x) = wI n fun j => if j = i then x else f j := by
 rw [wI, wL_set _ _ h]; exact zcH fun j _ => by dsimp only; split <;> rfl
theorem isN_non : isN .non = true := rfl
theorem isN_int (i : Int) : isN (.int i) = false := rfl
theorem isN_bl (b : Bool) : isN (.bl b) = false := rfl
theorem isN_str (s : PySem.Str) : isN (.str s) = false := rfl
theorem isN_lst (ds : List D) : isN (.lst ds) = false := rfl
theorem isN_tup (ds : List D) : isN (.tup ds) = false := rfl
end M
namespace M
open L2 PySem
variable {s b i c N : Nat} {g : D -> R -> Option R} {v : Int} {Q : List Ch × R -> Prop} {F : List D -> T -> List D -> Option (Sl × List D)} {mo : MO} {ma : MA} {is : List Nat} {ds : List D} {mt : MT} {d : D}
theorem dItems_l (ds : List D) : zaL [.lst ds] = some ds := rfl
theorem dItems_t (ds : List D) : zaL [.tup ds] = some ds := rfl
theorem dItems_s (ns : List Int) : zaL [.scr ns] = some (ns.map .int) := rfl
theorem dLen_l (ds : List D) : dLen [.lst ds] = some (.int ds.length) := rfl
theorem dLen_t (ds : List D) : dLen [.tup ds] = some (.int ds.length) := rfl
theorem dLen_s (ns : List Int) : dLen [.scr ns] = some (.int ns.length) := rfl
theorem dTuple_l (ds : List D) : zbQ [.lst ds] = some (.tup ds) := rfl
theorem dTuple_t (ds : List D) : zbQ [.tup ds] = some (.tup ds) := rfl
theorem dTuple_s (ns : List Int) : zbQ [.scr ns] = some (.tup (ns.map .int)) := rfl
theorem dCut_l (ds : List D) (a b : Option Int) : dCut (.lst ds) a b = some (.lst (cutD ds a b)) := rfl
theorem dCut_t (ds : List D) (a b : Option Int) : dCut (.tup ds) a b = some (.tup (cutD ds a b)) := rfl
theorem dCut_s (ns : List Int) (a b : Option Int) : dCut (.scr ns) a b = some (.lst ((cutD ns a b).map .int)) := rfl
theorem dIx_l (ds : List D) (i : Int) : dIx (.lst ds) (.int i) = atI ds i := rfl
theorem dIx_t (ds : List D) (i : Int) : dIx (.tup ds) (.int i) = atI ds i := rfl
theorem dIx_s (ns : List Int) (i : Int) : dIx (.scr ns) (.int i) = (atI ns i).map .int := rfl
theorem dEq_str (a b : Str) : dEq (.str a) (.str b) = some (.bl (a == b)) := by
 unfold dEq
 rw [show noS (.str a) = true from rfl, show noS (.str b) = true from rfl, show depth (.str a) = 0 from rfl]
 rfl
theorem zip3D_w (n : Nat) (f g h : Nat -> D) : zlJ (wL n f) (wL n g) (wL n h) = wL n fun i => .tup [f i, g i, h i] := by
 apply List.ext_getElem?
 intro j
 unfold zlJ
 by_cases hj : j < n
 ·have e : (List.zip (wL n g) (wL n h))[j]? = some (g j, h j) := by
   rw [List.getElem?_zip_eq_some]; exact ⟨zay g hj, zay h hj⟩
  rw [List.getElem?_zipWith, e, zay _ hj, zay _ hj]
 ·rw [List.getElem?_eq_none (by simp [zaE]; lia), List.getElem?_eq_none (by simp [zaE]; lia)]
structure Sq (d : D) (n : Nat) (f : Nat -> Int) : Prop where
 it : zaL [d] = some (wI n f)
 ln : dLen [d] = some (.int n)
 tp : zbQ [d] = some (.tup (wI n f))
 ix : ∀ i, dIx d (.int i) = atI (wI n f) i
 ct : ∀ lo hi, ∃ d', dCut d lo hi = some d' /\ zaL [d'] = some (cutD (wI n f) lo hi)
theorem Sq.lst (n : Nat) (f : Nat -> Int) : Sq (.lst (wI n f)) n f := ⟨rfl, by rw [dLen_l, zaE], rfl, fun _ => rfl, fun lo hi => ⟨_, rfl, rfl⟩⟩
theorem Sq.tup (n : Nat) (f : Nat -> Int) : Sq (.tup (wI n f)) n f := ⟨rfl, by rw [dLen_t, zaE], rfl, fun _ => rfl, fun lo hi => ⟨_, rfl, rfl⟩⟩
noncomputable def eqW (s : Nat) (a b : Nat -> Int) : Bool := (List.range s).map a == (List.range s).map b
theorem zmS : ∀ (xs ys : List Int), eqBL (xs.map D.int) (ys.map D.int) = (xs == ys)
 | [], [] => rfl
 | [], _ :: _ => rfl
 | _ :: _, [] => rfl
 | x :: xs, y :: ys => by simp [eqBL, eqB, zmS xs ys]
theorem wI_map (n : Nat) (f : Nat -> Int) : wI n f = ((List.range n).map f).map .int := by simp [wL, List.map_map, Function.comp_def]
theorem dEq_wt (s : Nat) (a b : Nat -> Int) : dEq (.tup (wI s a)) (.tup (wI s b)) = some (.bl (eqW s a b)) := by
 have p1 : Pl 1 (.tup (wI s a)) := zmW (pl_w fun c => zls 0 _)
 have p2 : Pl 1 (.tup (wI s b)) := zmW (pl_w fun c => zls 0 _)
 unfold dEq
 rw [p1.1, p2.1, decide_eq_true (Nat.le_trans p1.2 (by decide : 1 <= 50))]
 simp only [Bool.and_self, if_true, eqB]
 rw [wI_map, wI_map, zmS]; rfl
theorem eqW_iff {a b : Nat -> Int} : eqW s a b = true ↔ ∀ i, i < s -> a i = b i := by
 unfold eqW
 rw [beq_iff_eq]
 constructor
 ·intro h i hi
  have := congrArg (fun l => l[i]?) h
  simpa [hi] using this
 ·intro h
  exact List.map_congr_left fun i hi => h i (List.mem_range.mp hi)
theorem zdF (n : Nat) (b : Nat -> Bool) : zeb (wL n fun i => .bl (b i)) = some ((List.range n).map b) := by
 have : ∀ l : List Nat, zeb (l.map fun i => D.bl (b i)) = some (l.map b) := by
  intro l
  induction l with
  | nil => rfl
  | cons a l ih => simp [zeb, ih]
 exact this _
theorem all_w (n : Nat) (b : Nat -> Bool) : (((List.range n).map b).all id = true) ↔ ∀ i, i < n -> b i = true := by simp
theorem any_w (n : Nat) (b : Nat -> Bool) : (((List.range n).map b).any id = true) ↔ ∃ i, i < n /\ b i = true := by simp
theorem rev_w (n : Nat) (f : Nat -> D) : (wL n f).reverse = wL n fun i => f (n - 1 - i) := by
 apply List.ext_getElem?
 intro j
 by_cases h : j < n
 ·rw [List.getElem?_reverse (by rw [zaE]; exact h), zaE, zay _ (by lia), zay _ h]
 ·rw [List.getElem?_eq_none (by simp [zaE]; lia), List.getElem?_eq_none (by rw [zaE]; lia)]
theorem zd1 {j n m i : Nat} (hm : 0 < m) : i < cntS (j : Int) (n : Int) (m : Int) ↔ j + i * m < n := by
 unfold cntS
 by_cases h : (j : Int) < (n : Int)
 ·rw [if_pos h]
  have e : ((n : Int) - (j : Int) - 1) / (m : Int) = (((n - j - 1) / m : Nat) : Int) := by
   rw [Int.natCast_ediv]; congr 1; lia
  have e2 : ∀ q : Nat, ((q : Int) + 1).toNat = q + 1 := fun q => by lia
  rw [e, e2, Nat.lt_succ_iff, Nat.le_div_iff_mul_le hm]
  lia
 ·rw [if_neg h]
  constructor
  ·intro h; lia
  ·intro h; lia
theorem zor {α β : Type} {h : α -> Option β} {g : α -> β} : ∀ (l : List α), (∀ a ∈ l, h a = some (g a)) -> l.filterMap h = l.map g
 | [], _ => rfl
 | a :: l, e => by rw [List.filterMap_cons, e a List.mem_cons_self, List.map_cons, zor l fun b hb => e b (List.mem_cons_of_mem _ hb)]
theorem zo7 {n j m : Nat} (f : Nat -> D) (hm : 0 < m) (hj : j < n) : zcT (wL n f) (some (j : Int)) none (some (m : Int)) = wL (cntS (j : Int) (n : Int) (m : Int)) fun i => f (j + i * m) := by
 have hb : sliceBounds (some (j : Int)) none (some (m : Int)) n = ((j : Int), (n : Int), (m : Int)) := by
  have : (m : Int) > 0 := by lia
  simp [sliceBounds, this]
  lia
 unfold zcT
 rw [zaE, hb]
 unfold sliceRange
 have h1 : (m : Int) > 0 := by lia
 have h2 : (j : Int) < (n : Int) := by lia
 simp only [h1, h2, if_true]
 have ec : (((n : Int) - (j : Int) + (m : Int) - 1) / (m : Int)).toNat = cntS (j : Int) (n : Int) (m : Int) := by
  unfold cntS
  rw [if_pos h2, show ((n : Int) - (j : Int) + (m : Int) - 1) = ((n : Int) - (j : Int) - 1) + (m : Int) by lia, Int.add_ediv_of_dvd_right (Int.dvd_refl _), Int.ediv_self (by lia)]
 rw [ec]
 rw [List.filterMap_map]
 apply zor
 intro i hi
 have hi : j + i * m < n := (zd1 hm).mp (List.mem_range.mp hi)
 have ht : ((j : Int) + (m : Int) * (i : Int)).toNat = j + i * m := by
  rw [show ((j : Int) + (m : Int) * (i : Int)) = ((j + i * m : Nat) : Int) by push_cast; rw [Int.mul_comm]]; lia
 simp only [Function.comp_def, ht]
 exact zay f hi
noncomputable def sumR : Nat -> (Nat -> Int) -> Int
 | 0, _ => 0
 | n + 1, f => sumR n f + f n
theorem zao {f g : Nat -> Int} : ∀ {n : Nat}, (∀ i, i < n -> f i = g i) -> sumR n f = sumR n g
 | 0, _ => rfl
 | n + 1, h => by rw [sumR, sumR, zao fun i hi => h i (by lia), h n (by lia)]
theorem zij (f g : Nat -> Int) : ∀ n, sumR n (fun i => f i + g i) = sumR n f + sumR n g
 | 0 => rfl
 | n + 1 => by simp only [sumR, zij f g n]; lia
theorem zmM (f g : Nat -> Int) : ∀ n, sumR n (fun i => f i - g i) = sumR n f - sumR n g
 | 0 => rfl
 | n + 1 => by simp only [sumR, zmM f g n]; lia
theorem zix : ∀ n, sumR n (fun _ => 0) = 0
 | 0 => rfl
 | n + 1 => by simp only [sumR, zix n]; lia
theorem zio (a : Int) (f : Nat -> Int) : ∀ n, sumR n (fun i => a * f i) = a * sumR n f
 | 0 => by simp [sumR]
 | n + 1 => by simp only [sumR, zio a f n, Int.mul_add]
theorem zgK {f g : Nat -> Int} : ∀ {n : Nat}, (∀ i, i < n -> f i <= g i) -> sumR n f <= sumR n g
 | 0, _ => Int.le_refl _
 | n + 1, h => by
  have h1 := zgK (n := n) fun i hi => h i (by lia)
  have h2 := h n (by lia)
  simp only [sumR]; lia
theorem zba (f : Nat -> Int) (a : Nat) : ∀ b, sumR (a + b) f = sumR a f + sumR b fun i => f (a + i)
 | 0 => by simp [sumR]
 | b + 1 => by rw [show a + (b + 1) = a + b + 1 by lia, sumR, sumR, zba f a b]; lia
theorem zcm (f : Nat -> Int) : ∀ n, ((List.range n).map f).sum = sumR n f
 | 0 => rfl
 | n + 1 => by simp [List.range_succ, zcm f n, sumR]
theorem zcG (n : Nat) (f : Nat -> Int) : zcn (wI n f) = some ((List.range n).map f) := by
 have : wI n f = ((List.range n).map f).map .int := by simp [wL, List.map_map, Function.comp_def]
 rw [this, zcr]
theorem cut_w {n a b : Nat} (f : Nat -> D) (h : a + b <= n) : cutD (wL n f) (some (a : Int)) (some ((a : Int) + (b : Int))) = wL b fun i => f (a + i) := by
 have e : cutD (wL n f) (some (a : Int)) (some ((a : Int) + (b : Int))) = ((wL n f).drop a).take b := by
  unfold cutD
  rw [HT.zkF, show ((a : Int) + (b : Int)) = ((a + b : Nat) : Int) by lia, HT.zkF, zaE]
  rw [Nat.min_eq_left h, Nat.min_eq_left (by lia : a <= n), Nat.add_sub_cancel_left]
 rw [e]
 apply List.ext_getElem?
 intro j
 by_cases hj : j < b
 ·rw [List.getElem?_take_of_lt hj, List.getElem?_drop, zay _ (by lia), zay _ hj]
 ·rw [List.getElem?_eq_none (by simp [zaE]; lia), List.getElem?_eq_none (by rw [zaE]; lia)]
theorem zeZ (v : Nat -> Int) : ∀ n i, i <= n -> v i <= v (argBest (fun i j => decide (v i > v j)) n)
 | 0, i, h => by rw [show i = 0 by lia]; exact Int.le_refl _
 | n + 1, i, h => by
  simp only [argBest]
  by_cases c : v (n + 1) > v (argBest (fun i j => decide (v i > v j)) n)
  ·rw [if_pos (decide_eq_true c)]
   by_cases e : i = n + 1
   ·rw [e]; exact Int.le_refl _
   ·have := zeZ v n i (by lia); lia
  ·rw [if_neg (by simpa using c)]
   by_cases e : i = n + 1
   ·rw [e]; lia
   ·exact zeZ v n i (by lia)
theorem zfq (v : Nat -> Int) : ∀ n i, i <= n -> v (argBest (fun i j => decide (v i < v j)) n) <= v i
 | 0, i, h => by rw [show i = 0 by lia]; exact Int.le_refl _
 | n + 1, i, h => by
  simp only [argBest]
  by_cases c : v (n + 1) < v (argBest (fun i j => decide (v i < v j)) n)
  ·rw [if_pos (decide_eq_true c)]
   by_cases e : i = n + 1
   ·rw [e]; exact Int.le_refl _
   ·have := zfq v n i (by lia); lia
  ·rw [if_neg (by simpa using c)]
   by_cases e : i = n + 1
   ·rw [e]; lia
   ·exact zfq v n i (by lia)
theorem zmw (g : Nat -> Int) (h : i < c) : ((List.range c).map g).getD i 0 = g i := by
 rw [List.getD_eq_getElem?_getD]; simp [h]
theorem max_w (g : Nat -> Int) (hc : 0 < c) : ∃ v, zgW [.lst (wI c g)] = some (.int v) /\ (∃ i, i < c /\ g i = v) /\ ∀ i, i < c -> g i <= v := by
 have hne : (List.range c).map g ≠ [] := fun h => by have := congrArg List.length h; simp at this; lia
 have e1 : wI c g = ((List.range c).map g).map .int := by simp [wL, List.map_map, Function.comp_def]
 refine ⟨_, by rw [e1]; exact zjA _ hne, ?_, ?_⟩
 ·obtain ⟨i, hi, e⟩ := List.mem_map.mp (zk1 (fun i j => decide (i > j)) hne)
  exact ⟨i, List.mem_range.mp hi, e⟩
 ·intro i hi
  have := zeZ (fun i => ((List.range c).map g).getD i 0) (c - 1) i (by lia)
  rw [zmw g hi] at this
  unfold ziG
  rw [List.length_map, List.length_range]
  exact this
theorem min_w (g : Nat -> Int) (hc : 0 < c) : ∃ v, zk8 [.lst (wI c g)] = some (.int v) /\ (∃ i, i < c /\ g i = v) /\ ∀ i, i < c -> v <= g i := by
 have hne : (List.range c).map g ≠ [] := fun h => by have := congrArg List.length h; simp at this; lia
 have e1 : wI c g = ((List.range c).map g).map .int := by simp [wL, List.map_map, Function.comp_def]
 refine ⟨_, by rw [e1]; exact zjA _ hne, ?_, ?_⟩
 ·obtain ⟨i, hi, e⟩ := List.mem_map.mp (zk1 (fun i j => decide (i < j)) hne)
  exact ⟨i, List.mem_range.mp hi, e⟩
 ·intro i hi
  have := zfq (fun i => ((List.range c).map g).getD i 0) (c - 1) i (by lia)
  rw [zmw g hi] at this
  unfold ziG
  rw [List.length_map, List.length_range]
  exact this
theorem max_pick (f : Nat -> Int) {n m j : Nat} (hm : 0 < m) (hj : j < m) (hn : m <= n) : ∃ v, zgW [.lst (zcT (wI n f) (some (j : Int)) none (some (m : Int)))] = some (.int v) /\ (∃ p, p < n /\ p % m = j /\ f p = v) /\ ∀ p, p < n -> p % m = j -> f p <= v := by
 rw [wI, zo7 _ hm (by lia)]
 obtain ⟨v, e, ⟨i, hi, ei⟩, h⟩ := max_w (fun i => f (j + i * m)) (c := cntS (j : Int) (n : Int) (m : Int)) ((zd1 hm).mpr (by lia))
 refine ⟨v, e, ⟨j + i * m, (zd1 hm).mp hi, by rw [Nat.add_mul_mod_self_right, Nat.mod_eq_of_lt hj], ei⟩, fun p hp hpm => ?_⟩
 have e2 : j + p / m * m = p := by have := Nat.mod_add_div p m; rw [Nat.mul_comm]; lia
 have := h (p / m) ((zd1 hm).mpr (by lia))
 rw [e2] at this
 exact this
theorem min_pick (f : Nat -> Int) {n m j : Nat} (hm : 0 < m) (hj : j < m) (hn : m <= n) : ∃ v, zk8 [.lst (zcT (wI n f) (some (j : Int)) none (some (m : Int)))] = some (.int v) /\ (∃ p, p < n /\ p % m = j /\ f p = v) /\ ∀ p, p < n -> p % m = j -> v <= f p := by
 rw [wI, zo7 _ hm (by lia)]
 obtain ⟨v, e, ⟨i, hi, ei⟩, h⟩ := min_w (fun i => f (j + i * m)) (c := cntS (j : Int) (n : Int) (m : Int)) ((zd1 hm).mpr (by lia))
 refine ⟨v, e, ⟨j + i * m, (zd1 hm).mp hi, by rw [Nat.add_mul_mod_self_right, Nat.mod_eq_of_lt hj], ei⟩, fun p hp hpm => ?_⟩
 have e2 : j + p / m * m = p := by have := Nat.mod_add_div p m; rw [Nat.mul_comm]; lia
 have := h (p / m) ((zd1 hm).mpr (by lia))
 rw [e2] at this
 exact this
theorem zm6 (f : Nat -> Int) {n m j : Nat} (hm : 0 < m) (hj : j < m) (h : ∃ p, p < n /\ p % m = j /\ f p = v) : ∃ i : Nat, zkM (.lst (zcT (wI n f) (some (j : Int)) none (some (m : Int)))) (.int v) = some (.int i) /\ j + i * m < n /\ f (j + i * m) = v := by
 obtain ⟨p, hp, hpm, hv⟩ := h
 have hjn : j < n := by have := Nat.mod_le p m; lia
 rw [wI, zo7 _ hm hjn]
 have e2 : j + p / m * m = p := by have := Nat.mod_add_div p m; rw [Nat.mul_comm]; lia
 have hc : p / m < cntS (j : Int) (n : Int) (m : Int) := (zd1 hm).mpr (by lia)
 have mem : v ∈ (List.range (cntS (j : Int) (n : Int) (m : Int))).map fun i => f (j + i * m) := List.mem_map.mpr ⟨p / m, List.mem_range.mpr hc, by rw [e2]; exact hv⟩
 have e3 : zcn (wL (cntS (j : Int) (n : Int) (m : Int)) fun i => D.int (f (j + i * m))) = some ((List.range (cntS (j : Int) (n : Int) (m : Int))).map fun i => f (j + i * m)) := zcG _ fun i => f (j + i * m)
 have hl := List.idxOf_lt_length_iff.mpr mem
 have hg := List.getElem_idxOf hl
 refine ⟨List.idxOf v ((List.range (cntS (j : Int) (n : Int) (m : Int))).map fun i => f (j + i * m)), by simp only [zkM, e3, Option.bind_some, mem, if_true], ?_, ?_⟩
 ·exact (zd1 hm).mp (by simpa using hl)
 ·rw [List.getElem_map, List.getElem_range] at hg
  exact hg
theorem zmn {mc : MT} {mb : MS} {Q : Fl × R -> Prop} (I : Nat -> R -> Prop) (turn : ∀ m ρ, I m ρ -> Ok (mc ρ) fun p => (p.1 = true -> ∃ m', m = m' + 1 /\ Ok (mb p.2) fun q => q.1 = .next /\ I m' q.2) /\ (p.1 = false -> Q (.next, p.2))) : ∀ (fuel m : Nat) (ρ : R), m < fuel -> I m ρ -> Ok (zh5 mc mb fuel ρ) Q
 | 0, m, ρ, h, _ => by lia
 | n + 1, m, ρ, h, hI => by
  obtain ⟨⟨b, ρ1⟩, e, h1, h2⟩ := turn m ρ hI
  unfold zh5
  rw [e]
  cases b with
  | false => exact ok_some.mpr (h2 rfl)
  | true =>
   obtain ⟨m', rfl, ⟨f, ρ2⟩, e2, ef, hI2⟩ := h1 rfl
   show Ok ((mb ρ1).bind _) Q
   rw [e2]
   cases (show f = .next from ef)
   exact zmn I turn n m' ρ2 (by lia) hI2
theorem like_par (ns : List Int) : likeS (.par (ns.map .int)) (.par (ns.map .int)) = true := by
 show (match zcn (ns.map D.int), zcn (ns.map D.int) with
  | some a, some b => a == b
  | _, _ => false) = true
 rw [zcr]; exact beq_self_eq_true ns
section
variable {j : Nat} {mk me : ME} {ρ : R}
theorem ok_eCallMO {F : List D -> List D -> Option (Sl × List D)} {Q : D × R -> Prop} : Ok (eCallMO F mo ma ρ) Q = Ok ((mo ρ).bind fun p => (ma p.2).bind fun q => (F p.1 q.1).bind fun r => match r.1 with
 | .val d => some (d, q.2)
 | .own ds => some (.lst ds, q.2)
 | _ => none) Q := rfl
theorem znh {mp : MP'} {Q : D × R -> Prop} : Ok (zkp F j mp ma ρ) Q = Ok (if (ρ[j]?.bind Sl.items).isSome then (mp ρ).bind fun c => if c.1.length <= 16777216 then (ma c.2).bind fun p => p.2[j]?.bind fun s => s.items.bind fun cs => (F cs (.lst c.1) p.1).bind fun r => match r.1 with
 | .val d => some (d, p.2.set j (s.put r.2))
 | .own ds => some (.lst ds, p.2.set j (s.put r.2))
 | _ => none else none else none) Q := rfl
theorem ok_sUnT {Q : Fl × R -> Prop} : Ok (sUnT j is ρ) Q = Ok (match ρ[j]? with
 | some (.tre (.lst cs)) => if cs.length = is.length then some (.next, zn3 is cs (ρ.set j .emp)) else none
 | _ => none) Q := rfl
theorem ok_cNil : Ok (cNil ρ) Q ↔ Q ([], ρ) := ok_some
theorem ok_cVal {r : MP'} : Ok (cVal me r ρ) Q ↔ Ok (me ρ) fun p => Ok (r p.2) fun q => Q (.d p.1 :: q.1, q.2) := ok_bind.trans (zaQ fun _ => ok_map)
theorem ok_cOwn {r : MP'} : Ok (cOwn j r ρ) Q = Ok (match ρ[j]? with
 | some (.own ds) => (r (ρ.set j .emp)).map fun q => (.l ds :: q.1, q.2)
 | _ => none) Q := rfl
theorem ok_fMT {m : MS} {cs : List D} {t : T} {Q : Sl × List D -> Prop} : Ok (fMT N m cs t ds) Q = Ok ((m (.par cs :: .tre t :: (ds.map .val ++ List.replicate (N - (ds.length + 2)) .emp))).bind fun p => match p.1, (p.2[0]? : Option Sl) with
 | Fl.ret r, some (Sl.par out) => some (r, out)
 | Fl.next, some (Sl.par out) => some (.val .non, out)
 | _, _ => none) Q := rfl
theorem ok_eRvT {ma : ME} {Q : D × R -> Prop} : Ok (eRvT ma ρ) Q = Ok ((ma ρ).bind fun p => match p.1 with
 | .tup ds => some (.tup ds.reverse, p.2)
 | _ => none) Q := rfl
theorem ok_oRvL {ma : ME} {Q : List D × R -> Prop} : Ok (oRvL ma ρ) Q = Ok ((ma ρ).bind fun p => match p.1 with
 | .tup ds => some (ds.reverse, p.2)
 | _ => none) Q := rfl
theorem ok_turnT {Q : Option (List D) × R -> Prop} : Ok (turnT g mt mo d ρ) Q ↔ Ok (g d ρ) fun ρ1 => Ok (mt ρ1) fun p => (p.1 = true -> Ok (mo p.2) fun q => zdu q.2 = true /\ Q (some q.1, q.2)) /\ (p.1 = false -> zdu p.2 = true /\ Q (none, p.2)) := by
 unfold turnT; rw [ok_bind]; exact zaQ fun ρ1 => by rw [ok_bind]; exact zaQ fun p => by rw [zlc, ok_bind, ze8, ok_some]; exact and_congr (imp_congr Iff.rfl (zaQ fun q => by rw [ze8, ok_some])) Iff.rfl
theorem ok_turnQ {me : ME} {Q : Option D × R -> Prop} : Ok (turnQ b c g mt me d ρ) Q ↔ Ok (g d ρ) fun ρ1 => Ok (mt ρ1) fun p => (p.1 = true -> Ok (me p.2) fun q => zoY b c q.2 = true /\ Q (some q.1, q.2)) /\ (p.1 = false -> zoY b c p.2 = true /\ Q (none, p.2)) := by
 unfold turnQ; rw [ok_bind]; exact zaQ fun ρ1 => by rw [ok_bind]; exact zaQ fun p => by rw [zlc, ok_bind, ze8, ok_some]; exact and_congr (imp_congr Iff.rfl (zaQ fun q => by rw [ze8, ok_some])) Iff.rfl
end
end M
local macro_rules | `(tactic| simp! only [$ls,*]) => `(tactic| simp only [↓M.ok_sIf, ↓M.ok_eIf, ↓M.ok_tAnd, ↓M.ok_tOr, ↓M.ok_eAnd, ↓M.ok_eOr, ↓M.ok_chain, ↓M.ok_turnM, ↓M.ok_turnP, ↓M.ok_turnQ, ↓M.ok_bind, ↓M.ok_map, ↓M.ze8, ↓M.ok_some, ↓M.ok_sNext, ↓M.ok_sSeq, ↓M.ok_sRet, ↓M.ok_sRetO, ↓M.ok_sRetV, ↓M.ok_gN, ↓M.ok_gsNil, ↓M.znK, ↓M.ok_gT, ↓M.ok_sAsg, ↓M.ok_sSet, ↓M.ok_sSetO, ↓M.ok_sApp, ↓M.ok_sPut, ↓M.ok_eC, ↓M.ok_eVar, ↓M.ok_aNil, ↓M.ok_aCons, ↓M.ok_m2, ↓M.ok_m1, ↓M.ok_mC, ↓M.ok_eIxV, ↓M.ok_eLenV, ↓M.ok_oC, ↓M.ok_eTup, ↓M.ok_oLst, ↓M.ok_tTru, ↓M.ok_tNotM, ↓M.ok_eCall, ↓M.ok_oCall, ↓M.zoJ, ↓M.ok_eFz, ↓M.ok_eCut, ↓M.ok_pNo, ↓M.ok_pSome, ↓M.ok_iSeq, ↓M.ok_iR1, ↓M.ok_iR2, ↓M.ok_sFor, ↓M.ok_oLC, ↓M.ok_tTrue, ↓M.ok_fP, ↓M.ok_fM, ↓M.ok_sAugI, ↓M.ok_eCutS, ↓M.ok_oRep, ↓M.ok_iZ2, ↓M.ok_iZ3, ↓M.ok_iEn, ↓M.ok_oLCM, ↓M.znh, ↓M.ok_sUnT, ↓M.ok_cNil, ↓M.ok_cVal, ↓M.ok_cOwn, ↓M.ok_fMT, ↓M.ok_oRvL, ↓M.ok_turnT, M.dI2, M.dSub, M.dDiv, M.dMod, M.dPow, M.dLt, M.dLe, M.dGt, M.dGe, M.dNeg, M.dMul, M.dAdd, M.dTru, M.dNot, M.Sl.read, M.Sl.items, M.Sl.put, M.hasV, M.zdu, M.fz1, M.fzL, M.capS, M.capR, M.eIsI.noS1, M.okT, M.isI, M.d2I, M.dSum, M.dAll, M.zgW, M.zk8, M.dIsN, M.zjW, M.zlV, M.zoG, M.zlI, M.fzD, M.zn3, M.Ch.sl, M.Sl.dic, M.Sl.dit, M.Sl.tree, M.Sl.putT, M.Sl.dit, M.fzT, M.Ch.D, M.fzDT, M.fzU, M.rowsOf, M.zoY, M.zoF, M.seqK_ret, M.seqK_brk, M.zos, M.znQ, M.zoo, M.turn_brk, M.turn_ret, List.getElem?_cons_zero, List.getElem?_cons_succ, List.set_cons_zero, List.set_cons_succ, Option.bind_some, Option.isSome_some, Option.map_some, if_true, List.map_cons, List.map_nil, List.replicate_succ, List.replicate_zero, List.length_cons, List.length_nil, List.cons_append, List.nil_append, List.all_cons, List.all_nil, Bool.and_true, Bool.true_and, Bool.and_self, Bool.true_eq_false, Bool.false_eq_true, if_false, M.dEq_int, M.dNe_int, List.length_map, List.length_append, M.atI_n, M.atI_lit, M.ixN_n, M.ixN_lit, M.atI_n1, M.ok_none, M.dItems_l, M.dItems_t, M.dItems_s, M.dLen_l, M.dLen_t, M.dLen_s, M.dTuple_l, M.dTuple_t, M.dTuple_s, M.dCut_l, M.dCut_t, M.dCut_s, M.dIx_l, M.dIx_t, M.dIx_s, M.dEq_str, M.zip3D_w, M.isN_non, M.isN_int, M.isN_bl, M.isN_str, M.isN_lst, M.isN_tup, M.zcr, Int.toNat_natCast, M.rangeD_w, M.zaE, decide_eq_true_eq, Bool.and_eq_true, true_and, and_true, Nat.reduceAdd, Nat.reduceLeDiff, Int.reduceLT, Int.reduceLE, Int.reduceNeg, Nat.reduceSub, Int.reducePow, Int.reduceMul, Int.reduceAdd, Int.reduceSub, Int.reduceMod, Int.reduceDiv, Nat.reduceLT, Nat.reduceBNe, Nat.reduceEqDiff, List.filter_cons, List.filter_nil, bne_self_eq_false, Int.reduceToNat, Nat.reducePow, M.znr, Int.reduceEq, Int.reduceBEq, Int.reduceBNe, Nat.reduceMod, decide_true, decide_false, beq_iff_eq, beq_eq_false_iff_ne, bne_iff_ne, bne_eq_false_iff_eq, decide_eq_false_iff_not, Int.not_le, Int.not_lt, ne_eq, forall_const, true_implies, false_implies, reduceCtorEq, imp_self, implies_true, M.D.bl.injEq, exists_eq_left', Bool.not_true, Bool.not_false, $ls,*])
namespace Prf
open L2 M PySem
noncomputable def top (i : Nat) : Stmt := PySem.Challenge.pw_tellsum_k35_whole_rings_turned.main.body.getD i (.Pass ⟨0, 0, 0, 0⟩)
structure BN (K : W.Frag) (mg : Str -> Option Value) : Prop where
 all' : mg "all" = none
 any' : mg "any" = none
 enumerate' : mg "enumerate" = none
 len' : mg "len" = none
 list' : mg "list" = none
 max' : mg "max" = none
 min' : mg "min" = none
 range' : mg "range" = none
 reversed' : mg "reversed" = none
 sum' : mg "sum" = none
 tuple' : mg "tuple" = none
 zip' : mg "zip" = none
 c_MOST_PLACES : ∃ t, mg "MOST_PLACES" = some (.int 24 t)
section
variable {P : Program} {w : World} {K : W.Frag} {mg : Str -> Option Value} {base hp : Heap} {f : Addr} {fd : FuncData} (X : K.In hp) (G : hp.Ns mainGlobals mg) (bn : BN K mg)
include X G bn
noncomputable abbrev zg2 : Stmt := top 5
noncomputable def zfF : ME :=
 (m2 dSub (eVar 0) (eVar 1))
noncomputable def zfv : MO :=
 oLC [] 2 (iZ2 (zad (eVar 0) (zad (eVar 1) aNil))) (gT 2 (zaH (gN 0) (zaH (gN 1) zdS))) zbj zfF
noncomputable def zf1 : MS :=
 (zi9 zfv)
noncomputable def zbA : List D -> Option Sl := fP 2 zf1
theorem zkB  (h : FnAt K "less_mores" zg2) : FD P w K mg base 1 "less_mores" (spP K 2 zbA) :=
 fdP (N := ["bounds", "mores"]) (k := 0) (m := zf1) X G h fun _ _ _ _ _ _ _ hr nd => (zaj (zfI (zcf [] 2 ["bound", "more"] rfl (zj9 bn.zip' (zaa (zab 0) (zaa (zab 1) zae))) (fun C s H fp => (zcx rfl (zau (zam 0 ndk) (zau (zam 1 ndk) zby)))) (fun C s H fp => zaz) (fun C s H fp => (zbS (zab 0) (zab 1))))))
noncomputable abbrev zhH : Stmt := top 6
noncomputable def zfc : ME :=
 (eTup (zad (mC zgW (zad (zom (eVar 0) (zeW (eVar 3)) pNo (zeW (eVar 1))) aNil)) (zad (mC zk8 (zad (zom (eVar 2) (zeW (eVar 3)) pNo (zeW (eVar 1))) aNil)) aNil)))
noncomputable def zfP : MO :=
 oLC [0, 2, 1] 1 (iR1 (zad (eVar 2) aNil)) (gN 3) zbj zfc
noncomputable def zft : MS :=
 (zi9 zfP)
noncomputable def zbD : List D -> Option Sl := fP 3 zft
theorem zks  (h : FnAt K "head_spans" zhH) : FD P w K mg base 1 "head_spans" (spP K 3 zbD) :=
 fdP (N := ["lows", "highs", "many"]) (k := 0) (m := zft) X G h fun _ _ _ _ _ _ _ hr nd => (zaj (zfI (zcf [0, 2, 1] 1 ["lows", "many", "highs", "j"] rfl (za2 bn.range' (zaa (zab 2) zae)) (fun C s H fp => (zam 3 ndk)) (fun C s H fp => zaz) (fun C s H fp => (zbT (zaa (zlO rfl bn.max' (zaa (zlT (zab 0) (zbU (zab 3)) zir (zbU (zab 1))) zae)) (zaa (se_minL rfl bn.min' (zaa (zlT (zab 2) (zbU (zab 3)) zir (zbU (zab 1))) zae)) zae)))))))
noncomputable abbrev zfD : Stmt := top 7
noncomputable def zdE : ME :=
 (m2 dAdd (eIxV 0 (m2 dMod (eVar 2) (eVar 1))) (eVar 3))
noncomputable def zdP : MO :=
 oLC [0, 2] 2 (iEn (zad (eVar 1) aNil)) (gT 2 (zaH (gN 2) (zaH (gN 3) zdS))) zbj zdE
noncomputable def zdr : MS :=
 (sSeq (sSet 2 (zdC 0))
  (sRet (mC zbQ (zad (eFz zdP) aNil))))
noncomputable def za5 : List D -> Option Sl := fP 3 zdr
theorem zi0  (h : FnAt K "row_by_heads" zfD) : FD P w K mg base 1 "row_by_heads" (spP K 2 za5) :=
 fdP (N := ["heads", "mores", "many"]) (k := 0) (m := zdr) X G h fun _ _ _ _ _ _ _ hr nd => (zaf (zas 2 (zbu 0 bn.len') nd)
  (zaj (zav (zbx bn.tuple' (zaa (SO.se (zcf [0, 2] 2 ["heads", "many", "place", "more"] rfl (zd6 bn.enumerate' (zaa (zab 1) zae)) (fun C s H fp => (zcx rfl (zau (zam 2 ndk) (zau (zam 3 ndk) zby)))) (fun C s H fp => zaz) (fun C s H fp => (zaI (zan 0 (zbX (zab 2) (zab 1))) (zab 3))))) zae)))))
noncomputable abbrev zez : Stmt := top 8
noncomputable def zdi : ME :=
 (m2 dAdd (eVar 3) (m2 dMul (eVar 0) (m2 zkM (zom (eVar 1) (zeW (eVar 3)) pNo (zeW (eVar 0))) (eIxV 2 (eVar 3)))))
noncomputable def zdk : MO :=
 oLC [2, 0, 1] 1 (iR1 (zad (eVar 2) aNil)) (gN 3) zbj zdi
noncomputable def zcV : MS :=
 (sSeq (sSet 2 (zdC 1))
  (sRet (mC zbQ (zad (eFz zdk) aNil))))
noncomputable def zbb : List D -> Option Sl := fP 3 zcV
theorem zih  (h : FnAt K "places_asking" zez) : FD P w K mg base 1 "places_asking" (spP K 2 zbb) :=
 fdP (N := ["asks", "ends", "many"]) (k := 0) (m := zcV) X G h fun _ _ _ _ _ _ _ hr nd => (zaf (zas 2 (zbu 1 bn.len') nd)
  (zaj (zav (zbx bn.tuple' (zaa (SO.se (zcf [2, 0, 1] 1 ["many", "asks", "ends", "j"] rfl (za2 bn.range' (zaa (zab 2) zae)) (fun C s H fp => (zam 3 ndk)) (fun C s H fp => zaz) (fun C s H fp => (zaI (zab 3) (zcy (zab 0) (se_index (zlT (zab 1) (zbU (zab 3)) zir (zbU (zab 0))) (zan 2 (zab 3)))))))) zae)))))
noncomputable abbrev zgt : Stmt := top 9
noncomputable def zeH : ME :=
 (eVar 0)
noncomputable def zee : MO :=
 oLC [] 2 (iSeq (eVar 4)) (gT 2 (zaH (gN 0) (zaH (gN 1) zdS))) zbj zeH
noncomputable def zef : ME :=
 (eVar 1)
noncomputable def zev : MO :=
 oLC [] 2 (iSeq (eVar 4)) (gT 2 (zaH (gN 0) (zaH (gN 1) zdS))) zbj zef
noncomputable def zem : MS :=
 (sIf (tTru (m2 dGt (eIxV 5 (eVar 9)) (eIxV 6 (eVar 9))))
  (sRet (eTup (zad (eC (.str "clash")) (zad (eIxV 7 (eVar 9)) (zad (eIxV 8 (eVar 9)) aNil)))))
  zbo)
noncomputable def zey : MS :=
 sFor (iR1 (zad (eVar 2) aNil)) (gN 9) zem
noncomputable def zex : MS :=
 (sRet (eC .non))
noncomputable def zei : MS :=
 (sSeq (sIf (tTru (m2 dLt (mC dSum (zad (eVar 6) aNil)) (eVar 3)))
  (sRet (eTup (zad (eC (.str "high")) (zad (eVar 8) aNil))))
  zbo)
  zex)
noncomputable def zd2 : MS :=
 (sSeq (sSet 4 (zat zbD (zad (eVar 0) (zad (eVar 1) (zad (eVar 2) aNil)))))
  (sSeq (sSet 5 (eFz zee))
  (sSeq (sSet 6 (eFz zev))
  (sSeq (sSet 7 (zat zbb (zad (eVar 0) (zad (eVar 5) aNil))))
  (sSeq (sSet 8 (zat zbb (zad (eVar 1) (zad (eVar 6) aNil))))
  (sSeq zey
  (sSeq (sIf (tTru (m2 dGt (mC dSum (zad (eVar 5) aNil)) (eVar 3)))
  (sRet (eTup (zad (eC (.str "low")) (zad (eVar 7) aNil))))
  zbo)
  zei)))))))
noncomputable def zcg : List D -> Option Sl := fP 10 zd2
theorem zjc (zbP : FD P w K mg base 1 "head_spans" (spP K 3 zbD)) (zbZ : FD P w K mg base 1 "places_asking" (spP K 2 zbb)) (h : FnAt K "heads_paper" zgt) : FD P w K mg base 2 "heads_paper" (spP K 4 zcg) :=
 fdP (N := ["lows", "highs", "many", "total", "spans", "low_ends", "high_ends", "low_places", "high_places", "j"]) (k := 1) (m := zd2) X G h fun _ _ _ _ _ _ _ hr nd => (zaf (zas 4 (zak zbP hr (zaa (zab 0) (zaa (zab 1) (zaa (zab 2) zae))) (hlen := (zac (zac (zac zag))))) nd)
  (zaf (ziV 5 [] 2 ["low", "high"] rfl (za6 (zab 4)) (fun C s H fp => (zcx rfl (zau (zam 0 ndk) (zau (zam 1 ndk) zby)))) (fun C s H fp => zaz) (fun C s H fp => (zab 0)) nd)
  (zaf (ziV 6 [] 2 ["low", "high"] rfl (za6 (zab 4)) (fun C s H fp => (zcx rfl (zau (zam 0 ndk) (zau (zam 1 ndk) zby)))) (fun C s H fp => zaz) (fun C s H fp => (zab 1)) nd)
  (zaf (zas 7 (zak zbZ hr (zaa (zab 0) (zaa (zab 5) zae)) (hlen := (zac (zac zag)))) nd)
  (zaf (zas 8 (zak zbZ hr (zaa (zab 1) (zaa (zab 6) zae)) (hlen := (zac (zac zag)))) nd)
  (zaf (zdj PassesOwn.never rfl (za2 bn.range' (zaa (zab 2) zae)) (zam 9 nd)
  (zaj (zbv (st_gt (zan 5 (zab 9)) (zan 6 (zab 9)))
  (zaj (zav (zbT (zaa zde (zaa (zan 7 (zab 9)) (zaa (zan 8 (zab 9)) zae))))))
  zaB)))
  (zaf (zbv (st_gt (zhh rfl bn.sum' (zaa (zab 5) zae)) (zab 3))
  (zaj (zav (zbT (zaa zde (zaa (zab 7) zae)))))
  zaB)
  (zaf (zbv (st_lt (zhh rfl bn.sum' (zaa (zab 6) zae)) (zab 3))
  (zaj (zav (zbT (zaa zde (zaa (zab 8) zae)))))
  zaB)
  (zaj (zav zjw))))))))))
noncomputable abbrev zep : Stmt := top 10
noncomputable def zdg : ME :=
 (m2 dAdd (eVar 3) (eIxV 0 (m2 dMod (eVar 2) (eVar 1))))
noncomputable def zdh : MO :=
 oLCM [4, 1] 2 0 4 (iEn (zad (eVar 0) aNil)) (gT 2 (zaH (gN 2) (zaH (gN 3) zdS))) zbj zdg
noncomputable def zc2 : MS :=
 (sSeq (zeY 4 (oRep (eFz (oLst (zad (eC (.int 0)) aNil))) (eVar 1)))
  (sSeq (sPut 4 (eVar 2) (m1 dNeg (eC (.int 1))))
  (sSeq (sPut 4 (eVar 3) (eC (.int 1)))
  (sRet (mC zbQ (zad (eFz zdh) aNil))))))
noncomputable def zbG : List D -> Option Sl := fP 5 zc2
theorem zig  (h : FnAt K "exchanged_row" zep) : FD P w K mg base 1 "exchanged_row" (spP K 4 zbG) :=
 fdP (N := ["row", "many", "giver", "taker", "shifts"]) (k := 0) (m := zc2) X G h fun _ _ _ _ _ _ _ hr nd => (zaf (zdR 4 (so_rep (SO.se (zdd (zaa zai zae))) (zab 1)) nd)
  (zaf (zgk 4 (zmE zai) (zab 2))
  (zaf (zgk 4 zai (zab 3))
  (zaj (zav (zbx bn.tuple' (zaa (SO.se (so_lcM [4, 1] 2 0 4 ["shifts", "many", "place", "number"] rfl (zd6 bn.enumerate' (zaa (zab 0) zae)) (fun C s H fp => (zcx rfl (zau (zam 2 ndk) (zau (zam 3 ndk) zby)))) (fun C s H fp => zaz) (fun C s H fp => (zaI (zab 3) (zan 0 (zbX (zab 2) (zab 1))))))) zae)))))))
noncomputable abbrev zgj : Stmt := top 11
noncomputable def zeS : MS :=
 (sApp 2 (zat zbG (zad (eVar 0) (zad (eVar 1) (zad (eVar 3) (zad (eVar 4) aNil))))))
noncomputable def zeQ : MS :=
 sFor (iR2 (zad (m2 dAdd (eVar 3) (eC (.int 1))) (zad (eVar 1) aNil))) (gN 4) zeS
noncomputable def zeF : MS :=
 zeQ
noncomputable def zec : MS :=
 sFor (iR1 (zad (eVar 1) aNil)) (gN 3) zeF
noncomputable def zdT : MS :=
 (sSeq (zeY 2 (oLst aNil))
  (sSeq zec
  (zii 2)))
noncomputable def zcd : List D -> Option Sl := fP 5 zdT
theorem zi4 (zcE : FD P w K mg base 1 "exchanged_row" (spP K 4 zbG)) (h : FnAt K "lesser_rows" zgj) : FD P w K mg base 2 "lesser_rows" (spP K 2 zcd) :=
 fdP (N := ["row", "many", "rows", "giver", "taker"]) (k := 1) (m := zdT) X G h fun _ _ _ _ _ _ _ hr nd => (zaf (zdR 2 (zdd zae) nd)
  (zaf (zdj PassesOwn.never rfl (za2 bn.range' (zaa (zab 1) zae)) (zam 3 nd)
  (zaj (zdj PassesOwn.never rfl (zhp bn.range' (zaa (zaI (zab 3) zai) (zaa (zab 1) zae))) (zam 4 nd)
  (zaj (zjB 2 (zak zcE hr (zaa (zab 0) (zaa (zab 1) (zaa (zab 3) (zaa (zab 4) zae)))) (hlen := (zac (zac (zac (zac zag)))))))))))
  (zaj (zea 2))))
noncomputable abbrev zgF : Stmt := top 12
noncomputable def zet : ME :=
 (eVar 1)
noncomputable def zeG : MO :=
 oLC [] 2 (iSeq (eVar 0)) (gT 2 (zaH (gN 0) (zaH (gN 1) zdS))) zbj zet
noncomputable def zeV : MS :=
 (sSeq (zjb 4 (fun i j => i - j) (eVar 6))
  (sSeq (sSet 7 (mC (d2I max2) (zad (eVar 5) (zad (m2 dSub (eVar 3) (eVar 4)) aNil))))
  (sSeq (sApp 2 (eVar 7))
  (zjb 3 (fun i j => i - j) (eVar 7)))))
noncomputable def zeM : MS :=
 sFor (iSeq (eVar 0)) (gT 2 (zaH (gN 5) (zaH (gN 6) zdS))) zeV
noncomputable def zdX : MS :=
 (sSeq (zeY 2 (oLst aNil))
  (sSeq (sSet 3 (eVar 1))
  (sSeq (sSet 4 (mC dSum (zad (eFz zeG) aNil)))
  (sSeq zeM
  (zii 2)))))
noncomputable def zci : List D -> Option Sl := fP 8 zdX
theorem zi3  (h : FnAt K "least_heads" zgF) : FD P w K mg base 1 "least_heads" (spP K 2 zci) :=
 fdP (N := ["spans", "total", "heads", "left", "room", "low", "high", "head"]) (k := 0) (m := zdX) X G h fun _ _ _ _ _ _ _ hr nd => (zaf (zdR 2 (zdd zae) nd)
  (zaf (zas 3 (zab 1) nd)
  (zaf (zas 4 (zhh rfl bn.sum' (zaa (SO.se (zcf [] 2 ["low", "high"] rfl (za6 (zab 0)) (fun C s H fp => (zcx rfl (zau (zam 0 ndk) (zau (zam 1 ndk) zby)))) (fun C s H fp => zaz) (fun C s H fp => (zab 1)))) zae)) nd)
  (zaf (zdj PassesOwn.never rfl (za6 (zab 0)) (zcx rfl (zau (zam 5 nd) (zau (zam 6 nd) zby)))
  (zaf (zg5 4 (zab 6) nd)
  (zaf (zas 7 (zoz rfl bn.max' (zaa (zab 5) (zaa (zbS (zab 3) (zab 4)) zae))) nd)
  (zaf (zjB 2 (zab 7))
  (zaj (zg5 3 (zab 7) nd))))))
  (zaj (zea 2))))))
noncomputable abbrev zid : Stmt := top 13
noncomputable def zga : MS :=
 (sSet 2 (m2 dDiv (m2 dMul (eVar 2) (m2 dAdd (eVar 0) (eVar 3))) (eVar 3)))
noncomputable def zgB : MS :=
 sFor (iR2 (zad (eC (.int 1)) (zad (eVar 1) aNil))) (gN 3) zga
noncomputable def zgS : MS :=
 (sSeq (sSet 2 (eC (.int 1)))
  (sSeq zgB
  (zii 2)))
noncomputable def zc5 : List D -> Option Sl := fP 4 zgS
theorem zkW  (h : FnAt K "part_ways" zid) : FD P w K mg base 1 "part_ways" (spP K 2 zc5) :=
 fdP (N := ["number", "parts", "ways", "step"]) (k := 0) (m := zgS) X G h fun _ _ _ _ _ _ _ hr nd => (zaf (zas 2 zai nd)
  (zaf (zdj PassesOwn.never rfl (zhp bn.range' (zaa zai (zaa (zab 1) zae))) (zam 3 nd)
  (zaj (zas 2 (zh9 (zcy (zab 2) (zaI (zab 0) (zab 3))) (zab 3)) nd)))
  (zaj (zea 2))))
noncomputable abbrev zhs : Stmt := top 14
noncomputable def zfo : ME :=
 (m2 dGt (eVar 0) (eVar 1))
noncomputable def zfr : MO :=
 oLC [] 2 (iSeq (eVar 0)) (gT 2 (zaH (gN 0) (zaH (gN 1) zdS))) zbj zfo
noncomputable def zfE : ME :=
 (eVar 0)
noncomputable def zfZ : MO :=
 oLC [] 2 (iSeq (eVar 0)) (gT 2 (zaH (gN 0) (zaH (gN 1) zdS))) zbj zfE
noncomputable def zfY : ME :=
 (eTup (zad (m1 dNeg (eVar 1)) (zad (m2 dSub (eVar 2) (eVar 0)) aNil)))
noncomputable def zfa : MT :=
 (tTru (m2 dGe (eVar 2) (eVar 0)))
noncomputable def zfL : MO :=
 oLC [6] 2 (iSeq (eVar 3)) (gT 2 (zaH (gN 1) (zaH (gN 2) zdS))) zfa zfY
noncomputable def zfp : MS :=
 (sSeq (sSet 6 (m2 dAdd (m2 dSub (eVar 5) (eVar 4)) (eC (.int 1))))
  (sSet 3 (m2 dAdd (eVar 3) (eFz zfL))))
noncomputable def zfk : MS :=
 sFor (iSeq (eVar 0)) (gT 2 (zaH (gN 4) (zaH (gN 5) zdS))) zfp
noncomputable def zfH : ME :=
 (m2 dMul (eVar 1) (zat zc5 (zad (eVar 2) (zad (zdC 0) aNil))))
noncomputable def zfS : MO :=
 oLC [0] 2 (iSeq (eVar 3)) (gT 2 (zaH (gN 1) (zaH (gN 2) zdS))) zbj zfH
noncomputable def zcR : MS :=
 (sSeq (sSet 3 (eFz (oLst (zad (eTup (zad (eC (.int 1)) (zad (eVar 2) aNil))) aNil))))
  (sSeq zfk
  (sRet (mC dSum (zad (eFz zfS) aNil)))))
noncomputable def zfT : MS :=
 (sSeq (sSet 2 (m2 dSub (eVar 1) (mC dSum (zad (eFz zfZ) aNil))))
  (sSeq (sIf (tTru (m2 dLt (eVar 2) (eC (.int 0))))
  (sRet (eC (.int 0)))
  zbo)
  zcR))
noncomputable def zfR : MS :=
 (sSeq (sIf (tTru (mC (dAll fun bs => bs.any id) (zad (eFz zfr) aNil)))
  (sRet (eC (.int 0)))
  zbo)
  zfT)
noncomputable def zbC : List D -> Option Sl := fP 7 zfR
theorem zjU (zfn : FD P w K mg base 1 "part_ways" (spP K 2 zc5)) (h : FnAt K "heads_many" zhs) : FD P w K mg base 2 "heads_many" (spP K 2 zbC) :=
 fdP (N := ["spans", "total", "left", "terms", "low", "high", "width"]) (k := 1) (m := zfR) X G h fun _ _ _ _ _ _ _ hr nd => (zaf (zbv (zf6 (se_any rfl bn.any' (zaa (SO.se (zcf [] 2 ["low", "high"] rfl (za6 (zab 0)) (fun C s H fp => (zcx rfl (zau (zam 0 ndk) (zau (zam 1 ndk) zby)))) (fun C s H fp => zaz) (fun C s H fp => (se_gt (zab 0) (zab 1))))) zae)))
  (zaj (zav zai))
  zaB)
  (zaf (zas 2 (zbS (zab 1) (zhh rfl bn.sum' (zaa (SO.se (zcf [] 2 ["low", "high"] rfl (za6 (zab 0)) (fun C s H fp => (zcx rfl (zau (zam 0 ndk) (zau (zam 1 ndk) zby)))) (fun C s H fp => zaz) (fun C s H fp => (zab 0)))) zae))) nd)
  (zaf (zbv (st_lt (zab 2) zai)
  (zaj (zav zai))
  zaB)
  (zaf (zas 3 (SO.se (zdd (zaa (zbT (zaa zai (zaa (zab 2) zae))) zae))) nd)
  (zaf (zdj PassesOwn.never rfl (za6 (zab 0)) (zcx rfl (zau (zam 4 nd) (zau (zam 5 nd) zby)))
  (zaf (zas 6 (zaI (zbS (zab 5) (zab 4)) zai) nd)
  (zaj (zas 3 (zaI (zab 3) (SO.se (zcf [6] 2 ["width", "sign", "rest"] rfl (za6 (zab 3)) (fun C s H fp => (zcx rfl (zau (zam 1 ndk) (zau (zam 2 ndk) zby)))) (fun C s H fp => (znA (st_ge (zab 2) (zab 0)))) (fun C s H fp => (zbT (zaa (zmE (zab 1)) (zaa (zbS (zab 2) (zab 0)) zae))))))) nd))))
  (zaj (zav (zhh rfl bn.sum' (zaa (SO.se (zcf [0] 2 ["spans", "sign", "rest"] rfl (za6 (zab 3)) (fun C s H fp => (zcx rfl (zau (zam 1 ndk) (zau (zam 2 ndk) zby)))) (fun C s H fp => zaz) (fun C s H fp => (zcy (zab 1) (zak zfn hr (zaa (zab 2) (zaa (zbu 0 bn.len') zae)) (hlen := (zac (zac zag)))))))) zae)))))))))
noncomputable abbrev zgn : Stmt := top 15
noncomputable def zdQ : MS :=
 (sRet (zat zbC (zad (m2 dAdd (eFz (oLst (zad (eTup (zad (m2 dIx (eIxV 0 (eC (.int 0))) (eC (.int 0))) (zad (m2 dSub (eVar 2) (eC (.int 1))) aNil))) aNil))) (eCut (eVar 0) (zeW (eC (.int 1))) pNo)) (zad (eVar 1) aNil))))
noncomputable def zbc : List D -> Option Sl := fP 3 zdQ
theorem zjg (zbJ : FD P w K mg base 2 "heads_many" (spP K 2 zbC)) (h : FnAt K "heads_below" zgn) : FD P w K mg base 3 "heads_below" (spP K 3 zbc) :=
 fdP (N := ["spans", "total", "first"]) (k := 2) (m := zdQ) X G h fun _ _ _ _ _ _ _ hr nd => (zaj (zav (zak zbJ hr (zaa (zaI (SO.se (zdd (zaa (zbT (zaa (zc9 (zan 0 zai) zai) (zaa (zbS (zab 2) zai) zae))) zae))) (zg0 (zab 0) (zbU zai) zir)) (zaa (zab 1) zae)) (hlen := (zac (zac zag))))))
noncomputable abbrev zht : Stmt := top 16
noncomputable def zfA : MT :=
 (tTru (m2 dLt (eVar 3) (eVar 4)))
noncomputable def zfx : MS :=
 (sSeq (sSet 5 (m2 dDiv (m2 dAdd (m2 dAdd (eVar 3) (eVar 4)) (eC (.int 1))) (eC (.int 2))))
  (sIf (tTru (m2 dGt (zat zbc (zad (eVar 0) (zad (eVar 1) (zad (eVar 5) aNil)))) (eVar 2)))
  (sSet 4 (m2 dSub (eVar 5) (eC (.int 1))))
  (sSet 3 (eVar 5))))
noncomputable def zfe : MS :=
 zh5 zfA zfx 400
noncomputable def zfK : MS :=
 (sSeq (sSet 3 (m2 dIx (eIxV 0 (eC (.int 0))) (eC (.int 0))))
  (sSeq (sSet 4 (m2 dIx (eIxV 0 (eC (.int 0))) (eC (.int 1))))
  (sSeq zfe
  (zii 3))))
noncomputable def zcw : List D -> Option Sl := fP 6 zfK
theorem zkE (zbs : FD P w K mg base 3 "heads_below" (spP K 3 zbc)) (h : FnAt K "first_head" zht) : FD P w K mg base 4 "first_head" (spP K 3 zcw) :=
 fdP (N := ["spans", "total", "number", "low", "high", "middle"]) (k := 3) (m := zfK) X G h fun _ _ _ _ _ _ _ hr nd => (zaf (zas 3 (zc9 (zan 0 zai) zai) nd)
  (zaf (zas 4 (zc9 (zan 0 zai) zai) nd)
  (zaf (ss_while 400 PassesOwn.never (st_lt (zab 3) (zab 4))
  (zaf (zas 5 (zh9 (zaI (zaI (zab 3) (zab 4)) zai) zai) nd)
  (zaj (zbv (st_gt (zak zbs hr (zaa (zab 0) (zaa (zab 1) (zaa (zab 5) zae))) (hlen := (zac (zac (zac zag))))) (zab 2))
  (zaj (zas 4 (zbS (zab 5) zai) nd))
  (zaj (zas 3 (zab 5) nd))))))
  (zaj (zea 3)))))
noncomputable abbrev zit : Stmt := top 17
noncomputable def zg7 : MS :=
 (sSeq (sSet 7 (zat zcw (zad (eCut (eVar 0) (zeW (eVar 6)) pNo) (zad (eVar 4) (zad (eVar 5) aNil)))))
  (sSeq (zjb 5 (fun i j => i - j) (zat zbc (zad (eCut (eVar 0) (zeW (eVar 6)) pNo) (zad (eVar 4) (zad (eVar 7) aNil)))))
  (sSeq (sApp 3 (eVar 7))
  (zjb 4 (fun i j => i - j) (eVar 7)))))
noncomputable def zho : MS :=
 sFor (iR1 (zad (zdC 0) aNil)) (gN 6) zg7
noncomputable def zhK : MS :=
 (sSeq (zeY 3 (oLst aNil))
  (sSeq (sSet 4 (eVar 1))
  (sSeq (sSet 5 (eVar 2))
  (sSeq zho
  (zii 3)))))
noncomputable def zdK : List D -> Option Sl := fP 8 zhK
theorem zlE (zd5 : FD P w K mg base 4 "first_head" (spP K 3 zcw)) (zbs : FD P w K mg base 3 "heads_below" (spP K 3 zbc)) (h : FnAt K "heads_at" zit) : FD P w K mg base 5 "heads_at" (spP K 3 zdK) :=
 fdP (N := ["spans", "total", "number", "heads", "left", "ahead", "j", "head"]) (k := 4) (m := zhK) X G h fun _ _ _ _ _ _ _ hr nd => (zaf (zdR 3 (zdd zae) nd)
  (zaf (zas 4 (zab 1) nd)
  (zaf (zas 5 (zab 2) nd)
  (zaf (zdj PassesOwn.never rfl (za2 bn.range' (zaa (zbu 0 bn.len') zae)) (zam 6 nd)
  (zaf (zas 7 (zak zd5 hr (zaa (zg0 (zab 0) (zbU (zab 6)) zir) (zaa (zab 4) (zaa (zab 5) zae))) (hlen := (zac (zac (zac zag))))) nd)
  (zaf (zg5 5 (zak zbs hr (zaa (zg0 (zab 0) (zbU (zab 6)) zir) (zaa (zab 4) (zaa (zab 7) zae))) (hlen := (zac (zac (zac zag))))) nd)
  (zaf (zjB 3 (zab 7))
  (zaj (zg5 4 (zab 7) nd))))))
  (zaj (zea 3))))))
noncomputable abbrev zhY : Stmt := top 19
noncomputable def zgo : ME :=
 (mC dSum (zad (eCut (eVar 0) (zeW (eVar 2)) (zeW (m2 dAdd (eVar 2) (eVar 1)))) aNil))
noncomputable def zge : MO :=
 oLC [2, 1] 1 (iR1 (zad (zdC 0) aNil)) (gN 2) zbj zgo
noncomputable def zgX : MS :=
 (sSeq (sSet 2 (m2 dAdd (mC zbQ (zad (eVar 0) aNil)) (mC zbQ (zad (eVar 0) aNil))))
  (sRet (mC zbQ (zad (eFz zge) aNil))))
noncomputable def zdc : List D -> Option Sl := fP 3 zgX
theorem zlk  (h : FnAt K "ring_sums" zhY) : FD P w K mg base 1 "ring_sums" (spP K 2 zdc) :=
 fdP (N := ["row", "k", "twice"]) (k := 0) (m := zgX) X G h fun _ _ _ _ _ _ _ hr nd => (zaf (zas 2 (zaI (zbx bn.tuple' (zaa (zab 0) zae)) (zbx bn.tuple' (zaa (zab 0) zae))) nd)
  (zaj (zav (zbx bn.tuple' (zaa (SO.se (zcf [2, 1] 1 ["twice", "k", "i"] rfl (za2 bn.range' (zaa (zbu 0 bn.len') zae)) (fun C s H fp => (zam 2 ndk)) (fun C s H fp => zaz) (fun C s H fp => (zhh rfl bn.sum' (zaa (zg0 (zab 0) (zbU (zab 2)) (zbU (zaI (zab 2) (zab 1)))) zae))))) zae)))))
noncomputable abbrev zhJ : Stmt := top 20
noncomputable def zfj : ME :=
 (eIxV 0 (eVar 1))
noncomputable def zf2 : MO :=
 oLC [0] 1 (iSeq (eVar 1)) (gN 1) zbj zfj
noncomputable def zfQ : MS :=
 (sRet (mC dSum (zad (eFz zf2) aNil)))
noncomputable def zbH : List D -> Option Sl := fP 2 zfQ
theorem zkr  (h : FnAt K "chosen_sum" zhJ) : FD P w K mg base 1 "chosen_sum" (spP K 2 zbH) :=
 fdP (N := ["row", "places"]) (k := 0) (m := zfQ) X G h fun _ _ _ _ _ _ _ hr nd => (zaj (zav (zhh rfl bn.sum' (zaa (SO.se (zcf [0] 1 ["row", "place"] rfl (za6 (zab 1)) (fun C s H fp => (zam 1 ndk)) (fun C s H fp => zaz) (fun C s H fp => (zan 0 (zab 1))))) zae))))
noncomputable abbrev zhg : Stmt := top 23
noncomputable def zfJ : ME :=
 (zdG dLe dLe (eVar 0) (eVar 1) (eVar 2))
noncomputable def zfi : MO :=
 oLC [] 3 (iZ3 (zad (eVar 1) (zad (eVar 0) (zad (eVar 2) aNil)))) (gT 3 (zaH (gN 0) (zaH (gN 1) (zaH (gN 2) zdS)))) zbj zfJ
noncomputable def zfz : MS :=
 (sRet (mC (dAll fun bs => bs.all id) (zad (eFz zfi) aNil)))
noncomputable def ze3 : MS :=
 (sSeq (sIf (tTru (m2 dNe (zdC 0) (zdC 1)))
  (sRet (eC (.bl false)))
  zbo)
  zfz)
noncomputable def zbB : List D -> Option Sl := fP 3 ze3
theorem zko  (h : FnAt K "row_within" zhg) : FD P w K mg base 1 "row_within" (spP K 3 zbB) :=
 fdP (N := ["row", "least", "greatest"]) (k := 0) (m := ze3) X G h fun _ _ _ _ _ _ _ hr nd => (zaf (zbv (znx hr.units (zbu 0 bn.len') (zbu 1 bn.len'))
  (zaj (zav zis))
  zaB)
  (zaj (zav (zma rfl bn.all' (zaa (SO.se (zcf [] 3 ["low", "number", "high"] rfl (it_zip3 bn.zip' (zaa (zab 1) (zaa (zab 0) (zaa (zab 2) zae)))) (fun C s H fp => (zcx rfl (zau (zam 0 ndk) (zau (zam 1 ndk) (zau (zam 2 ndk) zby))))) (fun C s H fp => zaz) (fun C s H fp => (zhE ziJ ziJ zbV zbV (zab 0) (zab 1) (zab 2))))) zae)))))
noncomputable abbrev zfB : Stmt := top 24
noncomputable def zdw : MS :=
 (sRet (eAnd (m2 dEq (zdC 0) (eVar 2)) (eAnd (m2 dEq (zdC 1) (eVar 2)) (zat zbB (zad (eVar 0) (zad (eVar 0) (zad (eVar 1) aNil)))))))
noncomputable def zcu : List D -> Option Sl := fP 3 zdw
theorem ziH (zbM : FD P w K mg base 1 "row_within" (spP K 3 zbB)) (h : FnAt K "bounds_right" zfB) : FD P w K mg base 2 "bounds_right" (spP K 3 zcu) :=
 fdP (N := ["least", "greatest", "many"]) (k := 1) (m := zdw) X G h fun _ _ _ _ _ _ _ hr nd => (zaj (zav (zgw (zl5 hr.units (zbu 0 bn.len') (zab 2)) (zgw (zl5 hr.units (zbu 1 bn.len') (zab 2)) (zh8 (zak zbM hr (zaa (zab 0) (zaa (zab 0) (zaa (zab 1) zae))) (hlen := (zac (zac (zac zag))))))))))
noncomputable abbrev zjy : Stmt := top 25
noncomputable def ziL : MS :=
 (sRet (zdG dLe dLe (eC (.int 2)) (eVar 0) (eC (.int 5))))
noncomputable def zhI : List D -> Option Sl := fP 1 ziL
theorem znl  (h : FnAt K "k_right" zjy) : FD P w K mg base 1 "k_right" (spP K 1 zhI) :=
 fdP (N := ["k"]) (k := 0) (m := ziL) X G h fun _ _ _ _ _ _ _ hr nd => (zaj (zav (zhE ziJ ziJ zbV zbV zai (zab 0) zai)))
noncomputable abbrev zcN : Stmt := top 26
noncomputable def zck : MS :=
 (sSeq (sSet 4 (zdC 1))
  (sRet (eAnd (zat zhI (zad (eVar 0) aNil)) (eAnd (zdG dLe dLe (eVar 0) (eVar 4) (eC (.int 24))) (zat zcu (zad (eVar 2) (zad (eVar 3) (zad (eVar 4) aNil))))))))
noncomputable def zbw : List D -> Option Sl := fP 5 zck
theorem zgI (zcK : FD P w K mg base 2 "bounds_right" (spP K 3 zcu)) (zhN : FD P w K mg base 1 "k_right" (spP K 1 zhI)) (h : FnAt K "ring_parts_right" zcN) : FD P w K mg base 3 "ring_parts_right" (spP K 4 zbw) :=
 fdP (N := ["k", "sums", "least", "greatest", "many"]) (k := 2) (m := zck) X G h fun _ _ _ _ _ _ _ hr nd => (zaf (zas 4 (zbu 1 bn.len') nd)
  (zaj (zav (zgw (zak zhN hr (zaa (zab 0) zae) (hlen := (zac zag))) (zgw (zhE ziJ ziJ zbV zbV (zab 0) (zab 4) (se_globE bn.c_MOST_PLACES)) (zh8 (zak zcK hr (zaa (zab 2) (zaa (zab 3) (zaa (zab 4) zae))) (hlen := (zac (zac (zac zag)))))))))))
noncomputable abbrev zhX : Stmt := top 27
noncomputable def zgH : MS :=
 (sRet (eTup (zad (eVar 0) (zad (mC zbQ (zad (eVar 1) aNil)) (zad (mC zbQ (zad (eVar 2) aNil)) (zad (mC zbQ (zad (eVar 3) aNil)) aNil))))))
noncomputable def zgR : MS :=
 (sSeq (sIf (zi2 (tTru (zat zbw (zad (eVar 0) (zad (eVar 1) (zad (eVar 2) (zad (eVar 3) aNil)))))))
  (fun _ => none)
  zbo)
  zgH)
noncomputable def zbE : List D -> Option Sl := fP 4 zgR
theorem zkP (zb1 : FD P w K mg base 3 "ring_parts_right" (spP K 4 zbw)) (h : FnAt K "made_ring" zhX) : FD P w K mg base 4 "made_ring" (spP K 4 zbE) :=
 fdP (N := ["k", "sums", "least", "greatest"]) (k := 3) (m := zgR) X G h fun _ _ _ _ _ _ _ hr nd => (zaf (zbv (zie (zf6 (zak zb1 hr (zaa (zab 0) (zaa (zab 1) (zaa (zab 2) (zaa (zab 3) zae)))) (hlen := (zac (zac (zac (zac zag))))))))
  (zaj zmg)
  zaB)
  (zaj (zav (zbT (zaa (zab 0) (zaa (zbx bn.tuple' (zaa (zab 1) zae)) (zaa (zbx bn.tuple' (zaa (zab 2) zae)) (zaa (zbx bn.tuple' (zaa (zab 3) zae)) zae))))))))
noncomputable abbrev zhz : Stmt := top 28
noncomputable def zfs : MS :=
 (sRet (eAnd (zat zbB (zad (eVar 1) (zad (eIxV 0 (eC (.int 2))) (zad (eIxV 0 (eC (.int 3))) aNil)))) (m2 dEq (zat zdc (zad (eVar 1) (zad (eIxV 0 (eC (.int 0))) aNil))) (eIxV 0 (eC (.int 1))))))
noncomputable def za0 : List D -> Option Sl := fP 2 zfs
theorem zkt (zfM : FD P w K mg base 1 "ring_sums" (spP K 2 zdc)) (zbM : FD P w K mg base 1 "row_within" (spP K 3 zbB)) (h : FnAt K "ring_holds" zhz) : FD P w K mg base 2 "ring_holds" (spP K 2 za0) :=
 fdP (N := ["ring", "row"]) (k := 1) (m := zfs) X G h fun _ _ _ _ _ _ _ hr nd => (zaj (zav (zgw (zak zbM hr (zaa (zab 1) (zaa (zan 0 zai) (zaa (zan 0 zai) zae))) (hlen := (zac (zac (zac zag))))) (zh8 (zl5 hr.units (zak zfM hr (zaa (zab 1) (zaa (zan 0 zai) zae)) (hlen := (zac (zac zag)))) (zan 0 zai))))))
noncomputable abbrev zgq : Stmt := top 30
noncomputable def zer : ME :=
 (eVar 2)
noncomputable def zeI : MT :=
 (tAndM (tTru (m2 dEq (m2 dMod (eVar 0) (eVar 2)) (eC (.int 0)))) (tTru (m2 dEq (m2 dMod (eVar 1) (eVar 2)) (eC (.int 0)))))
noncomputable def zeh : MO :=
 oLC [1, 2] 1 (iR2 (zad (eC (.int 1)) (zad (m2 dAdd (eVar 1) (eC (.int 1))) aNil))) (gN 2) zeI zer
noncomputable def zdY : MS :=
 (sSeq (sSet 1 (eIxV 0 (eC (.int 0))))
  (sSeq (sSet 2 (mC dLen (zad (eIxV 0 (eC (.int 1))) aNil)))
  (sRet (mC zgW (zad (eFz zeh) aNil)))))
noncomputable def zaq : List D -> Option Sl := fP 3 zdY
theorem zjm  (h : FnAt K "rounds_many" zgq) : FD P w K mg base 1 "rounds_many" (spP K 1 zaq) :=
 fdP (N := ["ring", "k", "many"]) (k := 0) (m := zdY) X G h fun _ _ _ _ _ _ _ hr nd => (zaf (zas 1 (zan 0 zai) nd)
  (zaf (zas 2 (znR bn.len' (zaa (zan 0 zai) zae)) nd)
  (zaj (zav (zlO rfl bn.max' (zaa (SO.se (zcf [1, 2] 1 ["k", "many", "divisor"] rfl (zhp bn.range' (zaa zai (zaa (zaI (zab 1) zai) zae))) (fun C s H fp => (zam 2 ndk)) (fun C s H fp => (znA (STw.st (sw_and (zhu hr.units (zbX (zab 0) (zab 2)) zai) (sw_and1 (zhu hr.units (zbX (zab 1) (zab 2)) zai)))))) (fun C s H fp => (zab 2)))) zae))))))
noncomputable abbrev zg1 : Stmt := top 31
noncomputable def ze7 : MS :=
 (sSeq (sApp 4 (eTup (zad (eVar 5) (zad (eVar 6) aNil))))
  (sSeq (zjb 6 (fun i j => i + j) (m2 dSub (eIxV 2 (m2 dMod (m2 dAdd (eVar 5) (eC (.int 1))) (eVar 3))) (eIxV 2 (eVar 5))))
  (sSet 5 (m2 dMod (m2 dAdd (eVar 5) (eIxV 0 (eC (.int 0)))) (eVar 3)))))
noncomputable def zfb : MS :=
 sFor (iR1 (zad (m2 dDiv (eVar 3) (zat zaq (zad (eVar 0) aNil))) aNil)) (gN 7) ze7
noncomputable def zfW : MS :=
 (sSeq (sSet 2 (eIxV 0 (eC (.int 1))))
  (sSeq (sSet 3 (zdC 2))
  (sSeq (zeY 4 (oLst aNil))
  (sSeq (sSet 5 (eVar 1))
  (sSeq (sSet 6 (eC (.int 0)))
  (sSeq zfb
  (sSeq (sApp 4 (eTup (zad (eVar 5) (zad (eVar 6) aNil))))
  (zii 4))))))))
noncomputable def zbF : List D -> Option Sl := fP 8 zfW
theorem zjR (zal : FD P w K mg base 1 "rounds_many" (spP K 1 zaq)) (h : FnAt K "round_walk" zg1) : FD P w K mg base 2 "round_walk" (spP K 2 zbF) :=
 fdP (N := ["ring", "j", "sums", "many", "walk", "place", "more", "step"]) (k := 1) (m := zfW) X G h fun _ _ _ _ _ _ _ hr nd => (zaf (zas 2 (zan 0 zai) nd)
  (zaf (zas 3 (zbu 2 bn.len') nd)
  (zaf (zdR 4 (zdd zae) nd)
  (zaf (zas 5 (zab 1) nd)
  (zaf (zas 6 zai nd)
  (zaf (zdj PassesOwn.never rfl (za2 bn.range' (zaa (zh9 (zab 3) (zak zal hr (zaa (zab 0) zae) (hlen := (zac zag)))) zae)) (zam 7 nd)
  (zaf (zjB 4 (zbT (zaa (zab 5) (zaa (zab 6) zae))))
  (zaf (zod 6 (zbS (zan 2 (zbX (zaI (zab 5) zai) (zab 3))) (zan 2 (zab 5))) nd)
  (zaj (zas 5 (zbX (zaI (zab 5) (zan 0 zai)) (zab 3)) nd)))))
  (zaf (zjB 4 (zbT (zaa (zab 5) (zaa (zab 6) zae))))
  (zaj (zea 4)))))))))
noncomputable abbrev zfN : Stmt := top 32
noncomputable def zdt : MS :=
 (sRet (m2 dEq (m2 dIx (m2 dIx (zat zbF (zad (eVar 0) (zad (eVar 1) aNil))) (m1 dNeg (eC (.int 1)))) (eC (.int 1))) (eC (.int 0))))
noncomputable def za4 : List D -> Option Sl := fP 2 zdt
theorem ziZ (zbL : FD P w K mg base 2 "round_walk" (spP K 2 zbF)) (h : FnAt K "round_closes" zfN) : FD P w K mg base 3 "round_closes" (spP K 2 za4) :=
 fdP (N := ["ring", "j"]) (k := 2) (m := zdt) X G h fun _ _ _ _ _ _ _ hr nd => (zaj (zav (zl5 hr.units (zc9 (zc9 (zak zbL hr (zaa (zab 0) (zaa (zab 1) zae)) (hlen := (zac (zac zag)))) (zmE zai)) zai) zai)))
noncomputable abbrev zhr : Stmt := top 33
noncomputable def ze1 : MS :=
 (sPut 1 (eVar 3) (eVar 4))
noncomputable def zfy : MS :=
 sFor (iSeq (eCut (zat zbF (zad (eVar 0) (zad (eVar 2) aNil))) pNo (zeW (m1 dNeg (eC (.int 1)))))) (gT 2 (zaH (gN 3) (zaH (gN 4) zdS))) ze1
noncomputable def zf0 : MS :=
 zfy
noncomputable def zfd : MS :=
 sFor (iR1 (zad (zat zaq (zad (eVar 0) aNil)) aNil)) (gN 2) zf0
noncomputable def zfX : MS :=
 (sSeq (zeY 1 (oRep (eFz (oLst (zad (eC (.int 0)) aNil))) (mC dLen (zad (eIxV 0 (eC (.int 1))) aNil))))
  (sSeq zfd
  (zii 1)))
noncomputable def zaF : List D -> Option Sl := fP 5 zfX
theorem zkn (zbL : FD P w K mg base 2 "round_walk" (spP K 2 zbF)) (zal : FD P w K mg base 1 "rounds_many" (spP K 1 zaq)) (h : FnAt K "ring_mores" zhr) : FD P w K mg base 3 "ring_mores" (spP K 1 zaF) :=
 fdP (N := ["ring", "mores", "j", "place", "more"]) (k := 2) (m := zfX) X G h fun _ _ _ _ _ _ _ hr nd => (zaf (zdR 1 (so_rep (SO.se (zdd (zaa zai zae))) (znR bn.len' (zaa (zan 0 zai) zae))) nd)
  (zaf (zdj PassesOwn.never rfl (za2 bn.range' (zaa (zak zal hr (zaa (zab 0) zae) (hlen := (zac zag))) zae)) (zam 2 nd)
  (zaj (zdj PassesOwn.never rfl (za6 (zg0 (zak zbL hr (zaa (zab 0) (zaa (zab 2) zae)) (hlen := (zac (zac zag)))) zir (zbU (zmE zai)))) (zcx rfl (zau (zam 3 nd) (zau (zam 4 nd) zby)))
  (zaj (zgk 1 (zab 4) (zab 3))))))
  (zaj (zea 1))))
noncomputable abbrev zhv : Stmt := top 34
noncomputable def zfh : MS :=
 (sRet (m2 dDiv (eIxV 0 (eC (.int 0))) (zat zaq (zad (eVar 0) aNil))))
noncomputable def zbI : List D -> Option Sl := fP 1 zfh
theorem zjM (zal : FD P w K mg base 1 "rounds_many" (spP K 1 zaq)) (h : FnAt K "head_times" zhv) : FD P w K mg base 2 "head_times" (spP K 1 zbI) :=
 fdP (N := ["ring"]) (k := 1) (m := zfh) X G h fun _ _ _ _ _ _ _ hr nd => (zaj (zav (zh9 (zan 0 zai) (zak zal hr (zaa (zab 0) zae) (hlen := (zac zag))))))
noncomputable abbrev zia : Stmt := top 35
noncomputable def zgN : MS :=
 (sRet (m2 dSub (m2 dIx (eIxV 0 (eC (.int 1))) (eC (.int 0))) (mC dSum (zad (eCut (zat zaF (zad (eVar 0) aNil)) pNo (zeW (eIxV 0 (eC (.int 0))))) aNil))))
noncomputable def zb7 : List D -> Option Sl := fP 1 zgN
theorem zli (zax : FD P w K mg base 3 "ring_mores" (spP K 1 zaF)) (h : FnAt K "heads_sum" zia) : FD P w K mg base 4 "heads_sum" (spP K 1 zb7) :=
 fdP (N := ["ring"]) (k := 3) (m := zgN) X G h fun _ _ _ _ _ _ _ hr nd => (zaj (zav (zbS (zc9 (zan 0 zai) zai) (zhh rfl bn.sum' (zaa (zg0 (zak zax hr (zaa (zab 0) zae) (hlen := (zac zag))) zir (zbU (zan 0 zai))) zae)))))
noncomputable abbrev zhA : Stmt := top 36
noncomputable def zfg : MS :=
 (sRet (m2 dDiv (zat zb7 (zad (eVar 0) aNil)) (zat zbI (zad (eVar 0) aNil))))
noncomputable def zaJ : List D -> Option Sl := fP 1 zfg
theorem zj4 (zbK : FD P w K mg base 2 "head_times" (spP K 1 zbI)) (zb9 : FD P w K mg base 4 "heads_sum" (spP K 1 zb7)) (h : FnAt K "ring_total" zhA) : FD P w K mg base 5 "ring_total" (spP K 1 zaJ) :=
 fdP (N := ["ring"]) (k := 4) (m := zfg) X G h fun _ _ _ _ _ _ _ hr nd => (zaj (zav (zh9 (zak zb9 hr (zaa (zab 0) zae) (hlen := (zac zag))) (zak zbK hr (zaa (zab 0) zae) (hlen := (zac zag))))))
noncomputable abbrev zhw : Stmt := top 37
noncomputable def zfV : MS :=
 (sIf (zi2 (tTru (zat za4 (zad (eVar 0) (zad (eVar 1) aNil)))))
  (sRet (eTup (zad (eC (.str "round")) (zad (eVar 1) aNil))))
  zbo)
noncomputable def zfU : MS :=
 sFor (iR1 (zad (zat zaq (zad (eVar 0) aNil)) aNil)) (gN 1) zfV
noncomputable def ze6 : MS :=
 (sRet (eC .non))
noncomputable def zfu : MS :=
 (sSeq zfU
  (sSeq (sSet 2 (m2 dMod (zat zb7 (zad (eVar 0) aNil)) (zat zbI (zad (eVar 0) aNil))))
  (sSeq (sIf (tTru (m2 dNe (eVar 2) (eC (.int 0))))
  (sRet (eTup (zad (eC (.str "part")) (zad (eVar 2) aNil))))
  zbo)
  ze6)))
noncomputable def zaW : List D -> Option Sl := fP 3 zfu
theorem zkC (zbK : FD P w K mg base 2 "head_times" (spP K 1 zbI)) (zb9 : FD P w K mg base 4 "heads_sum" (spP K 1 zb7)) (za9 : FD P w K mg base 3 "round_closes" (spP K 2 za4)) (zal : FD P w K mg base 1 "rounds_many" (spP K 1 zaq)) (h : FnAt K "sums_paper" zhw) : FD P w K mg base 5 "sums_paper" (spP K 1 zaW) :=
 fdP (N := ["ring", "j", "left"]) (k := 4) (m := zfu) X G h fun _ _ _ _ _ _ _ hr nd => (zaf (zdj PassesOwn.never rfl (za2 bn.range' (zaa (zak zal hr (zaa (zab 0) zae) (hlen := (zac zag))) zae)) (zam 1 nd)
  (zaj (zbv (zie (zf6 (zak za9 hr (zaa (zab 0) (zaa (zab 1) zae)) (hlen := (zac (zac zag))))))
  (zaj (zav (zbT (zaa zde (zaa (zab 1) zae)))))
  zaB)))
  (zaf (zas 2 (zbX (zak zb9 hr (zaa (zab 0) zae) (hlen := (zac zag))) (zak zbK hr (zaa (zab 0) zae) (hlen := (zac zag)))) nd)
  (zaf (zbv (znx hr.units (zab 2) zai)
  (zaj (zav (zbT (zaa zde (zaa (zab 2) zae)))))
  zaB)
  (zaj (zav zjw)))))
noncomputable abbrev zhW : Stmt := top 38
noncomputable def zgY : MS :=
 (zi9 (zm4 zbA (zad (eIxV 0 (eC (.int 2))) (zad (zat zaF (zad (eVar 0) aNil)) aNil))))
noncomputable def zbf : List D -> Option Sl := fP 1 zgY
theorem zk6 (zbN : FD P w K mg base 1 "less_mores" (spP K 2 zbA)) (zax : FD P w K mg base 3 "ring_mores" (spP K 1 zaF)) (h : FnAt K "ring_lows" zhW) : FD P w K mg base 4 "ring_lows" (spP K 1 zbf) :=
 fdP (N := ["ring"]) (k := 3) (m := zgY) X G h fun _ _ _ _ _ _ _ hr nd => (zaj (zfI (zj8 zbN hr (zaa (zan 0 zai) (zaa (zak zax hr (zaa (zab 0) zae) (hlen := (zac zag))) zae)) (hlen := (zac (zac zag))))))
noncomputable abbrev zhG : Stmt := top 39
noncomputable def ze5 : MS :=
 (zi9 (zm4 zbA (zad (eIxV 0 (eC (.int 3))) (zad (zat zaF (zad (eVar 0) aNil)) aNil))))
noncomputable def zaY : List D -> Option Sl := fP 1 ze5
theorem zjI (zbN : FD P w K mg base 1 "less_mores" (spP K 2 zbA)) (zax : FD P w K mg base 3 "ring_mores" (spP K 1 zaF)) (h : FnAt K "ring_highs" zhG) : FD P w K mg base 4 "ring_highs" (spP K 1 zaY) :=
 fdP (N := ["ring"]) (k := 3) (m := ze5) X G h fun _ _ _ _ _ _ _ hr nd => (zaj (zfI (zj8 zbN hr (zaa (zan 0 zai) (zaa (zak zax hr (zaa (zab 0) zae) (hlen := (zac zag))) zae)) (hlen := (zac (zac zag))))))
noncomputable abbrev zgv : Stmt := top 40
noncomputable def zdU : MS :=
 (zi9 (zm4 zbD (zad (zat zbf (zad (eVar 0) aNil)) (zad (zat zaY (zad (eVar 0) aNil)) (zad (zat zaq (zad (eVar 0) aNil)) aNil)))))
noncomputable def zaT : List D -> Option Sl := fP 1 zdU
theorem zi7 (zbP : FD P w K mg base 1 "head_spans" (spP K 3 zbD)) (zaS : FD P w K mg base 4 "ring_highs" (spP K 1 zaY)) (za1 : FD P w K mg base 4 "ring_lows" (spP K 1 zbf)) (zal : FD P w K mg base 1 "rounds_many" (spP K 1 zaq)) (h : FnAt K "round_spans" zgv) : FD P w K mg base 5 "round_spans" (spP K 1 zaT) :=
 fdP (N := ["ring"]) (k := 4) (m := zdU) X G h fun _ _ _ _ _ _ _ hr nd => (zaj (zfI (zj8 zbP hr (zaa (zak za1 hr (zaa (zab 0) zae) (hlen := (zac zag))) (zaa (zak zaS hr (zaa (zab 0) zae) (hlen := (zac zag))) (zaa (zak zal hr (zaa (zab 0) zae) (hlen := (zac zag))) zae))) (hlen := (zac (zac (zac zag)))))))
noncomputable abbrev zgr : Stmt := top 41
noncomputable def zeP : MS :=
 (sRet (eTup (zad (eC (.str "row")) (zad (zat za5 (zad (zat zci (zad (zat zaT (zad (eVar 0) aNil)) (zad (zat zaJ (zad (eVar 0) aNil)) aNil))) (zad (zat zaF (zad (eVar 0) aNil)) aNil))) aNil))))
noncomputable def zbl : MS :=
 (sSeq (sIf (tTru (m2 zjW (eVar 1) (eC .non)))
  (zii 1)
  zbo)
  zeP)
noncomputable def zd3 : MS :=
 (sSeq (sSet 1 (zat zaW (zad (eVar 0) aNil)))
  (sSeq (sIf (tTru (m2 dIsN (eVar 1) (eC .non)))
  (sSet 1 (zat zcg (zad (zat zbf (zad (eVar 0) aNil)) (zad (zat zaY (zad (eVar 0) aNil)) (zad (zat zaq (zad (eVar 0) aNil)) (zad (zat zaJ (zad (eVar 0) aNil)) aNil))))))
  zbo)
  zbl))
noncomputable def zaX : List D -> Option Sl := fP 2 zd3
theorem zjn (zdx : FD P w K mg base 2 "heads_paper" (spP K 4 zcg)) (zdv : FD P w K mg base 1 "least_heads" (spP K 2 zci)) (zaS : FD P w K mg base 4 "ring_highs" (spP K 1 zaY)) (za1 : FD P w K mg base 4 "ring_lows" (spP K 1 zbf)) (zax : FD P w K mg base 3 "ring_mores" (spP K 1 zaF)) (zaD : FD P w K mg base 5 "ring_total" (spP K 1 zaJ)) (zaM : FD P w K mg base 5 "round_spans" (spP K 1 zaT)) (zal : FD P w K mg base 1 "rounds_many" (spP K 1 zaq)) (za8 : FD P w K mg base 1 "row_by_heads" (spP K 2 za5)) (zaR : FD P w K mg base 5 "sums_paper" (spP K 1 zaW)) (h : FnAt K "fitted_ring" zgr) : FD P w K mg base 6 "fitted_ring" (spP K 1 zaX) :=
 fdP (N := ["ring", "paper"]) (k := 5) (m := zd3) X G h fun _ _ _ _ _ _ _ hr nd => (zaf (zas 1 (zak zaR hr (zaa (zab 0) zae) (hlen := (zac zag))) nd)
  (zaf (zbv (st_is (zab 1) zjw)
  (zaj (zas 1 (zak zdx hr (zaa (zak za1 hr (zaa (zab 0) zae) (hlen := (zac zag))) (zaa (zak zaS hr (zaa (zab 0) zae) (hlen := (zac zag))) (zaa (zak zal hr (zaa (zab 0) zae) (hlen := (zac zag))) (zaa (zak zaD hr (zaa (zab 0) zae) (hlen := (zac zag))) zae)))) (hlen := (zac (zac (zac (zac zag)))))) nd))
  zaB)
  (zaf (zbv (zjP (zab 1) zjw)
  (zaj (zea 1))
  zaB)
  (zaj (zav (zbT (zaa zde (zaa (zak za8 hr (zaa (zak zdv hr (zaa (zak zaM hr (zaa (zab 0) zae) (hlen := (zac zag))) (zaa (zak zaD hr (zaa (zab 0) zae) (hlen := (zac zag))) zae)) (hlen := (zac (zac zag)))) (zaa (zak zax hr (zaa (zab 0) zae) (hlen := (zac zag))) zae)) (hlen := (zac (zac zag)))) zae))))))))
noncomputable abbrev zh6 : Stmt := top 42
noncomputable def zgm : MS :=
 (sRet (zat zbC (zad (zat zaT (zad (eVar 0) aNil)) (zad (zat zaJ (zad (eVar 0) aNil)) aNil))))
noncomputable def zgJ : MS :=
 (sSeq (sIf (tTru (m2 zjW (zat zaW (zad (eVar 0) aNil)) (eC .non)))
  (sRet (eC (.int 0)))
  zbo)
  zgm)
noncomputable def za3 : List D -> Option Sl := fP 1 zgJ
theorem zkL (zbJ : FD P w K mg base 2 "heads_many" (spP K 2 zbC)) (zaD : FD P w K mg base 5 "ring_total" (spP K 1 zaJ)) (zaM : FD P w K mg base 5 "round_spans" (spP K 1 zaT)) (zaR : FD P w K mg base 5 "sums_paper" (spP K 1 zaW)) (h : FnAt K "ring_many" zh6) : FD P w K mg base 6 "ring_many" (spP K 1 za3) :=
 fdP (N := ["ring"]) (k := 5) (m := zgJ) X G h fun _ _ _ _ _ _ _ hr nd => (zaf (zbv (zjP (zak zaR hr (zaa (zab 0) zae) (hlen := (zac zag))) zjw)
  (zaj (zav zai))
  zaB)
  (zaj (zav (zak zbJ hr (zaa (zak zaM hr (zaa (zab 0) zae) (hlen := (zac zag))) (zaa (zak zaD hr (zaa (zab 0) zae) (hlen := (zac zag))) zae)) (hlen := (zac (zac zag)))))))
noncomputable abbrev zjD : Stmt := top 43
noncomputable def zh0 : MS :=
 (sRet (zat za5 (zad (zat zdK (zad (zat zaT (zad (eVar 0) aNil)) (zad (zat zaJ (zad (eVar 0) aNil)) (zad (eVar 1) aNil)))) (zad (zat zaF (zad (eVar 0) aNil)) aNil))))
noncomputable def ziD : MS :=
 (sSeq (sIf (zi2 (tTru (zdG dLe dLt (eC (.int 0)) (eVar 1) (zat za3 (zad (eVar 0) aNil)))))
  (fun _ => none)
  zbo)
  zh0)
noncomputable def zfC : List D -> Option Sl := fP 2 ziD
theorem znj (zgT : FD P w K mg base 5 "heads_at" (spP K 3 zdK)) (zbz : FD P w K mg base 6 "ring_many" (spP K 1 za3)) (zax : FD P w K mg base 3 "ring_mores" (spP K 1 zaF)) (zaD : FD P w K mg base 5 "ring_total" (spP K 1 zaJ)) (zaM : FD P w K mg base 5 "round_spans" (spP K 1 zaT)) (za8 : FD P w K mg base 1 "row_by_heads" (spP K 2 za5)) (h : FnAt K "ring_at" zjD) : FD P w K mg base 7 "ring_at" (spP K 2 zfC) :=
 fdP (N := ["ring", "number"]) (k := 6) (m := ziD) X G h fun _ _ _ _ _ _ _ hr nd => (zaf (zbv (zie (zkf ziJ zlW zbV zbV zjE zai (zab 1) (zak zbz hr (zaa (zab 0) zae) (hlen := (zac zag)))))
  (zaj zmg)
  zaB)
  (zaj (zav (zak za8 hr (zaa (zak zgT hr (zaa (zak zaM hr (zaa (zab 0) zae) (hlen := (zac zag))) (zaa (zak zaD hr (zaa (zab 0) zae) (hlen := (zac zag))) (zaa (zab 1) zae))) (hlen := (zac (zac (zac zag))))) (zaa (zak zax hr (zaa (zab 0) zae) (hlen := (zac zag))) zae)) (hlen := (zac (zac zag)))))))
noncomputable abbrev zgE : Stmt := top 45
noncomputable def zeD : MS :=
 (sRet (m2 dGt (eIxV 0 (eVar 3)) (eIxV 1 (eVar 4))))
noncomputable def zcb : MS :=
 (sSeq (sIf (tOrM (zi2 (tTru (zdG dLe dLt (eC (.int 0)) (eVar 3) (zdC 0)))) (tOrM (zi2 (tTru (zdG dLe dLt (eC (.int 0)) (eVar 4) (zdC 1)))) (tTru (m2 dNe (m2 dMod (eVar 3) (eVar 2)) (m2 dMod (eVar 4) (eVar 2))))))
  (sRet (eC (.bl false)))
  zbo)
  zeD)
noncomputable def zbh : List D -> Option Sl := fP 5 zcb
theorem zja  (h : FnAt K "clash_right" zgE) : FD P w K mg base 1 "clash_right" (spP K 5 zbh) :=
 fdP (N := ["lows", "highs", "many", "a", "b"]) (k := 0) (m := zcb) X G h fun _ _ _ _ _ _ _ hr nd => (zaf (zbv (STw.st (sw_or (zie (zkf ziJ zlW zbV zbV zjE zai (zab 3) (zbu 0 bn.len'))) (sw_or (zie (zkf ziJ zlW zbV zbV zjE zai (zab 4) (zbu 1 bn.len'))) (sw_or1 (znx hr.units (zbX (zab 3) (zab 2)) (zbX (zab 4) (zab 2)))))))
  (zaj (zav zis))
  zaB)
  (zaj (zav (se_gt (zan 0 (zab 3)) (zan 1 (zab 4))))))
noncomputable abbrev zgi : Stmt := top 46
noncomputable def zeK : ME :=
 (eAnd (zdG dLe dLt (eC (.int 0)) (eVar 3) (zdC 0)) (m2 dEq (m2 dMod (eVar 3) (eVar 1)) (eVar 2)))
noncomputable def zeq : MO :=
 oLC [0, 1] 2 (iEn (zad (eVar 2) aNil)) (gT 2 (zaH (gN 2) (zaH (gN 3) zdS))) zbj zeK
noncomputable def zeE : MS :=
 (sRet (mC (dAll fun bs => bs.all id) (zad (eFz zeq) aNil)))
noncomputable def zd9 : MS :=
 (sSeq (sIf (tTru (m2 dNe (zdC 2) (eVar 1)))
  (sRet (eC (.bl false)))
  zbo)
  zeE)
noncomputable def zbg : List D -> Option Sl := fP 3 zd9
theorem zje  (h : FnAt K "one_of_each" zgi) : FD P w K mg base 1 "one_of_each" (spP K 3 zbg) :=
 fdP (N := ["asks", "many", "places"]) (k := 0) (m := zd9) X G h fun _ _ _ _ _ _ _ hr nd => (zaf (zbv (znx hr.units (zbu 2 bn.len') (zab 1))
  (zaj (zav zis))
  zaB)
  (zaj (zav (zma rfl bn.all' (zaa (SO.se (zcf [0, 1] 2 ["asks", "many", "j", "place"] rfl (zd6 bn.enumerate' (zaa (zab 2) zae)) (fun C s H fp => (zcx rfl (zau (zam 2 ndk) (zau (zam 3 ndk) zby)))) (fun C s H fp => zaz) (fun C s H fp => (zgw (zhE ziJ zlW zbV zbV zai (zab 3) (zbu 0 bn.len')) (zh8 (zl5 hr.units (zbX (zab 3) (zab 1)) (zab 2))))))) zae)))))
noncomputable abbrev zh4 : Stmt := top 47
noncomputable def zgM : MS :=
 (sRet (eAnd (zat zbg (zad (eVar 0) (zad (eVar 1) (zad (eVar 3) aNil)))) (m2 dGt (zat zbH (zad (eVar 0) (zad (eVar 3) aNil))) (eVar 2))))
noncomputable def zc7 : List D -> Option Sl := fP 4 zgM
theorem zll (zbO : FD P w K mg base 1 "chosen_sum" (spP K 2 zbH)) (zbr : FD P w K mg base 1 "one_of_each" (spP K 3 zbg)) (h : FnAt K "low_right" zh4) : FD P w K mg base 2 "low_right" (spP K 4 zc7) :=
 fdP (N := ["lows", "many", "total", "places"]) (k := 1) (m := zgM) X G h fun _ _ _ _ _ _ _ hr nd => (zaj (zav (zgw (zak zbr hr (zaa (zab 0) (zaa (zab 1) (zaa (zab 3) zae))) (hlen := (zac (zac (zac zag))))) (zh8 (se_gt (zak zbO hr (zaa (zab 0) (zaa (zab 3) zae)) (hlen := (zac (zac zag)))) (zab 2))))))
noncomputable abbrev zhB : Stmt := top 48
noncomputable def zff : MS :=
 (sRet (eAnd (zat zbg (zad (eVar 0) (zad (eVar 1) (zad (eVar 3) aNil)))) (m2 dLt (zat zbH (zad (eVar 0) (zad (eVar 3) aNil))) (eVar 2))))
noncomputable def zcz : List D -> Option Sl := fP 4 zff
theorem zjY (zbO : FD P w K mg base 1 "chosen_sum" (spP K 2 zbH)) (zbr : FD P w K mg base 1 "one_of_each" (spP K 3 zbg)) (h : FnAt K "high_right" zhB) : FD P w K mg base 2 "high_right" (spP K 4 zcz) :=
 fdP (N := ["highs", "many", "total", "places"]) (k := 1) (m := zff) X G h fun _ _ _ _ _ _ _ hr nd => (zaj (zav (zgw (zak zbr hr (zaa (zab 0) (zaa (zab 1) (zaa (zab 3) zae))) (hlen := (zac (zac (zac zag))))) (zh8 (se_lt (zak zbO hr (zaa (zab 0) (zaa (zab 3) zae)) (hlen := (zac (zac zag)))) (zab 2))))))
noncomputable abbrev zf9 : Stmt := top 49
noncomputable def zeo : MS :=
 (sRet (eAnd (m2 dEq (eVar 5) (eC (.str "high"))) (zat zcz (zad (eVar 1) (zad (eVar 2) (zad (eVar 3) (zad (eIxV 4 (eC (.int 1))) aNil)))))))
noncomputable def zcB : MS :=
 (sSeq (sIf (tTru (m2 dEq (eVar 5) (eC (.str "low"))))
  (sRet (zat zc7 (zad (eVar 0) (zad (eVar 2) (zad (eVar 3) (zad (eIxV 4 (eC (.int 1))) aNil))))))
  zbo)
  zeo)
noncomputable def zcc : MS :=
 (sSeq (sSet 5 (eIxV 4 (eC (.int 0))))
  (sSeq (sIf (tTru (m2 dEq (eVar 5) (eC (.str "clash"))))
  (sRet (zat zbh (zad (eVar 0) (zad (eVar 1) (zad (eVar 2) (zad (eIxV 4 (eC (.int 1))) (zad (eIxV 4 (eC (.int 2))) aNil)))))))
  zbo)
  zcB))
noncomputable def zbd : List D -> Option Sl := fP 6 zcc
theorem zi1 (zdp : FD P w K mg base 1 "clash_right" (spP K 5 zbh)) (zdZ : FD P w K mg base 2 "high_right" (spP K 4 zcz)) (ze2 : FD P w K mg base 2 "low_right" (spP K 4 zc7)) (h : FnAt K "paper_right" zf9) : FD P w K mg base 3 "paper_right" (spP K 5 zbd) :=
 fdP (N := ["lows", "highs", "many", "total", "told", "word"]) (k := 2) (m := zcc) X G h fun _ _ _ _ _ _ _ hr nd => (zaf (zas 5 (zan 4 zai) nd)
  (zaf (zbv (zhu hr.units (zab 5) zde)
  (zaj (zav (zak zdp hr (zaa (zab 0) (zaa (zab 1) (zaa (zab 2) (zaa (zan 4 zai) (zaa (zan 4 zai) zae))))) (hlen := (zac (zac (zac (zac (zac zag)))))))))
  zaB)
  (zaf (zbv (zhu hr.units (zab 5) zde)
  (zaj (zav (zak ze2 hr (zaa (zab 0) (zaa (zab 2) (zaa (zab 3) (zaa (zan 4 zai) zae)))) (hlen := (zac (zac (zac (zac zag))))))))
  zaB)
  (zaj (zav (zgw (zl5 hr.units (zab 5) zde) (zh8 (zak zdZ hr (zaa (zab 1) (zaa (zab 2) (zaa (zab 3) (zaa (zan 4 zai) zae)))) (hlen := (zac (zac (zac (zac zag)))))))))))))
noncomputable abbrev zgf : Stmt := top 51
noncomputable def zeU : ME :=
 (zat za0 (zad (eVar 0) (zad (eVar 1) aNil)))
noncomputable def zeA : MO :=
 oLC [0] 1 (iSeq (zat zcd (zad (eVar 1) (zad (zat zaq (zad (eVar 0) aNil)) aNil)))) (gN 1) zbj zeU
noncomputable def zeR : MS :=
 (sRet (m1 dNot (mC (dAll fun bs => bs.any id) (zad (eFz zeA) aNil))))
noncomputable def zd8 : MS :=
 (sSeq (sIf (zi2 (tTru (zat za0 (zad (eVar 0) (zad (eVar 1) aNil)))))
  (sRet (eC (.bl false)))
  zbo)
  zeR)
noncomputable def zch : List D -> Option Sl := fP 2 zd8
theorem zjl (zdB : FD P w K mg base 2 "lesser_rows" (spP K 2 zcd)) (zbe : FD P w K mg base 2 "ring_holds" (spP K 2 za0)) (zal : FD P w K mg base 1 "rounds_many" (spP K 1 zaq)) (h : FnAt K "least_right" zgf) : FD P w K mg base 3 "least_right" (spP K 2 zch) :=
 fdP (N := ["ring", "row"]) (k := 2) (m := zd8) X G h fun _ _ _ _ _ _ _ hr nd => (zaf (zbv (zie (zf6 (zak zbe hr (zaa (zab 0) (zaa (zab 1) zae)) (hlen := (zac (zac zag))))))
  (zaj (zav zis))
  zaB)
  (zaj (zav (se_not (se_any rfl bn.any' (zaa (SO.se (zcf [0] 1 ["ring", "lesser"] rfl (za6 (zak zdB hr (zaa (zab 1) (zaa (zak zal hr (zaa (zab 0) zae) (hlen := (zac zag))) zae)) (hlen := (zac (zac zag))))) (fun C s H fp => (zam 1 ndk)) (fun C s H fp => zaz) (fun C s H fp => (zak zbe hr (zaa (zab 0) (zaa (zab 1) zae)) (hlen := (zac (zac zag))))))) zae))))))
noncomputable abbrev zgg : Stmt := top 52
noncomputable def zd0 : MS :=
 (sRet (eAnd (zdG dLe dLt (eC (.int 0)) (eVar 1) (zat zaq (zad (eVar 0) aNil))) (m1 dNot (zat za4 (zad (eVar 0) (zad (eVar 1) aNil))))))
noncomputable def zcI : List D -> Option Sl := fP 2 zd0
theorem zi6 (za9 : FD P w K mg base 3 "round_closes" (spP K 2 za4)) (zal : FD P w K mg base 1 "rounds_many" (spP K 1 zaq)) (h : FnAt K "round_right" zgg) : FD P w K mg base 4 "round_right" (spP K 2 zcI) :=
 fdP (N := ["ring", "j"]) (k := 3) (m := zd0) X G h fun _ _ _ _ _ _ _ hr nd => (zaj (zav (zgw (zhE ziJ zlW zbV zbV zai (zab 1) (zak zal hr (zaa (zab 0) zae) (hlen := (zac zag)))) (zh8 (se_not (zak za9 hr (zaa (zab 0) (zaa (zab 1) zae)) (hlen := (zac (zac zag)))))))))
noncomputable abbrev zhi : Stmt := top 53
noncomputable def ze0 : MS :=
 (sRet (zat zbd (zad (zat zbf (zad (eVar 0) aNil)) (zad (zat zaY (zad (eVar 0) aNil)) (zad (zat zaq (zad (eVar 0) aNil)) (zad (zat zaJ (zad (eVar 0) aNil)) (zad (eVar 1) aNil)))))))
noncomputable def zfO : MS :=
 (sSeq (sIf (tTru (m2 zjW (eVar 3) (eC .non)))
  (sRet (eC (.bl false)))
  zbo)
  ze0)
noncomputable def zcS : MS :=
 (sSeq (sSet 3 (zat zaW (zad (eVar 0) aNil)))
  (sSeq (sIf (tTru (m2 dEq (eVar 2) (eC (.str "part"))))
  (sRet (m2 dEq (eVar 3) (eTup (zad (eC (.str "part")) (zad (eIxV 1 (eC (.int 1))) aNil)))))
  zbo)
  zfO))
noncomputable def zcl : MS :=
 (sSeq (sIf (tTru (m2 dEq (eVar 2) (eC (.str "round"))))
  (sRet (zat zcI (zad (eVar 0) (zad (eIxV 1 (eC (.int 1))) aNil))))
  zbo)
  zcS)
noncomputable def zb8 : MS :=
 (sSeq (sSet 2 (eIxV 1 (eC (.int 0))))
  (sSeq (sIf (tTru (m2 dEq (eVar 2) (eC (.str "row"))))
  (sRet (zat zch (zad (eVar 0) (zad (eIxV 1 (eC (.int 1))) aNil))))
  zbo)
  zcl))
noncomputable def zaP : List D -> Option Sl := fP 4 zb8
theorem zkd (zdz : FD P w K mg base 3 "least_right" (spP K 2 zch)) (zdl : FD P w K mg base 3 "paper_right" (spP K 5 zbd)) (zaS : FD P w K mg base 4 "ring_highs" (spP K 1 zaY)) (za1 : FD P w K mg base 4 "ring_lows" (spP K 1 zbf)) (zaD : FD P w K mg base 5 "ring_total" (spP K 1 zaJ)) (zdq : FD P w K mg base 4 "round_right" (spP K 2 zcI)) (zal : FD P w K mg base 1 "rounds_many" (spP K 1 zaq)) (zaR : FD P w K mg base 5 "sums_paper" (spP K 1 zaW)) (h : FnAt K "ring_right" zhi) : FD P w K mg base 6 "ring_right" (spP K 2 zaP) :=
 fdP (N := ["ring", "told", "word", "of_sums"]) (k := 5) (m := zb8) X G h fun _ _ _ _ _ _ _ hr nd => (zaf (zas 2 (zan 1 zai) nd)
  (zaf (zbv (zhu hr.units (zab 2) zde)
  (zaj (zav (zak zdz hr (zaa (zab 0) (zaa (zan 1 zai) zae)) (hlen := (zac (zac zag))))))
  zaB)
  (zaf (zbv (zhu hr.units (zab 2) zde)
  (zaj (zav (zak zdq hr (zaa (zab 0) (zaa (zan 1 zai) zae)) (hlen := (zac (zac zag))))))
  zaB)
  (zaf (zas 3 (zak zaR hr (zaa (zab 0) zae) (hlen := (zac zag))) nd)
  (zaf (zbv (zhu hr.units (zab 2) zde)
  (zaj (zav (zl5 hr.units (zab 3) (zbT (zaa zde (zaa (zan 1 zai) zae))))))
  zaB)
  (zaf (zbv (zjP (zab 3) zjw)
  (zaj (zav zis))
  zaB)
  (zaj (zav (zak zdl hr (zaa (zak za1 hr (zaa (zab 0) zae) (hlen := (zac zag))) (zaa (zak zaS hr (zaa (zab 0) zae) (hlen := (zac zag))) (zaa (zak zal hr (zaa (zab 0) zae) (hlen := (zac zag))) (zaa (zak zaD hr (zaa (zab 0) zae) (hlen := (zac zag))) (zaa (zab 1) zae))))) (hlen := (zac (zac (zac (zac (zac zag)))))))))))))))
noncomputable abbrev zif : Stmt := top 55
noncomputable def zgu : MS :=
 (sSeq (sSet 2 (m2 dMod (m2 dAdd (m2 dAdd (m2 dMul (eVar 2) (eC (.int 48271))) (m2 dMul (eC (.int 7919)) (eVar 3))) (eC (.int 12345))) (eC (.int 2147483647))))
  (sSeq (sSet 4 (m2 dMod (m2 dMul (eVar 2) (eVar 2)) (eC (.int 2147483629))))
  (sSet 1 (m2 dAdd (m2 dMul (eVar 1) (eC (.int 4194304))) (m2 dMod (m2 dDiv (eVar 4) (eC (.int 256))) (eC (.int 4194304)))))))
noncomputable def zgl : MS :=
 sFor (iR1 (zad (eC (.int 28)) aNil)) (gN 3) zgu
noncomputable def zgy : MS :=
 (sSeq (sSet 1 (eC (.int 0)))
  (sSeq (sSet 2 (m2 dAdd (m2 dMod (eVar 0) (eC (.int 2147483647))) (eC (.int 6113))))
  (sSeq zgl
  (zi9 (oLst (zad (eVar 1) aNil))))))
noncomputable def zgV : MS :=
 (sSeq (sIf (tTru (m2 dGe (eVar 0) (m2 dPow (eC (.int 10)) (eC (.int 18)))))
  (zi9 (oLst (zad (m2 dMod (m2 dSub (eVar 0) (m2 dPow (eC (.int 10)) (eC (.int 18)))) (m2 dMul (m2 dMul (m2 dPow (eC (.int 10)) (eC (.int 64))) (m2 dPow (eC (.int 10)) (eC (.int 64)))) (m2 dPow (eC (.int 10)) (eC (.int 64))))) aNil)))
  zbo)
  zgy)
noncomputable def zc4 : List D -> Option Sl := fP 5 zgV
theorem zkT  (h : FnAt K "_law_deal" zif) : FD P w K mg base 1 "_law_deal" (spP K 1 zc4) :=
 fdP (N := ["cell", "great", "one", "k", "two"]) (k := 0) (m := zgV) X G h fun _ _ _ _ _ _ _ hr nd => (zaf (zbv (st_ge (zab 0) (zg8 zai zai))
  (zaj (zfI (zdd (zaa (zbX (zbS (zab 0) (zg8 zai zai)) (zcy (zcy (zg8 zai zai) (zg8 zai zai)) (zg8 zai zai))) zae))))
  zaB)
  (zaf (zas 1 zai nd)
  (zaf (zas 2 (zaI (zbX (zab 0) zai) zai) nd)
  (zaf (zdj PassesOwn.never rfl (za2 bn.range' (zaa zai zae)) (zam 3 nd)
  (zaf (zas 2 (zbX (zaI (zaI (zcy (zab 2) zai) (zcy zai (zab 3))) zai) zai) nd)
  (zaf (zas 4 (zbX (zcy (zab 2) (zab 2)) zai) nd)
  (zaj (zas 1 (zaI (zcy (zab 1) zai) (zbX (zh9 (zab 4) zai) zai)) nd)))))
  (zaj (zfI (zdd (zaa (zab 1) zae))))))))
noncomputable abbrev zh7 : Stmt := top 56
noncomputable def zgO : MS :=
 (sSeq (sSet 2 (m2 dMod (eIxV 0 (eC (.int 0))) (eVar 1)))
  (sSeq (sPut 0 (eC (.int 0)) (m2 dDiv (eIxV 0 (eC (.int 0))) (eVar 1)))
  (zii 2)))
noncomputable def zar : List D -> List D -> Option (Sl × List D) := fM 3 zgO
theorem zlu  (h : FnAt K "_law_take" zh7) : FD P w K mg base 1 "_law_take" (spM K 2 zar) :=
 fdM (N := ["pot", "many", "digit"]) (k := 0) (m := zgO) X G h fun _ _ _ _ _ _ _ hr nd => (zaf (zas 2 (zbX (zan 0 zai) (zab 1)) nd)
  (zaf (zgk 0 (zh9 (zan 0 zai) (zab 1)) zai)
  (zaj (zea 2))))
noncomputable abbrev zdJ : Stmt := top 57
noncomputable def zc6 : ME :=
 (eIxV 0 (m2 dMod (m2 dAdd (eVar 1) (eVar 3)) (eVar 2)))
noncomputable def zda : MO :=
 oLC [1, 3, 2] 1 (iR1 (zad (eVar 0) aNil)) (gN 3) zbj zc6
noncomputable def zcO : ME :=
 (mC dSum (zad (eFz zda) aNil))
noncomputable def zcW : MO :=
 oLC [1, 0, 2] 1 (iR1 (zad (eVar 2) aNil)) (gN 3) zbj zcO
noncomputable def zcA : MS :=
 (sSeq (sSet 2 (zdC 0))
  (sRet (mC zbQ (zad (eFz zcW) aNil))))
noncomputable def zbq : List D -> Option Sl := fP 3 zcA
theorem zhS  (h : FnAt K "_law_ring_sums" zdJ) : FD P w K mg base 1 "_law_ring_sums" (spP K 2 zbq) :=
 fdP (N := ["row", "k", "many"]) (k := 0) (m := zcA) X G h fun _ _ _ _ _ _ _ hr nd => (zaf (zas 2 (zbu 0 bn.len') nd)
  (zaj (zav (zbx bn.tuple' (zaa (SO.se (zcf [1, 0, 2] 1 ["k", "row", "many", "at"] rfl (za2 bn.range' (zaa (zab 2) zae)) (fun C s H fp => (zam 3 ndk)) (fun C s H fp => zaz) (fun C s H fp => (zhh rfl bn.sum' (zaa (SO.se (zcf [1, 3, 2] 1 ["row", "at", "many", "step"] rfl (za2 bn.range' (zaa (zab 0) zae)) (fun C s H fp => (zam 3 ndk)) (fun C s H fp => zaz) (fun C s H fp => (zan 0 (zbX (zaI (zab 1) (zab 3)) (zab 2)))))) zae))))) zae)))))
noncomputable abbrev zdH : Stmt := top 59
noncomputable def zcX : ME :=
 (m2 dAdd (eVar 1) (eVar 0))
noncomputable def zcU : MO :=
 oLC [10] 1 (iSeq (eVar 4)) (gN 1) zbj zcX
noncomputable def zdb : MS :=
 (sPut 4 (m2 dMod (eVar 11) (eVar 7)) (m2 dAdd (eIxV 4 (m2 dMod (eVar 11) (eVar 7))) (eVar 10)))
noncomputable def zcQ : MS :=
 sFor (iR2 (zad (eVar 9) (zad (m2 dAdd (eVar 9) (eVar 3)) aNil))) (gN 11) zdb
noncomputable def zcY : ME :=
 (m2 dAdd (eVar 1) (eVar 0))
noncomputable def zc0 : MO :=
 oLC [10] 1 (iSeq (eVar 5)) (gN 1) zbj zcY
noncomputable def zcM : ME :=
 (mC zgW (zad (eVar 0) aNil))
noncomputable def zcP : MO :=
 oLC [] 1 (iZ2 (zad (eVar 6) (zad (eVar 5) aNil))) (gN 0) zbj zcM
noncomputable def zb2 : MS :=
 (sRet (eTup (zad (eVar 3) (zad (mC zbQ (zad (eVar 4) aNil)) (zad (mC zbQ (zad (eVar 5) aNil)) (zad (mC zbQ (zad (eVar 6) aNil)) aNil))))))
noncomputable def zb5 : MS :=
 (sSeq (sIf (tTru (m2 dEq (eVar 8) (eC (.int 7))))
  (sSeq (zeY 5 zc0)
  (zeY 6 zcP))
  zbo)
  zb2)
noncomputable def zb3 : MS :=
 (sSeq (sIf (tTru (m2 dEq (eVar 8) (eC (.int 6))))
  (sSeq (sPut 6 (eVar 9) (m2 dSub (eIxV 6 (eVar 9)) (eVar 10)))
  (sPut 5 (eVar 9) (mC (d2I min2) (zad (eIxV 5 (eVar 9)) (zad (eIxV 6 (eVar 9)) aNil)))))
  zbo)
  zb5)
noncomputable def zb4 : MS :=
 (sSeq (sIf (tTru (m2 dEq (eVar 8) (eC (.int 5))))
  (sSeq (sPut 5 (eVar 9) (m2 dAdd (eIxV 5 (eVar 9)) (eVar 10)))
  (sPut 6 (eVar 9) (mC (d2I max2) (zad (eIxV 6 (eVar 9)) (zad (eIxV 5 (eVar 9)) aNil)))))
  zbo)
  zb3)
noncomputable def zb6 : MS :=
 (sSeq (sIf (tTru (m2 dIn (eVar 8) (eTup (zad (eC (.int 3)) (zad (eC (.int 4)) aNil)))))
  zcQ
  zbo)
  zb4)
noncomputable def za7 : MS :=
 (sSeq (sIf (tTru (m2 dEq (eVar 8) (eC (.int 2))))
  (zeY 4 zcU)
  zbo)
  zb6)
noncomputable def zcC : MS :=
 (sSeq (sUnT 1 [3, 4, 5, 6])
  (sSeq (sSet 7 (zdC 4))
  (sSeq (sSet 8 (zbR zar 0 (zad (eC (.int 8)) aNil)))
  (sSeq (sSet 9 (zbR zar 0 (zad (eVar 7) aNil)))
  (sSeq (sSet 10 (m2 dMul (m2 dSub (zbR zar 0 (zad (eC (.int 9)) aNil)) (eC (.int 4))) (m2 dIx (eTup (zad (eC (.int 1)) (zad (eVar 2) aNil))) (zbR zar 0 (zad (eC (.int 2)) aNil)))))
  (sSeq (sIf (tTru (m2 dEq (eVar 8) (eC (.int 1))))
  (sPut 4 (eVar 9) (m2 dAdd (eIxV 4 (eVar 9)) (eVar 10)))
  zbo)
  za7))))))
noncomputable def zbm : List D -> T -> List D -> Option (Sl × List D) := fMT 12 zcC
theorem zhV (zap : FD P w K mg base 1 "_law_take" (spM K 2 zar)) (h : FnAt K "_law_bent_ring" zdH) : FD P w K mg base 2 "_law_bent_ring" (spMT K 3 zbm) :=
 fdMT (N := ["pot", "parts", "by", "k", "sums", "least", "greatest", "many", "way", "at", "more", "place"]) (k := 1) (m := zcC) X G h fun _ _ _ _ _ _ _ hr nd => (zaf (ss_unT 1 [3, 4, 5, 6] rfl nd ⟨rfl, by first | exact Or.inl rfl | exact Or.inr rfl, by first | exact Or.inl rfl | exact Or.inr rfl, rfl, by first | exact Or.inl rfl | exact Or.inr rfl, by first | exact Or.inl rfl | exact Or.inr rfl, rfl, by first | exact Or.inl rfl | exact Or.inr rfl, by first | exact Or.inl rfl | exact Or.inr rfl, rfl, by first | exact Or.inl rfl | exact Or.inr rfl, by first | exact Or.inl rfl | exact Or.inr rfl, trivial⟩)
  (zaf (zas 7 (zbu 4 bn.len') nd)
  (zaf (zas 8 (zaU 0 zap hr (zaa zai zae) (zdW (zac zag))) nd)
  (zaf (zas 9 (zaU 0 zap hr (zaa (zab 7) zae) (zdW (zac zag))) nd)
  (zaf (zas 10 (zcy (zbS (zaU 0 zap hr (zaa zai zae) (zdW (zac zag))) zai) (zc9 (zbT (zaa zai (zaa (zab 2) zae))) (zaU 0 zap hr (zaa zai zae) (zdW (zac zag))))) nd)
  (zaf (zbv (zhu hr.units (zab 8) zai)
  (zaj (zgk 4 (zaI (zan 4 (zab 9)) (zab 10)) (zab 9)))
  zaB)
  (zaf (zbv (zhu hr.units (zab 8) zai)
  (zaj (zkm 4 [10] 1 ["more", "total"] rfl (za6 (zab 4)) (fun C s H fp => (zam 1 ndk)) (fun C s H fp => zaz) (fun C s H fp => (zaI (zab 1) (zab 0))) nd))
  zaB)
  (zaf (zbv (st_in (zab 8) (zbT (zaa zai (zaa zai zae))))
  (zaj (zdj PassesOwn.never rfl (zhp bn.range' (zaa (zab 9) (zaa (zaI (zab 9) (zab 3)) zae))) (zam 11 nd)
  (zaj (zgk 4 (zaI (zan 4 (zbX (zab 11) (zab 7))) (zab 10)) (zbX (zab 11) (zab 7))))))
  zaB)
  (zaf (zbv (zhu hr.units (zab 8) zai)
  (zaf (zgk 5 (zaI (zan 5 (zab 9)) (zab 10)) (zab 9))
  (zaj (zgk 6 (zoz rfl bn.max' (zaa (zan 6 (zab 9)) (zaa (zan 5 (zab 9)) zae))) (zab 9))))
  zaB)
  (zaf (zbv (zhu hr.units (zab 8) zai)
  (zaf (zgk 6 (zbS (zan 6 (zab 9)) (zab 10)) (zab 9))
  (zaj (zgk 5 (se_min2 rfl bn.min' (zaa (zan 5 (zab 9)) (zaa (zan 6 (zab 9)) zae))) (zab 9))))
  zaB)
  (zaf (zbv (zhu hr.units (zab 8) zai)
  (zaf (zkm 5 [10] 1 ["more", "bound"] rfl (za6 (zab 5)) (fun C s H fp => (zam 1 ndk)) (fun C s H fp => zaz) (fun C s H fp => (zaI (zab 1) (zab 0))) nd)
  (zaj (zkm 6 [] 1 ["pair"] rfl (zj9 bn.zip' (zaa (zab 6) (zaa (zab 5) zae))) (fun C s H fp => (zam 0 ndk)) (fun C s H fp => zaz) (fun C s H fp => (zlO rfl bn.max' (zaa (zab 0) zae))) nd)))
  zaB)
  (zaj (zav (zbT (zaa (zab 3) (zaa (zbx bn.tuple' (zaa (zab 4) zae)) (zaa (zbx bn.tuple' (zaa (zab 5) zae)) (zaa (zbx bn.tuple' (zaa (zab 6) zae)) zae))))))))))))))))))
noncomputable abbrev zhZ : Stmt := top 58
noncomputable def zgx : ME :=
 (m2 dAdd (m2 dMul (m2 dSub (zbR zar 0 (zad (eC (.int 13)) aNil)) (eC (.int 6))) (eVar 1)) (eVar 2))
noncomputable def zgA : MO :=
 oLCM [0, 5, 7] 1 0 0 (iR1 (zad (eVar 3) aNil)) (gN 3) zbj zgx
noncomputable def zgD : ME :=
 (m2 dSub (eVar 3) (m2 dMul (zbR zar 0 (zad (eVar 1) aNil)) (eVar 2)))
noncomputable def zgC : MO :=
 oLCM [0, 6, 5] 1 0 0 (iSeq (eVar 8)) (gN 3) zbj zgD
noncomputable def zgh : ME :=
 (m2 dAdd (eVar 3) (m2 dMul (zbR zar 0 (zad (eVar 1) aNil)) (eVar 2)))
noncomputable def zgG : MO :=
 oLCM [0, 6, 5] 1 0 0 (iSeq (eVar 8)) (gN 3) zbj zgh
noncomputable def zcv : MS :=
 (sSeq (sSet 5 (m2 dIx (eTup (zad (eC (.int 1)) (zad (eC (.int 1)) (zad (eC (.int 1)) (zad (m2 dPow (eC (.int 10)) (eC (.int 58))) aNil))))) (zbR zar 0 (zad (eC (.int 4)) aNil))))
  (sSeq (sSet 6 (m2 dIx (eTup (zad (eC (.int 1)) (zad (eC (.int 2)) (zad (eC (.int 4)) (zad (eC (.int 9)) aNil))))) (zbR zar 0 (zad (eC (.int 4)) aNil))))
  (sSeq (sSet 7 (m2 dIx (eTup (zad (eC (.int 0)) (zad (eC (.int 0)) (zad (eC (.int 0)) (zad (m2 dPow (eC (.int 10)) (eC (.int 59))) aNil))))) (zbR zar 0 (zad (eC (.int 4)) aNil))))
  (sSeq (sSet 8 (eFz zgA))
  (sSeq (zeY 9 zgC)
  (sSeq (zeY 10 zgG)
  (sSeq (zeY 11 (oC zaL (zad (zat zbq (zad (eVar 8) (zad (eVar 2) aNil))) aNil)))
  (sRet (zkp zbm 0 (cVal (eVar 2) (cOwn 11 (cOwn 9 (cOwn 10 cNil)))) (zad (eVar 5) aNil))))))))))
noncomputable def zdy : MS :=
 (sSeq (sIf (tTru (m2 dEq (eVar 4) (eC (.int 1))))
  (sSet 3 (m2 dMul (eVar 2) (m2 dAdd (eC (.int 1)) (zbR zar 0 (zad (m2 dDiv (eVar 1) (eVar 2)) aNil)))))
  zbo)
  zcv)
noncomputable def zgL : MS :=
 (sSeq (sSet 2 (m2 dAdd (eC (.int 2)) (zbR zar 0 (zad (eC (.int 4)) aNil))))
  (sSeq (sSet 3 (m2 dAdd (eVar 2) (zbR zar 0 (zad (m2 dAdd (m2 dSub (eVar 1) (eVar 2)) (eC (.int 1))) aNil))))
  (sSeq (sSet 4 (zbR zar 0 (zad (eC (.int 4)) aNil)))
  (sSeq (sIf (tTru (m2 dEq (eVar 4) (eC (.int 0))))
  (sSet 3 (eVar 2))
  zbo)
  zdy))))
noncomputable def zc8 : List D -> List D -> Option (Sl × List D) := fM 12 zgL
theorem zkI (zct : FD P w K mg base 2 "_law_bent_ring" (spMT K 3 zbm)) (zcs : FD P w K mg base 1 "_law_ring_sums" (spP K 2 zbq)) (zap : FD P w K mg base 1 "_law_take" (spM K 2 zar)) (h : FnAt K "_law_ring" zhZ) : FD P w K mg base 3 "_law_ring" (spM K 2 zc8) :=
 fdM (N := ["pot", "most", "k", "many", "shape", "by", "wide", "far", "row", "least", "greatest", "sums"]) (k := 2) (m := zgL) X G h fun _ _ _ _ _ _ _ hr nd => (zaf (zas 2 (zaI zai (zaU 0 zap hr (zaa zai zae) (zdW (zac zag)))) nd)
  (zaf (zas 3 (zaI (zab 2) (zaU 0 zap hr (zaa (zaI (zbS (zab 1) (zab 2)) zai) zae) (zdW (zac zag)))) nd)
  (zaf (zas 4 (zaU 0 zap hr (zaa zai zae) (zdW (zac zag))) nd)
  (zaf (zbv (zhu hr.units (zab 4) zai)
  (zaj (zas 3 (zab 2) nd))
  zaB)
  (zaf (zbv (zhu hr.units (zab 4) zai)
  (zaj (zas 3 (zcy (zab 2) (zaI zai (zaU 0 zap hr (zaa (zh9 (zab 1) (zab 2)) zae) (zdW (zac zag))))) nd))
  zaB)
  (zaf (zas 5 (zc9 (zbT (zaa zai (zaa zai (zaa zai (zaa (zg8 zai zai) zae))))) (zaU 0 zap hr (zaa zai zae) (zdW (zac zag)))) nd)
  (zaf (zas 6 (zc9 (zbT (zaa zai (zaa zai (zaa zai (zaa zai zae))))) (zaU 0 zap hr (zaa zai zae) (zdW (zac zag)))) nd)
  (zaf (zas 7 (zc9 (zbT (zaa zai (zaa zai (zaa zai (zaa (zg8 zai zai) zae))))) (zaU 0 zap hr (zaa zai zae) (zdW (zac zag)))) nd)
  (zaf (znt 8 [0, 5, 7] 1 0 0 ["pot", "by", "far", "place"] rfl (za2 bn.range' (zaa (zab 3) zae)) (fun C s H fp => (zam 3 ndk)) (fun C s H fp => zaz) (fun C s H fp => (zaI (zcy (zbS (zaU 0 zap hr (zaa zai zae) (zdW (zac zag))) zai) (zab 1)) (zab 2))) nd)
  (zaf (zk3 9 [0, 6, 5] 1 0 0 ["pot", "wide", "by", "number"] rfl (za6 (zab 8)) (fun C s H fp => (zam 3 ndk)) (fun C s H fp => zaz) (fun C s H fp => (zbS (zab 3) (zcy (zaU 0 zap hr (zaa (zab 1) zae) (zdW (zac zag))) (zab 2)))) nd)
  (zaf (zk3 10 [0, 6, 5] 1 0 0 ["pot", "wide", "by", "number"] rfl (za6 (zab 8)) (fun C s H fp => (zam 3 ndk)) (fun C s H fp => zaz) (fun C s H fp => (zaI (zab 3) (zcy (zaU 0 zap hr (zaa (zab 1) zae) (zdW (zac zag))) (zab 2)))) nd)
  (zaf (zdR 11 (zlK bn.list' (zaa (zak zcs hr (zaa (zab 8) (zaa (zab 2) zae)) (hlen := (zac (zac zag)))) zae)) nd)
  (zaj (zav (zoW 0 zct hr (sc_val (zab 2) (zop 11 (zop 9 (zop 10 sc_nil)))) (zaa (zab 5) zae) (aLen2 (zac zag)))))))))))))))))
noncomputable abbrev ze9 : Stmt := top 60
noncomputable def zdm : MS :=
 (sRet (m2 dAdd (eFz (oC zaL (zad (eCut (eVar 0) (zeW (eVar 1)) pNo) aNil))) (eFz (oC zaL (zad (eCut (eVar 0) pNo (zeW (eVar 1))) aNil)))))
noncomputable def zaN : List D -> Option Sl := fP 2 zdm
theorem ziw  (h : FnAt K "_law_stepped" ze9) : FD P w K mg base 1 "_law_stepped" (spP K 2 zaN) :=
 fdP (N := ["some", "step"]) (k := 0) (m := zdm) X G h fun _ _ _ _ _ _ _ hr nd => (zaj (zav (zaI (SO.se (zlK bn.list' (zaa (zg0 (zab 0) (zbU (zab 1)) zir) zae))) (SO.se (zlK bn.list' (zaa (zg0 (zab 0) zir (zbU (zab 1))) zae))))))
noncomputable abbrev zgp : Stmt := top 61
noncomputable def zeg : ME :=
 (eIxV 0 (m2 dMod (m2 dSub (m2 dSub (eVar 1) (eVar 2)) (eVar 3)) (eVar 1)))
noncomputable def zek : MO :=
 oLC [4, 7, 3] 1 (iR1 (zad (eVar 7) aNil)) (gN 3) zbj zeg
noncomputable def zeB : ME :=
 (m2 dSub (eC (.int 0)) (eVar 0))
noncomputable def zen : MO :=
 oLC [] 1 (iSeq (eVar 5)) (gN 0) zbj zeB
noncomputable def zej : ME :=
 (m2 dSub (eC (.int 0)) (eVar 0))
noncomputable def zeC : MO :=
 oLC [] 1 (iSeq (eVar 6)) (gN 0) zbj zej
noncomputable def zeO : ME :=
 (m2 dSub (eC (.int 0)) (eVar 0))
noncomputable def zes : MO :=
 oLC [] 1 (iSeq (eVar 4)) (gN 0) zbj zeO
noncomputable def zeN : ME :=
 (m2 dAdd (eVar 1) (eVar 0))
noncomputable def zeL : MO :=
 oLC [2] 1 (iSeq (eVar 6)) (gN 1) zbj zeN
noncomputable def zew : ME :=
 (m2 dAdd (eVar 1) (eVar 0))
noncomputable def zeJ : MO :=
 oLC [2] 1 (iSeq (eVar 5)) (gN 1) zbj zew
noncomputable def zel : ME :=
 (m2 dAdd (eVar 2) (m2 dMul (eVar 0) (eVar 1)))
noncomputable def zed : MO :=
 oLC [3, 2] 1 (iSeq (eVar 4)) (gN 2) zbj zel
noncomputable def zd4 : MS :=
 (sSeq (sAsg (eVar 0) (gT 4 (zaH (gN 3) (zaH (gN 4) (zaH (gN 5) (zaH (gN 6) zdS))))))
  (sSeq (sSet 7 (zdC 4))
  (sSeq (sSet 8 (eFz zek))
  (zi9 (oLst (zad (zat zbE (zad (eVar 3) (zad (zat zaN (zad (eVar 4) (zad (eVar 1) aNil))) (zad (zat zaN (zad (eVar 5) (zad (eVar 1) aNil))) (zad (zat zaN (zad (eVar 6) (zad (eVar 1) aNil))) aNil))))) (zad (zat zbE (zad (eVar 3) (zad (eVar 8) (zad (eFz (oRvL (eVar 5))) (zad (eFz (oRvL (eVar 6))) aNil))))) (zad (zat zbE (zad (eVar 3) (zad (eFz zed) (zad (eFz zeJ) (zad (eFz zeL) aNil))))) (zad (zat zbE (zad (eVar 3) (zad (eFz zes) (zad (eFz zeC) (zad (eFz zen) aNil))))) aNil)))))))))
noncomputable def zcj : List D -> Option Sl := fP 9 zd4
theorem zjh (zaO : FD P w K mg base 1 "_law_stepped" (spP K 2 zaN)) (zca : FD P w K mg base 4 "made_ring" (spP K 4 zbE)) (h : FnAt K "_law_others" zgp) : FD P w K mg base 5 "_law_others" (spP K 3 zcj) :=
 fdP (N := ["ring", "step", "more", "k", "sums", "least", "greatest", "many", "behind"]) (k := 4) (m := zd4) X G h fun _ _ _ _ _ _ _ hr nd => (zaf (ss_asg (zab 0) (zcx rfl (zau (zam 3 nd) (zau (zam 4 nd) (zau (zam 5 nd) (zau (zam 6 nd) zby))))))
  (zaf (zas 7 (zbu 4 bn.len') nd)
  (zaf (ziV 8 [4, 7, 3] 1 ["sums", "many", "k", "at"] rfl (za2 bn.range' (zaa (zab 7) zae)) (fun C s H fp => (zam 3 ndk)) (fun C s H fp => zaz) (fun C s H fp => (zan 0 (zbX (zbS (zbS (zab 1) (zab 2)) (zab 3)) (zab 1)))) nd)
  (zaj (zfI (zdd (zaa (zak zca hr (zaa (zab 3) (zaa (zak zaO hr (zaa (zab 4) (zaa (zab 1) zae)) (hlen := (zac (zac zag)))) (zaa (zak zaO hr (zaa (zab 5) (zaa (zab 1) zae)) (hlen := (zac (zac zag)))) (zaa (zak zaO hr (zaa (zab 6) (zaa (zab 1) zae)) (hlen := (zac (zac zag)))) zae)))) (hlen := (zac (zac (zac (zac zag)))))) (zaa (zak zca hr (zaa (zab 3) (zaa (zab 8) (zaa (SO.se (ziE bn.list' bn.reversed' (zab 5))) (zaa (SO.se (ziE bn.list' bn.reversed' (zab 6))) zae)))) (hlen := (zac (zac (zac (zac zag)))))) (zaa (zak zca hr (zaa (zab 3) (zaa (SO.se (zcf [3, 2] 1 ["k", "more", "total"] rfl (za6 (zab 4)) (fun C s H fp => (zam 2 ndk)) (fun C s H fp => zaz) (fun C s H fp => (zaI (zab 2) (zcy (zab 0) (zab 1)))))) (zaa (SO.se (zcf [2] 1 ["more", "bound"] rfl (za6 (zab 5)) (fun C s H fp => (zam 1 ndk)) (fun C s H fp => zaz) (fun C s H fp => (zaI (zab 1) (zab 0))))) (zaa (SO.se (zcf [2] 1 ["more", "bound"] rfl (za6 (zab 6)) (fun C s H fp => (zam 1 ndk)) (fun C s H fp => zaz) (fun C s H fp => (zaI (zab 1) (zab 0))))) zae)))) (hlen := (zac (zac (zac (zac zag)))))) (zaa (zak zca hr (zaa (zab 3) (zaa (SO.se (zcf [] 1 ["total"] rfl (za6 (zab 4)) (fun C s H fp => (zam 0 ndk)) (fun C s H fp => zaz) (fun C s H fp => (zbS zai (zab 0))))) (zaa (SO.se (zcf [] 1 ["bound"] rfl (za6 (zab 6)) (fun C s H fp => (zam 0 ndk)) (fun C s H fp => zaz) (fun C s H fp => (zbS zai (zab 0))))) (zaa (SO.se (zcf [] 1 ["bound"] rfl (za6 (zab 5)) (fun C s H fp => (zam 0 ndk)) (fun C s H fp => zaz) (fun C s H fp => (zbS zai (zab 0))))) zae)))) (hlen := (zac (zac (zac (zac zag)))))) zae))))))))))
noncomputable abbrev zlp : Stmt := top 62
noncomputable def zml : ME :=
 (zat za3 (zad (eVar 0) aNil))
noncomputable def zm0 : MO :=
 oLC [] 1 (iSeq (eVar 6)) (gN 0) zbj zml
noncomputable def zms : ME :=
 (zat zaP (zad (eVar 0) (zad (zat zaX (zad (eVar 0) aNil)) aNil)))
noncomputable def zmI : MO :=
 oLC [] 1 (iSeq (eVar 6)) (gN 0) zbj zms
noncomputable def zmQ : ME :=
 (m2 dAdd (eVar 1) (eVar 0))
noncomputable def zmF : MO :=
 oLC [5] 1 (iSeq (eVar 9)) (gN 1) zbj zmQ
noncomputable def zmt : ME :=
 (m2 dSub (eC (.int 0)) (eVar 0))
noncomputable def zmN : MO :=
 oLC [] 1 (iSeq (eVar 9)) (gN 0) zbj zmt
noncomputable def zmG : ME :=
 (zat za0 (zad (eVar 0) (zad (eVar 1) aNil)))
noncomputable def zmH : MO :=
 oLC [] 2 (iZ2 (zad (eVar 6) (zad (eVar 10) aNil))) (gT 2 (zaH (gN 0) (zaH (gN 1) zdS))) zbj zmG
noncomputable def zmO : ME :=
 (m2 dAdd (eVar 1) (eVar 0))
noncomputable def zmZ : MO :=
 oLC [5] 1 (iSeq (eIxV 8 (eC (.int 1)))) (gN 1) zbj zmO
noncomputable def zmq : MS :=
 (sIf (tTru (m2 dNe (zat zaX (zad (eIxV 6 (eC (.int 2))) aNil)) (eTup (zad (eC (.str "row")) (zad (mC zbQ (zad (eFz zmZ) aNil)) aNil)))))
  (sRet (eC (.bl false)))
  zbo)
noncomputable def zmm : MS :=
 (sIf (tTru (m2 dGt (eVar 7) (eC (.int 0))))
  (sSeq (sSet 9 (zat zfC (zad (eVar 3) (zad (m2 dMod (zbR zar 2 (zad (m2 dPow (eC (.int 10)) (eC (.int 18))) aNil)) (eVar 7)) aNil))))
  (sSeq (zeY 10 (oLst (zad (zat zaN (zad (eVar 9) (zad (eVar 4) aNil))) (zad (eFz (oRvL (eVar 9))) (zad (eFz zmF) aNil)))))
  (sSeq (sApp 10 (eFz zmN))
  (sSeq (sIf (zi2 (tTru (mC (dAll fun bs => bs.all id) (zad (eFz zmH) aNil))))
  (sRet (eC (.bl false)))
  zbo)
  zmq))))
  zbo)
noncomputable def zmx : MS :=
 (sSeq (sIf (zi2 (tTru (mC (dAll fun bs => bs.all id) (zad (eFz zmI) aNil))))
  (sRet (eC (.bl false)))
  zbo)
  zmm)
noncomputable def zlw : MS :=
 (sSeq (zeY 2 (zm4 zc4 (zad (eVar 1) aNil)))
  (sSeq (sSet 3 (zbR zc8 2 (zad (eC (.int 24)) aNil)))
  (sSeq (sSet 4 (zbR zar 2 (zad (mC dLen (zad (eIxV 3 (eC (.int 1))) aNil)) aNil)))
  (sSeq (sSet 5 (m2 dMul (m2 dSub (zbR zar 2 (zad (eC (.int 9)) aNil)) (eC (.int 4))) (m2 dIx (eTup (zad (eC (.int 1)) (zad (m2 dPow (eC (.int 10)) (eC (.int 57))) aNil))) (zbR zar 2 (zad (eC (.int 2)) aNil)))))
  (sSeq (sSet 6 (zat zcj (zad (eVar 3) (zad (eVar 4) (zad (eVar 5) aNil)))))
  (sSeq (sSet 7 (zat za3 (zad (eVar 3) aNil)))
  (sSeq (sSet 8 (zat zaX (zad (eVar 3) aNil)))
  (sSeq (sIf (tOrM (tTru (m2 dNe (eFz zm0) (m2 dMul (eFz (oLst (zad (eVar 7) aNil))) (eC (.int 4))))) (tTru (m2 zlI (zat zaP (zad (eVar 3) (zad (eVar 8) aNil))) (eC (.bl true)))))
  (sRet (eC (.bl false)))
  zbo)
  zmx))))))))
noncomputable def zk7 : MS :=
 sFor (iSeq (m2 dAdd (eCut (eVar 0) pNo (zeW (eC (.int 4)))) (eFz (oLst (zad (eC (.int 0)) aNil))))) (gN 1) zlw
noncomputable def m_law : MS :=
 (sSeq zk7
  (sRet (eC (.bl true))))
noncomputable def zkY : List D -> Option Sl := fP 11 m_law
theorem ok_law (zfG : FD P w K mg base 1 "_law_deal" (spP K 1 zc4)) (zdD : FD P w K mg base 5 "_law_others" (spP K 3 zcj)) (ze4 : FD P w K mg base 3 "_law_ring" (spM K 2 zc8)) (zaO : FD P w K mg base 1 "_law_stepped" (spP K 2 zaN)) (zap : FD P w K mg base 1 "_law_take" (spM K 2 zar)) (zbY : FD P w K mg base 6 "fitted_ring" (spP K 1 zaX)) (zhL : FD P w K mg base 7 "ring_at" (spP K 2 zfC)) (zbe : FD P w K mg base 2 "ring_holds" (spP K 2 za0)) (zbz : FD P w K mg base 6 "ring_many" (spP K 1 za3)) (zcJ : FD P w K mg base 6 "ring_right" (spP K 2 zaP)) (F : Fun K "law" "law" zlp f fd) : FnOk P w K mg base CX0 8 f fd ["script"] (spP K 1 zkY) :=
 lawP (N := ["script", "cell", "pot", "ring", "step", "more", "others", "many", "told", "row", "rows"]) (k := 7) (n := 1) (m := m_law) F fun _ _ _ _ _ _ _ hr nd => (zaf (zdj PassesOwn.never rfl (za6 (zaI (zg0 (zab 0) zir (zbU zai)) (SO.se (zdd (zaa zai zae))))) (zam 1 nd)
  (zaf (zdR 2 (zj8 zfG hr (zaa (zab 1) zae) (hlen := (zac zag))) nd)
  (zaf (zas 3 (zaU 2 ze4 hr (zaa zai zae) (zdW (zac zag))) nd)
  (zaf (zas 4 (zaU 2 zap hr (zaa (znR bn.len' (zaa (zan 3 zai) zae)) zae) (zdW (zac zag))) nd)
  (zaf (zas 5 (zcy (zbS (zaU 2 zap hr (zaa zai zae) (zdW (zac zag))) zai) (zc9 (zbT (zaa zai (zaa (zg8 zai zai) zae))) (zaU 2 zap hr (zaa zai zae) (zdW (zac zag))))) nd)
  (zaf (zas 6 (zak zdD hr (zaa (zab 3) (zaa (zab 4) (zaa (zab 5) zae))) (hlen := (zac (zac (zac zag))))) nd)
  (zaf (zas 7 (zak zbz hr (zaa (zab 3) zae) (hlen := (zac zag))) nd)
  (zaf (zas 8 (zak zbY hr (zaa (zab 3) zae) (hlen := (zac zag))) nd)
  (zaf (zbv (STw.st (sw_or (znx hr.units (SO.se (zcf [] 1 ["other"] rfl (za6 (zab 6)) (fun C s H fp => (zam 0 ndk)) (fun C s H fp => zaz) (fun C s H fp => (zak zbz hr (zaa (zab 0) zae) (hlen := (zac zag)))))) (zcy (SO.se (zdd (zaa (zab 7) zae))) zai)) (sw_or1 (st_notB (zak zcJ hr (zaa (zab 3) (zaa (zab 8) zae)) (hlen := (zac (zac zag)))) zis))))
  (zaj (zav zis))
  zaB)
  (zaf (zbv (zie (zf6 (zma rfl bn.all' (zaa (SO.se (zcf [] 1 ["other"] rfl (za6 (zab 6)) (fun C s H fp => (zam 0 ndk)) (fun C s H fp => zaz) (fun C s H fp => (zak zcJ hr (zaa (zab 0) (zaa (zak zbY hr (zaa (zab 0) zae) (hlen := (zac zag))) zae)) (hlen := (zac (zac zag))))))) zae))))
  (zaj (zav zis))
  zaB)
  (zaj (zbv (st_gt (zab 7) zai)
  (zaf (zas 9 (zak zhL hr (zaa (zab 3) (zaa (zbX (zaU 2 zap hr (zaa (zg8 zai zai) zae) (zdW (zac zag))) (zab 7)) zae)) (hlen := (zac (zac zag)))) nd)
  (zaf (zdR 10 (zdd (zaa (zak zaO hr (zaa (zab 9) (zaa (zab 4) zae)) (hlen := (zac (zac zag)))) (zaa (SO.se (ziE bn.list' bn.reversed' (zab 9))) (zaa (SO.se (zcf [5] 1 ["more", "number"] rfl (za6 (zab 9)) (fun C s H fp => (zam 1 ndk)) (fun C s H fp => zaz) (fun C s H fp => (zaI (zab 1) (zab 0))))) zae)))) nd)
  (zaf (zjB 10 (SO.se (zcf [] 1 ["number"] rfl (za6 (zab 9)) (fun C s H fp => (zam 0 ndk)) (fun C s H fp => zaz) (fun C s H fp => (zbS zai (zab 0))))))
  (zaf (zbv (zie (zf6 (zma rfl bn.all' (zaa (SO.se (zcf [] 2 ["other", "one"] rfl (zj9 bn.zip' (zaa (zab 6) (zaa (zab 10) zae))) (fun C s H fp => (zcx rfl (zau (zam 0 ndk) (zau (zam 1 ndk) zby)))) (fun C s H fp => zaz) (fun C s H fp => (zak zbe hr (zaa (zab 0) (zaa (zab 1) zae)) (hlen := (zac (zac zag))))))) zae))))
  (zaj (zav zis))
  zaB)
  (zaj (zbv (znx hr.units (zak zbY hr (zaa (zan 6 zai) zae) (hlen := (zac zag))) (zbT (zaa zde (zaa (zbx bn.tuple' (zaa (SO.se (zcf [5] 1 ["more", "number"] rfl (za6 (zan 8 zai)) (fun C s H fp => (zam 1 ndk)) (fun C s H fp => zaz) (fun C s H fp => (zaI (zab 1) (zab 0))))) zae)) zae))))
  (zaj (zav zis))
  zaB))))))
  zaB))))))))))))
  (zaj (zav zis)))
end
set_option maxHeartbeats 0 in
theorem all_mk {l : W.OpenLaw} {w : World} {K : W.Frag} {h : Heap} {mg : Str -> Option Value} {fa : Addr} (X : K.In h) (G : h.Ns mainGlobals mg) (hfa : mg "law" = some (.ref fa))
  (h1 : FnAt K "less_mores" zg2)
  (h2 : FnAt K "head_spans" zhH)
  (h3 : FnAt K "row_by_heads" zfD)
  (h4 : FnAt K "places_asking" zez)
  (h5 : FnAt K "heads_paper" zgt)
  (h6 : FnAt K "exchanged_row" zep)
  (h7 : FnAt K "lesser_rows" zgj)
  (h8 : FnAt K "least_heads" zgF)
  (h9 : FnAt K "part_ways" zid)
  (h10 : FnAt K "heads_many" zhs)
  (h11 : FnAt K "heads_below" zgn)
  (h12 : FnAt K "first_head" zht)
  (h13 : FnAt K "heads_at" zit)
  (h14 : FnAt K "ring_sums" zhY)
  (h15 : FnAt K "chosen_sum" zhJ)
  (h16 : FnAt K "row_within" zhg)
  (h17 : FnAt K "bounds_right" zfB)
  (h18 : FnAt K "k_right" zjy)
  (h19 : FnAt K "ring_parts_right" zcN)
  (h20 : FnAt K "made_ring" zhX)
  (h21 : FnAt K "ring_holds" zhz)
  (h22 : FnAt K "rounds_many" zgq)
  (h23 : FnAt K "round_walk" zg1)
  (h24 : FnAt K "round_closes" zfN)
  (h25 : FnAt K "ring_mores" zhr)
  (h26 : FnAt K "head_times" zhv)
  (h27 : FnAt K "heads_sum" zia)
  (h28 : FnAt K "ring_total" zhA)
  (h29 : FnAt K "sums_paper" zhw)
  (h30 : FnAt K "ring_lows" zhW)
  (h31 : FnAt K "ring_highs" zhG)
  (h32 : FnAt K "round_spans" zgv)
  (h33 : FnAt K "fitted_ring" zgr)
  (h34 : FnAt K "ring_many" zh6)
  (h35 : FnAt K "ring_at" zjD)
  (h36 : FnAt K "clash_right" zgE)
  (h37 : FnAt K "one_of_each" zgi)
  (h38 : FnAt K "low_right" zh4)
  (h39 : FnAt K "high_right" zhB)
  (h40 : FnAt K "paper_right" zf9)
  (h41 : FnAt K "least_right" zgf)
  (h42 : FnAt K "round_right" zgg)
  (h43 : FnAt K "ring_right" zhi)
  (h44 : FnAt K "_law_deal" zif)
  (h45 : FnAt K "_law_take" zh7)
  (h46 : FnAt K "_law_ring_sums" zdJ)
  (h47 : FnAt K "_law_bent_ring" zdH)
  (h48 : FnAt K "_law_ring" zhZ)
  (h49 : FnAt K "_law_stepped" ze9)
  (h50 : FnAt K "_law_others" zgp)
  (h51 : FnAt K "law" zlp)
  {ty0 : Tok}
  (z0 : W.nsIn K mainGlobals "all" = some none) (z1 : W.nsIn K mainGlobals "any" = some none) (z2 : W.nsIn K mainGlobals "enumerate" = some none) (z3 : W.nsIn K mainGlobals "len" = some none) (z4 : W.nsIn K mainGlobals "list" = some none) (z5 : W.nsIn K mainGlobals "max" = some none) (z6 : W.nsIn K mainGlobals "min" = some none) (z7 : W.nsIn K mainGlobals "range" = some none) (z8 : W.nsIn K mainGlobals "reversed" = some none) (z9 : W.nsIn K mainGlobals "sum" = some none) (z10 : W.nsIn K mainGlobals "tuple" = some none) (z11 : W.nsIn K mainGlobals "zip" = some none) (y0 : W.nsIn K mainGlobals "MOST_PLACES" = some (some (.int 24 ty0))) :
  ∃ fd : FuncData, (∀ (s : Shared) (v : Value), BindsTo s fd ⟨[v], []⟩ [("script", v)]) /\ ∀ base : Heap, K.In base -> base.Ns mainGlobals mg -> FnOk l.prog w K mg base CX0 8 fa fd ["script"] (spP K 1 zkY) := by
 have bn : BN K mg := ⟨W.mg_none_of X G z0, W.mg_none_of X G z1, W.mg_none_of X G z2, W.mg_none_of X G z3, W.mg_none_of X G z4, W.mg_none_of X G z5, W.mg_none_of X G z6, W.mg_none_of X G z7, W.mg_none_of X G z8, W.mg_none_of X G z9, W.mg_none_of X G z10, W.mg_none_of X G z11, ⟨_, W.mg_of X G y0⟩⟩
 obtain ⟨a, b, c, d, e, f, T⟩ := h51.law X G hfa
 refine ⟨W.fnOf "law" "law" (zfm zlp) (zcq zlp) (zaG zlp) .none a b c d e f, fun s v => .of_eq rfl, fun base _ _ => ?_⟩
 have zbN := zkB (P := l.prog) (w := w) (base := base) X G bn  h1
 have zbP := zks (P := l.prog) (w := w) (base := base) X G bn  h2
 have za8 := zi0 (P := l.prog) (w := w) (base := base) X G bn  h3
 have zbZ := zih (P := l.prog) (w := w) (base := base) X G bn  h4
 have zdx := zjc (P := l.prog) (w := w) (base := base) X G bn zbP zbZ h5
 have zcE := zig (P := l.prog) (w := w) (base := base) X G bn  h6
 have zdB := zi4 (P := l.prog) (w := w) (base := base) X G bn zcE h7
 have zdv := zi3 (P := l.prog) (w := w) (base := base) X G bn  h8
 have zfn := zkW (P := l.prog) (w := w) (base := base) X G bn  h9
 have zbJ := zjU (P := l.prog) (w := w) (base := base) X G bn zfn h10
 have zbs := zjg (P := l.prog) (w := w) (base := base) X G bn zbJ h11
 have zd5 := zkE (P := l.prog) (w := w) (base := base) X G bn zbs h12
 have zgT := zlE (P := l.prog) (w := w) (base := base) X G bn zd5 zbs h13
 have zfM := zlk (P := l.prog) (w := w) (base := base) X G bn  h14
 have zbO := zkr (P := l.prog) (w := w) (base := base) X G bn  h15
 have zbM := zko (P := l.prog) (w := w) (base := base) X G bn  h16
 have zcK := ziH (P := l.prog) (w := w) (base := base) X G bn zbM h17
 have zhN := znl (P := l.prog) (w := w) (base := base) X G bn  h18
 have zb1 := zgI (P := l.prog) (w := w) (base := base) X G bn zcK zhN h19
 have zca := zkP (P := l.prog) (w := w) (base := base) X G bn zb1 h20
 have zbe := zkt (P := l.prog) (w := w) (base := base) X G bn zfM zbM h21
 have zal := zjm (P := l.prog) (w := w) (base := base) X G bn  h22
 have zbL := zjR (P := l.prog) (w := w) (base := base) X G bn zal h23
 have za9 := ziZ (P := l.prog) (w := w) (base := base) X G bn zbL h24
 have zax := zkn (P := l.prog) (w := w) (base := base) X G bn zbL zal h25
 have zbK := zjM (P := l.prog) (w := w) (base := base) X G bn zal h26
 have zb9 := zli (P := l.prog) (w := w) (base := base) X G bn zax h27
 have zaD := zj4 (P := l.prog) (w := w) (base := base) X G bn zbK zb9 h28
 have zaR := zkC (P := l.prog) (w := w) (base := base) X G bn zbK zb9 za9 zal h29
 have za1 := zk6 (P := l.prog) (w := w) (base := base) X G bn zbN zax h30
 have zaS := zjI (P := l.prog) (w := w) (base := base) X G bn zbN zax h31
 have zaM := zi7 (P := l.prog) (w := w) (base := base) X G bn zbP zaS za1 zal h32
 have zbY := zjn (P := l.prog) (w := w) (base := base) X G bn zdx zdv zaS za1 zax zaD zaM zal za8 zaR h33
 have zbz := zkL (P := l.prog) (w := w) (base := base) X G bn zbJ zaD zaM zaR h34
 have zhL := znj (P := l.prog) (w := w) (base := base) X G bn zgT zbz zax zaD zaM za8 h35
 have zdp := zja (P := l.prog) (w := w) (base := base) X G bn  h36
 have zbr := zje (P := l.prog) (w := w) (base := base) X G bn  h37
 have ze2 := zll (P := l.prog) (w := w) (base := base) X G bn zbO zbr h38
 have zdZ := zjY (P := l.prog) (w := w) (base := base) X G bn zbO zbr h39
 have zdl := zi1 (P := l.prog) (w := w) (base := base) X G bn zdp zdZ ze2 h40
 have zdz := zjl (P := l.prog) (w := w) (base := base) X G bn zdB zbe zal h41
 have zdq := zi6 (P := l.prog) (w := w) (base := base) X G bn za9 zal h42
 have zcJ := zkd (P := l.prog) (w := w) (base := base) X G bn zdz zdl zaS za1 zaD zdq zal zaR h43
 have zfG := zkT (P := l.prog) (w := w) (base := base) X G bn  h44
 have zap := zlu (P := l.prog) (w := w) (base := base) X G bn  h45
 have zcs := zhS (P := l.prog) (w := w) (base := base) X G bn  h46
 have zct := zhV (P := l.prog) (w := w) (base := base) X G bn zap h47
 have ze4 := zkI (P := l.prog) (w := w) (base := base) X G bn zct zcs zap h48
 have zaO := ziw (P := l.prog) (w := w) (base := base) X G bn  h49
 have zdD := zjh (P := l.prog) (w := w) (base := base) X G bn zaO zca h50
 exact ok_law X G bn zfG zdD ze4 zaO zap zbY zhL zbe zbz zcJ T
theorem walk {l : W.OpenLaw} {q : Program} {loose : List Str} {XP : (Str -> Option Value) -> Heap -> Prop} {YP : World -> Heap -> Prop} {d : DefRec} {K : Params -> W.Frag} (hn : l.most = some 63) (hdf : d.params.defaults = [])
  (hm : ∀ ns : List Int, ns.length <= 63 -> zkY [.scr ns] = some (.val (.bl true)))
  (hY : ∀ (w : World) (h : Heap), YP w h -> (K w.params).In h)
  (F : ∀ (w : World) (mg : Str -> Option Value) (fa : Addr) (h : Heap), (K w.params).In h -> h.Ns mainGlobals mg -> mg d.name = some (.ref fa) ->
   ∃ fd : FuncData, (∀ (s : Shared) (u : Value), BindsTo s fd ⟨[u], []⟩ [("script", u)]) /\ ∀ base : Heap, (K w.params).In base -> base.Ns mainGlobals mg -> FnOk l.prog w (K w.params) mg base CX0 8 fa fd ["script"] (spP (K w.params) 1 zkY)) :
  W.WalkO q loose XP YP l.row.toRowW d [] (fun f vs => PySem.call f vs) :=
 L2.walk_of (n := 63) (k := 8) (x := "script") (CX := fun _ => CX0) (sp := fun w => spP (K w.params) 1 zkY) hn (by decide) hdf ⟨rfl, by decide, by decide, rfl⟩ hY F
  (fun w H a ns hl _ hS => ⟨H, [.scr ns], .val (.bl true), hm ns hl, rfl, Fz.refl H, .cons ⟨a, rfl, hS⟩ .nil, fun _ _ _ _ _ _ _ rr => rr⟩) fun _ _ _ _ _ z => z
end Prf
set_option exponentiation.threshold 5000
namespace Prf
open L2 M PySem
variable {n m j i k c p a : Nat} {f g lo hi lo' hi' e r w G h L : Nat -> Int} {t number x v v' : Int} {l : List Int} {F : Int -> Int} {dr y : D} {ds : List D}
theorem rep_w (n : Nat) (x : D) : (List.replicate n [x]).flatten = wL n fun _ => x := by
 induction n with
 | zero => rfl
 | succ n ih => rw [List.replicate_succ', List.flatten_append, ih, zgQ]; rfl
theorem zo0 (a b : Nat -> Int) (hn : n <= 1000) : Ok (zbA [.tup (wI n a), .lst (wI n b)]) fun x => x = .own (wI n fun p => a p - b p) := by
 simp! only [↓zbA, ↓zf1, ↓zfv, zlS]
 refine ⟨by lia, zaw (fun ρ => ∃ s s', ρ = [s, s']) (fun p => .int (a p - b p)) ⟨_, _, rfl⟩ ?_ ?_⟩
 ·rintro i _ hi ⟨s, s', rfl⟩
  simp! only [↓zfF]
  exact ⟨_, _, rfl⟩
 ·rintro _ ⟨_, _, rfl⟩
  simp! only []
structure Span (f g : Nat -> Int) (n m : Nat) (lo hi : Nat -> Int) : Prop where
 lm : ∀ j, j < m -> ∃ p, p < n /\ p % m = j /\ f p = lo j
 lg : ∀ p, p < n -> f p <= lo (p % m)
 hm : ∀ j, j < m -> ∃ p, p < n /\ p % m = j /\ g p = hi j
 hg : ∀ p, p < n -> hi (p % m) <= g p
noncomputable def zb0 (m : Nat) (lo hi : Nat -> Int) : List D := wL m fun j => .tup [.int (lo j), .int (hi j)]
theorem ziF (f g : Nat -> Int) {n m : Nat} (hm : 0 < m) (hn : m <= n) : ∃ lo hi : Nat -> Int, Span f g n m lo hi /\ ∀ j, j < m -> zgW [.lst (zcT (wI n f) (some (j : Int)) none (some (m : Int)))] = some (.int (lo j)) /\ zk8 [.lst (zcT (wI n g) (some (j : Int)) none (some (m : Int)))] = some (.int (hi j)) := by
 have h1 : ∀ j, ∃ v, j < m -> zgW [.lst (zcT (wI n f) (some (j : Int)) none (some (m : Int)))] = some (.int v) /\ (∃ p, p < n /\ p % m = j /\ f p = v) /\ ∀ p, p < n -> p % m = j -> f p <= v := fun j => by
  by_cases hj : j < m
  ·obtain ⟨v, h⟩ := max_pick f hm hj hn; exact ⟨v, fun _ => h⟩
  ·exact ⟨0, fun h => absurd h hj⟩
 have h2 : ∀ j, ∃ v, j < m -> zk8 [.lst (zcT (wI n g) (some (j : Int)) none (some (m : Int)))] = some (.int v) /\ (∃ p, p < n /\ p % m = j /\ g p = v) /\ ∀ p, p < n -> p % m = j -> v <= g p := fun j => by
  by_cases hj : j < m
  ·obtain ⟨v, h⟩ := min_pick g hm hj hn; exact ⟨v, fun _ => h⟩
  ·exact ⟨0, fun h => absurd h hj⟩
 refine ⟨fun j => (h1 j).choose, fun j => (h2 j).choose, ⟨fun j hj => ((h1 j).choose_spec hj).2.1, fun p hp => ((h1 (p % m)).choose_spec (Nat.mod_lt _ hm)).2.2 p hp rfl, fun j hj => ((h2 j).choose_spec hj).2.1, fun p hp => ((h2 (p % m)).choose_spec (Nat.mod_lt _ hm)).2.2 p hp rfl⟩, fun j hj => ⟨((h1 j).choose_spec hj).1, ((h2 j).choose_spec hj).1⟩⟩
theorem ziO (s : Span f g n m lo hi) (t : Span f g n m lo' hi') (hj : j < m) : lo j = lo' j /\ hi j = hi' j := by
 obtain ⟨p, h1, h2, h3⟩ := s.lm j hj
 obtain ⟨p', h1', h2', h3'⟩ := t.lm j hj
 obtain ⟨q, k1, k2, k3⟩ := s.hm j hj
 obtain ⟨q', k1', k2', k3'⟩ := t.hm j hj
 have a1 := s.lg p' h1'
 have a2 := t.lg p h1
 have a3 := s.hg q' k1'
 have a4 := t.hg q k1
 rw [h2'] at a1; rw [h2] at a2; rw [k2'] at a3; rw [k2] at a4
 lia
theorem zmy (hm : 0 < m) (hn : m <= n) (h24 : n <= 1000) (sp : Span f g n m lo hi) : Ok (zbD [.lst (wI n f), .lst (wI n g), .int m]) fun x => x = .own (zb0 m lo hi) := by
 obtain ⟨lo', hi', sp', e⟩ := ziF f g hm hn
 have el : zb0 m lo' hi' = zb0 m lo hi := zcH fun j hj => by rw [(ziO sp' sp hj).1, (ziO sp' sp hj).2]
 rw [<- el]
 simp! only [↓zbD, ↓zft, ↓zfP]
 refine ⟨zaZ (by lia) (by lia), by lia, zaw (fun ρ => ∃ s, ρ = [.val (.lst (wI n f)), .val (.int m), .val (.lst (wI n g)), s]) (fun j => .tup [.int (lo' j), .int (hi' j)]) ⟨_, rfl⟩ ?_ ?_⟩
 ·rintro j _ hj ⟨s, rfl⟩
  have hk0 : ¬ (some (m : Int) = some 0) := by intro h; have := Option.some.inj h; lia
  obtain ⟨e1, e2⟩ := e j hj
  unfold zgW at e1
  unfold zk8 at e2
  simp! only [↓zfc, znS, hk0, e1, e2]
  exact ⟨_, rfl⟩
 ·rintro _ ⟨s, rfl⟩
  simp! only []
  rfl
theorem zlm (hm : 0 < m) (hmn : m <= n) (h24 : n <= 1000) (he : ∀ j, j < m -> ∃ p, p < n /\ p % m = j /\ f p = e j) :
  Ok (zbb [.lst (wI n f), .lst (wI m e)]) fun x => ∃ pl : Nat -> Nat, (∀ j, j < m -> pl j < n /\ pl j % m = j /\ f (pl j) = e j) /\ x = .val (.tup (wI m fun j => (pl j : Nat))) := by
 have h1 : ∀ j, ∃ i : Nat, j < m -> zkM (.lst (zcT (wI n f) (some (j : Int)) none (some (m : Int)))) (.int (e j)) = some (.int i) /\ j + i * m < n /\ f (j + i * m) = e j := fun j => by
  by_cases hj : j < m
  ·obtain ⟨i, h⟩ := zm6 f hm hj (he j hj); exact ⟨i, fun _ => h⟩
  ·exact ⟨0, fun h => absurd h hj⟩
 have hk0 : ¬ (some (m : Int) = some 0) := by intro h; have := Option.some.inj h; lia
 simp! only [↓zbb, ↓zcV, ↓zdk]
 refine ⟨zaZ (by lia) (by lia), by lia, zaw (fun ρ => ∃ s, ρ = [.val (.int m), .val (.lst (wI n f)), .val (.lst (wI m e)), s]) (fun j => .int ((j + (h1 j).choose * m : Nat) : Int)) ⟨_, rfl⟩ ?_ ?_⟩
 ·rintro j _ hj ⟨s, rfl⟩
  obtain ⟨e1, -, -⟩ := (h1 j).choose_spec hj
  generalize (h1 j).choose = i at *
  have ee : (j : Int) + (m : Int) * (i : Int) = ((j + i * m : Nat) : Int) := by push_cast; rw [Int.mul_comm]
  simp! only [↓zdi, znS, hk0, e1, zay _ hj, ee]
  exact ⟨zcD (by lia), _, rfl⟩
 ·rintro _ ⟨s, rfl⟩
  simp! only []
  exact ⟨_, fun j hj => ⟨((h1 j).choose_spec hj).2.1, by rw [Nat.add_mul_mod_self_right, Nat.mod_eq_of_lt hj], ((h1 j).choose_spec hj).2.2⟩, rfl⟩
structure Room' (m : Nat) (lo hi : Nat -> Int) (t : Int) : Prop where
 le : ∀ j, j < m -> lo j <= hi j
 low : sumR m lo <= t
 high : t <= sumR m hi
noncomputable def Paper (f g : Nat -> Int) (n m : Nat) (t : Int) (d : D) : Prop :=
 (∃ a b : Nat, a < n /\ b < n /\ a % m = b % m /\ f a > g b /\ d = .tup [.str "clash", .int a, .int b]) \/
 (∃ pl : Nat -> Nat, (∀ j, j < m -> pl j < n /\ pl j % m = j) /\ sumR m (fun j => f (pl j)) > t /\ d = .tup [.str "low", .tup (wI m fun j => (pl j : Nat))]) \/
 (∃ pl : Nat -> Nat, (∀ j, j < m -> pl j < n /\ pl j % m = j) /\ sumR m (fun j => g (pl j)) < t /\ d = .tup [.str "high", .tup (wI m fun j => (pl j : Nat))])
theorem paper_ok (hm : 0 < m) (hn : m <= n) (h24 : n <= 1000) (t : Int) (sp : Span f g n m lo hi) :
  Ok (zcg [.lst (wI n f), .lst (wI n g), .int m, .int t]) fun x => (Room' m lo hi t /\ x = .val .non) \/ (¬ Room' m lo hi t /\ ∃ d, Paper f g n m t d /\ x = .val d) := by
 simp! only [↓zcg, ↓zd2]
 refine (zmy hm hn h24 sp).mono ?_
 rintro _ rfl
 simp! only [↓zee, zb0]
 refine ⟨by lia, zaw (fun ρ => ∃ s s', ρ = [s, s']) (fun j => .int (lo j)) ⟨_, _, rfl⟩ ?_ ?_⟩
 ·rintro j _ hj ⟨s, s', rfl⟩
  simp! only [↓zeH]
  exact ⟨_, _, rfl⟩
 rintro _ ⟨_, _, rfl⟩
 simp! only [↓zev]
 refine ⟨by lia, zaw (fun ρ => ∃ s s', ρ = [s, s']) (fun j => .int (hi j)) ⟨_, _, rfl⟩ ?_ ?_⟩
 ·rintro j _ hj ⟨s, s', rfl⟩
  simp! only [↓zef]
  exact ⟨_, _, rfl⟩
 rintro _ ⟨_, _, rfl⟩
 simp! only []
 refine (zlm hm hn h24 sp.lm).mono ?_
 rintro _ ⟨pl, hpl, rfl⟩
 simp! only []
 refine (zlm hm hn h24 sp.hm).mono ?_
 rintro _ ⟨ph, hph, rfl⟩
 simp! only [↓zey]
 refine ⟨zaZ (by lia) (by lia), zcp (fun i ρ => (∀ j, j < i -> lo j <= hi j) /\ ∃ s, ρ = [.val (.lst (wI n f)), .val (.lst (wI n g)), .val (.int m), .val (.int t), .val (.lst (zb0 m lo hi)), .val (.lst (wI m lo)), .val (.lst (wI m hi)), .val (.tup (wI m fun j => (pl j : Nat))), .val (.tup (wI m fun j => (ph j : Nat))), s]) ⟨fun _ h => by lia, _, rfl⟩ ?_ ?_⟩
 ·rintro j _ hj ⟨hb, s, rfl⟩
  simp! only [↓zem, zay _ hj]
  refine ⟨fun h => .inr ⟨fun r => by have := r.le j hj; lia, _, .inl ⟨pl j, ph j, (hpl j hj).1, (hph j hj).1, by rw [(hpl j hj).2.1, (hph j hj).2.1], by rw [(hpl j hj).2.2, (hph j hj).2.2]; exact h, rfl⟩, rfl⟩, fun h => ⟨fun j' hj' => ?_, _, rfl⟩⟩
  by_cases e : j' = j
  ·subst e; lia
  ·exact hb j' (by lia)
 rintro _ ⟨hb, s, rfl⟩
 have el : sumR m (fun j => f (pl j)) = sumR m lo := zao fun j hj => (hpl j hj).2.2
 have eh : sumR m (fun j => g (ph j)) = sumR m hi := zao fun j hj => (hph j hj).2.2
 simp! only [zcG, zcm]
 refine ⟨fun h => .inr ⟨fun r => by have := r.low; lia, _, .inr (.inl ⟨pl, fun j hj => ⟨(hpl j hj).1, (hpl j hj).2.1⟩, by lia, rfl⟩), rfl⟩, fun h1 => ?_⟩
 simp! only [↓zei, zcG, zcm]
 refine ⟨fun h => .inr ⟨fun r => by have := r.high; lia, _, .inr (.inr ⟨ph, fun j hj => ⟨(hph j hj).1, (hph j hj).2.1⟩, by lia, rfl⟩), rfl⟩, fun h2 => ?_⟩
 simp! only [↓zex]
 exact .inl ⟨hb, by lia, by lia⟩
noncomputable def left (lo hi : Nat -> Int) (m : Nat) (t : Int) : Nat -> Int
 | 0 => t
 | j + 1 => left lo hi m t j - max2 (lo j) (left lo hi m t j - (sumR m hi - sumR (j + 1) hi))
noncomputable def hd (lo hi : Nat -> Int) (m : Nat) (t : Int) (j : Nat) : Int := max2 (lo j) (left lo hi m t j - (sumR m hi - sumR (j + 1) hi))
theorem zjj (lo hi : Nat -> Int) (t : Int) (hm : m <= 1000) : Ok (zci [.lst (zb0 m lo hi), .int t]) fun x => x = .own (wI m (hd lo hi m t)) := by
 simp! only [↓zci, ↓zdX, ↓zeG, zb0]
 refine ⟨by lia, zaw (fun ρ => ∃ s s', ρ = [s, s']) (fun j => .int (hi j)) ⟨_, _, rfl⟩ ?_ ?_⟩
 ·rintro j _ hj ⟨s, s', rfl⟩
  simp! only [↓zet]
  exact ⟨_, _, rfl⟩
 rintro _ ⟨_, _, rfl⟩
 simp! only [zcG, zcm, ↓zeM]
 refine zcp (fun i ρ => ∃ s5 s6 s7, ρ = [.val (.lst (zb0 m lo hi)), .val (.int t), .own (wI i (hd lo hi m t)), .val (.int (left lo hi m t i)), .val (.int (sumR m hi - sumR i hi)), s5, s6, s7]) ⟨_, _, _, by rw [show sumR 0 hi = 0 from rfl, Int.sub_zero]; rfl⟩ ?_ ?_
 ·rintro j _ hj ⟨s5, s6, s7, rfl⟩
  simp! only [↓zeV]
  have e : sumR m hi - sumR j hi - hi j = sumR m hi - sumR (j + 1) hi := by simp only [sumR]; lia
  rw [e]
  exact ⟨by lia, _, _, _, by rw [show wI (j + 1) (hd lo hi m t) = _ from zgQ _ _]; rfl⟩
 ·rintro _ ⟨s5, s6, s7, rfl⟩
  simp! only []
theorem zj5 (lo hi : Nat -> Int) (m : Nat) (t : Int) : ∀ j, left lo hi m t j = t - sumR j (hd lo hi m t)
 | 0 => by simp [left, sumR]
 | j + 1 => by rw [sumR, left, zj5 lo hi m t j, hd, zj5 lo hi m t j]; lia
theorem zl3 (a b : Int) : (max2 a b = a \/ max2 a b = b) /\ a <= max2 a b /\ b <= max2 a b := by unfold max2; split <;> lia
theorem zl1 (r : Room' m lo hi t) : ∀ j, j <= m -> sumR m lo - sumR j lo <= left lo hi m t j /\ left lo hi m t j <= sumR m hi - sumR j hi
 | 0, _ => by have := r.low; have := r.high; simp [left, sumR]; lia
 | j + 1, h => by
  have ih := zl1 r j (by lia)
  have hj := r.le j (by lia)
  obtain ⟨c, c1, c2⟩ := zl3 (lo j) (left lo hi m t j - (sumR m hi - sumR (j + 1) hi))
  have e : left lo hi m t (j + 1) = left lo hi m t j - max2 (lo j) (left lo hi m t j - (sumR m hi - sumR (j + 1) hi)) := rfl
  rw [e]
  have key : sumR m lo - sumR (j + 1) lo <= sumR m hi - sumR (j + 1) hi := by
   obtain ⟨b, rfl⟩ : ∃ b, m = j + 1 + b := ⟨m - (j + 1), by lia⟩
   rw [zba lo (j + 1) b, zba hi (j + 1) b]
   have := zgK (f := fun i => lo (j + 1 + i)) (g := fun i => hi (j + 1 + i)) (n := b) fun i hi' => r.le _ (by lia)
   lia
  simp only [sumR] at *
  rcases c with c | c <;> rw [c] at c1 c2 ⊢ <;> lia
theorem hd_in (r : Room' m lo hi t) (hj : j < m) : lo j <= hd lo hi m t j /\ hd lo hi m t j <= hi j := by
 have h := zl1 r j (by lia)
 have hjj := r.le j hj
 obtain ⟨c, c1, c2⟩ := zl3 (lo j) (left lo hi m t j - (sumR m hi - sumR (j + 1) hi))
 unfold hd
 simp only [sumR] at *
 rcases c with c | c <;> rw [c] at c1 c2 ⊢ <;> lia
theorem hd_sum (r : Room' m lo hi t) : sumR m (hd lo hi m t) = t := by
 have h := zl1 r m (Nat.le_refl _)
 have e := zj5 lo hi m t m
 lia
theorem hd_least {lo hi h' : Nat -> Int} (hh : ∀ j, j < m -> lo j <= h' j /\ h' j <= hi j) (hs : sumR m h' = t) (hj : j < m) (he : ∀ i, i < j -> hd lo hi m t i = h' i) : hd lo hi m t j <= h' j := by
 have e := zj5 lo hi m t j
 have e1 : sumR j (hd lo hi m t) = sumR j h' := zao he
 obtain ⟨b, rfl⟩ : ∃ b, m = j + 1 + b := ⟨m - (j + 1), by lia⟩
 have e2 := zba h' (j + 1) b
 have e3 := zba hi (j + 1) b
 have e4 := zgK (f := fun i => h' (j + 1 + i)) (g := fun i => hi (j + 1 + i)) (n := b) fun i hi' => (hh _ (by lia)).2
 have h1 := (hh j hj).1
 unfold hd
 obtain ⟨c, c1, c2⟩ := zl3 (lo j) (left lo hi (j + 1 + b) t j - (sumR (j + 1 + b) hi - sumR (j + 1) hi))
 simp only [sumR] at *
 rcases c with c | c <;> rw [c] <;> lia
theorem ziS (hm : 0 < m) (h24 : n <= 1000) (h mo : Nat -> Int) : Ok (za5 [.lst (wI m h), .lst (wI n mo)]) fun x => x = .val (.tup (wI n fun p => h (p % m) + mo p)) := by
 simp! only [↓za5, ↓zdr, ↓zdP, zl8]
 refine ⟨by lia, zaw (fun ρ => ∃ s s', ρ = [.val (.lst (wI m h)), .val (.int m), s, s']) (fun p => .int (h (p % m) + mo p)) ⟨_, _, rfl⟩ ?_ ?_⟩
 ·rintro p _ hp ⟨s, s', rfl⟩
  have e : (p : Int) % (m : Int) = ((p % m : Nat) : Int) := by push_cast; rfl
  simp! only [↓zdE, e, zay _ (Nat.mod_lt p hm)]
  exact ⟨by lia, _, _, rfl⟩
 ·rintro _ ⟨_, _, rfl⟩
  simp! only []
structure RDim (k n : Nat) : Prop where
 k2 : 2 <= k
 k5 : k <= 5
 kn : k <= n
 n24 : n <= 24
noncomputable abbrev zbn (k n : Nat) (S L G : Nat -> Int) : D := .tup [.int k, .tup (wI n S), .tup (wI n L), .tup (wI n G)]
noncomputable def ixp (k n p : Nat) : Nat := ((List.range (n / Nat.gcd k n)).find? fun i => (p % Nat.gcd k n + i * k) % n == p).getD 0
noncomputable def chk (k n : Nat) : Bool := ((List.range n).all fun p => decide (ixp k n p < n / Nat.gcd k n) && ((p % Nat.gcd k n + ixp k n p * k) % n == p)) && (List.range (Nat.gcd k n)).all fun j => ((j + n / Nat.gcd k n * k) % n == j) && (List.range (n / Nat.gcd k n)).all fun i => ((j + i * k) % n % Nat.gcd k n == j) && (ixp k n ((j + i * k) % n) == i)
theorem chk_all : ((List.range 6).all fun k => (List.range 25).all fun n => !(decide (2 <= k) && decide (k <= n)) || chk k n) = true := by decide +kernel
theorem walk_all (k : Nat) (hk : k < 6) (n : Nat) (hn : n < 25) (h2 : 2 <= k) (hkn : k <= n) : (∀ p, p < n -> ixp k n p < n / Nat.gcd k n /\ (p % Nat.gcd k n + ixp k n p * k) % n = p) /\ ∀ j, j < Nat.gcd k n -> (j + n / Nat.gcd k n * k) % n = j /\ ∀ i, i < n / Nat.gcd k n -> (j + i * k) % n % Nat.gcd k n = j /\ ixp k n ((j + i * k) % n) = i := by
 have h := List.all_eq_true.mp (List.all_eq_true.mp chk_all k (List.mem_range.mpr hk)) n (List.mem_range.mpr hn)
 rw [decide_eq_true h2, decide_eq_true hkn] at h
 have h : chk k n = true := by simpa using h
 unfold chk at h
 rw [Bool.and_eq_true] at h
 refine ⟨fun p hp => ?_, fun j hj => ?_⟩
 ·have := List.all_eq_true.mp h.1 p (List.mem_range.mpr hp)
  simpa using this
 ·have := List.all_eq_true.mp h.2 j (List.mem_range.mpr hj)
  rw [Bool.and_eq_true] at this
  refine ⟨by simpa using this.1, fun i hi => ?_⟩
  have := List.all_eq_true.mp this.2 i (List.mem_range.mpr hi)
  simpa using this
section
variable {k n : Nat}
noncomputable abbrev pl (k n j i : Nat) : Nat := (j + i * k) % n
theorem zlR (k n j i : Nat) : pl k n j (i + 1) = (pl k n j i + k) % n := by
 unfold pl
 rw [Nat.add_mul, Nat.one_mul, <- Nat.add_assoc, Nat.mod_add_mod]
noncomputable def mw (k n : Nat) (S : Nat -> Int) (j i : Nat) : Int := sumR i fun t => S ((pl k n j t + 1) % n) - S (pl k n j t)
noncomputable def rM (k n : Nat) (S : Nat -> Int) (p : Nat) : Int := mw k n S (p % Nat.gcd k n) (ixp k n p)
theorem RDim.g1 (d : RDim k n) : 1 <= Nat.gcd k n := Nat.gcd_pos_of_pos_left _ (by have := d.k2; lia)
theorem RDim.gk (d : RDim k n) : Nat.gcd k n <= k := Nat.gcd_le_left _ (by have := d.k2; lia)
theorem RDim.walk (d : RDim k n) : (∀ p, p < n -> ixp k n p < n / Nat.gcd k n /\ pl k n (p % Nat.gcd k n) (ixp k n p) = p) /\ ∀ j, j < Nat.gcd k n -> pl k n j (n / Nat.gcd k n) = j /\ ∀ i, i < n / Nat.gcd k n -> pl k n j i % Nat.gcd k n = j /\ ixp k n (pl k n j i) = i :=
 walk_all k (by have := d.k5; lia) n (by have := d.n24; lia) d.k2 d.kn
theorem rM_at (d : RDim k n) (S : Nat -> Int) (hj : j < Nat.gcd k n) (hi : i < n / Nat.gcd k n) : rM k n S (pl k n j i) = mw k n S j i := by
 obtain ⟨h1, h2⟩ := (d.walk.2 j hj).2 i hi
 unfold rM
 rw [h1, h2]
theorem max_of (h : l ≠ []) : ∃ v, zgW [.lst (l.map D.int)] = some (.int v) /\ v ∈ l /\ ∀ x ∈ l, x <= v := by
 have e : l.map D.int = wI l.length fun i => l.getD i 0 := by
  apply List.ext_getElem?
  intro j
  by_cases h : j < l.length
  ·rw [zay _ h, List.getElem?_map, List.getElem?_eq_getElem h]
   simp [List.getD, h]
  ·rw [List.getElem?_eq_none (by rw [List.length_map]; lia), List.getElem?_eq_none (by rw [zaE]; lia)]
 obtain ⟨v, h1, ⟨i, hi, h2⟩, h3⟩ := max_w (fun i => l.getD i 0) (List.length_pos_iff.mpr h)
 rw [<- e] at h1
 refine ⟨v, h1, ?_, fun x hx => ?_⟩
 ·rw [<- h2]
  show l.getD i 0 ∈ l
  rw [List.getD_eq_getElem?_getD, List.getElem?_eq_getElem hi]
  exact List.getElem_mem hi
 ·obtain ⟨i, hi, rfl⟩ := List.getElem_of_mem hx
  have := h3 i hi
  rw [List.getD_eq_getElem?_getD, List.getElem?_eq_getElem hi] at this
  exact this
theorem zce (d : RDim k n) (S L G : Nat -> Int) : Ok (zaq [zbn k n S L G]) fun x => x = .val (.int (Nat.gcd k n : Nat)) := by
 have k2 := d.k2
 have k5 := d.k5
 have n24 := d.n24
 have g1 := d.g1
 have gk := d.gk
 have ek : ((k : Int) + 1 - 1).toNat = k := by lia
 have en : (zcZ 1 k).length = k := by unfold zcZ; simp
 simp! only [↓zaq, ↓zdY, ↓zeh, ek, en]
 refine ⟨⟨zaZ (by lia) (by lia), zaZ (by lia) (by lia)⟩, by lia, ?_⟩
 rw [zhD]
 refine znD (fun ρ => ∃ z, ρ = [.val (.int k), .val (.int n), z]) (fun i => if k % (1 + i) = 0 /\ n % (1 + i) = 0 then some (D.int ((1 + i : Nat) : Int)) else none) ⟨_, rfl⟩ ?_ ?_
 ·rintro i _ hi ⟨z, rfl⟩
  have e1 : (1 : Int) + (i : Nat) = ((1 + i : Nat) : Int) := by push_cast; rfl
  have e2 : (k : Int) % ((1 + i : Nat) : Int) = ((k % (1 + i) : Nat) : Int) := by push_cast; rfl
  have e3 : (n : Int) % ((1 + i : Nat) : Int) = ((n % (1 + i) : Nat) : Int) := by push_cast; rfl
  simp! only [↓zeI, ↓zer, e1, e2, e3]
  refine ⟨by lia, fun h1 => ⟨by lia, fun h2 => ⟨?_, _, rfl⟩, fun h2 => ⟨?_, _, rfl⟩⟩, fun h1 => ⟨?_, _, rfl⟩⟩
  ·rw [if_pos ⟨by lia, by lia⟩]
  ·rw [if_neg fun z => h2 (by lia)]
  ·rw [if_neg fun z => h1 (by lia)]
 ·rintro _ ⟨z, rfl⟩
  have el : (List.range k).filterMap (fun i => if k % (1 + i) = 0 /\ n % (1 + i) = 0 then some (D.int ((1 + i : Nat) : Int)) else none) = ((List.range k).filterMap (fun i => if k % (1 + i) = 0 /\ n % (1 + i) = 0 then some ((1 + i : Nat) : Int) else none)).map D.int := by
   rw [List.map_filterMap]
   congr 1
   funext i
   split <;> rfl
  have mem : ∀ v : Int, v ∈ (List.range k).filterMap (fun i => if k % (1 + i) = 0 /\ n % (1 + i) = 0 then some ((1 + i : Nat) : Int) else none) ↔ ∃ m : Nat, v = m /\ 1 <= m /\ m <= k /\ m ∣ k /\ m ∣ n := fun v => by
   rw [List.mem_filterMap]
   constructor
   ·rintro ⟨i, hi, h⟩
    have hi := List.mem_range.mp hi
    split at h
    ·rename_i q
     cases h
     exact ⟨1 + i, rfl, by lia, by lia, Nat.dvd_of_mod_eq_zero q.1, Nat.dvd_of_mod_eq_zero q.2⟩
    ·cases h
   ·rintro ⟨m, rfl, h1, h2, h3, h4⟩
    refine ⟨m - 1, List.mem_range.mpr (by lia), ?_⟩
    rw [show 1 + (m - 1) = m by lia, if_pos ⟨Nat.mod_eq_zero_of_dvd h3, Nat.mod_eq_zero_of_dvd h4⟩]
  have gm := (mem (Nat.gcd k n : Nat)).mpr ⟨_, rfl, g1, gk, Nat.gcd_dvd_left _ _, Nat.gcd_dvd_right _ _⟩
  rw [el]
  generalize (List.range k).filterMap (fun i => if k % (1 + i) = 0 /\ n % (1 + i) = 0 then some ((1 + i : Nat) : Int) else none) = l at mem gm
  obtain ⟨v, h1, h2, h3⟩ := max_of (l := l) (fun z => by rw [z] at gm; cases gm)
  unfold zgW at h1
  simp! only [h1]
  obtain ⟨m, rfl, q1, q2, q3, q4⟩ := (mem v).mp h2
  have a1 := h3 _ gm
  have a2 : m <= Nat.gcd k n := Nat.le_of_dvd (by lia) (Nat.dvd_gcd q3 q4)
  have : m = Nat.gcd k n := by lia
  rw [this]
end
theorem takeW (h : i <= n) (f : Nat -> D) : (wL n f).take i = wL i f := by
 apply List.ext_getElem?
 intro j
 by_cases hj : j < i
 ·rw [List.getElem?_take_of_lt (by lia), zay _ (by lia), zay _ hj]
 ·rw [List.getElem?_eq_none (by simp [zaE]; lia), List.getElem?_eq_none (by rw [zaE]; lia)]
theorem cut_neg1 (n : Nat) (f : Nat -> D) : cutD (wL (n + 1) f) none (some (-1)) = wL n f := by
 unfold cutD
 have e : HT.sIx (wL (n + 1) f).length (wL (n + 1) f).length (some (-1)) = n := by
  rw [zaE]
  show (if (-1 : Int) < 0 then (-1 + ((n + 1 : Nat) : Int)).toNat else min (-1 : Int).toNat (n + 1)) = n
  rw [if_pos (by decide)]; lia
 rw [e, HT.zkw, List.drop_zero, Nat.sub_zero, takeW (by lia)]
theorem zg9 {m : Nat} (h : m <= 1000) : zdO (m : Int) = true := zaZ (by lia) (by lia)
section
variable {k n : Nat}
theorem zkb (d : RDim k n) (hj : j < Nat.gcd k n) : pl k n j 0 = j := by
 have := d.gk
 have := d.kn
 unfold pl
 rw [Nat.zero_mul, Nat.add_zero, Nat.mod_eq_of_lt (by lia)]
theorem pl_lt (d : RDim k n) (j i : Nat) : pl k n j i < n := Nat.mod_lt _ (by have := d.k2; have := d.kn; lia)
theorem zlH (S : Nat -> Int) (j i : Nat) : mw k n S j (i + 1) = mw k n S j i + (S ((pl k n j i + 1) % n) - S (pl k n j i)) := by
 show sumR (i + 1) _ = _
 rw [sumR]; rfl
noncomputable abbrev zl7 (k n : Nat) (S : Nat -> Int) (j m : Nat) : List D := wL m fun i => .tup [.int ((pl k n j i : Nat) : Int), .int (mw k n S j i)]
theorem RDim.hn (d : RDim k n) : n / Nat.gcd k n <= 24 := Nat.le_trans (Nat.div_le_self _ _) d.n24
theorem zoZ (d : RDim k n) (S L G : Nat -> Int) (hj : j < Nat.gcd k n) : Ok (zbF [zbn k n S L G, .int j]) fun x => x = .own (zl7 k n S j (n / Nat.gcd k n + 1)) := by
 have n0 : 0 < n := by have := d.k2; have := d.kn; lia
 have n24 := d.n24
 have hn := d.hn
 have g1 := d.g1
 have gk := d.gk
 have k5 := d.k5
 have ed : (n : Int) / ((Nat.gcd k n : Nat) : Int) = ((n / Nat.gcd k n : Nat) : Int) := by push_cast; rfl
 simp! only [↓zbF, ↓zfW, ↓zfb]
 refine (zce d S L G).mono ?_
 rintro _ rfl
 simp! only [ed]
 refine ⟨zc1 (by lia) (by lia), zg9 (by lia), zcp (fun i ρ => ∃ s7, ρ = [.val (zbn k n S L G), .val (.int j), .val (.tup (wI n S)), .val (.int n), .own (zl7 k n S j i), .val (.int ((pl k n j i : Nat) : Int)), .val (.int (mw k n S j i)), s7]) ⟨_, by rw [zkb d hj]; rfl⟩ ?_ ?_⟩
 ·rintro i _ hi ⟨s7, rfl⟩
  have pn := pl_lt d j i
  have e1 : ((pl k n j i : Nat) : Int) + 1 = ((pl k n j i + 1 : Nat) : Int) := by push_cast; rfl
  have e2 : ((pl k n j i + 1 : Nat) : Int) % (n : Int) = (((pl k n j i + 1) % n : Nat) : Int) := by push_cast; rfl
  have e3 : (((pl k n j i : Nat) : Int) + (k : Int)) % (n : Int) = ((pl k n j (i + 1) : Nat) : Int) := by rw [zlR]; push_cast; rfl
  simp! only [↓ze7, e1, e2, e3, zay _ pn, zay _ (Nat.mod_lt (pl k n j i + 1) n0)]
  have ew : zl7 k n S j i ++ [.tup [.int ((pl k n j i : Nat) : Int), .int (mw k n S j i)]] = zl7 k n S j (i + 1) := (zgQ _ _).symm
  simp only [ew, <- zlH]
  exact ⟨by lia, by lia, by lia, _, rfl⟩
 ·rintro _ ⟨s7, rfl⟩
  simp! only []
  refine ⟨by lia, ?_⟩
  rw [show zl7 k n S j (n / Nat.gcd k n + 1) = _ from zgQ _ _]
theorem zkS (d : RDim k n) (S L G : Nat -> Int) (hj : j < Nat.gcd k n) : Ok (za4 [zbn k n S L G, .int j]) fun x => x = .val (.bl (mw k n S j (n / Nat.gcd k n) == 0)) := by
 simp! only [↓za4, ↓zdt]
 refine (zoZ d S L G hj).mono ?_
 rintro _ rfl
 simp! only [atI_w1]
theorem zg4 (d : RDim k n) (S L G : Nat -> Int) : Ok (zaF [zbn k n S L G]) fun x => x = .own (wI n (rM k n S)) := by
 have n0 : 0 < n := by have := d.k2; have := d.kn; lia
 have n24 := d.n24
 have hn := d.hn
 have g1 := d.g1
 have gk := d.gk
 have k5 := d.k5
 simp! only [↓zaF, ↓zfX, ↓zfd, Int.toNat_natCast, rep_w]
 refine ⟨⟨zg9 (by lia), by lia⟩, ?_⟩
 refine (zce d S L G).mono ?_
 rintro _ rfl
 simp! only []
 refine ⟨zg9 (by lia), zcp (fun J ρ => ∃ (f : Nat -> Int) (s2 s3 s4 : Sl), (∀ p, p < n -> p % Nat.gcd k n < J -> f p = rM k n S p) /\ ρ = [.val (zbn k n S L G), .own (wI n f), s2, s3, s4]) ⟨fun _ => 0, _, _, _, fun p _ h => by lia, rfl⟩ ?_ ?_⟩
 ·rintro J _ hJ ⟨f, s2, s3, s4, hf, rfl⟩
  have cw : cutD (zl7 k n S J (n / Nat.gcd k n + 1)) none (some (-1)) = zl7 k n S J (n / Nat.gcd k n) := by
   exact cut_neg1 _ _
  simp! only [↓zf0, ↓zfy]
  refine (zoZ d S L G hJ).mono ?_
  rintro _ rfl
  simp! only [cw]
  refine zcp (fun i ρ => ∃ (f : Nat -> Int) (s3 s4 : Sl), (∀ p, p < n -> p % Nat.gcd k n < J -> f p = rM k n S p) /\ (∀ t, t < i -> f (pl k n J t) = mw k n S J t) /\ ρ = [.val (zbn k n S L G), .own (wI n f), .val (.int J), s3, s4]) ⟨f, _, _, hf, fun t h => by lia, rfl⟩ ?_ ?_
  ·rintro i _ hi ⟨f, s3, s4, hf, hw, rfl⟩
   have pn := pl_lt d J i
   simp! only [↓ze1, pn, ziP _ _ pn]
   refine ⟨_, _, _, fun p hp hpJ => ?_, fun t ht => ?_, rfl⟩
   ·have : p ≠ pl k n J i := fun e => by
     have := ((d.walk.2 J hJ).2 i hi).1
     rw [<- e] at this
     lia
    simp only [this, if_false]
    exact hf p hp hpJ
   ·by_cases e : t = i
    ·subst e; simp only [if_true]
    ·have : pl k n J t ≠ pl k n J i := fun e' => by
      have h1 := ((d.walk.2 J hJ).2 i hi).2
      have h2 := ((d.walk.2 J hJ).2 t (by lia)).2
      rw [e'] at h2
      lia
     simp only [this, if_false]
     exact hw t (by lia)
  ·rintro _ ⟨f, s3, s4, hf, hw, rfl⟩
   simp! only []
   refine ⟨f, _, _, _, fun p hp hpJ => ?_, rfl⟩
   by_cases e : p % Nat.gcd k n < J
   ·exact hf p hp e
   ·have e' : p % Nat.gcd k n = J := by lia
    obtain ⟨h1, h2⟩ := d.walk.1 p hp
    rw [e'] at h2
    have := hw _ h1
    rw [h2] at this
    rw [this]
    unfold rM
    rw [e']
 ·rintro _ ⟨f, s2, s3, s4, hf, rfl⟩
  simp! only []
  congr 1
  exact zcH fun p hp => by rw [hf p hp (Nat.mod_lt _ (by lia))]
end
section
variable {k n : Nat} {S L G : Nat -> Int}
noncomputable def rT (k n : Nat) (S : Nat -> Int) : Int := S 0 - sumR k (rM k n S)
noncomputable abbrev eT (k n : Nat) : Nat := k / Nat.gcd k n
noncomputable def tT (k n : Nat) (S : Nat -> Int) : Int := rT k n S / (eT k n : Int)
noncomputable def rA (k n : Nat) (S B : Nat -> Int) (p : Nat) : Int := B p - rM k n S p
theorem RDim.e1 (d : RDim k n) : 1 <= eT k n := (Nat.le_div_iff_mul_le d.g1).mpr (by rw [Nat.one_mul]; exact d.gk)
theorem RDim.e5 (d : RDim k n) : eT k n <= 5 := Nat.le_trans (Nat.div_le_self _ _) d.k5
theorem zmY (d : RDim k n) (S L G : Nat -> Int) : Ok (zbI [zbn k n S L G]) fun x => x = .val (.int (eT k n)) := by
 have g1 := d.g1
 have gk := d.gk
 have k5 := d.k5
 have ed : (k : Int) / ((Nat.gcd k n : Nat) : Int) = ((eT k n : Nat) : Int) := by push_cast; rfl
 simp! only [↓zbI, ↓zfh]
 refine (zce d S L G).mono ?_
 rintro _ rfl
 simp! only [ed]
 exact zc1 (by lia) (by lia)
theorem take_rM (d : RDim k n) (f : Nat -> Int) : cutD (wI n f) none (some (k : Int)) = wI k f := by
 rw [zky]; exact takeW d.kn _
theorem znN (d : RDim k n) (S L G : Nat -> Int) : Ok (zb7 [zbn k n S L G]) fun x => x = .val (.int (rT k n S)) := by
 have n0 : 0 < n := by have := d.k2; have := d.kn; lia
 simp! only [↓zb7, ↓zgN, zay _ n0]
 refine (zg4 d S L G).mono ?_
 rintro _ rfl
 simp! only [take_rM d, zcG, zcm]
 rfl
theorem zhy (d : RDim k n) (S L G : Nat -> Int) : Ok (zaJ [zbn k n S L G]) fun x => x = .val (.int (tT k n S)) := by
 have := d.e1
 have := d.e5
 simp! only [↓zaJ, ↓zfg]
 refine (znN d S L G).mono ?_
 rintro _ rfl
 simp! only []
 refine (zmY d S L G).mono ?_
 rintro _ rfl
 simp! only []
 exact ⟨zc1 (by lia) (by lia), rfl⟩
noncomputable def Clo (k n : Nat) (S : Nat -> Int) : Prop := ∀ j, j < Nat.gcd k n -> mw k n S j (n / Nat.gcd k n) = 0
noncomputable def SPap (k n : Nat) (S : Nat -> Int) (x : Sl) : Prop := (∃ j, j < Nat.gcd k n /\ mw k n S j (n / Nat.gcd k n) ≠ 0 /\ x = .val (.tup [.str "round", .int (j : Nat)])) \/ (Clo k n S /\ rT k n S % (eT k n : Int) ≠ 0 /\ x = .val (.tup [.str "part", .int (rT k n S % (eT k n : Int))])) \/ (Clo k n S /\ rT k n S % (eT k n : Int) = 0 /\ x = .val .non)
theorem zhq (d : RDim k n) (S L G : Nat -> Int) : Ok (zaW [zbn k n S L G]) (SPap k n S) := by
 have e1 := d.e1
 have e5 := d.e5
 have g1 := d.g1
 have gk := d.gk
 have k5 := d.k5
 simp! only [↓zaW, ↓zfu, ↓zfU]
 refine (zce d S L G).mono ?_
 rintro _ rfl
 simp! only []
 refine ⟨zg9 (by lia), zcp (fun i ρ => (∀ j, j < i -> mw k n S j (n / Nat.gcd k n) = 0) /\ ∃ s1 s2, ρ = [.val (zbn k n S L G), s1, s2]) ⟨fun j h => by lia, _, _, rfl⟩ ?_ ?_⟩
 ·rintro j _ hj ⟨hb, s1, s2, rfl⟩
  simp! only [↓zfV]
  refine (zkS d S L G hj).mono ?_
  rintro _ rfl
  simp! only []
  refine ⟨fun h => .inl ⟨j, hj, by simpa using h, rfl⟩, fun h => ⟨fun j' hj' => ?_, _, _, rfl⟩⟩
  by_cases e : j' = j
  ·subst e; simpa using h
  ·exact hb j' (by lia)
 ·rintro _ ⟨hb, s1, s2, rfl⟩
  simp! only []
  refine (znN d S L G).mono ?_
  rintro _ rfl
  simp! only []
  refine (zmY d S L G).mono ?_
  rintro _ rfl
  simp! only []
  refine ⟨by lia, fun h => .inr (.inl ⟨hb, h, rfl⟩), fun h => ?_⟩
  simp! only [↓ze6]
  exact .inr (.inr ⟨hb, h, rfl⟩)
theorem zlY (d : RDim k n) (S L G : Nat -> Int) : Ok (zbf [zbn k n S L G]) fun x => x = .own (wI n (rA k n S L)) := by
 have n24 := d.n24
 simp! only [↓zbf, ↓zgY]
 refine (zg4 d S L G).mono ?_
 rintro _ rfl
 simp! only []
 refine (zo0 L (rM k n S) (by lia)).mono ?_
 rintro _ rfl
 simp! only []
 rfl
theorem zjT (d : RDim k n) (S L G : Nat -> Int) : Ok (zaY [zbn k n S L G]) fun x => x = .own (wI n (rA k n S G)) := by
 have n24 := d.n24
 simp! only [↓zaY, ↓ze5]
 refine (zg4 d S L G).mono ?_
 rintro _ rfl
 simp! only []
 refine (zo0 G (rM k n S) (by lia)).mono ?_
 rintro _ rfl
 simp! only []
 rfl
noncomputable abbrev zcF (k n : Nat) (S L G lo hi : Nat -> Int) : Prop := Span (rA k n S L) (rA k n S G) n (Nat.gcd k n) lo hi
theorem RDim.gn (d : RDim k n) : Nat.gcd k n <= n := Nat.le_trans d.gk d.kn
theorem ziY (d : RDim k n) (sp : zcF k n S L G lo hi) : Ok (zaT [zbn k n S L G]) fun x => x = .own (zb0 (Nat.gcd k n) lo hi) := by
 have n24 := d.n24
 simp! only [↓zaT, ↓zdU]
 refine (zlY d S L G).mono ?_
 rintro _ rfl
 simp! only []
 refine (zjT d S L G).mono ?_
 rintro _ rfl
 simp! only []
 refine (zce d S L G).mono ?_
 rintro _ rfl
 simp! only []
 refine (zmy d.g1 d.gn (by lia) sp).mono ?_
 rintro _ rfl
 simp! only []
noncomputable def rR (k n : Nat) (S lo hi : Nat -> Int) (p : Nat) : Int := hd lo hi (Nat.gcd k n) (tT k n S) (p % Nat.gcd k n) + rM k n S p
noncomputable def Fit (k n : Nat) (S L G lo hi : Nat -> Int) (x : D) : Prop :=
 (∃ j, j < Nat.gcd k n /\ mw k n S j (n / Nat.gcd k n) ≠ 0 /\ x = .tup [.str "round", .int (j : Nat)]) \/
 (Clo k n S /\ rT k n S % (eT k n : Int) ≠ 0 /\ x = .tup [.str "part", .int (rT k n S % (eT k n : Int))]) \/
 (Clo k n S /\ rT k n S % (eT k n : Int) = 0 /\ ¬ Room' (Nat.gcd k n) lo hi (tT k n S) /\ Paper (rA k n S L) (rA k n S G) n (Nat.gcd k n) (tT k n S) x) \/
 (Clo k n S /\ rT k n S % (eT k n : Int) = 0 /\ Room' (Nat.gcd k n) lo hi (tT k n S) /\ x = .tup [.str "row", .tup (wI n (rR k n S lo hi))])
theorem zoi {pd : D} (h : Paper f g n m t pd) : isN pd = false := by
 rcases h with ⟨a, b, _, _, _, _, rfl⟩ | ⟨pl, _, _, rfl⟩ | ⟨pl, _, _, rfl⟩ <;> rfl
theorem ziC (d : RDim k n) (sp : zcF k n S L G lo hi) : Ok (zaX [zbn k n S L G]) fun x => ∃ y, x = .val y /\ Fit k n S L G lo hi y := by
 have n24 := d.n24
 have gn := d.gn
 simp! only [↓zaX, ↓zd3]
 refine (zhq d S L G).mono ?_
 rintro _ (⟨j, hj, hne, rfl⟩ | ⟨hc, hne, rfl⟩ | ⟨hc, h0, rfl⟩)
 ·simp! only [↓zbl]
  exact ⟨_, rfl, .inl ⟨j, hj, hne, rfl⟩⟩
 ·simp! only [↓zbl]
  exact ⟨_, rfl, .inr (.inl ⟨hc, hne, rfl⟩)⟩
 ·simp! only []
  refine (zlY d S L G).mono ?_
  rintro _ rfl
  simp! only []
  refine (zjT d S L G).mono ?_
  rintro _ rfl
  simp! only []
  refine (zce d S L G).mono ?_
  rintro _ rfl
  simp! only []
  refine (zhy d S L G).mono ?_
  rintro _ rfl
  simp! only []
  refine (paper_ok d.g1 d.gn (by lia) (tT k n S) sp).mono ?_
  rintro _ (⟨rm, rfl⟩ | ⟨rm, y, py, rfl⟩)
  ·simp! only [↓zbl, ↓zeP]
   refine (ziY d sp).mono ?_
   rintro _ rfl
   simp! only []
   refine (zhy d S L G).mono ?_
   rintro _ rfl
   simp! only []
   refine (zjj lo hi (tT k n S) (by lia)).mono ?_
   rintro _ rfl
   simp! only []
   refine (zg4 d S L G).mono ?_
   rintro _ rfl
   simp! only []
   refine (ziS d.g1 (by lia) (hd lo hi (Nat.gcd k n) (tT k n S)) (rM k n S)).mono ?_
   rintro _ rfl
   simp! only []
   exact ⟨_, rfl, .inr (.inr (.inr ⟨hc, h0, rm, rfl⟩))⟩
  ·have e := zoi py
   simp! only [↓zbl, e]
   exact ⟨_, rfl, .inr (.inr (.inl ⟨hc, h0, rm, py⟩))⟩
end
noncomputable def bin : Nat -> Nat -> Nat
 | _, 0 => 1
 | 0, _ + 1 => 0
 | n + 1, m + 1 => bin n m + bin n (m + 1)
theorem zhb (n : Nat) : bin n 0 = 1 := by cases n <;> rfl
theorem zd7 (n m : Nat) : bin (n + 1) (m + 1) = bin n m + bin n (m + 1) := rfl
theorem zmr : ∀ n s, bin (n + 1) (s + 1) * (s + 1) = bin n s * (n + 1)
 | 0, 0 => rfl
 | 0, s + 1 => by
  have h1 : bin 1 (s + 2) = 0 := rfl
  have h2 : bin 0 (s + 1) = 0 := rfl
  rw [h1, h2, Nat.zero_mul, Nat.zero_mul]
 | n + 1, 0 => by
  have h := zmr n 0
  rw [zd7 (n + 1) 0, zhb, Nat.zero_add, Nat.mul_one, Nat.one_mul]
  rw [zhb, Nat.zero_add, Nat.mul_one, Nat.one_mul] at h
  lia
 | n + 1, t + 1 => by
  have h1 := zmr n (t + 1)
  have h2 := zmr n t
  rw [zd7 (n + 1) (t + 1), Nat.add_mul, h1, show t + 1 + 1 = (t + 1) + 1 from rfl, Nat.mul_add (bin (n + 1) (t + 1)) (t + 1) 1, h2, Nat.mul_one, Nat.mul_add (bin (n + 1) (t + 1)) (n + 1) 1, Nat.mul_one]
  have h3 : bin (n + 1) (t + 1) * (n + 1) = bin n t * (n + 1) + bin n (t + 1) * (n + 1) := by rw [zd7, Nat.add_mul]
  lia
theorem zn0 : ∀ n m, bin n m <= (n + 1) ^ m
 | n, 0 => by rw [zhb]; exact Nat.le_refl _
 | 0, m + 1 => Nat.zero_le _
 | n + 1, m + 1 => by
  have h1 := zn0 n m
  have h2 := zn0 n (m + 1)
  have h3 : (n + 1) ^ m <= (n + 2) ^ m := Nat.pow_le_pow_left (by lia) m
  rw [zd7]
  calc bin n m + bin n (m + 1) <= (n + 1) ^ m + (n + 1) ^ (m + 1) := Nat.add_le_add h1 h2
   _ = (n + 1) ^ m * (n + 2) := by
    have e : (n + 1) ^ m * (n + 2) = (n + 1) ^ m * 1 + (n + 1) ^ m * (n + 1) := by rw [<- Nat.mul_add, show 1 + (n + 1) = n + 2 by lia]
    rw [e, Nat.pow_succ, Nat.mul_one]
   _ <= (n + 2) ^ m * (n + 2) := Nat.mul_le_mul_right _ h3
   _ = (n + 1 + 1) ^ (m + 1) := (Nat.pow_succ ..).symm
theorem bin_far {r i : Nat} (hr : r < 2 ^ 250) (hi : i <= 5) : bin (r + i) i < 2 ^ 4000 := by
 have h1 : bin (r + i) i <= (2 ^ 251) ^ i := Nat.le_trans (zn0 _ _) (Nat.pow_le_pow_left (by lia) i)
 have h2 : (2 ^ 251) ^ i <= (2 ^ 251) ^ 5 := Nat.pow_le_pow_right (by decide) hi
 have h3 : (2 ^ 251) ^ 5 < 2 ^ 4000 := by rw [<- Nat.pow_mul]; exact Nat.pow_lt_pow_right (by decide) (by decide)
 lia
theorem zoV {i j : Int} (h1 : i.natAbs < 2 ^ 4000) (h2 : j.natAbs < 2 ^ 4000) : zjX i j = true := by
 unfold zjX
 rw [decide_eq_true h1, decide_eq_true h2]; simp
theorem zkJ {r k : Nat} (hr : r < 2 ^ 250) (k1 : 1 <= k) (k5 : k <= 5) : Ok (zc5 [.int r, .int k]) fun x => x = .val (.int (bin (r + (k - 1)) (k - 1) : Nat)) := by
 have e0 : ((k : Int) - 1).toNat = k - 1 := by lia
 simp! only [↓zc5, ↓zgS, ↓zgB, e0, zhD]
 refine ⟨⟨rfl, zaZ (by lia) (by lia)⟩, zcp (fun i ρ => ∃ s3, ρ = [.val (.int r), .val (.int k), .val (.int (bin (r + i) i : Nat)), s3]) ⟨_, by rw [zhb]; rfl⟩ ?_ ?_⟩
 ·rintro i _ hi ⟨s3, rfl⟩
  have hb := bin_far hr (show i <= 5 by lia)
  have e1 : (bin (r + i) i : Int) * ((r : Int) + (1 + (i : Int))) / (1 + (i : Int)) = (bin (r + (i + 1)) (i + 1) : Nat) := by
   have h := zmr (r + i) i
   have h' : (bin (r + i) i : Int) * ((r : Int) + (1 + (i : Int))) = (bin (r + (i + 1)) (i + 1) : Nat) * (1 + (i : Int)) := by
    have : ((bin (r + i) i * (r + i + 1) : Nat) : Int) = ((bin (r + i + 1) (i + 1) * (i + 1) : Nat) : Int) := by rw [h]
    push_cast at this
    rw [show r + (i + 1) = r + i + 1 by lia, show (r : Int) + (1 + (i : Int)) = (r : Int) + (i : Int) + 1 by lia, this, show (1 + (i : Int)) = (i : Int) + 1 by lia]
   rw [h', Int.mul_ediv_cancel _ (by lia)]
  simp! only [↓zga, e1]
  exact ⟨zoV (by simpa using hb) (by lia), zc1 (by lia) (by lia), _, rfl⟩
 ·rintro _ ⟨s3, rfl⟩
  simp! only []
noncomputable def sub (w : Nat -> Int) (c : Int -> Int) : Nat -> Nat -> Int -> Int
 | 0, _, t => c t
 | m + 1, j, t => sub w c m (j + 1) t - sub w c m (j + 1) (t - w j)
theorem zjQ {c : Int -> Int} (hw : ∀ j, 0 <= w j) (hc : ∀ t, t < 0 -> c t = 0) : ∀ m j t, t < 0 -> sub w c m j t = 0
 | 0, _, t, h => hc t h
 | m + 1, j, t, h => by
  show sub w c m (j + 1) t - sub w c m (j + 1) (t - w j) = 0
  rw [zjQ hw hc m (j + 1) t h, zjQ hw hc m (j + 1) (t - w j) (by have := hw j; lia)]
  rfl
noncomputable def tsum (F : Int -> Int) : List (Int × Nat) -> Int
 | [] => 0
 | p :: ps => p.1 * F p.2 + tsum F ps
theorem zm2 (F : Int -> Int) : ∀ a b : List (Int × Nat), tsum F (a ++ b) = tsum F a + tsum F b
 | [], b => (Int.zero_add _).symm
 | p :: a, b => by
  show p.1 * F p.2 + tsum F (a ++ b) = p.1 * F p.2 + tsum F a + tsum F b
  rw [zm2 F a b]; lia
noncomputable def more (w : Nat) (ps : List (Int × Nat)) : List (Int × Nat) := ps.filterMap fun p => if w <= p.2 then some (-p.1, p.2 - w) else none
theorem zlg (w : Nat) (h0 : ∀ t, t < 0 -> F t = 0) : ∀ ps : List (Int × Nat), tsum F ps + tsum F (more w ps) = tsum (fun t => F t - F (t - w)) ps
 | [] => rfl
 | p :: ps => by
  have ih := zlg w h0 ps
  show p.1 * F p.2 + tsum F ps + tsum F (more w (p :: ps)) = p.1 * (F p.2 - F ((p.2 : Int) - w)) + tsum (fun t => F t - F (t - w)) ps
  rw [Int.mul_sub]
  by_cases h : w <= p.2
  ·have e : more w (p :: ps) = (-p.1, p.2 - w) :: more w ps := by unfold more; rw [List.filterMap_cons, if_pos h]
   have e2 : tsum F ((-p.1, p.2 - w) :: more w ps) = -p.1 * F (((p.2 - w : Nat)) : Int) + tsum F (more w ps) := rfl
   rw [e, e2, show ((p.2 - w : Nat) : Int) = (p.2 : Int) - (w : Int) by lia, Int.neg_mul]
   lia
  ·have e : more w (p :: ps) = more w ps := by unfold more; rw [List.filterMap_cons, if_neg h]
   rw [e, h0 ((p.2 : Int) - w) (by lia), Int.mul_zero]
   lia
noncomputable def ways (k : Nat) (t : Int) : Int := if 0 <= t then (bin (t.toNat + (k - 1)) (k - 1) : Nat) else 0
theorem zf5 (k : Nat) (t : Int) (h : t < 0) : ways k t = 0 := if_neg (by lia)
theorem ziq (k r : Nat) : ways k (r : Int) = (bin (r + (k - 1)) (k - 1) : Nat) := by
 unfold ways; rw [if_pos (by lia), Int.toNat_natCast]
noncomputable abbrev tD (ps : List (Int × Nat)) : List D := ps.map fun p => .tup [.int p.1, .int p.2]
noncomputable abbrev spanD (m : Nat) (lo hi : Nat -> Int) : List D := wL m fun j => .tup [.int (lo j), .int (hi j)]
theorem zmA (F : Int -> Int) : ∀ ps : List (Int × Nat), (ps.map fun p => p.1 * F p.2).sum = tsum F ps
 | [] => rfl
 | p :: ps => by
  rw [List.map_cons, List.sum_cons, zmA F ps]; rfl
theorem more_len (w : Nat) (ps : List (Int × Nat)) : (more w ps).length <= ps.length := List.length_filterMap_le _ _
theorem heads6 (k1 : 1 <= k) (k5 : k <= 5) (le : ∀ j, j < k -> lo j <= hi j) {left : Nat} (hl : left < 2 ^ 250) (a1 a3 a4 a5 a6 : Sl) :
  Ok (zcR [.val (.lst (spanD k lo hi)), a1, .val (.int left), a3, a4, a5, a6]) fun x => ∃ a, x = (.ret (.val (.int (sub (fun j => if j < k then hi j - lo j + 1 else 0) (ways k) k 0 left))), a) := by
 have hw : ∀ j, 0 <= (if j < k then hi j - lo j + 1 else 0) := fun j => by
  split
  ·rename_i h; have := le j h; lia
  ·exact Int.le_refl _
 have hw' : ∀ j, 0 <= (fun j => if j < k then hi j - lo j + 1 else 0) j := hw
 clear hw
 generalize hW : (fun j => if j < k then hi j - lo j + 1 else 0) = W at hw'
 simp! only [↓zcR, ↓zfk]
 refine zcp (fun j ρ => ∃ ps s4 s5 s6, ps.length <= 2 ^ j /\ (∀ p ∈ ps, p.1.natAbs = 1 /\ p.2 <= left) /\ tsum (sub W (ways k) (k - j) j) ps = sub W (ways k) k 0 left /\ ρ = [.val (.lst (spanD k lo hi)), a1, .val (.int left), .val (.lst (tD ps)), s4, s5, s6]) ⟨[(1, left)], _, _, _, by simp, fun p hp => by rw [List.mem_singleton.mp hp]; exact ⟨rfl, Nat.le_refl _⟩, ?_, rfl⟩ ?_ ?_
 ·show (1 : Int) * sub W (ways k) (k - 0) 0 left + 0 = _
  rw [Int.one_mul, Int.add_zero]; rfl
 ·rintro j _ hj ⟨ps, s4, s5, s6, hn, hs, ht, rfl⟩
  have hp : 2 ^ j <= 16 := Nat.pow_le_pow_right (n := 2) (by decide) (show j <= 4 by lia)
  have hl := le j hj
  obtain ⟨w, ew⟩ : ∃ w : Nat, hi j - lo j + 1 = (w : Int) := ⟨(hi j - lo j + 1).toNat, by lia⟩
  have eW : W j = (w : Int) := by rw [<- hW]; simp only [hj, if_true]; exact ew
  simp! only [↓zfp, ew, ↓zfL]
  refine ⟨by lia, zkg (enc := fun p : Int × Nat => D.tup [.int p.1, .int p.2]) (l := ps) (fun ρ => ∃ x y, ρ = [.val (.int w), x, y]) (fun p => if w <= p.2 then some (.tup [.int (-p.1), .int ((p.2 : Int) - w)]) else none) ⟨_, _, rfl⟩ ?_ ?_⟩
  ·rintro ⟨s, r⟩ _ _ ⟨x, y, rfl⟩
   simp! only [↓zfa, ↓zfY]
   refine ⟨fun h => ?_, fun h => ?_⟩
   ·rw [if_pos (by lia)]; exact ⟨rfl, _, _, rfl⟩
   ·rw [if_neg (by lia)]; exact ⟨rfl, _, _, rfl⟩
  ·rintro _ ⟨x, y, rfl⟩
   have e : (ps.filterMap fun p => if w <= p.2 then some (D.tup [.int (-p.1), .int ((p.2 : Int) - w)]) else none) = tD (more w ps) := by
    unfold tD more
    rw [List.map_filterMap]
    refine zeT _ fun p hp => ?_
    split
    ·rename_i h; rw [Option.map_some, show ((p.2 - w : Nat) : Int) = (p.2 : Int) - (w : Int) by lia]
    ·rfl
   have e2 : tD ps ++ tD (more w ps) = tD (ps ++ more w ps) := (List.map_append ..).symm
   have hm := more_len w ps
   simp! only [e, e2]
   refine ⟨by lia, ps ++ more w ps, _, _, _, by rw [List.length_append, Nat.pow_succ]; lia, fun p hp => ?_, ?_, rfl⟩
   ·rcases List.mem_append.mp hp with h | h
    ·exact hs p h
    ·obtain ⟨q, hq, e⟩ := List.mem_filterMap.mp h
     have := hs q hq
     split at e
     ·cases e; exact ⟨by rw [Int.natAbs_neg]; exact this.1, by have := this.2; show q.2 - w <= left; lia⟩
     ·cases e
   ·rw [zm2, zlg w (fun t h => zjQ hw' (zf5 k) _ _ t h), <- ht, show k - j = (k - (j + 1)) + 1 by lia, <- eW]
    rfl
 ·rintro _ ⟨ps, s4, s5, s6, hn, hs, ht, rfl⟩
  have hp : 2 ^ k <= 32 := Nat.pow_le_pow_right (n := 2) (by decide) k5
  simp! only [↓zfS]
  refine ⟨by lia, zoj (enc := fun p : Int × Nat => D.tup [.int p.1, .int p.2]) (l := ps) (fun ρ => ∃ x y, ρ = [.val (.lst (spanD k lo hi)), x, y]) (fun p => .int (p.1 * ways k p.2)) ⟨_, _, rfl⟩ ?_ ?_⟩
  ·rintro ⟨s, r⟩ _ hm ⟨x, y, rfl⟩
   have := hs _ hm
   simp! only [↓zfH]
   refine (zkJ (r := r) (by have := this.2; simp only at this; lia) k1 k5).mono ?_
   rintro _ rfl
   simp! only [ziq]
   exact ⟨zcD (by have := this.1; simp only at this; lia), _, _, rfl⟩
  ·rintro _ ⟨x, y, rfl⟩
   have e : (ps.map fun p => D.int (p.1 * ways k p.2)) = (ps.map fun p => p.1 * ways k p.2).map D.int := by rw [List.map_map]; rfl
   simp! only [e, zcr, zmA]
   rw [Nat.sub_self] at ht
   have : tsum (ways k) ps = sub W (ways k) k 0 left := ht
   rw [this]
   exact ⟨_, rfl⟩
noncomputable def wid (k : Nat) (lo hi : Nat -> Int) : Nat -> Int := fun j => if j < k then hi j - lo j + 1 else 0
noncomputable def cnt (k : Nat) (lo hi : Nat -> Int) (T : Int) : Int := if (List.range k).all (fun j => decide (lo j <= hi j)) then sub (wid k lo hi) (ways k) k 0 (T - sumR k lo) else 0
theorem all_le : (List.range k).all (fun j => decide (lo j <= hi j)) = true ↔ ∀ j, j < k -> lo j <= hi j := by simp
theorem wid_pos (le : ∀ j, j < k -> lo j <= hi j) (j : Nat) : 0 <= wid k lo hi j := by
 unfold wid
 split
 ·rename_i h; have := le j h; lia
 ·exact Int.le_refl _
theorem zhf (k1 : 1 <= k) (k5 : k <= 5) (lo hi : Nat -> Int) (T : Int) (far : T - sumR k lo < 2 ^ 250) : Ok (zbC [.lst (spanD k lo hi), .int T]) fun x => x = .val (.int (cnt k lo hi T)) := by
 simp! only [↓zbC, ↓zfR, ↓zfr]
 refine ⟨by lia, zaw (fun ρ => ∃ x y, ρ = [x, y]) (fun j => .bl (decide (hi j < lo j))) ⟨_, _, rfl⟩ ?_ ?_⟩
 ·rintro j _ hj ⟨x, y, rfl⟩
  simp! only [↓zfo]
  exact ⟨_, _, rfl⟩
 ·rintro _ ⟨x, y, rfl⟩
  simp! only [zdF]
  refine ⟨fun h => ?_, fun h => ?_⟩
  ·obtain ⟨j, hj, e⟩ := (any_w _ _).mp h
   have : ¬ (List.range k).all (fun j => decide (lo j <= hi j)) = true := fun z => by
    have := all_le.mp z j hj
    have := of_decide_eq_true e
    lia
   unfold cnt
   rw [if_neg this]
  ·have le : ∀ j, j < k -> lo j <= hi j := fun j hj => by
    by_cases q : lo j <= hi j
    ·exact q
    ·have := (any_w k fun j => decide (hi j < lo j)).mpr ⟨j, hj, decide_eq_true (by lia)⟩
     rw [h] at this; cases this
   have ec : cnt k lo hi T = sub (wid k lo hi) (ways k) k 0 (T - sumR k lo) := if_pos (all_le.mpr le)
   simp! only [↓zfT, ↓zfZ]
   refine ⟨by lia, zaw (fun ρ => ∃ x y, ρ = [x, y]) (fun j => .int (lo j)) ⟨_, _, rfl⟩ ?_ ?_⟩
   ·rintro j _ hj ⟨x, y, rfl⟩
    simp! only [↓zfE]
    exact ⟨_, _, rfl⟩
   ·rintro _ ⟨x, y, rfl⟩
    simp! only [zcG, zcm]
    refine ⟨fun h => ?_, fun h => ?_⟩
    ·rw [ec, zjQ (wid_pos le) (zf5 k) _ _ _ (by lia)]
    ·obtain ⟨left, el⟩ : ∃ left : Nat, T - sumR k lo = (left : Int) := ⟨(T - sumR k lo).toNat, by lia⟩
     rw [el] at ec far ⊢
     refine (heads6 k1 k5 le (left := left) (by lia) _ _ _ _ _).mono ?_
     rintro _ ⟨a, rfl⟩
     simp! only [ec]
     rfl
noncomputable def hc (lo hi : Nat -> Int) : Nat -> Nat -> Int -> Int
 | 0, _, t => if t = 0 then 1 else 0
 | m + 1, j, t => sumR (hi j - lo j + 1).toNat fun v => hc lo hi m (j + 1) (t - (lo j + (v : Nat)))
theorem zlA (w : Nat -> Int) (F G : Int -> Int) : ∀ m j t, sub w (fun t => F t - G t) m j t = sub w F m j t - sub w G m j t
 | 0, _, _ => rfl
 | m + 1, j, t => by
  show sub w _ m (j + 1) t - sub w _ m (j + 1) (t - w j) = (sub w F m (j + 1) t - sub w F m (j + 1) (t - w j)) - (sub w G m (j + 1) t - sub w G m (j + 1) (t - w j))
  rw [zlA w F G m, zlA w F G m]; lia
theorem zhj (w : Nat -> Int) (F : Int -> Int) (a : Int) : ∀ m j t, sub w (fun t => F (t - a)) m j t = sub w F m j (t - a)
 | 0, _, _ => rfl
 | m + 1, j, t => by
  show sub w _ m (j + 1) t - sub w _ m (j + 1) (t - w j) = sub w F m (j + 1) (t - a) - sub w F m (j + 1) (t - a - w j)
  rw [zhj w F a m, zhj w F a m, show t - w j - a = t - a - w j by lia]
theorem zjK (w : Nat -> Int) (F : Nat -> Int -> Int) (n : Nat) : ∀ m j t, sub w (fun t => sumR n fun v => F v t) m j t = sumR n fun v => sub w (F v) m j t
 | 0, _, _ => rfl
 | m + 1, j, t => by
  show sub w _ m (j + 1) t - sub w _ m (j + 1) (t - w j) = sumR n fun v => sub w (F v) m (j + 1) t - sub w (F v) m (j + 1) (t - w j)
  rw [zjK w F n m, zjK w F n m, zmM]
theorem zny {F G : Int -> Int} (h : ∀ t, F t = G t) (m j : Nat) (t : Int) : sub w F m j t = sub w G m j t := by
 rw [show F = G from funext h]
theorem zkl : ∀ n m, n < m -> bin n m = 0
 | 0, m + 1, _ => rfl
 | n + 1, m + 1, h => by rw [zd7, zkl n m (by lia), zkl n (m + 1) (by lia)]
theorem zj6 : ∀ n, bin n n = 1
 | 0 => rfl
 | n + 1 => by rw [zd7, zj6 n, zkl n (n + 1) (by lia)]
theorem zn7 (hm : 1 <= m) (t : Int) : ways (m + 1) t - ways (m + 1) (t - 1) = ways m t := by
 obtain ⟨m, rfl⟩ : ∃ q, m = q + 1 := ⟨m - 1, by lia⟩
 by_cases h : t < 0
 ·rw [zf5 _ _ h, zf5 _ _ (by lia), zf5 _ _ h]; rfl
 ·obtain ⟨r, rfl⟩ : ∃ r : Nat, t = r := ⟨t.toNat, by lia⟩
  rw [ziq, ziq]
  simp only [Nat.add_sub_cancel]
  cases r with
  | zero =>
   rw [zf5 _ _ (by lia), Nat.zero_add, Nat.zero_add, zj6, zj6]; rfl
  | succ r =>
   rw [show ((r + 1 : Nat) : Int) - 1 = (r : Nat) by lia, ziq]
   simp only [Nat.add_sub_cancel]
   rw [show r + 1 + (m + 1) = (r + (m + 1)) + 1 by lia, zd7, show r + 1 + m = r + (m + 1) by lia]
   push_cast
   lia
theorem zmu (hm : 1 <= m) (t : Int) : ∀ n : Nat, (sumR n fun v => ways m (t - (v : Nat))) = ways (m + 1) t - ways (m + 1) (t - n)
 | 0 => by show (0 : Int) = _; rw [show t - ((0 : Nat) : Int) = t by lia]; lia
 | n + 1 => by
  show (sumR n fun v => ways m (t - (v : Nat))) + ways m (t - n) = _
  rw [zmu hm t n, <- zn7 hm (t - n), show t - (n : Int) - 1 = t - ((n + 1 : Nat) : Int) by lia]
  lia
theorem hc_sub (le : ∀ j, j < k -> lo j <= hi j) : ∀ (m j : Nat) (t : Int), j + (m + 1) <= k -> hc lo hi (m + 1) j t = sub (wid k lo hi) (ways (m + 1)) (m + 1) j (t - sumR (m + 1) fun i => lo (j + i))
 | 0, j, t, h => by
  have l := le j (by lia)
  have ew : wid k lo hi j = hi j - lo j + 1 := if_pos (by lia)
  show (sumR (hi j - lo j + 1).toNat fun v => if t - (lo j + (v : Nat)) = 0 then 1 else 0) = ways 1 (t - (0 + lo (j + 0))) - ways 1 (t - (0 + lo (j + 0)) - wid k lo hi j)
  rw [ew, Int.zero_add, Nat.add_zero]
  have w1 : ∀ x, ways 1 x = if 0 <= x then 1 else 0 := fun x => by
   unfold ways
   split
   ·rw [show 1 - 1 = 0 from rfl, zhb]; rfl
   ·rfl
  have key : ∀ n : Nat, (sumR n fun v => if t - (lo j + (v : Nat)) = 0 then 1 else 0) = (if 0 <= t - lo j then 1 else 0) - (if 0 <= t - lo j - n then 1 else 0) := fun n => by
   induction n with
   | zero => show (0 : Int) = _; rw [show t - lo j - ((0 : Nat) : Int) = t - lo j by lia]; lia
   | succ n ih =>
    show (sumR n fun v => if t - (lo j + (v : Nat)) = 0 then 1 else 0) + (if t - (lo j + (n : Nat)) = 0 then 1 else 0) = _
    rw [ih]
    push_cast
    split <;> split <;> split <;> split <;> lia
  rw [key, w1, w1, show (((hi j - lo j + 1).toNat : Nat) : Int) = hi j - lo j + 1 by lia]
 | m + 1, j, t, h => by
  have l := le j (by lia)
  have ew : wid k lo hi j = hi j - lo j + 1 := if_pos (by lia)
  have split : (sumR (m + 1 + 1) fun i => lo (j + i)) = lo j + sumR (m + 1) fun i => lo (j + 1 + i) := by
   have := zba (fun i => lo (j + i)) 1 (m + 1)
   rw [show 1 + (m + 1) = m + 1 + 1 by lia] at this
   rw [this]
   congr 1
   ·show (0 : Int) + lo (j + 0) = _; rw [Int.zero_add]; rfl
   ·exact zao fun i _ => by rw [Nat.add_assoc]
  show (sumR (hi j - lo j + 1).toNat fun v => hc lo hi (m + 1) (j + 1) (t - (lo j + (v : Nat)))) = _
  rw [zao fun v _ => hc_sub le m (j + 1) (t - (lo j + (v : Nat))) (by lia)]
  generalize hT : (t - sumR (m + 1 + 1) fun i => lo (j + i)) = T
  rw [zao (g := fun v : Nat => sub (wid k lo hi) (fun t => ways (m + 1) (t - (v : Nat))) (m + 1) (j + 1) T) fun v _ => by
   rw [zhj]; congr 1; lia]
  rw [<- zjK, zny (fun t => zmu (show 1 <= m + 1 by lia) t _), zlA, zhj]
  show _ = sub (wid k lo hi) (ways (m + 1 + 1)) (m + 1) (j + 1) T - sub (wid k lo hi) (ways (m + 1 + 1)) (m + 1) (j + 1) (T - wid k lo hi j)
  rw [ew, show (((hi j - lo j + 1).toNat : Nat) : Int) = hi j - lo j + 1 by lia]
theorem zlB : ∀ (m j : Nat) (t : Int), (∃ i, i < m /\ hi (j + i) < lo (j + i)) -> hc lo hi m j t = 0
 | 0, _, _, ⟨i, h, _⟩ => by lia
 | m + 1, j, t, ⟨i, h, l⟩ => by
  show (sumR (hi j - lo j + 1).toNat fun v => hc lo hi m (j + 1) (t - (lo j + (v : Nat)))) = 0
  match i, h, l with
  | 0, _, l => rw [Nat.add_zero] at l; rw [show (hi j - lo j + 1).toNat = 0 by lia]; rfl
  | i + 1, h, l =>
   rw [zao (g := fun _ => 0) fun v _ => zlB m (j + 1) _ ⟨i, by lia, by rw [show j + 1 + i = j + (i + 1) by lia]; exact l⟩, zix]
theorem hc_cnt (k1 : 1 <= k) (lo hi : Nat -> Int) (T : Int) : hc lo hi k 0 T = cnt k lo hi T := by
 unfold cnt
 by_cases c : (List.range k).all (fun j => decide (lo j <= hi j)) = true
 ·rw [if_pos c]
  obtain ⟨m, rfl⟩ : ∃ m, k = m + 1 := ⟨k - 1, by lia⟩
  rw [hc_sub (all_le.mp c) m 0 T (by lia)]
  congr 2
  exact zao fun i _ => by rw [Nat.zero_add]
 ·rw [if_neg c]
  refine zlB k 0 T ?_
  by_cases z : ∃ i, i < k /\ hi (0 + i) < lo (0 + i)
  ·exact z
  ·refine absurd (all_le.mpr fun j hj => ?_) c
   by_cases y : lo j <= hi j
   ·exact y
   ·exact absurd ⟨j, hj, by rw [Nat.zero_add]; lia⟩ z
theorem zmh (lo hi : Nat -> Int) (j : Nat) : ∀ (m i : Nat) (t : Int), hc (fun i => lo (j + i)) (fun i => hi (j + i)) m i t = hc lo hi m (j + i) t
 | 0, _, _ => rfl
 | m + 1, i, t => zao fun v _ => by rw [zmh lo hi j m (i + 1)]; rfl
theorem znG : ∀ (m j : Nat) (t : Int), (∀ i, i < m -> lo (j + i) = lo' (j + i) /\ hi (j + i) = hi' (j + i)) -> hc lo hi m j t = hc lo' hi' m j t
 | 0, _, _, _ => rfl
 | m + 1, j, t, h => by
  have h0 := h 0 (by lia)
  rw [Nat.add_zero] at h0
  show sumR (hi j - lo j + 1).toNat _ = sumR (hi' j - lo' j + 1).toNat _
  rw [h0.1, h0.2]
  exact zao fun v _ => znG m (j + 1) _ fun i hi => by
   have := h (i + 1) (by lia)
   rw [show j + (i + 1) = j + 1 + i by lia] at this
   exact this
theorem zj7 {f : Nat -> Int} (h : ∀ i, i < n -> 0 <= f i) : 0 <= sumR n f := by
 have := zgK (f := fun _ => 0) (g := f) h
 rw [zix] at this
 exact this
theorem zkG (lo hi : Nat -> Int) : ∀ (m j : Nat) (t : Int), 0 <= hc lo hi m j t
 | 0, _, t => by show 0 <= if t = 0 then (1 : Int) else 0; split <;> decide
 | m + 1, j, t => zj7 fun v _ => zkG lo hi m (j + 1) _
noncomputable def zbW (lo hi : Nat -> Int) (m j : Nat) (t f : Int) : Int := sumR (f - lo j).toNat fun v => hc lo hi m (j + 1) (t - (lo j + (v : Nat)))
theorem zkQ (lo hi : Nat -> Int) (m j : Nat) (t : Int) : zbW lo hi m j t (hi j + 1) = hc lo hi (m + 1) j t := by
 unfold zbW
 show _ = sumR (hi j - lo j + 1).toNat _
 rw [show hi j + 1 - lo j = hi j - lo j + 1 by lia]
theorem zoK (lo hi : Nat -> Int) (m j : Nat) (t : Int) : zbW lo hi m j t (lo j) = 0 := by
 unfold zbW
 rw [Int.sub_self]; rfl
theorem zhR (lo hi : Nat -> Int) (m j : Nat) (t : Int) {f : Int} (h : lo j <= f) : zbW lo hi m j t (f + 1) = zbW lo hi m j t f + hc lo hi m (j + 1) (t - f) := by
 unfold zbW
 rw [show (f + 1 - lo j).toNat = (f - lo j).toNat + 1 by lia]
 show _ + hc lo hi m (j + 1) (t - (lo j + ((f - lo j).toNat : Nat))) = _
 rw [show lo j + ((f - lo j).toNat : Nat) = f by lia]
theorem cons_w (a : D) (m : Nat) (f : Nat -> D) : [a] ++ wL m f = wL (m + 1) fun i => if i = 0 then a else f (i - 1) := by
 apply List.ext_getElem?
 intro i
 cases i with
 | zero => rw [zay _ (by lia)]; rfl
 | succ i =>
  show (wL m f)[i]? = _
  by_cases h : i < m
  ·rw [zay _ h, zay _ (by lia), if_neg (by lia)]; rfl
  ·rw [List.getElem?_eq_none (by rw [zaE]; lia), List.getElem?_eq_none (by rw [zaE]; lia)]
theorem znU (f : Nat -> D) : (wL n f).drop i = wL (n - i) fun j => f (i + j) := by
 apply List.ext_getElem?
 intro j
 rw [List.getElem?_drop]
 by_cases hj : i + j < n
 ·rw [zay _ hj, zay _ (by lia)]
 ·rw [List.getElem?_eq_none (by rw [zaE]; lia), List.getElem?_eq_none (by rw [zaE]; lia)]
theorem zlQ (lo hi : Nat -> Int) (m j : Nat) (f : Int) : [D.tup [.int (lo j), .int (f - 1)]] ++ zb0 m (fun i => lo (j + 1 + i)) (fun i => hi (j + 1 + i)) = zb0 (m + 1) (fun i => lo (j + i)) (fun i => if i = 0 then f - 1 else hi (j + i)) := by
 unfold zb0
 rw [cons_w]
 refine zcH fun i hi' => ?_
 by_cases h : i = 0
 ·subst h; simp
 ·rw [if_neg h]; dsimp only; rw [if_neg h, show j + 1 + (i - 1) = j + i by lia]
theorem zn2 (lo hi : Nat -> Int) (m j : Nat) (t f : Int) : cnt (m + 1) (fun i => lo (j + i)) (fun i => if i = 0 then f - 1 else hi (j + i)) t = zbW lo hi m j t f := by
 rw [<- hc_cnt (by lia)]
 show sumR ((if (0 : Nat) = 0 then f - 1 else hi (j + 0)) - lo (j + 0) + 1).toNat _ = _
 unfold zbW
 rw [if_pos rfl, Nat.add_zero, show f - 1 - lo j + 1 = f - lo j by lia]
 refine zao fun v _ => ?_
 rw [<- zmh lo hi j m 1]
 exact znG m 1 _ fun i _ => ⟨rfl, if_neg (by lia)⟩
section
variable {lo hi : Nat -> Int} {m j : Nat} {t : Int}
theorem zgd (m5 : m + 1 <= 5) (far : t - (sumR (m + 1) fun i => lo (j + i)) < 2 ^ 250) (f : Int) : Ok (zbc [.lst (zb0 (m + 1) (fun i => lo (j + i)) fun i => hi (j + i)), .int t, .int f]) fun x => x = .val (.int (zbW lo hi m j t f)) := by
 have c1 : cutD (zb0 (m + 1) (fun i => lo (j + i)) fun i => hi (j + i)) (some 1) none = zb0 m (fun i => lo (j + 1 + i)) fun i => hi (j + 1 + i) := by
  rw [show (some (1 : Int)) = some ((1 : Nat) : Int) from rfl, zjN]
  unfold zb0
  rw [znU]
  exact zcH fun i _ => by dsimp only; rw [show j + (1 + i) = j + 1 + i by lia]
 have g0 : (zb0 (m + 1) (fun i => lo (j + i)) fun i => hi (j + i))[0]? = some (.tup [.int (lo j), .int (hi j)]) := by
  unfold zb0; rw [zay _ (by lia)]; rfl
 have sl : (zb0 m (fun i => lo (j + 1 + i)) fun i => hi (j + 1 + i)).length = m := zaE _ _
 simp! only [↓zbc, ↓zdQ, c1, g0, sl]
 refine ⟨by lia, ?_⟩
 have e := zlQ lo hi m j f
 simp only [List.cons_append, List.nil_append] at e
 rw [e]
 refine (zhf (by lia) m5 _ _ t far).mono ?_
 rintro _ rfl
 simp! only [zn2]
theorem zkv (m5 : m + 1 <= 5) (far : t - (sumR (m + 1) fun i => lo (j + i)) < 2 ^ 250) (wide : hi j - lo j < 2 ^ 399) (h0 : 0 <= number) (h1 : number < hc lo hi (m + 1) j t) :
  Ok (zcw [.lst (zb0 (m + 1) (fun i => lo (j + i)) fun i => hi (j + i)), .int t, .int number]) fun x => ∃ h : Int, lo j <= h /\ h <= hi j /\ zbW lo hi m j t h <= number /\ number < zbW lo hi m j t (h + 1) /\ x = .val (.int h) := by
 have le : lo j <= hi j := by
  by_cases c : lo j <= hi j
  ·exact c
  ·rw [zlB (m + 1) j t ⟨0, by lia, by rw [Nat.add_zero]; lia⟩] at h1; lia
 have g0 : (zb0 (m + 1) (fun i => lo (j + i)) fun i => hi (j + i))[0]? = some (.tup [.int (lo j), .int (hi j)]) := by
  unfold zb0; rw [zay _ (by lia)]; rfl
 simp! only [↓zcw, ↓zfK, g0, ↓zfe]
 refine zmn (fun q ρ => ∃ (low high : Int) (z : Sl), lo j <= low /\ low <= high /\ high <= hi j /\ high - low < 2 ^ q /\ zbW lo hi m j t low <= number /\ number < zbW lo hi m j t (high + 1) /\ ρ = [.val (.lst (zb0 (m + 1) (fun i => lo (j + i)) fun i => hi (j + i))), .val (.int t), .val (.int number), .val (.int low), .val (.int high), z]) ?_ 400 399 _ (by lia) ⟨lo j, hi j, _, by lia, le, by lia, wide, by rw [zoK]; exact h0, by rw [zkQ]; exact h1, rfl⟩
 rintro q _ ⟨low, high, z, b1, b2, b3, b4, b5, b6, rfl⟩
 simp! only [↓zfA]
 refine ⟨fun c => ?_, fun c => ?_⟩
 ·have c : low < high := by simpa using c
  obtain ⟨q, rfl⟩ : ∃ q', q = q' + 1 := ⟨q - 1, by
   cases q with
   | zero => rw [Int.pow_zero] at b4; lia
   | succ q => rfl⟩
  rw [Int.pow_succ] at b4
  have d0 : ∀ P : Int, high - low < P * 2 -> (low + high + 1) / 2 - 1 - low < P /\ high - (low + high + 1) / 2 < P := fun P hP => by lia
  obtain ⟨d3, d4⟩ := d0 _ b4
  clear d0
  have d1 : low < (low + high + 1) / 2 := by lia
  have d2 : (low + high + 1) / 2 <= high := by lia
  refine ⟨q, rfl, ?_⟩
  simp! only [↓zfx]
  refine ⟨by decide +kernel, ?_⟩
  generalize (low + high + 1) / 2 = mid at d1 d2 d3 d4
  refine (zgd m5 far mid).mono ?_
  rintro _ rfl
  simp! only []
  refine ⟨fun c => ⟨low, mid - 1, _, b1, by lia, by lia, d3, b5, by rw [show mid - 1 + 1 = mid by lia]; exact c, rfl⟩, fun c => ⟨mid, high, _, by lia, by lia, b3, d4, by lia, b6, rfl⟩⟩
 ·have c : low = high := by
   have : ¬ low < high := by simpa using c
   lia
  subst c
  exact ⟨low, b1, b3, b5, b6, rfl⟩
end
section
variable {k : Nat} {lo hi : Nat -> Int} {T : Int}
noncomputable def rank (k : Nat) (lo hi : Nat -> Int) (T : Int) (h : Nat -> Int) (j : Nat) : Int := sumR j fun i => zbW lo hi (k - i - 1) i (T - sumR i h) (h i)
theorem far_at {T : Int} (far : T - sumR k lo < 2 ^ 250) (hj : j <= k) (hh : ∀ i, i < j -> lo i <= h i) : (T - sumR j h) - (sumR (k - j) fun i => lo (j + i)) < 2 ^ 250 := by
 have h1 := zba lo j (k - j)
 rw [show j + (k - j) = k by lia] at h1
 have h2 := zgK (f := lo) (g := h) hh
 lia
theorem znB (lo hi : Nat -> Int) (k j : Nat) : (zb0 k lo hi).drop j = zb0 (k - j) (fun i => lo (j + i)) fun i => hi (j + i) := by
 unfold zb0
 rw [znU]
theorem ziQ (k5 : k <= 5) (far : T - sumR k lo < 2 ^ 250) (wide : ∀ j, j < k -> hi j - lo j < 2 ^ 399) (h0 : 0 <= number) (h1 : number < hc lo hi k 0 T) :
  Ok (zdK [.lst (zb0 k lo hi), .int T, .int number]) fun x => ∃ h : Nat -> Int, (∀ i, i < k -> lo i <= h i /\ h i <= hi i) /\ sumR k h = T /\ rank k lo hi T h k = number /\ x = .own (wI k h) := by
 have sl : (zb0 k lo hi).length = k := zaE _ _
 simp! only [↓zdK, ↓zhK, ↓zho, sl]
 refine ⟨zaZ (by lia) (by lia), zcp (fun j ρ => ∃ (h : Nat -> Int) (ah : Int) (y z : Sl), (∀ i, i < j -> lo i <= h i /\ h i <= hi i) /\ 0 <= ah /\ ah < hc lo hi (k - j) j (T - sumR j h) /\ rank k lo hi T h j + ah = number /\ ρ = [.val (.lst (zb0 k lo hi)), .val (.int T), .val (.int number), .own (wI j h), .val (.int (T - sumR j h)), .val (.int ah), y, z]) ⟨fun _ => 0, number, _, _, fun i hi => by lia, h0, by rw [show sumR 0 (fun _ : Nat => (0 : Int)) = 0 from rfl, Int.sub_zero]; exact h1, by show (0 : Int) + number = number; lia, by rw [show sumR 0 (fun _ : Nat => (0 : Int)) = 0 from rfl, Int.sub_zero]; rfl⟩ ?_ ?_⟩
 ·rintro j _ hj ⟨h, ah, y, z, hh, a0, a1, er, rfl⟩
  obtain ⟨m, em⟩ : ∃ m, k - j = m + 1 := ⟨k - j - 1, by lia⟩
  have farj := far_at far (show j <= k by lia) fun i hi => (hh i hi).1
  rw [em] at a1 farj
  have cd : cutD (zb0 k lo hi) (some (j : Int)) none = zb0 (m + 1) (fun i => lo (j + i)) fun i => hi (j + i) := by
   rw [zjN, znB, em]
  simp! only [↓zg7, cd]
  refine (zkv (by lia) farj (wide j hj) a0 a1).mono ?_
  rintro _ ⟨v, v1, v2, v3, v4, rfl⟩
  simp! only [cd]
  refine (zgd (by lia) farj v).mono ?_
  rintro _ rfl
  have bn := zhR lo hi m j (T - sumR j h) v1
  let h' : Nat -> Int := fun i => if i < j then h i else v
  have e1 : sumR j h' = sumR j h := zao fun i hi => if_pos hi
  have e2 : h' j = v := if_neg (by lia)
  have e3 : ∀ i, i <= j -> sumR i h' = sumR i h := fun i hi => zao fun q hq => if_pos (by lia)
  have e4 : rank k lo hi T h' j = rank k lo hi T h j := zao fun i hi => by rw [e3 i (by lia), show h' i = h i from if_pos hi]
  have e5 : wI j h ++ [D.int v] = wI (j + 1) h' := by
   rw [zka]
  have e6 : T - sumR (j + 1) h' = T - sumR j h - v := by
   show T - (sumR j h' + h' j) = _
   rw [e1, e2]; lia
  have e7 : rank k lo hi T h' (j + 1) = rank k lo hi T h j + zbW lo hi m j (T - sumR j h) v := by
   show rank k lo hi T h' j + zbW lo hi (k - j - 1) j (T - sumR j h') (h' j) = _
   rw [e4, e1, e2, show k - j - 1 = m by lia]
  simp! only [e5]
  refine ⟨by lia, h', ah - zbW lo hi m j (T - sumR j h) v, .val (.int j), .val (.int v), fun i hi' => ?_, by lia, ?_, by rw [e7]; lia, by rw [e6]⟩
  ·by_cases c : i < j
   ·rw [show h' i = h i from if_pos c]; exact hh i c
   ·have : i = j := by lia
    subst this
    rw [e2]; exact ⟨v1, v2⟩
  ·rw [e6, show k - (j + 1) = m by lia]
   lia
 ·rintro _ ⟨h, ah, y, z, hh, a0, a1, er, rfl⟩
  rw [Nat.sub_self] at a1
  have a1 : ah < if T - sumR k h = 0 then (1 : Int) else 0 := a1
  simp! only []
  split at a1
  ·exact ⟨h, hh, by lia, by lia, rfl⟩
  ·lia
end
theorem zkK (h0 : ∀ i, 0 <= f i) : ∀ {n : Nat}, 0 < sumR n f -> ∃ i, i < n /\ 0 < f i
 | 0, h => absurd (show (0 : Int) < 0 from h) (by decide)
 | n + 1, h => by
  have h : 0 < sumR n f + f n := h
  by_cases e : 0 < f n
  ·exact ⟨n, by lia, e⟩
  ·obtain ⟨i, hi, p⟩ := zkK h0 (show 0 < sumR n f by have := h0 n; lia)
   exact ⟨i, by lia, p⟩
theorem zo6 (f : Nat -> Int) (m : Nat) : sumR (m + 1) f = f 0 + sumR m fun i => f (1 + i) := by
 have := zba f 1 m
 rw [Nat.add_comm 1 m] at this
 rw [this]
 show (0 + f 0) + _ = _
 lia
theorem zha (h : Nat -> Int) (m j : Nat) : (sumR (m + 1) fun i => h (j + i)) = h j + sumR m fun i => h (j + 1 + i) := by
 rw [zo6]
 show h (j + 0) + _ = _
 rw [Nat.add_zero]
 congr 1
 exact zao fun i _ => by rw [show j + (1 + i) = j + 1 + i by lia]
section
variable {lo hi : Nat -> Int}
noncomputable def pt (lo : Nat -> Int) (j : Nat) (v : Int) (i : Nat) : Int := if i = j then v else lo i
theorem pt_at (f : Nat -> Int) (j : Nat) (v : Int) : pt f j v j = v := if_pos rfl
theorem pt_ne (f : Nat -> Int) (v : Int) (h : i ≠ j) : pt f j v i = f i := if_neg h
theorem hc_ex : ∀ (m j : Nat) (t : Int), 0 < hc lo hi m j t -> ∃ h : Nat -> Int, (∀ i, i < m -> lo (j + i) <= h (j + i) /\ h (j + i) <= hi (j + i)) /\ (sumR m fun i => h (j + i)) = t
 | 0, j, t, p => by
  have p : 0 < if t = 0 then (1 : Int) else 0 := p
  by_cases e : t = 0
  ·subst e; exact ⟨fun _ => 0, fun i h => by lia, rfl⟩
  ·rw [if_neg e] at p; exact absurd p (by decide)
 | m + 1, j, t, p => by
  obtain ⟨v, hv, q⟩ := zkK (f := fun v => hc lo hi m (j + 1) (t - (lo j + (v : Nat)))) (fun v => zkG lo hi m (j + 1) _) p
  obtain ⟨h, h1, h2⟩ := hc_ex m (j + 1) _ q
  refine ⟨pt h j (lo j + (v : Nat)), fun i hi' => ?_, ?_⟩
  ·by_cases e : i = 0
   ·subst e; rw [Nat.add_zero, pt_at]; lia
   ·rw [pt_ne _ _ (by lia)]
    have := h1 (i - 1) (by lia)
    rw [show j + 1 + (i - 1) = j + i by lia] at this
    exact this
  ·rw [zha, pt_at, zao (g := fun i => h (j + 1 + i)) fun i _ => pt_ne _ _ (by lia), h2]
   lia
theorem zjz (m j : Nat) (t : Int) {f f' : Int} (h : f <= f') : zbW lo hi m j t f <= zbW lo hi m j t f' := by
 unfold zbW
 have := zba (fun v => hc lo hi m (j + 1) (t - (lo j + (v : Nat)))) (f - lo j).toNat ((f' - lo j).toNat - (f - lo j).toNat)
 rw [show (f - lo j).toNat + ((f' - lo j).toNat - (f - lo j).toNat) = (f' - lo j).toNat by lia] at this
 rw [this]
 have := zj7 (f := fun i => hc lo hi m (j + 1) (t - (lo j + (((f - lo j).toNat + i : Nat) : Int)))) (n := (f' - lo j).toNat - (f - lo j).toNat) fun i _ => zkG lo hi m (j + 1) _
 lia
theorem zoL (m j : Nat) (t f : Int) : 0 <= zbW lo hi m j t f := zj7 fun i _ => zkG lo hi m (j + 1) _
noncomputable def tl (lo hi h : Nat -> Int) : Nat -> Nat -> Int -> Int
 | 0, _, _ => 0
 | m + 1, j, t => zbW lo hi m j t (h j) + tl lo hi h m (j + 1) (t - h j)
theorem zo9 {T : Int} : ∀ m j, j + m = k -> rank k lo hi T h k = rank k lo hi T h j + tl lo hi h m j (T - sumR j h)
 | 0, j, e => by
  rw [Nat.add_zero] at e; subst e
  show _ = _ + 0
  lia
 | m + 1, j, e => by
  rw [zo9 m (j + 1) (by lia)]
  show rank k lo hi T h j + zbW lo hi (k - j - 1) j (T - sumR j h) (h j) + tl lo hi h m (j + 1) (T - (sumR j h + h j)) = rank k lo hi T h j + (zbW lo hi m j (T - sumR j h) (h j) + tl lo hi h m (j + 1) (T - sumR j h - h j))
  rw [show k - j - 1 = m by lia, show T - (sumR j h + h j) = T - sumR j h - h j by lia]
  lia
theorem tl_lt : ∀ (m j : Nat) (t : Int), (∀ i, i < m -> lo (j + i) <= h (j + i) /\ h (j + i) <= hi (j + i)) -> (sumR m fun i => h (j + i)) = t -> 0 <= tl lo hi h m j t /\ tl lo hi h m j t < hc lo hi m j t
 | 0, j, t, _, e => by
  have e : (0 : Int) = t := e
  subst e
  exact ⟨Int.le_refl _, show (0 : Int) < 1 by decide⟩
 | m + 1, j, t, hh, e => by
  rw [zha] at e
  have h0 := hh 0 (by lia)
  rw [Nat.add_zero] at h0
  obtain ⟨i1, i2⟩ := tl_lt m (j + 1) (t - h j) (fun i hi' => by have := hh (i + 1) (by lia); rw [show j + (i + 1) = j + 1 + i by lia] at this; exact this) (by lia)
  have b0 := zoL (lo := lo) (hi := hi) m j t (h j)
  have b1 := zhR lo hi m j t h0.1
  have b2 := zjz (lo := lo) (hi := hi) m j t (show h j + 1 <= hi j + 1 by lia)
  have b3 := zkQ lo hi m j t
  show 0 <= zbW lo hi m j t (h j) + tl lo hi h m (j + 1) (t - h j) /\ zbW lo hi m j t (h j) + tl lo hi h m (j + 1) (t - h j) < _
  lia
theorem zoh {h g : Nat -> Int} (hh : ∀ i, i < m + 1 -> lo (j + i) <= h (j + i) /\ h (j + i) <= hi (j + i)) (eh : (sumR (m + 1) fun i => h (j + i)) = t) (gg : ∀ i, i < m + 1 -> lo (j + i) <= g (j + i) /\ g (j + i) <= hi (j + i)) (eg : (sumR (m + 1) fun i => g (j + i)) = t) (l : h j < g j) : tl lo hi h (m + 1) j t < tl lo hi g (m + 1) j t := by
 rw [zha] at eh eg
 have h0 := hh 0 (by lia)
 rw [Nat.add_zero] at h0
 obtain ⟨i1, i2⟩ := tl_lt (lo := lo) (hi := hi) (h := h) m (j + 1) (t - h j) (fun i hi' => by have := hh (i + 1) (by lia); rw [show j + (i + 1) = j + 1 + i by lia] at this; exact this) (by lia)
 obtain ⟨g1, _⟩ := tl_lt (lo := lo) (hi := hi) (h := g) m (j + 1) (t - g j) (fun i hi' => by have := gg (i + 1) (by lia); rw [show j + (i + 1) = j + 1 + i by lia] at this; exact this) (by lia)
 have b1 := zhR lo hi m j t h0.1
 have b2 := zjz (lo := lo) (hi := hi) m j t (show h j + 1 <= g j by lia)
 show zbW lo hi m j t (h j) + tl lo hi h m (j + 1) (t - h j) < zbW lo hi m j t (g j) + tl lo hi g m (j + 1) (t - g j)
 lia
theorem tl_inj : ∀ (m j : Nat) (t : Int), (∀ i, i < m -> lo (j + i) <= h (j + i) /\ h (j + i) <= hi (j + i)) -> (sumR m fun i => h (j + i)) = t -> (∀ i, i < m -> lo (j + i) <= g (j + i) /\ g (j + i) <= hi (j + i)) -> (sumR m fun i => g (j + i)) = t -> tl lo hi h m j t = tl lo hi g m j t -> ∀ i, i < m -> h (j + i) = g (j + i)
 | 0, _, _, _, _, _, _, _, i, hi' => by lia
 | m + 1, j, t, hh, eh, gg, eg, e, i, hi' => by
  have ej : h j = g j := by
   rcases Int.lt_trichotomy (h j) (g j) with l | l | l
   ·exact absurd e (Int.ne_of_lt (zoh hh eh gg eg l))
   ·exact l
   ·exact absurd e.symm (Int.ne_of_lt (zoh gg eg hh eh l))
  match i, hi' with
  | 0, _ => exact ej
  | i + 1, hi' =>
   rw [zha] at eh eg
   have e : zbW lo hi m j t (h j) + tl lo hi h m (j + 1) (t - h j) = zbW lo hi m j t (g j) + tl lo hi g m (j + 1) (t - g j) := e
   rw [ej] at e eh
   have := tl_inj m (j + 1) (t - g j) (fun i hi' => by have := hh (i + 1) (by lia); rw [show j + (i + 1) = j + 1 + i by lia] at this; exact this) (by lia) (fun i hi' => by have := gg (i + 1) (by lia); rw [show j + (i + 1) = j + 1 + i by lia] at this; exact this) (by lia) (by lia) i (by lia)
   rw [show j + (i + 1) = j + 1 + i by lia]
   exact this
end
section
variable {k n : Nat} {S L G : Nat -> Int}
noncomputable def SOk (k n : Nat) (S : Nat -> Int) : Prop := Clo k n S /\ rT k n S % (eT k n : Int) = 0
theorem spaper2 (d : RDim k n) (S L G : Nat -> Int) : Ok (zaW [zbn k n S L G]) fun x => (SOk k n S /\ x = .val .non) \/ (¬ SOk k n S /\ ∃ y, isN y = false /\ x = .val y) := (zhq d S L G).mono fun x h => by
 rcases h with ⟨j, hj, hne, rfl⟩ | ⟨hc, hne, rfl⟩ | ⟨hc, h0, rfl⟩
 ·exact .inr ⟨fun q => hne (q.1 j hj), _, rfl, rfl⟩
 ·exact .inr ⟨fun q => hne q.2, _, rfl, rfl⟩
 ·exact .inl ⟨⟨hc, h0⟩, rfl⟩
noncomputable def ManyP (k n : Nat) (S lo hi : Nat -> Int) (x : Sl) : Prop := (SOk k n S /\ x = .val (.int (hc lo hi (Nat.gcd k n) 0 (tT k n S)))) \/ (¬ SOk k n S /\ x = .val (.int 0))
theorem zn1 (d : RDim k n) (sp : zcF k n S L G lo hi) (far : tT k n S - sumR (Nat.gcd k n) lo < 2 ^ 250) : Ok (za3 [zbn k n S L G]) (ManyP k n S lo hi) := by
 have g1 := d.g1
 have gk := d.gk
 have k5 := d.k5
 simp! only [↓za3, ↓zgJ]
 refine (spaper2 d S L G).mono ?_
 rintro _ (⟨ok, rfl⟩ | ⟨no, y, hy, rfl⟩)
 ·simp! only [↓zgm]
  refine (ziY d sp).mono ?_
  rintro _ rfl
  simp! only []
  refine (zhy d S L G).mono ?_
  rintro _ rfl
  simp! only []
  refine (zhf g1 (by lia) lo hi (tT k n S) far).mono ?_
  rintro _ rfl
  simp! only []
  exact .inl ⟨ok, by rw [hc_cnt g1]⟩
 ·simp! only [hy]
  exact .inr ⟨no, rfl⟩
theorem at_ok (d : RDim k n) (sp : zcF k n S L G lo hi) (ok : SOk k n S) (far : tT k n S - sumR (Nat.gcd k n) lo < 2 ^ 250) (wide : ∀ j, j < Nat.gcd k n -> hi j - lo j < 2 ^ 399) (h0 : 0 <= number) (h1 : number < hc lo hi (Nat.gcd k n) 0 (tT k n S)) :
  Ok (zfC [zbn k n S L G, .int number]) fun x => ∃ h : Nat -> Int, (∀ i, i < Nat.gcd k n -> lo i <= h i /\ h i <= hi i) /\ sumR (Nat.gcd k n) h = tT k n S /\ rank (Nat.gcd k n) lo hi (tT k n S) h (Nat.gcd k n) = number /\ x = .val (.tup (wI n fun p => h (p % Nat.gcd k n) + rM k n S p)) := by
 have g1 := d.g1
 have gk := d.gk
 have k5 := d.k5
 have n24 := d.n24
 simp! only [↓zfC, ↓ziD]
 refine ⟨fun _ => ?_, fun c => absurd h0 (by lia)⟩
 refine (zn1 d sp far).mono ?_
 rintro _ (⟨_, rfl⟩ | ⟨no, rfl⟩)
 ·simp! only [h1, ↓zh0]
  refine (ziY d sp).mono ?_
  rintro _ rfl
  simp! only []
  refine (zhy d S L G).mono ?_
  rintro _ rfl
  simp! only []
  refine (ziQ (by lia) far wide h0 h1).mono ?_
  rintro _ ⟨h, q1, q2, q3, rfl⟩
  simp! only []
  refine (zg4 d S L G).mono ?_
  rintro _ rfl
  simp! only []
  refine (ziS d.g1 (by lia) h (rM k n S)).mono ?_
  rintro _ rfl
  simp! only []
  exact ⟨h, q1, q2, q3, rfl⟩
 ·exact absurd ok no
end
section
variable {k n : Nat} {S L G : Nat -> Int}
noncomputable def rwin (k n : Nat) (r : Nat -> Int) (a : Nat) : Int := sumR k fun s => r ((a + s) % n)
theorem lsums_ok {dd : D} (h : Sq dd n r) (n0 : 0 < n) (n24 : n <= 24) (k5 : k <= 5) : Ok (zbq [dd, .int k]) fun x => x = .val (.tup (wI n (rwin k n r))) := by
 simp! only [↓zbq, ↓zcA, h.ln, ↓zcW]
 refine ⟨zg9 (by lia), by lia, zaw (fun ρ => ∃ z, ρ = [.val (.int k), .val dd, .val (.int n), z]) (fun a => .int (rwin k n r a)) ⟨_, rfl⟩ ?_ ?_⟩
 ·rintro a _ ha ⟨z, rfl⟩
  simp! only [↓zcO, ↓zda]
  refine ⟨zg9 (by lia), by lia, zaw (fun ρ => ∃ z, ρ = [.val dd, .val (.int a), .val (.int n), z]) (fun s => .int (r ((a + s) % n))) ⟨_, rfl⟩ ?_ ?_⟩
  ·rintro s _ hs ⟨z, rfl⟩
   have e1 : ((a : Int) + (s : Int)) % (n : Int) = (((a + s) % n : Nat) : Int) := by push_cast; rfl
   simp! only [↓zc6, e1, h.ix, zay _ (Nat.mod_lt (a + s) n0)]
   exact ⟨by lia, _, rfl⟩
  ·rintro _ ⟨z, rfl⟩
   simp! only [zcG, zcm]
   exact ⟨rfl, _, rfl⟩
 ·rintro _ ⟨z, rfl⟩
  simp! only []
noncomputable def Fits (k n : Nat) (S L G r : Nat -> Int) : Prop := (∀ a, a < n -> rwin k n r a = S a) /\ ∀ p, p < n -> L p <= r p /\ r p <= G p
theorem zio (g : Nat) (h : Nat -> Int) : ∀ e, sumR (e * g) (fun i => h (i % g)) = (e : Int) * sumR g h
 | 0 => by simp [sumR]
 | e + 1 => by
  rw [Nat.add_mul, Nat.one_mul, zba, zio g h e]
  have : sumR g (fun i => h ((e * g + i) % g)) = sumR g h := zao fun i hi => by rw [Nat.add_comm, Nat.add_mul_mod_self_right, Nat.mod_eq_of_lt hi]
  rw [this]
  push_cast
  rw [Int.add_mul, Int.one_mul]
theorem zjC (F : Nat -> Int) : ∀ k, sumR k (fun s => F (s + 1)) = sumR k F + F k - F 0
 | 0 => by simp [sumR]
 | k + 1 => by
  have ih := zjC F k
  simp only [sumR]
  lia
theorem zij (f g : Nat -> Int) : ∀ k, sumR k (fun s => f s + g s) = sumR k f + sumR k g
 | 0 => by simp [sumR]
 | k + 1 => by
  have ih := zij f g k
  simp only [sumR]
  lia
theorem zkU (k n : Nat) (r : Nat -> Int) (a : Nat) : rwin k n r (a + 1) = rwin k n r a + r ((a + k) % n) - r (a % n) := by
 have := zjC (fun s => r ((a + s) % n)) k
 have e : rwin k n r (a + 1) = sumR k fun s => r ((a + (s + 1)) % n) := zao fun s _ => by rw [show a + 1 + s = a + (s + 1) by lia]
 rw [e, this]
 rfl
theorem zkN (d : RDim k n) (h : Nat -> Int) : rwin k n (fun p => h (p % Nat.gcd k n) + rM k n S p) 0 = (eT k n : Int) * sumR (Nat.gcd k n) h + sumR k (rM k n S) := by
 have kn := d.kn
 have ek : eT k n * Nat.gcd k n = k := Nat.div_mul_cancel (Nat.gcd_dvd_left k n)
 have e : rwin k n (fun p => h (p % Nat.gcd k n) + rM k n S p) 0 = sumR k fun s => h (s % Nat.gcd k n) + rM k n S s := zao fun s hs => by
  rw [Nat.zero_add, Nat.mod_eq_of_lt (show s < n by lia)]
 rw [e, zij, <- zio, ek]
theorem step_on (d : RDim k n) (hc : Clo k n S) (hp : p < n) : (p + k) % n % Nat.gcd k n = p % Nat.gcd k n /\ rM k n S ((p + k) % n) = rM k n S p + (S ((p + 1) % n) - S p) := by
 have hj := Nat.mod_lt p d.g1
 obtain ⟨w1, w2⟩ := d.walk.1 p hp
 obtain ⟨w3, w4⟩ := d.walk.2 _ hj
 have e1 : (p + k) % n = pl k n (p % Nat.gcd k n) (ixp k n p + 1) := by rw [zlR, w2]
 have e2 : mw k n S (p % Nat.gcd k n) (ixp k n p + 1) = rM k n S p + (S ((p + 1) % n) - S p) := by rw [zlH, w2]; rfl
 by_cases h : ixp k n p + 1 < n / Nat.gcd k n
 ·rw [e1]
  exact ⟨(w4 _ h).1, by rw [rM_at d S hj h, e2]⟩
 ·have h' : ixp k n p + 1 = n / Nat.gcd k n := by lia
  rw [e1, h', w3]
  refine ⟨Nat.mod_eq_of_lt hj, ?_⟩
  rw [<- e2, h', hc _ hj]
  have := rM_at d S hj (show 0 < n / Nat.gcd k n by lia)
  rw [zkb d hj] at this
  rw [this]; rfl
theorem zj1 (d : RDim k n) (ok : SOk k n S) (sp : zcF k n S L G lo hi) (inn : ∀ j, j < Nat.gcd k n -> lo j <= h j /\ h j <= hi j) (hs : sumR (Nat.gcd k n) h = tT k n S) : Fits k n S L G fun p => h (p % Nat.gcd k n) + rM k n S p := by
 have e1 := d.e1
 have n0 : 0 < n := by have := d.k2; have := d.kn; lia
 refine ⟨fun a => ?_, fun p hp => ?_⟩
 ·induction a with
  | zero =>
   intro _
   rw [zkN (S := S) d h, hs]
   have e2 : (eT k n : Int) * tT k n S = rT k n S := by
    unfold tT
    exact Int.mul_ediv_cancel' (Int.dvd_of_emod_eq_zero ok.2)
   rw [e2]
   unfold rT
   lia
  | succ a ih =>
   intro ha
   have ih := ih (by lia)
   obtain ⟨q1, q2⟩ := step_on d ok.1 (show a < n by lia)
   rw [zkU, ih, Nat.mod_eq_of_lt (show a < n by lia)]
   rw [q1, q2, Nat.mod_eq_of_lt ha]
   lia
 ·have hj := Nat.mod_lt p d.g1
  have b := inn _ hj
  have b1 := sp.lg p hp
  have b2 := sp.hg p hp
  unfold rA at b1 b2
  show L p <= h (p % Nat.gcd k n) + rM k n S p /\ h (p % Nat.gcd k n) + rM k n S p <= G p
  lia
end
theorem zhk {d1 d2 d3 : D} (h1 : Sq d1 m r) (h2 : Sq d2 n L) (h3 : Sq d3 n G) (hn : n <= 1000) :
  Ok (zbB [d1, d2, d3]) fun x => ∃ b, x = .val (.bl b) /\ (b = true ↔ m = n /\ ∀ p, p < n -> L p <= r p /\ r p <= G p) := by
 simp! only [↓zbB, ↓ze3, h1.ln, h2.ln]
 refine ⟨fun h => ⟨false, rfl, by simp; lia⟩, fun h => ?_⟩
 have e : m = n := by lia
 subst e
 simp! only [↓zfz, ↓zfi, h1.it, h2.it, h3.it]
 refine ⟨by lia, zaw (fun ρ => ∃ a b c, ρ = [a, b, c]) (fun p => .bl (decide (L p <= r p) && decide (r p <= G p))) ⟨_, _, _, rfl⟩ ?_ ?_⟩
 ·rintro p _ hp ⟨a, b, c, rfl⟩
  simp! only [↓zfJ]
  refine ⟨fun h => ⟨by simp [h], _, _, _, rfl⟩, fun h => ⟨?_, _, _, _, rfl⟩⟩
  rw [decide_eq_false (by lia)]; rfl
 ·rintro _ ⟨a, b, c, rfl⟩
  simp! only [zdF]
  refine ⟨_, rfl, ?_⟩
  rw [all_w]
  simp
noncomputable def rwk (k n : Nat) (r : Nat -> Int) (i : Nat) : Int := sumR k fun j => (fun q => if q < n then r q else r (q - n)) (i + j)
theorem twice_w (n : Nat) (r : Nat -> Int) : wI n r ++ wI n r = wI (n + n) fun q => if q < n then r q else r (q - n) := by
 apply List.ext_getElem?
 intro j
 by_cases hj : j < n
 ·rw [List.getElem?_append_left (by rw [zaE]; exact hj), zay _ hj, zay _ (by lia)]
  (try dsimp only); rw [if_pos hj]
 ·rw [List.getElem?_append_right (by rw [zaE]; lia), zaE]
  by_cases hb : j < n + n
  ·rw [zay _ (by lia), zay _ hb]
   (try dsimp only); rw [if_neg hj]
  ·rw [List.getElem?_eq_none (by rw [zaE]; lia), List.getElem?_eq_none (by rw [zaE]; lia)]
theorem zkZ {d : D} {n k : Nat} (h : Sq d n r) (kn : k <= n) (hn : n <= 1000) : Ok (zdc [d, .int k]) fun x => x = .val (.tup (wI n (rwk k n r))) := by
 simp! only [↓zdc, ↓zgX, h.tp, twice_w, h.ln, ↓zge]
 refine ⟨by lia, zaZ (by lia) (by lia), by lia, zaw (fun ρ => ∃ z, ρ = [.val (.tup (wI (n + n) fun q => if q < n then r q else r (q - n))), .val (.int k), z]) (fun i => .int (rwk k n r i)) ⟨_, rfl⟩ ?_ ?_⟩
 ·rintro i _ hi ⟨z, rfl⟩
  have hc := cut_w (n := n + n) (a := i) (b := k) (fun j => .int ((fun q => if q < n then r q else r (q - n)) j)) (by lia)
  simp! only [↓zgo, hc, zcG, zcm]
  exact ⟨rfl, _, rfl⟩
 ·rintro _ ⟨z, rfl⟩
  simp! only []
theorem zkx (kn : k <= n) (n24 : n <= 24) {S L G r : Nat -> Int} (h : Sq dr m r) :
  Ok (za0 [zbn k n S L G, dr]) fun x => ∃ b, x = .val (.bl b) /\ (b = true ↔ m = n /\ (∀ p, p < n -> L p <= r p /\ r p <= G p) /\ ∀ i, i < n -> rwk k n r i = S i) := by
 simp! only [↓za0, ↓zfs]
 refine (zhk h (Sq.tup n L) (Sq.tup n G) (by lia)).mono ?_
 rintro _ ⟨b, rfl, hb⟩
 simp! only []
 refine ⟨fun hbt => ?_, fun hbf => ⟨false, rfl, ?_⟩⟩
 ·obtain ⟨e, hin⟩ := hb.mp hbt
  subst e
  refine (zkZ h kn (by lia)).mono ?_
  rintro _ rfl
  simp! only [dEq_wt]
  refine ⟨_, rfl, ?_⟩
  rw [eqW_iff]
  exact ⟨fun h => ⟨hin, h⟩, fun h => h.2⟩
 ·constructor
  ·intro h; cases h
  ·rintro ⟨e, f, -⟩
   rw [hb.mpr ⟨e, f⟩] at hbf
   exact absurd hbf (by decide)
theorem zpe (hk : k <= n) (hi : i < n) : (sumR k fun j => r ((i + j) % n)) = rwk k n r i := by
 unfold rwk
 refine zao fun j hj => ?_
 (try dsimp only)
 by_cases h : i + j < n
 ·rw [if_pos h, Nat.mod_eq_of_lt h]
 ·rw [if_neg h, Nat.mod_eq_sub_mod (by lia), Nat.mod_eq_of_lt (by lia)]
noncomputable def Bc (q n : Nat) (f : Nat -> Int) : Prop := ∀ i, i < n -> -((q : Int) * 10000000000000000000000000000000000000000000000000000000000) <= f i /\ f i <= (q : Int) * 10000000000000000000000000000000000000000000000000000000000
theorem Bc.mono {q q' n : Nat} (h : Bc q n f) (hq : q <= q') : Bc q' n f := fun i hi => by
 have := h i hi
 lia
theorem Bc.set {q n i : Nat} (h : Bc q n f) (hx : -((q : Int) * 10000000000000000000000000000000000000000000000000000000000) <= x /\ x <= (q : Int) * 10000000000000000000000000000000000000000000000000000000000) : Bc q n fun j => if j = i then x else f j := fun j hj => by
 dsimp only
 split
 ·exact hx
 ·exact h j hj
noncomputable def Pot (ds : List D) : Prop := ∃ p : Int, ds = [.int p]
theorem zbt (h : Pot ds) {m : Int} (h0 : 0 < m) (h1 : m < 2 ^ 250) : Ok (zar ds [.int m]) fun r => ∃ (i : Nat) (ds' : List D), (i : Int) < m /\ Pot ds' /\ r = (.val (.int i), ds') := by
 obtain ⟨p, rfl⟩ := h
 simp! only [↓zar, ↓zgO]
 have m0 := Int.emod_nonneg p (Int.ne_of_gt h0)
 refine ⟨h0, zoc h0 h1, (p % m).toNat, [.int (p / m)], ?_, ⟨_, rfl⟩, ?_⟩
 ·have := Int.emod_lt_of_pos p h0; lia
 ·rw [show (((p % m).toNat : Nat) : Int) = p % m by lia]
theorem deal_ok (c : Int) : Ok (zc4 [.int c]) fun r => ∃ ds, Pot ds /\ r = .own ds := by
 simp! only [↓zc4, ↓zgV]
 refine ⟨fun _ => ⟨by decide +kernel, by decide +kernel, _, ⟨_, rfl⟩, rfl⟩, fun _ => ?_⟩
 simp! only [↓zgy, ↓zgl]
 refine ⟨rfl, zcp (fun _ ρ => ∃ (a b : Int) (s3 s4 : Sl), 0 <= b /\ b < 4294967296 /\ ρ = [.val (.int c), .val (.int a), .val (.int b), s3, s4]) ⟨0, _, .emp, .emp, by lia, by lia, rfl⟩ ?_ ?_⟩
 ·rintro i _ hi ⟨a, b, s3, s4, b0, b1, rfl⟩
  simp! only [↓zgu]
  have e1 : 0 <= (b * 48271 + 7919 * (i : Int) + 12345) % 2147483647 := Int.emod_nonneg _ (by decide)
  have e2 : (b * 48271 + 7919 * (i : Int) + 12345) % 2147483647 < 2147483647 := Int.emod_lt_of_pos _ (by decide)
  exact ⟨zcD (by lia), zcD (by decide), zcD (by lia), mulOk_r (by decide), by decide +kernel, _, _, _, _, e1, by lia, rfl⟩
 ·rintro _ ⟨a, b, s3, s4, _, _, rfl⟩
  simp! only []
  exact ⟨_, ⟨_, rfl⟩, rfl⟩
theorem in34 (i : Int) : ∃ b, dIn (.int i) (.tup [.int 3, .int 4]) = some (.bl b) := ⟨_, rfl⟩
theorem zmp (a b : Int) : ∃ v, zgW [.tup [.int a, .int b]] = some (.int v) /\ (v = a \/ v = b) /\ b <= v := by
 obtain ⟨v, h1, ⟨i, hi, h2⟩, h3⟩ := max_w (fun i => if i = 0 then a else b) (c := 2) (by lia)
 refine ⟨v, h1, ?_, h3 1 (by lia)⟩
 rw [<- h2]
 split
 ·exact .inl rfl
 ·exact .inr rfl
noncomputable def mx2 (a b : Int) : Int := (zmp a b).choose
theorem mx2_e (a b : Int) : zgW [.tup [.int a, .int b]] = some (.int (mx2 a b)) := (zmp a b).choose_spec.1
theorem mx2_or (a b : Int) : mx2 a b = a \/ mx2 a b = b := (zmp a b).choose_spec.2.1
theorem mx2_ge (a b : Int) : b <= mx2 a b := (zmp a b).choose_spec.2.2
noncomputable def BB (n : Nat) (S L G : Nat -> Int) : Prop := (Bc 128 n S /\ Bc 128 n L /\ Bc 128 n G) /\ ∀ p, p < n -> L p <= G p
noncomputable abbrev Mo (more : Int) : Prop := -(4 * 10000000000000000000000000000000000000000000000000000000000) <= more /\ more <= 4 * 10000000000000000000000000000000000000000000000000000000000
noncomputable def stB (ds : List D) (by' : Int) (k n : Nat) (S L G : Nat -> Int) (way at' : Nat) (more : Int) (s11 : Sl) : R := [.par ds, .emp, .val (.int by'), .val (.int k), .own (wI n S), .own (wI n L), .own (wI n G), .val (.int n), .val (.int way), .val (.int at'), .val (.int more), s11]
noncomputable def BQ (k n : Nat) (ds : List D) (x : Fl × R) : Prop := ∃ (S L G : Nat -> Int) (a : List Sl), BB n S L G /\ x = (.ret (.val (zbn k n S L G)), .par ds :: a)
theorem bent_ok (h : Pot ds) (d : RDim k n) (S L G : Nat -> Int) (hS : Bc 96 n S) (hL : Bc 30 n L) (hG : Bc 30 n G) (hle : ∀ p, p < n -> L p <= G p) (by' : Int) (hby : by' = 1 \/ by' = 10000000000000000000000000000000000000000000000000000000000) : Ok (zbm ds (.lst [.d (.int k), .l (wI n S), .l (wI n L), .l (wI n G)]) [.int by']) fun x => ∃ (S L G : Nat -> Int) (ds' : List D), Pot ds' /\ BB n S L G /\ x = (.val (zbn k n S L G), ds') := by
 have n24 := d.n24
 have k5 := d.k5
 have n0 : 0 < n := by have := d.k2; have := d.kn; lia
 have R6 : ∀ (ds : List D) (way at' : Nat) (more : Int) (S L G : Nat -> Int) (s11 : Sl), Mo more -> Bc 128 n S -> Bc 40 n L -> Bc 40 n G -> (∀ p, p < n -> L p <= G p) -> Ok (zb5 (stB ds by' k n S L G way at' more s11)) (BQ k n ds) := fun ds way at' more S L G s11 hmm hS hL hG hle => by
  simp! only [stB, ↓zb5, ↓zc0]
  refine ⟨fun _ => ⟨by lia, zaw (fun ρ => ∃ z, ρ = [.val (.int more), z]) (fun p => .int (L p + more)) ⟨_, rfl⟩ ?_ ?_⟩, fun _ => ?_⟩
  ·rintro p _ hp ⟨z, rfl⟩
   simp! only [↓zcY]
   exact ⟨_, rfl⟩
  ·rintro _ ⟨z, rfl⟩
   simp! only [↓zcP, zlS]
   refine ⟨by lia, zaw (fun ρ => ∃ z, ρ = [z]) (fun p => .int (mx2 (G p) (L p + more))) ⟨_, rfl⟩ ?_ ?_⟩
   ·rintro p _ hp ⟨z, rfl⟩
    have e := mx2_e (G p) (L p + more)
    unfold zgW at e
    simp! only [↓zcM, e]
    exact ⟨_, rfl⟩
   ·rintro _ ⟨z, rfl⟩
    simp! only [↓zb2]
    refine ⟨S, _, _, _, ⟨⟨hS, fun p hp => ?_, fun p hp => ?_⟩, fun p hp => mx2_ge _ _⟩, rfl⟩
    ·have := hL p hp
     (try dsimp only)
     lia
    ·have a1 := hL p hp
     have a2 := hG p hp
     (try dsimp only)
     rcases mx2_or (G p) (L p + more) with e | e <;> rw [e] <;> lia
  ·simp! only [↓zb2]
   exact ⟨S, L, G, _, ⟨⟨hS, hL.mono (by lia), hG.mono (by lia)⟩, hle⟩, rfl⟩
 have R7 : ∀ (ds : List D) (way at' : Nat) (more : Int) (S L G : Nat -> Int) (s11 : Sl), at' < n -> Mo more -> Bc 128 n S -> Bc 36 n L -> Bc 36 n G -> (∀ p, p < n -> L p <= G p) -> Ok (zb3 (stB ds by' k n S L G way at' more s11)) (BQ k n ds) := fun ds way at' more S L G s11 hat hmm hS hL hG hle => by
  simp! only [stB, ↓zb3, zay _ hat, hat, ziP _ _ hat, if_true]
  have a1 := hL at' hat
  have a2 := hG at' hat
  refine ⟨fun _ => R6 ds way at' more S _ _ s11 hmm hS ?_ ?_ (fun p hp => by have := hle p hp; (try dsimp only); by_cases e : p = at' <;> simp only [e, if_true, if_false] <;> (try unfold min2) <;> (try split) <;> lia), fun _ => R6 ds way at' more S L G s11 hmm hS (hL.mono (by lia)) (hG.mono (by lia)) hle⟩
  ·exact (hL.mono (by lia)).set (by (try dsimp only); (try simp only [if_true]); unfold min2; split <;> lia)
  ·exact (hG.mono (by lia)).set (by lia)
 have R8 : ∀ (ds : List D) (way at' : Nat) (more : Int) (S L G : Nat -> Int) (s11 : Sl), at' < n -> Mo more -> Bc 128 n S -> Bc 32 n L -> Bc 32 n G -> (∀ p, p < n -> L p <= G p) -> Ok (zb4 (stB ds by' k n S L G way at' more s11)) (BQ k n ds) := fun ds way at' more S L G s11 hat hmm hS hL hG hle => by
  simp! only [stB, ↓zb4, zay _ hat, hat, ziP _ _ hat, if_true]
  have a1 := hL at' hat
  have a2 := hG at' hat
  refine ⟨fun _ => R7 ds way at' more S _ _ s11 hat hmm hS ?_ ?_ (fun p hp => by have := hle p hp; (try dsimp only); by_cases e : p = at' <;> simp only [e, if_true, if_false] <;> (try unfold max2) <;> (try split) <;> lia), fun _ => R7 ds way at' more S L G s11 hat hmm hS (hL.mono (by lia)) (hG.mono (by lia)) hle⟩
  ·exact (hL.mono (by lia)).set (by lia)
  ·exact (hG.mono (by lia)).set (by (try dsimp only); (try simp only [if_true]); unfold max2; split <;> lia)
 have R9 : ∀ (ds : List D) (way at' : Nat) (more : Int) (S L G : Nat -> Int) (s11 : Sl), at' < n -> Mo more -> Bc 104 n S -> Bc 32 n L -> Bc 32 n G -> (∀ p, p < n -> L p <= G p) -> Ok (zb6 (stB ds by' k n S L G way at' more s11)) (BQ k n ds) := fun ds way at' more S L G s11 hat hmm hS hL hG hle => by
  obtain ⟨b, eb⟩ := in34 (way : Int)
  simp! only [stB, ↓zb6, eb, ↓zcQ]
  refine ⟨fun _ => ?_, fun _ => R8 ds way at' more S L G s11 hat hmm (hS.mono (by lia)) hL hG hle⟩
  rw [show ((at' : Int) + (k : Int) - (at' : Int)).toNat = k by lia, zhD]
  refine ⟨⟨zg9 (by lia), zaZ (by lia) (by lia)⟩, zcp (fun i ρ => ∃ (S : Nat -> Int) (s11 : Sl), Bc (104 + 4 * i) n S /\ ρ = (stB ds by' k n S L G way at' more s11)) ⟨S, _, hS, rfl⟩ ?_ ?_⟩
  ·rintro i _ hi ⟨S, s11, hS, rfl⟩
   have em : ((at' : Int) + ((i : Nat) : Int)) % (n : Int) = (((at' + i) % n : Nat) : Int) := by push_cast; rfl
   have hm := Nat.mod_lt (at' + i) n0
   simp! only [stB, ↓zdb, em, zay _ hm, hm, ziP _ _ hm, if_true]
   have a1 := hS _ hm
   exact ⟨by lia, by lia, _, _, (hS.mono (by lia)).set (by push_cast at a1 ⊢; lia), rfl⟩
  ·rintro _ ⟨S, s11, hS, rfl⟩
   simp! only []
   exact R8 ds way at' more S L G s11 hat hmm (hS.mono (by lia)) hL hG hle
 have R10 : ∀ (ds : List D) (way at' : Nat) (more : Int) (S L G : Nat -> Int) (s11 : Sl), at' < n -> Mo more -> Bc 100 n S -> Bc 32 n L -> Bc 32 n G -> (∀ p, p < n -> L p <= G p) -> Ok (za7 (stB ds by' k n S L G way at' more s11)) (BQ k n ds) := fun ds way at' more S L G s11 hat hmm hS hL hG hle => by
  simp! only [stB, ↓za7, ↓zcU]
  refine ⟨fun _ => ⟨by lia, zaw (fun ρ => ∃ z, ρ = [.val (.int more), z]) (fun p => .int (S p + more)) ⟨_, rfl⟩ ?_ ?_⟩, fun _ => R9 ds way at' more S L G s11 hat hmm (hS.mono (by lia)) hL hG hle⟩
  ·rintro p _ hp ⟨z, rfl⟩
   simp! only [↓zcX]
   exact ⟨_, rfl⟩
  ·rintro _ ⟨z, rfl⟩
   simp! only []
   refine R9 ds way at' more _ L G s11 hat hmm (fun p hp => ?_) hL hG hle
   have := hS p hp
   (try dsimp only)
   lia
 simp! only [↓zbm, ↓zcC, Ch.sl]
 refine (zbt h (m := 8) (by lia) (by lia)).mono ?_
 rintro _ ⟨way, d1, hw, h1, rfl⟩
 simp! only []
 refine (zbt h1 (m := (n : Int)) (by lia) (by lia)).mono ?_
 rintro _ ⟨at', d2, hat, h2, rfl⟩
 have hat : at' < n := by lia
 simp! only []
 refine (zbt h2 (m := 9) (by lia) (by lia)).mono ?_
 rintro _ ⟨t, d3, ht, h3, rfl⟩
 simp! only []
 refine (zbt h3 (m := 2) (by lia) (by lia)).mono ?_
 rintro _ ⟨u, d4, hu, h4, rfl⟩
 have hu' : ∃ z : Int, (z = 1 \/ z = 10000000000000000000000000000000000000000000000000000000000) /\ [D.int 1, D.int by'][u]? = some (.int z) := by
  have : u = 0 \/ u = 1 := by lia
  rcases this with rfl | rfl
  ·exact ⟨_, .inl rfl, rfl⟩
  ·exact ⟨_, hby, rfl⟩
 obtain ⟨z, hz, ez⟩ := hu'
 have hmm : -(4 * 10000000000000000000000000000000000000000000000000000000000) <= ((t : Int) - 4) * z /\ ((t : Int) - 4) * z <= 4 * 10000000000000000000000000000000000000000000000000000000000 := by rcases hz with rfl | rfl <;> lia
 simp! only [ez, zay _ hat, hat, ziP _ _ hat, if_true]
 have fin : ∀ (S : Nat -> Int), Bc 100 n S -> Ok (za7 [.par d4, .emp, .val (.int by'), .val (.int k), .own (wI n S), .own (wI n L), .own (wI n G), .val (.int n), .val (.int way), .val (.int at'), .val (.int (((t : Int) - 4) * z)), .emp]) fun a => Ok (match a.1, (a.2[0]? : Option Sl) with
   | Fl.ret r, some (Sl.par out) => some (r, out)
   | Fl.next, some (Sl.par out) => some (.val .non, out)
   | _, _ => none) fun x => ∃ (S L G : Nat -> Int) (ds' : List D), Pot ds' /\ BB n S L G /\ x = (.val (zbn k n S L G), ds') := fun S hS => by
  refine (R10 d4 way at' _ S L G .emp hat hmm hS (hL.mono (by lia)) (hG.mono (by lia)) hle).mono ?_
  rintro _ ⟨S', L', G', a, bb, rfl⟩
  simp! only []
  exact ⟨S', L', G', d4, h4, bb, rfl⟩
 have a1 := hS at' hat
 exact ⟨zcD (by lia), fun _ => fin _ ((hS.mono (by lia)).set (by lia)), fun _ => fin S (hS.mono (by lia))⟩
theorem Bc.snoc {q i : Nat} (h : Bc q i f) (hx : -((q : Int) * 10000000000000000000000000000000000000000000000000000000000) <= x /\ x <= (q : Int) * 10000000000000000000000000000000000000000000000000000000000) : Bc q (i + 1) fun j => if j < i then f j else x := fun j hj => by
 dsimp only
 split
 ·rename_i l; exact h j l
 ·exact hx
theorem zmT {P : Nat -> Int -> Prop} {q : Nat -> Int} (h : ∀ c, c < j -> P c (q c)) (hx : P j x) : ∀ c, c < j + 1 -> P c ((fun c => if c < j then q c else x) c) := fun c hc => by
 (try dsimp only)
 by_cases e : c < j
 ·rw [if_pos e]; exact h c e
 ·rw [if_neg e, show c = j by lia]; exact hx
theorem zkX {q : Nat} : ∀ k, (∀ s, s < k -> -((q : Int) * 10000000000000000000000000000000000000000000000000000000000) <= f s /\ f s <= (q : Int) * 10000000000000000000000000000000000000000000000000000000000) -> -((k : Int) * ((q : Int) * 10000000000000000000000000000000000000000000000000000000000)) <= sumR k f /\ sumR k f <= (k : Int) * ((q : Int) * 10000000000000000000000000000000000000000000000000000000000)
 | 0, _ => by simp [sumR]
 | k + 1, h => by
  have ih := zkX k fun s hs => h s (by lia)
  have := h k (by lia)
  simp only [sumR]
  push_cast
  rw [Int.add_mul, Int.one_mul]
  lia
theorem ring_ok (h : Pot ds) : Ok (zc8 ds [.int 24]) fun x => ∃ (k n : Nat) (S L G : Nat -> Int) (ds' : List D), RDim k n /\ Pot ds' /\ BB n S L G /\ x = (.val (zbn k n S L G), ds') := by
 have R4 : ∀ {ds : List D} (k n : Nat) (s4 : Sl), Pot ds -> RDim k n -> Ok (zcv [.par ds, .val (.int 24), .val (.int k), .val (.int n), s4, .emp, .emp, .emp, .emp, .emp, .emp, .emp]) fun x => ∃ (S L G : Nat -> Int) (ds' : List D) (a : List Sl), Pot ds' /\ BB n S L G /\ x = (.ret (.val (zbn k n S L G)), .par ds' :: a) := by
  intro ds k n s4 h d
  have n24 := d.n24
  have k5 := d.k5
  have n0 : 0 < n := by have := d.k2; have := d.kn; lia
  simp! only [↓zcv]
  refine (zbt h (m := 4) (by lia) (by lia)).mono ?_
  rintro _ ⟨a, d1, ha, h1, rfl⟩
  have ha' : ∃ z : Int, (z = 1 \/ z = 10000000000000000000000000000000000000000000000000000000000) /\ [D.int 1, D.int 1, D.int 1, D.int 10000000000000000000000000000000000000000000000000000000000][a]? = some (.int z) := by
   have : a = 0 \/ a = 1 \/ a = 2 \/ a = 3 := by lia
   rcases this with rfl | rfl | rfl | rfl
   ·exact ⟨_, .inl rfl, rfl⟩
   ·exact ⟨_, .inl rfl, rfl⟩
   ·exact ⟨_, .inl rfl, rfl⟩
   ·exact ⟨_, .inr rfl, rfl⟩
  obtain ⟨by', hby, eby⟩ := ha'
  simp! only [eby]
  refine (zbt h1 (m := 4) (by lia) (by lia)).mono ?_
  rintro _ ⟨b, d2, hb, h2, rfl⟩
  have hb' : ∃ z : Int, 0 < z /\ z <= 9 /\ [D.int 1, D.int 2, D.int 4, D.int 9][b]? = some (.int z) := by
   have : b = 0 \/ b = 1 \/ b = 2 \/ b = 3 := by lia
   rcases this with rfl | rfl | rfl | rfl <;> exact ⟨_, by decide, by decide, rfl⟩
  obtain ⟨wide, w0, w9, ew⟩ := hb'
  simp! only [ew]
  refine (zbt h2 (m := 4) (by lia) (by lia)).mono ?_
  rintro _ ⟨c, d3, hc, h3, rfl⟩
  have hc' : ∃ z : Int, (z = 0 \/ z = 100000000000000000000000000000000000000000000000000000000000) /\ [D.int 0, D.int 0, D.int 0, D.int 100000000000000000000000000000000000000000000000000000000000][c]? = some (.int z) := by
   have : c = 0 \/ c = 1 \/ c = 2 \/ c = 3 := by lia
   rcases this with rfl | rfl | rfl | rfl
   ·exact ⟨_, .inl rfl, rfl⟩
   ·exact ⟨_, .inl rfl, rfl⟩
   ·exact ⟨_, .inl rfl, rfl⟩
   ·exact ⟨_, .inr rfl, rfl⟩
  obtain ⟨far, hfar, ef⟩ := hc'
  simp! only [ef, ↓zgA]
  refine ⟨zg9 (by lia), by lia, zhd (fun i acc ρ => ∃ (f : Nat -> Int) (ds' : List D) (s : Sl), Pot ds' /\ Bc 16 i f /\ acc = wI i f /\ ρ = [.par ds', .val (.int by'), .val (.int far), s]) ⟨fun _ => 0, d3, .emp, h3, fun _ h => by lia, rfl, rfl⟩ ?_ ?_⟩
  ·rintro i _ _ hi ⟨f, d4, s, h4, hf, rfl, rfl⟩
   simp! only [↓zgx]
   refine (zbt h4 (m := 13) (by lia) (by lia)).mono ?_
   rintro _ ⟨t, d5, ht, h5, rfl⟩
   simp! only []
   refine ⟨zcD (by lia), ?_⟩
   exact ⟨_, d5, _, h5, hf.snoc (by rcases hby with rfl | rfl <;> rcases hfar with rfl | rfl <;> lia), zka i f _, rfl⟩
  rintro _ _ ⟨r, d4, s, h4, hr, rfl, rfl⟩
  simp! only [↓zgC]
  refine ⟨by lia, zhd (fun i acc ρ => ∃ (f : Nat -> Int) (ds' : List D) (s : Sl), Pot ds' /\ (Bc 30 i f /\ ∀ j, j < i -> f j <= r j) /\ acc = wI i f /\ ρ = [.par ds', .val (.int wide), .val (.int by'), s]) ⟨fun _ => 0, d4, .emp, h4, ⟨fun _ h => by lia, fun _ h => by lia⟩, rfl, rfl⟩ ?_ ?_⟩
  ·rintro i _ _ hi ⟨f, d4, s, h4, hf, rfl, rfl⟩
   simp! only [↓zgD]
   refine (zbt h4 (m := wide) (by lia) (by lia)).mono ?_
   rintro _ ⟨t, d5, ht, h5, rfl⟩
   simp! only []
   refine ⟨zcD (by lia), ?_⟩
   have br := hr i hi
   have bt : 0 <= (t : Int) * by' /\ (t : Int) * by' <= 9 * 10000000000000000000000000000000000000000000000000000000000 := by rcases hby with rfl | rfl <;> lia
   exact ⟨_, d5, _, h5, ⟨hf.1.snoc (by lia), zmT (P := fun j x => x <= r j) hf.2 (by lia)⟩, zka i f _, rfl⟩
  rintro _ _ ⟨L, d5, s, h5, ⟨hL, lL⟩, rfl, rfl⟩
  simp! only [↓zgG]
  refine ⟨by lia, zhd (fun i acc ρ => ∃ (f : Nat -> Int) (ds' : List D) (s : Sl), Pot ds' /\ (Bc 30 i f /\ ∀ j, j < i -> r j <= f j) /\ acc = wI i f /\ ρ = [.par ds', .val (.int wide), .val (.int by'), s]) ⟨fun _ => 0, d5, .emp, h5, ⟨fun _ h => by lia, fun _ h => by lia⟩, rfl, rfl⟩ ?_ ?_⟩
  ·rintro i _ _ hi ⟨f, d4, s, h4, hf, rfl, rfl⟩
   simp! only [↓zgh]
   refine (zbt h4 (m := wide) (by lia) (by lia)).mono ?_
   rintro _ ⟨t, d5, ht, h5, rfl⟩
   simp! only []
   refine ⟨zcD (by lia), ?_⟩
   have br := hr i hi
   have bt : 0 <= (t : Int) * by' /\ (t : Int) * by' <= 9 * 10000000000000000000000000000000000000000000000000000000000 := by rcases hby with rfl | rfl <;> lia
   exact ⟨_, d5, _, h5, ⟨hf.1.snoc (by lia), zmT (P := fun j x => r j <= x) hf.2 (by lia)⟩, zka i f _, rfl⟩
  rintro _ _ ⟨G, d6, s, h6, ⟨hG, lG⟩, rfl, rfl⟩
  simp! only []
  refine (lsums_ok (Sq.lst n r) n0 n24 k5).mono ?_
  rintro _ rfl
  simp! only []
  have hS : Bc 96 n (rwin k n r) := fun a _ => by
   have := zkX (q := 16) (f := fun s => r ((a + s) % n)) k fun s _ => hr _ (Nat.mod_lt _ n0)
   show _ <= sumR k (fun s => r ((a + s) % n)) /\ sumR k (fun s => r ((a + s) % n)) <= _
   have k5' : ((k : Nat) : Int) <= 5 := by lia
   lia
  refine (bent_ok h6 d _ L G hS hL hG (fun p hp => Int.le_trans (lL p hp) (lG p hp)) by' hby).mono ?_
  rintro _ ⟨S', L', G', d7, h7, bb, rfl⟩
  simp! only []
  exact ⟨S', L', G', d7, _, h7, bb, rfl⟩
 have fin : ∀ {ds : List D} (k n : Nat) (s4 : Sl), Pot ds -> RDim k n -> Ok (zcv [.par ds, .val (.int 24), .val (.int k), .val (.int n), s4, .emp, .emp, .emp, .emp, .emp, .emp, .emp]) fun a => Ok (match a.1, (a.2[0]? : Option Sl) with
   | Fl.ret r, some (Sl.par out) => some (r, out)
   | Fl.next, some (Sl.par out) => some (.val .non, out)
   | _, _ => none) fun x => ∃ (k n : Nat) (S L G : Nat -> Int) (ds' : List D), RDim k n /\ Pot ds' /\ BB n S L G /\ x = (.val (zbn k n S L G), ds') := by
  intro ds k n s4 h d
  refine (R4 k n s4 h d).mono ?_
  rintro _ ⟨S, L, G, ds', a, h', bb, rfl⟩
  simp! only []
  exact ⟨k, n, S, L, G, ds', d, h', bb, rfl⟩
 simp! only [↓zc8, ↓zgL]
 refine (zbt h (m := 4) (by lia) (by lia)).mono ?_
 rintro _ ⟨a, d1, ha, h1, rfl⟩
 simp! only [show (2 : Int) + (a : Int) = ((2 + a : Nat) : Int) by lia]
 generalize hk : 2 + a = k
 refine (zbt h1 (m := 24 - (k : Int) + 1) (by lia) (by lia)).mono ?_
 rintro _ ⟨b, d2, hb, h2, rfl⟩
 simp! only [show (k : Int) + (b : Int) = ((k + b : Nat) : Int) by lia]
 refine (zbt h2 (m := 4) (by lia) (by lia)).mono ?_
 rintro _ ⟨shape, d3, hs, h3, rfl⟩
 have ed : (24 : Int) / (k : Int) = ((24 / k : Nat) : Int) := by push_cast; rfl
 have rest : ∀ m : Nat, k <= m -> m <= 24 -> Ok (zdy [.par d3, .val (.int 24), .val (.int k), .val (.int m), .val (.int shape), .emp, .emp, .emp, .emp, .emp, .emp, .emp]) fun a => Ok (match a.1, (a.2[0]? : Option Sl) with
   | Fl.ret r, some (Sl.par out) => some (r, out)
   | Fl.next, some (Sl.par out) => some (.val .non, out)
   | _, _ => none) fun x => ∃ (k n : Nat) (S L G : Nat -> Int) (ds' : List D), RDim k n /\ Pot ds' /\ BB n S L G /\ x = (.val (zbn k n S L G), ds') := fun m h1 h24 => by
  simp! only [↓zdy, ed]
  refine ⟨fun _ => ⟨zc1 (by lia) (by lia), ?_⟩, fun _ => fin k m _ h3 ⟨by lia, by lia, h1, h24⟩⟩
  have q1 : 1 <= 24 / k := (Nat.le_div_iff_mul_le (by lia)).mpr (by lia)
  have q2 : 24 / k <= 24 := Nat.div_le_self _ _
  refine (zbt h3 (m := ((24 / k : Nat) : Int)) (by lia) (by lia)).mono ?_
  rintro _ ⟨t, d4, ht, h4, rfl⟩
  have e1 : (k : Int) * (1 + (t : Int)) = ((k * (1 + t) : Nat) : Int) := by push_cast; rfl
  simp! only [e1]
  have l1 : k * (1 + t) <= 24 := by
   have : (1 + t) * k <= 24 / k * k := Nat.mul_le_mul_right k (by lia)
   have := Nat.div_mul_le_self 24 k
   rw [Nat.mul_comm]; lia
  have l2 : k * 1 <= k * (1 + t) := Nat.mul_le_mul_left k (by lia)
  exact ⟨zcD (by lia), fin k (k * (1 + t)) _ h4 ⟨by lia, by lia, by lia, l1⟩⟩
 simp! only []
 exact ⟨fun _ => rest k (Nat.le_refl _) (by lia), fun _ => rest (k + b) (by lia) (by lia)⟩
section
variable {k n : Nat} {S L G : Nat -> Int}
theorem rM_bd (d : RDim k n) (hS : Bc 160 n S) : Bc 7680 n (rM k n S) := fun p hp => by
 have n0 : 0 < n := by lia
 obtain ⟨h1, -⟩ := d.walk.1 p hp
 have hn := d.hn
 have b := zkX (q := 320) (f := fun t => S ((pl k n (p % Nat.gcd k n) t + 1) % n) - S (pl k n (p % Nat.gcd k n) t)) (ixp k n p) fun t _ => by
  have a1 := hS _ (Nat.mod_lt (pl k n (p % Nat.gcd k n) t + 1) n0)
  have a2 := hS _ (pl_lt d (p % Nat.gcd k n) t)
  lia
 have e : rM k n S p = sumR (ixp k n p) fun t => S ((pl k n (p % Nat.gcd k n) t + 1) % n) - S (pl k n (p % Nat.gcd k n) t) := rfl
 rw [<- e] at b
 have : ((ixp k n p : Nat) : Int) <= 24 := by lia
 lia
theorem lo_bd (d : RDim k n) (hS : Bc 160 n S) (hL : Bc 160 n L) (hG : Bc 160 n G) (sp : zcF k n S L G lo hi) : Bc 7840 (Nat.gcd k n) lo /\ Bc 7840 (Nat.gcd k n) hi := by
 have bm := rM_bd d hS
 refine ⟨fun j hj => ?_, fun j hj => ?_⟩
 ·obtain ⟨p, hp, -, e⟩ := sp.lm j hj
  have a1 := bm p hp
  have a2 := hL p hp
  unfold rA at e
  lia
 ·obtain ⟨p, hp, -, e⟩ := sp.hm j hj
  have a1 := bm p hp
  have a2 := hG p hp
  unfold rA at e
  lia
theorem zmb (d : RDim k n) (hS : Bc 160 n S) (hL : Bc 160 n L) (hG : Bc 160 n G) (sp : zcF k n S L G lo hi) : tT k n S - sumR (Nat.gcd k n) lo < 2 ^ 250 := by
 have k5 := d.k5
 have kn := d.kn
 have gk := d.gk
 have e1 := d.e1
 have n0 : 0 < n := by have := d.k2; lia
 have bm := rM_bd d hS
 have b0 := hS 0 n0
 have b1 := zkX (q := 7680) (f := rM k n S) k fun s hs => bm s (by lia)
 have b2 := zkX (q := 7840) (f := lo) (Nat.gcd k n) fun s hs => (lo_bd d hS hL hG sp).1 s hs
 have k5' : ((k : Nat) : Int) <= 5 := by lia
 have g5' : ((Nat.gcd k n : Nat) : Int) <= 5 := by lia
 have br : rT k n S <= 38560 * 10000000000000000000000000000000000000000000000000000000000 := by
  unfold rT
  lia
 have bt : tT k n S <= 38560 * 10000000000000000000000000000000000000000000000000000000000 := by
  unfold tT
  have := Int.ediv_mul_le (rT k n S) (show ((eT k n : Nat) : Int) ≠ 0 by lia)
  by_cases c : rT k n S / ((eT k n : Nat) : Int) <= 0
  ·lia
  ·have : rT k n S / ((eT k n : Nat) : Int) * 1 <= rT k n S / ((eT k n : Nat) : Int) * ((eT k n : Nat) : Int) := Int.mul_le_mul_of_nonneg_left (by lia) (by lia)
   lia
 lia
theorem zlG (d : RDim k n) (hS : Bc 160 n S) (hL : Bc 160 n L) (hG : Bc 160 n G) (sp : zcF k n S L G lo hi) : ∀ j, j < Nat.gcd k n -> hi j - lo j < 2 ^ 399 := fun j hj => by
 obtain ⟨a, b⟩ := lo_bd d hS hL hG sp
 have := a j hj
 have := b j hj
 lia
end
section
variable {k n : Nat} {S L G : Nat -> Int}
theorem zkj (k n : Nat) (r : Nat -> Int) (a : Nat) : rwin k n r (a % n) = rwin k n r a := by
 unfold rwin
 refine zao fun s _ => ?_
 rw [Nat.mod_add_mod]
theorem fit_step (d : RDim k n) (f : ∀ a, a < n -> rwin k n r a = S a) (hp : p < n) : r ((p + k) % n) = r p + (S ((p + 1) % n) - S p) := by
 have n0 : 0 < n := by lia
 have h := zkU k n r p
 rw [Nat.mod_eq_of_lt hp, f p hp, <- zkj, f _ (Nat.mod_lt _ n0)] at h
 lia
theorem zjH (d : RDim k n) (f : ∀ a, a < n -> rwin k n r a = S a) (hj : j < Nat.gcd k n) : ∀ i, r (pl k n j i) = r j + mw k n S j i
 | 0 => by rw [zkb d hj]; show _ = r j + 0; lia
 | i + 1 => by
  rw [zlR, fit_step d f (pl_lt d j i), zjH d f hj i, zlH]
  lia
theorem zdV (d : RDim k n) (sp : zcF k n S L G lo hi) (f : Fits k n S L G r) : SOk k n S /\ (∀ p, p < n -> r p = r (p % Nat.gcd k n) + rM k n S p) /\ (∀ j, j < Nat.gcd k n -> lo j <= r j /\ r j <= hi j) /\ sumR (Nat.gcd k n) r = tT k n S := by
 have e1 := d.e1
 have kn := d.kn
 have n0 : 0 < n := by have := d.k2; lia
 have eq : ∀ p, p < n -> r p = r (p % Nat.gcd k n) + rM k n S p := fun p hp => by
  have h := zjH d f.1 (Nat.mod_lt p d.g1) (ixp k n p)
  rw [(d.walk.1 p hp).2] at h
  exact h
 have clo : Clo k n S := fun j hj => by
  have h := zjH d f.1 hj (n / Nat.gcd k n)
  rw [(d.walk.2 j hj).1] at h
  lia
 have e0 : rwin k n (fun p => r (p % Nat.gcd k n) + rM k n S p) 0 = S 0 := by
  rw [<- f.1 0 n0]
  unfold rwin
  refine zao fun s _ => ?_
  (try dsimp only)
  exact (eq _ (Nat.mod_lt _ n0)).symm
 rw [zkN (S := S) d r] at e0
 have er : rT k n S = (eT k n : Int) * sumR (Nat.gcd k n) r := by unfold rT; lia
 refine ⟨⟨clo, by rw [er, Int.mul_emod_right]⟩, eq, fun j hj => ?_, ?_⟩
 ·obtain ⟨p, hp, p1, p2⟩ := sp.lm j hj
  obtain ⟨q, hq, q1, q2⟩ := sp.hm j hj
  have a1 := f.2 p hp
  have a2 := f.2 q hq
  have b1 := eq p hp
  have b2 := eq q hq
  rw [p1] at b1
  rw [q1] at b2
  unfold rA at p2 q2
  lia
 ·unfold tT
  rw [er, Int.mul_ediv_cancel_left _ (by lia)]
end
section
variable {k : Nat} {lo hi : Nat -> Int} {T : Int} {h g : Nat -> Int}
structure Hd (k : Nat) (lo hi : Nat -> Int) (T : Int) (h : Nat -> Int) : Prop where
 inn : ∀ j, j < k -> lo j <= h j /\ h j <= hi j
 sum : sumR k h = T
theorem Hd.zero (a : Hd k lo hi T h) : (sumR k fun i => h (0 + i)) = T := by
 rw [<- a.sum]
 exact zao fun i _ => by rw [Nat.zero_add]
theorem zn6 : rank k lo hi T h k = tl lo hi h k 0 T := by
 rw [zo9 (h := h) k 0 (by lia)]
 show (0 : Int) + tl lo hi h k 0 (T - 0) = _
 rw [Int.sub_zero, Int.zero_add]
theorem Hd.inj (a : Hd k lo hi T h) (b : Hd k lo hi T g) (e : rank k lo hi T h k = rank k lo hi T g k) : ∀ i, i < k -> h i = g i := fun i hi' => by
 rw [zn6, zn6] at e
 have := tl_inj (lo := lo) (hi := hi) k 0 T (fun i hi' => by rw [Nat.zero_add]; exact a.inn i hi') a.zero (fun i hi' => by rw [Nat.zero_add]; exact b.inn i hi') b.zero e i hi'
 rwa [Nat.zero_add] at this
theorem Hd.rg (a : Hd k lo hi T h) : 0 <= rank k lo hi T h k /\ rank k lo hi T h k < hc lo hi k 0 T := by
 rw [zn6]
 exact tl_lt k 0 T (fun i hi' => by rw [Nat.zero_add]; exact a.inn i hi') a.zero
end
noncomputable def exch (many g t : Nat) (r : Nat -> Int) (p : Nat) : Int := r p + if p % many = t then 1 else if p % many = g then -1 else 0
theorem zk9 {n many g t : Nat} (h : Sq dr n r) (hn : n <= 1000) (hm : many <= 1000) (hg : g < t) (ht : t < many) :
  Ok (zbG [dr, .int many, .int g, .int t]) fun x => x = .val (.tup (wI n (exch many g t r))) := by
 simp! only [↓zbG, ↓zc2, rep_w, show g < many by lia, ht]
 rw [show (wL many fun _ => D.int 0) = wI many fun _ => 0 from rfl, ziP _ _ (show g < many by lia), ziP _ _ ht]
 refine ⟨⟨zaZ (by lia) (by lia), by lia⟩, ?_⟩
 simp! only [↓zdh, h.it, zl8]
 refine ⟨ht, by lia, zhd (fun i acc ρ => acc = wI i (exch many g t r) /\ ∃ s s', ρ = [.par (wI many fun j => if j = t then (1 : Int) else if j = g then -1 else 0), .val (.int many), s, s']) ⟨rfl, _, _, rfl⟩ ?_ ?_⟩
 ·rintro p _ _ hp ⟨rfl, s, s', rfl⟩
  have e : (p : Int) % (many : Int) = ((p % many : Nat) : Int) := by push_cast; rfl
  simp! only [↓zdg, e, zay _ (Nat.mod_lt p (show 0 < many by lia))]
  exact ⟨by lia, by rw [show wI (p + 1) (exch many g t r) = _ from zgQ _ _]; rfl, _, _, rfl⟩
 ·rintro _ _ ⟨rfl, s, s', rfl⟩
  simp! only []
theorem znz {n many : Nat} (h : Sq dr n r) (hn : n <= 1000) (hm : many <= 24) :
  Ok (zcd [dr, .int many]) fun x => ∃ (c : Nat) (g t : Nat -> Nat), c <= 1000 /\ (∀ i, i < c -> g i < t i /\ t i < many) /\ x = .own (wL c fun i => .tup (wI n (exch many (g i) (t i) r))) := by
 simp! only [↓zcd, ↓zdT, ↓zec]
 refine ⟨zaZ (by lia) (by lia), zcp (fun i ρ => ∃ (c : Nat) (g t : Nat -> Nat) (s3 s4 : Sl), c <= 24 * i /\ (∀ i, i < c -> g i < t i /\ t i < many) /\ ρ = [.val dr, .val (.int many), .own (wL c fun i => .tup (wI n (exch many (g i) (t i) r))), s3, s4]) ⟨0, fun _ => 0, fun _ => 0, _, _, by lia, fun _ h => by lia, rfl⟩ ?_ ?_⟩
 ·rintro i _ hi ⟨c, g, t, s3, s4, hc, hgt, rfl⟩
  simp! only [↓zeF, ↓zeQ, zhD]
  rw [show ((many : Int) - ((i : Int) + 1)).toNat = many - (i + 1) by lia]
  refine ⟨⟨zaZ (by lia) (by lia), zaZ (by lia) (by lia)⟩, zcp (fun j ρ => ∃ (c' : Nat) (g t : Nat -> Nat) (s4 : Sl), c' = c + j /\ (∀ i, i < c' -> g i < t i /\ t i < many) /\ ρ = [.val dr, .val (.int many), .own (wL c' fun i => .tup (wI n (exch many (g i) (t i) r))), .val (.int i), s4]) ⟨c, g, t, _, by lia, hgt, rfl⟩ ?_ ?_⟩
  ·rintro j _ hj ⟨c', g, t, s4, rfl, hgt, rfl⟩
   have ej : (i : Int) + 1 + (j : Int) = ((i + 1 + j : Nat) : Int) := by lia
   simp! only [↓zeS, ej]
   refine (zk9 h hn (by lia) (show i < i + 1 + j by lia) (by lia)).mono ?_
   rintro _ rfl
   simp! only [zpb]
   refine ⟨by lia, c + j + 1, fun x => if x < c + j then g x else i, fun x => if x < c + j then t x else i + 1 + j, .val (.int ((i + 1 + j : Nat) : Int)), rfl, fun x hx => ?_, ?_⟩
   ·by_cases e : x < c + j
    ·simp only [e, if_true]; exact hgt x e
    ·simp only [e, if_false]; lia
   ·congr 3
    exact congrArg _ (zcH fun x _ => by dsimp only; split <;> rfl)
  ·rintro _ ⟨c', g, t, s4, rfl, hgt, rfl⟩
   simp! only []
   exact ⟨_, g, t, _, _, by lia, hgt, rfl⟩
 ·rintro _ ⟨c, g, t, s3, s4, hc, hgt, rfl⟩
  simp! only []
  exact ⟨c, g, t, by lia, hgt, rfl⟩
theorem clash_ok (f g : Nat -> Int) (hm : 0 < m) (a b : Nat) :
  Ok (zbh [.lst (wI n f), .lst (wI n g), .int m, .int a, .int b]) fun x => ∃ z, x = .val (.bl z) /\ (z = true ↔ a < n /\ b < n /\ a % m = b % m /\ f a > g b) := by
 have ea : (a : Int) % (m : Int) = ((a % m : Nat) : Int) := by push_cast; rfl
 have eb : (b : Int) % (m : Int) = ((b % m : Nat) : Int) := by push_cast; rfl
 have a0 : (0 : Int) <= (a : Int) := by lia
 have b0 : (0 : Int) <= (b : Int) := by lia
 by_cases ha : a < n
 ·have ha' : (a : Int) < (n : Int) := by lia
  by_cases hb : b < n
  ·have hb' : (b : Int) < (n : Int) := by lia
   simp! only [↓zbh, ↓zcb, ea, eb, a0, b0, ha', hb']
   refine ⟨by lia, by lia, fun h3 => ⟨false, rfl, by simp; lia⟩, fun h3 => ?_⟩
   simp! only [↓zeD, zay _ ha, zay _ hb]
   refine ⟨_, rfl, ?_⟩
   simp; lia
  ·have hb' : ¬ ((b : Int) < (n : Int)) := by lia
   simp! only [↓zbh, ↓zcb, ea, eb, a0, b0, ha', hb']
   exact ⟨false, rfl, by simp; lia⟩
 ·have ha' : ¬ ((a : Int) < (n : Int)) := by lia
  simp! only [↓zbh, ↓zcb, ea, eb, a0, b0, ha']
  exact ⟨false, rfl, by simp; lia⟩
theorem zgb (f : Nat -> Int) (pl : Nat -> Nat) (hm : 0 < m) (hc : c <= 1000) :
  Ok (zbg [.lst (wI n f), .int m, .tup (wI c fun j => (pl j : Nat))]) fun x => ∃ z, x = .val (.bl z) /\ (z = true ↔ c = m /\ ∀ j, j < m -> pl j < n /\ pl j % m = j) := by
 simp! only [↓zbg, ↓zd9]
 refine ⟨fun h => ⟨false, rfl, by simp; lia⟩, fun h => ?_⟩
 have e : c = m := by lia
 subst e
 simp! only [↓zeE, ↓zeq, zl8]
 refine ⟨by lia, zaw (fun ρ => ∃ s s', ρ = [.val (.lst (wI n f)), .val (.int c), s, s']) (fun j => .bl (decide (pl j < n) && decide (pl j % c = j))) ⟨_, _, rfl⟩ ?_ ?_⟩
 ·rintro j _ hj ⟨s, s', rfl⟩
  have ea : ((pl j : Nat) : Int) % (c : Int) = ((pl j % c : Nat) : Int) := by push_cast; rfl
  simp! only [↓zeK, ea]
  refine ⟨fun _ => ⟨fun h1 => ⟨by lia, ?_, _, _, rfl⟩, fun h1 => ⟨?_, _, _, rfl⟩⟩, fun h => by lia⟩
  ·rw [decide_eq_true (show pl j < n by lia), Bool.true_and]
   congr 2
   by_cases h : pl j % c = j
   ·rw [decide_eq_true h, beq_iff_eq]; lia
   ·rw [decide_eq_false h, beq_eq_false_iff_ne]; lia
  ·rw [decide_eq_false (show ¬ pl j < n by lia)]; rfl
 ·rintro _ ⟨s, s', rfl⟩
  simp! only [zdF]
  refine ⟨_, rfl, ?_⟩
  rw [all_w]
  simp
theorem zlf (f : Nat -> Int) (pl : Nat -> Nat) (hc : c <= 1000) (hp : ∀ j, j < c -> pl j < n) :
  Ok (zbH [.lst (wI n f), .tup (wI c fun j => (pl j : Nat))]) fun x => x = .val (.int (sumR c fun j => f (pl j))) := by
 simp! only [↓zbH, ↓zfQ, ↓zf2]
 refine ⟨by lia, zaw (fun ρ => ∃ s, ρ = [.val (.lst (wI n f)), s]) (fun j => .int (f (pl j))) ⟨_, rfl⟩ ?_ ?_⟩
 ·rintro j _ hj ⟨s, rfl⟩
  simp! only [↓zfj, zay _ (hp j hj)]
  exact ⟨_, rfl⟩
 ·rintro _ ⟨s, rfl⟩
  simp! only [zcG, zcm]
theorem zla (f : Nat -> Int) (pl : Nat -> Nat) (t : Int) (hm : 0 < m) (hm' : m <= 1000) (hc : c <= 1000) :
  Ok (zc7 [.lst (wI n f), .int m, .int t, .tup (wI c fun j => (pl j : Nat))]) fun x => ∃ z, x = .val (.bl z) /\ (z = true ↔ c = m /\ (∀ j, j < m -> pl j < n /\ pl j % m = j) /\ sumR m (fun j => f (pl j)) > t) := by
 simp! only [↓zc7, ↓zgM]
 refine (zgb f pl hm hc).mono ?_
 rintro _ ⟨z, rfl, hz⟩
 simp! only []
 refine ⟨fun h => ?_, fun h => ⟨false, rfl, ?_⟩⟩
 ·obtain ⟨e, hp⟩ := hz.mp h
  subst e
  refine (zlf f pl hc fun j hj => (hp j hj).1).mono ?_
  rintro _ rfl
  simp! only []
  refine ⟨_, rfl, ?_⟩
  simp only [decide_eq_true_eq]
  exact ⟨fun h => ⟨hp, h⟩, fun h => h.2⟩
 ·constructor
  ·intro h; cases h
  ·rintro ⟨e, hp, _⟩
   rw [hz.mpr ⟨e, hp⟩] at h; exact absurd h (by decide)
theorem zjZ (f : Nat -> Int) (pl : Nat -> Nat) (t : Int) (hm : 0 < m) (hm' : m <= 1000) (hc : c <= 1000) :
  Ok (zcz [.lst (wI n f), .int m, .int t, .tup (wI c fun j => (pl j : Nat))]) fun x => ∃ z, x = .val (.bl z) /\ (z = true ↔ c = m /\ (∀ j, j < m -> pl j < n /\ pl j % m = j) /\ sumR m (fun j => f (pl j)) < t) := by
 simp! only [↓zcz, ↓zff]
 refine (zgb f pl hm hc).mono ?_
 rintro _ ⟨z, rfl, hz⟩
 simp! only []
 refine ⟨fun h => ?_, fun h => ⟨false, rfl, ?_⟩⟩
 ·obtain ⟨e, hp⟩ := hz.mp h
  subst e
  refine (zlf f pl hc fun j hj => (hp j hj).1).mono ?_
  rintro _ rfl
  simp! only []
  refine ⟨_, rfl, ?_⟩
  simp only [decide_eq_true_eq]
  exact ⟨fun h => ⟨hp, h⟩, fun h => h.2⟩
 ·constructor
  ·intro h; cases h
  ·rintro ⟨e, hp, _⟩
   rw [hz.mpr ⟨e, hp⟩] at h; exact absurd h (by decide)
section
variable {k n : Nat} {S L G lo hi : Nat -> Int}
theorem rM_head (d : RDim k n) (hj : j < Nat.gcd k n) : rM k n S j = 0 := by
 have hn : 0 < n / Nat.gcd k n := (Nat.le_div_iff_mul_le d.g1).mpr (by rw [Nat.one_mul]; exact d.gn)
 have := rM_at d S hj hn
 rw [zkb d hj] at this
 rw [this]; rfl
theorem ziT (d : RDim k n) (h : Sq dr n r) : Ok (za0 [zbn k n S L G, dr]) fun x => ∃ b, x = .val (.bl b) /\ (b = true ↔ Fits k n S L G r) := (zkx d.kn d.n24 h).mono fun x ⟨b, e, hb⟩ => ⟨b, e, hb.trans
 ⟨fun ⟨_, h1, h2⟩ => ⟨fun a ha => by rw [<- h2 a ha]; exact zpe d.kn ha, h1⟩, fun f => ⟨rfl, f.2, fun i hi => by rw [<- f.1 i hi]; exact (zpe d.kn hi).symm⟩⟩⟩
theorem rR_fits (d : RDim k n) (ok : SOk k n S) (sp : zcF k n S L G lo hi) (rm : Room' (Nat.gcd k n) lo hi (tT k n S)) : Fits k n S L G (rR k n S lo hi) := zj1 d ok sp (fun j hj => hd_in rm hj) (hd_sum rm)
theorem zo4 (d : RDim k n) (sp : zcF k n S L G lo hi) {g t : Nat} (gt : g < t) (ht : t < Nat.gcd k n) : ¬ Fits k n S L G (exch (Nat.gcd k n) g t (rR k n S lo hi)) := fun f => by
 obtain ⟨-, -, h1, h2⟩ := zdV d sp f
 have at' : ∀ i, i < Nat.gcd k n -> rR k n S lo hi i = hd lo hi (Nat.gcd k n) (tT k n S) i := fun i hi' => by
  unfold rR
  rw [Nat.mod_eq_of_lt hi', rM_head d hi', Int.add_zero]
 have := hd_least h1 h2 (show g < Nat.gcd k n by lia) fun i hi' => by
  unfold exch
  rw [Nat.mod_eq_of_lt (by lia), if_neg (by lia), if_neg (by lia), at' i (by lia), Int.add_zero]
 unfold exch at this
 rw [Nat.mod_eq_of_lt (by lia), if_neg (by lia), if_pos rfl, at' g (by lia)] at this
 lia
theorem zjd (d : RDim k n) (ok : SOk k n S) (sp : zcF k n S L G lo hi) (rm : Room' (Nat.gcd k n) lo hi (tT k n S)) : Ok (zch [zbn k n S L G, .tup (wI n (rR k n S lo hi))]) fun x => x = .val (.bl true) := by
 have n24 := d.n24
 have k5 := d.k5
 have gk := d.gk
 simp! only [↓zch, ↓zd8]
 refine (ziT d (Sq.tup n _)).mono ?_
 rintro _ ⟨b, rfl, hb⟩
 have hb := hb.mpr (rR_fits d ok sp rm)
 subst hb
 simp! only [↓zeR, ↓zeA]
 refine (zce d S L G).mono ?_
 rintro _ rfl
 simp! only []
 refine (znz (Sq.tup n _) (by lia) (show Nat.gcd k n <= 24 by lia)).mono ?_
 rintro _ ⟨c, g, t, hc, hgt, rfl⟩
 simp! only []
 refine ⟨by lia, zaw (fun ρ => ∃ s', ρ = [.val (zbn k n S L G), s']) (fun i => .bl false) ⟨_, rfl⟩ ?_ ?_⟩
 ·rintro i _ hi ⟨s', rfl⟩
  simp! only [↓zeU]
  refine (ziT d (Sq.tup n _)).mono ?_
  rintro _ ⟨b, rfl, hb⟩
  have : b = false := by
   cases b with
   | false => rfl
   | true => exact absurd (hb.mp rfl) (zo4 d sp (hgt i hi).1 (hgt i hi).2)
  subst this
  simp! only []
  exact ⟨_, rfl⟩
 ·rintro _ ⟨s', rfl⟩
  simp! only [zdF]
  rw [show ((List.range c).map fun _ => false).any id = false by simp]
  rfl
theorem pl_str (k : Nat) (s : Str) : Pl k (.str s) := ⟨rfl, Nat.zero_le _⟩
theorem pl_two (w : Str) {x : D} (h : Pl k x) : Pl (k + 1) (.tup [.str w, x]) := zmW fun d hd => by
 rcases List.mem_cons.mp hd with rfl | hd
 ·exact pl_str k w
 ·rw [List.mem_singleton.mp hd]; exact h
theorem zme (d : RDim k n) (sp : zcF k n S L G lo hi) (f : Fit k n S L G lo hi y) : Ok (zaP [zbn k n S L G, y]) fun x => x = .val (.bl true) := by
 have g1 := d.g1
 have gk := d.gk
 have k5 := d.k5
 have n24 := d.n24
 rcases f with ⟨j, hj, ne, rfl⟩ | ⟨clo, ne, rfl⟩ | ⟨clo, z, nr, pp⟩ | ⟨clo, z, rm, rfl⟩
 ·simp! only [↓zaP, ↓zb8, show (("round" : Str) == "row") = false by decide +kernel, ↓zcl, beq_self_eq_true, ↓zcI, ↓zd0]
  refine ⟨fun _ => ?_, fun z => absurd z (by lia)⟩
  refine (zce d S L G).mono ?_
  rintro _ rfl
  simp! only [show (j : Int) < ((Nat.gcd k n : Nat) : Int) by lia]
  refine (zkS d S L G hj).mono ?_
  rintro _ rfl
  simp! only [beq_eq_false_iff_ne.mpr ne]
 ·simp! only [↓zaP, ↓zb8, show (("part" : Str) == "row") = false by decide +kernel, show (("part" : Str) == "round") = false by decide +kernel, ↓zcl, ↓zcS]
  refine (zhq d S L G).mono ?_
  rintro _ (⟨j, hj, ne', rfl⟩ | ⟨_, _, rfl⟩ | ⟨_, z, rfl⟩)
  ·exact absurd (clo j hj) ne'
  ·simp! only [beq_self_eq_true, (pl_two "part" (zls 0 (rT k n S % (eT k n : Int)))).eq (show 1 <= 50 by decide)]
  ·exact absurd z ne
 ·have np : ∀ {w : Str} {l : List D}, y = .tup (.str w :: l) -> (w == "row") = false -> (w == "round") = false -> (w == "part") = false -> Ok (zbd [.lst (wI n (rA k n S L)), .lst (wI n (rA k n S G)), .int (Nat.gcd k n : Nat), .int (tT k n S), y]) (fun x => x = .val (.bl true)) -> Ok (zaP [zbn k n S L G, y]) fun x => x = .val (.bl true) := fun {w l} e w1 w2 w3 h => by
   subst e
   simp! only [↓zaP, ↓zb8, w1, w2, w3, ↓zcl, ↓zcS]
   refine (zhq d S L G).mono ?_
   rintro _ (⟨j, hj, ne', rfl⟩ | ⟨_, ne', rfl⟩ | ⟨_, _, rfl⟩)
   ·exact absurd (clo j hj) ne'
   ·exact absurd z ne'
   ·simp! only [w3, ↓zfO, ↓ze0]
    refine (zlY d S L G).mono ?_
    rintro _ rfl
    simp! only []
    refine (zjT d S L G).mono ?_
    rintro _ rfl
    simp! only []
    refine (zce d S L G).mono ?_
    rintro _ rfl
    simp! only []
    refine (zhy d S L G).mono ?_
    rintro _ rfl
    simp! only []
    refine h.mono ?_
    rintro _ rfl
    simp! only []
  rcases pp with ⟨a, b, h1, h2, h3, h4, rfl⟩ | ⟨q, h1, h2, rfl⟩ | ⟨q, h1, h2, rfl⟩
  ·refine np rfl (by decide +kernel) (by decide +kernel) (by decide +kernel) ?_
   simp! only [↓zbd, ↓zcc, beq_self_eq_true]
   refine (clash_ok _ _ g1 a b).mono ?_
   rintro _ ⟨z, rfl, hz⟩
   rw [hz.mpr ⟨h1, h2, h3, h4⟩]
   simp! only []
  ·refine np rfl (by decide +kernel) (by decide +kernel) (by decide +kernel) ?_
   simp! only [↓zbd, ↓zcc, show (("low" : Str) == "clash") = false by decide +kernel, ↓zcB, beq_self_eq_true]
   refine (zla _ q _ g1 (by lia) (by lia)).mono ?_
   rintro _ ⟨z, rfl, hz⟩
   rw [hz.mpr ⟨rfl, h1, h2⟩]
   simp! only []
  ·refine np rfl (by decide +kernel) (by decide +kernel) (by decide +kernel) ?_
   simp! only [↓zbd, ↓zcc, show (("high" : Str) == "clash") = false by decide +kernel, show (("high" : Str) == "low") = false by decide +kernel, ↓zcB, ↓zeo, beq_self_eq_true]
   refine (zjZ _ q _ g1 (by lia) (by lia)).mono ?_
   rintro _ ⟨z, rfl, hz⟩
   rw [hz.mpr ⟨rfl, h1, h2⟩]
   simp! only []
 ·simp! only [↓zaP, ↓zb8, beq_self_eq_true]
  refine (zjd d ⟨clo, z⟩ sp rm).mono ?_
  rintro _ rfl
  simp! only []
end
theorem fewN : ∀ (c : Nat) (ks : List Nat), ks.Nodup -> (∀ x, x ∈ ks -> x < c) -> ks.length <= c
 | 0, [], _, _ => by simp
 | 0, x :: ks, _, h => by have := h x (by simp); lia
 | c + 1, ks, nd, h => by
  by_cases q : c ∈ ks
  ·have ih := fewN c (ks.erase c) (nd.erase _) fun x hx => by
    have hm := (nd.mem_erase_iff).mp hx
    have := h x hm.2
    have := hm.1
    lia
   rw [List.length_erase_of_mem q] at ih
   lia
  ·have := fewN c ks nd fun x hx => by
    have := h x hx
    have : x ≠ c := fun z => q (z ▸ hx)
    lia
   lia
theorem pigeon {f : Nat -> Nat} (h : ∀ i, i <= n -> f i < n) : ∃ i j, i < j /\ j <= n /\ f i = f j := by
 apply Classical.byContradiction
 intro no
 have nd : ((List.range (n + 1)).map f).Nodup := by
  rw [List.nodup_iff_pairwise_ne, List.pairwise_map]
  refine (List.Pairwise.and_mem.mp List.pairwise_lt_range).imp fun {a b} hh e => no ⟨a, b, hh.2.2, ?_, e⟩
  have := List.mem_range.mp hh.2.1
  lia
 have := fewN n _ nd fun x hx => by
  obtain ⟨i, hi, rfl⟩ := List.mem_map.mp hx
  exact h i (by have := List.mem_range.mp hi; lia)
 rw [List.length_map, List.length_range] at this
 lia
noncomputable def MV (k n : Nat) (S lo hi : Nat -> Int) (v : Int) : Prop := (SOk k n S /\ v = hc lo hi (Nat.gcd k n) 0 (tT k n S)) \/ (¬ SOk k n S /\ v = 0)
section
variable {k n : Nat} {S L G lo hi S' L' G' lo' hi' : Nat -> Int}
theorem zni (n0 : 0 < n) {r s : Nat -> Int} (e : ∀ p, p < n -> r p = s p) (f : Fits k n S L G r) : Fits k n S L G s := ⟨fun a ha => by
 rw [<- f.1 a ha]
 exact zao fun j _ => (e _ (Nat.mod_lt _ n0)).symm, fun p hp => by rw [<- e p hp]; exact f.2 p hp⟩
theorem hd_of (d : RDim k n) (sp : zcF k n S L G lo hi) (f : Fits k n S L G r) : Hd (Nat.gcd k n) lo hi (tT k n S) r := ⟨(zdV d sp f).2.2.1, (zdV d sp f).2.2.2⟩
theorem MV.pos (h : MV k n S lo hi v) : 0 <= v := by
 rcases h with ⟨_, rfl⟩ | ⟨_, rfl⟩
 ·exact zkG _ _ _ _ _
 ·exact Int.le_refl _
theorem cnt_le (d : RDim k n) (sp : zcF k n S L G lo hi) (sp' : zcF k n S' L' G' lo' hi') (far : tT k n S - sumR (Nat.gcd k n) lo < 2 ^ 250) (wide : ∀ j, j < Nat.gcd k n -> hi j - lo j < 2 ^ 399) (hv : MV k n S lo hi v) (hv' : MV k n S' lo' hi' v')
  (φ : (Nat -> Int) -> Nat -> Int) (fw : ∀ r, Fits k n S L G r -> Fits k n S' L' G' (φ r)) (inj : ∀ r s, (∀ p, p < n -> φ r p = φ s p) -> ∀ p, p < n -> r p = s p) : v <= v' := by
 have p' := hv'.pos
 rcases hv with ⟨ok, rfl⟩ | ⟨_, rfl⟩
 case inr => exact p'
 have gk := d.gk
 have k5 := d.k5
 have gn := d.gn
 apply Classical.byContradiction
 intro no
 have ex : ∀ i : Nat, ∃ h : Nat -> Int, (i : Int) < hc lo hi (Nat.gcd k n) 0 (tT k n S) -> (∀ j, j < Nat.gcd k n -> lo j <= h j /\ h j <= hi j) /\ sumR (Nat.gcd k n) h = tT k n S /\ rank (Nat.gcd k n) lo hi (tT k n S) h (Nat.gcd k n) = i := fun i => by
  by_cases c : (i : Int) < hc lo hi (Nat.gcd k n) 0 (tT k n S)
  ·obtain ⟨_, -, h, h1, h2, h3, -⟩ := ziQ (k := Nat.gcd k n) (by lia) far wide (show (0 : Int) <= (i : Int) by lia) c
   exact ⟨h, fun _ => ⟨h1, h2, h3⟩⟩
  ·exact ⟨fun _ => 0, fun z => absurd z c⟩
 obtain ⟨H, hx⟩ : ∃ H : Nat -> Nat -> Int, ∀ i : Nat, (i : Int) < hc lo hi (Nat.gcd k n) 0 (tT k n S) -> (∀ j, j < Nat.gcd k n -> lo j <= H i j /\ H i j <= hi j) /\ sumR (Nat.gcd k n) (H i) = tT k n S /\ rank (Nat.gcd k n) lo hi (tT k n S) (H i) (Nat.gcd k n) = i := ⟨fun i => (ex i).choose, fun i => (ex i).choose_spec⟩
 obtain ⟨row, hrow⟩ : ∃ row : Nat -> Nat -> Int, row = fun i p => H i (p % Nat.gcd k n) + rM k n S p := ⟨_, rfl⟩
 have ft : ∀ i : Nat, (i : Int) < hc lo hi (Nat.gcd k n) 0 (tT k n S) -> Fits k n S' L' G' (φ (row i)) := fun i hi' => fw _ (by rw [hrow]; exact zj1 d ok sp (hx i hi').1 (hx i hi').2.1)
 have rk : ∀ i : Nat, (i : Int) < hc lo hi (Nat.gcd k n) 0 (tT k n S) -> 0 <= rank (Nat.gcd k n) lo' hi' (tT k n S') (φ (row i)) (Nat.gcd k n) /\ rank (Nat.gcd k n) lo' hi' (tT k n S') (φ (row i)) (Nat.gcd k n) < v' := fun i hi' => by
  have a := (hd_of d sp' (ft i hi')).rg
  rcases hv' with ⟨_, e⟩ | ⟨no', _⟩
  ·rw [e]; exact a
  ·exact absurd (zdV d sp' (ft i hi')).1 no'
 obtain ⟨i, j, ij, hj, e⟩ := pigeon (n := v'.toNat) (f := fun i => (rank (Nat.gcd k n) lo' hi' (tT k n S') (φ (row i)) (Nat.gcd k n)).toNat) fun i hi' => by
  have := rk i (by lia)
  (try dsimp only)
  lia
 have h1 : (i : Int) < hc lo hi (Nat.gcd k n) 0 (tT k n S) := by lia
 have h2 : (j : Int) < hc lo hi (Nat.gcd k n) 0 (tT k n S) := by lia
 have a1 := rk i h1
 have a2 := rk j h2
 (try dsimp only at e)
 have hh := Hd.inj (hd_of d sp' (ft i h1)) (hd_of d sp' (ft j h2)) (by lia)
 have same := inj (row i) (row j) fun p hp => by
  rw [(zdV d sp' (ft i h1)).2.1 p hp, (zdV d sp' (ft j h2)).2.1 p hp, hh _ (Nat.mod_lt _ d.g1)]
 have hs : ∀ q, q < Nat.gcd k n -> H i q = H j q := fun q hq => by
  have := same q (by lia)
  rw [hrow] at this
  (try dsimp only at this)
  rw [Nat.mod_eq_of_lt hq] at this
  lia
 have r1 := (hx i h1).2.2
 have r2 := (hx j h2).2.2
 have : rank (Nat.gcd k n) lo hi (tT k n S) (H i) (Nat.gcd k n) = rank (Nat.gcd k n) lo hi (tT k n S) (H j) (Nat.gcd k n) := zao fun q hq => by
  rw [hs q hq, zao (f := H i) (g := H j) (n := q) fun t ht => hs t (by lia)]
 lia
theorem zoA (d : RDim k n) (sp : zcF k n S L G lo hi) (sp' : zcF k n S' L' G' lo' hi') (far : tT k n S - sumR (Nat.gcd k n) lo < 2 ^ 250) (wide : ∀ j, j < Nat.gcd k n -> hi j - lo j < 2 ^ 399) (far' : tT k n S' - sumR (Nat.gcd k n) lo' < 2 ^ 250) (wide' : ∀ j, j < Nat.gcd k n -> hi' j - lo' j < 2 ^ 399) (hv : MV k n S lo hi v) (hv' : MV k n S' lo' hi' v')
  (φ ψ : (Nat -> Int) -> Nat -> Int) (ff : ∀ r, Fits k n S' L' G' (φ r) ↔ Fits k n S L G r) (inj : ∀ r s, (∀ p, p < n -> φ r p = φ s p) -> ∀ p, p < n -> r p = s p) (cg : ∀ r s, (∀ p, p < n -> r p = s p) -> ∀ p, p < n -> φ r p = φ s p) (sur : ∀ s p, p < n -> φ (ψ s) p = s p) : v = v' := by
 have n0 : 0 < n := by have := d.k2; have := d.kn; lia
 have h1 := cnt_le d sp sp' far wide hv hv' φ (fun r => (ff r).mpr) inj
 have h2 := cnt_le d sp' sp far' wide' hv' hv ψ (fun s f => (ff _).mp (zni n0 (fun p hp => (sur s p hp).symm) f)) fun r s h p hp => by
  rw [<- sur r p hp, <- sur s p hp]
  exact cg _ _ h p hp
 lia
end
noncomputable def oS (k n st : Nat) (m : Int) (S : Nat -> Int) : Nat -> Nat -> Int
 | 0, p => S ((p + st) % n)
 | 1, p => S ((2 * n - k - p) % n)
 | 2, p => S p + (k : Int) * m
 | _, p => 0 - S p
noncomputable def oB (n st : Nat) (m : Int) (L G : Nat -> Int) : Nat -> Nat -> Int
 | 0, p => L ((p + st) % n)
 | 1, p => L (n - 1 - p)
 | 2, p => L p + m
 | _, p => 0 - G p
noncomputable def oY (n st : Nat) (m : Int) (r : Nat -> Int) : Nat -> Nat -> Int
 | 0, p => r ((p + (n - st)) % n)
 | 1, p => r (n - 1 - p)
 | 2, p => r p - m
 | _, p => 0 - r p
theorem mod2 {x n : Nat} (h : x < 2 * n) : x % n = if x < n then x else x - n := by
 split
 ·exact Nat.mod_eq_of_lt (by assumption)
 ·rw [Nat.mod_eq_sub_mod (by lia), Nat.mod_eq_of_lt (by lia)]
theorem zmX (F : Nat -> Int) : ∀ k, sumR k F = sumR k fun s => F (k - 1 - s)
 | 0 => rfl
 | k + 1 => by
  have h := zba (fun s => F (k + 1 - 1 - s)) 1 k
  rw [Nat.add_comm 1 k] at h
  rw [h]
  show sumR k F + F k = 0 + F (k + 1 - 1 - 0) + sumR k fun i => F (k + 1 - 1 - (1 + i))
  rw [zmX F k, show k + 1 - 1 - 0 = k by lia, zao (f := fun s => F (k - 1 - s)) (g := fun i => F (k + 1 - 1 - (1 + i))) fun s hs => by (try dsimp only); rw [show k + 1 - 1 - (1 + s) = k - 1 - s by lia]]
  lia
theorem zmP (f : Nat -> Int) : ∀ k, sumR k (fun s => 0 - f s) = 0 - sumR k f
 | 0 => rfl
 | k + 1 => by show sumR k (fun s => 0 - f s) + (0 - f k) = 0 - (sumR k f + f k); rw [zmP f k]; lia
theorem ziR (f : Nat -> Int) (m : Int) : ∀ k : Nat, sumR k (fun s => f s + m) = sumR k f + (k : Int) * m
 | 0 => by show (0 : Int) = 0 + ((0 : Nat) : Int) * m; simp
 | k + 1 => by show sumR k (fun s => f s + m) + (f k + m) = sumR k f + f k + ((k + 1 : Nat) : Int) * m; rw [ziR f m k]; push_cast; rw [Int.add_mul, Int.one_mul]; lia
section
variable {k n st : Nat} {m : Int} {S L G r : Nat -> Int}
theorem oW (d : RDim k n) (hs : st < n) (i : Nat) (ha : a < n) : rwin k n (oB n st m r r i) a = oS k n st m (rwin k n r) i a := by
 have n0 : 0 < n := by lia
 have kn := d.kn
 have k2 := d.k2
 match i with
 | 0 =>
  show sumR k (fun s => r (((a + s) % n + st) % n)) = rwin k n r ((a + st) % n)
  rw [zkj]
  exact zao fun s _ => by (try dsimp only); rw [Nat.mod_add_mod, show a + s + st = a + st + s by lia]
 | 1 =>
  show sumR k (fun s => r (n - 1 - (a + s) % n)) = rwin k n r ((2 * n - k - a) % n)
  rw [zkj, zmX]
  refine zao fun s hs' => ?_
  (try dsimp only)
  congr 1
  rw [mod2 (show a + (k - 1 - s) < 2 * n by lia)]
  by_cases c : 2 * n - k - a + s < 2 * n
  ·rw [mod2 c]
   split <;> split <;> lia
  ·lia
 | 2 =>
  show sumR k (fun s => r ((a + s) % n) + m) = rwin k n r a + (k : Int) * m
  exact ziR _ m k
 | i + 3 =>
  show sumR k (fun s => 0 - r ((a + s) % n)) = 0 - rwin k n r a
  exact zmP _ k
theorem oFits (d : RDim k n) (hs : st < n) (i : Nat) : Fits k n (oS k n st m S i) (oB n st m L G i) (oB n st m G L i) (oB n st m r r i) ↔ Fits k n S L G r := by
 have n0 : 0 < n := by lia
 have kn := d.kn
 have k2 := d.k2
 have w := fun a ha => oW (m := m) (r := r) d hs i (a := a) ha
 constructor
 ·rintro ⟨f1, f2⟩
  refine ⟨fun b hb => ?_, fun p hp => ?_⟩
  ·match i, w, f1 with
   | 0, w, f1 =>
    have h := f1 ((b + (n - st)) % n) (Nat.mod_lt _ n0)
    rw [w _ (Nat.mod_lt _ n0)] at h
    change rwin k n r (((b + (n - st)) % n + st) % n) = S (((b + (n - st)) % n + st) % n) at h
    rwa [Nat.mod_add_mod, show b + (n - st) + st = b + n by lia, Nat.add_mod_right, Nat.mod_eq_of_lt hb] at h
   | 1, w, f1 =>
    have h := f1 ((2 * n - k - b) % n) (Nat.mod_lt _ n0)
    rw [w _ (Nat.mod_lt _ n0)] at h
    change rwin k n r ((2 * n - k - (2 * n - k - b) % n) % n) = S ((2 * n - k - (2 * n - k - b) % n) % n) at h
    have e : (2 * n - k - (2 * n - k - b) % n) % n = b := by
     rw [mod2 (x := 2 * n - k - b) (by lia)]
     by_cases z : 2 * n - k - b < n
     ·rw [if_pos z, mod2 (by lia), if_pos (by lia)]; lia
     ·rw [if_neg z]
      by_cases z' : 2 * n - k - (2 * n - k - b - n) < n
      ·rw [mod2 (by lia), if_pos z']; lia
      ·rw [mod2 (by lia), if_neg z']; lia
    rwa [e] at h
   | 2, w, f1 =>
    have h := f1 b hb
    rw [w b hb] at h
    change rwin k n r b + (k : Int) * m = S b + (k : Int) * m at h
    lia
   | i + 3, w, f1 =>
    have h := f1 b hb
    rw [w b hb] at h
    change 0 - rwin k n r b = 0 - S b at h
    lia
  ·match i, f2 with
   | 0, f2 =>
    have h := f2 ((p + (n - st)) % n) (Nat.mod_lt _ n0)
    change L (((p + (n - st)) % n + st) % n) <= r (((p + (n - st)) % n + st) % n) /\ r (((p + (n - st)) % n + st) % n) <= G (((p + (n - st)) % n + st) % n) at h
    rwa [Nat.mod_add_mod, show p + (n - st) + st = p + n by lia, Nat.add_mod_right, Nat.mod_eq_of_lt hp] at h
   | 1, f2 =>
    have h := f2 (n - 1 - p) (by lia)
    change L (n - 1 - (n - 1 - p)) <= r (n - 1 - (n - 1 - p)) /\ r (n - 1 - (n - 1 - p)) <= G (n - 1 - (n - 1 - p)) at h
    rwa [show n - 1 - (n - 1 - p) = p by lia] at h
   | 2, f2 =>
    have h := f2 p hp
    change L p + m <= r p + m /\ r p + m <= G p + m at h
    lia
   | i + 3, f2 =>
    have h := f2 p hp
    change 0 - G p <= 0 - r p /\ 0 - r p <= 0 - L p at h
    lia
 ·rintro ⟨f1, f2⟩
  refine ⟨fun a ha => ?_, fun p hp => ?_⟩
  ·rw [w a ha]
   match i with
   | 0 => exact f1 _ (Nat.mod_lt _ n0)
   | 1 => exact f1 _ (Nat.mod_lt _ n0)
   | 2 => show rwin k n r a + (k : Int) * m = S a + (k : Int) * m; rw [f1 a ha]
   | i + 3 => show 0 - rwin k n r a = 0 - S a; rw [f1 a ha]
  ·match i with
   | 0 => exact f2 _ (Nat.mod_lt _ n0)
   | 1 => exact f2 _ (by lia)
   | 2 => have := f2 p hp; show L p + m <= r p + m /\ r p + m <= G p + m; lia
   | i + 3 => have := f2 p hp; show 0 - G p <= 0 - r p /\ 0 - r p <= 0 - L p; lia
theorem o_cg (n0 : 0 < n) (i : Nat) (r s : Nat -> Int) (h : ∀ p, p < n -> r p = s p) : ∀ p, p < n -> oB n st m r r i p = oB n st m s s i p := fun p hp => by
 match i with
 | 0 => exact h _ (Nat.mod_lt _ n0)
 | 1 => exact h _ (by lia)
 | 2 => show r p + m = s p + m; rw [h p hp]
 | i + 3 => show 0 - r p = 0 - s p; rw [h p hp]
theorem o_sur (hs : st < n) (i : Nat) (s : Nat -> Int) (p : Nat) (hp : p < n) : oB n st m (oY n st m s i) (oY n st m s i) i p = s p := by
 match i with
 | 0 => show s (((p + st) % n + (n - st)) % n) = s p; rw [Nat.mod_add_mod, show p + st + (n - st) = p + n by lia, Nat.add_mod_right, Nat.mod_eq_of_lt hp]
 | 1 => show s (n - 1 - (n - 1 - p)) = s p; rw [show n - 1 - (n - 1 - p) = p by lia]
 | 2 => show s p - m + m = s p; lia
 | i + 3 => show 0 - (0 - s p) = s p; lia
theorem o_inj (hs : st < n) (i : Nat) (r s : Nat -> Int) (h : ∀ p, p < n -> oB n st m r r i p = oB n st m s s i p) : ∀ p, p < n -> r p = s p := fun p hp => by
 have n0 : 0 < n := by lia
 match i, h with
 | 0, h =>
  have := h ((p + (n - st)) % n) (Nat.mod_lt _ n0)
  change r (((p + (n - st)) % n + st) % n) = s (((p + (n - st)) % n + st) % n) at this
  rwa [Nat.mod_add_mod, show p + (n - st) + st = p + n by lia, Nat.add_mod_right, Nat.mod_eq_of_lt hp] at this
 | 1, h =>
  have := h (n - 1 - p) (by lia)
  change r (n - 1 - (n - 1 - p)) = s (n - 1 - (n - 1 - p)) at this
  rwa [show n - 1 - (n - 1 - p) = p by lia] at this
 | 2, h =>
  have := h p hp
  change r p + m = s p + m at this
  lia
 | i + 3, h =>
  have := h p hp
  change 0 - r p = 0 - s p at this
  lia
end
section
variable {k n st : Nat} {m : Int} {S L G : Nat -> Int}
theorem step_w (hs : st < n) (f : Nat -> D) : (wL n f).drop st ++ (wL n f).take st = wL n fun p => f ((p + st) % n) := by
 apply List.ext_getElem?
 intro j
 by_cases hj : j < n - st
 ·rw [List.getElem?_append_left (by rw [List.length_drop, zaE]; exact hj), List.getElem?_drop, zay _ (by lia), zay _ (by lia), Nat.mod_eq_of_lt (by lia), Nat.add_comm]
 ·rw [List.getElem?_append_right (by rw [List.length_drop, zaE]; lia), List.length_drop, zaE]
  by_cases h2 : j < n
  ·rw [List.getElem?_take_of_lt (by lia), zay _ (by lia), zay _ h2, mod2 (by lia), if_neg (by lia), show j + st - n = j - (n - st) by lia]
  ·rw [List.getElem?_eq_none (by rw [List.length_take, zaE]; lia), List.getElem?_eq_none (by rw [zaE]; lia)]
theorem zf3 (hs : st < n) (n24 : n <= 24) (f : Nat -> Int) : Ok (zaN [.tup (wI n f), .int (st : Nat)]) fun x => x = .val (.lst (wI n fun p => f ((p + st) % n))) := by
 have e := step_w hs fun p => D.int (f p)
 simp! only [↓zaN, ↓zdm, zky, zjN, List.length_take, List.length_drop]
 refine ⟨?_, ?_⟩
 ·lia
 ·rw [e]
theorem zj0 (d : RDim k n) (hle : ∀ p, p < n -> L p <= G p) {d1 d2 d3 : D} (h1 : Sq d1 n S) (h2 : Sq d2 n L) (h3 : Sq d3 n G) : Ok (zbE [.int k, d1, d2, d3]) fun x => x = .val (zbn k n S L G) := by
 obtain ⟨k2, k5, kn, n24⟩ := d
 simp! only [↓zbE, ↓zgR, ↓zbw, ↓zck, h1.ln, ↓zhI, ↓ziL, show (2 : Int) <= (k : Int) by lia, show (k : Int) <= 5 by lia, show (k : Int) <= (n : Int) by lia, show (n : Int) <= 24 by lia, ↓zcu, ↓zdw, h2.ln, h3.ln, beq_self_eq_true]
 refine (zhk h2 h2 h3 (by lia)).mono ?_
 rintro _ ⟨b, rfl, hb⟩
 have hb := hb.mpr ⟨rfl, fun p hp => ⟨Int.le_refl _, hle p hp⟩⟩
 subst hb
 simp! only [↓zgH, h1.tp, h2.tp, h3.tp]
theorem o_bd (d : RDim k n) (hs : st < n) (m1 : -4000000000000000000000000000000000000000000000000000000000 <= m) (m2 : m <= 4000000000000000000000000000000000000000000000000000000000) (bb : BB n S L G) (i : Nat) : (Bc 160 n (oS k n st m S i) /\ Bc 160 n (oB n st m L G i) /\ Bc 160 n (oB n st m G L i)) /\ ∀ p, p < n -> oB n st m L G i p <= oB n st m G L i p := by
 have n0 : 0 < n := by lia
 have k5 := d.k5
 obtain ⟨⟨bS, bL, bG⟩, le⟩ := bb
 have km : -20000000000000000000000000000000000000000000000000000000000 <= (k : Int) * m /\ (k : Int) * m <= 20000000000000000000000000000000000000000000000000000000000 := by
  have : k = 0 \/ k = 1 \/ k = 2 \/ k = 3 \/ k = 4 \/ k = 5 := by lia
  rcases this with rfl | rfl | rfl | rfl | rfl | rfl <;> lia
 match i with
 | 0 => exact ⟨⟨fun p _ => bS.mono (by lia) _ (Nat.mod_lt _ n0), fun p _ => bL.mono (by lia) _ (Nat.mod_lt _ n0), fun p _ => bG.mono (by lia) _ (Nat.mod_lt _ n0)⟩, fun p _ => le _ (Nat.mod_lt _ n0)⟩
 | 1 => exact ⟨⟨fun p _ => bS.mono (by lia) _ (Nat.mod_lt _ n0), fun p _ => bL.mono (by lia) (n - 1 - p) (by lia), fun p _ => bG.mono (by lia) (n - 1 - p) (by lia)⟩, fun p _ => le (n - 1 - p) (by lia)⟩
 | 2 =>
  refine ⟨⟨fun p hp => ?_, fun p hp => ?_, fun p hp => ?_⟩, fun p hp => ?_⟩
  ·have := bS p hp; show _ <= S p + (k : Int) * m /\ S p + (k : Int) * m <= _; lia
  ·have := bL p hp; show _ <= L p + m /\ L p + m <= _; lia
  ·have := bG p hp; show _ <= G p + m /\ G p + m <= _; lia
  ·have := le p hp; show L p + m <= G p + m; lia
 | i + 3 =>
  refine ⟨⟨fun p hp => ?_, fun p hp => ?_, fun p hp => ?_⟩, fun p hp => ?_⟩
  ·have := bS p hp; show _ <= 0 - S p /\ 0 - S p <= _; lia
  ·have := bG p hp; show _ <= 0 - G p /\ 0 - G p <= _; lia
  ·have := bL p hp; show _ <= 0 - L p /\ 0 - L p <= _; lia
  ·have := le p hp; show 0 - G p <= 0 - L p; lia
noncomputable abbrev oR (k n st : Nat) (m : Int) (S L G : Nat -> Int) (i : Nat) : D := zbn k n (oS k n st m S i) (oB n st m L G i) (oB n st m G L i)
theorem zn4 (d : RDim k n) (hs : st < n) (m1 : -4000000000000000000000000000000000000000000000000000000000 <= m) (m2 : m <= 4000000000000000000000000000000000000000000000000000000000) (bb : BB n S L G) : Ok (zcj [zbn k n S L G, .int (st : Nat), .int m]) fun x => x = .own (wL 4 (oR k n st m S L G)) := by
 have n24 := d.n24
 have n0 : 0 < n := by lia
 have kn := d.kn
 have k5 := d.k5
 simp! only [↓zcj, ↓zd4, ↓zek]
 refine ⟨zg9 (by lia), by lia, zaw (fun ρ => ∃ s, ρ = [.val (.tup (wI n S)), .val (.int n), .val (.int k), s]) (fun p => .int (S ((2 * n - k - p) % n))) ⟨_, rfl⟩ ?_ ?_⟩
 ·rintro p _ hp ⟨s, rfl⟩
  have em : ((n : Int) - (k : Int) - (p : Int)) % (n : Int) = (((2 * n - k - p) % n : Nat) : Int) := by
   rw [<- Int.add_emod_right, show (n : Int) - (k : Int) - (p : Int) + (n : Int) = ((2 * n - k - p : Nat) : Int) by lia]; push_cast; rfl
  simp! only [↓zeg, em, zay _ (Nat.mod_lt (2 * n - k - p) n0)]
  exact ⟨by lia, _, rfl⟩
 rintro _ ⟨_, rfl⟩
 simp! only []
 refine (zf3 hs n24 S).mono ?_
 rintro _ rfl
 simp! only []
 refine (zf3 hs n24 L).mono ?_
 rintro _ rfl
 simp! only []
 refine (zf3 hs n24 G).mono ?_
 rintro _ rfl
 simp! only []
 refine (zj0 d (o_bd d hs m1 m2 bb 0).2 (Sq.lst n _) (Sq.lst n _) (Sq.lst n _)).mono ?_
 rintro _ rfl
 simp! only []
 rw [show (wI n L).reverse = wI n fun p => L (n - 1 - p) from rev_w n _, show (wI n G).reverse = wI n fun p => G (n - 1 - p) from rev_w n _]
 refine (zj0 d (o_bd d hs m1 m2 bb 1).2 (Sq.lst n (oS k n st m S 1)) (Sq.lst n _) (Sq.lst n _)).mono ?_
 rintro _ rfl
 simp! only [↓zed]
 refine ⟨by lia, zaw (fun ρ => ∃ s, ρ = [.val (.int k), .val (.int m), s]) (fun p => .int (S p + (k : Int) * m)) ⟨_, rfl⟩ ?_ ?_⟩
 ·rintro p _ hp ⟨s, rfl⟩
  simp! only [↓zel]
  exact ⟨zcD (by lia), _, rfl⟩
 rintro _ ⟨_, rfl⟩
 simp! only [↓zeJ]
 refine ⟨by lia, zaw (fun ρ => ∃ s, ρ = [.val (.int m), s]) (fun p => .int (L p + m)) ⟨_, rfl⟩ ?_ ?_⟩
 ·rintro p _ hp ⟨s, rfl⟩
  simp! only [↓zew]
  exact ⟨_, rfl⟩
 rintro _ ⟨_, rfl⟩
 simp! only [↓zeL]
 refine ⟨by lia, zaw (fun ρ => ∃ s, ρ = [.val (.int m), s]) (fun p => .int (G p + m)) ⟨_, rfl⟩ ?_ ?_⟩
 ·rintro p _ hp ⟨s, rfl⟩
  simp! only [↓zeN]
  exact ⟨_, rfl⟩
 rintro _ ⟨_, rfl⟩
 simp! only []
 refine (zj0 d (o_bd d hs m1 m2 bb 2).2 (Sq.lst n (oS k n st m S 2)) (Sq.lst n _) (Sq.lst n _)).mono ?_
 rintro _ rfl
 simp! only [↓zes]
 refine ⟨by lia, zaw (fun ρ => ∃ s, ρ = [s]) (fun p => .int (0 - S p)) ⟨_, rfl⟩ ?_ ?_⟩
 ·rintro p _ hp ⟨s, rfl⟩
  simp! only [↓zeO]
  exact ⟨_, rfl⟩
 rintro _ ⟨_, rfl⟩
 simp! only [↓zeC]
 refine ⟨by lia, zaw (fun ρ => ∃ s, ρ = [s]) (fun p => .int (0 - G p)) ⟨_, rfl⟩ ?_ ?_⟩
 ·rintro p _ hp ⟨s, rfl⟩
  simp! only [↓zej]
  exact ⟨_, rfl⟩
 rintro _ ⟨_, rfl⟩
 simp! only [↓zen]
 refine ⟨by lia, zaw (fun ρ => ∃ s, ρ = [s]) (fun p => .int (0 - L p)) ⟨_, rfl⟩ ?_ ?_⟩
 ·rintro p _ hp ⟨s, rfl⟩
  simp! only [↓zeB]
  exact ⟨_, rfl⟩
 rintro _ ⟨_, rfl⟩
 simp! only []
 refine (zj0 d (o_bd d hs m1 m2 bb 3).2 (Sq.lst n (oS k n st m S 3)) (Sq.lst n _) (Sq.lst n _)).mono ?_
 rintro _ rfl
 simp! only []
 rfl
end
section
variable {k n st : Nat} {m : Int} {S L G lo hi lo' hi' : Nat -> Int}
theorem fit_is (d : RDim k n) (sp : zcF k n S L G lo hi) (f : Fit k n S L G lo hi y) (fr : Fits k n S L G r) : y = .tup [.str "row", .tup (wI n (rR k n S lo hi))] := by
 obtain ⟨ok, -, h1, h2⟩ := zdV d sp fr
 have rm : Room' (Nat.gcd k n) lo hi (tT k n S) := ⟨fun j hj => Int.le_trans (h1 j hj).1 (h1 j hj).2, by rw [<- h2]; exact zgK fun j hj => (h1 j hj).1, by rw [<- h2]; exact zgK fun j hj => (h1 j hj).2⟩
 rcases f with ⟨j, hj, ne, _⟩ | ⟨_, ne, _⟩ | ⟨_, _, nr, _⟩ | ⟨_, _, _, rfl⟩
 ·exact absurd (ok.1 j hj) ne
 ·exact absurd ok.2 ne
 ·exact absurd rm nr
 ·rfl
theorem zl2 (p : Nat) : rM k n (oS k n st m S 2) p = rM k n S p := by
 unfold rM mw
 refine zao fun t _ => ?_
 show S _ + (k : Int) * m - (S _ + (k : Int) * m) = _
 lia
theorem tT_plus (d : RDim k n) : tT k n (oS k n st m S 2) = tT k n S + (Nat.gcd k n : Int) * m := by
 have e1 := d.e1
 have ek : (k : Int) = (eT k n : Int) * (Nat.gcd k n : Int) := by
  have := Nat.div_mul_cancel (Nat.gcd_dvd_left k n)
  have : eT k n * Nat.gcd k n = k := this
  rw [<- Int.natCast_mul, this]
 have er : rT k n (oS k n st m S 2) = rT k n S + (eT k n : Int) * ((Nat.gcd k n : Int) * m) := by
  rw [<- Int.mul_assoc, <- ek]
  unfold rT
  rw [zao (f := rM k n (oS k n st m S 2)) (g := rM k n S) fun p _ => zl2 p]
  show S 0 + (k : Int) * m - _ = _
  lia
 unfold tT
 rw [er, Int.add_mul_ediv_left _ _ (by lia)]
theorem max2_add (a b m : Int) : max2 (a + m) (b + m) = max2 a b + m := by unfold max2; split <;> split <;> lia
theorem ziy {g : Nat} {T : Int} (e : ∀ j, j < g -> lo' j = lo j + m /\ hi' j = hi j + m) : ∀ j, j <= g -> left lo' hi' g (T + (g : Int) * m) j = left lo hi g T j + ((g : Int) - j) * m
 | 0, _ => by show T + (g : Int) * m = T + ((g : Int) - ((0 : Nat) : Int)) * m; simp
 | j + 1, h => by
  have ih := ziy (T := T) e j (by lia)
  have s1 : ∀ q, q <= g -> sumR q hi' = sumR q hi + (q : Int) * m := fun q hq => by
   rw [<- ziR, zao fun i hi' => (e i (by lia)).2]
  show left lo' hi' g _ j - max2 (lo' j) (left lo' hi' g _ j - (sumR g hi' - sumR (j + 1) hi')) = left lo hi g T j - max2 (lo j) (left lo hi g T j - (sumR g hi - sumR (j + 1) hi)) + ((g : Int) - ((j + 1 : Nat) : Int)) * m
  rw [ih, s1 g (by lia), s1 (j + 1) h, (e j (by lia)).1]
  have : left lo hi g T j + ((g : Int) - (j : Int)) * m - (sumR g hi + (g : Int) * m - (sumR (j + 1) hi + ((j + 1 : Nat) : Int) * m)) = left lo hi g T j - (sumR g hi - sumR (j + 1) hi) + m := by
   push_cast
   simp only [Int.sub_mul, Int.add_mul, Int.one_mul]
   lia
  rw [this, max2_add]
  push_cast
  simp only [Int.sub_mul, Int.add_mul, Int.one_mul]
  lia
theorem hd_plus {g : Nat} {T : Int} (e : ∀ j, j < g -> lo' j = lo j + m /\ hi' j = hi j + m) (hj : j < g) : hd lo' hi' g (T + (g : Int) * m) j = hd lo hi g T j + m := by
 have h1 := ziy (T := T) e j (by lia)
 have h2 := ziy (T := T) e (j + 1) (by lia)
 have e1 : left lo' hi' g (T + (g : Int) * m) (j + 1) = left lo' hi' g (T + (g : Int) * m) j - hd lo' hi' g (T + (g : Int) * m) j := rfl
 have e2 : left lo hi g T (j + 1) = left lo hi g T j - hd lo hi g T j := rfl
 rw [e1, h1, e2] at h2
 push_cast at h2
 simp only [Int.sub_mul, Int.add_mul, Int.one_mul] at h2
 lia
theorem rR_plus (d : RDim k n) (sp : zcF k n S L G lo hi) (sp' : zcF k n (oS k n st m S 2) (oB n st m L G 2) (oB n st m G L 2) lo' hi') : wI n (rR k n (oS k n st m S 2) lo' hi') = wI n fun p => rR k n S lo hi p + m := by
  have ra : ∀ (B C : Nat -> Int) (p : Nat), rA k n (oS k n st m S 2) (oB n st m B C 2) p = rA k n S B p + m := fun B C p => by
    unfold rA
    rw [zl2]
    show B p + m - _ = _
    lia
  have sp2 : zcF k n (oS k n st m S 2) (oB n st m L G 2) (oB n st m G L 2) (fun j => lo j + m) (fun j => hi j + m) := ⟨fun j hj => by
      obtain ⟨p, h1, h2, h3⟩ := sp.lm j hj
      exact ⟨p, h1, h2, by rw [ra, h3]⟩, fun p hp => by
      have := sp.lg p hp
      rw [ra]; show _ <= lo _ + m; lia, fun j hj => by
      obtain ⟨p, h1, h2, h3⟩ := sp.hm j hj
      exact ⟨p, h1, h2, by rw [ra, h3]⟩, fun p hp => by
      have := sp.hg p hp
      rw [ra]; show hi _ + m <= _; lia⟩
  refine zcH fun p hp => ?_
  (try dsimp only)
  unfold rR
  rw [zl2, tT_plus d, hd_plus (lo := lo) (hi := hi) (fun j hj => ziO sp' sp2 hj) (Nat.mod_lt _ d.g1)]
  congr 1
  lia
end
section
variable {k n st : Nat} {m : Int} {S L G lo hi : Nat -> Int}
theorem many_v (d : RDim k n) (b : Bc 160 n S /\ Bc 160 n L /\ Bc 160 n G) (sp : zcF k n S L G lo hi) : Ok (za3 [zbn k n S L G]) fun x => ∃ v, x = .val (.int v) /\ MV k n S lo hi v := (zn1 d sp (zmb d b.1 b.2.1 b.2.2 sp)).mono fun x h => by
 rcases h with ⟨a, rfl⟩ | ⟨a, rfl⟩
 ·exact ⟨_, rfl, .inl ⟨a, rfl⟩⟩
 ·exact ⟨_, rfl, .inr ⟨a, rfl⟩⟩
theorem many_o (d : RDim k n) (hs : st < n) (m1 : -4000000000000000000000000000000000000000000000000000000000 <= m) (m2 : m <= 4000000000000000000000000000000000000000000000000000000000) (bb : BB n S L G) (sp : zcF k n S L G lo hi) (hv : MV k n S lo hi v) (i : Nat) : Ok (za3 [oR k n st m S L G i]) fun x => x = .val (.int v) := by
 have n0 : 0 < n := by lia
 have ob := (o_bd d hs m1 m2 bb i).1
 have b0 : Bc 160 n S /\ Bc 160 n L /\ Bc 160 n G := ⟨bb.1.1.mono (by lia), bb.1.2.1.mono (by lia), bb.1.2.2.mono (by lia)⟩
 obtain ⟨lo', hi', sp', -⟩ := ziF (rA k n (oS k n st m S i) (oB n st m L G i)) (rA k n (oS k n st m S i) (oB n st m G L i)) d.g1 d.gn
 refine (many_v d ob sp').mono ?_
 rintro _ ⟨v', rfl, hv'⟩
 rw [zoA d sp sp' (zmb d b0.1 b0.2.1 b0.2.2 sp) (zlG d b0.1 b0.2.1 b0.2.2 sp) (zmb d ob.1 ob.2.1 ob.2.2 sp') (zlG d ob.1 ob.2.1 ob.2.2 sp') hv hv' (fun r => oB n st m r r i) (fun s => oY n st m s i) (fun r => oFits d hs i) (o_inj hs i) (o_cg n0 i) (o_sur hs i)]
theorem zmD (n : Nat) : ((List.range n).map fun _ => true).all id = true := by simp
theorem right_o (d : RDim k n) : Ok (zaX [zbn k n S L G]) fun x => ∃ y, x = .val y /\ Ok (zaP [zbn k n S L G, y]) fun x => x = .val (.bl true) := by
 obtain ⟨lo, hi, sp, -⟩ := ziF (rA k n S L) (rA k n S G) d.g1 d.gn
 exact (ziC d sp).mono fun x ⟨y, e, f⟩ => ⟨y, e, zme d sp f⟩
theorem math (ns : List Int) (hl : ns.length <= 63) : zkY [.scr ns] = some (.val (.bl true)) := by
 have : Ok (zkY [.scr ns]) fun r => r = .val (.bl true) := by
  have ct : cutD ns none (some 4) = ns.take 4 := zky ns 4
  have len : (ns.take 4).length <= 4 := by rw [List.length_take]; lia
  simp! only [↓zkY, ↓m_law, ↓zk7, ct]
  refine ⟨by lia, ?_⟩
  rw [show (ns.take 4).map D.int ++ [D.int 0] = (ns.take 4 ++ [0]).map D.int by simp]
  refine ok_for (enc := D.int) (l := ns.take 4 ++ [0]) (fun _ ρ => ∃ s1 s2 s3 s4 s5 s6 s7 s8 s9 s10, ρ = [.val (.scr ns), s1, s2, s3, s4, s5, s6, s7, s8, s9, s10]) ⟨_, _, _, _, _, _, _, _, _, _, rfl⟩ ?_ ?_
  ·rintro i c _ _ ⟨s1, s2, s3, s4, s5, s6, s7, s8, s9, s10, rfl⟩
   simp! only [↓zlw]
   refine (deal_ok c).mono ?_
   rintro _ ⟨d1, h1, rfl⟩
   simp! only []
   refine (ring_ok h1).mono ?_
   rintro _ ⟨k, n, S, L, G, d2, d, h2, bb, rfl⟩
   have n0 : 0 < n := by have := d.k2; have := d.kn; lia
   have n24 := d.n24
   simp! only []
   refine (zbt h2 (m := (n : Int)) (by lia) (by lia)).mono ?_
   rintro _ ⟨st, d3, hst, h3, rfl⟩
   have hst : st < n := by lia
   simp! only []
   refine (zbt h3 (m := 9) (by lia) (by lia)).mono ?_
   rintro _ ⟨t9, d4, h9, h4, rfl⟩
   simp! only []
   refine (zbt h4 (m := 2) (by lia) (by lia)).mono ?_
   rintro _ ⟨u, d5, hu, h5, rfl⟩
   have hu' : ∃ z : Int, (z = 1 \/ z = 1000000000000000000000000000000000000000000000000000000000) /\ [D.int 1, D.int 1000000000000000000000000000000000000000000000000000000000][u]? = some (.int z) := by
    have : u = 0 \/ u = 1 := by lia
    rcases this with rfl | rfl
    ·exact ⟨_, .inl rfl, rfl⟩
    ·exact ⟨_, .inr rfl, rfl⟩
   obtain ⟨z, hz, ez⟩ := hu'
   have hm : -4000000000000000000000000000000000000000000000000000000000 <= ((t9 : Int) - 4) * z /\ ((t9 : Int) - 4) * z <= 4000000000000000000000000000000000000000000000000000000000 := by rcases hz with rfl | rfl <;> lia
   simp! only [ez]
   refine ⟨zcD (by lia), ?_⟩
   generalize ((t9 : Int) - 4) * z = m at hm
   refine (zn4 d hst hm.1 hm.2 bb).mono ?_
   rintro _ rfl
   obtain ⟨lo, hi, sp, -⟩ := ziF (rA k n S L) (rA k n S G) d.g1 d.gn
   have b0 : Bc 160 n S /\ Bc 160 n L /\ Bc 160 n G := ⟨bb.1.1.mono (by lia), bb.1.2.1.mono (by lia), bb.1.2.2.mono (by lia)⟩
   simp! only []
   refine (many_v d b0 sp).mono ?_
   rintro _ ⟨v, rfl, hv⟩
   simp! only []
   refine (ziC d sp).mono ?_
   rintro _ ⟨y, rfl, fy⟩
   simp! only [↓zm0]
   refine zaw (fun ρ => ∃ s, ρ = [s]) (fun _ => .int v) ⟨_, rfl⟩ ?_ ?_
   ·rintro j _ hj ⟨s, rfl⟩
    simp! only [↓zml]
    refine (many_o d hst hm.1 hm.2 bb sp hv j).mono ?_
    rintro _ rfl
    simp! only []
    exact ⟨_, rfl⟩
   rintro _ ⟨_, rfl⟩
   have e4 : ([[D.int v], [D.int v], [D.int v], [D.int v]] : List (List D)).flatten = wL 4 fun _ => D.int v := rfl
   simp! only [e4, (pl_lst (pl_w (n := 4) fun _ => zls 0 v)).ne (show 1 <= 50 by decide)]
   refine ⟨by decide, ?_⟩
   refine (zme d sp fy).mono ?_
   rintro _ rfl
   simp! only [↓zmx, ↓zmI]
   refine zaw (fun ρ => ∃ s, ρ = [s]) (fun _ => .bl true) ⟨_, rfl⟩ ?_ ?_
   ·rintro j _ hj ⟨s, rfl⟩
    simp! only [↓zms]
    refine (right_o d).mono ?_
    rintro _ ⟨y', rfl, hy'⟩
    simp! only []
    refine hy'.mono ?_
    rintro _ rfl
    simp! only []
    exact ⟨_, rfl⟩
   rintro _ ⟨_, rfl⟩
   simp! only [zdF, zmD, ↓zmm]
   refine ⟨fun pos => ?_, fun _ => ⟨_, _, _, _, _, _, _, _, _, _, rfl⟩⟩
   rcases hv with ⟨ok, ev⟩ | ⟨_, ev⟩
   case inr => lia
   obtain ⟨h, q1, q2⟩ := hc_ex (lo := lo) (hi := hi) (Nat.gcd k n) 0 (tT k n S) (by lia)
   refine (zbt h5 (m := 1000000000000000000) (by lia) (by lia)).mono ?_
   rintro _ ⟨a, d6, ha, h6, rfl⟩
   simp! only []
   have a0 : 0 <= (a : Int) % v := Int.emod_nonneg _ (by lia)
   have a1 : (a : Int) % v < v := Int.emod_lt_of_pos _ pos
   refine ⟨by lia, ?_⟩
   refine (at_ok d sp ok (zmb d b0.1 b0.2.1 b0.2.2 sp) (zlG d b0.1 b0.2.1 b0.2.2 sp) a0 (by lia)).mono ?_
   rintro _ ⟨h', q1', q2', -, rfl⟩
   have fr := zj1 d ok sp q1' q2'
   generalize (fun p => h' (p % Nat.gcd k n) + rM k n S p) = r at fr
   simp! only []
   refine (zf3 hst n24 r).mono ?_
   rintro _ rfl
   simp! only [↓zmF]
   refine ⟨by lia, zaw (fun ρ => ∃ s, ρ = [.val (.int m), s]) (fun p => .int (r p + m)) ⟨_, rfl⟩ ?_ ?_⟩
   ·rintro p _ hp ⟨s, rfl⟩
    simp! only [↓zmQ]
    exact ⟨_, rfl⟩
   rintro _ ⟨_, rfl⟩
   simp! only [↓zmN]
   refine ⟨by lia, zaw (fun ρ => ∃ s, ρ = [s]) (fun p => .int (0 - r p)) ⟨_, rfl⟩ ?_ ?_⟩
   ·rintro p _ hp ⟨s, rfl⟩
    simp! only [↓zmt]
    exact ⟨_, rfl⟩
   rintro _ ⟨_, rfl⟩
   rw [show (wI n r).reverse = wI n fun p => r (n - 1 - p) from rev_w n _]
   simp! only [↓zmH]
   have e5 : [D.lst (wI n fun p => r ((p + st) % n)), D.lst (wI n fun p => r (n - 1 - p)), D.lst (wL n fun p => D.int (r p + m)), D.lst (wL n fun p => D.int (0 - r p))] = wL 4 fun i => D.lst (wI n (oB n st m r r i)) := rfl
   rw [e5, zlS]
   refine ⟨by rw [zaE]; decide, zaw (fun ρ => ∃ s s', ρ = [s, s']) (fun _ => .bl true) ⟨_, _, rfl⟩ ?_ ?_⟩
   ·rintro j _ hj ⟨s, s', rfl⟩
    simp! only [↓zmG]
    refine (ziT d (Sq.lst n _)).mono ?_
    rintro _ ⟨b, rfl, hb⟩
    have hb := hb.mpr ((oFits d hst j).mpr fr)
    subst hb
    simp! only []
    exact ⟨_, _, rfl⟩
   rintro _ ⟨_, _, rfl⟩
   obtain ⟨lo', hi', sp', -⟩ := ziF (rA k n (oS k n st m S 2) (oB n st m L G 2)) (rA k n (oS k n st m S 2) (oB n st m G L 2)) d.g1 d.gn
   have ey := fit_is d sp fy fr
   subst ey
   simp! only [zdF, zmD, ↓zmq, zay _ (show 2 < 4 by decide)]
   refine (ziC d sp').mono ?_
   rintro _ ⟨y', rfl, fy'⟩
   have ey := fit_is d sp' fy' ((oFits d hst 2).mpr fr)
   subst ey
   rw [rR_plus d sp sp']
   simp! only [↓zmZ]
   refine ⟨by lia, zaw (fun ρ => ∃ s, ρ = [.val (.int m), s]) (fun p => .int (rR k n S lo hi p + m)) ⟨_, rfl⟩ ?_ ?_⟩
   ·rintro p _ hp ⟨s, rfl⟩
    simp! only [↓zmO]
    exact ⟨_, rfl⟩
   rintro _ ⟨_, rfl⟩
   simp! only [(pl_two "row" (zmW (pl_w (n := n) fun p => zls 0 (rR k n S lo hi p + m)))).ne (show 2 <= 50 by decide)]
   exact ⟨_, _, _, _, _, _, _, _, _, _, rfl⟩
  ·rintro _ ⟨s1, s2, s3, s4, s5, s6, s7, s8, s9, s10, rfl⟩
   simp! only []
 obtain ⟨_, e, rfl⟩ := this
 exact e
end
end Prf
noncomputable def PySem.W.Fast.tw13490518863628112905 : Nat := 0
noncomputable def PySem.W.Fast.tw15419669581303087925 : Nat := 0
noncomputable def PySem.W.Fast.tw1028817739304315772 : Nat := 0
noncomputable def PySem.W.Fast.tw14326873559278019963 : Nat := 0
noncomputable def PySem.W.Fast.tw9493213676354519015 : Nat := 0
noncomputable def PySem.W.Fast.tw7144465492416355959 : Nat := 0
noncomputable def PySem.W.Fast.tw3392054467775441578 : Nat := 0
noncomputable def PySem.W.Fast.tw430873637791042680 : Nat := 0
noncomputable def PySem.W.Fast.tw3815971001311623350 : Nat := 0
noncomputable def PySem.W.Fast.tw11712160804935882836 : Nat := 0
noncomputable def PySem.W.Fast.tw11890861584932944793 : Nat := 0
noncomputable def PySem.W.Fast.tw11129447468018630678 : Nat := 0
noncomputable def PySem.W.Fast.tw3100838567320675370 : Nat := 0
noncomputable def PySem.W.Fast.tw998996091364468705 : Nat := 0
noncomputable def PySem.W.Fast.tw16886923938575460034 : Nat := 0
noncomputable def PySem.W.Fast.tw11669221906509958309 : Nat := 0
noncomputable def PySem.W.Fast.tw5882915248070604958 : Nat := 0
noncomputable def PySem.W.Fast.tw8103223874886990822 : Nat := 0
noncomputable def PySem.W.Fast.tw13895758421936181880 : Nat := 0
noncomputable def PySem.W.Fast.tw344849070756586472 : Nat := 0
noncomputable def PySem.W.Fast.tw8613785833608781124 : Nat := 0
noncomputable def PySem.W.Fast.tw8466481278115684472 : Nat := 0
noncomputable def PySem.W.Fast.tw16949039271934890284 : Nat := 0
noncomputable def PySem.W.Fast.tw15749187474059382858 : Nat := 0
noncomputable def PySem.W.Fast.tw7828280174564534663 : Nat := 0
noncomputable def PySem.W.Fast.tw6024371708428302620 : Nat := 0
noncomputable def PySem.W.Fast.tw12720102589101208332 : Nat := 0
noncomputable def PySem.W.Fast.tw2968666075201410441 : Nat := 0
noncomputable def PySem.W.Fast.tw5168117297369710590 : Nat := 0
noncomputable def PySem.W.Fast.tw771805493339125053 : Nat := 0
noncomputable def PySem.W.Fast.tw11250543014916207348 : Nat := 0
noncomputable def PySem.W.Fast.tw5425749514449638154 : Nat := 0
noncomputable def PySem.W.Fast.tw5250966345003433714 : Nat := 0
noncomputable def PySem.W.Fast.tw15009298012686369668 : Nat := 0
noncomputable def PySem.W.Fast.tw12038922156093184082 : Nat := 0
noncomputable def PySem.W.Fast.tw12859127961388481229 : Nat := 0
noncomputable def PySem.W.Fast.tw11560312380892686405 : Nat := 0
noncomputable def PySem.W.Fast.tw4849146333724536223 : Nat := 0
noncomputable def PySem.W.Fast.tw4599686679679015191 : Nat := 0
noncomputable def PySem.W.Fast.tw2938784158763533652 : Nat := 0
noncomputable def PySem.W.Fast.tw16834598801262269063 : Nat := 0
noncomputable def PySem.W.Fast.tw18045718418861823695 : Nat := 0
noncomputable def PySem.W.Fast.tw7601957168168412191 : Nat := 0
noncomputable def PySem.W.Fast.tw12592031905361054339 : Nat := 0
noncomputable def PySem.W.Fast.tw9081609841496918970 : Nat := 0
noncomputable def PySem.W.Fast.tw9430861448251888196 : Nat := 0
noncomputable def PySem.W.Fast.tw12702678891722828491 : Nat := 0
noncomputable def PySem.W.Fast.tw11923264114943657662 : Nat := 0
noncomputable def PySem.W.Fast.tw17402940513822480993 : Nat := 0
noncomputable def PySem.W.Fast.tw1045913168280384495 : Nat := 0
noncomputable def PySem.W.Fast.tw11759702554598781748 : Nat := 0
noncomputable def PySem.W.Fast.tw888575769932891487 : Nat := 0
noncomputable def PySem.W.Fast.tw13989907029952784513 : Nat := 0
noncomputable def PySem.W.Fast.tw1385367687808816302 : Nat := 0
noncomputable def PySem.W.Fast.tw4385751721279568553 : Nat := 0
noncomputable def PySem.W.Fast.tw3043113845696364016 : Nat := 0
noncomputable def PySem.W.Fast.tw6392239895135619853 : Nat := 0
noncomputable def PySem.W.Fast.tw13133152686054998786 : Nat := 0
noncomputable def PySem.W.Fast.tw5400778285481294937 : Nat := 0
noncomputable def PySem.W.Fast.tw11517271769749598075 : Nat := 0
noncomputable def PySem.W.Fast.tw3321781531086929687 : Nat := 0
noncomputable def PySem.W.Fast.tw17164854703689903279 : Nat := 0
noncomputable def PySem.W.Fast.tw9853618506558143225 : Nat := 0
noncomputable def PySem.W.Fast.tw2486947920418460470 : Nat := 0
noncomputable def PySem.W.Fast.tw15620801755143968035 : Nat := 0
noncomputable def PySem.W.Fast.tw17373213075021064416 : Nat := 0
noncomputable def PySem.W.Fast.tw17281988308610449438 : Nat := 0
noncomputable def PySem.W.Fast.tw4852136562127812731 : Nat := 0
noncomputable def PySem.W.Fast.tw13730650900410766295 : Nat := 0
noncomputable def PySem.W.Fast.tw4110717202170066006 : Nat := 0
noncomputable def PySem.W.Fast.tw6516759434217560506 : Nat := 0
noncomputable def PySem.W.Fast.tw17792336341250867236 : Nat := 0
noncomputable def PySem.W.Fast.tw9254679865185343825 : Nat := 0
noncomputable def PySem.W.Fast.tw12746079943670699560 : Nat := 0
noncomputable def PySem.W.Fast.tw10196658718800697132 : Nat := 0
noncomputable def PySem.W.Fast.tw1196605573006858203 : Nat := 0
noncomputable def PySem.W.Fast.tw7550460745061873995 : Nat := 0
noncomputable def PySem.W.Fast.tw11783448757534391989 : Nat := 0
noncomputable def PySem.W.Fast.tw2529123059774165197 : Nat := 0
noncomputable def PySem.W.Fast.tw9499370702443039275 : Nat := 0
noncomputable def PySem.W.Fast.tw8916161432162097348 : Nat := 0
noncomputable def PySem.W.Fast.tw4910933836274099690 : Nat := 0
noncomputable def PySem.W.Fast.tw7634507199619249094 : Nat := 0
noncomputable def PySem.W.Fast.tw108571505459145575 : Nat := 0
noncomputable def PySem.W.Fast.tw17229516842496351599 : Nat := 0
noncomputable def PySem.W.Fast.tw7590684610386282607 : Nat := 0
noncomputable def PySem.W.Fast.tw10094808715321931339 : Nat := 0
noncomputable def PySem.W.Fast.tw16246855071281230316 : Nat := 0
noncomputable def PySem.W.Fast.tw8142512921067184411 : Nat := 0
noncomputable def PySem.W.Fast.tw244633986885488020 : Nat := 0
noncomputable def PySem.W.Fast.tw7061589573985894823 : Nat := 0
noncomputable def PySem.W.Fast.tw17899208735004754491 : Nat := 0
noncomputable def PySem.W.Fast.tw8770522602853512472 : Nat := 0
noncomputable def PySem.W.Fast.tw11893971340142384049 : Nat := 0
noncomputable def PySem.W.Fast.tw5368555442527652443 : Nat := 0
noncomputable def PySem.W.Fast.tw3831468560137106217 : Nat := 0
noncomputable def PySem.W.Fast.tw7350497237729855544 : Nat := 0
noncomputable def PySem.W.Fast.tw16319564177217065693 : Nat := 0
noncomputable def PySem.W.Fast.tw7813605928186741673 : Nat := 0
noncomputable def PySem.W.Fast.tw16780389756750562877 : Nat := 0
noncomputable def PySem.W.Fast.tw16828981337633199761 : Nat := 0
noncomputable def PySem.W.Fast.tw11171046176453741577 : Nat := 0
noncomputable def PySem.W.Fast.tw13055635006209129962 : Nat := 0
noncomputable def PySem.W.Fast.tw12305892632068834283 : Nat := 0
noncomputable def PySem.W.Fast.tw15051289554666935840 : Nat := 0
noncomputable def PySem.W.Fast.tw17571113919814831429 : Nat := 0
noncomputable def PySem.W.Fast.tw6254287888839182709 : Nat := 0
noncomputable def PySem.W.Fast.tw8651366863265299903 : Nat := 0
noncomputable def PySem.W.Fast.tw17922309889092386498 : Nat := 0
noncomputable def PySem.W.Fast.tw7916820529572299448 : Nat := 0
noncomputable def PySem.W.Fast.tw9201601725317185417 : Nat := 0
noncomputable def PySem.W.Fast.tw4413671751819799827 : Nat := 0
noncomputable def PySem.W.Fast.tw3217603637936057879 : Nat := 0
noncomputable def PySem.W.Fast.tw7766106283344430288 : Nat := 0
noncomputable def PySem.W.Fast.tw11335202946371735367 : Nat := 0
noncomputable def PySem.W.Fast.tw8174471124728882445 : Nat := 0
noncomputable def PySem.W.Fast.tw18181169269923400644 : Nat := 0
noncomputable def PySem.W.Fast.tw2214145650089601374 : Nat := 0
noncomputable def PySem.W.Fast.tw9393770796635183731 : Nat := 0
noncomputable def PySem.W.Fast.tw16911987211043348171 : Nat := 0
noncomputable def PySem.W.Fast.tw12529552883972109704 : Nat := 0
noncomputable def PySem.W.Fast.tw2068020692631734762 : Nat := 0
noncomputable def PySem.W.Fast.tw3132577033843601581 : Nat := 0
noncomputable def PySem.W.Fast.tw16618276796617213933 : Nat := 0
noncomputable def PySem.W.Fast.tw2076433383311021251 : Nat := 0
noncomputable def PySem.W.Fast.tw1965378602533803164 : Nat := 0
noncomputable def PySem.W.Fast.tw18368753984957703146 : Nat := 0
noncomputable def PySem.W.Fast.tw62184219943939854 : Nat := 0
noncomputable def PySem.W.Fast.tw10924429638077656011 : Nat := 0
noncomputable def PySem.W.Fast.tw16770085468552501812 : Nat := 0
noncomputable def PySem.W.Fast.tw11038019804489359096 : Nat := 0
noncomputable def PySem.W.Fast.tw9856416523179032418 : Nat := 0
noncomputable def PySem.W.Fast.tw14703819308594064009 : Nat := 0
noncomputable def PySem.W.Fast.tw4152565740796629128 : Nat := 0
noncomputable def PySem.W.Fast.tw16957253237937148505 : Nat := 0
noncomputable def PySem.W.Fast.tw12444877555852058893 : Nat := 0
noncomputable def PySem.W.Fast.tw1275941095145629047 : Nat := 0
noncomputable def PySem.W.Fast.tw5228720252661906178 : Nat := 0
noncomputable def PySem.W.Fast.tw12579647027392754067 : Nat := 0
noncomputable def PySem.W.Fast.tw2954104066242836908 : Nat := 0
noncomputable def PySem.W.Fast.tw18160623279112547939 : Nat := 0
noncomputable def PySem.W.Fast.tw9929424965385214826 : Nat := 0
noncomputable def PySem.W.Fast.tw17301043842620907120 : Nat := 0
noncomputable def PySem.W.Fast.tw5327101427772061650 : Nat := 0
noncomputable def PySem.W.Fast.tw17223586108472326663 : Nat := 0
noncomputable def PySem.W.Fast.tw9705149500282581790 : Nat := 0
noncomputable def PySem.W.Fast.tw6956531078016853245 : Nat := 0
noncomputable def PySem.W.Fast.tw1934028687687077711 : Nat := 0
noncomputable def PySem.W.Fast.tw18280604826885296718 : Nat := 0
noncomputable def PySem.W.Fast.tw17388301297434700749 : Nat := 0
noncomputable def PySem.W.Fast.tw7867707639384897283 : Nat := 0
noncomputable def PySem.W.Fast.tw14497244467601615778 : Nat := 0
noncomputable def PySem.W.Fast.tw16758901513532627242 : Nat := 0
noncomputable def PySem.W.Fast.tw620128190511487112 : Nat := 0
noncomputable def PySem.W.Fast.tw5409032527416865448 : Nat := 0
noncomputable def PySem.W.Fast.tw17339621581822848696 : Nat := 0
noncomputable def PySem.W.Fast.tw7126081479322296224 : Nat := 0
noncomputable def PySem.W.Fast.tw16179157546855301368 : Nat := 0
noncomputable def PySem.W.Fast.tw5261398340766319622 : Nat := 0
noncomputable def PySem.W.Fast.tw3560711859789417449 : Nat := 0
noncomputable def PySem.W.Fast.tw15151693167760104043 : Nat := 0
noncomputable def PySem.W.Fast.tw11767439900000204510 : Nat := 0
noncomputable def PySem.W.Fast.tw13236912604936036066 : Nat := 0
noncomputable def PySem.W.Fast.tw7531232896982819116 : Nat := 0
noncomputable def PySem.W.Fast.tw12572421901149672209 : Nat := 0
noncomputable def PySem.W.Fast.tw15016757491499116060 : Nat := 0
noncomputable def PySem.W.Fast.tw6427200919172501910 : Nat := 0
noncomputable def PySem.W.Fast.tw12143860387493356763 : Nat := 0
noncomputable def PySem.W.Fast.tw14515652151792809502 : Nat := 0
noncomputable def PySem.W.Fast.tw9079119339018370160 : Nat := 0
noncomputable def PySem.W.Fast.tw15772481911377397754 : Nat := 0
noncomputable def PySem.W.Fast.tw15759350642703652607 : Nat := 0
noncomputable def PySem.W.Fast.tw4025990665551611477 : Nat := 0
noncomputable def PySem.W.Fast.tw1892814571684302724 : Nat := 0
noncomputable def PySem.W.Fast.tw12773309726372894579 : Nat := 0
noncomputable def PySem.W.Fast.tw9325279290225246769 : Nat := 0
noncomputable def PySem.W.Fast.tw5031437029607215603 : Nat := 0
noncomputable def PySem.W.Fast.tw3013335921242767628 : Nat := 0
noncomputable def PySem.W.Fast.tw12877208482820560812 : Nat := 0
noncomputable def PySem.W.Fast.tw11068193809140897106 : Nat := 0
noncomputable def PySem.W.Fast.tw12823183617958395048 : Nat := 0
noncomputable def PySem.W.Fast.tw2651325258811965123 : Nat := 0
noncomputable def PySem.W.Fast.tw11061298870328622693 : Nat := 0
noncomputable def PySem.W.Fast.tw3743699902594652619 : Nat := 0
noncomputable def PySem.W.Fast.tw120118981548428634 : Nat := 0
noncomputable def PySem.W.Fast.tw3370211129619701948 : Nat := 0
noncomputable def PySem.W.Fast.tw11819212506285757828 : Nat := 0
noncomputable def PySem.W.Fast.tw7545412720012267299 : Nat := 0
noncomputable def PySem.W.Fast.tw4614430029503544170 : Nat := 0
noncomputable def PySem.W.Fast.tw13888301894883503728 : Nat := 0
noncomputable def PySem.W.Fast.tw17479898341311435596 : Nat := 0
noncomputable def PySem.W.Fast.tw9312219022235888546 : Nat := 0
noncomputable def PySem.W.Fast.tw17260706975817864603 : Nat := 0
noncomputable def PySem.W.Fast.tw3197713013030169104 : Nat := 0
noncomputable def PySem.W.Fast.tw1221911299621425600 : Nat := 0
noncomputable def PySem.W.Fast.tw14516814364758660952 : Nat := 0
noncomputable def PySem.W.Fast.tw2994755048073939096 : Nat := 0
noncomputable def PySem.W.Fast.tw3160809439349069137 : Nat := 0
noncomputable def PySem.W.Fast.tw10620851485495145862 : Nat := 0
noncomputable def PySem.W.Fast.tw5406444933267344694 : Nat := 0
noncomputable def PySem.W.Fast.tw16644249923715788006 : Nat := 0
noncomputable def PySem.W.Fast.tw3557616640386616531 : Nat := 0
noncomputable def PySem.W.Fast.tw9613448566649564745 : Nat := 0
noncomputable def PySem.W.Fast.tw8533731934657023518 : Nat := 0
noncomputable def PySem.W.Fast.tw17212693688597820371 : Nat := 0
noncomputable def PySem.W.Fast.tw9993759482825751555 : Nat := 0
open PyProof.Rows PySem PySem.W
set_option maxRecDepth 100000 in
set_option maxHeartbeats 0 in
theorem PySem.Challenge.cw_tellsum_k35_whole_rings_turned_holds : PySem.Challenge.rw_tellsum_k35_whole_rings_turned.Holds := by
  w_on; o_law; k_head; (case hw => w_witness2)
  k_fill
  refine Prf.walk (l := PySem.Challenge.rw_tellsum_k35_whole_rings_turned) rfl rfl Prf.math (fun w h Y => W.kIn_of Y) ?F
  case F =>
    intro w mg fa h KX G hmg
    refine' Prf.all_mk KX G hmg ?h1 ?h2 ?h3 ?h4 ?h5 ?h6 ?h7 ?h8 ?h9 ?h10 ?h11 ?h12 ?h13 ?h14 ?h15 ?h16 ?h17 ?h18 ?h19 ?h20 ?h21 ?h22 ?h23 ?h24 ?h25 ?h26 ?h27 ?h28 ?h29 ?h30 ?h31 ?h32 ?h33 ?h34 ?h35 ?h36 ?h37 ?h38 ?h39 ?h40 ?h41 ?h42 ?h43 ?h44 ?h45 ?h46 ?h47 ?h48 ?h49 ?h50 ?h51 ?z0 ?z1 ?z2 ?z3 ?z4 ?z5 ?z6 ?z7 ?z8 ?z9 ?z10 ?z11 ?y0
    (case h1 | h2 | h3 | h4 | h5 | h6 | h7 | h8 | h9 | h10 | h11 | h12 | h13 | h14 | h15 | h16 | h17 | h18 | h19 | h20 | h21 | h22 | h23 | h24 | h25 | h26 | h27 | h28 | h29 | h30 | h31 | h32 | h33 | h34 | h35 | h36 | h37 | h38 | h39 | h40 | h41 | h42 | h43 | h44 | h45 | h46 | h47 | h48 | h49 | h50 | h51 =>
      refine' M.FnAt.mk ?a ?l ?c ?k
      (case a => k_is)
      (case l => k_is)
      (case c => k_is)
      (case k => k_is))
    (case z0 | z1 | z2 | z3 | z4 | z5 | z6 | z7 | z8 | z9 | z10 | z11 | y0 => k_is)
end
