import PyProof.Rows.All
import Wide.All
import OpenK.AllK
import Wide.FinOn
import Lean
import PyProof.EqAt
import PyProof.EqKinds
import PyProof.TupleCall
import PyProof.Rows.Range3
import PyProof.ZipIter
import PyProof.Draws
import PyProof.EnumMake
import PyProof.Rows.FactsTup
import PyProof.LayNew
import PyProof.Rows.SeqMore2
import PyProof.Rows.RuleIs
import KE.KRevIter
import PyProof.P3In
import KE.KSortTup
import PyProof.Rows.SortWalk
import PySem.Challenge.RW_tellsum_k73_far_rows_judged
set_option Elab.async false
set_option linter.all false
set_option bootstrap.genMatcherCode false
set_option compiler.extract_closed false
set_option maxRecDepth 100000
noncomputable section
namespace L2
open PyProof.Rows PySem PySem.Spec
variable {xs vs : List V} {us its : List Value} {x qual : Str} {u cd : Value} {H : Hp} {a b it dx : Addr} {o : Obj} {w : World} {h base : Heap} {g' : Array GenState} {t' i j k n : Nat} {d' : Drawn} {ch fp : List Addr} {e c tg : Expr} {pins' pins pl : List (Addr × Obj)} {N ps : List Str} {A : Around} {E : Value -> Shared -> Prop} {v : V} {Q : Unit -> Shared -> Prop} {X : Cx} {t : TSet} {s s' : Shared} {pos : Pos} {σ : St} {K : W.Frag} {f : Value -> Value -> Sem Value} {tc : TT} {es : List Expr} {te : TE} {g : Int -> Int -> Int} {body : List Stmt} {tb : TS} {p : Addr × Obj} {op op' : CmpOp} {r : V -> Hp -> VK -> Prop} {C : Int -> Int -> Prop} {mA mg : Str -> Option Value} {fd : FuncData} {kindOf : Str -> Option NameKind} {sc scope : Scope} {CX : CXT} {outer : List Env} {params : Arguments}
noncomputable abbrev Key := Sum Int Str
noncomputable def zly : Key -> Value -> Bool
 | .inl k, v => Value.isInt k v
 | .inr x, v => Value.isStrOf x v
noncomputable def keyH (w : World) : Key -> Int
 | .inl k => hashInt k
 | .inr x => hashStr w x
theorem zbb : ∀ {k : Key} {v : Value}, zly k v = true -> (∃ i t, k = Sum.inl i /\ v = Value.int i t) \/ (∃ x t, k = Sum.inr x /\ v = Value.str x t)
 | .inl i, v, h => by
  obtain ⟨t, e⟩ := Value.isInt_shape (k := i) (v := v) h
  exact .inl ⟨i, t, rfl, e⟩
 | .inr x, v, h => by
  obtain ⟨t, e⟩ := Value.isStrOf_shape (x := x) (v := v) h
  exact .inr ⟨x, t, rfl, e⟩
theorem zm2 (i : Int) (t : Tok) : zly (.inl i) (.int i t) = true := by simp [zly, Value.isInt]
theorem zm5 (x : Str) (t : Tok) : zly (.inr x) (.str x t) = true := by simp [zly, Value.isStrOf]
theorem key_ll (a b : Int) : decide ((Sum.inl a : Key) = Sum.inl b) = (a == b) := by
 by_cases e : a = b
 ·subst e; simp
 ·have h : ¬ (Sum.inl a : Key) = Sum.inl b := fun q => e (Sum.inl.inj q)
  rw [decide_eq_false h]
  exact (beq_eq_false_iff_ne.mpr e).symm
theorem key_rr (a b : Str) : decide ((Sum.inr a : Key) = Sum.inr b) = decide (a = b) := by
 by_cases e : a = b
 ·subst e; simp
 ·have h : ¬ (Sum.inr a : Key) = Sum.inr b := fun q => e (Sum.inr.inj q)
  rw [decide_eq_false h, decide_eq_false e]
theorem key_lr (a : Int) (b : Str) : decide ((Sum.inl a : Key) = Sum.inr b) = false := decide_eq_false (fun q => nomatch q)
theorem key_rl (a : Str) (b : Int) : decide ((Sum.inr a : Key) = Sum.inl b) = false := decide_eq_false (fun q => nomatch q)
noncomputable def zbO (prog : Program) (w : World) : PySem.KeyKind prog w Key where
 is := zly
 hash := keyH w
 inj := fun v a b ha hb => by
  rcases zbb ha with ⟨i, t, rfl, rfl⟩ | ⟨x, t, rfl, rfl⟩
  ·rcases zbb hb with ⟨j, u, rfl, e⟩ | ⟨y, u, rfl, e⟩
   ·injection e with e1 _; rw [e1]
   ·exact nomatch e
  ·rcases zbb hb with ⟨j, u, rfl, e⟩ | ⟨y, u, rfl, e⟩
   ·exact nomatch e
   ·injection e with e1 _; rw [e1]
 byValue := fun k v h => by
  rcases zbb h with ⟨i, t, rfl, rfl⟩ | ⟨x, t, rfl, rfl⟩ <;> rfl
 pyHash := fun hv h => by
  rcases zbb hv with ⟨i, t, rfl, rfl⟩ | ⟨x, t, rfl, rfl⟩
  ·exact wpAny_pyHash_int h
  ·exact wpAny_pyHash_str h
 eqBool := fun hu hv h => by
  rcases zbb hu with ⟨i, t, rfl, rfl⟩ | ⟨x, t, rfl, rfl⟩
  ·rcases zbb hv with ⟨j, u, rfl, rfl⟩ | ⟨y, u, rfl, rfl⟩
   ·rw [key_ll] at h; exact wpAny_eqBool_int h
   ·rw [key_lr] at h; exact SeqAt.EqAt.int_str i t y u _ _ _ _ h
  ·rcases zbb hv with ⟨j, u, rfl, rfl⟩ | ⟨y, u, rfl, rfl⟩
   ·rw [key_rl] at h; exact SeqAt.EqAt.str_int x t j u _ _ _ _ h
   ·rw [key_rr] at h; exact wpAny_eqBool_str h
 «strs» := fun k x t v h => by
  rcases zbb h with ⟨i, u, rfl, e⟩ | ⟨y, u, rfl, e⟩
  ·exact nomatch e
  ·injection e with e1 _
   subst e1
   cases v <;> rfl
theorem zkm (prog : Program) (w : World) (i : Int) (t : Tok) : (zbO prog w).is (.inl i) (.int i t) = true := zm2 i t
theorem zj6 (prog : Program) (w : World) (x : Str) (t : Tok) : (zbO prog w).is (.inr x) (.str x t) = true := zm5 x t
inductive V where
 | non | bl (b : Bool) | int (i : Int) | str (x : Str) | byt (b : Array UInt8) | flt (b : UInt64) | ref (a : Addr) | ty (n : String)
 deriving DecidableEq
noncomputable def RelV : V -> Value -> Prop
 | .non, u => u = Value.none
 | .bl b, u => u = Value.bool b
 | .int i, u => ∃ t, u = Value.int i t
 | .str x, u => ∃ t, u = Value.str x t
 | .byt b, u => ∃ t, u = Value.bytes b t
 | .flt b, u => ∃ t, u = Value.float b t
 | .ref a, u => u = Value.ref a
 | .ty n, u => u = Value.type n
noncomputable abbrev Vals : List V -> List Value -> Prop := Paired RelV
theorem Vals.length (r : Vals xs us) : xs.length = us.length := Paired.length r
theorem Vals.get : ∀ {xs : List V} {us : List Value} {i : Nat} {x : V}, Vals xs us -> xs[i]? = some x -> ∃ u, us[i]? = some u /\ RelV x u
 | _, _, _, _, .nil, e => by simp at e
 | _, _, 0, _, .cons r _, e => by simp at e; subst e; exact ⟨_, rfl, r⟩
 | _, _, i + 1, x, .cons _ t, e => by
  obtain ⟨u, h1, h2⟩ := Vals.get (i := i) (x := x) t (by simpa using e)
  exact ⟨u, by simpa using h1, h2⟩
theorem Vals.set {x : V} (r : RelV x u) : ∀ {xs : List V} {us : List Value} (i : Nat), Vals xs us -> Vals (xs.set i x) (us.set i u)
 | _, _, _, .nil => .nil
 | _, _, 0, .cons _ t => .cons r t
 | _, _, i + 1, .cons q t => .cons q (Vals.set r i t)
theorem Vals.append : ∀ {xs ys : List V} {us ws : List Value}, Vals xs us -> Vals ys ws -> Vals (xs ++ ys) (us ++ ws)
 | _, _, _, _, .nil, s => s
 | _, _, _, _, .cons r t, s => .cons r (Vals.append t s)
theorem Vals.take : ∀ {xs : List V} {us : List Value} (n : Nat), Vals xs us -> Vals (xs.take n) (us.take n)
 | _, _, 0, _ => .nil
 | _, _, _ + 1, .nil => .nil
 | _, _, n + 1, .cons r t => .cons r (Vals.take n t)
theorem Vals.drop : ∀ {xs : List V} {us : List Value} (n : Nat), Vals xs us -> Vals (xs.drop n) (us.drop n)
 | _, _, 0, r => r
 | _, _, _ + 1, .nil => .nil
 | _, _, n + 1, .cons _ t => Vals.drop n t
noncomputable def RelO : Option V -> Option Value -> Prop
 | some v, some u => RelV v u
 | none, none => True
 | _, _ => False
noncomputable def KV {κ : Type} : List (κ × V) -> List (κ × Value) -> Prop := Paired fun (p : κ × V) (q : κ × Value) => p.1 = q.1 /\ RelV p.2 q.2
noncomputable def kV : Key -> V
 | .inl i => .int i
 | .inr x => .str x
inductive HO where
 /-- a list -/
 | lst (xs : List V)
 /-- a tuple (never changes) -/
 | tup (xs : List V)
 /-- a dict whose keys are ints and texts; one whose keys are tuples of ints and texts (the empty one is both) -/
 | dK (kvs : List (Key × V)) | dT (kvs : List (List Key × V))
 /-- a set of ints: its members, its size -/
 | set (S : Int -> Bool) (n : Nat)
 /-- an instance of the class at C, its dict at dx, its attributes -/
 | ins (C dx : Addr) (fs : List (Str × V))
 /-- the dict of the instance at x -/
 | own (x : Addr)
 /-- the dict of an exception -/
 | xd (fs : List (Str × V))
 /-- a bound method, f of x -/
 | met (f x : Addr)
 /-- a range object lo, lo + 1, .. below hi -/
 | rng (lo hi : Int)
 /-- a thing that is known to the object (the script; a dict while a loop walks it): read, never written while it is so -/
 | frz (o : Obj) (u : HO)
 /-- a code object's table -/
 | tbl (ps : Array Value)
 /-- any other thing, by what is true of its one object (a def of one's own: SetO a S n := HO.ext fun h => ..) -/
 | ext (φ : Heap -> Prop)
noncomputable abbrev Hp := Addr -> Option HO
noncomputable def upd (H : Hp) (a : Addr) (o : HO) : Hp := fun b => if b = a then some o else H b
theorem zaO {o : HO} : upd H a o a = some o := by unfold upd; rw [if_pos rfl]
theorem zay {o : HO} (h : b ≠ a) : upd H a o b = H b := by unfold upd; rw [if_neg h]
theorem zaP {o : HO} (h : H a = some o) (h' : H b = none) : a ≠ b := by
 intro e; subst e; rw [h] at h'; cases h'
section
variable (P : Program) (w : World)
noncomputable def ObjOk (H : Hp) (h : Heap) (a : Addr) : HO -> Prop
 | .lst xs => xs.length <= sizeLine /\ ∃ (its : List Value) (n : Nat), Vals xs its /\ h.get? a = some { cls := .type "list", data := .seq its.toArray n }
 | .tup xs => xs.length <= sizeLine /\ ∃ its : List Value, Vals xs its /\ IsTup h a its.toArray
 | .dK kvs => kvs.length <= sizeLine /\ (a == sysModules) = false /\ ∃ vs, KV kvs vs /\ h.DictOf (zbO P w) a vs
 | .dT kvs => kvs.length <= sizeLine /\ (a == sysModules) = false /\ ∃ xs : List (List Key × Addr × Value),
   Paired (fun (p : List Key × V) (q : List Key × Addr × Value) => p.1 = q.1 /\ H q.2.1 = some (.tup (p.1.map kV)) /\ RelV p.2 q.2.2) kvs xs /\
   ∃ o es ep, h.get? a = some o /\ o.ExactDict /\ o.data = .dict es ep /\ es.toList = xs.map (entryOfKey (tupleKind (zbO P w))) /\ (xs.map (·.1)).Nodup
 | .set S n => h.SetOf (intKind P w) a S n
 | .ins C dx fs => H dx = some (.own a) /\ fs.length <= 1000 /\ dx ≠ a /\ h.get? a = some (W.instObj C dx) /\
   ∃ mA, h.Ns1 dx mA /\ (∀ f, RelO (fs.lookup f) (mA f)) /\ PySem.Within mA (fs.map (·.1))
 | .own _ => ∃ o, h.get? a = some o
 | .xd fs => ∃ mA, h.Ns1 a mA /\ ∀ f, RelO (fs.lookup f) (mA f)
 | .rng lo hi => ∃ t u v, h.get? a = some { cls := .type "range", data := .fields #[.int lo t, .int hi u, .int 1 v] }
 | .frz o u => h.get? a = some o /\ ObjOk H h a u
 | .tbl ps => h.get? a = some { cls := .none, data := .fields ps }
 | .met f x => h.get? a = some (W.methodObj (.ref f) (.ref x))
 | .ext φ => φ h /\ (∃ o, h.get? a = some o) /\ ∀ h1 h2 : Heap, φ h1 -> (∀ o, h1.get? a = some o -> h2.get? a = some o) -> φ h2
noncomputable def HOk (H : Hp) (h : Heap) : Prop := ∀ a o, H a = some o -> ObjOk P w H h a o
end
section
variable {P : Program} {w : World} {H H' : Hp} {h h' : Heap} {a : Addr} {o : HO}
theorem ObjOk.lt (x : ObjOk P w H h a o) : a < h.objs.size := by
 cases o with
 | lst xs => obtain ⟨_, _, _, _, e⟩ := x; exact Heap.lt_size e
 | tup xs => obtain ⟨_, _, _, p⟩ := x; exact p.lt
 | dK kvs => obtain ⟨_, _, _, _, o, _, _, e, _⟩ := x; exact Heap.lt_size e
 | dT kvs => obtain ⟨_, _, _, _, o, _, _, e, _⟩ := x; exact Heap.lt_size e
 | set S n => obtain ⟨o, _, _, _, e, _⟩ := x; exact Heap.lt_size e
 | ins C dx fs => obtain ⟨_, _, _, e, _⟩ := x; exact Heap.lt_size e
 | own y => obtain ⟨_, e⟩ := x; exact Heap.lt_size e
 | xd fs => obtain ⟨_, ⟨_, _, _, e, _⟩, _⟩ := x; exact Heap.lt_size e
 | rng lo hi => obtain ⟨_, _, _, e⟩ := x; exact Heap.lt_size e
 | frz ob u => obtain ⟨e, _⟩ := x; exact Heap.lt_size e
 | tbl ps => exact Heap.lt_size (show h.get? a = some _ from x)
 | met f y => exact Heap.lt_size (show h.get? a = some _ from x)
 | ext φ => obtain ⟨_, ⟨_, e⟩, _⟩ := x; exact Heap.lt_size e
theorem Paired.mapP {α β : Type} {F G : α -> β -> Prop} : ∀ {l₁ : List α} {l₂ : List β}, Paired F l₁ l₂ -> (∀ a b, F a b -> G a b) -> Paired G l₁ l₂
 | _, _, .nil, _ => .nil
 | _, _, .cons r t, f => .cons (f _ _ r) (Paired.mapP t f)
theorem ObjOk.stay (x : ObjOk P w H h a o) (k : ∀ b u, (b = a \/ H b = some (.own a)) -> h.get? b = some u -> h'.get? b = some u)
  (ho : ∀ b, H b = some (.own a) -> H' b = some (.own a)) (ht : ∀ b xs, H b = some (.tup xs) -> H' b = some (.tup xs)) : ObjOk P w H' h' a o := by
 induction o with
 | lst xs => obtain ⟨z, its, n, r, e⟩ := x; exact ⟨z, its, n, r, k _ _ (.inl rfl) e⟩
 | tup xs => obtain ⟨z, its, r, ob, e, c⟩ := x; exact ⟨z, its, r, ob, k _ _ (.inl rfl) e, c⟩
 | dK kvs => obtain ⟨z, y, vs, r, ob, es, ep, e, c⟩ := x; exact ⟨z, y, vs, r, ob, es, ep, k _ _ (.inl rfl) e, c⟩
 | dT kvs =>
  obtain ⟨z, y, xs, r, ob, es, ep, e, c⟩ := x
  exact ⟨z, y, xs, Paired.mapP r fun p q z => ⟨z.1, ht _ _ z.2.1, z.2.2⟩, ob, es, ep, k _ _ (.inl rfl) e, c⟩
 | set S n => obtain ⟨ob, es, ep, t, e, c⟩ := x; exact ⟨ob, es, ep, t, k _ _ (.inl rfl) e, c⟩
 | ins C dx fs =>
  obtain ⟨d, z, ne, e, mA, ⟨od, es, ep, e2, c⟩, r⟩ := x
  exact ⟨ho _ d, z, ne, k _ _ (.inl rfl) e, mA, ⟨od, es, ep, k _ _ (.inr d) e2, c⟩, r⟩
 | own y => obtain ⟨ob, e⟩ := x; exact ⟨ob, k _ _ (.inl rfl) e⟩
 | xd fs => obtain ⟨mA, ⟨od, es, ep, e, c⟩, r⟩ := x; exact ⟨mA, ⟨od, es, ep, k _ _ (.inl rfl) e, c⟩, r⟩
 | rng lo hi => obtain ⟨t, u, v, e⟩ := x; exact ⟨t, u, v, k _ _ (.inl rfl) e⟩
 | frz ob u ih => obtain ⟨e, q⟩ := x; exact ⟨k _ _ (.inl rfl) e, ih q⟩
 | tbl ps =>
  have e : h.get? a = some { cls := .none, data := .fields ps } := x
  show h'.get? a = some { cls := .none, data := .fields ps }
  exact k a _ (.inl rfl) e
 | met f y =>
  have e : h.get? a = some (W.methodObj (.ref f) (.ref y)) := x
  show h'.get? a = some (W.methodObj (.ref f) (.ref y))
  exact k a _ (.inl rfl) e
 | ext φ => obtain ⟨p, ⟨o, e⟩, st⟩ := x; exact ⟨st _ _ p fun o q => k _ _ (.inl rfl) q, ⟨o, k _ _ (.inl rfl) e⟩, st⟩
theorem HOk.lt (x : HOk P w H h) (e : H a = some o) : a < h.objs.size := (x a o e).lt
theorem HOk.fresh (x : HOk P w H h) (e : h.objs.size <= a) : H a = none := by
 cases q : H a with
 | none => rfl
 | some u => exact absurd (Nat.lt_of_lt_of_le (x.lt q) e) (Nat.lt_irrefl _)
theorem HOk.kept (x : HOk P w H h) (k : ∀ b u, h.get? b = some u -> h'.get? b = some u) : HOk P w H h' := fun a o e =>
 (x a o e).stay (fun b u _ q => k b u q) (fun _ q => q) fun _ _ q => q
theorem HOk.laid (x : HOk P w H h) (k : ∀ b u, h.get? b = some u -> h'.get? b = some u) (hp : h.objs.size <= a) (new : ObjOk P w (upd H a o) h' a o) : HOk P w (upd H a o) h' := fun b u e => by
 have hn := x.fresh hp
 by_cases hb : b = a
 ·subst hb; rw [zaO] at e; cases e; exact new
 ·rw [zay hb] at e
  exact (x b u e).stay (fun c v _ q => k c v q) (fun c q => by rw [zay (zaP q hn)]; exact q) fun c xs q => by rw [zay (zaP q hn)]; exact q
end
noncomputable def Rd (H : Hp) (a : Addr) (u : HO) : Prop := H a = some u \/ ∃ o, H a = some (.frz o u)
theorem Rd.ok {P : Program} {u : HO} (r : Rd H a u) (x : HOk P w H h) : ObjOk P w H h a u := by
 rcases r with r | ⟨o, r⟩
 ·exact x a u r
 ·obtain ⟨_, q⟩ := x a _ r
  exact q
noncomputable def Mut : Option HO -> Prop
 | some (.lst _) => True
 | some (.dK _) => True
 | some (.dT _) => True
 | some (.set _ _) => True
 | some (.ins _ _ _) => True
 | some (.ext _) => True
 | _ => False
section
variable {P : Program} {w : World} {H : Hp} {h h' : Heap} {x e : Addr} {o' : HO}
theorem HOk.write (ok : HOk P w H h) (mu : Mut (H x)) (he : e = x \/ H e = some (.own x)) (k : ∀ b u, b ≠ e -> h.get? b = some u -> h'.get? b = some u) (heo : ∃ u, h'.get? e = some u)
  (new : ObjOk P w (upd H x o') h' x o') : HOk P w (upd H x o') h' := fun b u q => by
 have nown : ∀ c y, H c = some (.own y) -> c ≠ x := fun c y r z => by subst z; rw [r] at mu; exact mu
 have ntup : ∀ c xs, H c = some (.tup xs) -> c ≠ x := fun c xs r z => by subst z; rw [r] at mu; exact mu
 by_cases hb : b = x
 ·subst hb; rw [zaO] at q; cases q; exact new
 ·rw [zay hb] at q
  by_cases hbe : b = e
  ·have q' : H b = some (.own x) := by
    rcases he with z | z
    ·exact absurd (hbe.trans z) hb
    ·rw [hbe]; exact z
   rw [q] at q'; cases q'
   obtain ⟨v, hv⟩ := heo
   exact ⟨v, by rw [hbe]; exact hv⟩
  ·refine (ok b u q).stay (fun c v hc r => k c v ?_ r) (fun c r => by rw [zay (nown c b r)]; exact r) fun c xs r => by rw [zay (ntup c xs r)]; exact r
   rcases hc with rfl | hc
   ·exact hbe
   ·rintro rfl
    rcases he with z | z
    ·exact nown c b hc z
    ·rw [hc] at z; cases z; exact hb rfl
end
structure Un (fs ex : List Addr) (H H' : Hp) (h h' : Heap) : Prop where
 keep : ∀ b o, h.get? b = some o -> H b = none -> b ∉ fs -> b ∉ ex -> h'.get? b = some o
 slot : ∀ b o, h.get? b = some o -> H b = none -> b ∈ fs -> b ∉ ex -> ∃ sl, h'.get? b = some { o with slots := sl }
 free : ∀ b o, h.get? b = some o -> H b = none -> b ∉ ex -> H' b = none
 there : ∀ b o, h.get? b = some o -> b ∉ ex -> ∃ o', h'.get? b = some o'
 tups : ∀ b xs, H b = some (.tup xs) -> H' b = some (.tup xs)
 frzs : ∀ b o u, H b = some (.frz o u) -> H' b = some (.frz o u)
 tbls : ∀ b ps, H b = some (.tbl ps) -> ∃ more, H' b = some (.tbl (ps ++ more))
section
variable {fs fs' ex ex' : List Addr} {H H1 H2 : Hp} {h h1 h2 h' : Heap} {a x e : Addr} {o : HO}
theorem Un.any (u : Un fs ex H H1 h h1) {ob : Obj} (q : h.get? b = some ob) (n : H b = none) (hx : b ∉ ex) : ∃ sl, h1.get? b = some { ob with slots := sl } := by
 by_cases hb : b ∈ fs
 ·exact u.slot b ob q n hb hx
 ·exact ⟨ob.slots, u.keep b ob q n hb hx⟩
theorem Un.kept (k : ∀ b u, h.get? b = some u -> h'.get? b = some u) : Un fs ex H H h h' :=
 ⟨fun b ob q _ _ _ => k b ob q, fun b ob q _ _ _ => ⟨ob.slots, k b ob q⟩, fun _ _ _ n _ => n, fun b ob q _ => ⟨ob, k b ob q⟩, fun _ _ q => q, fun _ _ _ q => q, fun _ ps q => ⟨#[], by rw [q]; simp⟩⟩
theorem Un.refl : Un fs ex H H h h := Un.kept fun _ _ q => q
theorem Un.laid (k : ∀ b u, h.get? b = some u -> h'.get? b = some u) (hp : h.objs.size <= a) (hn : H a = none) : Un fs ex H (upd H a o) h h' where
 keep := fun b u q _ _ _ => k b u q
 slot := fun b u q _ _ _ => ⟨u.slots, k b u q⟩
 free := fun b u q n _ => by rw [zay (Nat.ne_of_lt (Nat.lt_of_lt_of_le (Heap.lt_size q) hp))]; exact n
 there := fun b u q _ => ⟨u, k b u q⟩
 tups := fun b xs q => by rw [zay (zaP q hn)]; exact q
 frzs := fun b u xs q => by rw [zay (zaP q hn)]; exact q
 tbls := fun b ps q => ⟨#[], by rw [zay (zaP q hn), q]; simp⟩
theorem Un.write (mu : Mut (H x)) (he : e = x \/ H e = some (.own x)) (k : ∀ b u, b ≠ e -> h.get? b = some u -> h'.get? b = some u) (heo : ∃ u, h'.get? e = some u) : Un fs ex H (upd H x o) h h' := by
 have hx : ∀ b, H b = none -> b ≠ x := fun b n z => by subst z; rw [n] at mu; exact mu
 have hb : ∀ b, H b = none -> b ≠ e := fun b n z => by
  subst z
  rcases he with r | r
  ·exact hx b n r
  ·rw [n] at r; cases r
 have hm : ∀ b u, H b = some u -> ¬ Mut (some u) -> b ≠ x := fun b u q nm z => by subst z; rw [q] at mu; exact nm mu
 refine ⟨fun b u q n _ _ => k b u (hb b n) q, fun b u q n _ _ => ⟨u.slots, k b u (hb b n) q⟩, fun b u q n _ => by rw [zay (hx b n)]; exact n, fun b u q _ => ?_,
  fun b xs q => by rw [zay (hm b _ q fun z => z)]; exact q, fun b u xs q => by rw [zay (hm b _ q fun z => z)]; exact q, fun b ps q => ⟨#[], by rw [zay (hm b _ q fun z => z), q]; simp⟩⟩
 by_cases hbe : b = e
 ·subst hbe; exact heo
 ·exact ⟨u, k b u hbe q⟩
end
noncomputable def trk (h : Heap) (H : Hp) : List Addr := (List.range h.objs.size).filter fun a => (H a).isSome
noncomputable def hidT (h : Heap) (H : Hp) : Heap := W.hideAll h (trk h H)
theorem zmi (h : Heap) (H : Hp) : (hidT h H).objs.size = h.objs.size := W.hideAll_size _ _
theorem hidT_get (e : h.get? b = some o) (n : H b = none) : (hidT h H).get? b = some o :=
 W.hideAll_get _ e fun hm => by
  have q : (H b).isSome = true := (List.mem_filter.mp hm).2
  rw [n] at q; simp at q
theorem of_hidT (e : (hidT h H).get? b = some o) : h.get? b = some o /\ H b = none := by
 have e' : h.get? b = some o := W.of_hideAll (trk h H) e
 refine ⟨e', ?_⟩
 cases q : H b with
 | none => rfl
 | some x =>
  have hm : b ∈ trk h H := List.mem_filter.mpr ⟨List.mem_range.mpr (Heap.lt_size e'), by simp [q]⟩
  have z : (hidT h H).get? b = none := W.hideAll_none (trk h H) hm
  rw [z] at e; cases e
noncomputable def allNews (g h : Heap) (L : Addr) : List (Addr × Obj) := (List.range h.objs.size).filterMap fun a => if a = L \/ (g.get? a).isSome = true then none else (h.get? a).map fun o => (a, o)
noncomputable def rest (g h : Heap) (L d : Addr) : List (Addr × Obj) := (allNews g h L).filter fun p => decide (p.1 ≠ d)
structure Mod (K : W.Frag) (mg : Str -> Option Value) (base : Heap) : Prop where
 kin : K.In base
 glob : base.Ns mainGlobals mg
 blt : ∃ mb, base.Ns builtinsNs mb /\ ∀ x : Str, x ≠ "__name__" -> mb x = bootBuiltins x
 nolimit : base.NoLimit
structure Cx where
 prog : Program
 w : World
 K : W.Frag
 mg : Str -> Option Value
 base : Heap
 A : Around
 N : List Str
 s₀ : Shared
 H₀ : Hp
 env : Env
 outer : List Env
 stack : List Env
 ex : List Addr
 fn : Str -> Bool
 calm : Bool
 pn : List (Addr × Obj)
 xe : Value -> Shared -> Prop
noncomputable def frs (l : List Env) : List Addr := l.filterMap (·.frame)
noncomputable abbrev Cx.fs (X : Cx) : List Addr := frs X.outer
noncomputable def Vis (sc : Scope) (x : Str) : Prop := sc.names.lookup x = some .local \/ sc.names.lookup x = some .cell \/ sc.names.lookup x = some .free
noncomputable def Loc (sc : Scope) (x : Str) : Prop := sc.names.lookup x = some .local \/ sc.names.lookup x = some .cell
noncomputable def Look (env : Env) (h : Heap) (m : Str -> Option Value) (x : Str) (u : Value) : Prop :=
 (env.kindOf x = some .local /\ m x = some u) \/ ((env.kindOf x = some .cell \/ env.kindOf x = some .free) /\ ∃ c, env.cells.lookup x = some c /\ h.IsCell c (some u))
structure Cx.Ok (X : Cx) : Prop where
 mod : Mod X.K X.mg X.base
 kind : X.env.scope.kind = .function
 glob : X.env.globals = mainGlobals
 blt : X.env.builtins = builtinsNs
 above : X.s₀.heap.objs.size <= X.env.locals
 inj : ∀ x y c, X.env.cells.lookup x = some c -> X.env.cells.lookup y = some c -> x = y
 has : ∀ x, (X.env.kindOf x = some .cell \/ X.env.kindOf x = some .free) -> ∃ c, X.env.cells.lookup x = some c
 cab : ∀ x c, X.fn x = true -> X.env.cells.lookup x = some c -> X.s₀.heap.objs.size <= c
 hd : X.calm = true -> X.A.handled = none
 frames : X.A.frames = some X.stack
 stk : X.stack = X.outer \/ (X.stack = X.env :: X.outer /\ X.env.frame = some X.env.locals)
 exf : ∀ b ∈ X.ex, b ≠ X.env.locals /\ ∀ x c, X.env.cells.lookup x = some c -> c ≠ b
 bs : ∀ b o, X.base.get? b = some o -> X.s₀.heap.get? b = some o /\ X.H₀ b = none
 bsz : X.base.objs.size <= X.s₀.heap.objs.size
 noex : ∀ b o, X.base.get? b = some o -> b ∉ X.ex
 exfs : ∀ b ∈ X.ex, b ∉ X.fs
 funs : X.s₀.heap.FunFrames X.base X.outer
 frf : ∀ b ∈ X.fs, X.H₀ b = none
structure Inv (X : Cx) (pins : List (Addr × Obj)) (σ : List (Option V)) (H : Hp) (s : Shared) : Prop where
 ok : X.Ok
 os : s.os = X.s₀.os
 bare : AllBare s.gens
 base : Un X.fs X.ex X.H₀ H X.s₀.heap s.heap
 loc : ∃ m, s.heap.Ns X.env.locals m /\ ∀ (i : Nat) (x : Str) (v : V), X.N[i]? = some x -> σ[i]? = some (some v) -> Vis X.env.scope x -> ∃ u, RelV v u /\ Look X.env s.heap m x u
 cell : ∀ x c, X.env.cells.lookup x = some c -> ∃ v, s.heap.IsCell c v
 free : H X.env.locals = none
 freeC : ∀ x c, X.env.cells.lookup x = some c -> H c = none
 pin : ∀ p ∈ X.pn ++ pins, s.heap.get? p.1 = some p.2 /\ H p.1 = none /\ p.1 ≠ X.env.locals /\ p.1 ∉ X.fs /\ ∀ v, p.2.data ≠ .cell v
 hok : HOk X.prog X.w H s.heap
 len : σ.length = X.N.length
section
variable {X : Cx} {pins : List (Addr × Obj)} {σ : List (Option V)} {H H' : Hp} {s : Shared} {h' : Heap}
theorem Cx.Ok.nofr (ok : X.Ok) (e : X.base.get? b = some o) : b ∉ X.fs := fun hb => by
 have := (ok.funs.mem hb).1
 rw [e] at this; cases this
theorem Inv.bs (I : Inv X pins σ H s) : ∀ b o, X.base.get? b = some o -> s.heap.get? b = some o /\ H b = none := fun b o e =>
 ⟨I.base.keep b o (I.ok.bs b o e).1 (I.ok.bs b o e).2 (I.ok.nofr e) (I.ok.noex b o e), I.base.free b o (I.ok.bs b o e).1 (I.ok.bs b o e).2 (I.ok.noex b o e)⟩
theorem Inv.bk (I : Inv X pins σ H s) : ∀ b o, X.base.get? b = some o -> s.heap.get? b = some o := fun b o e => (I.bs b o e).1
theorem Inv.mod (I : Inv X pins σ H s) : Mod X.K X.mg X.base := I.ok.mod
theorem Inv.kIn (I : Inv X pins σ H s) : X.K.In s.heap := I.ok.mod.kin.keeps I.bk
theorem Inv.lt (I : Inv X pins σ H s) : X.env.locals < s.heap.objs.size := let ⟨_, hn, _⟩ := I.loc; hn.lt
theorem Inv.sz (I : Inv X pins σ H s) : X.s₀.heap.objs.size <= s.heap.objs.size := Nat.le_trans I.ok.above (Nat.le_of_lt I.lt)
theorem Inv.nofs (I : Inv X pins σ H s) (h : s.heap.objs.size <= a) : a ∉ X.fs := fun hb => by
 obtain ⟨_, o, ho, _⟩ := I.ok.funs.mem hb
 exact absurd (Nat.lt_of_lt_of_le (Heap.lt_size ho) (Nat.le_trans I.sz h)) (Nat.lt_irrefl _)
theorem Inv.cne (I : Inv X pins σ H s) : ∀ x c, X.env.cells.lookup x = some c -> c ≠ X.env.locals := fun x c e z => by
 obtain ⟨v, o, ho, hd⟩ := I.cell x c e
 obtain ⟨m, ⟨o', es, ep, ho', hd', _⟩, _⟩ := I.loc
 rw [z, ho'] at ho; cases ho; rw [hd'] at hd; cases hd
theorem Inv.funs (I : Inv X pins σ H s) : s.heap.FunFrames X.base X.outer := by
 have all : ∀ (l : List Env), (∀ b ∈ frs l, b ∈ X.fs) -> X.s₀.heap.FunFrames X.base l -> s.heap.FunFrames X.base l := by
  intro l
  induction l with
  | nil => intro _ _; trivial
  | cons env r ih =>
   intro hs hl
   obtain ⟨hk, ⟨L, o, hf, hn, ho, hd⟩, hr⟩ := hl
   have hL : L ∈ X.fs := hs L (by unfold frs; rw [List.filterMap_cons, hf]; exact List.mem_cons_self)
   obtain ⟨sl, e⟩ := I.base.slot L o ho (I.ok.frf L hL) hL fun z => I.ok.exfs L z hL
   exact ⟨hk, ⟨L, _, hf, hn, e, hd⟩, ih (fun b hb => hs b (by unfold frs; rw [List.filterMap_cons, hf]; exact List.mem_cons_of_mem _ hb)) hr⟩
 exact all X.outer (fun _ hb => hb) I.ok.funs
theorem Inv.stack (I : Inv X pins σ H s) : s.heap.FunFrames X.base X.stack := by
 rcases I.ok.stk with e | ⟨e, hf⟩
 ·rw [e]; exact I.funs
 ·rw [e]
  obtain ⟨m, hn, _⟩ := I.loc
  refine .cons (by rw [I.ok.kind]; decide) hf hn ?_ I.funs
  exact Heap.get?_none_of_le (Nat.le_trans I.ok.bsz I.ok.above)
theorem Inv.stkSub (I : Inv X pins σ H s) : ∀ b ∈ frs X.stack, b ∈ X.env.locals :: X.fs := fun b hb => by
 rcases I.ok.stk with e | ⟨e, hf⟩
 ·rw [e] at hb; exact List.mem_cons_of_mem _ hb
 ·rw [e] at hb
  unfold frs at hb
  rw [List.filterMap_cons, hf] at hb
  exact hb
theorem Inv.stkFree (I : Inv X pins σ H s) : ∀ b ∈ frs X.stack, H b = none := fun b hb => by
 rcases List.mem_cons.mp (I.stkSub b hb) with e | hb
 ·rw [e]; exact I.free
 ·obtain ⟨_, o, ho, _⟩ := I.ok.funs.mem hb
  exact I.base.free b o ho (I.ok.frf b hb) fun z => I.ok.exfs b z hb
theorem Inv.step (I : Inv X pins σ H s)
  (hch : ∀ b ∈ ch, (b ∈ X.ex \/ X.s₀.heap.objs.size <= b) /\ b ≠ X.env.locals /\ (∀ x c, X.env.cells.lookup x = some c -> c ≠ b) /\ ∀ p ∈ X.pn ++ pins, p.1 ≠ b)
  (keep : ∀ b o, b ≠ X.env.locals -> b ∉ X.fs -> b ∉ ch -> s.heap.get? b = some o -> H b = none -> h'.get? b = some o)
  (slot : ∀ b o, b ≠ X.env.locals -> b ∈ X.fs -> b ∉ ch -> s.heap.get? b = some o -> H b = none -> ∃ sl, h'.get? b = some { o with slots := sl }) (free : ∀ b o, b ∉ ch -> s.heap.get? b = some o -> H b = none -> H' b = none)
  (there : ∀ b o, b ∉ ch -> s.heap.get? b = some o -> ∃ o', h'.get? b = some o')
  (tups : ∀ b xs, H b = some (.tup xs) -> H' b = some (.tup xs)) (frzs : ∀ b o u, H b = some (.frz o u) -> H' b = some (.frz o u)) (tbls : ∀ b ps, H b = some (.tbl ps) -> ∃ more, H' b = some (.tbl (ps ++ more)))
  (ns : ∀ m, s.heap.Ns X.env.locals m -> h'.Ns X.env.locals m) (hok : HOk X.prog X.w H' h') (hg : AllBare g') :
  Inv X pins σ H' { s with heap := h', gens := g', drawn := d', toks := t' } := by
 have neL : ∀ b o, X.s₀.heap.get? b = some o -> b ≠ X.env.locals := fun b o e => Nat.ne_of_lt (Nat.lt_of_lt_of_le (Heap.lt_size e) I.ok.above)
 have neC : ∀ b o, X.s₀.heap.get? b = some o -> b ∉ X.ex -> b ∉ ch := fun b o e hx hb => by
  rcases (hch b hb).1 with z | z
  ·exact hx z
  ·exact absurd (Nat.lt_of_lt_of_le (Heap.lt_size e) z) (Nat.lt_irrefl _)
 have cellK : ∀ x c, X.env.cells.lookup x = some c -> ∀ v, s.heap.IsCell c v -> h'.IsCell c v := fun x c e v ⟨o, ho, hd⟩ => by
  have nch : c ∉ ch := fun z => (hch c z).2.2.1 x c e rfl
  by_cases hc : c ∈ X.fs
  ·obtain ⟨sl, q⟩ := slot c o (I.cne x c e) hc nch ho (I.freeC x c e)
   exact ⟨_, q, hd⟩
  ·exact ⟨o, keep c o (I.cne x c e) hc nch ho (I.freeC x c e), hd⟩
 refine ⟨I.ok, I.os, hg, ⟨fun b o e n hb hx => ?_, fun b o e n hb hx => ?_, fun b o e n hx => ?_, fun b o e hx => ?_, fun b xs e => tups b xs (I.base.tups b xs e), fun b o xs e => frzs b o xs (I.base.frzs b o xs e), fun b ps e => ?_⟩, ?_, fun x c e => ?_, ?_, fun x c e => ?_, fun p hp => ?_, hok, I.len⟩
 ·exact keep b o (neL b o e) hb (neC b o e hx) (I.base.keep b o e n hb hx) (I.base.free b o e n hx)
 ·obtain ⟨sl, e1⟩ := I.base.slot b o e n hb hx
  obtain ⟨sl', e2⟩ := slot b _ (neL b o e) hb (neC b o e hx) e1 (I.base.free b o e n hx)
  exact ⟨sl', e2⟩
 ·obtain ⟨o', e1⟩ := I.base.there b o e hx
  exact free b o' (neC b o e hx) e1 (I.base.free b o e n hx)
 ·obtain ⟨o', e1⟩ := I.base.there b o e hx
  exact there b o' (neC b o e hx) e1
 ·obtain ⟨m1, e1⟩ := I.base.tbls b ps e
  obtain ⟨m2, e2⟩ := tbls b _ e1
  exact ⟨m1 ++ m2, by rw [e2, Array.append_assoc]⟩
 ·obtain ⟨m, hn, hl⟩ := I.loc
  refine ⟨m, ns m hn, fun i x v e1 e2 e3 => ?_⟩
  obtain ⟨u, r, l⟩ := hl i x v e1 e2 e3
  refine ⟨u, r, ?_⟩
  rcases l with l | ⟨k, c, e, z⟩
  ·exact .inl l
  ·exact .inr ⟨k, c, e, cellK x c e _ z⟩
 ·obtain ⟨v, z⟩ := I.cell x c e
  exact ⟨v, cellK x c e v z⟩
 ·obtain ⟨m, ⟨o, _, _, ho, _⟩, _⟩ := I.loc
  exact free _ o (fun z => (hch _ z).2.1 rfl) ho I.free
 ·obtain ⟨v, o, ho, hd⟩ := I.cell x c e
  exact free c o (fun z => (hch c z).2.2.1 x c e rfl) ho (I.freeC x c e)
 ·obtain ⟨e, n, ne, nf, d⟩ := I.pin p hp
  have nch : p.1 ∉ ch := fun z => (hch p.1 z).2.2.2 p hp rfl
  exact ⟨keep p.1 p.2 ne nf nch e n, free p.1 p.2 nch e n, ne, nf, d⟩
theorem Inv.un (I : Inv X pins σ H s) (u : Un X.fs [] H H' s.heap h') (hok : HOk X.prog X.w H' h') : Inv X pins σ H' { s with heap := h', toks := t' } := by
  obtain ⟨m, ⟨o, es, ep, ho, r⟩, _⟩ := id I.loc
  obtain ⟨sl, hL⟩ := u.any ho I.free (by simp)
  exact I.step (g' := s.gens) (d' := s.drawn) (ch := []) (fun _ z => nomatch z) (fun b o _ hb _ e n => u.keep b o e n hb (by simp)) (fun b o _ hb _ e n => u.slot b o e n hb (by simp)) (fun b o _ e n => u.free b o e n (by simp)) (fun b o _ e => u.there b o e (by simp)) u.tups u.frzs u.tbls (fun m' hm => by
    obtain ⟨o', es', ep', ho', r'⟩ := hm
    rw [ho] at ho'; cases ho'
    exact ⟨_, es', ep', hL, r'⟩) hok I.bare
theorem Inv.call {ch : List Addr} (I : Inv X pins σ H s) (u : Un (frs X.stack) ch H H' s.heap h') (hok : HOk X.prog X.w H' h') (hg : AllBare g')
  (hch : ∀ b ∈ ch, (b ∈ X.ex \/ X.s₀.heap.objs.size <= b) /\ b ≠ X.env.locals /\ (∀ x c, X.env.cells.lookup x = some c -> c ≠ b) /\ ∀ p ∈ X.pn ++ pins, p.1 ≠ b) :
  Inv X pins σ H' { s with heap := h', gens := g', drawn := d', toks := t' } := by
 obtain ⟨m, ⟨o, es, ep, ho, r⟩, _⟩ := id I.loc
 obtain ⟨sl, hL⟩ := u.any ho I.free fun z => (hch _ z).2.1 rfl
 exact I.step (ch := ch) hch (fun b o hL hb hc e n => u.keep b o e n (fun z => (List.mem_cons.mp (I.stkSub b z)).elim hL hb) hc) (fun b o _ _ hc e n => u.any e n hc) (fun b o hc e n => u.free b o e n hc) (fun b o hc e => u.there b o e hc) u.tups u.frzs u.tbls (fun m' hm => by
  obtain ⟨o', es', ep', ho', r'⟩ := hm
  rw [ho] at ho'; cases ho'
  exact ⟨_, es', ep', hL, r'⟩) hok hg
theorem Inv.turned (I : Inv X pins σ H s) (k : ∀ b o, b ≠ it -> s.heap.get? b = some o -> h'.get? b = some o) (hn : H it = none) (hL : it ≠ X.env.locals)
  (h1 : it ∈ X.ex \/ X.s₀.heap.objs.size <= it) (h2 : ∀ x c, X.env.cells.lookup x = some c -> c ≠ it) (h3 : ∀ p ∈ X.pn ++ pins, p.1 ≠ it) : Inv X pins σ H { s with heap := h', toks := t' } := by
 have nit : ∀ b u, H b = some u -> b ≠ it := fun b u e z => by rw [z, hn] at e; cases e
 refine I.step (g' := s.gens) (d' := s.drawn) (ch := [it]) (fun b hb => ?_) (fun b o _ _ hc e _ => k b o (fun z => hc (by simp [z])) e) (fun b o _ _ hc e _ => ⟨o.slots, k b o (fun z => hc (by simp [z])) e⟩) (fun _ _ _ _ n => n)
  (fun b o hc e => ⟨o, k b o (fun z => hc (by simp [z])) e⟩) (fun _ _ e => e) (fun _ _ _ e => e) (fun b ps e => ⟨#[], by rw [e]; simp⟩) (fun m hm => ?_) (fun b u e => ?_) I.bare
 ·have e : b = it := by simpa using hb
  subst e
  exact ⟨h1, hL, h2, h3⟩
 ·obtain ⟨o, es, ep, ho, r⟩ := hm
  exact ⟨o, es, ep, k _ o (Ne.symm hL) ho, r⟩
 ·refine (I.hok b u e).stay (fun c v hc q => k c v ?_ q) (fun _ q => q) fun _ _ q => q
  rcases hc with z | z
  ·rw [z]; exact nit b u e
  ·exact nit c _ z
theorem Inv.tok (I : Inv X pins σ H s) (t : Nat) : Inv X pins σ H { s with toks := t } := I.un (h' := s.heap) (t' := t) Un.refl I.hok
theorem Inv.kept (I : Inv X pins σ H s) (k : ∀ b u, s.heap.get? b = some u -> h'.get? b = some u) : Inv X pins σ H { s with heap := h', toks := t' } := I.un (Un.kept k) (I.hok.kept k)
theorem Inv.laid {o : HO} (I : Inv X pins σ H s) (k : ∀ b u, s.heap.get? b = some u -> h'.get? b = some u) (hp : s.heap.objs.size <= a) (new : ObjOk X.prog X.w (upd H a o) h' a o) :
  Inv X pins σ (upd H a o) { s with heap := h', toks := t' } := I.un (Un.laid k hp (I.hok.fresh hp)) (I.hok.laid k hp new)
theorem Inv.write {x e : Addr} {o : HO} (I : Inv X pins σ H s) (mu : Mut (H x)) (he : e = x \/ H e = some (.own x)) (k : ∀ b u, b ≠ e -> s.heap.get? b = some u -> h'.get? b = some u) (heo : ∃ u, h'.get? e = some u)
  (new : ObjOk X.prog X.w (upd H x o) h' x o) : Inv X pins σ (upd H x o) { s with heap := h', toks := t' } := I.un (Un.write mu he k heo) (I.hok.write mu he k heo new)
theorem Inv.pins_of (I : Inv X pins σ H s) (h : ∀ p ∈ pins', s.heap.get? p.1 = some p.2 /\ H p.1 = none /\ p.1 ≠ X.env.locals /\ p.1 ∉ X.fs /\ ∀ v, p.2.data ≠ .cell v) : Inv X pins' σ H s :=
 ⟨I.ok, I.os, I.bare, I.base, I.loc, I.cell, I.free, I.freeC, fun p hp => (List.mem_append.mp hp).elim (fun z => I.pin p (List.mem_append_left _ z)) (h p), I.hok, I.len⟩
theorem zkV (hN : N.Nodup) (a : N[i]? = some x) (b : N[j]? = some x) : i = j := by
 obtain ⟨h1, e1⟩ := List.getElem?_eq_some_iff.mp a
 obtain ⟨h2, e2⟩ := List.getElem?_eq_some_iff.mp b
 exact (List.getElem_inj hN).mp (e1.trans e2.symm)
theorem zme {M : Model} (I : Inv X pins σ H s) (hN : X.N.Nodup) (hi : X.N[i]? = some x) (hx : Loc X.env.scope x) (r : RelV v u)
    (h : ∀ s', Inv X pins (σ.set i (some v)) H s' -> (∃ a, Heap.SameBut a s.heap s'.heap /\ (a = X.env.locals \/ X.env.cells.lookup x = some a)) -> Q () s') (hf : X.fn x = true \/ X.env.scope.names.lookup x = some .local := by first | exact .inl rfl | exact .inr rfl | assumption) : wpAny M A (storeName X.env x u) Q E s := by
  obtain ⟨m, hn, hl⟩ := id I.loc
  have hcls : (X.env.scope.kind == .class || (X.env.scope.kind == .module && X.env.locals != X.env.globals)) = false := by rw [I.ok.kind]; rfl
  have hiσ : i < σ.length := by rw [I.len]; exact (List.getElem?_eq_some_iff.mp hi).1
  have cne := I.cne
  have tracked : ∀ {a : Addr} {h' : Heap}, (∃ o, s.heap.get? a = some o /\ H a = none) -> Heap.SameBut a s.heap h' -> HOk X.prog X.w H h' := fun {a h'} ha hs b ob e => by
    obtain ⟨_, _, hfree⟩ := ha
    refine (I.hok b ob e).stay (fun c w' hc q => (hs.2 c ?_).trans q) (fun _ q => q) fun _ _ q => q
    rintro rfl
    rcases hc with rfl | hc
    . rw [hfree] at e; cases e
    . rw [hfree] at hc; cases hc
  rcases hx with hk | hk
  . refine wpAny_storeName_local hk hn (fun h' hn' hs => ?_) hcls
    obtain ⟨oL, _, _, hoL, _⟩ := id hn
    refine h _ ⟨I.ok, I.os, I.bare, ⟨fun b o e n hb hx => ?_, fun b o e n hb hx => ?_, I.base.free, fun b o e hx => ?_, I.base.tups, I.base.frzs, I.base.tbls⟩, ⟨_, hn', fun j y v' e1 e2 e3 => ?_⟩, fun y c e => ?_, I.free, I.freeC, fun p hp => ?_, tracked ⟨oL, hoL, I.free⟩ hs, by simpa using I.len⟩ ⟨_, hs, .inl rfl⟩
    . exact (hs.2 b (Nat.ne_of_lt (Nat.lt_of_lt_of_le (Heap.lt_size e) I.ok.above))).trans (I.base.keep b o e n hb hx)
    . obtain ⟨sl, e1⟩ := I.base.slot b o e n hb hx
      exact ⟨sl, (hs.2 b (Nat.ne_of_lt (Nat.lt_of_lt_of_le (Heap.lt_size e) I.ok.above))).trans e1⟩
    . obtain ⟨o', e1⟩ := I.base.there b o e hx
      exact ⟨o', (hs.2 b (Nat.ne_of_lt (Nat.lt_of_lt_of_le (Heap.lt_size e) I.ok.above))).trans e1⟩
    . by_cases hj : j = i
      . subst hj
        rw [hi] at e1; cases e1
        rw [List.getElem?_set_self hiσ] at e2
        cases e2
        exact ⟨u, r, .inl ⟨hk, by simp⟩⟩
      . rw [List.getElem?_set_ne (Ne.symm hj)] at e2
        obtain ⟨u', r', q⟩ := hl j y v' e1 e2 e3
        refine ⟨u', r', ?_⟩
        rcases q with ⟨k, e⟩ | ⟨k, c, e, z⟩
        . refine .inl ⟨k, ?_⟩
          have : y ≠ x := fun e => hj (zkV hN e1 (e ▸ hi))
          simp [this, e]
        . exact .inr ⟨k, c, e, z.sameBut hs (cne y c e)⟩
    . obtain ⟨w', z⟩ := I.cell y c e
      exact ⟨w', z.sameBut hs (cne y c e)⟩
    . obtain ⟨e, n, ne, nf, d⟩ := I.pin p hp
      exact ⟨(hs.2 p.1 ne).trans e, n, ne, nf, d⟩
  . have hfn : X.fn x = true := by
      rcases hf with z | z
      . exact z
      . rw [z] at hk; cases hk
    obtain ⟨c, hc⟩ := I.ok.has x (.inl hk)
    obtain ⟨w', z⟩ := I.cell x c hc
    refine wpAny_storeName_cell I.ok.kind hk hc z (fun h' hc' hs => ?_)
    obtain ⟨oc, hoc, hocd⟩ := id z
    refine h { s with heap := h' } ⟨I.ok, I.os, I.bare, ⟨fun b o e n hb hx => ?_, fun b o e n hb hx => ?_, I.base.free, fun b o e hx => ?_, I.base.tups, I.base.frzs, I.base.tbls⟩, ⟨m, hn.sameBut hs (Ne.symm (cne x c hc)), fun j y v' e1 e2 e3 => ?_⟩, fun y c' e => ?_, I.free, I.freeC, fun p hp => ?_, tracked ⟨oc, hoc, I.freeC x c hc⟩ hs, by simpa using I.len⟩ ⟨c, hs, .inr hc⟩
    . exact (hs.2 b (Nat.ne_of_lt (Nat.lt_of_lt_of_le (Heap.lt_size e) (I.ok.cab x c hfn hc)))).trans (I.base.keep b o e n hb hx)
    . obtain ⟨sl, e1⟩ := I.base.slot b o e n hb hx
      exact ⟨sl, (hs.2 b (Nat.ne_of_lt (Nat.lt_of_lt_of_le (Heap.lt_size e) (I.ok.cab x c hfn hc)))).trans e1⟩
    . obtain ⟨o', e1⟩ := I.base.there b o e hx
      exact ⟨o', (hs.2 b (Nat.ne_of_lt (Nat.lt_of_lt_of_le (Heap.lt_size e) (I.ok.cab x c hfn hc)))).trans e1⟩
    . by_cases hj : j = i
      . subst hj
        rw [hi] at e1; cases e1
        rw [List.getElem?_set_self hiσ] at e2
        cases e2
        exact ⟨u, r, .inr ⟨.inl hk, c, hc, hc'⟩⟩
      . rw [List.getElem?_set_ne (Ne.symm hj)] at e2
        obtain ⟨u', r', q⟩ := hl j y v' e1 e2 e3
        refine ⟨u', r', ?_⟩
        rcases q with q | ⟨k, c', e, z'⟩
        . exact .inl q
        . refine .inr ⟨k, c', e, z'.sameBut hs ?_⟩
          rintro rfl
          exact hj (zkV hN e1 (I.ok.inj _ _ _ e hc ▸ hi))
    . by_cases hcc : c' = c
      . subst hcc; exact ⟨_, hc'⟩
      . obtain ⟨w2, z2⟩ := I.cell y c' e
        exact ⟨w2, z2.sameBut hs hcc⟩
    . obtain ⟨e, n, ne, nf, d⟩ := I.pin p hp
      refine ⟨(hs.2 p.1 ?_).trans e, n, ne, nf, d⟩
      intro q
      rw [q, hoc] at e
      have q' : oc = p.2 := Option.some.inj e
      exact d w' (by rw [<- q']; exact hocd)
theorem zkQ {M : Model} (I : Inv X pins σ H s) (hN : X.N.Nodup) (hi : X.N[i]? = some x) (hx : Loc X.env.scope x) (r : RelV v u)
  (h : ∀ s', Inv X pins (σ.set i (some v)) H s' -> Q () s') (hf : X.fn x = true \/ X.env.scope.names.lookup x = some .local := by first | exact .inl rfl | exact .inr rfl | assumption) : wpAny M A (storeName X.env x u) Q E s :=
 zme I hN hi hx r (fun s' I' _ => h s' I') hf
end
noncomputable abbrev XK := Value -> Option Addr -> Hp -> Prop
noncomputable abbrev St := List (Option V)
noncomputable abbrev VK := V -> Hp -> Prop
noncomputable abbrev TE := St -> Hp -> VK -> Prop
noncomputable abbrev TT := St -> Hp -> (Bool -> Hp -> Prop) -> Prop
noncomputable abbrev TA := St -> Hp -> (List V -> Hp -> Prop) -> Prop
structure Ends where
 nx : St -> Hp -> Prop
 rt : VK
 bk : St -> Hp -> Prop := fun _ _ => False
 ct : St -> Hp -> Prop := fun _ _ => False
noncomputable abbrev TS := Ends -> St -> Hp -> Prop
noncomputable def EP (X : Cx) (pins : List (Addr × Obj)) (σ : St) (Q : VK) (u : Value) (s' : Shared) : Prop := ∃ v H', Inv X pins σ H' s' /\ RelV v u /\ Q v H'
noncomputable def TP (X : Cx) (pins : List (Addr × Obj)) (σ : St) (Q : Bool -> Hp -> Prop) (b : Bool) (s' : Shared) : Prop := ∃ H', Inv X pins σ H' s' /\ Q b H'
noncomputable def AP (X : Cx) (pins : List (Addr × Obj)) (σ : St) (Q : List V -> Hp -> Prop) (us : List Value) (s' : Shared) : Prop := ∃ vs H', Inv X pins σ H' s' /\ Vals vs us /\ Q vs H'
noncomputable def SP (X : Cx) (pins : List (Addr × Obj)) (D : Ends) (f : Flow) (s' : Shared) : Prop :=
 match f with
 | .next => ∃ σ' H', Inv X pins σ' H' s' /\ D.nx σ' H'
 | .brk => ∃ σ' H', Inv X pins σ' H' s' /\ D.bk σ' H'
 | .cont => ∃ σ' H', Inv X pins σ' H' s' /\ D.ct σ' H'
 | .ret u => ∃ v σ' H', Inv X pins σ' H' s' /\ RelV v u /\ D.rt v H'
noncomputable def PE (X : Cx) (e : Expr) (t : TE) : Prop :=
 ∀ (pins : List (Addr × Obj)) (s : Shared) (σ : St) (H : Hp) (Q : VK), Inv X pins σ H s -> t σ H Q -> wpAny (model X.prog X.w) X.A (eval e X.env) (EP X pins σ Q) X.xe s
noncomputable def PT (X : Cx) (e : Expr) (t : TT) : Prop :=
 ∀ (pins : List (Addr × Obj)) (s : Shared) (σ : St) (H : Hp) (Q : Bool -> Hp -> Prop), Inv X pins σ H s -> t σ H Q -> wpAny (model X.prog X.w) X.A (isTrue e X.env (eval e X.env)) (TP X pins σ Q) X.xe s
noncomputable def PW (X : Cx) (e : Expr) (t : TT) : Prop :=
 ∀ (whole : Sem Value) (pins : List (Addr × Obj)) (s : Shared) (σ : St) (H : Hp) (Q : Bool -> Hp -> Prop), Inv X pins σ H s -> t σ H Q -> wpAny (model X.prog X.w) X.A (isTrue e X.env whole) (TP X pins σ Q) X.xe s
theorem PW.pt {t : TT} (h : PW X e t) : PT X e t := h _
noncomputable def PA (X : Cx) (es : List Expr) (t : TA) : Prop :=
 ∀ (pos : Pos) (pins : List (Addr × Obj)) (s : Shared) (σ : St) (H : Hp) (Q : List V -> Hp -> Prop), Inv X pins σ H s -> t σ H Q -> wpAny (model X.prog X.w) X.A (spliced (backTo pos (starEach es X.env))) (AP X pins σ Q) X.xe s
noncomputable def PS (X : Cx) (st : Stmt) (t : TS) : Prop :=
 ∀ (pins : List (Addr × Obj)) (s : Shared) (σ : St) (H : Hp) (D : Ends), Inv X pins σ H s -> t D σ H -> wpAny (model X.prog X.w) X.A (exec st X.env) (SP X pins D) X.xe s
noncomputable def PSs (X : Cx) (st : List Stmt) (t : TS) : Prop :=
 ∀ (pins : List (Addr × Obj)) (s : Shared) (σ : St) (H : Hp) (D : Ends), Inv X pins σ H s -> t D σ H -> wpAny (model X.prog X.w) X.A (execs st X.env) (SP X pins D) X.xe s
theorem thn {α : Type} {t : Sem α} {Q Q' : α -> Shared -> Prop} {M : Model} (h : wpAny M A t Q E s) (hQ : ∀ a s, Q a s -> Q' a s) : wpAny M A t Q' E s := wpAny_mono h hQ fun _ _ x => x
section
variable {X : Cx}
noncomputable def tVar (i : Nat) : TE := fun σ H Q => ∃ v, σ[i]? = some (some v) /\ Q v H
noncomputable def tC (v : V) : TE := fun _ H Q => Q v H
theorem zea (hN : X.N[i]? = some x) (hv : Vis X.env.scope x) (hd : (x == ("__debug__" : Str)) = false := by decide) (hcd : (x == ("__classdict__" : Str)) = false := by decide) : PE X (.Name x pos) (tVar i) := by
 intro pins s σ H Q I h
 obtain ⟨v, e, h⟩ := h
 obtain ⟨m, hn, hl⟩ := I.loc
 obtain ⟨u, r, l⟩ := hl i x v hN e hv
 have fin : EP X pins σ Q u s := ⟨v, H, I, r, h⟩
 rcases l with ⟨hk, hm⟩ | ⟨hk, c, hc, hcell⟩
 ·exact wpAny_Name (wpAny_loadName_local I.ok.kind hk hn hm fin) hd
 ·rcases hk with hk | hk
  ·exact wpAny_Name (wpAny_loadName_cell I.ok.kind hk hc hcell fin) hd
  ·exact wpAny_Name (wpAny_loadName_free I.ok.kind hk hc hcell fin hcd) hd
theorem pe_int {i j pos} : PE X (.Constant (.int i) j pos) (tC (.int i)) := fun _ _ _ H _ I h => wpAny_Constant_int ⟨.int i, H, I.tok _, ⟨_, rfl⟩, h⟩
theorem pe_bl {b j pos} : PE X (.Constant (.bool b) j pos) (tC (.bl b)) := fun _ _ _ H _ I h => Constant_bool ⟨.bl b, H, I, rfl, h⟩
theorem pe_non {j pos} : PE X (.Constant .none j pos) (tC .non) := fun _ _ _ H _ I h => Constant_none ⟨.non, H, I, rfl, h⟩
theorem pe_str {x j pos} : PE X (.Constant (.str x) j pos) (tC (.str x)) := fun _ _ _ H _ I h => Calls.Constant_str ⟨.str x, H, I.tok _, ⟨_, rfl⟩, h⟩
noncomputable def Gl (X : Cx) (x : Str) : Prop := X.env.kindOf x = some .globalImplicit
theorem ld_glob {Q : Value -> Shared -> Prop} (I : Inv X pins σ H s) (hg : Gl X x) (hm : X.mg x = some u) (h : Q u s)
  (hd : (x == ("__debug__" : Str)) = false := by decide) : wpAny (model X.prog X.w) X.A (eval (.Name x pos) X.env) Q E s :=
 Calls.Name_function_global I.ok.kind hg (Calls.loadGlobal_global (by rw [I.ok.glob]; exact I.mod.glob.keeps I.bk) hm h) hd
theorem zgF {Q : Value -> Shared -> Prop} (I : Inv X pins σ H s) (hg : Gl X x) (hm : X.mg x = none) (hv : bootBuiltins x = some u) (h : Q u s)
  (hn : x ≠ "__name__" := by decide) (hd : (x == ("__debug__" : Str)) = false := by decide) : wpAny (model X.prog X.w) X.A (eval (.Name x pos) X.env) Q E s := by
 obtain ⟨mb, h1, h2⟩ := I.mod.blt
 exact Calls.Name_function_global I.ok.kind hg (Calls.loadGlobal_builtin (by rw [I.ok.glob]; exact I.mod.glob.keeps I.bk) hm (by rw [I.ok.blt]; exact h1.keeps I.bk) ((h2 x hn).trans hv) h) hd
theorem pe_bltn (hg : Gl X x) (hm : X.mg x = none) (hv : bootBuiltins x = some u) (r : RelV v u) (hn : x ≠ "__name__" := by decide) (hd : (x == ("__debug__" : Str)) = false := by decide) : PE X (.Name x pos) (tC v) :=
 fun _ _ _ H _ I h => zgF I hg hm hv ⟨v, H, I, r, h⟩ hn hd
variable {a b : Expr} {ta tb : TE} {pos : Pos}
variable {tA tB' : TT} {rest : List Expr}
noncomputable def tAnd (t u : TT) : TT := fun σ H Q => t σ H fun c H1 => if c = true then u σ H1 Q else Q false H1
noncomputable def tOr (t u : TT) : TT := fun σ H Q => t σ H fun c H1 => if c = true then Q true H1 else u σ H1 Q
noncomputable def tNot (t : TT) : TT := fun σ H Q => t σ H fun c H1 => Q (!c) H1
theorem pw_and1 (ha : PT X a tA) : PW X (.BoolOp .And [a] pos) tA := by
 intro wh pins s σ H Q I h
 refine isTrue_and (thn (ha pins s σ H Q I h) fun c s1 e => ?_)
 cases c with
 | true => exact isTrue_and_nil e
 | false => exact e
theorem pw_or1 (ha : PT X a tA) : PW X (.BoolOp .Or [a] pos) tA := by
 intro wh pins s σ H Q I h
 refine isTrue_or (thn (ha pins s σ H Q I h) fun c s1 e => ?_)
 cases c with
 | false => exact isTrue_or_nil e
 | true => exact e
theorem pw_and (ha : PT X a tA) (hb : PW X (.BoolOp .And (b :: rest) pos) tB') : PW X (.BoolOp .And (a :: b :: rest) pos) (tAnd tA tB') := by
 intro wh pins s σ H Q I h
 refine isTrue_and (thn (ha pins s σ H _ I h) fun c s1 ⟨H1, I1, q1⟩ => ?_)
 cases c with
 | true => exact hb wh pins s1 σ H1 Q I1 q1
 | false => exact ⟨H1, I1, q1⟩
theorem pw_or (ha : PT X a tA) (hb : PW X (.BoolOp .Or (b :: rest) pos) tB') : PW X (.BoolOp .Or (a :: b :: rest) pos) (tOr tA tB') := by
 intro wh pins s σ H Q I h
 refine isTrue_or (thn (ha pins s σ H _ I h) fun c s1 ⟨H1, I1, q1⟩ => ?_)
 cases c with
 | true => exact ⟨H1, I1, q1⟩
 | false => exact hb wh pins s1 σ H1 Q I1 q1
theorem pt_not (ha : PT X a tA) : PT X (.UnaryOp .Not a pos) (tNot tA) := by
 intro pins s σ H Q I h
 exact isTrue_not (ha pins s σ H (fun c H1 => Q (!c) H1) I h)
noncomputable def tAndV (ta tb : TE) : TE := fun σ H Q => ta σ H fun x H1 => ∃ c, x = .bl c /\ if c = true then tb σ H1 Q else Q (.bl false) H1
noncomputable def tNotV (ta : TE) : TE := fun σ H Q => ta σ H fun x H1 => ∃ c, x = .bl c /\ Q (.bl (!c)) H1
theorem pe_one {op} {t : TE} (h : PE X a t) : PE X (.BoolOp op [a] pos) t := fun pins s σ H Q I hw => BoolOp_one (h pins s σ H Q I hw)
theorem pe_and (ha : PE X a ta) (hb : PE X (.BoolOp .And (b :: rest) pos) tb) : PE X (.BoolOp .And (a :: b :: rest) pos) (tAndV ta tb) := by
 intro pins s σ H Q I h
 refine BoolOp_and (thn (ha pins s σ H _ I h) fun v s1 ⟨x, H1, I1, r1, q1⟩ => ?_)
 obtain ⟨c, rfl, q1⟩ := q1
 cases r1
 refine wpAny_truthy_bool ?_
 cases c with
 | true => exact hb pins s1 σ H1 Q I1 q1
 | false => exact ⟨.bl false, H1, I1, rfl, q1⟩
theorem pe_not (ha : PE X a ta) : PE X (.UnaryOp .Not a pos) (tNotV ta) := by
 intro pins s σ H Q I h
 refine UnaryOp_ (thn (ha pins s σ H _ I h) fun v s1 ⟨x, H1, I1, r1, q1⟩ => ?_)
 obtain ⟨c, rfl, q1⟩ := q1
 cases r1
 exact not_of (wpAny_truthy_bool ⟨.bl (!c), H1, I1, rfl, q1⟩)
noncomputable def tIf (t : TT) (ta tb : TE) : TE := fun σ H Q => t σ H fun c H1 => if c = true then ta σ H1 Q else tb σ H1 Q
theorem pe_ifExp (hc : PT X c tA) (ha : PE X a ta) (hb : PE X b tb) : PE X (.IfExp c a b pos) (tIf tA ta tb) := by
 intro pins s σ H Q I h
 refine wpAny_IfExp (thn (hc pins s σ H _ I h) fun d s1 ⟨H1, I1, q1⟩ => ?_)
 cases d with
 | true => exact ha pins s1 σ H1 Q I1 q1
 | false => exact hb pins s1 σ H1 Q I1 q1
end
noncomputable def SqL (K : W.Frag) (H : Hp) (a : Addr) (xs : List V) : Prop :=
 Rd H a (.lst xs) \/
  ∃ (o : Obj) (its : Array Value) (n : Nat), K.lookup a = some o /\ o.cls = .type "list" /\ o.dict = none /\ o.data = .seq its n /\ its.size <= sizeLine /\ Vals xs its.toList
noncomputable def SqT (K : W.Frag) (H : Hp) (a : Addr) (xs : List V) : Prop :=
 Rd H a (.tup xs) \/
  ∃ (o : Obj) (its : Array Value) (n : Nat), K.lookup a = some o /\ o.cls = .type "tuple" /\ o.data = .seq its n /\ its.size <= sizeLine /\ Vals xs its.toList
noncomputable def absV : Value -> Option V
 | .none => some .non
 | .bool b => some (.bl b)
 | .int i _ => some (.int i)
 | .str x _ => some (.str x)
 | .bytes b _ => some (.byt b)
 | .float b _ => some (.flt b)
 | .ref a => some (.ref a)
 | .type n => some (.ty n)
 | _ => none
theorem RelV.abs {x : V} (r : RelV x u) : absV u = some x := by
 cases x with
 | non => cases r; rfl
 | bl _ => cases r; rfl
 | int _ => obtain ⟨t, rfl⟩ := r; rfl
 | str _ => obtain ⟨t, rfl⟩ := r; rfl
 | byt _ => obtain ⟨t, rfl⟩ := r; rfl
 | flt _ => obtain ⟨t, rfl⟩ := r; rfl
 | ref _ => cases r; rfl
 | ty _ => cases r; rfl
theorem RelV.inj {x y : V} (r : RelV x u) (q : RelV y u) : x = y := Option.some.inj (r.abs.symm.trans q.abs)
theorem Vals.inj : ∀ {xs ys : List V} {us : List Value}, Vals xs us -> Vals ys us -> xs = ys
 | _, _, _, .nil, .nil => rfl
 | _, _, _, .cons r t, .cons r' t' => by rw [r.inj r', Vals.inj t t']
section
variable {X : Cx} {pins : List (Addr × Obj)} {σ : St} {H : Hp} {s : Shared} {a : Addr} {xs ys : List V}
theorem SqL.of (h : H a = some (.lst xs)) : SqL K H a xs := .inl (.inl h)
theorem SqT.of (h : H a = some (.tup xs)) : SqT K H a xs := .inl (.inl h)
theorem Inv.list (I : Inv X pins σ H s) (h : SqL X.K H a xs) : ∃ its : List Value, Vals xs its /\ PlainL s.heap a its.toArray /\ xs.length <= sizeLine := by
 rcases h with h | ⟨o, its, n, hk, hc, hd, hs, hz, r⟩
 ·obtain ⟨z, its, n, r, e⟩ := h.ok I.hok
  exact ⟨its, r, ⟨_, n, e, rfl, rfl, rfl⟩, z⟩
 ·refine ⟨its.toList, r, ⟨o, n, I.kIn a o hk, hc, hd, by simpa using hs⟩, ?_⟩
  have e := r.length
  simp only [Array.length_toList] at e
  lia
theorem Inv.tuple (I : Inv X pins σ H s) (h : SqT X.K H a xs) : ∃ its : List Value, Vals xs its /\ IsTup s.heap a its.toArray /\ xs.length <= sizeLine := by
 rcases h with h | ⟨o, its, n, hk, hc, hs, hz, r⟩
 ·obtain ⟨z, its, r, p⟩ := h.ok I.hok
  exact ⟨its, r, p, z⟩
 ·refine ⟨its.toList, r, ⟨o, I.kIn a o hk, hc, n, by simpa using hs⟩, ?_⟩
  have e := r.length
  simp only [Array.length_toList] at e
  lia
theorem Inv.list_inj (I : Inv X pins σ H s) (h : SqL X.K H a xs) (h' : SqL X.K H a ys) : xs = ys := by
 obtain ⟨its, r, ⟨o, n, e, _, _, d⟩, _⟩ := I.list h
 obtain ⟨its', r', ⟨o', n', e', _, _, d'⟩, _⟩ := I.list h'
 rw [e] at e'; cases e'
 rw [d] at d'
 injection d' with d1 _
 have : its = its' := by simpa using congrArg Array.toList d1
 subst this
 exact r.inj r'
theorem Inv.tuple_inj (I : Inv X pins σ H s) (h : SqT X.K H a xs) (h' : SqT X.K H a ys) : xs = ys := by
 obtain ⟨its, r, ⟨o, e, _, n, d⟩, _⟩ := I.tuple h
 obtain ⟨its', r', ⟨o', e', _, n', d'⟩, _⟩ := I.tuple h'
 rw [e] at e'; cases e'
 rw [d] at d'
 injection d' with d1 _
 have : its = its' := by simpa using congrArg Array.toList d1
 subst this
 exact r.inj r'
end
noncomputable abbrev Cx.wish (X : Cx) (E : Value -> Shared -> Prop) : Cx := { X with xe := E }
noncomputable abbrev Cx.nox (X : Cx) : Cx := X.wish fun _ _ => False
theorem Cx.Ok.wish (ok : X.Ok) (E : Value -> Shared -> Prop) : (X.wish E).Ok :=
 ⟨ok.mod, ok.kind, ok.glob, ok.blt, ok.above, ok.inj, ok.has, ok.cab, ok.hd, ok.frames, ok.stk, ok.exf, ok.bs, ok.bsz, ok.noex, ok.exfs, ok.funs, ok.frf⟩
theorem Cx.Ok.unwish (ok : (X.wish E).Ok) : X.Ok :=
 ⟨ok.mod, ok.kind, ok.glob, ok.blt, ok.above, ok.inj, ok.has, ok.cab, ok.hd, ok.frames, ok.stk, ok.exf, ok.bs, ok.bsz, ok.noex, ok.exfs, ok.funs, ok.frf⟩
section
variable {X : Cx} {pins : List (Addr × Obj)} {σ : St} {H : Hp} {s : Shared} {E : Value -> Shared -> Prop}
theorem Inv.wish (I : Inv X pins σ H s) (E : Value -> Shared -> Prop) : Inv (X.wish E) pins σ H s := ⟨I.ok.wish E, I.os, I.bare, I.base, I.loc, I.cell, I.free, I.freeC, I.pin, I.hok, I.len⟩
theorem Inv.unwish (I : Inv (X.wish E) pins σ H s) : Inv X pins σ H s := ⟨I.ok.unwish, I.os, I.bare, I.base, I.loc, I.cell, I.free, I.freeC, I.pin, I.hok, I.len⟩
theorem SP.unwish {D : Ends} {f : Flow} (h : SP (X.wish E) pins D f s') : SP X pins D f s' := by
 cases f with
 | next => obtain ⟨σ', H', I, q⟩ := h; exact ⟨σ', H', I.unwish, q⟩
 | brk => obtain ⟨σ', H', I, q⟩ := h; exact ⟨σ', H', I.unwish, q⟩
 | cont => obtain ⟨σ', H', I, q⟩ := h; exact ⟨σ', H', I.unwish, q⟩
 | ret u => obtain ⟨v, σ', H', I, r, q⟩ := h; exact ⟨v, σ', H', I.unwish, r, q⟩
theorem PSs.nox {st : List Stmt} {t : TS} (h : PSs X.nox st t) : PSs X st t := fun pins s σ H D I hw =>
 wpAny_mono (h pins s σ H D (I.wish _) hw) (fun _ _ q => q.unwish) fun _ _ z => False.elim z
end
section
variable {X : Cx} {st : Stmt} {rest : List Stmt} {t u : TS} {e : Expr} {te : TE} {pos : Pos}
noncomputable def tNext : TS := fun D σ H => D.nx σ H
noncomputable def tSeq (t u : TS) : TS := fun D σ H => t { D with nx := u D } σ H
theorem pss_nil : PSs X [] tNext := fun _ _ σ H _ I h => wpAny_execs_nil ⟨σ, H, I, h⟩
theorem pss_cons (h1 : PS X st t) (h2 : PSs X rest u) : PSs X (st :: rest) (tSeq t u) := by
 intro pins s σ H D I h
 refine wpAny_execs_cons (thn (h1 pins s σ H { D with nx := u D } I h) fun f s1 q => ?_)
 cases f with
 | next =>
  obtain ⟨σ', H', I', q⟩ := q
  exact h2 pins s1 σ' H' D I' q
 | ret v => exact q
 | brk => exact q
 | cont => exact q
theorem pss_one (h1 : PS X st t) : PSs X [st] t := by
 intro pins s σ H D I h
 refine wpAny_execs_cons (thn (h1 pins s σ H D I h) fun f s1 q => ?_)
 cases f with
 | next => exact wpAny_execs_nil q
 | ret v => exact q
 | brk => exact q
 | cont => exact q
theorem Inv.quiet (I : Inv X pins σ H s) : interactive X.env = false := by simp [interactive, I.ok.kind]
noncomputable def tDrop (te : TE) : TS := fun D σ H => te σ H fun _ H1 => D.nx σ H1
theorem ps_expr (he : PE X e te) (hs : swapsWith e none pos.line X.env = pure false := by rfl) : PS X (.Expr e pos) (tDrop te) := by
 intro pins s σ H D I h
 exact wpAny_Expr_any (thn (he pins s σ H _ I h) fun v s1 ⟨x, H1, I1, r1, q1⟩ => ⟨σ, H1, I1, q1⟩) I.quiet hs
noncomputable def tRet (te : TE) : TS := fun D σ H => te σ H D.rt
theorem zl5 (he : PE X e te) : PS X (.Return (some e) pos) (tRet te) := by
 intro pins s σ H D I h
 exact wpAny_Return_some (thn (he pins s σ H _ I h) fun v s1 ⟨x, H1, I1, r1, q1⟩ => ⟨x, σ, H1, I1, r1, q1⟩)
noncomputable def tIfS (c : TT) (t u : TS) : TS := fun D σ H => c σ H fun b H1 => if b = true then t D σ H1 else u D σ H1
theorem ps_if {a b : List Stmt} (hc : PT X c tc) (ha : PSs X a t) (hb : PSs X b u) : PS X (.If c a b pos) (tIfS tc t u) := by
 intro pins s σ H D I h
 refine wpAny_If (thn (hc pins s σ H _ I h) fun d s1 ⟨H1, I1, q1⟩ => ?_)
 cases d with
 | true => exact ha pins s1 σ H1 D I1 q1
 | false => exact hb pins s1 σ H1 D I1 q1
end
noncomputable abbrev TG := V -> St -> Hp -> (St -> Hp -> Prop) -> Prop
noncomputable abbrev TGs := List V -> St -> Hp -> (St -> Hp -> Prop) -> Prop
noncomputable def PG (X : Cx) (target : Expr) (t : TG) : Prop :=
 ∀ (pins : List (Addr × Obj)) (s : Shared) (σ : St) (H : Hp) (v : V) (u : Value) (Q : St -> Hp -> Prop), Inv X pins σ H s -> RelV v u -> t v σ H Q ->
  wpAny (model X.prog X.w) X.A (assign target X.env u) (fun _ s' => ∃ σ' H', Inv X pins σ' H' s' /\ Q σ' H') X.xe s
noncomputable def PGs (X : Cx) (ts : List Expr) (t : TGs) : Prop :=
 ∀ (pins : List (Addr × Obj)) (s : Shared) (σ : St) (H : Hp) (vs : List V) (us : List Value) (Q : St -> Hp -> Prop), Inv X pins σ H s -> Vals vs us -> t vs σ H Q ->
  wpAny (model X.prog X.w) X.A (assignInOrder ((assignEach ts X.env).map (·.2)) us) (fun _ s' => ∃ σ' H', Inv X pins σ' H' s' /\ Q σ' H') X.xe s
noncomputable abbrev TSet := V -> V -> V -> Hp -> (Hp -> Prop) -> Prop
noncomputable def PSet (X : Cx) (t : TSet) : Prop :=
 ∀ (pins : List (Addr × Obj)) (s : Shared) (σ : St) (H : Hp) (o i v : V) (ov iv u : Value) (Q : Hp -> Prop), Inv X pins σ H s -> RelV o ov -> RelV i iv -> RelV v u -> t o i v H Q ->
  wpAny (model X.prog X.w) X.A (setItem ov iv u) (fun _ s' => ∃ H', Inv X pins σ H' s' /\ Q H') X.xe s
section
variable {X : Cx} {pos : Pos}
noncomputable def gName (i : Nat) : TG := fun v σ H Q => Q (σ.set i (some v)) H
theorem zlC (hN : X.N.Nodup) (hi : X.N[i]? = some x) (hx : Loc X.env.scope x) (hf : X.fn x = true \/ X.env.scope.names.lookup x = some .local := by first | exact .inl rfl | exact .inr rfl | assumption) : PG X (.Name x pos) (gName i) := by
  intro pins s σ H v u Q I r h
  exact wpAny_assign_Name (zkQ I hN hi hx r (fun s' I' => ⟨_, H, I', h⟩) hf)
noncomputable def gNil : TGs := fun vs σ H Q => vs = [] /\ Q σ H
noncomputable def gCons (t : TG) (u : TGs) : TGs := fun vs σ H Q => ∃ v r, vs = v :: r /\ t v σ H fun σ' H' => u r σ' H' Q
theorem pgs_nil : PGs X [] gNil := by
 intro pins s σ H vs us Q I r h
 obtain ⟨e, h⟩ := h
 subst e
 cases r
 exact assignInOrder_nil ⟨σ, H, I, h⟩
theorem pgs_cons {t : TG} {u : TGs} (h1 : PG X e t) (h2 : PGs X es u)
  (hs : (assignEach (e :: es) X.env).map (·.2) = assign e X.env :: (assignEach es X.env).map (·.2) := by rfl) : PGs X (e :: es) (gCons t u) := by
 intro pins s σ H vs us Q I r h
 obtain ⟨v, vr, e1, h⟩ := h
 subst e1
 cases r with
 | cons r rr =>
  rw [hs]
  refine assignInOrder_cons (thn (h1 pins s σ H _ _ _ I r h) fun _ s1 ⟨σ1, H1, I1, q1⟩ => ?_)
  exact h2 pins s1 σ1 H1 _ _ Q I1 rr q1
noncomputable def gTup (K : W.Frag) (n : Nat) (t : TGs) : TG := fun v σ H Q => ∃ a xs, v = .ref a /\ SqT K H a xs /\ xs.length = n /\ t xs σ H Q
theorem pg_tup {t : TGs} (hc : X.calm = true) (h : PGs X es t)
  (hn : (assignEach es X.env).length = n := by rfl) (hst : (assignEach es X.env).findIdx? (·.1) = none := by rfl) : PG X (.Tuple es k pos) (gTup X.K n t) := by
 intro pins s σ H v u Q I r hw
 obtain ⟨a, xs, e1, hq, hl, hw⟩ := hw
 subst e1
 cases r
 obtain ⟨its, rv, ht, hz⟩ := I.tuple hq
 refine assign_Tuple_tuple (I.ok.hd hc) ht (by simp [hn, <- hl, rv.length]) hst fun h' hx => ?_
 have I1 : Inv X pins σ H { s with heap := h' } := I.kept (t' := s.toks) fun b o e => hx b o (Nat.ne_of_lt (Heap.lt_size e)) e
 exact h pins _ σ H xs _ Q I1 (by simpa using rv) hw
noncomputable def gSub (to ti : TE) (t : TSet) : TG := fun v σ H Q => to σ H fun o H1 => ti σ H1 fun i H2 => t o i v H2 fun H3 => Q σ H3
theorem pg_sub {o i : Expr} {to ti : TE} (ho : PE X o to) (hi : PE X i ti) (hs : PSet X t)
    (ha : ∀ v, assign (.Subscript o i pos) X.env v = (do
      let ov <- holding [v] (eval o X.env)
      let iv <- holding [v, ov] (eval i X.env)
      standAt pos
      holding [v, ov, iv] (setItem ov iv v)
      release [v, ov, iv] []) := by intro _; rfl) : PG X (.Subscript o i pos) (gSub to ti t) := by
  intro pins s σ H v u Q I r h
  rw [ha]
  refine wpAny_bind (wpAny_holding (thn (ho pins s σ H _ I h) fun ov s1 ⟨x, H1, I1, r1, q1⟩ => ?_))
  refine wpAny_bind (wpAny_holding (thn (hi pins s1 σ H1 _ I1 q1) fun iv s2 ⟨y, H2, I2, r2, q2⟩ => ?_))
  refine wpAny_bind (wpAny_standAt (wpAny_bind (wpAny_holding (thn (hs pins s2 σ H2 x y v ov iv u _ I2 r1 r2 r q2) fun _ s3 ⟨H3, I3, q3⟩ => ?_))))
  exact wpAny_release ⟨σ, H3, I3, q3⟩
noncomputable def tAsg (te : TE) (g : TG) : TS := fun D σ H => te σ H fun x H1 => g x σ H1 D.nx
theorem zm7 {g : TG} (he : PE X e te) (hg : PG X tg g) (hs : swapsWithSole [tg] e pos.line X.env = pure false := by rfl) (hw : swappedStores [tg] e X.env = pure none := by rfl)
  (h1 : (assignEach [tg] X.env).map (·.2) = [assign tg X.env] := by rfl) : PS X (.Assign [tg] e pos) (tAsg te g) := by
 intro pins s σ H D I h
 refine wpAny_Assign_stores (thn (he pins s σ H _ I h) fun v s1 ⟨x, H1, I1, r1, q1⟩ => ?_) hs hw
 rw [h1]
 exact thn (hg pins s1 σ H1 x v _ I1 r1 q1) fun _ s2 q => q
theorem zlT {pos' : Pos} (hN : X.N.Nodup) (hi : X.N[i]? = some x) (hx : Loc X.env.scope x) (he : PE X e te) (hs : swapsWith e (some (.Name x pos')) pos.line X.env = pure false := by rfl) (hf : X.fn x = true \/ X.env.scope.names.lookup x = some .local := by first | exact .inl rfl | exact .inr rfl | assumption) :
  PS X (.Assign [.Name x pos'] e pos) (tAsg te (gName i)) := by
 intro pins s σ H D I h
 refine wpAny_Assign_Name (thn (he pins s σ H _ I h) fun v s1 ⟨y, H1, I1, r1, q1⟩ => ?_) hs
 exact zkQ I1 hN hi hx r1 (fun s2 I2 => ⟨_, H1, I2, q1⟩) hf
end
section
variable {X : Cx} {pos : Pos}
noncomputable def tWhile (c : TT) (tb : TS) : TS := fun D σ H => ∃ W : Nat -> St -> Hp -> Prop, (∃ m, W m σ H) /\ ∀ m σ H, W m σ H ->
 c σ H fun b H1 => if b = true then ∃ N : St -> Hp -> Prop, (∀ σ' H', N σ' H' -> ∃ m', m' < m /\ W m' σ' H') /\ tb { D with nx := N, ct := N, bk := D.nx } σ H1 else D.nx σ H1
theorem ps_while (hp : PassesOwn (model X.prog X.w) X.A X.env X.xe) (hc : PT X c tc) (hb : PSs X body tb) : PS X (.While c body [] pos) (tWhile tc tb) := by
 intro pins s σ H D I h
 obtain ⟨W, ⟨m0, w0⟩, turn⟩ := h
 refine wpAny_While (codeAny_whileLoop (fun n s' => ∃ σ' H', Inv X pins σ' H' s' /\ W n σ' H') ?_ m0 ⟨σ, H, I, w0⟩)
 rintro n s1 ⟨σ1, H1, I1, w1⟩
 refine wpAny_passesOwn hp (thn (hc pins s1 σ1 H1 _ I1 (turn n σ1 H1 w1)) fun b s2 ⟨H2, I2, q2⟩ => ?_)
 cases b with
 | true =>
  obtain ⟨N, hN, q2⟩ := q2
  rw [if_pos rfl]
  refine wpAny_passesOwn hp (thn (hb pins s2 σ1 H2 _ I2 q2) fun f s3 q3 => ?_)
  cases f with
  | next =>
   obtain ⟨σ3, H3, I3, n3⟩ := q3
   obtain ⟨m', hm, w3⟩ := hN σ3 H3 n3
   exact ⟨m', hm, σ3, H3, I3, w3⟩
  | cont =>
   obtain ⟨σ3, H3, I3, n3⟩ := q3
   obtain ⟨m', hm, w3⟩ := hN σ3 H3 n3
   exact ⟨m', hm, σ3, H3, I3, w3⟩
  | brk => exact q3
  | ret v => exact q3
 | false =>
  rw [if_neg Bool.false_ne_true]
  exact wpAny_execs_nil ⟨σ1, H2, I2, q2⟩
end
structure It where
 go : Nat -> Hp -> Prop
 yld : Nat -> Hp -> V -> Hp -> Prop
 stop : Nat -> Hp -> Prop
noncomputable def FpOk (X : Cx) (pins : List (Addr × Obj)) (H : Hp) (b : Addr) : Prop :=
 H b = none /\ b ≠ X.env.locals /\ b ∉ X.fs /\ (b ∈ X.ex \/ X.s₀.heap.objs.size <= b) /\ (∀ x c, X.env.cells.lookup x = some c -> c ≠ b) /\ ∀ p ∈ X.pn ++ pins, p.1 ≠ b
theorem Inv.fpOk {H H' : Hp} (I : Inv X pins σ H s) (hb : s.heap.objs.size <= b) (hn : H' b = none) : FpOk X pins H' b := by
 refine ⟨hn, Nat.ne_of_gt (Nat.lt_of_lt_of_le I.lt hb), I.nofs hb, .inr (Nat.le_trans I.sz hb), fun x c e z => ?_, fun p hp z => ?_⟩
 ·obtain ⟨v, q⟩ := I.cell x c e
  exact absurd (Nat.lt_of_lt_of_le q.lt (by rw [z]; exact hb)) (Nat.lt_irrefl _)
 ·exact absurd (Nat.lt_of_lt_of_le (Heap.lt_size (I.pin p hp).1) (by rw [z]; exact hb)) (Nat.lt_irrefl _)
structure Turn (P : Program) (w : World) (K : W.Frag) (tg : Expr) (J : It) (fp : List Addr) (it : Addr) (tn : Nat -> Heap -> Prop) : Prop where
 mem : it ∈ fp
 obj : ∀ i h, tn i h -> ∀ b ∈ fp, ∃ o, h.get? b = some o /\ ∀ v, o.data ≠ .cell v
 keep : ∀ i h h', tn i h -> (∀ b ∈ fp, ∀ o, h.get? b = some o -> h'.get? b = some o) -> tn i h'
 item : ∀ (X : Cx), X.prog = P -> X.w = w -> X.K = K -> X.calm = true -> ∀ (i : Nat) (pins : List (Addr × Obj)) (s : Shared) (σ : St) (H : Hp) (E : Value -> Shared -> Prop), Inv X pins σ H s -> (∀ b ∈ fp, FpOk X pins H b) -> tn i s.heap -> J.go i H ->
  wpAny (model P w) X.A (pyNext (.ref it)) (fun r s1 => ∃ u, r = some u /\
   wpAny (model P w) X.A (letOwnedTupleGo tg (.ref it) u) (fun _ s2 => ∃ x H', Inv X pins σ H' s2 /\ RelV x u /\ J.yld i H x H' /\ tn (i + 1) s2.heap /\ ∀ b ∈ fp, H' b = none) E s1) E s
 done : ∀ (X : Cx), X.prog = P -> X.w = w -> X.K = K -> X.calm = true -> ∀ (i : Nat) (pins : List (Addr × Obj)) (s : Shared) (σ : St) (H : Hp) (E : Value -> Shared -> Prop), Inv X pins σ H s -> (∀ b ∈ fp, FpOk X pins H b) -> tn i s.heap -> J.stop i H ->
  wpAny (model P w) X.A (pyNext (.ref it)) (fun r s1 => r = none /\ Inv X pins σ H s1) E s
 self : ∀ (A : Around) (i : Nat) (s : Shared) (Q : Value -> Shared -> Prop) (E : Value -> Shared -> Prop), tn i s.heap -> Q (.ref it) s -> wpAny (model P w) A (pyIter (.ref it)) Q E s
noncomputable abbrev TI := St -> Hp -> (It -> Hp -> Prop) -> Prop
noncomputable def PIE (X : Cx) (pins : List (Addr × Obj)) (σ : St) (tg : Expr) (R : It -> Hp -> Prop) (itv : Value) (s2 : Shared) : Prop :=
 ∃ (it : Addr) (fp : List Addr) (tn : Nat -> Heap -> Prop) (J : It) (H' : Hp), itv = .ref it /\ Inv X pins σ H' s2 /\ Turn X.prog X.w X.K tg J fp it tn /\ tn 0 s2.heap /\ (∀ b ∈ fp, FpOk X pins H' b) /\ R J H'
noncomputable def PI (X : Cx) (tg iter : Expr) (wi : TI) : Prop :=
 ∀ (pins : List (Addr × Obj)) (s : Shared) (σ : St) (H : Hp) (R : It -> Hp -> Prop), Inv X pins σ H s -> wi σ H R ->
  wpAny (model X.prog X.w) X.A (eval iter X.env) (fun v s1 => wpAny (model X.prog X.w) X.A (pyIter v) (PIE X pins σ tg R) X.xe s1) X.xe s
theorem zmd {M : Model} {n : String} {vs : Array Value} (ho : s.heap.get? it = some o) (hc : o.cls = .type n) (hd : o.data = .fields vs)
    (hn : ["enumerate", "zip", "dict_itemiterator", "dict_reverseitemiterator", "odict_iterator", "itertools.zip_longest", "itertools.pairwise"].contains n = false) (hQ : Q () s) : wpAny M A (letOwnedTupleGo tg (.ref it) u) Q E s := by
  unfold letOwnedTupleGo
  cases tg <;> first
    | exact wpAny_pure hQ
    | (cases u <;> first
        | exact wpAny_pure hQ
        | (refine wpAny_bind (wpAny_load ho ?_)
           rw [hc, hd]
           show wpAny M A (if (["enumerate", "zip", "dict_itemiterator", "dict_reverseitemiterator", "odict_iterator", "itertools.zip_longest", "itertools.pairwise"].contains n && vs[0]? == some (rawInt _)) = true then _ else _) Q E s
           rw [if_neg (by intro h; rw [hn, Bool.false_and] at h; cases h)]
           exact wpAny_pure hQ))
noncomputable def Itl (K : W.Frag) (a : Addr) : It :=
 ⟨fun i H => ∃ xs x, SqL K H a xs /\ xs[i]? = some x, fun i H x H' => H' = H /\ ∀ xs, SqL K H a xs -> xs[i]? = some x, fun i H => ∃ xs, SqL K H a xs /\ xs.length <= i⟩
noncomputable def Itt (K : W.Frag) (a : Addr) : It :=
 ⟨fun i H => ∃ xs x, SqT K H a xs /\ xs[i]? = some x, fun i H x H' => H' = H /\ ∀ xs, SqT K H a xs -> xs[i]? = some x, fun i H => ∃ xs, SqT K H a xs /\ xs.length <= i⟩
noncomputable def Itr (lo : Int) (n : Nat) : It := ⟨fun i _ => i < n, fun i H x H' => H' = H /\ x = .int (lo + i), fun i _ => n <= i⟩
theorem zlG {P : Program} (a it : Addr) : Turn P w K tg (Itl K a) [it] it (fun i h => h.IsListIter it a i) where
 mem := by simp
 obj := fun i h st b hb => by
  have e : b = it := by simpa using hb
  subst e
  obtain ⟨o, e, c, d⟩ := st
  exact ⟨o, e, fun v z => by rw [d] at z; cases z⟩
 keep := fun i h h' st k => st.at fun o e => k it (by simp) o e
 item := by
  intro X hP hw hK hc i pins s σ H E I hf st hg
  subst hP hw hK
  obtain ⟨xs, x, hq, hx⟩ := hg
  obtain ⟨its, rv, p, hz⟩ := I.list hq
  obtain ⟨u, hu, ru⟩ := rv.get hx
  obtain ⟨f0, f1, f2, f3, f4, f5⟩ := hf it (by simp)
  refine wpAny_pyNext_list_item st p.isList (x := u) (by simpa using hu) fun h' st' sb => ?_
  have I1 : Inv X pins σ H { s with heap := h' } := I.turned (t' := s.toks) (fun b o hb e => (sb.2 b hb).trans e) f0 f1 f3 f4 f5
  obtain ⟨o, e, c, d⟩ := id st'
  exact ⟨u, rfl, zmd (s := { s with heap := h' }) e c d (by decide) ⟨x, H, I1, ru, ⟨rfl, fun ys hy => by rw [I.list_inj hy hq]; exact hx⟩, st', fun b hb => (hf b hb).1⟩⟩
 done := by
  intro X hP hw hK hc i pins s σ H E I hf st hg
  subst hP hw hK
  obtain ⟨xs, hq, hx⟩ := hg
  obtain ⟨its, rv, p, hz⟩ := I.list hq
  obtain ⟨f0, f1, f2, f3, f4, f5⟩ := hf it (by simp)
  have hl := rv.length
  exact wpAny_pyNext_list_end (I.ok.hd hc) st p.isList (by simp; lia) fun h' eb => ⟨rfl, I.turned (t' := s.toks) (fun b o hb e => eb b o hb e) f0 f1 f3 f4 f5⟩
 self := fun _ _ _ _ _ st h => wpAny_pyIter_listiter st h
theorem zlk {P : Program} (a it : Addr) : Turn P w K tg (Itt K a) [it] it (fun i h => h.IsTupleIter it a i) where
 mem := by simp
 obj := fun i h st b hb => by
  have e : b = it := by simpa using hb
  subst e
  obtain ⟨o, e, c, d⟩ := st
  exact ⟨o, e, fun v z => by rw [d] at z; cases z⟩
 keep := fun i h h' st k => st.at fun o e => k it (by simp) o e
 item := by
  intro X hP hw hK hc i pins s σ H E I hf st hg
  subst hP hw hK
  obtain ⟨xs, x, hq, hx⟩ := hg
  obtain ⟨its, rv, p, hz⟩ := I.tuple hq
  obtain ⟨u, hu, ru⟩ := rv.get hx
  obtain ⟨f0, f1, f2, f3, f4, f5⟩ := hf it (by simp)
  refine wpAny_pyNext_tuple_item st (show s.heap.IsTuple a its.toArray from p) (x := u) (by simpa using hu) fun h' st' sb => ?_
  have I1 : Inv X pins σ H { s with heap := h' } := I.turned (t' := s.toks) (fun b o hb e => (sb.2 b hb).trans e) f0 f1 f3 f4 f5
  obtain ⟨o, e, c, d⟩ := id st'
  exact ⟨u, rfl, zmd (s := { s with heap := h' }) e c d (by decide) ⟨x, H, I1, ru, ⟨rfl, fun ys hy => by rw [I.tuple_inj hy hq]; exact hx⟩, st', fun b hb => (hf b hb).1⟩⟩
 done := by
  intro X hP hw hK hc i pins s σ H E I hf st hg
  subst hP hw hK
  obtain ⟨xs, hq, hx⟩ := hg
  obtain ⟨its, rv, p, hz⟩ := I.tuple hq
  obtain ⟨f0, f1, f2, f3, f4, f5⟩ := hf it (by simp)
  have hl := rv.length
  exact wpAny_pyNext_tuple_end (I.ok.hd hc) st (show s.heap.IsTuple a its.toArray from p) (by simp; lia) fun h' eb => ⟨rfl, I.turned (t' := s.toks) (fun b o hb e => eb b o hb e) f0 f1 f3 f4 f5⟩
 self := fun _ _ _ _ _ st h => wpAny_pyIter_tupleiter st h
theorem zlg {P : Program} {w : World} (it : Addr) (lo : Int) (n : Nat) : Turn P w K tg (Itr lo n) [it] it (fun i h => IsRangeIter h it (lo + (i : Nat) * 1) ((n : Int) - (i : Nat)) 1) where
 mem := by simp
 obj := fun i h st b hb => by
  have e : b = it := by simpa using hb
  subst e
  exact ⟨_, st, fun v z => by
   have z' : Data.fields _ = Data.cell v := z
   cases z'⟩
 keep := fun i h h' st k => k it (by simp) _ st
 item := by
  intro X hP hw hK hc i pins s σ H E I hf st hg
  subst hP hw hK
  obtain ⟨f0, f1, f2, f3, f4, f5⟩ := hf it (by simp)
  have W := Walks.range (prog := X.prog) (w := X.w) (I.ok.hd hc) it lo 1 n
  refine W.item i s _ _ hg st fun v h' tk hv st' kk => ?_
  obtain ⟨t, rfl⟩ := hv
  have I1 : Inv X pins σ H { s with heap := h', toks := tk } := I.turned (fun b o hb e => kk b o (by simpa using hb) e) f0 f1 f3 f4 f5
  refine ⟨_, rfl, zmd (s := { s with heap := h', toks := tk }) (n := "range_iterator") st' rfl rfl (by decide) ⟨.int (lo + i), H, I1, ⟨t, ?_⟩, ⟨rfl, rfl⟩, st', fun b hb => (hf b hb).1⟩⟩
  rw [Int.mul_one]
 done := by
  intro X hP hw hK hc i pins s σ H E I hf st hg
  subst hP hw hK
  obtain ⟨f0, f1, f2, f3, f4, f5⟩ := hf it (by simp)
  exact wpAny_pyNext_range_end (I.ok.hd hc) st (by have : n <= i := hg; lia) fun h' eb => ⟨rfl, I.turned (t' := s.toks) (fun b o hb e => eb b o hb e) f0 f1 f3 f4 f5⟩
 self := fun _ _ _ _ _ st h => wpAny_pyIter_rangeiter st h
section
variable {X : Cx} {tg : Expr}
theorem range_it {R : It -> Hp -> Prop} {lo hi : Int} {t u v : Tok} {tk : Nat} (I : Inv X pins σ H s) (h1 : -(2 ^ 62) <= lo) (h2 : lo < 2 ^ 62) (h3 : -(2 ^ 62) <= hi) (h4 : hi < 2 ^ 62)
  (q : R (Itr lo (hi - lo).toNat) H) : wpAny (model X.prog X.w) X.A (pyIter (.ref s.heap.objs.size)) (PIE X pins σ tg R) E { s with heap := s.heap.push { cls := .type "range", data := .fields #[.int lo t, .int hi u, .int 1 v] }, toks := tk } := by
 refine wpAny_pyIter_range (IsRange.new ..) (small_one h1 h2 h3 h4) ?_
 have I1 : Inv X pins σ H { s with heap := s.heap.push { cls := .type "range", data := .fields #[.int lo t, .int hi u, .int 1 v] }, toks := tk } := I.kept fun b o e => Heap.get?_push_of_some _ e
 refine ⟨(s.heap.push { cls := .type "range", data := .fields #[.int lo t, .int hi u, .int 1 v] }).objs.size, [(s.heap.push { cls := .type "range", data := .fields #[.int lo t, .int hi u, .int 1 v] }).objs.size], _, _, H, rfl,
  I1.kept (t' := tk) fun b o e => Heap.get?_push_of_some _ e, zlg _ lo (hi - lo).toNat, ?_, fun b hb => ?_, q⟩
 ·have e1 : lo + ((0 : Nat) : Int) * 1 = lo := by simp
  have e2 : (((hi - lo).toNat : Nat) : Int) - ((0 : Nat) : Int) = Builtin.Range.rangeSize lo hi 1 := by rw [rangeSize_one]; split <;> lia
  show IsRangeIter _ _ (lo + ((0 : Nat) : Int) * 1) ((((hi - lo).toNat : Nat) : Int) - ((0 : Nat) : Int)) 1
  rw [e1, e2]
  exact Heap.get?_push_size _ rfl
 ·have e : b = (s.heap.push { cls := .type "range", data := .fields #[.int lo t, .int hi u, .int 1 v] }).objs.size := by simpa using hb
  subst e
  exact I1.fpOk (Nat.le_refl _) (I1.hok.fresh (Nat.le_refl _))
noncomputable def iRng1 (ta : TA) : TI := fun σ H R => ta σ H fun vs H1 => ∃ j : Int, vs = [.int j] /\ -(2 ^ 62) <= j /\ j < 2 ^ 62 /\ R (Itr 0 j.toNat) H1
theorem zmL {a : Expr} {ta : TA} {p pos : Pos} (hg : Gl X "range") (hm : X.mg "range" = none) (ha : PA X [a] ta) (hs : starEach [a] X.env = [(false, eval a X.env)] := by rfl) : PI X tg (.Call (.Name "range" p) [a] [] pos) (iRng1 ta) := by
 intro pins s σ H R I h
 refine Call_ (zgF I hg hm boot_range (PyProof.Rows.callWith_type1 (thn (ha pos pins s σ H _ I h) fun us s1 ⟨vs, H1, I1, r1, q1⟩ => ?_) hs rfl))
 obtain ⟨j, e, q1, q2, q⟩ := q1
 subst e
 cases r1 with
 | cons r rr =>
  cases rr
  obtain ⟨t, rfl⟩ := r
  exact call_range_1 (range_it I1 (by lia) (by lia) q1 q2 (by simpa using q))
noncomputable def tFor (wi : TI) (g : TG) (tb : TS) : TS := fun D σ H => wi σ H fun J H1 => ∃ W : Nat -> Nat -> St -> Hp -> Prop, (∃ m, W 0 m σ H1) /\ ∀ i m σ H, W i m σ H ->
 (J.stop i H /\ D.nx σ H) \/ (J.go i H /\ ∃ N : St -> Hp -> Prop, (∀ σ' H', N σ' H' -> ∃ m', m' < m /\ W (i + 1) m' σ' H') /\ ∀ x H', J.yld i H x H' -> g x σ H' fun σ2 H2 => tb { D with nx := N, ct := N, bk := D.nx } σ2 H2)
noncomputable def zjG (fp : List Addr) (h : Heap) : List (Addr × Obj) := fp.filterMap fun b => (h.get? b).map fun o => (b, o)
theorem zeX (hb : b ∈ fp) (e : h.get? b = some o) : (b, o) ∈ zjG fp h := List.mem_filterMap.mpr ⟨b, hb, by rw [e]; rfl⟩
theorem zlL (hp : p ∈ zjG fp h) : p.1 ∈ fp /\ h.get? p.1 = some p.2 := by
 obtain ⟨b, hb, e⟩ := List.mem_filterMap.mp hp
 cases q : h.get? b with
 | none => rw [q] at e; cases e
 | some o =>
  rw [q] at e
  have e' : (b, o) = p := Option.some.inj e
  subst e'
  exact ⟨hb, q⟩
theorem Inv.pinned (I : Inv X pins σ H s) (hf : ∀ b ∈ fp, FpOk X pins H b) (ho : ∀ b ∈ fp, ∃ o, s.heap.get? b = some o /\ ∀ v, o.data ≠ .cell v) : Inv X (pins ++ zjG fp s.heap) σ H s :=
 I.pins_of fun p hp => (List.mem_append.mp hp).elim (fun z => I.pin p (List.mem_append_right _ z)) fun z => by
  obtain ⟨hb, e⟩ := zlL z
  obtain ⟨f0, f1, f2, _⟩ := hf p.1 hb
  obtain ⟨o, e', d⟩ := ho p.1 hb
  rw [e] at e'; cases e'
  exact ⟨e, f0, f1, f2, d⟩
theorem Inv.unpinned (I : Inv X (pins ++ pl) σ H s) : Inv X pins σ H s := I.pins_of fun p hp => I.pin p (List.mem_append_right _ (List.mem_append_left _ hp))
theorem ps_for {iter : Expr} {wi : TI} {g : TG} (hp : PassesOwn (model X.prog X.w) X.A X.env X.xe) (hc : X.calm = true) (hi : PI X tg iter wi) (hg : PG X tg g) (hb : PSs X body tb)
    (hs : ∀ x, foldedSetIterable iter X.env x = pure x := by intro _; rfl) : PS X (.For tg iter body [] pos) (tFor wi g tb) := by
  intro pins s σ H D I h
  refine wpAny_For (thn (hi pins s σ H _ I h) fun v s1 h1 => thn h1 fun itv s2 h2 => ?_) hs
  obtain ⟨it, fp, tn, J, H2, e, I2, T, st2, f2, W, ⟨m0, w0⟩, turn⟩ := h2
  subst e
  have stat : ∀ {H' : Hp}, (∀ b ∈ fp, H' b = none) -> ∀ b ∈ fp, FpOk X pins H' b := fun hn b hb => ⟨hn b hb, (f2 b hb).2⟩
  refine codeAny_forLoop_any (fun n s' => ∃ i σ' H', Inv X pins σ' H' s' /\ tn i s'.heap /\ (∀ b ∈ fp, H' b = none) /\ W i n σ' H') ?_ m0 ⟨0, σ, H2, I2, st2, fun b hb => (f2 b hb).1, w0⟩
  rintro n s3 ⟨i, σ3, H3, I3, st3, fr3, w3⟩
  rcases turn i n σ3 H3 w3 with ⟨stop, qn⟩ | ⟨go, N, hN, step⟩
  . refine wpAny_passesOwn hp (thn (T.done X rfl rfl rfl hc i pins s3 σ3 H3 X.xe I3 (stat fr3) st3 stop) fun r s4 ⟨hr, I4⟩ => ?_)
    subst hr
    exact wpAny_execs_nil ⟨σ3, H3, I4, qn⟩
  . refine wpAny_passesOwn hp (thn (T.item X rfl rfl rfl hc i pins s3 σ3 H3 X.xe I3 (stat fr3) st3 go) fun r s4 ⟨u, hr, h4⟩ => ?_)
    subst hr
    refine wpAny_passesOwn hp (thn h4 fun _ s5 ⟨x, H5, I5, r5, y5, st5, fr5⟩ => ?_)
    have I5' := I5.pinned (stat fr5) (T.obj _ _ st5)
    refine wpAny_passesOwn hp (thn (hg _ s5 σ3 H5 x u _ I5' r5 (step x H5 y5)) fun _ s6 ⟨σ6, H6, I6, q6⟩ => ?_)
    refine wpAny_passesOwn hp (thn (hb _ s6 σ6 H6 _ I6 q6) fun f s7 q7 => ?_)
    have again : ∀ {σ7 : St} {H7 : Hp}, Inv X (pins ++ zjG fp s5.heap) σ7 H7 s7 -> N σ7 H7 -> ∃ m, m < n /\ ∃ i σ' H', Inv X pins σ' H' s7 /\ tn i s7.heap /\ (∀ b ∈ fp, H' b = none) /\ W i m σ' H' := fun {σ7 H7} I7 n7 => by
      obtain ⟨m', hm, w7⟩ := hN σ7 H7 n7
      refine ⟨m', hm, i + 1, σ7, H7, I7.unpinned, T.keep _ _ _ st5 fun b hb o e => (I7.pin (b, o) (List.mem_append_right _ (List.mem_append_right _ (zeX hb e)))).1, fun b hb => ?_, w7⟩
      obtain ⟨o, e, d⟩ := T.obj _ _ st5 b hb
      exact (I7.pin (b, o) (List.mem_append_right _ (List.mem_append_right _ (zeX hb e)))).2.1
    cases f with
    | next => obtain ⟨σ7, H7, I7, n7⟩ := q7; exact again I7 n7
    | cont => obtain ⟨σ7, H7, I7, n7⟩ := q7; exact again I7 n7
    | brk => obtain ⟨σ7, H7, I7, q7⟩ := q7; exact ⟨σ7, H7, I7.unpinned, q7⟩
    | ret v => obtain ⟨x7, σ7, H7, I7, r7, q7⟩ := q7; exact ⟨x7, σ7, H7, I7.unpinned, r7, q7⟩
end
noncomputable abbrev R2 := V -> V -> Hp -> VK -> Prop
noncomputable def OpR (X : Cx) (f : Value -> Value -> Sem Value) (r : R2) : Prop :=
 ∀ (pins : List (Addr × Obj)) (s : Shared) (σ : St) (H : Hp) (x y : V) (v u : Value) (Q : VK), Inv X pins σ H s -> RelV x v -> RelV y u -> r x y H Q ->
  wpAny (model X.prog X.w) X.A (f v u) (EP X pins σ Q) X.xe s
noncomputable def UnR (X : Cx) (f : Value -> Sem Value) (r : V -> Hp -> VK -> Prop) : Prop :=
 ∀ (pins : List (Addr × Obj)) (s : Shared) (σ : St) (H : Hp) (x : V) (v : Value) (Q : VK), Inv X pins σ H s -> RelV x v -> r x H Q ->
  wpAny (model X.prog X.w) X.A (f v) (EP X pins σ Q) X.xe s
noncomputable def zeH (X : Cx) (f : Value) (r : List V -> Hp -> VK -> Prop) : Prop :=
 ∀ (pins : List (Addr × Obj)) (s : Shared) (σ : St) (H : Hp) (xs : List V) (us : List Value) (Q : VK), Inv X pins σ H s -> Vals xs us -> r xs H Q ->
  wpAny (model X.prog X.w) X.A (call f us) (EP X pins σ Q) X.xe s
noncomputable def TruR (X : Cx) (r : V -> Hp -> (Bool -> Hp -> Prop) -> Prop) : Prop :=
 ∀ (pins : List (Addr × Obj)) (s : Shared) (σ : St) (H : Hp) (x : V) (v : Value) (Q : Bool -> Hp -> Prop), Inv X pins σ H s -> RelV x v -> r x H Q ->
  wpAny (model X.prog X.w) X.A (truthy v) (TP X pins σ Q) X.xe s
noncomputable def tOp (r : R2) (ta tb : TE) : TE := fun σ H Q => ta σ H fun x H1 => tb σ H1 fun y H2 => r x y H2 Q
noncomputable def tUn (r : V -> Hp -> VK -> Prop) (ta : TE) : TE := fun σ H Q => ta σ H fun x H1 => r x H1 Q
noncomputable def rI (C : Int -> Int -> Prop) (g : Int -> Int -> V) : R2 := fun x y H Q => ∃ i j, x = .int i /\ y = .int j /\ C i j /\ Q (g i j) H
noncomputable def rI0 (g : Int -> Int -> V) : R2 := fun x y H Q => ∃ i j, x = .int i /\ y = .int j /\ Q (g i j) H
noncomputable def rU (g : Int -> V) : V -> Hp -> VK -> Prop := fun x H Q => ∃ i, x = .int i /\ Q (g i) H
section
variable {X : Cx} {a b c : Expr} {ta tb tc : TE} {pos : Pos}
theorem binT (ha : PE X a ta) (hb : PE X b tb) {R : V -> V -> Hp -> Prop} (I : Inv X pins σ H s)
  (h : ta σ H fun x H1 => tb σ H1 fun y H2 => R x y H2) {Q : Value -> Shared -> Prop} {f : Value -> Value -> Sem Value}
  (hf : ∀ v u s2 x y H2, Inv X pins σ H2 s2 -> RelV x v -> RelV y u -> R x y H2 -> wpAny (model X.prog X.w) X.A (f v u) Q X.xe s2) :
  wpAny (model X.prog X.w) X.A (eval a X.env) (fun v s₁ => wpAny (model X.prog X.w) X.A (eval b X.env) (fun u s₂ => wpAny (model X.prog X.w) X.A (f v u) Q X.xe s₂) X.xe s₁) X.xe s := by
 refine thn (ha pins s σ H _ I h) fun v s1 ⟨x, H1, I1, r1, q1⟩ => ?_
 refine thn (hb pins s1 σ H1 _ I1 q1) fun u s2 ⟨y, H2, I2, r2, q2⟩ => ?_
 exact hf v u s2 x y H2 I2 r1 r2 q2
theorem pe_op {op : Operator} {r : R2} (ho : OpR X (binaryOp op) r) (ha : PE X a ta) (hb : PE X b tb) : PE X (.BinOp a op b pos) (tOp r ta tb) := by
 intro pins s σ H Q I h
 exact wpAny_BinOp (binT ha hb I h fun v u s2 x y H2 I2 rx ry q => ho pins s2 σ H2 x y v u Q I2 rx ry q)
theorem pe_un {op : UnaryOp} (ho : UnR X (unaryOp op) r) (ha : PE X a ta) : PE X (.UnaryOp op a pos) (tUn r ta) := by
 intro pins s σ H Q I h
 exact UnaryOp_ (thn (ha pins s σ H _ I h) fun v s1 ⟨x, H1, I1, r1, q1⟩ => ho pins s1 σ H1 x v Q I1 r1 q1)
theorem opI 
  (rule : ∀ (i j : Int) (t u : Tok) (s : Shared) (Q : Value -> Shared -> Prop) (E : Value -> Shared -> Prop), C i j -> Q (.int (g i j) s.toks) { s with toks := s.toks + 1 } -> wpAny (model X.prog X.w) X.A (f (.int i t) (.int j u)) Q E s) :
  OpR X f (rI C fun i j => .int (g i j)) := by
 intro pins s σ H x y v u Q I rx ry h
 obtain ⟨i, j, rfl, rfl, hc, q⟩ := h
 obtain ⟨t, rfl⟩ := rx
 obtain ⟨t', rfl⟩ := ry
 exact rule i j t t' s _ _ hc ⟨.int (g i j), H, I.tok _, ⟨_, rfl⟩, q⟩
theorem opI0 
  (rule : ∀ (i j : Int) (t u : Tok) (s : Shared) (Q : Value -> Shared -> Prop) (E : Value -> Shared -> Prop), Q (.int (g i j) s.toks) { s with toks := s.toks + 1 } -> wpAny (model X.prog X.w) X.A (f (.int i t) (.int j u)) Q E s) :
  OpR X f (rI0 fun i j => .int (g i j)) := by
 intro pins s σ H x y v u Q I rx ry h
 obtain ⟨i, j, rfl, rfl, q⟩ := h
 obtain ⟨t, rfl⟩ := rx
 obtain ⟨t', rfl⟩ := ry
 exact rule i j t t' s _ _ ⟨.int (g i j), H, I.tok _, ⟨_, rfl⟩, q⟩
theorem opB0 {g : Int -> Int -> Bool}
  (rule : ∀ (i j : Int) (t u : Tok) (s : Shared) (Q : Value -> Shared -> Prop) (E : Value -> Shared -> Prop), Q (.bool (g i j)) s -> wpAny (model X.prog X.w) X.A (f (.int i t) (.int j u)) Q E s) :
  OpR X f (rI0 fun i j => .bl (g i j)) := by
 intro pins s σ H x y v u Q I rx ry h
 obtain ⟨i, j, rfl, rfl, q⟩ := h
 obtain ⟨t, rfl⟩ := rx
 obtain ⟨t', rfl⟩ := ry
 exact rule i j t t' s _ _ ⟨.bl (g i j), H, I, rfl, q⟩
noncomputable def CPow (i j : Int) : Prop := 0 <= j /\ j <= 1000000 /\ i.natAbs < 2 ^ 64
theorem op_add : OpR X (binaryOp .Add) (rI0 fun i j => .int (i + j)) := opI0 fun _ _ _ _ _ _ _ q => add_int q
theorem op_sub : OpR X (binaryOp .Sub) (rI0 fun i j => .int (i - j)) := opI0 fun _ _ _ _ _ _ _ q => sub_int q
theorem op_mod : OpR X (binaryOp .Mod) (rI (fun _ j => 0 < j) fun i j => .int (i % j)) := opI fun i j _ _ _ _ _ hc q => by
 have h1 : (0 : Int) < j := hc
 exact mod_int' (by lia) (by rw [Int.fmod_eq_emod_of_nonneg i (by lia)]; exact q)
theorem op_pow : OpR X (binaryOp .Pow) (rI CPow fun i j => .int (i ^ j.toNat)) := opI fun _ _ _ _ _ _ _ hc q => pow_int_small hc.1 hc.2.1 hc.2.2 q
theorem unI {f : Value -> Sem Value} {g : Int -> Int}
  (rule : ∀ (i : Int) (t : Tok) (s : Shared) (Q : Value -> Shared -> Prop) (E : Value -> Shared -> Prop), Q (.int (g i) s.toks) { s with toks := s.toks + 1 } -> wpAny (model X.prog X.w) X.A (f (.int i t)) Q E s) :
  UnR X f (rU fun i => .int (g i)) := by
 intro pins s σ H x v Q I rx h
 obtain ⟨i, rfl, q⟩ := h
 obtain ⟨t, rfl⟩ := rx
 exact rule i t s _ _ ⟨.int (g i), H, I.tok _, ⟨_, rfl⟩, q⟩
theorem un_neg : UnR X (unaryOp .USub) (rU fun i => .int (-i)) := unI fun _ _ _ _ _ q => neg_int q
end
section
variable {X : Cx} {a b c : Expr} {ta tb tc : TE} {pos : Pos}
theorem fin_bl {Q : VK} {k k' : Bool} (I : Inv X pins σ H s) (q : Q (.bl k) H) (e : k = k') : EP X pins σ Q (.bool k') s := by
 subst e
 exact ⟨.bl k, H, I, rfl, q⟩
theorem op_lt : OpR X (compareOp .Lt) (rI0 fun i j => .bl (decide (i < j))) := opB0 fun _ _ _ _ _ _ _ q => lt_int q
theorem zmt : OpR X (compareOp .LtE) (rI0 fun i j => .bl (decide (i <= j))) := opB0 fun _ _ _ _ _ _ _ q => le_int q
theorem op_gt : OpR X (compareOp .Gt) (rI0 fun i j => .bl (decide (j < i))) := opB0 fun _ _ _ _ _ _ _ q => gt_int q
theorem op_ge : OpR X (compareOp .GtE) (rI0 fun i j => .bl (decide (j <= i))) := opB0 fun _ _ _ _ _ _ _ q => ge_int q
theorem op_isN : OpR X (compareOp .Is) (fun x y H Q => y = .non /\ Q (.bl (decide (x = .non))) H) := by
 intro pins s σ H x y v u Q I rx ry h
 obtain ⟨rfl, q⟩ := h
 cases ry
 refine is_none_gen (fin_bl I q ?_)
 cases x <;> first
  | (cases rx; rfl)
  | (obtain ⟨t, rfl⟩ := rx; rfl)
theorem op_notN : OpR X (compareOp .IsNot) (fun x y H Q => y = .non /\ Q (.bl (!decide (x = .non))) H) := by
 intro pins s σ H x y v u Q I rx ry h
 obtain ⟨rfl, q⟩ := h
 cases ry
 refine isnot_none_gen (fin_bl I q ?_)
 cases x <;> first
  | (cases rx; rfl)
  | (obtain ⟨t, rfl⟩ := rx; rfl)
theorem OpR.or {r r' : R2} (h : OpR X f r) (h' : OpR X f r') : OpR X f (fun x y H Q => r x y H Q \/ r' x y H Q) := by
 intro pins s σ H x y v u Q I rx ry q
 rcases q with q | q
 ·exact h pins s σ H x y v u Q I rx ry q
 ·exact h' pins s σ H x y v u Q I rx ry q
theorem zgX (b : Expr) (h : op ≠ .In := by decide) (h2 : op ≠ .NotIn := by decide) : behindInMarks op b = false := by
 have e1 : (op == CmpOp.In) = false := by cases op <;> first | rfl | exact absurd rfl h
 have e2 : (op == CmpOp.NotIn) = false := by cases op <;> first | rfl | exact absurd rfl h2
 cases b <;> simp [behindInMarks, e1, e2]
theorem pe_cmpR {r : R2} (ho : OpR X (compareOp op) r) (ha : PE X a ta) (hb : PE X b tb) (hm : behindInMarks op b = false) : PE X (.Compare a [op] [b] pos) (tOp r ta tb) := by
 intro pins s σ H Q I h
 exact wpAny_Compare1 (binT ha hb I h fun v u s2 x y H2 I2 rx ry q => ho pins s2 σ H2 x y v u Q I2 rx ry q) hm
noncomputable def tTest (t : TE) : TT := fun σ H Q => t σ H fun x H' => ∃ k, x = .bl k /\ Q k H'
theorem pt_cmpR {r : R2} (ho : OpR X (compareOp op) r) (ha : PE X a ta) (hb : PE X b tb) (hm : behindInMarks op b = false) : PT X (.Compare a [op] [b] pos) (tTest (tOp r ta tb)) := by
 intro pins s σ H Q I h
 refine wpAny_isTrue_Compare1 (thn (ha pins s σ H _ I h) fun v s1 ⟨x, H1, I1, r1, q1⟩ => thn (hb pins s1 σ H1 _ I1 q1) fun u s2 ⟨y, H2, I2, r2, q2⟩ =>
  thn (ho pins s2 σ H2 x y v u _ I2 r1 r2 q2) fun c s3 ⟨z, H3, I3, r3, k, e, q3⟩ => ?_) hm
 subst e
 cases r3
 exact wpAny_truthy_bool ⟨H3, I3, q3⟩
noncomputable def zmp (r r' : R2) (ta tb tc : TE) : TE := fun σ H Q => ta σ H fun x H1 => tb σ H1 fun y H2 => r x y H2 fun z H3 => ∃ k, z = .bl k /\
 (if k = true then tc σ H3 fun w' H4 => r' y w' H4 Q else Q (.bl false) H3)
theorem pe_chain {r r' : R2} (ho : OpR X (compareOp op) r) (ho' : OpR X (compareOp op') r') (ha : PE X a ta) (hb : PE X b tb) (hc : PE X c tc)
  (hm : lastMarks [op, op'] [b, c] = false := by with_unfolding_all rfl) : PE X (.Compare a [op, op'] [b, c] pos) (zmp r r' ta tb tc) := by
 intro pins s σ H Q I h
 refine Compare_chain (thn (ha pins s σ H _ I h) fun v s1 ⟨x, H1, I1, r1, q1⟩ => chain_link (thn (hb pins s1 σ H1 _ I1 q1) fun u s2 ⟨y, H2, I2, r2, q2⟩ =>
  thn (ho pins s2 σ H2 x y v u _ I2 r1 r2 q2) fun d s3 ⟨z, H3, I3, r3, k, e, q3⟩ => ?_)) hm
 subst e
 cases r3
 refine wpAny_truthy_bool ?_
 cases k with
 | false => exact ite_ff ⟨.bl false, H3, I3, rfl, q3⟩
 | true => exact ite_tt (chain_last (thn (hc pins s3 σ H3 _ I3 q3) fun w' s4 ⟨z', H4, I4, r4, q4⟩ => ho' pins s4 σ H4 y z' u w' Q I4 r2 r4 q4))
theorem pt_chain {r r' : R2} (ho : OpR X (compareOp op) r) (ho' : OpR X (compareOp op') r') (ha : PE X a ta) (hb : PE X b tb) (hc : PE X c tc)
  (hm : lastMarks [op, op'] [b, c] = false := by with_unfolding_all rfl) : PT X (.Compare a [op, op'] [b, c] pos) (tTest (zmp r r' ta tb tc)) := by
 intro pins s σ H Q I h
 refine isTrue_chain (thn (ha pins s σ H _ I h) fun v s1 ⟨x, H1, I1, r1, q1⟩ => test_link (thn (hb pins s1 σ H1 _ I1 q1) fun u s2 ⟨y, H2, I2, r2, q2⟩ =>
  thn (ho pins s2 σ H2 x y v u _ I2 r1 r2 q2) fun d s3 ⟨z, H3, I3, r3, k, e, q3⟩ => ?_)) hm
 subst e
 cases r3
 refine wpAny_truthy_bool ?_
 cases k with
 | false =>
  obtain ⟨k', e', q'⟩ := q3
  cases e'
  exact ite_ff ⟨H3, I3, q'⟩
 | true =>
  refine ite_tt (test_last (thn (hc pins s3 σ H3 _ I3 q3) fun w' s4 ⟨z', H4, I4, r4, q4⟩ => thn (ho' pins s4 σ H4 y z' u w' _ I4 r2 r4 q4) fun d' s5 ⟨z2, H5, I5, r5, k2, e2, q5⟩ => ?_))
  subst e2
  cases r5
  exact wpAny_truthy_bool ⟨H5, I5, q5⟩
noncomputable def TruV (K : W.Frag) (x : V) (H : Hp) (k : Bool) : Prop :=
 match x with
 | .non => k = false
 | .bl b => k = b
 | .int i => k = (i != 0)
 | .str y => y.length <= sizeLine /\ k = ((y.length : Int) != 0)
 | .byt y => y.size <= sizeLine /\ k = ((y.size : Int) != 0)
 | .ref p => (∃ xs, SqL K H p xs /\ k = !xs.isEmpty) \/ (∃ xs, SqT K H p xs /\ k = !xs.isEmpty) \/ ∃ kvs, H p = some (.dK kvs) /\ k = !kvs.isEmpty
 | _ => False
theorem zk5 {κ : Type} {kvs : List (κ × V)} {vs : List (κ × Value)} (r : KV kvs vs) : (!vs.isEmpty) = !kvs.isEmpty := by
 cases r <;> rfl
theorem zh1 (r : Vals xs its) : (!its.toArray.isEmpty) = !xs.isEmpty := by
 cases r <;> simp
theorem zhX : (sizeLine : Nat) < 2 ^ 63 := by rw [sizeLine_eq]; decide
theorem tru_ok : TruR X (fun x H Q => ∃ k, TruV X.K x H k /\ Q k H) := by
 intro pins s σ H x v Q I rx h
 obtain ⟨k, e, q⟩ := h
 have hl := zhX
 have hs : sizeLine = 16777216 := sizeLine_eq
 cases x with
 | non =>
  cases rx
  have e' : k = false := e
  subst e'
  exact truthy_none ⟨H, I, q⟩
 | bl b =>
  cases rx
  have e' : k = b := e
  subst e'
  exact wpAny_truthy_bool ⟨H, I, q⟩
 | int i =>
  obtain ⟨t, rfl⟩ := rx
  have e' : k = (i != 0) := e
  subst e'
  exact PySem.P.truthy_int ⟨H, I, q⟩
 | str y =>
  obtain ⟨t, rfl⟩ := rx
  obtain ⟨hy, e'⟩ : y.length <= sizeLine /\ k = ((y.length : Int) != 0) := e
  subst e'
  exact PySem.P.truthy_str (by lia) ⟨H, I.tok _, q⟩
 | byt y =>
  obtain ⟨t, rfl⟩ := rx
  obtain ⟨hy, e'⟩ : y.size <= sizeLine /\ k = ((y.size : Int) != 0) := e
  subst e'
  exact W.truthy_bytes (by lia) ⟨H, I.tok _, q⟩
 | ref p =>
  cases rx
  have e' : (∃ xs, SqL X.K H p xs /\ k = !xs.isEmpty) \/ (∃ xs, SqT X.K H p xs /\ k = !xs.isEmpty) \/ ∃ kvs, H p = some (.dK kvs) /\ k = !kvs.isEmpty := e
  rcases e' with ⟨xs, hx, e'⟩ | ⟨xs, hx, e'⟩ | ⟨kvs, hx, e'⟩
  ·subst e'
   obtain ⟨its, r, pl, hz⟩ := I.list hx
   have hlen := r.length
   exact wpAny_truthy_list pl.isList (by simp only [List.size_toArray]; lia) ⟨H, I.tok _, by rw [zh1 r]; exact q⟩
  ·subst e'
   obtain ⟨its, r, pl, hz⟩ := I.tuple hx
   have hlen := r.length
   exact truthy_tuple pl (by simp only [List.size_toArray]; lia) ⟨H, I.tok _, by rw [zh1 r]; exact q⟩
  ·subst e'
   obtain ⟨hz, hS, vs, r, m⟩ : kvs.length <= sizeLine /\ (p == sysModules) = false /\ ∃ vs, KV kvs vs /\ s.heap.DictOf (zbO X.prog X.w) p vs := I.hok p _ hx
   have hlen : kvs.length = vs.length := Paired.length r
   exact wpAny_truthy_dict hS m (by lia) ⟨H, I.tok _, by rw [zk5 r]; exact q⟩
 | _ => exact (show False from e).elim
theorem pt_truth (ha : PE X a ta) (he : ∀ whole, isTrue a X.env whole = (do let v <- whole; standAt a.pos; holding [v] (truthy v))) :
  PT X a (fun σ H Q => ta σ H fun x H' => ∃ k, TruV X.K x H' k /\ Q k H') := by
 intro pins s σ H Q I h
 exact isTrue_plain (thn (ha pins s σ H _ I h) fun v s1 ⟨x, H1, I1, r1, q1⟩ => tru_ok pins s1 σ H1 x v Q I1 r1 q1) (he _)
theorem zk9 : OpR X (binaryOp .Add) (fun x y H Q => ∃ i j, x = .str i /\ y = .str j /\ i.length + j.length <= sizeLine /\ Q (.str (i ++ j)) H) := by
 intro pins s σ H x y v u Q I rx ry h
 obtain ⟨i, j, rfl, rfl, hz, q⟩ := h
 obtain ⟨t, rfl⟩ := rx
 obtain ⟨t', rfl⟩ := ry
 exact add_str (fun t' tk => ⟨.str (i ++ j), H, I.tok _, ⟨_, rfl⟩, q⟩) hz
theorem zg0 {x : V} (r : Vals [x] us) : ∃ u, us = [u] /\ RelV x u := by
 cases r with
 | cons r1 r2 => cases r2; exact ⟨_, rfl, r1⟩
theorem vals2 {x y : V} (r : Vals [x, y] us) : ∃ u w', us = [u, w'] /\ RelV x u /\ RelV y w' := by
 cases r with
 | cons r1 r2 =>
  cases r2 with
  | cons r3 r4 => cases r4; exact ⟨_, _, rfl, r1, r3⟩
theorem call_abs : zeH X (.builtin "abs") (fun xs H Q => ∃ i, xs = [.int i] /\ Q (.int (if i < 0 then -i else i)) H) := by
 intro pins s σ H xs us Q I r h
 obtain ⟨i, rfl, q⟩ := h
 obtain ⟨u, rfl, t, rfl⟩ := zg0 r
 exact call_abs_int fun u tk => ⟨.int (if i < 0 then -i else i), H, I.tok _, ⟨_, rfl⟩, q⟩
theorem zmh (hc : X.calm = true) : zeH X (.builtin "max") (fun xs H Q => ∃ i j, xs = [.int i, .int j] /\ Q (.int (if j > i then j else i)) H) := by
 intro pins s σ H xs us Q I r h
 obtain ⟨i, j, rfl, q⟩ := h
 obtain ⟨u, w', rfl, ⟨t, rfl⟩, ⟨t', rfl⟩⟩ := vals2 r
 refine max_two_ints (I.ok.hd hc) fun h' tk k => ⟨_, H, I.kept k, ?_, q⟩
 by_cases hj : j > i
 ·rw [if_pos hj, if_pos hj]; exact ⟨_, rfl⟩
 ·rw [if_neg hj, if_neg hj]; exact ⟨_, rfl⟩
theorem zl8 (hc : X.calm = true) : zeH X (.builtin "min") (fun xs H Q => ∃ i j, xs = [.int i, .int j] /\ Q (.int (if j < i then j else i)) H) := by
 intro pins s σ H xs us Q I r h
 obtain ⟨i, j, rfl, q⟩ := h
 obtain ⟨u, w', rfl, ⟨t, rfl⟩, ⟨t', rfl⟩⟩ := vals2 r
 refine min_two_ints (I.ok.hd hc) fun h' tk k => ⟨_, H, I.kept k, ?_, q⟩
 by_cases hj : j < i
 ·rw [if_pos hj, if_pos hj]; exact ⟨_, rfl⟩
 ·rw [if_neg hj, if_neg hj]; exact ⟨_, rfl⟩
theorem zlO : zeH X (.type "int") (fun xs H Q => (∃ i, xs = [.int i] /\ Q (.int i) H) \/ ∃ k, xs = [.bl k] /\ Q (.int (if k then 1 else 0)) H) := by
 intro pins s σ H xs us Q I r h
 rcases h with ⟨i, rfl, q⟩ | ⟨k, rfl, q⟩
 ·obtain ⟨u, rfl, t, rfl⟩ := zg0 r
  exact call_int_int ⟨.int i, H, I, ⟨_, rfl⟩, q⟩
 ·obtain ⟨u, rfl, r1⟩ := zg0 r
  cases r1
  exact call_int_bool ⟨.int (if k then 1 else 0), H, I.tok _, ⟨_, rfl⟩, q⟩
end
structure ObjM (h : Heap) (x dx C : Addr) (mA : Str -> Option Value) : Prop where
 obj : h.get? x = some (W.instObj C dx)
 ns : h.Ns1 dx mA
 ne : dx ≠ x
theorem zmU (n : h.Ns1 dx mA) : ∃ od, h.get? dx = some od /\ ∀ name, W.lookIn name od = some (mA name) := by
 obtain ⟨o, es, ep, ho, hd, hk, _, hm⟩ := n
 refine ⟨o, ho, fun name => ?_⟩
 have e := hm name
 unfold nsFind findBy at e
 rw [<- Array.find?_toList] at e
 unfold W.lookIn
 rw [hd]
 dsimp only
 split
 ·rename_i y q
  rw [q] at e
  exact congrArg some e
 ·rename_i q
  rw [q] at e
  have a : es.toList.any (·.refKey) = false := by
   rw [List.any_eq_false]
   intro y hy
   obtain ⟨z, t, hkey⟩ := hk y (Array.mem_toList_iff.mp hy)
   simp [DictEntry.refKey, hkey]
  have a' : ¬ es.toList.any (·.refKey) = true := by rw [a]; exact Bool.false_ne_true
  rw [if_neg a']
  exact congrArg some e
theorem ObjM.look {x dx C : Addr} (I : ObjM h x dx C mA) : ∃ od, W.InstAt h x (W.instObj C dx) C (some od) /\ ∀ name, W.lookIn name od = some (mA name) :=
 let ⟨od, ho, hl⟩ := zmU I.ns
 ⟨od, ⟨I.obj, rfl, rfl, ho⟩, hl⟩
theorem RelO.some_of {o : Option Value} (r : RelO (some v) o) : ∃ u, o = some u /\ RelV v u := by
 cases o with
 | none => exact (show False from r).elim
 | some u => exact ⟨u, rfl, r⟩
section
variable {P : Program} {w : World} {H H' : Hp} {h h' : Heap} {a C dx : Addr} {fs fs' : List (Str × V)}
theorem ins_get (hok : HOk P w H h) (e : H a = some (.ins C dx fs)) : ∃ mA, ObjM h a dx C mA /\ (∀ f, RelO (fs.lookup f) (mA f)) /\ PySem.Within mA (fs.map (·.1)) /\ fs.length <= 1000 /\ H dx = some (.own a) := by
 obtain ⟨d, z, ne, ob, mA, n, r, q⟩ := (show ObjOk P w H h a (.ins C dx fs) from hok a _ e)
 exact ⟨mA, ⟨ob, n, ne⟩, r, q, z, d⟩
end
structure Cls (K : W.Frag) (C : Addr) : Prop where
 pg : W.plainGet K C Str.empty = true
 hd : W.hasDictIn K C = true
 po : W.plainOver K C = true
 sa : W.findIn K (.ref C) "__setattr__" = some (some (.builtin "object.__setattr__"))
theorem Cls.get {C : Addr} (c : Cls K C) (f : Str) : W.plainGet K C f = true := c.pg
section
variable {X : Cx} {pins : List (Addr × Obj)} {σ : St} {H : Hp} {s : Shared} {A : Around} {E : Value -> Shared -> Prop} {Q : Value -> Shared -> Prop} {c : Value} {b : Bool}
inductive TyOf (K : W.Frag) (H : Hp) : V -> Value -> Prop where
 | non : TyOf K H .non (.type "NoneType")
 | bl (x : Bool) : TyOf K H (.bl x) (.type "bool")
 | int (i : Int) : TyOf K H (.int i) (.type "int")
 | str (x : Str) : TyOf K H (.str x) (.type "str")
 | flt (x : UInt64) : TyOf K H (.flt x) (.type "float")
 | lst {a : Addr} {xs : List V} (e : H a = some (.lst xs)) : TyOf K H (.ref a) (.type "list")
 | frz {a : Addr} {o : Obj} {xs : List V} (e : H a = some (.frz o (.lst xs))) : TyOf K H (.ref a) (.type "list")
 | tup {a : Addr} {xs : List V} (e : H a = some (.tup xs)) : TyOf K H (.ref a) (.type "tuple")
 | dK {a : Addr} {kvs : List (Key × V)} (e : H a = some (.dK kvs)) : TyOf K H (.ref a) (.type "dict")
 | dT {a : Addr} {kvs : List (List Key × V)} (e : H a = some (.dT kvs)) : TyOf K H (.ref a) (.type "dict")
 | ins {a C dx : Addr} {fs : List (Str × V)} (e : H a = some (.ins C dx fs)) (cl : Cls K C) (ha : W.findIn K (.ref C) "__class__" = some (some (.builtin "object.__class__")))
   (hn : W.specialIn K (.builtin "object.__class__") "__get__" = some (some (.builtin "getset_descriptor.__get__"))) (htk : W.takesIn K (.builtin "object.__class__") = some true)
   (hm : W.mroIn K C (.type "object") = some true) : TyOf K H (.ref a) (.ref C)
theorem zmX {x : V} {u t : Value} (I : Inv X pins σ H s) (rx : RelV x u) (ty : TyOf X.K H x t) (e : W.kitOne X.K t c = some b) (h : ∀ tk, Q (.bool b) { s with toks := tk }) :
  wpAny (model X.prog X.w) A (call (.builtin "isinstance") [u, c]) Q E s := by
 cases ty with
 | non => cases (show u = Value.none from rx); exact W.kia_one W.kitx_none I.kIn True.intro e (fun z => nomatch z) h
 | bl y => cases (show u = Value.bool y from rx); exact W.kia_one W.kitx_bool I.kIn True.intro e (fun z => nomatch z) h
 | int i => obtain ⟨t, q⟩ := (show ∃ t, u = Value.int i t from rx); cases q; exact W.kia_one W.kitx_int I.kIn True.intro e (fun z => nomatch z) h
 | str y => obtain ⟨t, q⟩ := (show ∃ t, u = Value.str y t from rx); cases q; exact W.kia_one W.kitx_str I.kIn True.intro e (fun z => nomatch z) h
 | flt y => obtain ⟨t, q⟩ := (show ∃ t, u = Value.float y t from rx); cases q; exact W.kia_one W.kitx_float I.kIn True.intro e (fun z => nomatch z) h
 | @lst a xs ea =>
  cases (show u = Value.ref a from rx)
  obtain ⟨_, _, n, _, h1⟩ := (show ObjOk X.prog X.w H s.heap a (.lst xs) from I.hok a _ ea)
  exact W.kia_one W.kitx_list I.kIn ⟨_, h1, rfl⟩ e (fun z => nomatch z) h
 | @frz a ob xs ea =>
  cases (show u = Value.ref a from rx)
  obtain ⟨_, _, _, n, _, h1⟩ := (show ObjOk X.prog X.w H s.heap a (.frz ob (.lst xs)) from I.hok a _ ea)
  exact W.kia_one W.kitx_list I.kIn ⟨_, h1, rfl⟩ e (fun z => nomatch z) h
 | @tup a xs ea =>
  cases (show u = Value.ref a from rx)
  obtain ⟨_, _, _, p⟩ := (show ObjOk X.prog X.w H s.heap a (.tup xs) from I.hok a _ ea)
  obtain ⟨o, h1, h2, _⟩ := p
  exact W.kia_one W.kitx_tuple I.kIn ⟨o, h1, h2⟩ e (fun z => nomatch z) h
 | @dK a kvs ea =>
  cases (show u = Value.ref a from rx)
  obtain ⟨_, _, vs, _, p⟩ := (show ObjOk X.prog X.w H s.heap a (.dK kvs) from I.hok a _ ea)
  obtain ⟨o, es, ep, h1, h2, _⟩ := p
  exact W.kia_one W.kitx_dict I.kIn ⟨o, h1, h2.1⟩ e (fun z => nomatch z) h
 | @dT a kvs ea =>
  cases (show u = Value.ref a from rx)
  obtain ⟨_, _, xs, _, o, es, ep, h1, h2, _⟩ := (show ObjOk X.prog X.w H s.heap a (.dT kvs) from I.hok a _ ea)
  exact W.kia_one W.kitx_dict I.kIn ⟨o, h1, h2.1⟩ e (fun z => nomatch z) h
 | @ins a C dx fs ea cl ha hn htk hm =>
  cases (show u = Value.ref a from rx)
  obtain ⟨mA, O, _⟩ := ins_get I.hok ea
  obtain ⟨od, J, _⟩ := O.look
  exact W.kia_one (W.kitx_own (cl.get _) cl.hd ha hn htk hm) I.kIn J e (fun z => nomatch z) h
end
structure Room (k : Nat) (A : Around) : Prop where
 hd : A.handled = none
 dp : A.depth + 3 * k + 5 < recursionLimit
 un : A.units + 16 * k + 200 < cLine
 gd : A.guards = some []
theorem Room.mono (r : Room k A) (h : j <= k) : Room j A := ⟨r.hd, by have := r.dp; lia, by have := r.un; lia, r.gd⟩
theorem Room.deeper (r : Room (k + 1) A) (env : Env) : Room k (A.deeper env) :=
 ⟨r.hd, by have := r.dp; show A.depth + 1 + 3 * k + 5 < _; lia, by have := r.un; show A.units + 3 + 16 * k + 200 < _; lia, r.gd⟩
theorem Room.depth (r : Room k A) : A.depth < recursionLimit := by have := r.dp; lia
theorem Room.units (r : Room k A) : A.units + 64 < cLine := by have := r.un; lia
noncomputable def tNil : TA := fun _ H Q => Q [] H
noncomputable def tCons (ta : TE) (tr : TA) : TA := fun σ H Q => ta σ H fun x H1 => tr σ H1 fun xs H2 => Q (x :: xs) H2
section
variable {X : Cx} {e : Expr} {es : List Expr} {te : TE} {t : TA} {pos : Pos}
theorem zjh : PA X [] tNil := fun _ _ _ _ H Q I h => Calls.spliced_nil ⟨[], H, I, .nil, h⟩
theorem zem (ha : PE X e te) (hr : PA X es t) (hs : starEach (e :: es) X.env = (false, eval e X.env) :: starEach es X.env := by rfl) : PA X (e :: es) (tCons te t) := by
 intro pos pins s σ H Q I h
 rw [hs]
 show wpAny _ _ (spliced ((false, eval e X.env) :: backTo pos (starEach es X.env))) _ _ s
 refine Calls.spliced_cons (thn (ha pins s σ H _ I h) fun u s1 ⟨x, H1, I1, r1, q1⟩ => ?_)
 exact thn (hr pos pins s1 σ H1 _ I1 q1) fun us s2 ⟨xs, H2, I2, r2, q2⟩ => ⟨x :: xs, H2, I2, .cons r1 r2, q2⟩
noncomputable def tTup (t : TA) : TE := fun σ H Q => t σ H fun xs H1 => xs.length <= sizeLine /\ ∀ p, H1 p = none -> Q (.ref p) (upd H1 p (.tup xs))
noncomputable def tLst (t : TA) : TE := fun σ H Q => t σ H fun xs H1 => xs.length <= sizeLine /\ ∀ p, H1 p = none -> Q (.ref p) (upd H1 p (.lst xs))
theorem pe_tup {x1} (h : PA X es t) : PE X (.Tuple es x1 pos) (tTup t) := by
 intro pins s σ H Q I hq
 refine wpAny_Tuple_spliced (thn (h pos pins s σ H _ I hq) fun us s1 ⟨xs, H1, I1, r, z, q⟩ => ⟨by rw [<- r.length]; exact z, ?_⟩)
 have hf : H1 s1.heap.objs.size = none := I1.hok.fresh (Nat.le_refl _)
 refine ⟨.ref s1.heap.objs.size, upd H1 s1.heap.objs.size (.tup xs), I1.laid (t' := s1.toks) (fun b u e => Heap.get?_push_of_some _ e) (Nat.le_refl _) ?_, rfl, q _ hf⟩
 exact ⟨z, us, r, ⟨_, Heap.get?_push_size _ rfl, rfl, _, rfl⟩⟩
theorem pe_lst (h : PA X es t) : PE X (.List es pos) (tLst t) := by
 intro pins s σ H Q I hq
 refine wpAny_List_spliced (thn (h pos pins s σ H _ I hq) fun us s1 ⟨xs, H1, I1, r, z, q⟩ => ⟨by rw [<- r.length]; exact z, ?_⟩)
 have hf : H1 s1.heap.objs.size = none := I1.hok.fresh (Nat.le_refl _)
 refine ⟨.ref s1.heap.objs.size, upd H1 s1.heap.objs.size (.lst xs), I1.laid (t' := s1.toks) (fun b u e => Heap.get?_push_of_some _ e) (Nat.le_refl _) ?_, rfl, q _ hf⟩
 exact ⟨z, us, 0, r, Heap.get?_push_size _ rfl⟩
end
noncomputable abbrev Sp := List V -> Hp -> VK -> XK -> Prop
noncomputable abbrev CXT := List Env -> Hp -> Shared -> XK -> Value -> Shared -> Prop
structure Env0 (P : Program) (w : World) (K : W.Frag) (mg : Str -> Option Value) (base : Heap) (A : Around) (outer : List Env) (s : Shared) (H : Hp) : Prop where
 frames : A.frames = some outer
 mod : Mod K mg base
 bs : ∀ b o, base.get? b = some o -> s.heap.get? b = some o /\ H b = none
 bsz : base.objs.size <= s.heap.objs.size
 funs : s.heap.FunFrames base outer
 frf : ∀ b ∈ frs outer, H b = none
 hok : HOk P w H s.heap
 bare : AllBare s.gens
noncomputable def CE (outer : List Env) (P : Program) (w : World) (H : Hp) (s : Shared) (Q : VK) (u : Value) (s' : Shared) : Prop :=
 ∃ v H', s'.os = s.os /\ AllBare s'.gens /\ Un (frs outer) [] H H' s.heap s'.heap /\ HOk P w H' s'.heap /\ RelV v u /\ Q v H'
noncomputable def CR (CX : CXT) (outer : List Env) (P : Program) (w : World) (H : Hp) (s : Shared) (Q : VK) (E : XK) (r : Result) (s' : Shared) : Prop :=
 match r with
 | .ok (.ret u) => CE outer P w H s Q u s'
 | .ok _ => False
 | .error e => CX outer H s E e s'
structure FnOk (P : Program) (w : World) (K : W.Frag) (mg : Str -> Option Value) (base : Heap) (CX : CXT) (k : Nat) (f : Addr) (fd : FuncData) (ps : List Str) (sp : Sp) : Prop where
 len : ∀ vs H Q E, sp vs H Q E -> vs.length = ps.length
 run : ∀ (A : Around) (outer : List Env) (s : Shared) (H : Hp) (args : Args) (us : List Value) (vs : List V) (Q : VK) (E : XK), Room k A -> Env0 P w K mg base A outer s H -> BindsTo s fd args (ps.zip us) -> Vals vs us -> sp vs H Q E ->
  codeAny (model P w) A (.call (.ref f) args) (CR CX outer P w H s Q E) s
section
variable {X : Cx} {pins : List (Addr × Obj)} {σ : St} {H : Hp} {s s' : Shared}
theorem Inv.env0 (I : Inv X pins σ H s) : Env0 X.prog X.w X.K X.mg X.base X.A X.stack s H :=
 ⟨I.ok.frames, I.ok.mod, I.bs, Nat.le_trans I.ok.bsz I.sz, I.stack, I.stkFree, I.hok, I.bare⟩
theorem Inv.after {Q : VK} (I : Inv X pins σ H s) (h : CE X.stack X.prog X.w H s Q u s') : EP X pins σ Q u s' := by
 obtain ⟨v, H', os, bare, un, hok, r, q⟩ := h
 obtain ⟨hh, g, d, t, os'⟩ := s'
 obtain rfl : os' = s.os := os
 exact ⟨v, H', I.call (h' := hh) (g' := g) (d' := d) (t' := t) (ch := []) un hok bare (fun b z => absurd z (by simp)), r, q⟩
end
noncomputable def tCall (sp : Sp) (dvs : List V) (E : XK) (t : TA) : TE := fun σ H Q => t σ H fun vs H1 => sp (vs ++ dvs) H1 Q E
noncomputable def Binds (K : W.Frag) (fd : FuncData) (ps : List Str) (ds : List Value) : Prop :=
 ∀ (s : Shared) (us : List Value), K.In s.heap -> (us ++ ds).length = ps.length -> BindsTo s fd ⟨us, []⟩ (ps.zip (us ++ ds))
theorem Binds.all (h : ∀ us : List Value, us.length = ps.length -> bindArgs fd ⟨us, []⟩ = pure (ps.zip us)) : Binds K fd ps [] := fun s us _ hl => by
 rw [List.append_nil] at hl ⊢
 exact .of_eq (h us hl)
noncomputable def zmq (CX : CXT) (X : Cx) (E : XK) : Prop := ∀ (pins : List (Addr × Obj)) (σ : St) (H : Hp) (s : Shared) (e : Value) (s' : Shared), Inv X pins σ H s -> CX X.stack H s E e s' -> X.xe e s'
section
variable {X : Cx} {CX : CXT} {k : Nat} {f C : Addr} {fd : FuncData} {ps : List Str} {sp : Sp} {dvs : List V} {ds : List Value} {E : XK} {x m : Str} {p pos apos : Pos} {e o : Expr} {es : List Expr} {ta : TE} {t : TA}
theorem run_fn {Q : VK} (F : FnOk X.prog X.w X.K X.mg X.base CX k f fd ps sp) (hr : Room k X.A) (hb : Binds X.K fd ps ds) (hd : Vals dvs ds) (hx : zmq CX X E)
  (I : Inv X pins σ H s) (r : Vals vs us) (h : sp (vs ++ dvs) H Q E) : wpAny (model X.prog X.w) X.A (call (.ref f) us) (EP X pins σ Q) X.xe s := by
 have r2 : Vals (vs ++ dvs) (us ++ ds) := r.append hd
 have hl : (us ++ ds).length = ps.length := by rw [<- r2.length]; exact F.len _ _ _ _ h
 refine wpAny_call (codeAny_mono (F.run X.A X.stack s H ⟨us, []⟩ (us ++ ds) (vs ++ dvs) Q E hr I.env0 (hb s us I.kIn hl) r2 h) fun r s' hq => ?_)
 cases r with
 | error e => exact hx pins σ H s e s' I hq
 | ok fl =>
  cases fl with
  | ret u => exact I.after hq
  | next => exact False.elim hq
  | brk => exact False.elim hq
  | cont => exact False.elim hq
theorem zih (F : FnOk X.prog X.w X.K X.mg X.base CX k f fd ps sp) (hr : Room k X.A) (hg : Gl X x) (hm : X.mg x = some (.ref f)) (hk : W.keepIn X.K (.ref f) = true) (hb : Binds X.K fd ps ds) (hd : Vals dvs ds) (hx : zmq CX X E)
  (ha : PA X (e :: es) t) (hdb : (x == ("__debug__" : Str)) = false := by decide) (he : starEach (e :: es) X.env = (false, eval e X.env) :: starEach es X.env := by rfl) (hpl : (backTo pos (starEach es X.env)).any (·.1) = false := by rfl) :
  PE X (.Call (.Name x p) (e :: es) [] pos) (tCall sp dvs E t) := by
 intro pins s σ H Q I h
 refine wpAny_Call_Name_kw (ld_glob I hg hm ?_ hdb)
 refine W.callWith_K (h₀ := X.base) I.ok.mod.kin hk (thn (ha pos pins s σ H _ I h) fun us s1 ⟨vs, H1, I1, r, q⟩ => ⟨I1.kIn, ?_⟩) he hpl
 exact run_fn F hr hb hd hx I1 r q
end
structure FnScope (N P : List Str) (sc : Scope) : Prop where
 kind : sc.kind = .function
 co : sc.isCoroutine = false
 gen : sc.isGenerator = false
 nd : N.Nodup
 pre : N.take P.length = P
 par : ∀ x ∈ P, sc.names.lookup x = some .local \/ sc.names.lookup x = some .cell
 nofree : ∀ y ∈ sc.names, y.2 ≠ .free
theorem ziY : ∀ {binds : List (Str × Value)} {m : Str -> Option Value}, (∀ v, (x, v) ∉ binds) -> bindL kindOf binds m x = m x
 | [], _, _ => rfl
 | (n, v) :: r, m, h => by
  unfold bindL
  rw [ziY fun w hw => h w (List.mem_cons_of_mem _ hw)]
  split
  ·have : x ≠ n := by rintro rfl; exact h v List.mem_cons_self
   simp [this]
  ·rfl
theorem zjL : ∀ {binds : List (Str × Value)} {m : Str -> Option Value}, (∀ v, (x, v) ∉ binds) -> bindC kindOf binds m x = m x
 | [], _, _ => rfl
 | (n, v) :: r, m, h => by
  unfold bindC
  rw [zjL fun w hw => h w (List.mem_cons_of_mem _ hw)]
  split
  ·rfl
  ·have : x ≠ n := by rintro rfl; exact h v List.mem_cons_self
   simp [this]
theorem zjy {v : Value} : ∀ {P : List Str} {vs : List Value} {i : Nat} {m : Str -> Option Value}, P.Nodup -> P[i]? = some x -> vs[i]? = some v -> kindOf x = some .local ->
  bindL kindOf (P.zip vs) m x = some v
 | [], _, _, _, _, h, _, _ => by simp at h
 | _ :: _, [], _, _, _, _, h, _ => by simp at h
 | p :: P, w :: vs, 0, m, nd, h1, h2, hk => by
  simp at h1 h2; subst h1; subst h2
  show bindL kindOf ((p, w) :: P.zip vs) m p = _
  unfold bindL
  rw [ziY fun v hv => (List.nodup_cons.mp nd).1 (List.of_mem_zip hv).1, if_pos hk]
  simp
 | p :: P, w :: vs, i + 1, m, nd, h1, h2, hk => by
  show bindL kindOf ((p, w) :: P.zip vs) m x = _
  unfold bindL
  exact zjy (i := i) (List.nodup_cons.mp nd).2 (by simpa using h1) (by simpa using h2) hk
theorem ziV {v : Value} : ∀ {P : List Str} {vs : List Value} {i : Nat} {m : Str -> Option Value}, P.Nodup -> P[i]? = some x -> vs[i]? = some v -> kindOf x ≠ some .local ->
  bindC kindOf (P.zip vs) m x = some v
 | [], _, _, _, _, h, _, _ => by simp at h
 | _ :: _, [], _, _, _, _, h, _ => by simp at h
 | p :: P, w :: vs, 0, m, nd, h1, h2, hk => by
  simp at h1 h2; subst h1; subst h2
  show bindC kindOf ((p, w) :: P.zip vs) m p = _
  unfold bindC
  rw [zjL fun v hv => (List.nodup_cons.mp nd).1 (List.of_mem_zip hv).1, if_neg hk]
  simp
 | p :: P, w :: vs, i + 1, m, nd, h1, h2, hk => by
  show bindC kindOf ((p, w) :: P.zip vs) m x = _
  unfold bindC
  exact ziV (i := i) (List.nodup_cons.mp nd).2 (by simpa using h1) (by simpa using h2) hk
noncomputable def start (N : List Str) (vs : List V) : St := vs.map some ++ List.replicate (N.length - vs.length) none
noncomputable def cxOf (CX : CXT) (P : Program) (w : World) (K : W.Frag) (mg : Str -> Option Value) (base : Heap) (N : List Str) (qual : Str) (scope : Scope) (f : Addr) (cd : Value) (A : Around) (outer : List Env) (s : Shared) (H : Hp) (E : XK) : Cx where
 prog := P
 w := w
 K := K
 mg := mg
 base := base
 A := A.deeper (envOfC qual scope s.heap.objs.size f cd)
 N := N
 s₀ := s
 H₀ := H
 env := envOfC qual scope s.heap.objs.size f cd
 outer := outer
 stack := envOfC qual scope s.heap.objs.size f cd :: outer
 ex := []
 calm := true
 fn := fun _ => true
 pn := []
 xe := fun e s' => wpAny (model P w) (A.deeper (envOfC qual scope s.heap.objs.size f cd)) (leaving (envOfC qual scope s.heap.objs.size f cd) e) (fun _ s'' => CX outer H s E e s'') (fun e' s'' => CX outer H s E e' s'') s'
theorem zkI (h : sc.names.lookup x = some .cell) : ∃ c, (cellsFrom n sc.names []).lookup x = some c := by
 have q := W.cellsFrom_some sc.names n [] (.inl h)
 exact Option.isSome_iff_exists.mp q
theorem zlE {P : Program} {f : Addr} {s s1 : Shared} {E : XK} 
  (S : FnScope N ps scope) (hd : A.handled = none) (e0 : Env0 P w K mg base A outer s H) (hl : vs.length = ps.length) (r : Vals vs us)
  (x : InCallC s s.heap.objs.size (bindL (envOfC qual scope s.heap.objs.size f cd).kindOf (ps.zip us) fun _ => none) (cellsFrom (s.heap.objs.size + 1) scope.names []) (bindC (envOfC qual scope s.heap.objs.size f cd).kindOf (ps.zip us) fun _ => none) s1) :
  Inv (cxOf CX P w K mg base N qual scope f cd A outer s H E) [] (start N vs) H s1 := by
 have hpl : ps.length <= N.length := by have := congrArg List.length S.pre; rw [List.length_take] at this; lia
 obtain ⟨h1, tk, rfl, hk⟩ := x.done
 have noA : ∀ b : Addr, b ∉ (cxOf CX P w K mg base N qual scope f cd A outer s H E).ex := fun b z => absurd (show b ∈ ([] : List Addr) from z) (by simp)
 refine ⟨⟨e0.mod, S.kind, rfl, rfl, Nat.le_refl _, fun y z c h1 h2 => ?_, fun y hy => ?_, fun y c _ h => ?_, fun _ => hd, Around.frames_deeper e0.frames, .inr ⟨rfl, rfl⟩, fun b z => absurd z (noA b), e0.bs, e0.bsz, fun b _ _ => noA b, fun b z => absurd z (noA b), e0.funs, e0.frf⟩,
  rfl, e0.bare, Un.kept hk, ⟨_, x.toInCall.ns, fun i y v h1 h2 h3 => ?_⟩, fun y c h => ⟨_, x.cell y c h⟩, e0.hok.fresh (Nat.le_refl _), fun y c h => ?_, fun p hp => absurd (show p ∈ ([] : List (Addr × Obj)) from hp) (by simp), e0.hok.kept hk, ?_⟩
 ·exact name_of_addr x.apart (PySem.mem_of_lookup h1) (PySem.mem_of_lookup h2)
 ·have hy : scope.names.lookup y = some .cell \/ scope.names.lookup y = some .free := hy
  rcases hy with hy | hy
  ·exact zkI hy
  ·exact absurd rfl (S.nofree _ (PySem.mem_of_lookup hy))
 ·exact Nat.le_of_lt (x.above y c (PySem.mem_of_lookup h))
 ·have hi : i < vs.length := by
   unfold start at h2
   by_cases hi : i < vs.length
   ·exact hi
   ·rw [List.getElem?_append_right (by simpa using hi)] at h2
    rw [List.getElem?_replicate] at h2
    split at h2 <;> cases h2
  have ha : vs[i]? = some v := by
   unfold start at h2
   rw [List.getElem?_append_left (by simpa using hi), List.getElem?_map] at h2
   cases e : vs[i]? with
   | none => rw [e] at h2; cases h2
   | some a => rw [e] at h2; cases h2; rfl
  obtain ⟨u, hu, rv⟩ := r.get ha
  have hp : ps[i]? = some y := by
   rw [<- S.pre, List.getElem?_take_of_lt (by lia)]; exact h1
  have ndP : ps.Nodup := by rw [<- S.pre]; exact S.nd.sublist (List.take_sublist _ _)
  refine ⟨u, rv, ?_⟩
  rcases S.par y (List.mem_of_getElem? hp) with k | k
  ·exact .inl ⟨k, zjy ndP hp hu k⟩
  ·obtain ⟨c, e⟩ := zkI (n := s.heap.objs.size + 1) k
   refine .inr ⟨.inl k, c, e, ?_⟩
   have q := x.cell y c e
   rw [ziV ndP hp hu (by show scope.names.lookup y ≠ _; rw [k]; decide)] at q
   exact q
 ·exact e0.hok.fresh (Nat.le_of_lt (x.above y c (PySem.mem_of_lookup h)))
 ·unfold start
  show _ = N.length
  rw [List.length_append, List.length_map, List.length_replicate]
  lia
theorem fn_of {P : Program} {f : Addr} {name qual : Str} {dV kV doc pm cdv ct oc : Value} {an od : Option Addr}
  {osl : Array (Option Value)} {N ps : List Str} {sp : Sp} (lk : K.lookup f = some ⟨oc, od, .func (W.fnOf name qual params body scope dV kV doc pm an cdv ct), osl⟩) (hcd : W.codeIn K cdv qual = true) (S : FnScope N ps scope)
  (len : ∀ vs H Q E, sp vs H Q E -> vs.length = ps.length)
  (hbody : ∀ (A : Around) (outer : List Env) (s : Shared) (H : Hp) (vs : List V) (Q : VK) (E : XK), Room k (A.deeper (envOfC qual scope s.heap.objs.size f cdv)) -> sp vs H Q E ->
   ∃ t, PSs (cxOf CX P w K mg base N qual scope f cdv A outer s H E) body t /\ t { nx := fun _ H' => Q .non H', rt := Q } (start N vs) H) :
  FnOk P w K mg base CX (k + 1) f (W.fnOf name qual params body scope dV kV doc pm an cdv ct) ps sp := by
 refine ⟨len, fun A outer s H args us vs Q E hr e0 hb r hsp => ?_⟩
 have hl := len _ _ _ _ hsp
 have KX : K.In s.heap := e0.mod.kin.keeps fun b o e => (e0.bs b o e).1
 have lim : s.heap.NoLimit := e0.mod.nolimit.keeps fun b o e => (e0.bs b o e).1
 have hkind : ∀ y ∈ ps.zip us, scope.names.lookup y.1 = some .local \/ (scope.names.lookup y.1 = some .cell /\ ((cellsFrom (s.heap.objs.size + 1) scope.names []).lookup y.1).isSome = true) := fun ⟨n, v⟩ hy => by
  rcases S.par n (List.of_mem_zip hy).1 with q | q
  ·exact .inl q
  ·exact .inr ⟨q, W.cellsFrom_some _ _ _ (.inl q)⟩
 refine codeAny_call_function hr.depth (KX _ _ lk) rfl S.co S.gen rfl (W.codeRec_of KX hcd) (hb _ _ _ _ ?_)
 refine wpAny_newFunctionEnv_cells S.kind hkind fun env he s1 x => ?_
 subst he
 refine ⟨lim.keeps x.toInCall.keep, codeAny_func ?_⟩
 obtain ⟨t, ht, hq⟩ := hbody A outer s H vs Q E (hr.deeper _) hsp
 have I : Inv (cxOf CX P w K mg base N qual scope f cdv A outer s H E) [] (start N vs) H s1 := zlE S hr.hd e0 hl r x
 refine wpAny_mono (ht [] s1 (start N vs) H _ I hq) (fun fl s' hs => ?_) fun e s' hs => hs
 have fin : ∀ {σ' : St} {H' : Hp} {v : V} {u : Value}, Inv (cxOf CX P w K mg base N qual scope f cdv A outer s H E) [] σ' H' s' -> RelV v u -> Q v H' -> CE outer P w H s Q u s' :=
  fun {σ' H' v u} J rv q => ⟨v, H', J.os, J.bare, J.base, J.hok, rv, q⟩
 cases fl with
 | ret u =>
  obtain ⟨v, σ', H', J, rv, q⟩ := hs
  exact fin J rv q
 | next =>
  obtain ⟨σ', H', J, q⟩ := hs
  exact fin (v := V.non) (u := Value.none) J rfl q
 | brk =>
  obtain ⟨_, _, _, q⟩ := hs
  exact False.elim q
 | cont =>
  obtain ⟨_, _, _, q⟩ := hs
  exact False.elim q
section
variable {X : Cx} {x : Str} {p pos : Pos} {e : Expr} {es : List Expr} {t : TA} {id T : String} {r : List V -> Hp -> VK -> Prop}
noncomputable def tCB (r : List V -> Hp -> VK -> Prop) (t : TA) : TE := fun σ H Q => t σ H fun vs H1 => r vs H1 Q
theorem zir (hc : zeH X (.builtin id) r) (hg : Gl X x) (hm : X.mg x = none) (hv : bootBuiltins x = some (.builtin id)) (ha : PA X (e :: es) t) (hn : x ≠ "__name__" := by decide) (hdb : (x == ("__debug__" : Str)) = false := by decide)
  (he : starEach (e :: es) X.env = (false, eval e X.env) :: starEach es X.env := by rfl) (hpl : (backTo pos (starEach es X.env)).any (·.1) = false := by rfl) : PE X (.Call (.Name x p) (e :: es) [] pos) (tCB r t) := by
 intro pins s σ H Q I h
 refine wpAny_Call_Name_kw (zgF I hg hm hv ?_ hn hdb)
 exact PyProof.Rows.callWith_builtin1 (thn (ha pos pins s σ H _ I h) fun us s1 ⟨vs, H1, I1, r1, q1⟩ => hc pins s1 σ H1 vs us Q I1 r1 q1) he hpl
theorem zjs (hc : zeH X (.type T) r) (hg : Gl X x) (hm : X.mg x = none) (hv : bootBuiltins x = some (.type T)) (ha : PA X (e :: es) t) (hn : x ≠ "__name__" := by decide) (hdb : (x == ("__debug__" : Str)) = false := by decide)
  (he : starEach (e :: es) X.env = (false, eval e X.env) :: starEach es X.env := by rfl) (hpl : (backTo pos (starEach es X.env)).any (·.1) = false := by rfl) : PE X (.Call (.Name x p) (e :: es) [] pos) (tCB r t) := by
 intro pins s σ H Q I h
 refine wpAny_Call_Name_kw (zgF I hg hm hv ?_ hn hdb)
 exact PyProof.Rows.callWith_type1 (thn (ha pos pins s σ H _ I h) fun us s1 ⟨vs, H1, I1, r1, q1⟩ => hc pins s1 σ H1 vs us Q I1 r1 q1) he hpl
end
end L2
namespace HT
open PyProof.Rows PySem
section
variable {prog : Program} {w : World} {A : Around} {E : Value -> Shared -> Prop} {s : Shared}
theorem cat_tup {t b : Addr} {vs ws : List Value} {Q : Value -> Shared -> Prop} (ht : IsTup s.heap t vs.toArray) (hb : IsTup s.heap b ws.toArray) (hv : vs ≠ [])
  (h1 : ws = [] -> Q (.ref t) s) (h2 : ws ≠ [] -> Q (.ref s.heap.objs.size) { s with heap := s.heap.push { cls := .type "tuple", data := .seq (vs ++ ws).toArray } })
  (hsz : vs.length + ws.length <= sizeLine) : wpAny (model prog w) A (binaryOp .Add (.ref t) (.ref b)) Q E s := by
 obtain ⟨⟨cls, dd, data, sl⟩, ho, hc, n, hd⟩ := id ht
 obtain ⟨⟨cls2, dd2, data2, sl2⟩, ho2, hc2, n2, hd2⟩ := id hb
 simp only at hc hd hc2 hd2
 subst hc hd hc2 hd2
 have e : vs.toArray ++ ws.toArray = (vs ++ ws).toArray := by simp
 by_cases hw : ws = []
 ·exact concat_meets ⟨_, ho, rfl⟩ ⟨_, ho2, rfl⟩ noFill_tuple_add seq_tuple_add PySem.F.slot_tuple_add PySem.F.entry_tuple_add (PySem.F.args_tuple_add_2 _ _)
   (tuple_addW1 t b vs.toArray ws.toArray n n2 dd dd2 sl sl2 (by simpa using hv) (by simp [hw])) ⟨ho, ho2, h1 hw⟩
 ·refine concat_meets ⟨_, ho, rfl⟩ ⟨_, ho2, rfl⟩ noFill_tuple_add seq_tuple_add PySem.F.slot_tuple_add PySem.F.entry_tuple_add (PySem.F.args_tuple_add_2 _ _)
   (tuple_addW2 t b vs.toArray ws.toArray n n2 dd dd2 sl sl2 (by simpa using hv) (by simpa using hw) (by rw [List.size_toArray, List.size_toArray]; exact hsz)) ⟨ho, ho2, ?_⟩
  rw [e]
  exact h2 hw
noncomputable def sIx (n d : Nat) : Option Int -> Nat
 | none => d
 | some v => if v < 0 then (v + (n : Int)).toNat else min v.toNat n
theorem zii (n d : Nat) : sIx n d none = d := rfl
theorem zik (n d k : Nat) : sIx n d (some (k : Int)) = min k n := by
 show (if (k : Int) < 0 then ((k : Int) + (n : Int)).toNat else min (k : Int).toNat n) = min k n
 rw [if_neg (by lia), Int.toNat_natCast]
theorem sIx_le (n d : Nat) (hd : d <= n) (o : Option Int) : sIx n d o <= n := by
 cases o with
 | none => exact hd
 | some v =>
  show (if v < 0 then (v + (n : Int)).toNat else min v.toNat n) <= n
  by_cases hv : v < 0
  ·rw [if_pos hv]; lia
  ·rw [if_neg hv]; exact Nat.min_le_right _ _
theorem zl7 (v : Int) (n d : Nat) : (if v < 0 then max (v + (n : Int)) 0 else min v (n : Int)) = ((sIx n d (some v) : Nat) : Int) := by
 show (if v < 0 then max (v + (n : Int)) 0 else min v (n : Int)) = (((if v < 0 then (v + (n : Int)).toNat else min v.toNat n) : Nat) : Int)
 by_cases hv : v < 0
 ·simp only [if_pos hv]; lia
 ·simp only [if_neg hv]; lia
theorem zlb (lo hi : Option Int) (n : Nat) : Builtin.Slice.sliceAdjust lo hi 1 (n : Int) = (((sIx n 0 lo : Nat) : Int), ((sIx n n hi : Nat) : Int)) := by
 have h1 : ¬ ((1 : Int) < 0) := by lia
 unfold Builtin.Slice.sliceAdjust
 simp only [h1, if_false]
 refine Prod.ext ?_ ?_
 ·cases lo with
  | none => rfl
  | some v => exact zl7 v n 0
 ·cases hi with
  | none => rfl
  | some v => exact zl7 v n n
theorem zlw (i j : Nat) : Builtin.Slice.slicePlaces (i : Int) (j : Int) 1 = j - i := by
 unfold Builtin.Slice.slicePlaces
 have h1 : (1 : Int) > 0 := by lia
 simp only [h1, if_true, Int.ediv_one]
 split <;> lia
theorem zhU {v : Value} {o : Option Int} {Q : Option Int -> Shared -> Prop} (p : IsPart v o) (h : Q o s) : wpAny (model prog w) A (Builtin.Slice.slicePartIndex v) Q E s := by
 cases p with
 | none => exact slicePart_none h
 | int i t => exact slicePart_int h
theorem zd3 {sl : Addr} {vl vu : Value} {lo hi : Option Int} {n : Nat} {Q : Int × Int × Nat -> Shared -> Prop} (hs : s.heap.IsSliceOf sl vl vu .none) (pl : IsPart vl lo) (pu : IsPart vu hi)
  (h : Q (((sIx n 0 lo : Nat) : Int), 1, sIx n n hi - sIx n 0 lo) s) : wpAny (model prog w) A (Builtin.Slice.sliceApplied (.ref sl) (pure (n : Int))) Q E s := by
 obtain ⟨os, hos, hcs, hds⟩ := id hs
 unfold Builtin.Slice.sliceApplied Builtin.Slice.sliceFields
 refine wpAny_bind (wpAny_bind (wpAny_field hos hds (x := vl) rfl (wpAny_bind (wpAny_field hos hds (x := vu) rfl (wpAny_bind (wpAny_field hos hds (x := .none) rfl (wpAny_pure ?_)))))))
 refine wpAny_bind (slicePart_none ?_)
 show wpAny _ _ (if ((1 : Int) == 0) = true then _ else _) _ _ s
 rw [if_neg (by decide)]
 refine wpAny_bind (zhU pl (wpAny_bind (zhU pu (wpAny_bind (wpAny_pure ?_)))))
 show wpAny _ _ (match Builtin.Slice.sliceAdjust lo hi 1 (n : Int) with | (lo, hi) => pure (lo, (1 : Int), Builtin.Slice.slicePlaces lo hi 1)) _ _ s
 rw [zlb lo hi n]
 show wpAny _ _ (pure (((sIx n 0 lo : Nat) : Int), (1 : Int), Builtin.Slice.slicePlaces ((sIx n 0 lo : Nat) : Int) ((sIx n n hi : Nat) : Int) 1)) _ _ s
 rw [zlw]
 exact wpAny_pure h
theorem pick_gen (xs : Array Value) (i k : Nat) : ((List.range k).filterMap fun (m : Nat) => xs[((i : Int) + (m : Int) * 1).toNat]?).toArray = ((xs.toList.drop i).take k).toArray := by
 have e : (fun (m : Nat) => xs[((i : Int) + (m : Int) * 1).toNat]?) = fun m => xs[i + m]? := by
  funext m
  have : ((i : Int) + (m : Int) * 1).toNat = i + m := by lia
  rw [this]
 rw [e]
 have := pick_run xs i k
 rw [List.filterMap_map] at this
 have e2 : ((fun x => xs[x]?) ∘ fun x => i + x) = fun m => xs[i + m]? := rfl
 rw [e2] at this
 rw [this]
theorem zgw {t sl : Addr} {items : Array Value} {vl vu : Value} {lo hi : Option Int} {Q : Value -> Shared -> Prop} (ht : IsTup s.heap t items) (hs : s.heap.IsSliceOf sl vl vu .none) (pl : IsPart vl lo) (pu : IsPart vu hi)
  (hw : ¬ (sIx items.size 0 lo = 0 /\ sIx items.size items.size hi = items.size))
  (h : Q (.ref s.heap.objs.size) { s with heap := s.heap.push { cls := .type "tuple", data := .seq ((items.toList.drop (sIx items.size 0 lo)).take (sIx items.size items.size hi - sIx items.size 0 lo)).toArray } })
  (hsz : items.size <= sizeLine) : wpAny (model prog w) A (getItem (.ref t) (.ref sl)) Q E s := by
 have htake : sizeOk (.seq ((items.toList.drop (sIx items.size 0 lo)).take (sIx items.size items.size hi - sIx items.size 0 lo)).toArray) := by
  show ((items.toList.drop (sIx items.size 0 lo)).take (sIx items.size items.size hi - sIx items.size 0 lo)).toArray.size <= sizeLine
  rw [List.size_toArray, List.length_take, List.length_drop, Array.length_toList]
  lia
 have hj : sIx items.size items.size hi <= items.size := sIx_le _ _ (Nat.le_refl _) hi
 obtain ⟨os, hos, hcs, hds⟩ := id hs
 have hTs : s.TypeIs (.ref sl) "slice" := ⟨os, hos, hcs⟩
 unfold getItem
 try with_reducible refine wpAny_holding ?_
 first | refine wpAny_bind (wpAny_pure ?_) | skip
 refine wpAny_bind (wpAny_sequenceKey ht.typeIs (by decide) ?_)
 refine wpAny_bind (wpAny_callSpecial?_slot (name := Str.ofString "__getitem__") ht.typeIs PyProof.Rows.slot_tuple_getitem
  (wpAny_call_entry PyProof.Rows.slot_tuple_getitem ht.typeIs entry_tuple_getitem ?_ (args_tuple_getitem _ _)))
 show wpAny _ _ (Builtin.Tuple.tupleItemsOf (.ref t) >>= _) _ _ s
 refine wpAny_bind (tupleItemsOf_ ht ?_)
 refine wpAny_bind (wpAny_typeOf hTs ?_)
 rw [if_pos (by decide)]
 refine wpAny_bind (zd3 hs pl pu ?_)
 have hno : ¬ ((((sIx items.size 0 lo : Nat) : Int) == 0 && (1 : Int) == 1 && (sIx items.size items.size hi - sIx items.size 0 lo) == items.size) = true) := by
  intro q
  rw [Bool.and_eq_true, Bool.and_eq_true] at q
  have q1 : ((sIx items.size 0 lo : Nat) : Int) = 0 := eq_of_beq q.1.1
  have q2 : sIx items.size items.size hi - sIx items.size 0 lo = items.size := eq_of_beq q.2
  exact hw ⟨by lia, by lia⟩
 show wpAny _ _ (if (((sIx items.size 0 lo : Nat) : Int) == 0 && (1 : Int) == 1 && (sIx items.size items.size hi - sIx items.size 0 lo) == items.size) = true then _ else _) _ _ s
 rw [if_neg hno, pick_gen]
 first
  | exact wpAny_bind (m := Builtin.Tuple.tupleExact _) (wpAny_newObj_type (wpAny_pure ⟨_, rfl, wpAny_pure h⟩) htake)
  | exact wpAny_bind (m := Builtin.Tuple.tupleExact _) (wpAny_newObj_type (wpAny_bind (wpAny_pure (wpAny_pure ⟨_, rfl, wpAny_pure h⟩))) htake)
  | exact wpAny_bind (wpAny_bind (m := Builtin.Tuple.tupleExact _) (wpAny_newObj_type (wpAny_pure (wpAny_pure ⟨_, rfl, wpAny_pure h⟩)) htake))
  | exact wpAny_bind (wpAny_bind (m := Builtin.Tuple.tupleExact _) (wpAny_newObj_type (wpAny_pure ⟨_, rfl, wpAny_pure h⟩) htake))
end
end HT
namespace L2
open PyProof.Rows PySem PySem.Spec
variable {r r' : V -> Option Int -> Option Int -> Hp -> VK -> Prop} {xs ys : List V} {us its its' : List Value} {n j t' a c : Nat} {i : Int} {pins : List (Addr × Obj)} {σ : St} {H : Hp} {s : Shared} {p : Addr} {f : Array Value -> Array Value} {A : Around} {y x : V} {u v vl vu : Value} {Q : Unit -> Shared -> Prop}
noncomputable abbrev TO := St -> Hp -> (Option Int -> Hp -> Prop) -> Prop
noncomputable def PO (X : Cx) (e : Option Expr) (t : TO) : Prop :=
 ∀ (pins : List (Addr × Obj)) (s : Shared) (σ : St) (H : Hp) (Q : Option Int -> Hp -> Prop), Inv X pins σ H s -> t σ H Q ->
  wpAny (model X.prog X.w) X.A (evalPart e X.env) (fun u s' => ∃ o H', Inv X pins σ H' s' /\ IsPart u o /\ Q o H') X.xe s
noncomputable def tNoPart : TO := fun _ H Q => Q none H
noncomputable def tPart (t : TE) : TO := fun σ H Q => t σ H fun x H1 => ∃ i, x = .int i /\ Q (some i) H1
section
variable {X : Cx} {e : Expr} {te : TE} {lo hi : Option Expr} {tl th : TO} {pos p2 : Pos}
theorem po_none : PO X none tNoPart := by
 intro pins s σ H Q I h
 rw [evalPart_none]
 exact wpAny_pure ⟨none, H, I, .none, h⟩
theorem po_some (h : PE X e te) : PO X (some e) (tPart te) := by
 intro pins s σ H Q I hw
 rw [evalPart_some]
 refine thn (h pins s σ H _ I hw) fun u s1 ⟨x, H1, I1, r1, q1⟩ => ?_
 obtain ⟨i, rfl, q⟩ := q1
 obtain ⟨t, rfl⟩ := r1
 exact ⟨some i, H1, I1, .int i t, q⟩
noncomputable def SlR (X : Cx) (r : V -> Option Int -> Option Int -> Hp -> VK -> Prop) : Prop :=
 ∀ (pins : List (Addr × Obj)) (s : Shared) (σ : St) (H : Hp) (x : V) (v vl vu : Value) (lo hi : Option Int) (sl : Addr) (Q : VK), Inv X pins σ H s -> RelV x v -> s.heap.IsSliceOf sl vl vu .none -> IsPart vl lo -> IsPart vu hi -> r x lo hi H Q ->
  ∃ T id, typeLookup (.type T) "__getitem__" = pure (some (.builtin id)) /\ s.TypeIs v T /\ wpAny (model X.prog X.w) X.A (getItem v (.ref sl)) (EP X pins σ Q) X.xe s
theorem SlR.or (h : SlR X r) (h' : SlR X r') : SlR X (fun x lo hi H Q => r x lo hi H Q \/ r' x lo hi H Q) := by
 intro pins s σ H x v vl vu lo hi sl Q I rx hs pl pu q
 rcases q with q | q
 ·exact h pins s σ H x v vl vu lo hi sl Q I rx hs pl pu q
 ·exact h' pins s σ H x v vl vu lo hi sl Q I rx hs pl pu q
noncomputable def tSl (r : V -> Option Int -> Option Int -> Hp -> VK -> Prop) (te : TE) (tl th : TO) : TE := fun σ H Q => te σ H fun x H1 => tl σ H1 fun l H2 => th σ H2 fun u H3 => r x l u H3 Q
theorem zkJ (hr : SlR X r) (he : PE X e te) (hl : PO X lo tl) (hu : PO X hi th) : PE X (.Subscript e (.Slice lo hi none p2) pos) (tSl r te tl th) := by
 intro pins s σ H Q I h
 refine Subscript_ (thn (he pins s σ H _ I h) fun v s1 ⟨x, H1, I1, r1, q1⟩ => ?_)
 refine wpAny_Slice (thn (hl pins s1 σ H1 _ I1 q1) fun vl s2 ⟨l, H2, I2, pl, q2⟩ => thn (hu pins s2 σ H2 _ I2 q2) fun vu s3 ⟨u, H3, I3, pu, q3⟩ => ?_)
 rw [evalPart_none]
 refine wpAny_pure ?_
 have I4 : Inv X pins σ H3 { s3 with heap := s3.heap.push { cls := .type "slice", data := .fields #[vl, vu, .none] } } := I3.kept (t' := s3.toks) fun b ob q => Heap.get?_push_of_some _ q
 obtain ⟨T, id, hT, ht, hg⟩ := hr pins { s3 with heap := s3.heap.push { cls := .type "slice", data := .fields #[vl, vu, .none] } } σ H3 x v vl vu l u s3.heap.objs.size Q I4 r1 (Heap.IsSliceOf.new ..) pl pu q3
 show wpAny (model X.prog X.w) X.A (subscriptTail e (.Slice lo hi none p2) v (.ref s3.heap.objs.size)) (EP X pins σ Q) X.xe { s3 with heap := s3.heap.push { cls := .type "slice", data := .fields #[vl, vu, .none] } }
 exact tail_any (ops := [.ref s3.heap.objs.size, v]) ht hT hg (by with_unfolding_all rfl)
noncomputable def cutV (xs : List V) (lo hi : Option Int) : List V := (xs.drop (HT.sIx xs.length 0 lo)).take (HT.sIx xs.length xs.length hi - HT.sIx xs.length 0 lo)
theorem zhy (xs : List V) (lo hi : Option Int) : (cutV xs lo hi).length <= xs.length := by
 unfold cutV
 rw [List.length_take, List.length_drop]
 lia
noncomputable def rSlT (K : W.Frag) : V -> Option Int -> Option Int -> Hp -> VK -> Prop := fun x lo hi H Q => ∃ a xs, x = .ref a /\ SqT K H a xs /\
 ¬ (HT.sIx xs.length 0 lo = 0 /\ HT.sIx xs.length xs.length hi = xs.length) /\ ∀ p, H p = none -> Q (.ref p) (upd H p (.tup (cutV xs lo hi)))
theorem sl_tup : SlR X (rSlT X.K) := by
 intro pins s σ H x v vl vu lo hi sl Q I rx hs pl pu h
 obtain ⟨a, xs, rfl, hx, hw, q⟩ := h
 cases rx
 obtain ⟨its, r, ht, hz⟩ := I.tuple hx
 have hlen : its.toArray.size = xs.length := by rw [List.size_toArray]; exact r.length.symm
 refine ⟨"tuple", _, PyProof.Rows.slot_tuple_getitem.lookup, ht.typeIs, ?_⟩
 refine HT.zgw ht hs pl pu (by rw [hlen]; exact hw) ?_ (by rw [hlen]; exact hz)
 rw [hlen]
 refine ⟨.ref s.heap.objs.size, _, I.laid (t' := s.toks) (o := .tup (cutV xs lo hi)) (fun b ob q => Heap.get?_push_of_some _ q) (Nat.le_refl _) ?_, rfl, q _ (I.hok.fresh (Nat.le_refl _))⟩
 exact ⟨Nat.le_trans (zhy xs lo hi) hz, _, (r.drop (HT.sIx xs.length 0 lo)).take (HT.sIx xs.length xs.length hi - HT.sIx xs.length 0 lo), IsTup.new _ _⟩
noncomputable def rCatT (K : W.Frag) : R2 := fun x y H Q => ∃ a b xs ys, x = .ref a /\ y = .ref b /\ SqT K H a xs /\ SqT K H b ys /\ xs ≠ [] /\ xs.length + ys.length <= sizeLine /\
 (ys = [] -> Q (.ref a) H) /\ (ys ≠ [] -> ∀ p, H p = none -> Q (.ref p) (upd H p (.tup (xs ++ ys))))
theorem Vals.nil_iff (r : Vals xs us) : us = [] ↔ xs = [] := by
 cases r with
 | nil => simp
 | cons _ _ => simp
theorem op_catT : OpR X (binaryOp .Add) (rCatT X.K) := by
 intro pins s σ H x y v u Q I rx ry h
 obtain ⟨a, b, xs, ys, rfl, rfl, ha, hb, hx, hz, q1, q2⟩ := h
 cases rx
 cases ry
 obtain ⟨its, r1, p1, _⟩ := I.tuple ha
 obtain ⟨its2, r2, p2, _⟩ := I.tuple hb
 refine HT.cat_tup p1 p2 (fun z => hx (r1.nil_iff.mp z)) (fun z => ⟨.ref a, H, I, rfl, q1 (r2.nil_iff.mp z)⟩) (fun z => ?_) (by rw [<- r1.length, <- r2.length]; exact hz)
 refine ⟨.ref s.heap.objs.size, _, I.laid (t' := s.toks) (o := .tup (xs ++ ys)) (fun b ob q => Heap.get?_push_of_some _ q) (Nat.le_refl _) ?_, rfl, q2 (fun w => z (r2.nil_iff.mpr w)) _ (I.hok.fresh (Nat.le_refl _))⟩
 exact ⟨by rw [List.length_append]; exact hz, _, r1.append r2, IsTup.new _ _⟩
end
noncomputable def ixN (n : Nat) (i : Int) : Option Nat := if 0 <= i then (if i < n then some i.toNat else none) else if -(n : Int) <= i then some (i + n).toNat else none
noncomputable def atI {α : Type} (xs : List α) (i : Int) : Option α := (ixN xs.length i).bind fun j => xs[j]?
theorem zm6 {n : Nat} (h : ixN n i = some j) : seqIndex? i n = some j /\ j < n /\ -(n : Int) <= i /\ i < n := by
 unfold ixN at h
 by_cases h0 : 0 <= i
 ·rw [if_pos h0] at h
  by_cases h1 : i < n
  ·rw [if_pos h1] at h
   have e : i.toNat = j := Option.some.inj h
   exact ⟨by rw [seqIndex_of h0 h1, e], by lia, by lia, h1⟩
  ·rw [if_neg h1] at h; cases h
 ·rw [if_neg h0] at h
  by_cases h1 : -(n : Int) <= i
  ·rw [if_pos h1] at h
   have e : (i + n).toNat = j := Option.some.inj h
   exact ⟨by rw [seqIndex_neg (by lia) h1, e], by lia, h1, by lia⟩
  ·rw [if_neg h1] at h; cases h
theorem zjZ {α : Type} {xs : List α} {v : α} (h : atI xs i = some v) : ∃ j, seqIndex? i xs.length = some j /\ xs[j]? = some v /\ j < xs.length /\ -(xs.length : Int) <= i /\ i < xs.length := by
 unfold atI at h
 cases e : ixN xs.length i with
 | none => rw [e] at h; cases h
 | some j =>
  rw [e] at h
  obtain ⟨h1, h2, h3, h4⟩ := zm6 e
  exact ⟨j, h1, h, h2, h3, h4⟩
theorem zky {α : Type} (xs : List α) (v : α) : atI (xs ++ [v]) (-1) = some v := by
 have hl : (xs ++ [v]).length = xs.length + 1 := by simp
 have e : ixN (xs ++ [v]).length (-1) = some xs.length := by
  unfold ixN
  rw [hl, if_neg (by decide), if_pos (by lia)]
  congr 1
  lia
 unfold atI
 rw [e]
 show (xs ++ [v])[xs.length]? = some v
 simp
noncomputable def ziE (b : Expr) : Prop := ∀ o i, subscripted b false o i = operate [o, i] (getItem o i)
noncomputable def IxR (X : Cx) (r : R2) : Prop :=
 ∀ (value slice : Expr) (pins : List (Addr × Obj)) (s : Shared) (σ : St) (H : Hp) (x y : V) (v u : Value) (Q : VK), Inv X pins σ H s -> RelV x v -> RelV y u -> r x y H Q ->
  subscripted slice false v u = operate [v, u] (getItem v u) -> wpAny (model X.prog X.w) X.A (subscriptTail value slice v u) (EP X pins σ Q) X.xe s
noncomputable def MtR (X : Cx) (id : String) (r : V -> List V -> Hp -> VK -> Prop) : Prop :=
 ∀ (pins : List (Addr × Obj)) (s : Shared) (σ : St) (H : Hp) (x : V) (xs : List V) (v : Value) (us : List Value) (Q : VK), Inv X pins σ H s -> RelV x v -> Vals xs us -> r x xs H Q ->
  wpAny (model X.prog X.w) X.A (call (.builtin id) (v :: us)) (EP X pins σ Q) X.xe s
section
variable {X : Cx} {a b : Expr} {ta tb : TE} {pos : Pos}
theorem IxR.or {r r' : R2} (h : IxR X r) (h' : IxR X r') : IxR X (fun x y H Q => r x y H Q \/ r' x y H Q) := by
 intro value slice pins s σ H x y v u Q I rx ry q hs
 rcases q with q | q
 ·exact h value slice pins s σ H x y v u Q I rx ry q hs
 ·exact h' value slice pins s σ H x y v u Q I rx ry q hs
theorem pe_ix {r : R2} (hr : IxR X r) (ha : PE X a ta) (hb : PE X b tb) (hs : ziE b) : PE X (.Subscript a b pos) (tOp r ta tb) := by
 intro pins s σ H Q I h
 exact Subscript_ (binT ha hb I h fun v u s2 x y H2 I2 rx ry q => hr a b pins s2 σ H2 x y v u Q I2 rx ry q (hs _ _))
noncomputable def rIxL (K : W.Frag) : R2 := fun x y H Q => ∃ p xs i v, x = .ref p /\ y = .int i /\ SqL K H p xs /\ atI xs i = some v /\ Q v H
noncomputable def rIxT (K : W.Frag) : R2 := fun x y H Q => ∃ p xs i v, x = .ref p /\ y = .int i /\ SqT K H p xs /\ atI xs i = some v /\ Q v H
noncomputable def rIxS : R2 := fun x y H Q => ∃ z i c, x = .str z /\ y = .int i /\ z.length <= sizeLine /\ atI z.cps.toList i = some c /\ Q (.str ⟨#[c]⟩) H
theorem ix_list : IxR X (rIxL X.K) := by
 intro value slice pins s σ H x y v u Q I rx ry h hs
 obtain ⟨p, xs, i, z, rfl, rfl, hq, he, q⟩ := h
 cases rx
 obtain ⟨t, rfl⟩ := ry
 obtain ⟨its, r, pl, hz⟩ := I.list hq
 obtain ⟨j, h1, h2, h3, h4, h5⟩ := zjZ he
 obtain ⟨w, ew, rw'⟩ := r.get h2
 have hl := r.length
 have hn := zhX
 have fin : EP X pins σ Q w s := ⟨z, H, I, rw', q⟩
 by_cases h0 : 0 <= i
 ·have hj : i.toNat = j := by
   rw [seqIndex_of h0 h5] at h1
   exact Option.some.inj h1
  exact item_listR pl.isList h0 (by lia) (by rw [hj]; simpa using ew) fin hs
 ·have hj : (i + (its.toArray.size : Int)).toNat = j := by
   rw [seqIndex_neg (by lia) h4] at h1
   rw [List.size_toArray, <- hl]
   exact Option.some.inj h1
  exact subscriptTail_builtinR (x := w) pl.isList.typeIs slot_list_getitem.lookup
   (wpAny_getItem_list_neg (Q := fun r s' => r = w /\ EP X pins σ Q r s') pl.isList (by lia) (by rw [List.size_toArray] <;> lia) (by lia) (by rw [hj]; simpa using ew) ⟨rfl, fin⟩) hs
theorem ix_tup : IxR X (rIxT X.K) := by
 intro value slice pins s σ H x y v u Q I rx ry h hs
 obtain ⟨p, xs, i, z, rfl, rfl, hq, he, q⟩ := h
 cases rx
 obtain ⟨t, rfl⟩ := ry
 obtain ⟨its, r, pl, hz⟩ := I.tuple hq
 obtain ⟨j, h1, h2, h3, h4, h5⟩ := zjZ he
 obtain ⟨w, ew, rw'⟩ := r.get h2
 have hl := r.length
 have hn := zhX
 have fin : EP X pins σ Q w s := ⟨z, H, I, rw', q⟩
 exact subscriptTail_builtinR (x := w) pl.typeIs slot_tuple_getitem.lookup
  (getItem_tuple (j := j) (Q := fun r s' => r = w /\ EP X pins σ Q r s') pl (by lia) (by lia) (by rw [List.size_toArray, <- hl]; exact h1) (by simpa using ew) ⟨rfl, fin⟩) hs
theorem ix_str : IxR X rIxS := by
 intro value slice pins s σ H x y v u Q I rx ry h hs
 obtain ⟨z, i, c, rfl, rfl, hz, he, q⟩ := h
 obtain ⟨t, rfl⟩ := rx
 obtain ⟨t', rfl⟩ := ry
 obtain ⟨j, h1, h2, h3, h4, h5⟩ := zjZ he
 have hl : z.cps.toList.length = z.length := by simp [Str.length]
 rw [hl] at h1 h4 h5
 have hn := zhX
 exact tail_any (typeIs_str s z t) slot_str_getitem.lookup (getItem_str (c := c) (by
  have e1 : decide (i < -(2 ^ 63 : Int)) = false := decide_eq_false (by lia)
  have e2 : decide (i >= 2 ^ 63) = false := decide_eq_false (by lia)
  rw [e1, e2, Bool.or_false]) (by rw [h1]; simpa using h2) ⟨.str ⟨#[c]⟩, H, I.tok _, ⟨_, rfl⟩, q⟩) hs
noncomputable def rIx (K : W.Frag) : R2 := fun x y H Q => rIxL K x y H Q \/ rIxT K x y H Q \/ rIxS x y H Q
theorem ix_seq : IxR X (rIx X.K) := ix_list.or (ix_tup.or ix_str)
theorem zlc (its : List Value) (n j : Nat) (u : Value) : Obj.mapSeq (·.setIfInBounds j u) { cls := .type "list", data := .seq its.toArray n } = { cls := .type "list", data := .seq (its.set j u).toArray n } := by
 simp [Obj.mapSeq]
theorem Inv.lst (I : Inv X pins σ H s) (h : H p = some (.lst xs)) :
  ∃ (its : List Value) (n : Nat), Vals xs its /\ s.heap.get? p = some { cls := .type "list", data := .seq its.toArray n } /\ xs.length <= sizeLine := by
 obtain ⟨z, its, n, r, e⟩ := I.hok p _ h
 exact ⟨its, n, r, e, z⟩
theorem Inv.lstUpd {n n' : Nat} {f : Obj -> Obj} (I : Inv X pins σ H s) (h : H p = some (.lst xs))
  (ho : s.heap.get? p = some { cls := .type "list", data := .seq its.toArray n }) (hf : f { cls := .type "list", data := .seq its.toArray n } = { cls := .type "list", data := .seq its'.toArray n' }) (r : Vals ys its') (hz : ys.length <= sizeLine) (t : Nat) :
  Inv X pins σ (upd H p (.lst ys)) { s with heap := s.heap.update p f, toks := t } := by
 have e : (s.heap.update p f).get? p = some { cls := .type "list", data := .seq its'.toArray n' } := by
  rw [Heap.get?_update_self f ho (by rw [hf] <;> rfl), hf]
 refine I.write (x := p) (e := p) (by rw [h]; trivial) (.inl rfl) (fun b u hb q => (Heap.get?_update_other _ _ (Ne.symm hb)).trans q) ⟨_, e⟩ ?_
 exact ⟨hz, its', n', r, e⟩
noncomputable def rSetL : V -> V -> V -> Hp -> (Hp -> Prop) -> Prop := fun o i v H Q => ∃ p xs k j, o = .ref p /\ i = .int k /\ H p = some (.lst xs) /\ ixN xs.length k = some j /\ Q (upd H p (.lst (xs.set j v)))
theorem set_list : PSet X rSetL := by
 intro pins s σ H o i v ov iv u Q I ro ri rv h
 obtain ⟨p, xs, k, j, rfl, rfl, hp, hj, q⟩ := h
 cases ro
 obtain ⟨t, rfl⟩ := ri
 obtain ⟨its, n, r, ho, hz⟩ := I.lst hp
 obtain ⟨h1, h2, h3, h4⟩ := zm6 hj
 have hl := r.length
 have hn := zhX
 have I' : Inv X pins σ (upd H p (.lst (xs.set j v))) { s with heap := s.heap.update p (Obj.mapSeq (·.setIfInBounds j u)) } :=
  I.lstUpd hp ho (zlc its n j u) (r.set rv j) (by rw [List.length_set]; exact hz) s.toks
 by_cases h0 : 0 <= k
 ·have hk : k.toNat = j := by
   rw [seqIndex_of h0 h4] at h1
   exact Option.some.inj h1
  exact W.ki_setAt ho h0 (by lia) (by rw [List.size_toArray, <- hl]; exact h4) (by rw [hk]; exact ⟨_, I', q⟩)
 ·have hk : (k + (its.toArray.size : Int)).toNat = j := by
   rw [seqIndex_neg (by lia) h3] at h1
   rw [List.size_toArray, <- hl]
   exact Option.some.inj h1
  exact W.ki_setBack ho (by lia) (by rw [List.size_toArray, <- hl]; exact h3) (by lia) (by rw [hk]; exact ⟨_, I', q⟩)
theorem zi0 (lo hi : Option Int) (n : Nat) : (sliceBounds lo hi none n).1 = ((HT.sIx n 0 lo : Nat) : Int) /\ (sliceBounds lo hi none n).2.1 = ((HT.sIx n n hi : Nat) : Int) /\ (sliceBounds lo hi none n).2.2 = 1 := by
 refine ⟨?_, ?_, rfl⟩
 ·cases lo with
  | none => simp [sliceBounds, HT.sIx]
  | some i =>
   simp only [sliceBounds, HT.sIx, Option.getD_none, show (1 : Int) > 0 by decide, if_true]
   by_cases h : i < 0
   ·simp only [h, if_true] <;> lia
   ·simp only [h, if_false] <;> lia
 ·cases hi with
  | none => simp [sliceBounds, HT.sIx]
  | some i =>
   simp only [sliceBounds, HT.sIx, Option.getD_none, show (1 : Int) > 0 by decide, if_true]
   by_cases h : i < 0
   ·simp only [h, if_true] <;> lia
   ·simp only [h, if_false] <;> lia
theorem ziq (its : List Value) (lo hi : Option Int) : slicePick its.toArray lo hi none = ((its.drop (HT.sIx its.length 0 lo)).take (HT.sIx its.length its.length hi - HT.sIx its.length 0 lo)).toArray := by
 obtain ⟨h1, h2, h3⟩ := zi0 lo hi its.toArray.size
 unfold slicePick
 rw [h1, h2, h3]
 simp only [sliceRange_one, pick_run, List.size_toArray] <;> rfl
noncomputable def rSlL (K : W.Frag) : V -> Option Int -> Option Int -> Hp -> VK -> Prop := fun x lo hi H Q => ∃ a xs, x = .ref a /\ SqL K H a xs /\ ∀ p, H p = none -> Q (.ref p) (upd H p (.lst (cutV xs lo hi)))
theorem sl_list : SlR X (rSlL X.K) := by
 intro pins s σ H x v vl vu lo hi sl Q I rx hs pl pu h
 obtain ⟨a, xs, rfl, hx, q⟩ := h
 cases rx
 obtain ⟨its, r, ht, hz⟩ := I.list hx
 have hlen := r.length
 refine ⟨"list", _, slot_list_getitem.lookup, ht.isList.typeIs, ?_⟩
 refine wpAny_getItem_list_slice ht.isList hs pl pu .none (by simp) ?_ (by rw [List.size_toArray] <;> lia)
 rw [ziq, <- hlen]
 refine ⟨.ref s.heap.objs.size, _, I.laid (t' := s.toks) (o := .lst (cutV xs lo hi)) (fun b ob q => Heap.get?_push_of_some _ q) (Nat.le_refl _) ?_, rfl, q _ (I.hok.fresh (Nat.le_refl _))⟩
 exact ⟨Nat.le_trans (zhy xs lo hi) hz, _, 0, (r.drop (HT.sIx xs.length 0 lo)).take (HT.sIx xs.length xs.length hi - HT.sIx xs.length 0 lo), Heap.get?_push_size _ rfl⟩
noncomputable def zhJ : V -> Bool
 | .non => true
 | .bl _ => true
 | .int _ => true
 | .str _ => true
 | _ => false
noncomputable def eqV : V -> V -> Bool
 | .non, .non => true
 | .bl a, .bl b => a == b
 | .bl a, .int b => (if a then 1 else 0) == b
 | .int a, .bl b => a == (if b then 1 else 0)
 | .int a, .int b => a == b
 | .str a, .str b => a == b
 | _, _ => false
theorem eqAt_V (ry : RelV y u) (rx : RelV x v) (fy : zhJ y = true) (fx : zhJ x = true) : SeqAt.EqAt A s u v (eqV y x) := by
 cases y with
 | non =>
  cases ry
  cases x with
  | non => cases rx; exact SeqAt.EqAt.same _
  | bl b => cases rx; exact SeqAt.EqAt.none_bool b
  | int b => obtain ⟨t, rfl⟩ := rx; exact SeqAt.EqAt.none_int b t
  | str b => obtain ⟨t, rfl⟩ := rx; exact SeqAt.EqAt.none_str b t
  | _ => exact absurd (show false = true from fx) Bool.false_ne_true
 | bl a =>
  cases ry
  cases x with
  | non => cases rx; exact SeqAt.EqAt.bool_none a
  | bl b => cases rx; exact SeqAt.EqAt.bool_bool a b
  | int b => obtain ⟨t, rfl⟩ := rx; exact SeqAt.EqAt.bool_int a b t
  | str b => obtain ⟨t, rfl⟩ := rx; exact SeqAt.EqAt.bool_str a b t
  | _ => exact absurd (show false = true from fx) Bool.false_ne_true
 | int a =>
  obtain ⟨t', rfl⟩ := ry
  cases x with
  | non => cases rx; exact SeqAt.EqAt.int_none a t'
  | bl b => cases rx; exact SeqAt.EqAt.int_bool a t' b
  | int b => obtain ⟨t, rfl⟩ := rx; exact SeqAt.EqAt.int_int a t' b t
  | str b => obtain ⟨t, rfl⟩ := rx; exact SeqAt.EqAt.int_str a t' b t
  | _ => exact absurd (show false = true from fx) Bool.false_ne_true
 | str a =>
  obtain ⟨t', rfl⟩ := ry
  cases x with
  | non => cases rx; exact SeqAt.EqAt.str_none a t'
  | bl b => cases rx; exact SeqAt.EqAt.str_bool a t' b
  | int b => obtain ⟨t, rfl⟩ := rx; exact SeqAt.EqAt.str_int a t' b t
  | str b => obtain ⟨t, rfl⟩ := rx; exact SeqAt.EqAt.str_str a t' b t
  | _ => exact absurd (show false = true from fx) Bool.false_ne_true
 | _ => exact absurd (show false = true from fy) Bool.false_ne_true
noncomputable def eqU (x : V) (u : Value) : Bool := match u with
 | .none => eqV .non x
 | .bool b => eqV (.bl b) x
 | .int i _ => eqV (.int i) x
 | .str z _ => eqV (.str z) x
 | _ => false
theorem eqU_of (r : RelV y u) (f : zhJ y = true) : eqU x u = eqV y x := by
 cases y with
 | non => cases r; rfl
 | bl b => cases r; rfl
 | int i => obtain ⟨t, rfl⟩ := r; rfl
 | str z => obtain ⟨t, rfl⟩ := r; rfl
 | _ => exact absurd (show false = true from f) Bool.false_ne_true
theorem zhH : ∀ {xs : List V} {us : List Value}, Vals xs us -> xs.all zhJ = true -> us.any (eqU x) = xs.any fun y => eqV y x
 | _, _, .nil, _ => rfl
 | y :: xs, u :: us, .cons r t, f => by
  rw [List.all_cons, Bool.and_eq_true] at f
  rw [List.any_cons, List.any_cons, eqU_of r f.1, zhH t f.2]
theorem zgk (rx : RelV x v) (fx : zhJ x = true) : ∀ {xs : List V} {us : List Value}, Vals xs us -> xs.all zhJ = true -> ∀ u ∈ us, SeqAt.EqAt A s u v (eqU x u)
 | _, _, .nil, _ => fun u hu => by cases hu
 | y :: xs, u :: us, .cons r t, f => fun u' hu => by
  rw [List.all_cons, Bool.and_eq_true] at f
  rcases List.mem_cons.mp hu with rfl | hu
  ·rw [eqU_of r f.1]; exact eqAt_V r rx f.1 fx
  ·exact zgk rx fx t f.2 u' hu
noncomputable def inV (x : V) (xs : List V) : Bool := xs.any fun y => eqV y x
noncomputable def rIn (K : W.Frag) (neg : Bool) : R2 := fun x y H Q => ∃ p xs, y = .ref p /\ (SqL K H p xs \/ SqT K H p xs) /\ zhJ x = true /\ xs.all zhJ = true /\ Q (.bl (if neg then !inV x xs else inV x xs)) H
theorem zjo : OpR X (compareOp .In) (rIn X.K false) := by
 intro pins s σ H x y v u Q I rx ry h
 obtain ⟨p, xs, rfl, hq, fx, fs, q⟩ := h
 cases ry
 rcases hq with hq | hq
 ·obtain ⟨its, r, pl, hz⟩ := I.list hq
  refine SeqAt.in_listAt (eqU x) pl.isList (fun w hw => zgk rx fx r fs w (by simpa using hw)) ⟨.bl _, H, I, rfl, ?_⟩
  rw [show its.toArray.any (eqU x) = its.any (eqU x) by simp, zhH r fs]
  exact q
 ·obtain ⟨its, r, pl, hz⟩ := I.tuple hq
  refine SeqAt.in_tupleAt (eqU x) pl (fun w hw => zgk rx fx r fs w (by simpa using hw)) ⟨.bl _, H, I, rfl, ?_⟩
  rw [show its.toArray.any (eqU x) = its.any (eqU x) by simp, zhH r fs]
  exact q
theorem zjD : OpR X (compareOp .NotIn) (rIn X.K true) := by
 intro pins s σ H x y v u Q I rx ry h
 obtain ⟨p, xs, rfl, hq, fx, fs, q⟩ := h
 cases ry
 rcases hq with hq | hq
 ·obtain ⟨its, r, pl, hz⟩ := I.list hq
  refine SeqAt.notIn_listAt (eqU x) pl.isList (fun w hw => zgk rx fx r fs w (by simpa using hw)) ⟨.bl _, H, I, rfl, ?_⟩
  rw [show its.toArray.any (eqU x) = its.any (eqU x) by simp, zhH r fs]
  exact q
 ·obtain ⟨its, r, pl, hz⟩ := I.tuple hq
  refine SeqAt.notIn_tupleAt (eqU x) pl (fun w hw => zgk rx fx r fs w (by simpa using hw)) ⟨.bl _, H, I, rfl, ?_⟩
  rw [show its.toArray.any (eqU x) = its.any (eqU x) by simp, zhH r fs]
  exact q
theorem zgM : zeH X (.builtin "len") (fun xs H Q => ∃ p ys, xs = [.ref p] /\ (SqL X.K H p ys \/ SqT X.K H p ys) /\ Q (.int ys.length) H) := by
 intro pins s σ H xs us Q I r h
 obtain ⟨p, ys, rfl, hq, q⟩ := h
 obtain ⟨u, rfl, rx⟩ := zg0 r
 cases rx
 have hn := zhX
 rcases hq with hq | hq
 ·obtain ⟨its, r', pl, hz⟩ := I.list hq
  have hlen := r'.length
  exact Calls.call_len_list pl.isList (by simp only [List.size_toArray] <;> lia) ⟨.int ys.length, H, I.tok _, ⟨s.toks + 1, by rw [List.size_toArray, hlen]⟩, q⟩
 ·obtain ⟨its, r', pl, hz⟩ := I.tuple hq
  have hlen := r'.length
  exact len_tuple pl (by simp only [List.size_toArray] <;> lia) ⟨.int ys.length, H, I.tok _, ⟨s.toks + 1, by rw [List.size_toArray, hlen]⟩, q⟩
theorem zjq : zeH X (.type "list") (fun xs H Q => ∃ p ys, xs = [.ref p] /\ (SqL X.K H p ys \/ SqT X.K H p ys) /\ ∀ l, H l = none -> Q (.ref l) (upd H l (.lst ys))) := by
 intro pins s σ H xs us Q I r h
 obtain ⟨p, ys, rfl, hq, q⟩ := h
 obtain ⟨u, rfl, rx⟩ := zg0 r
 cases rx
 have fin : ∀ (its : List Value), Vals ys its -> ys.length <= sizeLine -> ∀ (h' : Heap) (c' : Nat), (∀ b o', s.heap.get? b = some o' -> h'.get? b = some o') ->
   h'.get? s.heap.objs.size = some { cls := .type "list", dict := none, data := .seq its.toArray c', slots := #[] } -> EP X pins σ Q (.ref s.heap.objs.size) { s with heap := h' } := fun its r' hz h' c' kp e =>
  ⟨.ref s.heap.objs.size, _, I.laid (t' := s.toks) kp (Nat.le_refl _) (show ObjOk X.prog X.w _ h' _ (.lst ys) from ⟨hz, its, c', r', e⟩), rfl, q _ (I.hok.fresh (Nat.le_refl _))⟩
 rcases hq with hq | hq
 ·obtain ⟨its, r', pl, hz⟩ := I.list hq
  have hlen := r'.length
  obtain ⟨o, ho, hc, n, hd⟩ := pl.isList
  exact call_list_seq p (.inl rfl) ho hc hd (fun h' c' kp e => fin its r' hz h' c' kp e) (by simp only [List.size_toArray] <;> lia)
 ·obtain ⟨its, r', pl, hz⟩ := I.tuple hq
  have hlen := r'.length
  obtain ⟨o, ho, hc, n, hd⟩ := pl
  exact call_list_seq p (.inr rfl) ho hc hd (fun h' c' kp e => fin its r' hz h' c' kp e) (by simp only [List.size_toArray] <;> lia)
theorem zh8 : zeH X (.type "tuple") (fun xs H Q => ∃ p ys, xs = [.ref p] /\ ((SqL X.K H p ys /\ ∀ l, H l = none -> Q (.ref l) (upd H l (.tup ys))) \/ (SqT X.K H p ys /\ Q (.ref p) H))) := by
 intro pins s σ H xs us Q I r h
 obtain ⟨p, ys, rfl, h⟩ := h
 obtain ⟨u, rfl, rx⟩ := zg0 r
 cases rx
 rcases h with ⟨hq, q⟩ | ⟨hq, q⟩
 ·obtain ⟨its, r', pl, hz⟩ := I.list hq
  have hlen := r'.length
  refine call_tuple_list pl.isList (fun h' kp => ?_) (by simp only [List.size_toArray] <;> lia)
  have I1 : Inv X pins σ H { s with heap := h' } := I.kept (t' := s.toks) kp
  have I2 : Inv X pins σ (upd H h'.objs.size (.tup ys)) { s with heap := h'.push { cls := .type "tuple", data := .seq its.toArray } } :=
   I1.laid (t' := s.toks) (fun b o e => Heap.get?_push_of_some _ e) (Nat.le_refl _) (show ObjOk X.prog X.w _ _ _ (.tup ys) from ⟨hz, its, r', IsTup.new _ _⟩)
  exact ⟨.ref h'.objs.size, _, I2, rfl, q _ (I1.hok.fresh (Nat.le_refl _))⟩
 ·obtain ⟨its, r', pl, hz⟩ := I.tuple hq
  exact call_tuple_same pl ⟨.ref p, H, I, rfl, q⟩
noncomputable def tyV (K : W.Frag) (T : String) (x : V) (H : Hp) : Prop := match x with
 | .str _ => T = "str"
 | .int _ => T = "int"
 | .ref p => (T = "list" /\ ∃ xs, SqL K H p xs) \/ (T = "tuple" /\ ∃ o, K.lookup p = some o /\ o.cls = .type "tuple" /\ o.dict = none) \/
   (T = "dict" /\ ((∃ kvs, H p = some (.dK kvs)) \/ ∃ kvs, H p = some (.dT kvs))) \/ (T = "set" /\ ∃ S n, H p = some (.set S n))
 | _ => False
theorem tyV_is {T : String} (I : Inv X pins σ H s) (r : RelV x v) (ty : tyV X.K T x H) :
  s.TypeIs v T /\ ∀ a, v = .ref a -> ∃ ob, s.heap.get? a = some ob /\ ob.dict = none := by
 cases x with
 | str z =>
  obtain ⟨t, rfl⟩ := r
  cases (show T = "str" from ty)
  exact ⟨typeIs_str s z t, fun _ e => nomatch e⟩
 | int i =>
  obtain ⟨t, rfl⟩ := r
  cases (show T = "int" from ty)
  exact ⟨typeIs_int s i t, fun _ e => nomatch e⟩
 | ref p =>
  cases r
  rcases ty with ⟨rfl, xs, hq⟩ | ⟨rfl, o, hk, hc, hd⟩ | ⟨rfl, hk⟩ | ⟨rfl, S, n, hk⟩
  ·obtain ⟨its, _, pl, _⟩ := I.list hq
   refine ⟨pl.isList.typeIs, fun a e => ?_⟩
   cases e
   obtain ⟨o, n, e, c, hd, _⟩ := pl
   exact ⟨o, e, hd⟩
  ·refine ⟨⟨o, I.kIn p o hk, hc⟩, fun a e => ?_⟩
   cases e
   exact ⟨o, I.kIn _ o hk, hd⟩
  ·have z : ∃ o, s.heap.get? p = some o /\ o.ExactDict := by
    rcases hk with ⟨kvs, hk⟩ | ⟨kvs, hk⟩
    ·obtain ⟨_, _, _, _, o, _, _, e, ex, _⟩ := I.hok p _ hk
     exact ⟨o, e, ex⟩
    ·obtain ⟨_, _, _, _, o, _, _, e, ex, _⟩ := I.hok p _ hk
     exact ⟨o, e, ex⟩
   obtain ⟨o, e, ex⟩ := z
   refine ⟨⟨o, e, ex.1⟩, fun a e2 => ?_⟩
   cases e2
   exact ⟨o, e, ex.2.1⟩
  ·obtain ⟨o, _, _, _, e, ex, _⟩ := I.hok p _ hk
   refine ⟨⟨o, e, ex.1⟩, fun a e2 => ?_⟩
   cases e2
   exact ⟨o, e, ex.2.1⟩
 | _ => exact False.elim ty
noncomputable def tBM (K : W.Frag) (T : String) (r : V -> List V -> Hp -> VK -> Prop) (to : TE) (t : TA) : TE := fun σ H Q => to σ H fun x H1 => tyV K T x H1 /\ t σ H1 fun xs H2 => r x xs H2 Q
variable {o e : Expr} {es : List Expr} {to : TE} {t : TA} {name : Str} {apos cpos : Pos} {T id : String} {r : V -> List V -> Hp -> VK -> Prop}
theorem pe_bm (pa : PlainAttrs T) (slot : Slot T name id) (hty : typeOf (.builtin id) = pure (.type "method_descriptor")) (hm : MtR X id r) (ho : PE X o to) (ha : PA X (e :: es) t)
  (hbase : attributeBase o name X.env (eval o X.env) = eval o X.env := by rfl)
  (hfew : ((backTo cpos (starEach (e :: es) X.env)).all (fun x => !x.1) && (backToKw cpos (keywordEach [] X.env)).all (fun x => x.1.isSome)
   && decide ((e :: es).length + ([] : List Keyword).length + (if ([] : List Keyword).isEmpty then 0 else 1) < 30)) = true := by rfl)
  (hline : (apos.endLine == cpos.line) = true := by rfl) (hs : starEach (e :: es) X.env = (false, eval e X.env) :: starEach es X.env := by rfl) (hplain : (backTo cpos (starEach es X.env)).any (·.1) = false := by rfl) :
  PE X (.Call (.Attribute o name apos) (e :: es) [] cpos) (tBM X.K T r to t) := by
 intro pins s σ H Q I h
 refine wpAny_Call_method_late hbase hfew hline rfl (thn (ho pins s σ H _ I h) fun v s1 ⟨x, H1, I1, r1, ty, q1⟩ => ?_)
 obtain ⟨h1, h2⟩ := tyV_is I1 r1 ty
 refine ⟨T, id, pa, slot, hty, h1, h2, ?_⟩
 have hA := ha cpos pins s1 σ H1 _ I1 q1
 rw [hs] at hA ⊢
 refine Calls.callWith_builtin (by show (false || (backTo cpos (starEach es X.env)).any (·.1)) = false; rw [hplain] <;> rfl) (Calls.evalArgs_plain ?_)
 exact thn hA fun us s2 ⟨vs, H2, I2, r2, q2⟩ => hm pins s2 σ H2 x vs v us Q I2 r1 r2 q2
end
noncomputable def MtM (X : Cx) (id : String) (r : V -> List V -> Hp -> VK -> Prop) : Prop :=
 ∀ (pins : List (Addr × Obj)) (s : Shared) (σ : St) (H : Hp) (x : V) (xs : List V) (v : Value) (us : List Value) (Q : VK), Inv X pins σ H s -> RelV x v -> Vals xs us -> r x xs H Q ->
  wpAny (model X.prog X.w) X.A (call (.builtin id) (v :: us)) (EP X pins σ Q) X.xe s
theorem Vals.one : ∀ {x : V} {us : List Value}, Vals [x] us -> ∃ u, us = [u] /\ RelV x u
 | _, _, .cons r .nil => ⟨_, rfl, r⟩
theorem Vals.reverse (h : Vals xs us) : Vals xs.reverse us.reverse := by
 induction h with
 | nil => exact .nil
 | cons r t ih => rw [List.reverse_cons, List.reverse_cons]; exact Vals.append ih (.cons r .nil)
theorem Vals.rep (h : Vals xs us) : ∀ k : Nat, Vals (List.replicate k xs).flatten (List.replicate k us).flatten
 | 0 => .nil
 | k + 1 => by
  rw [List.replicate_succ, List.replicate_succ, List.flatten_cons, List.flatten_cons]
  exact Vals.append h (Vals.rep h k)
theorem zjr (its : List Value) : ∀ (k : Nat) (acc : List Value),
  List.foldl (fun x1 x2 => x1 ++ x2) acc.toArray (List.replicate k its.toArray) = (acc ++ (List.replicate k its).flatten).toArray
 | 0, acc => by simp
 | k + 1, acc => by
  have e : acc.toArray ++ its.toArray = (acc ++ its).toArray := by simp
  have e2 : (acc ++ its) ++ (List.replicate k its).flatten = acc ++ (List.replicate (k + 1) its).flatten := by
   rw [List.replicate_succ, List.flatten_cons, List.append_assoc]
  rw [<- e2, <- zjr its k (acc ++ its), <- e, List.replicate_succ, List.foldl_cons]
section
variable {X : Cx} {pins : List (Addr × Obj)} {σ : St} {H : Hp} {s : Shared} {l b : Addr} {xs ys zs : List V}
theorem Inv.lset (I : Inv X pins σ H s) (hH : H l = some (.lst xs))
  (e : s.heap.get? l = some { cls := .type "list", data := .seq its.toArray n }) (hf : f its.toArray = its'.toArray) (hv : Vals ys its') (hz : ys.length <= sizeLine) :
  Inv X pins σ (upd H l (.lst ys)) { s with heap := s.heap.update l (Obj.mapSeq f), toks := t' } := by
 have q := PySem.IsL.update e f
 rw [hf] at q
 refine I.write (x := l) (e := l) (by rw [hH]; exact trivial) (.inl rfl) (fun b' u hb hu => (Heap.get?_update_other s.heap (Obj.mapSeq f) (Ne.symm hb)).trans hu) ⟨_, q⟩ ?_
 exact ⟨hz, its', _, hv, q⟩
theorem Inv.lnew (I : Inv X pins σ H s) (hv : Vals ys its) (hz : ys.length <= sizeLine) :
  Inv X pins σ (upd H s.heap.objs.size (.lst ys)) { s with heap := s.heap.push { cls := .type "list", data := .seq its.toArray }, toks := t' } :=
 I.laid (fun _ _ q => Heap.get?_push_of_some _ q) (Nat.le_refl _) ⟨hz, its, 0, hv, Heap.get?_push_size _ rfl⟩
theorem Inv.fresh (I : Inv X pins σ H s) : H s.heap.objs.size = none := I.hok.fresh (Nat.le_refl _)
theorem Inv.lstM (I : Inv X pins σ H s) (hH : H l = some (.lst xs)) : xs.length <= sizeLine /\ ∃ (its : List Value) (n : Nat), Vals xs its /\ xs.length = its.length /\ s.heap.get? l = some { cls := .type "list", data := .seq its.toArray n } := by
 obtain ⟨z, its, n, r, e⟩ := I.hok l _ hH
 exact ⟨z, its, n, r, r.length, e⟩
theorem zil (h : n <= sizeLine) : Builtin.List.listTooLong n = false := by
 unfold Builtin.List.listTooLong
 exact decide_eq_false (by lia)
end
section
variable {X : Cx}
noncomputable def rAppend : V -> List V -> Hp -> VK -> Prop := fun x vs H Q => ∃ l xs y, x = .ref l /\ vs = [y] /\ H l = some (.lst xs) /\ xs.length < sizeLine /\ Q .non (upd H l (.lst (xs ++ [y])))
theorem ziS : MtM X "list.append" rAppend := by
 intro pins s σ H x vs v us Q I rx rv h
 obtain ⟨l, xs, y, rfl, rfl, hH, hz, q⟩ := h
 cases rx
 obtain ⟨u, rfl, ru⟩ := rv.one
 obtain ⟨z, its, n, r, hl, e⟩ := I.lstM hH
 refine call_meets F.slot_list_append ⟨_, e, rfl⟩ F.entry_list_append (F.args_list_append_2 _ _) (PySem.list_append l its.toArray n u (by rw [List.size_toArray]; lia)) ⟨e, ?_⟩
 refine ⟨.non, _, I.lset (its' := its ++ [u]) hH e (by simp) (r.append (.cons ru .nil)) ?_, rfl, q⟩
 rw [List.length_append, List.length_singleton]
 lia
noncomputable def rCat : R2 := fun x y H Q => ∃ l b xs zs, x = .ref l /\ y = .ref b /\ H l = some (.lst xs) /\ H b = some (.lst zs) /\ xs.length + zs.length <= sizeLine /\ ∀ p, H p = none -> Q (.ref p) (upd H p (.lst (xs ++ zs)))
theorem op_cat : OpR X (binaryOp .Add) rCat := by
 intro pins s σ H x y v u Q I rx ry h
 obtain ⟨l, b, xs, zs, rfl, rfl, hH, hB, hz, q⟩ := h
 cases rx
 cases ry
 obtain ⟨z, its, n, r, hl, e⟩ := I.lstM hH
 obtain ⟨z2, its2, n2, r2, hl2, e2⟩ := I.lstM hB
 refine PySem.P.add_list e e2 ?_ (by rw [List.size_toArray, List.size_toArray]; lia)
 have ea : its.toArray ++ its2.toArray = (its ++ its2).toArray := by simp
 rw [ea]
 exact ⟨.ref _, _, I.lnew (t' := s.toks) (r.append r2) (by rw [List.length_append]; lia), rfl, q _ I.fresh⟩
noncomputable def rRep : R2 := fun x y H Q => ∃ l k xs, x = .ref l /\ y = .int k /\ H l = some (.lst xs) /\ -(2 ^ 63) <= k /\ k < 2 ^ 63 /\ xs.length * k.toNat <= sizeLine /\
 ∀ p, H p = none -> Q (.ref p) (upd H p (.lst (List.replicate k.toNat xs).flatten))
theorem len_rep {α : Type} (xs : List α) (k : Nat) : (List.replicate k xs).flatten.length = k * xs.length := by
 induction k with
 | zero => simp
 | succ k ih => rw [List.replicate_succ, List.flatten_cons, List.length_append, ih, Nat.succ_mul, Nat.add_comm]
theorem op_rep : OpR X (binaryOp .Mult) rRep := by
 intro pins s σ H x y v u Q I rx ry h
 obtain ⟨l, k, xs, rfl, rfl, hH, h1, h2, hz, q⟩ := h
 cases rx
 obtain ⟨t, rfl⟩ := ry
 obtain ⟨z, its, n, r, hl, e⟩ := I.lstM hH
 have hlen : its.toArray.size * k.toNat <= sizeLine := by rw [List.size_toArray, <- hl]; exact hz
 have hcap : ¬ its.toArray.size * k.toNat > (2 ^ 63 - 1) / 8 := by
  have : (sizeLine : Nat) <= (2 ^ 63 - 1) / 8 := by decide
  lia
 have hfit : ¬ (!Builtin.List.listFitsIndex k) = true := by
  rw [fitsIndex_both h1 h2]
  exact Bool.false_ne_true
 have hlong : ¬ Builtin.List.listTooLong (its.toArray.size * k.toNat) = true := by
  rw [zil hlen]
  exact Bool.false_ne_true
 have hnew : List.foldl (fun x1 x2 => x1 ++ x2) #[] (List.replicate (if its.toArray.isEmpty = true then 0 else k.toNat) its.toArray) = (List.replicate k.toNat its).flatten.toArray := by
  have f0 : ∀ m : Nat, List.foldl (fun x1 x2 => x1 ++ x2) #[] (List.replicate m its.toArray) = (List.replicate m its).flatten.toArray := fun m => by
   have := zjr its m []
   rw [List.nil_append] at this
   exact this
  rw [f0]
  cases its with
  | nil => simp
  | cons a r' => rw [if_neg (by simp)]
 refine wpAny_binaryOp_repeat_ref (T := "list") (U := "int") (by decide) ⟨_, e, rfl⟩ (fun s' => typeIs_int s' k t) noFill_list_mul F.fills_int_mul F.slot_int_rmul repeat_list F.slot_int_index.lookup
  (call_meets F.slot_int_rmul (typeIs_int s k t) F.entry_int_rmul (F.args_int_rmul_2 _ _) (int___rmul___int_list k t l its.toArray n)
   ⟨e, rfl, ⟨_, e, rfl⟩, call_meets F.slot_list_mul ⟨_, e, rfl⟩ F.entry_list_mul (F.args_list_mul_2 _ _) (AutoListH.list___mul___list_int_3 l its.toArray n k t hfit hcap hlong) ⟨e, ?_⟩⟩)
 rw [hnew]
 exact ⟨.ref _, _, I.lnew (t' := s.toks) (r.rep k.toNat) (by rw [len_rep, Nat.mul_comm]; exact hz), rfl, q _ I.fresh⟩
end
section
variable {prog : Program} {w : World} {A : Around} {E : Value -> Shared -> Prop} {s : Shared}
theorem zm4 (its its2 : List Value) (a c : Nat) : its.toArray.extract 0 a ++ its2.toArray ++ its.toArray.extract c its.toArray.size = (its.take a ++ its2 ++ its.drop c).toArray := by
  apply Array.toList_inj.mp
  first
    | (simp
       exact List.take_of_length_le (by simp))
    | simp [List.take_of_length_le]
    | simp
theorem zls {a c n : Nat} (hac : a <= c) (hc : c <= n) : sliceBounds (some (a : Int)) (some (c : Int)) none n = ((a : Int), (c : Int), 1) := by
 simp only [sliceBounds, Option.getD_none]
 have h1 : ¬ ((a : Int) < 0) := by lia
 have h2 : ¬ ((c : Int) < 0) := by lia
 simp only [h1, h2, if_false, show (1 : Int) > 0 by decide, if_true]
 congr 1
 ·lia
 ·congr 1; lia
set_option maxRecDepth 100000 in
theorem ziv {l b sl : Addr} {items new : Array Value} {n n2 : Nat} 
    (e : s.heap.get? l = some { cls := .type "list", data := .seq items n }) (e2 : s.heap.get? b = some { cls := .type "list", data := .seq new n2 }) (hne : l ≠ b)
    (hs : s.heap.IsSliceOf sl vl vu .none) (pl : IsPart vl (some (a : Int))) (pu : IsPart vu (some (c : Int))) (hac : a <= c) (hc : c <= items.size)
    (hsz : items.size + new.size <= sizeLine) (h : Q () { s with heap := s.heap.update l (Obj.mapSeq fun xs => xs.extract 0 a ++ new ++ xs.extract c xs.size) }) :
    wpAny (model prog w) A (setItem (.ref l) (.ref sl) (.ref b)) Q E s := by
  have hl : s.heap.IsList l items := PySem.IsL.isList e
  have hb : s.heap.IsList b new := PySem.IsL.isList e2
  obtain ⟨os, hos, hcs, hds⟩ := id hs
  have hTs : s.TypeIs (.ref sl) "slice" := ⟨os, hos, hcs⟩
  have hstep : ¬ ((rawPart none == rawInt 0) = true) := Bool.false_ne_true
  have hsame : Builtin.List.listSameRef (.ref l) (.ref b) = false := by
    unfold Builtin.List.listSameRef
    exact beq_eq_false_iff_ne.mpr hne
  have hmax : (max (a : Int) (c : Int)).toNat = c := by lia
  have hz' : ((fun xs : Array Value => xs.extract 0 a ++ new ++ xs.extract c xs.size) items).size <= sizeLine + 1 := by
    simp only [Array.size_append, Array.size_extract]
    lia
  unfold setItem
  try with_reducible refine wpAny_holding ?_
  first | refine wpAny_bind (wpAny_pure ?_) | skip
  refine wpAny_bind (wpAny_sequenceKey hl.typeIs (by decide) ?_)
  refine wpAny_bind (wpAny_callSpecial?_slot (name := Str.ofString "__setitem__") hl.typeIs slot_list_setitem
    (wpAny_call_entry slot_list_setitem hl.typeIs entry_list_setitem ?_ (args_list_setitem _ _ _)))
  show wpAny _ _ (Builtin.List.listSubscript? (.ref sl) >>= _) _ _ s
  refine wpAny_bind ?_
  unfold Builtin.List.listSubscript?
  refine wpAny_bind (wpAny_specialOf hTs slice_no_index ?_)
  simp only [Option.isNone_none, if_true]
  refine wpAny_pure ?_
  show wpAny _ _ (typeOf (.ref sl) >>= _) _ _ s
  refine wpAny_bind (wpAny_typeOf hTs ?_)
  first
    | rw [if_neg (by decide)]
    | refine W.KFB.if_not (by decide) ?_
  rw [listSliceParts_eq]
  refine wpAny_bind (wpAny_bind (wpAny_field hos hds (x := .none) rfl (wpAny_bind (wpAny_listPart .none ?_))))
  rw [if_neg hstep]
  refine wpAny_bind (wpAny_field hos hds (x := vl) rfl (wpAny_bind (wpAny_listPart pl ?_)))
  refine wpAny_bind (wpAny_field hos hds (x := vu) rfl (wpAny_bind (wpAny_listPart pu (wpAny_pure ?_))))
  first
    | simp only [hsame, Bool.false_eq_true, if_false]
    | refine W.KFB.if_not hsame ?_
    | (dsimp only
       rw [if_neg (by rw [hsame]; exact Bool.false_ne_true)])
  refine wpAny_bind (m := Builtin.List.listAllItems (.ref b) "must assign iterable to extended slice") ?_
  unfold Builtin.List.listAllItems
  refine wpAny_bind (wpAny_typeOf hb.typeIs ?_)
  first
    | refine W.KFB.if_so (by decide) ?_
    | rw [if_pos (by decide)]
    | simp only [beq_self_eq_true, Bool.true_or, if_true]
  unfold Builtin.List.listItems
  refine wpAny_bind (wpAny_seqItems e2 rfl (wpAny_pure ?_))
  refine wpAny_bind (wpAny_bind (wpAny_seqItems e rfl (wpAny_pure ?_)))
  refine wpAny_bind (wpAny_of_eq ((sliceIndices_raw (some (a : Int)) (some (c : Int)) none items.size (by simp)).trans (congrArg (pure : Int × Int × Int -> Sem (Int × Int × Int)) (zls hac hc))) ?_)
  show wpAny _ _ (if ((1 : Int) == 1) = true then _ else _) _ _ s
  rw [if_pos (by decide)]
  refine wpAny_bind (wpAny_rule ?_)
  first
    | simp only [zil hsz, Bool.false_eq_true, if_false]
    | refine W.KFB.if_not (zil hsz) ?_
  first | refine wpAny_bind (wpAny_pure ?_) | skip
  show wpAny _ _ (updateSeq l (fun xs => xs.extract 0 ((a : Int)).toNat ++ new ++ xs.extract (max (a : Int) (c : Int)).toNat xs.size) >>= _) _ _ s
  rw [hmax, Int.toNat_natCast]
  refine wpAny_bind (wpAny_updateSeq (hz := Nat.le_trans (Nat.le_add_right _ _) hsz) (_hz' := hz') e rfl ?_)
  refine wpAny_bind (wpAny_letGo ?_)
  first
    | exact wpAny_bind (wpAny_pure (wpAny_pure ⟨.none, rfl, wpAny_pure h⟩))
    | exact wpAny_pure ⟨.none, rfl, wpAny_pure h⟩
end
section
variable {X : Cx}
theorem zmr {l b sl : Addr} {a c : Int} (I : Inv X pins σ H s)
  (hH : H l = some (.lst xs)) (hB : H b = some (.lst ys)) (hne : l ≠ b) (hs : s.heap.IsSliceOf sl vl vu .none) (ra : RelV (.int a) vl) (rc : RelV (.int c) vu) (h0 : 0 <= a) (hac : a <= c) (hc : c <= xs.length)
  (hz : xs.length + ys.length <= sizeLine) (h : ∀ s', Inv X pins σ (upd H l (.lst (xs.take a.toNat ++ ys ++ xs.drop c.toNat))) s' -> Q () s') :
  wpAny (model X.prog X.w) X.A (setItem (.ref l) (.ref sl) (.ref b)) Q X.xe s := by
 obtain ⟨ta, rfl⟩ := ra
 obtain ⟨tc, rfl⟩ := rc
 obtain ⟨z, its, n, r, hl, e⟩ := I.lstM hH
 obtain ⟨z2, its2, n2, r2, hl2, e2⟩ := I.lstM hB
 obtain ⟨a', rfl⟩ := Int.eq_ofNat_of_zero_le h0
 obtain ⟨c', rfl⟩ := Int.eq_ofNat_of_zero_le (Int.le_trans h0 hac)
 simp only [Int.toNat_natCast] at h
 refine ziv (a := a') (c := c') e e2 hne hs (.int _ _) (.int _ _) (by lia) (by rw [List.size_toArray]; lia) (by rw [List.size_toArray, List.size_toArray]; lia) (h _ ?_)
 refine I.lset (its' := its.take a' ++ its2 ++ its.drop c') (t' := s.toks) hH e ?_ (Vals.append (Vals.append (r.take _) r2) (r.drop _)) ?_
 ·exact zm4 its its2 a' c'
 ·rw [List.length_append, List.length_append, List.length_take, List.length_drop]
  lia
end
end L2
namespace Att
open PyProof.Rows PySem PySem.Calls PySem.W
theorem zhv {P : Params} {h : Heap} : ∀ (ns : List Int) (vs : List Value), WellAll P h vs (ns.map WData.int) -> IntsAre vs ns := by
 intro ns
 induction ns with
 | nil =>
  intro vs w
  rw [List.map_nil] at w
  cases w
  exact .nil
 | cons n ns ih =>
  intro vs w
  rw [List.map_cons] at w
  cases w with
  | cons a b =>
   cases a
   exact .cons _ _ (ih _ b)
theorem zlV {l : OpenLaw} {n : Nat} (hn : l.most = some n) {P : Params} {h : Heap} {args : List WData} {vals : List Value}
  (hpre : l.row.toRowW.claim.pre args = true) (hwl : WellAll P h vals args) :
  ∃ a vs ns, vals = [Value.ref a] /\ args = [WData.list (ns.map WData.int)] /\ h.get? a = some { cls := .type "list", data := .seq vs.toArray } /\ IntsAre vs ns /\ ns.length <= n := by
 have hsh : WShape.hasAll [] args [.list .int] = true := (pre_splitW hpre).1
 have hc : l.pre.holds [] { args := args } = true := (pre_splitW hpre).2
 obtain ⟨d, r, rfl, h1, h2⟩ := hasAllW_cons hsh
 obtain rfl := hasAllW_nil h2
 obtain ⟨xs, rfl, h3⟩ := hasW_list h1
 obtain ⟨ns, rfl⟩ := items_int h3
 have hlen : ns.length <= n := by
  unfold OpenLaw.pre at hc
  have h4 : (WTm.not (.lt (.lit (.int (n : Int))) (.len (.arg 0)))).holds [] { args := [.list (ns.map .int)] } = true := by
   have h4 := (holds_andW hc).1
   rw [hn] at h4
   exact h4
  have h5 := condW_of h4 (w_not (w_lt w_lit (w_len_list (w_arg rfl))))
  rw [List.length_map] at h5
  refine Nat.le_of_not_lt fun q => ?_
  have q' : (n : Int) < ((ns.length : Nat) : Int) := by lia
  first
   | (rw [decide_eq_true q'] at h5; exact absurd h5 (by decide))
   | (simp at h5; lia)
 cases hwl with
 | cons w1 w2 =>
  cases w2
  cases w1 with
  | list ho hall => exact ⟨_, _, ns, rfl, rfl, ho, zhv ns _ hall, hlen⟩
theorem zl6 (l : OpenLaw) (args : List WData) : l.row.toRowW.claim.post args (.bool true) args = true :=
 postW_of (r := l.row.toRowW) (X := (true == true))
  (show WShape.has [] (.bool true) .bool = true by first | rfl | decide | simp [WShape.has, WShape.arms, WShape.armsAll])
  (show (WTm.eq .res (.lit (.bool true))).value [] { args := args, res := some (.bool true), after := args } = some (.bool (true == true)) from w_eq_bool (w_res rfl) w_lit) rfl
theorem attach_call {l : OpenLaw} {n : Nat} {q : Program} {loose : List Str} {XP : (Str -> Option Value) -> Heap -> Prop} {YP : World -> Heap -> Prop} {d : DefRec}
  (hn : l.most = some n) (hdf : d.params.defaults = [])
  (call : ∀ (w : World) (s₀ s₁ : Shared) (mg mb : Str -> Option Value) (fa : Addr) (o : Obj) (pm cd doc : Value) (a : Addr) (vs : List Value) (ns : List Int),
   Ground q loose [] XP w s₀ mg mb s₁.heap -> YP w s₁.heap ->
   s₁.heap.get? fa = some o -> o.data = .func (docDef d.name d.params d.body d.scope pm cd doc) -> s₁.heap.CodeRec cd d.name -> mg d.name = some (.ref fa) ->
   s₁.heap.get? a = some { cls := .type "list", data := .seq vs.toArray } -> IntsAre vs ns -> ns.length <= n -> s₁.gens = #[] ->
   codeAny (model l.prog w) callerA (.call (.ref fa) ⟨[.ref a], []⟩) (fun r s' => r = .ok (.ret (.bool true)) /\ OldK s₁.heap s'.heap /\ s'.os = s₁.os /\ AllBare s'.gens) s₁) :
  WalkO q loose XP YP l.row.toRowW d [] (fun f vs => PySem.call f vs) := by
 intro w s₀ s₁ mg mb G Y fa o pm cd doc dV kV ho hd hcd hD hmg hg args vals as hpre hlay hrd hwl hlo
 obtain rfl : dV = .none := Dflts.none hD hdf
 obtain rfl : kV = .none := Dflts.noKw hD
 obtain ⟨a, vs, ns, rfl, rfl, hobj, hints, hlen⟩ := zlV hn hpre hwl
 refine enter_call (codeAny_mono (call w s₀ s₁ mg mb fa o pm cd doc a vs ns G Y ho (fd_plain hd) hcd hmg hobj hints hlen hg) fun r s' hq => ?_)
 obtain ⟨rfl, h2, h3, h4⟩ := hq
 exact ⟨.inl ⟨.bool true, .bool true, [], rfl, fun _ => rfl, .bool true, zl6 l _, fun _ => ⟨List.Pairwise.nil, fun _ hm => (nomatch hm)⟩⟩, h2, h3, h4⟩
end Att
namespace L2
open PyProof.Rows PySem PySem.Spec
variable {w : World} {K : W.Frag} {mg mb : Str -> Option Value} {CX : World -> CXT} {k : Nat} {a f b : Addr} {fd : FuncData} {x qual : Str} {sp : Sp} {vs : List Value} {ns : List Int} {l : W.OpenLaw} {q prog : Program} {loose ps : List Str} {XP : (Str -> Option Value) -> Heap -> Prop} {YP : World -> Heap -> Prop} {d : DefRec} {oc u : Value} {osl : Array (Option Value)} {H : Hp} {xs : List (List Key × Addr × Value)} {o : Option V} {kvs : List (List Key × V)} {y : V} {ks : List Key} {h' : Heap} {A : Around} {E Q : Value -> Shared -> Prop} {s : Shared}
theorem ziW : ∀ {vs : List Value} {ns : List Int}, IntsAre vs ns -> Vals (ns.map V.int) vs
 | _, _, .nil => .nil
 | _, _, .cons n t h => .cons ⟨t, rfl⟩ (ziW h)
noncomputable def Only (H : Hp) : Prop := ∀ b, H b = none \/ ∃ o xs, H b = some (.frz o (.lst xs))
theorem law_call {P : Program} {CX : CXT} {fa a : Addr} {s₁ : Shared} 
  (KX : K.In s₁.heap) (hns : s₁.heap.Ns mainGlobals mg) (hb : s₁.heap.Ns builtinsNs mb) (hbb : ∀ x : Str, x ≠ "__name__" -> mb x = bootBuiltins x) (hlim : s₁.heap.NoLimit) (hg : s₁.gens = #[])
  (ha : s₁.heap.get? a = some { cls := .type "list", data := .seq vs.toArray }) (hi : IntsAre vs ns) (hl : ns.length <= sizeLine) (hr : Room k callerA)
  (F : ∀ base : Heap, K.In base -> base.Ns mainGlobals mg -> FnOk P w K mg base CX k fa fd [x] sp) (hbind : ∀ (s : Shared) (u : Value), BindsTo s fd ⟨[u], []⟩ [(x, u)])
  (hsp : ∀ H : Hp, Only H -> SqL K H a (ns.map V.int) -> sp [.ref a] H (fun v _ => v = .bl true) fun _ _ _ => False)
  (hCX : ∀ H e s', CX [] H s₁ (fun _ _ _ => False) e s' -> False) :
  codeAny (model P w) callerA (.call (.ref fa) ⟨[.ref a], []⟩) (fun r s' => r = .ok (.ret (.bool true)) /\ OldK s₁.heap s'.heap /\ s'.os = s₁.os /\ AllBare s'.gens) s₁ := by
 have rv := ziW hi
 have lenV := hi.length
 have core : ∀ H : Hp, Only H -> SqL K H a (ns.map V.int) -> HOk P w H s₁.heap -> (∀ b, H b ≠ none -> b = a) -> (H a ≠ none -> K.lookup a = none) ->
   codeAny (model P w) callerA (.call (.ref fa) ⟨[.ref a], []⟩) (fun r s' => r = .ok (.ret (.bool true)) /\ OldK s₁.heap s'.heap /\ s'.os = s₁.os /\ AllBare s'.gens) s₁ := by
  intro H hO hS hok hA hK
  have base_of : ∀ {b : Addr} {o : Obj}, s₁.heap.get? b = some o -> H b = none -> (hidT s₁.heap H).get? b = some o := fun e n => hidT_get e n
  have noA : ∀ {b : Addr} {o : Obj} {es : Array DictEntry} {ep : Nat}, s₁.heap.get? b = some o -> o.data = .dict es ep -> H b = none := fun {b o es ep} e d => by
   cases q : H b with
   | none => rfl
   | some u =>
    have e' : b = a := hA b (by rw [q]; simp)
    subst e'
    rw [ha] at e; cases e
    have d' : Data.seq vs.toArray _ = Data.dict es ep := d
    cases d'
  have nsK : ∀ {b : Addr} {m : Str -> Option Value}, s₁.heap.Ns b m -> (hidT s₁.heap H).Ns b m := fun {b m} ⟨o, es, ep, e, d, r⟩ => ⟨o, es, ep, base_of e (noA e d), d, r⟩
  have hKb : K.In (hidT s₁.heap H) := fun b o e => base_of (KX b o e) (by
   cases q : H b with
   | none => rfl
   | some u =>
    have e' : b = a := hA b (by rw [q]; simp)
    subst e'
    rw [hK (by rw [q]; simp)] at e; cases e)
  have hM : Mod K mg (hidT s₁.heap H) := ⟨hKb, nsK hns, ⟨mb, nsK hb, hbb⟩, let ⟨mc, h1, h2⟩ := hlim; ⟨mc, nsK h1, h2⟩⟩
  have e0 : Env0 P w K mg (hidT s₁.heap H) callerA [] s₁ H := ⟨rfl, hM, fun b o e => of_hidT e, Nat.le_of_eq (zmi _ _), trivial, fun b hb => absurd (show b ∈ ([] : List Addr) from hb) (by simp), hok, .of_eq hg⟩
  refine codeAny_mono ((F _ hKb (nsK hns)).run callerA [] s₁ H ⟨[.ref a], []⟩ [.ref a] [.ref a] _ _ hr e0 (hbind s₁ (.ref a)) (.cons rfl .nil) (hsp H hO hS)) fun r s' h => ?_
  cases r with
  | error e => exact (hCX H e s' h).elim
  | ok fl =>
   cases fl with
   | next => exact False.elim h
   | brk => exact False.elim h
   | cont => exact False.elim h
   | ret u =>
    obtain ⟨v, H', os, bare, un, hok', r', q⟩ := h
    have q' : v = .bl true := q
    subst q'
    obtain rfl : u = Value.bool true := r'
    refine ⟨rfl, OldK.of_keep fun b o e => ?_, os, bare⟩
    cases q : H b with
    | none => exact un.keep b o e q (by intro z; exact absurd (show b ∈ ([] : List Addr) from z) (by simp)) (by simp)
    | some u =>
     rcases hO b with z | ⟨ob, xs, z⟩
     ·rw [q] at z; cases z
     ·have z2 := un.frzs b ob _ z
      obtain ⟨e1, _⟩ := hok b _ z
      obtain ⟨e2, _⟩ := hok' b _ z2
      rw [e] at e1; cases e1
      exact e2
 cases hk : K.lookup a with
 | some o =>
  have e := KX a o hk
  rw [ha] at e
  cases e
  refine core (fun _ => none) (fun _ => .inl rfl) (.inr ⟨_, vs.toArray, _, hk, rfl, rfl, rfl, by rw [List.size_toArray, lenV]; exact hl, by simpa using rv⟩) (fun b u z => by have z' : (none : Option HO) = some u := z; cases z') (fun b z => absurd rfl z) fun z => absurd rfl z
 | none =>
  refine core (fun b => if b = a then some (.frz { cls := .type "list", data := .seq vs.toArray } (.lst (ns.map V.int))) else none) (fun b => ?_) (.inl (.inr ⟨{ cls := .type "list", data := .seq vs.toArray }, if_pos rfl⟩)) (fun b u z => ?_) (fun b z => ?_) fun _ => hk
  ·by_cases hb : b = a
   ·exact .inr ⟨_, _, if_pos hb⟩
   ·exact .inl (if_neg hb)
  ·by_cases hb : b = a
   ·have z' := (if_pos hb).symm.trans z
    cases z'
    subst hb
    exact ⟨ha, by rw [List.length_map]; exact hl, vs, _, rv, ha⟩
   ·have z' := (if_neg hb).symm.trans z
    cases z'
  ·by_cases hb : b = a
   ·exact hb
   ·exact absurd (if_neg hb) z
theorem walk_of {n k : Nat} {K : Params -> W.Frag} {sp : World -> Sp} 
  (hn : l.most = some n) (hn2 : n <= sizeLine) (hdf : d.params.defaults = []) (hr : Room k callerA)
  (hY : ∀ (w : World) (h : Heap), YP w h -> (K w.params).In h)
  (F : ∀ (w : World) (mg : Str -> Option Value) (fa : Addr) (h : Heap), (K w.params).In h -> h.Ns mainGlobals mg -> mg d.name = some (.ref fa) ->
   ∃ fd : FuncData, (∀ (s : Shared) (u : Value), BindsTo s fd ⟨[u], []⟩ [(x, u)]) /\
    ∀ base : Heap, (K w.params).In base -> base.Ns mainGlobals mg -> FnOk l.prog w (K w.params) mg base (CX w) k fa fd [x] (sp w))
  (hsp : ∀ (w : World) (H : Hp) (a : Addr) (ns : List Int), ns.length <= n -> Only H -> SqL (K w.params) H a (ns.map V.int) -> sp w [.ref a] H (fun v _ => v = .bl true) fun _ _ _ => False)
  (hCX : ∀ (w : World) (H : Hp) (s : Shared) (e : Value) (s' : Shared), CX w [] H s (fun _ _ _ => False) e s' -> False) :
  W.WalkO q loose XP YP l.row.toRowW d [] (fun f vs => PySem.call f vs) := by
 refine Att.attach_call hn hdf fun w s₀ s₁ mg mb fa o pm cd doc a vs ns G Y ho hd hcd hmg hobj hints hlen hg => ?_
 have KX := hY w _ Y
 obtain ⟨fd, hb, hF⟩ := F w mg fa _ KX G.T.g hmg
 exact law_call KX G.T.g G.T.b G.T.builtins G.T.nolimit hg hobj hints (Nat.le_trans hlen hn2) hr hF hb (fun H hO hS => hsp w H a ns hlen hO hS) fun H e s' => hCX w H s₁ e s'
noncomputable def zev (s : Stmt) : Arguments := match s with
 | .FunctionDef _ a _ _ _ _ _ _ _ _ => a
 | _ => { posonlyargs := [], args := [], vararg := none, kwonlyargs := [], kw_defaults := [], kwarg := none, defaults := [] }
noncomputable def zca (s : Stmt) : List Stmt := match s with
 | .FunctionDef _ _ b _ _ _ _ _ _ _ => b
 | _ => []
noncomputable def zaR (s : Stmt) : Scope := match s with
 | .FunctionDef _ _ _ _ _ _ sc _ _ _ => sc
 | _ => { kind := .function, names := [], isGenerator := false, isCoroutine := false }
noncomputable abbrev CX0 : CXT := fun _ _ _ _ _ _ => False
noncomputable abbrev E0 : XK := fun _ _ _ => False
theorem pass0 {X : Cx} : zmq CX0 X E0 := fun _ _ _ _ _ _ _ h => h.elim
structure Fun (K : W.Frag) (x qual : Str) (st : Stmt) (f : Addr) (fd : FuncData) : Prop where
 ex : ∃ (oc : Value) (od : Option Addr) (kV doc pm : Value) (an : Option Addr) (cdv ct : Value) (osl : Array (Option Value)),
  fd = W.fnOf x qual (zev st) (zca st) (zaR st) .none kV doc pm an cdv ct /\ K.lookup f = some ⟨oc, od, .func fd, osl⟩ /\ W.codeIn K cdv qual = true
 kp : W.keepIn K (.ref f) = true
section
variable {P : Program} {w : World} {K : W.Frag} {mg : Str -> Option Value} {base : Heap}
theorem Fun.ok {st : Stmt} {N ps : List Str} (F : Fun K x qual st f fd) (S : FnScope N ps (zaR st)) (len : ∀ vs H Q E, sp vs H Q E -> vs.length = ps.length)
  (hbody : ∀ (cdv : Value) (A : Around) (outer : List Env) (s : Shared) (H : Hp) (vs : List V) (Q : VK) (E : XK), Room k (A.deeper (envOfC qual (zaR st) s.heap.objs.size f cdv)) -> sp vs H Q E ->
   ∃ t, PSs (cxOf CX0 P w K mg base N qual (zaR st) f cdv A outer s H E).nox (zca st) t /\ t { nx := fun _ H' => Q .non H', rt := Q } (start N vs) H) : FnOk P w K mg base CX0 (k + 1) f fd ps sp := by
 obtain ⟨oc, od, kV, doc, pm, an, cdv, ct, osl, rfl, lk, hcd⟩ := F.ex
 refine fn_of lk hcd S len fun A outer s H vs Q E hr hsp => ?_
 obtain ⟨t, h, q⟩ := hbody cdv A outer s H vs Q E hr hsp
 exact ⟨t, h.nox, q⟩
theorem Fun.binds {st : Stmt} (F : Fun K x qual st f fd)
  (h : ∀ (kV doc pm : Value) (an : Option Addr) (cdv ct : Value) (us : List Value), us.length = ps.length -> bindArgs (W.fnOf x qual (zev st) (zca st) (zaR st) .none kV doc pm an cdv ct) ⟨us, []⟩ = pure (ps.zip us)) : Binds K fd ps [] := by
 obtain ⟨oc, od, kV, doc, pm, an, cdv, ct, osl, rfl, lk, hcd⟩ := F.ex
 exact .all (h kV doc pm an cdv ct)
theorem fun_mk {st : Stmt} {od an : Option Addr} {kV doc pm cdv ct : Value} (l : K.lookup f = some ⟨oc, od, .func (W.fnOf x qual (zev st) (zca st) (zaR st) .none kV doc pm an cdv ct), osl⟩)
  (c : W.codeIn K cdv qual = true) (k : W.keepIn K (.ref f) = true) : Fun K x qual st f (W.fnOf x qual (zev st) (zca st) (zaR st) .none kV doc pm an cdv ct) := ⟨⟨oc, od, kV, doc, pm, an, cdv, ct, osl, rfl, l, c⟩, k⟩
end
noncomputable def Same (H H' : Hp) : Prop := ∀ b o, H b = some o -> H' b = some o
theorem Same.seq {H H' : Hp} {xs : List V} (e : Same H H') (h : SqL K H a xs) : SqL K H' a xs := by
 rcases h with (h | ⟨o, h⟩) | h
 ·exact .inl (.inl (e _ _ h))
 ·exact .inl (.inr ⟨o, e _ _ h⟩)
 ·exact .inr h
section
variable {κ : Type} [DecidableEq κ]
noncomputable def valV (kvs : List (κ × V)) (k : κ) : Option V := (kvs.find? fun kv => decide (kv.1 = k)).map (·.2)
noncomputable def putK (kvs : List (κ × V)) (k : κ) (v : V) : List (κ × V) :=
 if (kvs.any fun kv => decide (kv.1 = k)) = true then kvs.map (fun kv => if kv.1 = k then (kv.1, v) else kv) else kvs ++ [(k, v)]
theorem zig {p : κ × V} {r : List (κ × V)} {k : κ} (e : p.1 = k) : valV (p :: r) k = some p.2 := by simp [valV, List.find?_cons, e]
theorem zin {p : κ × V} {r : List (κ × V)} {k : κ} (e : ¬ p.1 = k) : valV (p :: r) k = valV r k := by simp [valV, List.find?_cons, e]
theorem zk3 (k : κ) : ∀ kvs : List (κ × V), (kvs.any fun kv => decide (kv.1 = k)) = (valV kvs k).isSome
 | [] => rfl
 | p :: r => by
  rw [List.any_cons]
  by_cases e : p.1 = k
  ·simp only [zig e, decide_eq_true e, Bool.true_or, Option.isSome_some]
  ·rw [zin e, decide_eq_false e, Bool.false_or]; exact zk3 k r
theorem zjU (kvs : List (κ × V)) (k : κ) (v : V) : (putK kvs k v).length <= kvs.length + 1 := by
 unfold putK
 split
 ·rw [List.length_map]; lia
 ·rw [List.length_append, List.length_cons, List.length_nil]; lia
theorem RelO.isSome_eq {u : Option Value} (r : RelO o u) : o.isSome = u.isSome := by
 cases o with
 | none => cases u with
  | none => rfl
  | some _ => exact (show False from r).elim
 | some _ => cases u with
  | none => exact (show False from r).elim
  | some _ => rfl
end
theorem kV_is {P : Program} {k : Key} (r : RelV (kV k) u) : (zbO P w).is k u = true := by
 cases k with
 | inl i => obtain ⟨t, e⟩ := (show ∃ t, u = Value.int i t from r); subst e; exact zkm P w i t
 | inr x => obtain ⟨t, e⟩ := (show ∃ t, u = Value.str x t from r); subst e; exact zj6 P w x t
theorem zjn {P : Program} : ∀ {ks : List Key} {us : List Value}, Vals (ks.map kV) us -> ItemsAre (zbO P w) ks us
 | [], _, r => by rw [List.map_nil] at r; cases r; exact .nil
 | k :: ks, _, r => by
  rw [List.map_cons] at r
  cases r with
  | cons h t => exact .cons (kV_is h) (zjn t)
noncomputable abbrev KT (H : Hp) : List (List Key × V) -> List (List Key × Addr × Value) -> Prop := Paired fun p q => p.1 = q.1 /\ H q.2.1 = some (.tup (p.1.map kV)) /\ RelV p.2 q.2.2
theorem KT.val (r : KT H kvs xs) (k : List Key) : RelO (valV kvs k) ((atKey xs k).map (·.2)) := by
 induction r with
 | nil => exact True.intro
 | @cons p q ps qs h t ih =>
  obtain ⟨h1, _, h2⟩ := h
  by_cases e : p.1 = k
  ·have e' : q.1 = k := h1.symm.trans e
   have b : atKey (q :: qs) k = some q.2 := by simp [atKey, List.find?_cons, e']
   rw [zig e, b]; exact h2
  ·have e' : ¬ q.1 = k := fun z => e (h1.trans z)
   have b : atKey (q :: qs) k = atKey qs k := by simp [atKey, List.find?_cons, e']
   rw [zin e, b]; exact ih
theorem KT.repl (r : KT H kvs xs) (k : List Key) (ry : RelV y u) :
  KT H (kvs.map fun kv => if kv.1 = k then (kv.1, y) else kv) (xs.map (putAt k u)) := by
 induction r with
 | nil => exact .nil
 | @cons p q ps qs h t ih =>
  rw [List.map_cons, List.map_cons]
  refine .cons ?_ ih
  obtain ⟨h1, h2, h3⟩ := h
  unfold putAt
  by_cases e : p.1 = k
  ·rw [if_pos e, if_pos (h1.symm.trans e)]; exact ⟨h1, h2, ry⟩
  ·rw [if_neg e, if_neg (fun z => e (h1.trans z))]; exact ⟨h1, h2, h3⟩
theorem KT.put (r : KT H kvs xs) (k : List Key) (hb : H b = some (.tup (k.map kV))) (ry : RelV y u) :
  KT H (putK kvs k y) (storedH xs k b u) := by
 have e : (kvs.any fun kv => decide (kv.1 = k)) = (atKey xs k).isSome := by
  rw [zk3, (r.val k).isSome_eq, Option.isSome_map]
 unfold putK storedH
 rw [e]
 by_cases q : (atKey xs k).isSome = true
 ·rw [if_pos q, if_pos q]; exact r.repl k ry
 ·rw [if_neg q, if_neg q]; exact Paired.snoc r ⟨rfl, hb, ry⟩
section
variable {P : Program} {w : World} {H : Hp} {h : Heap} {a : Addr}
theorem zlS (ok : HOk P w H h) (e : H a = some (.tup (ks.map kV))) : (tupleKind (zbO P w)).is h ks a := by
 obtain ⟨_, its, r, o, h1, h2, n, h3⟩ := (show ObjOk P w H h a (.tup (ks.map kV)) from ok a _ e)
 exact ⟨o, its.toArray, n, h1, h2, h3, by simpa using zjn r⟩
end
section
variable {X : Cx} {pins : List (Addr × Obj)} {σ : St} {H : Hp} {s : Shared} {a : Addr} {y v : V} {u r : Value} {o : Option V} {A : Around} {E : Value -> Shared -> Prop}
theorem Inv.big (I : Inv X pins σ H s) : sysModules < s.heap.objs.size := by
 have h : mainGlobals < s.heap.objs.size := (I.mod.glob.keeps I.bk).lt
 exact Nat.lt_trans (by decide) h
theorem d_write {t' : Nat} {ob : HO} (I : Inv X pins σ H s) (mu : Mut (H a)) (hs : Heap.SameBut a s.heap h') (he : ∃ q, h'.get? a = some q) (new : ObjOk X.prog X.w (upd H a ob) h' a ob) :
  Inv X pins σ (upd H a ob) { s with heap := h', toks := t' } :=
 I.write (x := a) (e := a) mu (.inl rfl) (fun b q hb z => (hs.2 b hb).trans z) he new
end
noncomputable def NoSl (i : Expr) : Prop := ∀ ov iv, subscripted i false ov iv = operate [ov, iv] (getItem ov iv)
theorem subD_of {env : Env} {value slice : Expr} {pos : Pos} {T id : String} 
  (hl : typeLookup (.type T) "__getitem__" = pure (some (.builtin id))) (hs : NoSl slice)
  (h : wpAny (model prog w) A (eval value env) (fun o s₁ => wpAny (model prog w) A (eval slice env) (fun i s₂ => s₂.TypeIs o T /\ wpAny (model prog w) A (getItem o i) Q E s₂) E s₁) E s) :
  wpAny (model prog w) A (eval (.Subscript value slice pos) env) Q E s := by
 refine Subscript_ (wpAny_mono h (fun o s₁ h₁ => wpAny_mono h₁ (fun i s₂ h₂ => ?_) fun _ _ x => x) fun _ _ x => x)
 obtain ⟨hT, h₂⟩ := h₂
 unfold subscriptTail
 refine wpAny_bind ?_
 rw [getitemInPython_of_ne hT.not_modules]
 refine wpAny_bind (wpAny_specialOf hT hl ?_)
 have fin : wpAny (model prog w) A (subscripted slice false o i) (fun r s₃ => wpAny (model prog w) A (letTemporaryGo value o r >>= fun _ => pure r) Q E s₃) E s₂ := by
  rw [hs o i]
  exact wpAny_operating (wpAny_mono h₂ (fun r s₃ h₃ => wpAny_bind (wpAny_letTemporaryGo (wpAny_pure h₃))) fun _ _ x => x)
 first
  | exact wpAny_pure (wpAny_bind fin)
  | exact wpAny_bind (wpAny_pure (wpAny_bind fin))
  | exact wpAny_bind fin
end L2
namespace M
open L2 PySem
variable {G G' H : Hp} {a p l : Addr} {o : Obj} {xs ys : List V} {ks : List (List Int)} {A A' : List Addr} {K : W.Frag} {x v : V} {d : D} {ds es : List D} {i : Nat} {c : Ch} {t : T} {ov : Option (Option V)} {s : Sl} {ρ ρ' : R} {e : Expr} {b : Bool} {f : D -> D -> Option D} {ma : ME} {op : Operator} {r : V -> Hp -> VK -> Prop} {g : D -> Option D}
inductive D where
 | non | bl (b : Bool) | int (i : Int) | str (x : Str) | lst (ds : List D) | tup (ds : List D) | scr (ns : List Int) | exc (c : Str) | dic (ks : List Int) (ds : List D) | dit (ks : List (List Int)) (ds : List D)
noncomputable def ExcIs (a C : Addr) (h : Heap) : Prop := ∃ o, h.get? a = some o /\ o.cls = .ref C
noncomputable def kI (n : Int) : Key := Sum.inl n
noncomputable def kn (a : Addr) (o : Obj) : HO := .ext (fun h => h.get? a = some o)
noncomputable def hI : Key -> Int
 | .inl k => hashInt k
 | .inr _ => 0
noncomputable def DtN (o : Obj) (xs : List (List Key × Addr × Value)) : Prop := o.ExactDict /\ (∃ es ep, o.data = .dict es ep /\ es.toList = xs.map fun x => ⟨reduceHash (Builtin.Tuple.tupleHashOf (x.1.map hI)), .ref x.2.1, x.2.2⟩) /\ (xs.map (·.1)).Nodup
structure DtI (G : Hp) (a : Addr) (o : Obj) (xs : List (List Key × Addr × Value)) (ks : List (List Int)) (ys : List (List Key × V)) : Prop where
 sys : (a == sysModules) = false
 dn : DtN o xs
 len : ys.length <= sizeLine
 key : ys.map (·.1) = ks.map (·.map kI)
 kt : Paired (fun (p : List Key × V) (q : List Key × Addr × Value) => p.1 = q.1 /\ G q.2.1 = some (.tup (p.1.map kV)) /\ RelV p.2 q.2.2) ys xs
mutual
noncomputable def RepD (K : W.Frag) (G : Hp) (v : V) : D -> Prop
 | .non => v = .non
 | .bl b => v = .bl b
 | .int i => v = .int i
 | .str x => v = .str x
 | .lst ds => ∃ a xs, v = .ref a /\ G a = some (.lst xs) /\ RepL K G xs ds
 | .tup ds => ∃ a xs, v = .ref a /\ G a = some (.tup xs) /\ RepL K G xs ds
 | .scr ns => ∃ a, v = .ref a /\ SqL K G a (ns.map V.int)
 | .exc c => ∃ a C, v = .ref a /\ W.nsIn K mainGlobals c = some (some (.ref C)) /\ G a = some (.ext (ExcIs a C))
 | .dic ks ds => ∃ a ys, v = .ref a /\ Rd G a (.dK ys) /\ ys.map (·.1) = ks.map kI /\ RepL K G (ys.map (·.2)) ds
 | .dit ks ds => ∃ a ys o xs, v = .ref a /\ G a = some (kn a o) /\ DtI G a o xs ks ys /\ RepL K G (ys.map (·.2)) ds
noncomputable def RepL (K : W.Frag) (G : Hp) (xs : List V) : List D -> Prop
 | [] => xs = []
 | d :: ds => ∃ x ys, xs = x :: ys /\ RepD K G x d /\ RepL K G ys ds
end
noncomputable def Fz (G H : Hp) : Prop := ∀ a o, G a = some o -> H a = some o
theorem DtI.mono {xs : List (List Key × Addr × Value)} {ys : List (List Key × V)} (d : DtI G a o xs ks ys) (h : Fz G G') : DtI G' a o xs ks ys := { d with kt := Paired.mapP d.kt fun _ _ z => ⟨z.1, h _ _ z.2.1, z.2.2⟩ }
theorem Fz.refl (G : Hp) : Fz G G := fun _ _ h => h
theorem Fz.trans {A B C : Hp} (h : Fz A B) (k : Fz B C) : Fz A C := fun a o e => k a o (h a o e)
theorem Fz.free (h : Fz G H) (e : H p = none) : G p = none := by
 cases q : G p with
 | none => rfl
 | some o => rw [h p o q] at e; cases e
theorem Fz.new (e : G p = none) (o : HO) : Fz G (upd G p o) := fun a u q => by
 rw [zay (zaP q e)]; exact q
theorem Fz.upd2 (h : Fz G H) (p : Addr) (o : HO) : Fz (upd G p o) (upd H p o) := fun a u q => by
 by_cases e : a = p
 ·subst e; rw [zaO] at q ⊢; exact q
 ·rw [zay e] at q ⊢; exact h a u q
theorem Fz.right (h : Fz G H) (e : G p = none) (o : HO) : Fz G (upd H p o) := fun a u q => by
 rw [zay (zaP q e)]; exact h a u q
theorem Fz.sql {G H : Hp} (h : Fz G H) (q : SqL K G a xs) : SqL K H a xs := Same.seq (H := G) (H' := H) h q
mutual
theorem RepD.mono (h : Fz G G') : ∀ {v : V} {d : D}, RepD K G v d -> RepD K G' v d
 | _, .non, e => e
 | _, .bl _, e => e
 | _, .int _, e => e
 | _, .str _, e => e
 | _, .lst _, ⟨a, xs, e, q, r⟩ => ⟨a, xs, e, h a _ q, RepL.mono h r⟩
 | _, .tup _, ⟨a, xs, e, q, r⟩ => ⟨a, xs, e, h a _ q, RepL.mono h r⟩
 | _, .scr _, ⟨a, e, q⟩ => ⟨a, e, h.sql q⟩
 | _, .exc _, ⟨a, C, e, n, q⟩ => ⟨a, C, e, n, h a _ q⟩
 | _, .dic _ _, ⟨a, ys, e, q, f, r⟩ => ⟨a, ys, e, q.imp (h a _) fun ⟨o, z⟩ => ⟨o, h a _ z⟩, f, RepL.mono h r⟩
 | _, .dit _ _, ⟨a, ys, o, xs, e, q, f, r⟩ => ⟨a, ys, o, xs, e, h a _ q, f.mono h, RepL.mono h r⟩
theorem RepL.mono (h : Fz G G') : ∀ {xs : List V} {ds : List D}, RepL K G xs ds -> RepL K G' xs ds
 | _, [], e => e
 | _, _ :: _, ⟨x, ys, e, q, r⟩ => ⟨x, ys, e, RepD.mono h q, RepL.mono h r⟩
end
section
variable {K : W.Frag} {G : Hp}
theorem RepL.nil : RepL K G [] [] := rfl
theorem RepL.cons {x : V} {d : D} (h : RepD K G x d) (t : RepL K G xs ds) : RepL K G (x :: xs) (d :: ds) := ⟨x, xs, rfl, h, t⟩
theorem RepL.length : ∀ {xs : List V} {ds : List D}, RepL K G xs ds -> xs.length = ds.length
 | _, [], e => by cases e; rfl
 | _, _ :: _, ⟨x, ys, e, _, r⟩ => by subst e; rw [List.length_cons, List.length_cons, RepL.length r]
theorem RepL.get : ∀ {xs : List V} {ds : List D} {i : Nat} {d : D}, RepL K G xs ds -> ds[i]? = some d -> ∃ x, xs[i]? = some x /\ RepD K G x d
 | _, [], _, _, _, h => by simp at h
 | _, _ :: _, 0, _, ⟨x, ys, e, q, r⟩, h => by subst e; simp at h; subst h; exact ⟨x, rfl, q⟩
 | _, _ :: _, i + 1, _, ⟨x, ys, e, q, r⟩, h => by
  subst e
  obtain ⟨y, h1, h2⟩ := RepL.get (i := i) r (by simpa using h)
  exact ⟨y, by simpa using h1, h2⟩
theorem RepL.append : ∀ {xs ys : List V} {ds es : List D}, RepL K G xs ds -> RepL K G ys es -> RepL K G (xs ++ ys) (ds ++ es)
 | _, _, [], _, e, r => by cases e; exact r
 | _, _, _ :: _, _, ⟨x, zs, e, q, r⟩, s => by subst e; exact ⟨x, zs ++ _, rfl, q, RepL.append r s⟩
theorem RepL.snoc (h : RepL K G xs ds) (q : RepD K G x d) : RepL K G (xs ++ [x]) (ds ++ [d]) := h.append (.cons q .nil)
theorem RepL.take : ∀ {xs : List V} {ds : List D} (n : Nat), RepL K G xs ds -> RepL K G (xs.take n) (ds.take n)
 | _, _, 0, _ => by simp; exact .nil
 | _, [], n + 1, e => by cases e; exact .nil
 | _, _ :: _, n + 1, ⟨x, zs, e, q, r⟩ => by subst e; exact ⟨x, zs.take n, rfl, q, RepL.take n r⟩
theorem RepL.drop : ∀ {xs : List V} {ds : List D} (n : Nat), RepL K G xs ds -> RepL K G (xs.drop n) (ds.drop n)
 | _, _, 0, r => by simpa using r
 | _, [], n + 1, e => by cases e; exact .nil
 | _, _ :: _, n + 1, ⟨x, zs, e, q, r⟩ => by subst e; exact RepL.drop n r
theorem RepL.set : ∀ {xs : List V} {ds : List D} (i : Nat) {x : V} {d : D}, RepL K G xs ds -> RepD K G x d -> RepL K G (xs.set i x) (ds.set i d)
 | _, [], _, _, _, e, _ => by cases e; exact .nil
 | _, _ :: _, 0, _, _, ⟨x, zs, e, q, r⟩, h => by subst e; exact ⟨_, zs, rfl, h, r⟩
 | _, _ :: _, i + 1, _, _, ⟨x, zs, e, q, r⟩, h => by subst e; exact ⟨x, _, rfl, q, RepL.set i r h⟩
theorem RepL.reverse : ∀ {xs : List V} {ds : List D}, RepL K G xs ds -> RepL K G xs.reverse ds.reverse
 | _, [], e => by cases e; exact .nil
 | _, _ :: _, ⟨x, zs, e, q, r⟩ => by subst e; rw [List.reverse_cons, List.reverse_cons]; exact (RepL.reverse r).snoc q
theorem RepL.rep (h : RepL K G xs ds) : ∀ k : Nat, RepL K G (List.replicate k xs).flatten (List.replicate k ds).flatten
 | 0 => .nil
 | k + 1 => by rw [List.replicate_succ, List.replicate_succ, List.flatten_cons, List.flatten_cons]; exact h.append (RepL.rep h k)
theorem RepL.ints : ∀ (ns : List Int), RepL K G (ns.map V.int) (ns.map D.int)
 | [] => .nil
 | n :: ns => ⟨.int n, ns.map V.int, rfl, rfl, RepL.ints ns⟩
theorem RepL.ints_eq : ∀ {ns : List Int} {xs : List V}, RepL K G xs (ns.map D.int) -> xs = ns.map V.int
 | [], _, e => e
 | n :: ns, _, ⟨x, ys, e, q, r⟩ => by subst e; cases (show x = V.int n from q); rw [RepL.ints_eq r]; rfl
theorem RepL.at {i : Int} (h : RepL K G xs ds) (e : atI ds i = some d) : ∃ x, atI xs i = some x /\ RepD K G x d := by
 unfold atI at e ⊢
 rw [h.length]
 cases q : ixN ds.length i with
 | none => rw [q] at e; cases e
 | some j => rw [q] at e; exact h.get e
end
inductive Ch where
 | d (x : D) | l (xs : List D) | t (xss : List (List D))
inductive T where
 | lst (cs : List Ch) | tup (cs : List Ch) | ins (c : Str) (fs : List (Str × Ch)) | dic (ks : List Int) (ds : List D) | dit (ks : List (List Int)) (ds : List D)
inductive Sl where
 | emp | val (d : D) | own (ds : List D) | par (ds : List D) | two (ds es : List D) | tre (t : T) | ptr (t : T)
noncomputable abbrev R := List Sl
noncomputable def Sl.items : Sl -> Option (List D)
 | .own ds => some ds
 | .par ds => some ds
 | _ => none
structure Bs where
 G : Hp
 H : Hp
 O : List (Nat × Addr)
noncomputable def RepTb (K : W.Frag) (G H : Hp) : List V -> List (List D) -> List Addr -> Prop
 | [], [], A => A = []
 | x :: xs, ds :: dss, A => ∃ r ys A2, x = .ref r /\ H r = some (.lst ys) /\ RepL K G ys ds /\ RepTb K G H xs dss A2 /\ A = r :: A2
 | _, _, _ => False
noncomputable def RepC (K : W.Frag) (G H : Hp) (x : V) : Ch -> List Addr -> Prop
 | .d y, A => RepD K G x y /\ A = []
 | .l ds, A => ∃ l xs, x = .ref l /\ H l = some (.lst xs) /\ RepL K G xs ds /\ A = [l]
 | .t xss, A => ∃ p xs A', x = .ref p /\ H p = some (.lst xs) /\ RepTb K G H xs xss A' /\ A = p :: A'
noncomputable def RepCs (K : W.Frag) (G H : Hp) : List V -> List Ch -> List Addr -> Prop
 | [], [], A => A = []
 | x :: xs, c :: cs, A => ∃ A1 A2, RepC K G H x c A1 /\ RepCs K G H xs cs A2 /\ A = A1 ++ A2
 | _, _, _ => False
noncomputable def RepT (K : W.Frag) (G H : Hp) (v : V) : T -> List Addr -> Prop
 | .lst cs, A => ∃ p xs A', v = .ref p /\ H p = some (.lst xs) /\ RepCs K G H xs cs A' /\ A = p :: A'
 | .tup cs, A => ∃ p xs A', v = .ref p /\ H p = some (.tup xs) /\ RepCs K G H xs cs A' /\ A = p :: A'
 | .ins c fs, A => ∃ p C dx vs A', v = .ref p /\ W.nsIn K mainGlobals c = some (some (.ref C)) /\ H p = some (.ins C dx vs) /\ H dx = some (.own p) /\ vs.map (·.1) = fs.map (·.1) /\ RepCs K G H (vs.map (·.2)) (fs.map (·.2)) A' /\ A = p :: dx :: A'
 | .dic ks ds, A => ∃ p ys, v = .ref p /\ H p = some (.dK ys) /\ ys.map (·.1) = ks.map kI /\ RepL K G (ys.map (·.2)) ds /\ A = [p]
 | .dit ks ds, A => ∃ p ys o xs, v = .ref p /\ H p = some (kn p o) /\ DtI G p o xs ks ys /\ RepL K G (ys.map (·.2)) ds /\ A = [p]
section
variable {K : W.Frag} {G G' H H' : Hp}
theorem RepTb.move : ∀ {xs : List V} {dss : List (List D)} {A : List Addr}, RepTb K G H xs dss A -> Fz G G' -> (∀ a ∈ A, H' a = H a) -> RepTb K G' H' xs dss A
 | [], [], _, h, _, _ => h
 | x :: xs, ds :: dss, A, ⟨r, ys, A2, e1, e2, e3, e4, e5⟩, hg, hh => ⟨r, ys, A2, e1, by rw [hh r (by rw [e5]; simp)]; exact e2, e3.mono hg, e4.move hg fun a m => hh a (by rw [e5]; simp [m]), e5⟩
 | [], _ :: _, _, h, _, _ => h.elim
 | _ :: _, [], _, h, _, _ => h.elim
theorem RepTb.det : ∀ {xs : List V} {dss : List (List D)} {A A' : List Addr}, RepTb K G H xs dss A -> RepTb K G' H' xs dss A' -> A = A'
 | [], [], _, _, h, h' => by rw [show _ = [] from h, show _ = [] from h']
 | x :: xs, ds :: dss, _, _, ⟨r, ys, A2, e1, _, _, e4, e5⟩, ⟨r', ys', A2', e1', _, _, e4', e5'⟩ => by
  rw [e1] at e1'; cases e1'
  rw [e5, e5', e4.det e4']
 | [], _ :: _, _, _, h, _ => h.elim
 | _ :: _, [], _, _, h, _ => h.elim
theorem RepTb.here : ∀ {xs : List V} {dss : List (List D)} {A : List Addr}, RepTb K G H xs dss A -> ∀ {a : Addr}, a ∈ A -> ∃ xs, H a = some (.lst xs)
 | [], [], _, h, a, m => by rw [show _ = [] from h] at m; cases m
 | x :: xs, ds :: dss, _, ⟨r, ys, A2, e1, e2, _, e4, e5⟩, a, m => by
  rw [e5] at m
  rcases List.mem_cons.mp m with rfl | m
  ·exact ⟨ys, e2⟩
  ·exact e4.here m
 | [], _ :: _, _, h, _, _ => h.elim
 | _ :: _, [], _, h, _, _ => h.elim
theorem RepC.move (h : RepC K G H x c A) (hg : Fz G G') (hh : ∀ a ∈ A, H' a = H a) : RepC K G' H' x c A := by
 cases c with
 | d y => exact ⟨h.1.mono hg, h.2⟩
 | l ds => obtain ⟨l, xs, e, q, r, rfl⟩ := h; exact ⟨l, xs, e, by rw [hh l (by simp)]; exact q, r.mono hg, rfl⟩
 | t xss => obtain ⟨p, xs, A', e, q, r, rfl⟩ := h; exact ⟨p, xs, A', e, by rw [hh p (by simp)]; exact q, r.move hg fun a m => hh a (by simp [m]), rfl⟩
theorem RepCs.move : ∀ {xs : List V} {cs : List Ch} {A : List Addr}, RepCs K G H xs cs A -> Fz G G' -> (∀ a ∈ A, H' a = H a) -> RepCs K G' H' xs cs A
 | [], [], _, h, _, _ => h
 | x :: xs, c :: cs, A, ⟨A1, A2, h1, h2, e⟩, hg, hh => ⟨A1, A2, h1.move hg fun a m => hh a (by rw [e]; exact List.mem_append_left _ m), h2.move hg fun a m => hh a (by rw [e]; exact List.mem_append_right _ m), e⟩
 | [], _ :: _, _, h, _, _ => h.elim
 | _ :: _, [], _, h, _, _ => h.elim
theorem RepT.move (h : RepT K G H v t A) (hg : Fz G G') (hh : ∀ a ∈ A, H' a = H a) : RepT K G' H' v t A := by
 cases t with
 | lst cs => obtain ⟨p, xs, A', e, q, r, rfl⟩ := h; exact ⟨p, xs, A', e, by rw [hh p (by simp)]; exact q, r.move hg fun a m => hh a (by simp [m]), rfl⟩
 | tup cs => obtain ⟨p, xs, A', e, q, r, rfl⟩ := h; exact ⟨p, xs, A', e, by rw [hh p (by simp)]; exact q, r.move hg fun a m => hh a (by simp [m]), rfl⟩
 | ins c fs => obtain ⟨p, C, dx, vs, A', e, n, q, q2, f, r, rfl⟩ := h; exact ⟨p, C, dx, vs, A', e, n, by rw [hh p (by simp)]; exact q, by rw [hh dx (by simp)]; exact q2, f, r.move hg fun a m => hh a (by simp [m]), rfl⟩
 | dic ks ds => obtain ⟨p, ys, e, q, f, r, rfl⟩ := h; exact ⟨p, ys, e, by rw [hh p (by simp)]; exact q, f, r.mono hg, rfl⟩
 | dit ks ds => obtain ⟨p, ys, o, xs, e, q, f, r, rfl⟩ := h; exact ⟨p, ys, o, xs, e, by rw [hh p (by simp)]; exact q, f.mono hg, r.mono hg, rfl⟩
theorem RepC.det (h : RepC K G H x c A) (h' : RepC K G' H' x c A') (hh : ∀ a ∈ A, H' a = H a) : A = A' := by
 cases c with
 | d y => rw [h.2, h'.2]
 | l ds => obtain ⟨l, xs, e, _, _, rfl⟩ := h; obtain ⟨l', xs', e', _, _, rfl⟩ := h'; rw [e] at e'; cases e'; rfl
 | t xss =>
  obtain ⟨p, xs, B, e, q, r, rfl⟩ := h; obtain ⟨p', xs', B', e', q', r', rfl⟩ := h'
  rw [e] at e'; cases e'
  rw [hh p (by simp), q] at q'; cases q'
  rw [r.det r']
theorem RepCs.det : ∀ {xs : List V} {cs : List Ch} {A A' : List Addr}, RepCs K G H xs cs A -> RepCs K G' H' xs cs A' -> (∀ a ∈ A, H' a = H a) -> A = A'
 | [], [], _, _, h, h', _ => by rw [show _ = [] from h, show _ = [] from h']
 | x :: xs, c :: cs, _, _, ⟨A1, A2, h1, h2, e⟩, ⟨B1, B2, k1, k2, e'⟩, hh => by rw [e, e', h1.det k1 fun a m => hh a (by rw [e]; exact List.mem_append_left _ m), h2.det k2 fun a m => hh a (by rw [e]; exact List.mem_append_right _ m)]
 | [], _ :: _, _, _, h, _, _ => h.elim
 | _ :: _, [], _, _, h, _, _ => h.elim
theorem RepT.det (h : RepT K G H v t A) (h' : RepT K G' H' v t A') (hh : ∀ a ∈ A, H' a = H a) : A = A' := by
 cases t with
 | lst cs =>
  obtain ⟨p, xs, B, e, q, r, rfl⟩ := h; obtain ⟨p', xs', B', e', q', r', rfl⟩ := h'
  rw [e] at e'; cases e'
  rw [hh p (by simp), q] at q'; cases q'
  rw [r.det r' fun a m => hh a (by simp [m])]
 | tup cs =>
  obtain ⟨p, xs, B, e, q, r, rfl⟩ := h; obtain ⟨p', xs', B', e', q', r', rfl⟩ := h'
  rw [e] at e'; cases e'
  rw [hh p (by simp), q] at q'; cases q'
  rw [r.det r' fun a m => hh a (by simp [m])]
 | ins c fs =>
  obtain ⟨p, C, dx, vs, B, e, n, q, q2, f, r, rfl⟩ := h; obtain ⟨p', C', dx', vs', B', e', n', q', q2', f', r', rfl⟩ := h'
  rw [e] at e'; cases e'
  rw [hh p (by simp), q] at q'; cases q'
  rw [r.det r' fun a m => hh a (by simp [m])]
 | dic ks ds => obtain ⟨p, ys, e, q, f, r, rfl⟩ := h; obtain ⟨p', ys', e', q', f', r', rfl⟩ := h'; rw [e] at e'; cases e'; rfl
 | dit ks ds => obtain ⟨p, ys, o, xs, e, q, f, r, rfl⟩ := h; obtain ⟨p', ys', o', xs', e', q', f', r', rfl⟩ := h'; rw [e] at e'; cases e'; rfl
theorem RepC.here (h : RepC K G H x c A) (m : a ∈ A) : ∃ xs, H a = some (.lst xs) := by
 cases c with
 | d y => rw [h.2] at m; cases m
 | l ds => obtain ⟨l, xs, _, q, _, rfl⟩ := h; simp at m; subst m; exact ⟨xs, q⟩
 | t xss =>
  obtain ⟨p, xs, A', _, q, r, rfl⟩ := h
  rcases List.mem_cons.mp m with rfl | m
  ·exact ⟨xs, q⟩
  ·exact r.here m
theorem RepCs.here : ∀ {xs : List V} {cs : List Ch} {A : List Addr}, RepCs K G H xs cs A -> ∀ {a : Addr}, a ∈ A -> ∃ xs, H a = some (.lst xs)
 | [], [], _, h, a, m => by rw [show _ = [] from h] at m; cases m
 | x :: xs, c :: cs, _, ⟨A1, A2, h1, h2, e⟩, a, m => by
  rw [e] at m
  rcases List.mem_append.mp m with m | m
  ·exact h1.here m
  ·exact h2.here m
 | [], _ :: _, _, h, _, _ => h.elim
 | _ :: _, [], _, h, _, _ => h.elim
theorem RepT.here (h : RepT K G H v t A) (m : a ∈ A) : H a ≠ none := by
 cases t with
 | lst cs =>
  obtain ⟨p, xs, B, e, q, r, rfl⟩ := h
  rcases List.mem_cons.mp m with rfl | m
  ·rw [q]; simp
  ·obtain ⟨ys, z⟩ := r.here m; rw [z]; simp
 | tup cs =>
  obtain ⟨p, xs, B, e, q, r, rfl⟩ := h
  rcases List.mem_cons.mp m with rfl | m
  ·rw [q]; simp
  ·obtain ⟨ys, z⟩ := r.here m; rw [z]; simp
 | ins c fs =>
  obtain ⟨p, C, dx, vs, B, e, n, q, q2, f, r, rfl⟩ := h
  rcases List.mem_cons.mp m with rfl | m
  ·rw [q]; simp
  rcases List.mem_cons.mp m with rfl | m
  ·rw [q2]; simp
  ·obtain ⟨ys, z⟩ := r.here m; rw [z]; simp
 | dic ks ds => obtain ⟨p, ys, e, q, f, r, rfl⟩ := h; simp at m; subst m; rw [q]; simp
 | dit ks ds => obtain ⟨p, ys, o, xs, e, q, f, r, rfl⟩ := h; simp at m; subst m; rw [q]; simp
end
noncomputable def SlotOk (K : W.Frag) (B : Bs) (G H : Hp) (i : Nat) (ov : Option (Option V)) : Sl -> Prop
 | .emp => True
 | .two _ _ => True
 | .val d => ∃ v, ov = some (some v) /\ RepD K G v d
 | .own ds => ∃ l xs, ov = some (some (.ref l)) /\ G l = none /\ H l = some (.lst xs) /\ RepL K G xs ds /\ B.H l = none
 | .par ds => ∃ l xs, ov = some (some (.ref l)) /\ G l = none /\ H l = some (.lst xs) /\ RepL K G xs ds /\ (i, l) ∈ B.O
 | .tre t => ∃ v A, ov = some (some v) /\ RepT K G H v t A /\ A.Nodup /\ ∀ a ∈ A, G a = none /\ B.H a = none
 | .ptr t => ∃ v A, ov = some (some v) /\ RepT K G H v t A /\ A.Nodup /\ ∀ a ∈ A, G a = none /\ (B.H a = none \/ (i, a) ∈ B.O)
noncomputable def Wr (ρ : R) (i : Nat) : Prop := ∃ s ds, ρ[i]? = some s /\ s.items = some ds
noncomputable def OwS (K : W.Frag) (G H : Hp) (ov : Option (Option V)) (a : Addr) : Sl -> Prop
 | .own _ => ov = some (some (.ref a))
 | .par _ => ov = some (some (.ref a))
 | .tre t => ∃ v A, ov = some (some v) /\ RepT K G H v t A /\ a ∈ A
 | .ptr t => ∃ v A, ov = some (some v) /\ RepT K G H v t A /\ a ∈ A
 | _ => False
noncomputable def Nw (K : W.Frag) (G H : Hp) (σ : St) (ρ : R) (a : Addr) : Prop := ∀ (i : Nat) (s : Sl), ρ[i]? = some s -> ¬ OwS K G H σ[i]? a s
structure SI (K : W.Frag) (B : Bs) (G H : Hp) (σ : St) (ρ : R) : Prop where
 fz : Fz G H
 g0 : Fz B.G G
 new : ∀ b o, G b = some o -> B.G b ≠ none \/ B.H b = none
 keep : ∀ b o, B.H b = some o -> (∀ i, (i, b) ∉ B.O) -> H b = some o
 there : ∀ b, H b = none -> B.H b = none
 len : σ.length = ρ.length
 ob : ∀ i b, (i, b) ∈ B.O -> B.H b ≠ none
 slot : ∀ i s, ρ[i]? = some s -> SlotOk K B G H i σ[i]? s
 dis : ∀ (i j : Nat) (s t : Sl) (a : Addr), i ≠ j -> ρ[i]? = some s -> ρ[j]? = some t -> OwS K G H σ[i]? a s -> ¬ OwS K G H σ[j]? a t
section
variable {K : W.Frag} {B : Bs} {G G' H H' : Hp} {σ : St} {ρ : R}
theorem SlotOk.own (h : SlotOk K B G H i ov s) (w : OwS K G H ov a s) : G a = none /\ H a ≠ none /\ (B.H a = none \/ (i, a) ∈ B.O) := by
 cases s with
 | emp => exact w.elim
 | two _ _ => exact w.elim
 | val d => exact w.elim
 | own ds => obtain ⟨l, xs, e, g, k, r, n⟩ := h; rw [show ov = _ from w] at e; cases e; exact ⟨g, by rw [k]; simp, .inl n⟩
 | par ds => obtain ⟨l, xs, e, g, k, r, n⟩ := h; rw [show ov = _ from w] at e; cases e; exact ⟨g, by rw [k]; simp, .inr n⟩
 | tre t =>
  obtain ⟨v, A, e, r, nd, f⟩ := h
  obtain ⟨v', A', e', r', m⟩ := w
  rw [e] at e'; cases e'
  rw [<- r.det r' fun _ _ => rfl] at m
  exact ⟨(f a m).1, r.here m, .inl (f a m).2⟩
 | ptr t =>
  obtain ⟨v, A, e, r, nd, f⟩ := h
  obtain ⟨v', A', e', r', m⟩ := w
  rw [e] at e'; cases e'
  rw [<- r.det r' fun _ _ => rfl] at m
  exact ⟨(f a m).1, r.here m, (f a m).2⟩
theorem SlotOk.mono (h : SlotOk K B G H i ov s) (hg : Fz G G') (hw : ∀ a, OwS K G H ov a s -> G a = none -> H a ≠ none -> G' a = none /\ H' a = H a) : SlotOk K B G' H' i ov s := by
 have ow := fun a (w : OwS K G H ov a s) => h.own w
 cases s with
 | emp => trivial
 | two _ _ => trivial
 | val d => obtain ⟨v, e, r⟩ := h; exact ⟨v, e, r.mono hg⟩
 | own ds =>
  obtain ⟨l, xs, e, g, k, r, n⟩ := h
  obtain ⟨h1, h2⟩ := hw l e g (by rw [k]; simp)
  exact ⟨l, xs, e, h1, h2.trans k, r.mono hg, n⟩
 | par ds =>
  obtain ⟨l, xs, e, g, k, r, n⟩ := h
  obtain ⟨h1, h2⟩ := hw l e g (by rw [k]; simp)
  exact ⟨l, xs, e, h1, h2.trans k, r.mono hg, n⟩
 | tre t =>
  obtain ⟨v, A, e, r, nd, f⟩ := h
  have w := fun a m => hw a ⟨v, A, e, r, m⟩ (f a m).1 (r.here m)
  exact ⟨v, A, e, r.move hg fun a m => (w a m).2, nd, fun a m => ⟨(w a m).1, (f a m).2⟩⟩
 | ptr t =>
  obtain ⟨v, A, e, r, nd, f⟩ := h
  have w := fun a m => hw a ⟨v, A, e, r, m⟩ (f a m).1 (r.here m)
  exact ⟨v, A, e, r.move hg fun a m => (w a m).2, nd, fun a m => ⟨(w a m).1, (f a m).2⟩⟩
theorem SlotOk.back (h : SlotOk K B G H i ov s) (hw : ∀ a, OwS K G H ov a s -> G a = none -> H a ≠ none -> G' a = none /\ H' a = H a) (w : OwS K G' H' ov a s) : OwS K G H ov a s := by
 cases s with
 | emp => exact w
 | two _ _ => exact w
 | val d => exact w
 | own ds => exact w
 | par ds => exact w
 | tre t =>
  obtain ⟨v, A, e, r, nd, f⟩ := h
  obtain ⟨v', A', e', r', m⟩ := w
  rw [e] at e'; cases e'
  have q := r.det r' fun a m => (hw a ⟨v, A, e, r, m⟩ (f a m).1 (r.here m)).2
  subst q
  exact ⟨v, A, e, r, m⟩
 | ptr t =>
  obtain ⟨v, A, e, r, nd, f⟩ := h
  obtain ⟨v', A', e', r', m⟩ := w
  rw [e] at e'; cases e'
  have q := r.det r' fun a m => (hw a ⟨v, A, e, r, m⟩ (f a m).1 (r.here m)).2
  subst q
  exact ⟨v, A, e, r, m⟩
theorem SI.move (I : SI K B G H σ ρ) (fz : Fz G' H') (fg : Fz G G') (new : ∀ b o, G' b = some o -> B.G b ≠ none \/ B.H b = none) (keep : ∀ b o, B.H b = some o -> (∀ i, (i, b) ∉ B.O) -> H' b = some o) (there : ∀ b, H' b = none -> B.H b = none)
  (ow : ∀ (i : Nat) (s : Sl) (a : Addr), ρ[i]? = some s -> OwS K G H σ[i]? a s -> G a = none -> H a ≠ none -> G' a = none /\ H' a = H a) : SI K B G' H' σ ρ where
 fz := fz
 g0 := I.g0.trans fg
 new := new
 keep := keep
 there := there
 len := I.len
 ob := I.ob
 slot := fun i s e => (I.slot i s e).mono fg fun a w g h => ow i s a e w g h
 dis := fun i j s t a n e1 e2 w1 w2 => I.dis i j s t a n e1 e2 ((I.slot i s e1).back (fun a w g h => ow i s a e1 w g h) w1) ((I.slot j t e2).back (fun a w g h => ow j t a e2 w g h) w2)
theorem SI.chg (I : SI K B G H σ ρ) {ov : Option V} {s' : Sl} (fz : Fz G' H') (fg : Fz G G') (new : ∀ b o, G' b = some o -> B.G b ≠ none \/ B.H b = none) (keep : ∀ b o, B.H b = some o -> (∀ i, (i, b) ∉ B.O) -> H' b = some o) (there : ∀ b, H' b = none -> B.H b = none)
  (ow : ∀ (j : Nat) (s : Sl) (a : Addr), j ≠ i -> ρ[j]? = some s -> OwS K G H σ[j]? a s -> G a = none -> H a ≠ none -> G' a = none /\ H' a = H a /\ ¬ OwS K G' H' (some ov) a s') (sl : SlotOk K B G' H' i (some ov) s') : SI K B G' H' (σ.set i ov) (ρ.set i s') := by
 have atI : ∀ {s}, (ρ.set i s')[i]? = some s -> s = s' /\ (σ.set i ov)[i]? = some ov := fun {s} e => by
  rw [List.getElem?_set, if_pos rfl] at e ⊢
  split at e
  ·rename_i h; cases e; rw [if_pos (by rw [I.len]; exact h)]; exact ⟨rfl, rfl⟩
  ·cases e
 have atJ : ∀ {j s}, j ≠ i -> (ρ.set i s')[j]? = some s -> ρ[j]? = some s /\ (σ.set i ov)[j]? = σ[j]? := fun {j s} n e => by
  rw [List.getElem?_set_ne (Ne.symm n)] at e ⊢
  exact ⟨e, rfl⟩
 refine ⟨fz, I.g0.trans fg, new, keep, there, by rw [List.length_set, List.length_set]; exact I.len, I.ob, fun j s e => ?_, fun j k s t a n e1 e2 w1 w2 => ?_⟩
 ·by_cases z : j = i
  ·subst z; obtain ⟨rfl, q⟩ := atI e; rw [q]; exact sl
  ·obtain ⟨e1, q⟩ := atJ z e
   rw [q]
   exact (I.slot j s e1).mono fg fun a w g h => ⟨(ow j s a z e1 w g h).1, (ow j s a z e1 w g h).2.1⟩
 ·have one : ∀ j s, j ≠ i -> (ρ.set i s')[j]? = some s -> OwS K G' H' (σ.set i ov)[j]? a s -> ρ[j]? = some s /\ OwS K G H σ[j]? a s := fun j s z e w => by
   obtain ⟨e1, q⟩ := atJ z e
   rw [q] at w
   exact ⟨e1, (I.slot j s e1).back (fun a w g h => ⟨(ow j s a z e1 w g h).1, (ow j s a z e1 w g h).2.1⟩) w⟩
  by_cases z1 : j = i
  ·subst z1
   obtain ⟨rfl, q1⟩ := atI e1
   obtain ⟨f2, w2⟩ := one k t (Ne.symm n) e2 w2
   obtain ⟨o1, o2, _⟩ := (I.slot k t f2).own w2
   rw [q1] at w1
   exact (ow k t a (Ne.symm n) f2 w2 o1 o2).2.2 w1
  ·have p1 := one j s z1 e1 w1
   by_cases z2 : k = i
   ·subst z2
    obtain ⟨rfl, q2⟩ := atI e2
    obtain ⟨o1, o2, _⟩ := (I.slot j s p1.1).own p1.2
    rw [q2] at w2
    exact (ow j s a z1 p1.1 p1.2 o1 o2).2.2 w2
   ·have p2 := one k t z2 e2 w2
    exact I.dis j k s t a n p1.1 p2.1 p1.2 p2.2
theorem SI.nw (I : SI K B G H σ ρ) (hp : H p = none) : Nw K G H σ ρ p := fun i s e w => ((I.slot i s e).own w).2.1 hp
theorem SI.nw_move (I : SI K B G H σ ρ) (n : Nw K G H σ ρ p) (ow : ∀ (i : Nat) (s : Sl) (a : Addr), ρ[i]? = some s -> OwS K G H σ[i]? a s -> G a = none -> H a ≠ none -> G' a = none /\ H' a = H a) : Nw K G' H' σ ρ p :=
 fun i s e w => n i s e ((I.slot i s e).back (fun a w g h => ow i s a e w g h) w)
theorem SI.allocF (I : SI K B G H σ ρ) (hp : H p = none) (o : HO) : SI K B (upd G p o) (upd H p o) σ ρ :=
 I.move (I.fz.upd2 p o) (Fz.new (I.fz.free hp) o) (fun b u e => by
  by_cases q : b = p
  ·subst q; exact .inr (I.there b hp)
  ·rw [zay q] at e; exact I.new b u e) (fun b u e n => by
  have q := I.keep b u e n
  rw [zay (zaP q hp)]; exact q) (fun b e => by
  by_cases q : b = p
  ·subst q; rw [zaO] at e; cases e
  ·rw [zay q] at e; exact I.there b e) (fun i s a _ _ g h => by
  have q : a ≠ p := fun z => h (by rw [z]; exact hp)
  rw [zay q, zay q]; exact ⟨g, rfl⟩)
theorem SI.allocO (I : SI K B G H σ ρ) (hp : H p = none) (o : HO) : SI K B G (upd H p o) σ ρ :=
 I.move (I.fz.right (I.fz.free hp) o) (Fz.refl G) I.new (fun b u e n => by
  have q := I.keep b u e n
  rw [zay (zaP q hp)]; exact q) (fun b e => by
  by_cases q : b = p
  ·subst q; rw [zaO] at e; cases e
  ·rw [zay q] at e; exact I.there b e) (fun i s a _ _ g h => by
  have q : a ≠ p := fun z => h (by rw [z]; exact hp)
  rw [zay q]; exact ⟨g, rfl⟩)
theorem SI.frz (I : SI K B G H σ ρ) {o : HO} (hl : H l = some o) (hB : B.H l = none) (hn : Nw K G H σ ρ l) (hg : G l = none) : SI K B (upd G l o) H σ ρ :=
 I.move (fun a u q => by
  by_cases e : a = l
  ·subst e; rw [zaO] at q; cases q; exact hl
  ·rw [zay e] at q; exact I.fz a u q) (Fz.new hg o) (fun b u e => by
  by_cases q : b = l
  ·subst q; exact .inr hB
  ·rw [zay q] at e; exact I.new b u e) I.keep I.there (fun i s a e w g _ => by
  refine ⟨?_, rfl⟩
  rw [zay (fun z => ?_)]
  ·exact g
  ·subst z; exact hn i s e w)
theorem SI.set (I : SI K B G H σ ρ) (h : RepD K G v d) : SI K B G H (σ.set i (some v)) (ρ.set i (.val d)) :=
 I.chg I.fz (Fz.refl G) I.new I.keep I.there (fun _ _ _ _ _ _ g _ => ⟨g, rfl, id⟩) ⟨v, rfl, h⟩
theorem SI.setO (I : SI K B G H σ ρ) (hg : G l = none) (hl : H l = some (.lst xs)) (h : RepL K G xs ds) (hB : B.H l = none) (hn : Nw K G H σ ρ l) :
  SI K B G H (σ.set i (some (.ref l))) (ρ.set i (.own ds)) :=
 I.chg I.fz (Fz.refl G) I.new I.keep I.there (fun j s a _ e w g _ => ⟨g, rfl, fun z => by cases (show some (some (V.ref l)) = some (some (.ref a)) from z); exact hn j s e w⟩) ⟨l, xs, rfl, hg, hl, h, hB⟩
theorem SI.wr (I : SI K B G H σ ρ) (e : ρ[i]? = some s) (q : s.items = some ds) : ∃ l xs, σ[i]? = some (some (.ref l)) /\ G l = none /\ H l = some (.lst xs) /\ RepL K G xs ds := by
 have h := I.slot i s e
 cases s with
 | emp => cases q
 | two _ _ => cases q
 | val d => cases q
 | tre _ => cases q
 | ptr _ => cases q
 | own es => cases q; obtain ⟨l, xs, h1, h2, h3, h4, _⟩ := h; exact ⟨l, xs, h1, h2, h3, h4⟩
 | par es => cases q; obtain ⟨l, xs, h1, h2, h3, h4, _⟩ := h; exact ⟨l, xs, h1, h2, h3, h4⟩
noncomputable def Sl.put (s : Sl) (ds : List D) : Sl := match s with
 | .own _ => .own ds
 | .par _ => .par ds
 | s => s
theorem zeP (q : s.items = some ds) : OwS K G H ov a s ↔ ov = some (some (.ref a)) := by
 cases s with
 | own _ => exact Iff.rfl
 | par _ => exact Iff.rfl
 | _ => cases q
theorem zjF (q : s.items = some ds) (es : List D) : (s.put es).items = some es := by
 cases s with
 | own _ => rfl
 | par _ => rfl
 | _ => cases q
theorem ziX {α : Type} {l : List α} {x : α} (e : l[i]? = some x) : l.set i x = l := by
 obtain ⟨h, rfl⟩ := List.getElem?_eq_some_iff.mp e
 exact List.set_getElem_self h
theorem SI.chgW (I : SI K B G H σ ρ) {i : Nat} (e : ρ[i]? = some s) (q : s.items = some ds) (hl : σ[i]? = some (some (.ref l))) (fz : Fz G' H') (fg : Fz G G') (nw : ∀ b o, G' b = some o -> G b ≠ none \/ H b = none)
  (kp : ∀ b o, b ≠ l -> H b = some o -> H' b = some o) (gl : G' l = none) (hl' : H' l = some (.lst ys)) (r : RepL K G' ys es) : SI K B G' H' σ (ρ.set i (s.put es)) := by
 obtain ⟨l', xs, e1, e2, e3, e4⟩ := I.wr e q
 rw [hl] at e1; cases e1
 have sl := I.slot i s e
 have nb : ∀ b o, B.H b = some o -> (∀ i, (i, b) ∉ B.O) -> b ≠ l := fun b o h1 h2 z => by
  subst z
  rcases (sl.own ((zeP q).mpr hl)).2.2 with z | z
  ·rw [h1] at z; cases z
  ·exact h2 i z
 have h := I.chg (i := i) (ov := some (.ref l)) (s' := s.put es) (G' := G') (H' := H') fz fg (fun b o k => ?_) (fun b o k1 k2 => kp b o (nb b o k1 k2) (I.keep b o k1 k2)) (fun b k => ?_) (fun j t a z ej w g ha => ?_) ?_
 ·rwa [ziX hl] at h
 ·rcases nw b o k with h | h
  ·cases q2 : G b with
   | none => exact absurd q2 h
   | some u => exact I.new b u q2
  ·exact .inr (I.there b h)
 ·refine I.there b ?_
  cases q2 : H b with
  | none => rfl
  | some u =>
   by_cases z : b = l
   ·subst z; rw [hl'] at k; cases k
   ·rw [kp b u z q2] at k; cases k
 ·have na : a ≠ l := fun w' => by subst w'; exact I.dis j i t s a z ej e w ((zeP q).mpr hl)
  obtain ⟨u, hu⟩ := Option.ne_none_iff_exists'.mp ha
  refine ⟨?_, (kp a u na hu).trans hu.symm, fun z => na ?_⟩
  ·cases q2 : G' a with
   | none => rfl
   | some u =>
    rcases nw a u q2 with z | z
    ·exact absurd g z
    ·exact absurd z ha
  ·cases (zeP (zjF q es)).mp z; rfl
 ·cases s with
  | own es' => obtain ⟨l', xs', k1, k2, k3, k4, k5⟩ := sl; rw [hl] at k1; cases k1; exact ⟨_, ys, rfl, gl, hl', r, k5⟩
  | par es' => obtain ⟨l', xs', k1, k2, k3, k4, k5⟩ := sl; rw [hl] at k1; cases k1; exact ⟨_, ys, rfl, gl, hl', r, k5⟩
  | _ => cases q
theorem SI.write (I : SI K B G H σ ρ) (e : ρ[i]? = some s) (q : s.items = some ds) (hl : σ[i]? = some (some (.ref l))) (h : RepL K G ys es) :
  SI K B G (upd H l (.lst ys)) σ (ρ.set i (s.put es)) := by
 obtain ⟨l', xs, e1, e2, e3, e4⟩ := I.wr e q
 rw [hl] at e1; cases e1
 exact I.chgW e q hl (I.fz.right e2 _) (Fz.refl G) (fun b o k => .inl (by rw [k]; simp)) (fun b o z k => by rw [zay z]; exact k) e2 zaO h
theorem SI.freeze (I : SI K B G H σ ρ) {i : Nat} (e : ρ[i]? = some (.own ds)) : ∃ l xs, σ[i]? = some (some (.ref l)) /\ Fz G (upd G l (.lst xs)) /\ RepD K (upd G l (.lst xs)) (.ref l) (.lst ds) /\
  SI K B (upd G l (.lst xs)) H σ (ρ.set i (.val (.lst ds))) := by
 obtain ⟨l, xs, h1, h2, h3, h4, h5⟩ := I.slot i _ e
 have fz := Fz.new h2 (.lst xs)
 have rep : RepD K (upd G l (.lst xs)) (.ref l) (.lst ds) := ⟨l, xs, rfl, zaO, h4.mono fz⟩
 refine ⟨l, xs, h1, fz, rep, ?_⟩
 have h := I.chg (i := i) (ov := some (.ref l)) (s' := .val (.lst ds)) (G' := upd G l (.lst xs)) (H' := H) (fun a u q => ?_) fz (fun b u q => ?_) I.keep I.there (fun j t a z ej w g _ => ⟨?_, rfl, id⟩) ⟨.ref l, rfl, rep⟩
 ·rwa [ziX h1] at h
 ·by_cases z : a = l
  ·subst z; rw [zaO] at q; cases q; exact h3
  ·rw [zay z] at q; exact I.fz a u q
 ·by_cases z : b = l
  ·subst z; exact .inr h5
  ·rw [zay z] at q; exact I.new b u q
 ·rw [zay (fun q => by subst q; exact I.dis j i t _ a z ej e w h1)]; exact g
end
noncomputable abbrev ME := R -> Option (D × R)
noncomputable abbrev MO := R -> Option (List D × R)
noncomputable abbrev MT := R -> Option (Bool × R)
noncomputable abbrev MA := R -> Option (List D × R)
noncomputable def SE (X : Cx) (e : Expr) (m : ME) : Prop :=
 ∃ t, PE X e t /\ ∀ B G H σ ρ d ρ' (Q : VK), SI X.K B G H σ ρ -> m ρ = some (d, ρ') -> (∀ G' H' v, SI X.K B G' H' σ ρ' -> Fz G G' -> RepD X.K G' v d -> Q v H') -> t σ H Q
noncomputable def SO (X : Cx) (e : Expr) (m : MO) : Prop :=
 ∃ t, PE X e t /\ ∀ B G H σ ρ ds ρ' (Q : VK), SI X.K B G H σ ρ -> m ρ = some (ds, ρ') ->
  (∀ G' H' l xs, SI X.K B G' H' σ ρ' -> Fz G G' -> G' l = none -> H' l = some (.lst xs) -> RepL X.K G' xs ds -> B.H l = none -> Nw X.K G' H' σ ρ' l -> Q (.ref l) H') -> t σ H Q
noncomputable def STt (X : Cx) (e : Expr) (m : MT) : Prop :=
 ∃ t, PT X e t /\ ∀ B G H σ ρ d ρ' (Q : Bool -> Hp -> Prop), SI X.K B G H σ ρ -> m ρ = some (d, ρ') -> (∀ G' H', SI X.K B G' H' σ ρ' -> Fz G G' -> Q d H') -> t σ H Q
noncomputable def SA (X : Cx) (es : List Expr) (m : MA) : Prop :=
 ∃ t, PA X es t /\ ∀ B G H σ ρ ds ρ' (Q : List V -> Hp -> Prop), SI X.K B G H σ ρ -> m ρ = some (ds, ρ') -> (∀ G' H' vs, SI X.K B G' H' σ ρ' -> Fz G G' -> RepL X.K G' vs ds -> Q vs H') -> t σ H Q
theorem zi6 {B : Bs} {σ : St} (I : SI K B G H σ ρ) (hg : G l = none) (hl : H l = some (.lst xs)) (h : RepL K G xs ds) (hB : B.H l = none) (hn : Nw K G H σ ρ l) :
  SI K B (upd G l (.lst xs)) H σ ρ /\ Fz G (upd G l (.lst xs)) /\ RepD K (upd G l (.lst xs)) (.ref l) (.lst ds) :=
 ⟨I.frz hl hB hn hg, Fz.new hg _, ⟨l, xs, rfl, zaO, h.mono (Fz.new hg _)⟩⟩
noncomputable def eFz (m : MO) : ME := fun ρ => (m ρ).map fun p => (.lst p.1, p.2)
theorem SO.se {X : Cx} {m : MO} (h : SO X e m) : SE X e (eFz m) := by
 obtain ⟨t, p, s⟩ := h
 refine ⟨t, p, fun B G H σ ρ d ρ' Q I hm k => ?_⟩
 unfold eFz at hm
 cases q : m ρ with
 | none => rw [q] at hm; cases hm
 | some r =>
  obtain ⟨ds, ρ1⟩ := r
  rw [q] at hm
  cases hm
  refine s B G H σ ρ ds _ Q I q fun G' H' l xs I' fz hg hl hr hB hn => ?_
  obtain ⟨I2, f2, r2⟩ := zi6 I' hg hl hr hB hn
  exact k _ _ _ I2 (fz.trans f2) r2
noncomputable def eC (d : D) : ME := fun ρ => some (d, ρ)
noncomputable def eVar (i : Nat) : ME := fun ρ => match ρ[i]? with
 | some (.val d) => some (d, ρ)
 | some (.own ds) => some (.lst ds, ρ.set i (.val (.lst ds)))
 | _ => none
section
variable {X : Cx} {pos : Pos}
theorem zab (i : Nat) {x : Str} (hN : X.N[i]? = some x := by rfl) (hv : Vis X.env.scope x := by first | exact Or.inl rfl | exact Or.inr (Or.inl rfl) | exact Or.inr (Or.inr rfl)) (hd : (x == ("__debug__" : Str)) = false := by decide)
  (hcd : (x == ("__classdict__" : Str)) = false := by decide) : SE X (.Name x pos) (eVar i) := by
 refine ⟨_, zea hN hv hd hcd, fun B G H σ ρ d ρ' Q I hm k => ?_⟩
 unfold eVar at hm
 cases e : ρ[i]? with
 | none => rw [e] at hm; cases hm
 | some s =>
  rw [e] at hm
  cases s with
  | emp => cases hm
  | two _ _ => cases hm
  | tre _ => cases hm
  | ptr _ => cases hm
  | par ds => cases hm
  | val d' =>
   cases hm
   obtain ⟨v, h1, h2⟩ := I.slot i _ e
   exact ⟨v, h1, k G H v I (Fz.refl G) h2⟩
  | own ds =>
   cases hm
   obtain ⟨l, xs, h1, f, r, I'⟩ := I.freeze e
   exact ⟨.ref l, h1, k _ H _ I' f r⟩
theorem zae {i : Int} {j} : SE X (.Constant (.int i) j pos) (eC (.int i)) := ⟨_, pe_int, fun B G H σ ρ d ρ' Q I hm k => by cases hm; exact k G H _ I (Fz.refl G) rfl⟩
theorem zgl {j} : SE X (.Constant (.bool b) j pos) (eC (.bl b)) := ⟨_, pe_bl, fun B G H σ ρ d ρ' Q I hm k => by cases hm; exact k G H _ I (Fz.refl G) rfl⟩
theorem zcm {j} : SE X (.Constant .none j pos) (eC .non) := ⟨_, pe_non, fun B G H σ ρ d ρ' Q I hm k => by cases hm; exact k G H _ I (Fz.refl G) rfl⟩
theorem zbw {x : Str} {j} : SE X (.Constant (.str x) j pos) (eC (.str x)) := ⟨_, pe_str, fun B G H σ ρ d ρ' Q I hm k => by cases hm; exact k G H _ I (Fz.refl G) rfl⟩
end
noncomputable def aNil : MA := fun ρ => some ([], ρ)
noncomputable def zad (m : ME) (r : MA) : MA := fun ρ => (m ρ).bind fun p => (r p.2).map fun q => (p.1 :: q.1, q.2)
section
variable {X : Cx} {e : Expr} {es : List Expr} {m : ME} {r : MA}
theorem zaf : SA X [] aNil := ⟨_, zjh, fun B G H σ ρ ds ρ' Q I hm k => by cases hm; exact k G H [] I (Fz.refl G) .nil⟩
theorem zaa (h : SE X e m) (hr : SA X es r) (hs : starEach (e :: es) X.env = (false, eval e X.env) :: starEach es X.env := by rfl) : SA X (e :: es) (zad m r) := by
 obtain ⟨t, p, s⟩ := h
 obtain ⟨u, q, z⟩ := hr
 refine ⟨_, zem p q hs, fun B G H σ ρ ds ρ' Q I hm k => ?_⟩
 unfold zad at hm
 cases e1 : m ρ with
 | none => rw [e1] at hm; cases hm
 | some a =>
  obtain ⟨d, ρ1⟩ := a
  rw [e1] at hm
  cases e2 : r ρ1 with
  | none => simp [e2] at hm
  | some b =>
   obtain ⟨es', ρ2⟩ := b
   simp only [Option.bind_some, e2, Option.map_some, Option.some.injEq, Prod.mk.injEq] at hm
   obtain ⟨rfl, rfl⟩ := hm
   exact s B G H σ ρ d ρ1 _ I e1 fun G1 H1 v I1 f1 r1 => z B G1 H1 σ ρ1 es' ρ2 _ I1 e2 fun G2 H2 vs I2 f2 r2 => k G2 H2 (v :: vs) I2 (f1.trans f2) (.cons (r1.mono f2) r2)
end
noncomputable def V2 (X : Cx) (r : R2) (f : D -> D -> Option D) : Prop := ∀ B G H σ ρ x y a b d (Q : VK), SI X.K B G H σ ρ -> RepD X.K G x a -> RepD X.K G y b -> f a b = some d -> (∀ G' H' v, SI X.K B G' H' σ ρ -> Fz G G' -> RepD X.K G' v d -> Q v H') -> r x y H Q
noncomputable def V1 (X : Cx) (r : V -> Hp -> VK -> Prop) (f : D -> Option D) : Prop := ∀ B G H σ ρ x a d (Q : VK), SI X.K B G H σ ρ -> RepD X.K G x a -> f a = some d -> (∀ G' H' v, SI X.K B G' H' σ ρ -> Fz G G' -> RepD X.K G' v d -> Q v H') -> r x H Q
noncomputable def VC (X : Cx) (r : List V -> Hp -> VK -> Prop) (f : List D -> Option D) : Prop := ∀ B G H σ ρ xs ds d (Q : VK), SI X.K B G H σ ρ -> RepL X.K G xs ds -> f ds = some d -> (∀ G' H' v, SI X.K B G' H' σ ρ -> Fz G G' -> RepD X.K G' v d -> Q v H') -> r xs H Q
noncomputable def m2 (f : D -> D -> Option D) (ma mb : ME) : ME := fun ρ => (ma ρ).bind fun p => (mb p.2).bind fun q => (f p.1 q.1).map fun d => (d, q.2)
noncomputable def m1 (f : D -> Option D) (ma : ME) : ME := fun ρ => (ma ρ).bind fun p => (f p.1).map fun d => (d, p.2)
noncomputable def mC (f : List D -> Option D) (ma : MA) : ME := fun ρ => (ma ρ).bind fun p => (f p.1).map fun d => (d, p.2)
theorem m2_inv {ma mb : ME} (h : m2 f ma mb ρ = some (d, ρ')) : ∃ a ρ1 b, ma ρ = some (a, ρ1) /\ mb ρ1 = some (b, ρ') /\ f a b = some d := by
 unfold m2 at h
 cases e1 : ma ρ with
 | none => rw [e1] at h; cases h
 | some p =>
  obtain ⟨a, ρ1⟩ := p
  rw [e1] at h
  cases e2 : mb ρ1 with
  | none => simp [e2] at h
  | some q =>
   obtain ⟨b, ρ2⟩ := q
   simp only [Option.bind_some, e2] at h
   cases e3 : f a b with
   | none => rw [e3] at h; cases h
   | some c => rw [e3] at h; cases h; exact ⟨a, ρ1, b, rfl, e2, e3⟩
theorem m1_inv {f : D -> Option D} (h : m1 f ma ρ = some (d, ρ')) : ∃ a, ma ρ = some (a, ρ') /\ f a = some d := by
 unfold m1 at h
 cases e1 : ma ρ with
 | none => rw [e1] at h; cases h
 | some p =>
  obtain ⟨a, ρ1⟩ := p
  rw [e1] at h
  simp only [Option.bind_some] at h
  cases e3 : f a with
  | none => rw [e3] at h; cases h
  | some c => rw [e3] at h; cases h; exact ⟨a, rfl, e3⟩
theorem mC_inv {f : List D -> Option D} {ma : MA} (h : mC f ma ρ = some (d, ρ')) : ∃ a, ma ρ = some (a, ρ') /\ f a = some d := by
 unfold mC at h
 cases e1 : ma ρ with
 | none => rw [e1] at h; cases h
 | some p =>
  obtain ⟨a, ρ1⟩ := p
  rw [e1] at h
  simp only [Option.bind_some] at h
  cases e3 : f a with
  | none => rw [e3] at h; cases h
  | some c => rw [e3] at h; cases h; exact ⟨a, rfl, e3⟩
section
variable {X : Cx} {a b : Expr} {ma mb : ME} {pos : Pos} {f : D -> D -> Option D}
theorem zkB {r : R2} {ta tb : TE} (hv : V2 X r f)
  (sa : ∀ B G H σ ρ d ρ' (Q : VK), SI X.K B G H σ ρ -> ma ρ = some (d, ρ') -> (∀ G' H' v, SI X.K B G' H' σ ρ' -> Fz G G' -> RepD X.K G' v d -> Q v H') -> ta σ H Q)
  (sb : ∀ B G H σ ρ d ρ' (Q : VK), SI X.K B G H σ ρ -> mb ρ = some (d, ρ') -> (∀ G' H' v, SI X.K B G' H' σ ρ' -> Fz G G' -> RepD X.K G' v d -> Q v H') -> tb σ H Q) :
  ∀ B G H σ ρ d ρ' (Q : VK), SI X.K B G H σ ρ -> m2 f ma mb ρ = some (d, ρ') -> (∀ G' H' v, SI X.K B G' H' σ ρ' -> Fz G G' -> RepD X.K G' v d -> Q v H') -> tOp r ta tb σ H Q := by
 intro B G H σ ρ d ρ' Q I hm k
 obtain ⟨x, ρ1, y, e1, e2, e3⟩ := m2_inv hm
 exact sa B G H σ ρ x ρ1 _ I e1 fun G1 H1 v I1 f1 r1 => sb B G1 H1 σ ρ1 y ρ' _ I1 e2 fun G2 H2 u I2 f2 r2 =>
  hv B G2 H2 σ ρ' v u x y d Q I2 (r1.mono f2) r2 e3 fun G3 H3 z I3 f3 r3 => k G3 H3 z I3 (f1.trans (f2.trans f3)) r3
theorem zli {r : R2} (ho : OpR X (binaryOp op) r) (hv : V2 X r f) (ha : SE X a ma) (hb : SE X b mb) : SE X (.BinOp a op b pos) (m2 f ma mb) := by
 obtain ⟨ta, pa, sa⟩ := ha
 obtain ⟨tb, pb, sb⟩ := hb
 exact ⟨_, pe_op ho pa pb, zkB hv sa sb⟩
theorem zjv {op : CmpOp} {r : R2} (ho : OpR X (compareOp op) r) (hv : V2 X r f) (ha : SE X a ma) (hb : SE X b mb) (hm : behindInMarks op b = false) : SE X (.Compare a [op] [b] pos) (m2 f ma mb) := by
 obtain ⟨ta, pa, sa⟩ := ha
 obtain ⟨tb, pb, sb⟩ := hb
 exact ⟨_, pe_cmpR ho pa pb hm, zkB hv sa sb⟩
theorem se_un {op : UnaryOp} (ho : UnR X (unaryOp op) r) (hv : V1 X r g) (ha : SE X a ma) : SE X (.UnaryOp op a pos) (m1 g ma) := by
 obtain ⟨ta, pa, sa⟩ := ha
 refine ⟨_, pe_un ho pa, fun B G H σ ρ d ρ' Q I hm k => ?_⟩
 obtain ⟨x, e1, e2⟩ := m1_inv hm
 exact sa B G H σ ρ x ρ' _ I e1 fun G1 H1 v I1 f1 r1 => hv B G1 H1 σ ρ' v x d Q I1 r1 e2 fun G2 H2 z I2 f2 r2 => k G2 H2 z I2 (f1.trans f2) r2
theorem se_ix {r : R2} (hr : IxR X r) (hv : V2 X r f) (ha : SE X a ma) (hb : SE X b mb) (hs : ziE b) : SE X (.Subscript a b pos) (m2 f ma mb) := by
 obtain ⟨ta, pa, sa⟩ := ha
 obtain ⟨tb, pb, sb⟩ := hb
 exact ⟨_, pe_ix hr pa pb hs, zkB hv sa sb⟩
end
section
variable {X : Cx} {x : Str} {p pos : Pos} {e : Expr} {es : List Expr} {ma : MA} {id T : String} {r : List V -> Hp -> VK -> Prop} {f : List D -> Option D}
theorem soundC {t : TA} (hv : VC X r f) (sa : ∀ B G H σ ρ ds ρ' (Q : List V -> Hp -> Prop), SI X.K B G H σ ρ -> ma ρ = some (ds, ρ') -> (∀ G' H' vs, SI X.K B G' H' σ ρ' -> Fz G G' -> RepL X.K G' vs ds -> Q vs H') -> t σ H Q) :
  ∀ B G H σ ρ d ρ' (Q : VK), SI X.K B G H σ ρ -> mC f ma ρ = some (d, ρ') -> (∀ G' H' v, SI X.K B G' H' σ ρ' -> Fz G G' -> RepD X.K G' v d -> Q v H') -> tCB r t σ H Q := by
 intro B G H σ ρ d ρ' Q I hm k
 obtain ⟨ds, e1, e2⟩ := mC_inv hm
 exact sa B G H σ ρ ds ρ' _ I e1 fun G1 H1 vs I1 f1 r1 => hv B G1 H1 σ ρ' vs ds d Q I1 r1 e2 fun G2 H2 z I2 f2 r2 => k G2 H2 z I2 (f1.trans f2) r2
theorem zct (hc : zeH X (.builtin id) r) (hv : VC X r f) (hb : bootBuiltins x = some (.builtin id)) (hm : X.mg x = none) (ha : SA X (e :: es) ma) (hg : Gl X x := by rfl) (hn : x ≠ "__name__" := by decide) (hdb : (x == ("__debug__" : Str)) = false := by decide)
  (he : starEach (e :: es) X.env = (false, eval e X.env) :: starEach es X.env := by rfl) (hpl : (backTo pos (starEach es X.env)).any (·.1) = false := by rfl) : SE X (.Call (.Name x p) (e :: es) [] pos) (mC f ma) := by
 obtain ⟨t, pa, sa⟩ := ha
 exact ⟨_, zir hc hg hm hb pa hn hdb he hpl, soundC hv sa⟩
theorem zja (hc : zeH X (.type T) r) (hv : VC X r f) (hb : bootBuiltins x = some (.type T)) (hm : X.mg x = none) (ha : SA X (e :: es) ma) (hg : Gl X x := by rfl) (hn : x ≠ "__name__" := by decide) (hdb : (x == ("__debug__" : Str)) = false := by decide)
  (he : starEach (e :: es) X.env = (false, eval e X.env) :: starEach es X.env := by rfl) (hpl : (backTo pos (starEach es X.env)).any (·.1) = false := by rfl) : SE X (.Call (.Name x p) (e :: es) [] pos) (mC f ma) := by
 obtain ⟨t, pa, sa⟩ := ha
 exact ⟨_, zjs hc hg hm hb pa hn hdb he hpl, soundC hv sa⟩
end
end M
namespace M
open L2 PySem PySem.Spec
open PyProof.Rows hiding St
variable {v : V} {ds cs out : List D} {p pos pos' : Pos} {xs vs ys : List V} {X : Cx} {C : Int -> Int -> Prop} {c l : Addr} {g : D -> R -> Option R} {a b e : Expr} {ma : MA} {k i j n t : Nat} {mb : ME} {K : W.Frag} {G H H' G' : Hp} {us its : List Value} {u : Value} {d : D} {B : Bs} {σ σc : St} {ρ ρ' : R} {s : Sl} {x qual : Str} {Q E : Value -> Shared -> Prop} {f : D -> D -> Option D} {op op' : CmpOp} {m mc : MT} {es ifs : List Expr} {h : List D -> R -> Option R} {body : List Stmt} {N ps : List Str} {fd : FuncData} {env : Env} {scope : Scope} {A : Around} {cl : List (Str × Addr)} {h' : Heap} {prog : Program} {w : World} {use : Option (Value -> Sem Unit)} {ov : Option (Option V)} {cap : List Nat} {wi : TI} {tg' : Addr -> Shared -> Hp -> List Addr -> TG} {tt : Addr -> Shared -> Hp -> List Addr -> TT} {te : Addr -> Shared -> Hp -> List Addr -> TE} {ns : List Int}
section
variable {X : Cx} {K : W.Frag} {B : Bs} {G H : Hp} {σ : St} {ρ : R}
theorem SI.lst (I : SI K B G H σ ρ) (h : RepD K G v (.lst ds)) : ∃ a xs, v = .ref a /\ H a = some (.lst xs) /\ RepL K G xs ds := by
 obtain ⟨a, xs, e, q, r⟩ := h
 exact ⟨a, xs, e, I.fz a _ q, r⟩
theorem SI.tup (I : SI K B G H σ ρ) (h : RepD K G v (.tup ds)) : ∃ a xs, v = .ref a /\ H a = some (.tup xs) /\ RepL K G xs ds := by
 obtain ⟨a, xs, e, q, r⟩ := h
 exact ⟨a, xs, e, I.fz a _ q, r⟩
theorem SI.newT (I : SI K B G H σ ρ) {p : Addr} (hp : H p = none) (h : RepL K G xs ds) : SI K B (upd G p (.tup xs)) (upd H p (.tup xs)) σ ρ /\ Fz G (upd G p (.tup xs)) /\ RepD K (upd G p (.tup xs)) (.ref p) (.tup ds) :=
 ⟨I.allocF hp _, Fz.new (I.fz.free hp) _, ⟨p, xs, rfl, zaO, h.mono (Fz.new (I.fz.free hp) _)⟩⟩
theorem SI.newL (I : SI K B G H σ ρ) {p : Addr} (hp : H p = none) (h : RepL K G xs ds) : SI K B (upd G p (.lst xs)) (upd H p (.lst xs)) σ ρ /\ Fz G (upd G p (.lst xs)) /\ RepD K (upd G p (.lst xs)) (.ref p) (.lst ds) :=
 ⟨I.allocF hp _, Fz.new (I.fz.free hp) _, ⟨p, xs, rfl, zaO, h.mono (Fz.new (I.fz.free hp) _)⟩⟩
end
noncomputable def dI2 (c : Int -> Int -> Bool) (g : Int -> Int -> D) : D -> D -> Option D
 | .int i, .int j => if c i j then some (g i j) else none
 | _, _ => none
theorem zlY {c : Int -> Int -> Bool} {g : Int -> Int -> Int} (hc : ∀ i j, c i j = true -> C i j) : V2 X (rI C fun i j => .int (g i j)) (dI2 c fun i j => .int (g i j)) := by
 intro B G H σ ρ x y a b d Q I ra rb hf k
 cases a <;> cases b <;> simp only [dI2] at hf <;> try cases hf
 rename_i i j
 split at hf
 ·rename_i h
  cases hf
  exact ⟨i, j, ra, rb, hc i j h, k G H _ I (Fz.refl G) rfl⟩
 ·cases hf
theorem v2_int0 {g : Int -> Int -> Int} : V2 X (rI0 fun i j => .int (g i j)) (dI2 (fun _ _ => true) fun i j => .int (g i j)) := by
 intro B G H σ ρ x y a b d Q I ra rb hf k
 cases a <;> cases b <;> simp only [dI2] at hf <;> try cases hf
 rename_i i j
 exact ⟨i, j, ra, rb, k G H _ I (Fz.refl G) rfl⟩
theorem zeK {g : Int -> Int -> Bool} : V2 X (rI0 fun i j => .bl (g i j)) (dI2 (fun _ _ => true) fun i j => .bl (g i j)) := by
 intro B G H σ ρ x y a b d Q I ra rb hf k
 cases a <;> cases b <;> simp only [dI2] at hf <;> try cases hf
 rename_i i j
 exact ⟨i, j, ra, rb, k G H _ I (Fz.refl G) rfl⟩
noncomputable def dSub : D -> D -> Option D := dI2 (fun _ _ => true) fun i j => .int (i - j)
noncomputable def zla (j : Int) : Bool := decide (0 < j) && decide (j.natAbs.log2 < 9000)
theorem op_fdivW : OpR X (binaryOp .FloorDiv) (rI (fun _ j => 0 < j /\ j.natAbs.log2 < 9000) fun i j => .int (i / j)) := opI fun i j _ _ _ _ _ hc q => by
 have h1 : (0 : Int) < j := hc.1
 exact PyProof.Rows.floordiv_int (by lia) (by rw [Int.fdiv_eq_ediv_of_nonneg i (by lia)]; exact q) (.inl (PyProof.noPylong_of_log2 hc.2))
noncomputable def dDiv : D -> D -> Option D := dI2 (fun _ j => zla j) fun i j => .int (i / j)
noncomputable def dMod : D -> D -> Option D := dI2 (fun _ j => decide (0 < j)) fun i j => .int (i % j)
noncomputable def dPow : D -> D -> Option D := dI2 (fun i j => decide (0 <= j) && decide (j <= 1000000) && decide (i.natAbs < 2 ^ 64)) fun i j => .int (i ^ j.toNat)
noncomputable def dLt : D -> D -> Option D := dI2 (fun _ _ => true) fun i j => .bl (decide (i < j))
noncomputable def dLe : D -> D -> Option D := dI2 (fun _ _ => true) fun i j => .bl (decide (i <= j))
noncomputable def dGt : D -> D -> Option D := dI2 (fun _ _ => true) fun i j => .bl (decide (j < i))
noncomputable def dGe : D -> D -> Option D := dI2 (fun _ _ => true) fun i j => .bl (decide (j <= i))
section
variable {X : Cx} {a b : Expr} {ma mb : ME} {pos : Pos}
theorem za6 (ha : SE X a ma) (hb : SE X b mb) : SE X (.BinOp a .Sub b pos) (m2 dSub ma mb) := zli op_sub v2_int0 ha hb
theorem zjc (ha : SE X a ma) (hb : SE X b mb) : SE X (.BinOp a .FloorDiv b pos) (m2 dDiv ma mb) := zli op_fdivW (zlY fun i j h => by simpa [zla] using h) ha hb
theorem zgO (ha : SE X a ma) (hb : SE X b mb) : SE X (.BinOp a .Mod b pos) (m2 dMod ma mb) := zli op_mod (zlY fun i j h => by simpa using h) ha hb
theorem zde (ha : SE X a ma) (hb : SE X b mb) : SE X (.BinOp a .Pow b pos) (m2 dPow ma mb) := zli op_pow (zlY fun i j h => by simp only [Bool.and_eq_true, decide_eq_true_eq] at h; exact ⟨h.1.1, h.1.2, h.2⟩) ha hb
theorem se_le (ha : SE X a ma) (hb : SE X b mb) : SE X (.Compare a [.LtE] [b] pos) (m2 dLe ma mb) := zjv zmt zeK ha hb (zgX _)
theorem se_gt (ha : SE X a ma) (hb : SE X b mb) : SE X (.Compare a [.Gt] [b] pos) (m2 dGt ma mb) := zjv op_gt zeK ha hb (zgX _)
end
noncomputable def dNeg : D -> Option D
 | .int i => some (.int (-i))
 | _ => none
theorem zbH {ma : ME} (ha : SE X a ma) : SE X (.UnaryOp .USub a pos) (m1 dNeg ma) :=
 se_un un_neg (fun B G H σ ρ x a d Q I ra hf k => by
  cases a <;> simp only [dNeg] at hf <;> try cases hf
  exact ⟨_, ra, k G H _ I (Fz.refl G) rfl⟩) ha
noncomputable def zj2 (i j : Int) : Bool := (decide (i.natAbs < 2 ^ 64) || decide (j.natAbs < 2 ^ 64)) || (decide (i.natAbs < 2 ^ 4000) && decide (j.natAbs < 2 ^ 4000))
noncomputable def dMul : D -> D -> Option D
 | .int i, .int j => if zj2 i j then some (.int (i * j)) else none
 | .lst ds, .int k => if decide (-1000000 <= k) && decide (k <= 1000000) && decide (ds.length * k.toNat <= 1000000) then some (.lst (List.replicate k.toNat ds).flatten) else none
 | _, _ => none
theorem zh0 {k : Int} (h : k.natAbs < 2 ^ 4000) : Builtin.Int.intBits k <= 4000 := by
 unfold Builtin.Int.intBits
 split
 ·exact Nat.zero_le _
 ·have : k.natAbs.log2 < 4000 := by
   rcases Nat.eq_zero_or_pos k.natAbs with h0 | hp
   ·rw [h0]; decide
   ·exact (Nat.log2_lt (Nat.ne_of_gt hp)).mpr h
  lia
theorem mulOk_ok {i j : Int} (h : zj2 i j = true) : IntMulOk i j := by
 unfold zj2 at h
 simp only [Bool.or_eq_true, Bool.and_eq_true, decide_eq_true_eq] at h
 rcases h with (h | h) | ⟨h1, h2⟩
 ·exact .of_left (intBits_le_64 (by lia) (by lia))
 ·exact .of_right (intBits_le_64 (by lia) (by lia))
 ·have b1 := zh0 h1
  have b2 := zh0 h2
  unfold IntMulOk
  intro z
  simp only [Bool.and_eq_true] at z
  have z2 := z.2
  unfold Builtin.Int.intTooBig at z2
  revert z2
  generalize Builtin.Int.intBits i = p at *
  generalize Builtin.Int.intBits j = q at *
  intro z2
  have z3 := of_decide_eq_true z2
  have hb := bitsLine_eq
  lia
theorem op_mulG : OpR X (binaryOp .Mult) (rI IntMulOk fun i j => .int (i * j)) := opI fun _ _ _ _ _ _ _ hc q => mul_int q hc
theorem zbv {ma mb : ME} (ha : SE X a ma) (hb : SE X b mb) : SE X (.BinOp a .Mult b pos) (m2 dMul ma mb) := by
 refine zli (op_mulG.or op_rep) (fun B G H σ ρ x y a b d Q I ra rb hf k => ?_) ha hb
 cases a <;> cases b <;> simp only [dMul] at hf <;> try cases hf
 ·rename_i i j
  split at hf
  ·rename_i h
   cases hf
   exact .inl ⟨i, j, ra, rb, mulOk_ok h, k G H _ I (Fz.refl G) rfl⟩
  ·cases hf
 ·rename_i ds j
  split at hf
  ·rename_i h
   cases hf
   simp only [Bool.and_eq_true, decide_eq_true_eq] at h
   obtain ⟨a, xs, rfl, ha, r⟩ := I.lst ra
   have hl := r.length
   refine .inr ⟨a, j, xs, rfl, rb, ha, by lia, by lia, by rw [hl, sizeLine_eq]; lia, fun p hp => ?_⟩
   obtain ⟨I2, f2, r2⟩ := I.newL hp (r.rep j.toNat)
   exact k _ _ _ I2 f2 r2
  ·cases hf
noncomputable def dAdd : D -> D -> Option D
 | .int i, .int j => some (.int (i + j))
 | .tup a, .tup b => if a.length + b.length <= 16777216 then some (.tup (a ++ b)) else none
 | .lst a, .lst b => if a.length + b.length <= 16777216 then some (.lst (a ++ b)) else none
 | .str a, .str b => if a.length + b.length <= 16777216 then some (.str (a ++ b)) else none
 | _, _ => none
theorem op_catT0 : OpR X (binaryOp .Add) (fun x y H Q => ∃ a b ys, x = .ref a /\ y = .ref b /\ SqT X.K H a [] /\ SqT X.K H b ys /\ Q (.ref b) H) := by
 intro pins s σ H x y v u Q I rx ry h
 obtain ⟨a, b, ys, rfl, rfl, ha, hb, q⟩ := h
 cases rx
 cases ry
 obtain ⟨its, r1, p1, _⟩ := I.tuple ha
 obtain ⟨its2, r2, p2, _⟩ := I.tuple hb
 obtain rfl : its = [] := by cases r1; rfl
 obtain ⟨⟨cls, dd, data, sl⟩, ho, hc, n, hd⟩ := id p1
 obtain ⟨⟨cls2, dd2, data2, sl2⟩, ho2, hc2, n2, hd2⟩ := id p2
 simp only at hc hd hc2 hd2
 subst hc hd hc2 hd2
 exact concat_meets ⟨_, ho, rfl⟩ ⟨_, ho2, rfl⟩ noFill_tuple_add seq_tuple_add PySem.F.slot_tuple_add PySem.F.entry_tuple_add (PySem.F.args_tuple_add_2 _ _)
   (tuple_addW0 a b _ _ n n2 dd dd2 sl sl2 (by simp)) ⟨ho, ho2, ⟨.ref b, H, I, rfl, q⟩⟩
theorem zaq {ma mb : ME} (ha : SE X a ma) (hb : SE X b mb) : SE X (.BinOp a .Add b pos) (m2 dAdd ma mb) := by
 refine zli (op_add.or (op_catT.or (op_catT0.or (op_cat.or zk9)))) (fun B G H σ ρ x y a b d Q I ra rb hf k => ?_) ha hb
 cases a <;> cases b <;> simp only [dAdd] at hf <;> try cases hf
 ·exact .inl ⟨_, _, ra, rb, k G H _ I (Fz.refl G) rfl⟩
 ·rename_i i j
  split at hf
  ·rename_i h
   cases hf
   exact .inr (.inr (.inr (.inr ⟨i, j, ra, rb, by rw [sizeLine_eq]; exact h, k G H _ I (Fz.refl G) rfl⟩)))
  ·cases hf
 ·rename_i as bs
  split at hf
  ·rename_i h
   cases hf
   obtain ⟨a, xs, rfl, ha, r⟩ := I.lst ra
   obtain ⟨b, ys, rfl, hb, r2⟩ := I.lst rb
   refine .inr (.inr (.inr (.inl ⟨a, b, xs, ys, rfl, rfl, ha, hb, by rw [r.length, r2.length, sizeLine_eq]; exact h, fun p hp => ?_⟩)))
   obtain ⟨I2, f2, r2⟩ := I.newL hp (r.append r2)
   exact k _ _ _ I2 f2 r2
  ·cases hf
 ·rename_i as bs
  split at hf
  ·rename_i h
   cases hf
   obtain ⟨a, xs, rfl, ha, r⟩ := I.tup ra
   obtain ⟨b, ys, rfl, hb, r2⟩ := I.tup rb
   by_cases z : xs = []
   ·subst z
    have z' : as = [] := List.eq_nil_of_length_eq_zero r.length.symm
    subst z'
    exact .inr (.inr (.inl ⟨a, b, ys, rfl, rfl, SqT.of ha, SqT.of hb, k G H _ I (Fz.refl G) rb⟩))
   ·refine .inr (.inl ⟨a, b, xs, ys, rfl, rfl, SqT.of ha, SqT.of hb, z, by rw [r.length, r2.length, sizeLine_eq]; exact h, fun w => ?_, fun w p hp => ?_⟩)
    ·subst w
     have w' : bs = [] := List.eq_nil_of_length_eq_zero r2.length.symm
     subst w'
     rw [List.append_nil] at k
     exact k G H _ I (Fz.refl G) ra
    ·obtain ⟨I2, f2, r2⟩ := I.newT hp (r.append r2)
     exact k _ _ _ I2 f2 r2
  ·cases hf
mutual
noncomputable def noS : D -> Bool
 | .scr _ => false
 | .exc _ => false
 | .dic _ _ => false
 | .dit _ _ => false
 | .lst ds => noSL ds
 | .tup ds => noSL ds
 | _ => true
noncomputable def noSL : List D -> Bool
 | [] => true
 | d :: ds => noS d && noSL ds
end
mutual
noncomputable def eqB : D -> D -> Bool
 | .non, .non => true
 | .bl a, .bl b => a == b
 | .int a, .int b => a == b
 | .str a, .str b => a == b
 | .bl a, .int b => (if a then 1 else 0) == b
 | .int a, .bl b => a == (if b then 1 else 0)
 | .lst a, .lst b => eqBL a b
 | .tup a, .tup b => eqBL a b
 | _, _ => false
noncomputable def eqBL : List D -> List D -> Bool
 | [], [] => true
 | a :: as, b :: bs => eqB a b && eqBL as bs
 | _, _ => false
end
theorem zfT : ∀ {as bs : List D}, as.length ≠ bs.length -> eqBL as bs = false
 | [], [], h => absurd rfl h
 | [], _ :: _, _ => rfl
 | _ :: _, [], _ => rfl
 | a :: as, b :: bs, h => by
  have := zfT (as := as) (bs := bs) (fun e => h (by simp [e]))
  simp [eqBL, this]
mutual
theorem ziB : ∀ d, noS d = true -> eqB d d = true
 | .non, _ => rfl
 | .bl b, _ => by simp [eqB]
 | .int b, _ => by simp [eqB]
 | .str b, _ => by simp [eqB]
 | .lst ds, h => by simp only [noS] at h; simp only [eqB]; exact zhs ds h
 | .tup ds, h => by simp only [noS] at h; simp only [eqB]; exact zhs ds h
 | .scr _, h => by simp [noS] at h
 | .exc _, h => by simp [noS] at h
 | (.dic _ _), h => by simp [noS] at h
 | (.dit _ _), h => by simp [noS] at h
theorem zhs : ∀ ds, noSL ds = true -> eqBL ds ds = true
 | [], _ => rfl
 | d :: ds, h => by
  simp only [noSL, Bool.and_eq_true] at h
  simp only [eqBL, Bool.and_eq_true]
  exact ⟨ziB d h.1, zhs ds h.2⟩
end
mutual
noncomputable def depth : D -> Nat
 | .lst ds => ze0 ds + 1
 | .tup ds => ze0 ds + 1
 | _ => 0
noncomputable def ze0 : List D -> Nat
 | [] => 0
 | d :: ds => max (depth d) (ze0 ds)
end
theorem zgE : ∀ {l : List D} {i : Nat} {d : D}, l[i]? = some d -> depth d <= ze0 l
 | [], _, _, h => by simp at h
 | c :: l, 0, d, h => by simp at h; subst h; simp only [ze0]; lia
 | c :: l, i + 1, d, h => by
  have := zgE (l := l) (i := i) (d := d) (by simpa using h)
  simp only [ze0]; lia
theorem zfV : ∀ {l : List D} {i : Nat} {d : D}, l[i]? = some d -> noSL l = true -> noS d = true
 | [], _, _, h, _ => by simp at h
 | c :: l, 0, d, h, z => by simp at h; subst h; simp only [noSL, Bool.and_eq_true] at z; exact z.1
 | c :: l, i + 1, d, h, z => by simp only [noSL, Bool.and_eq_true] at z; exact zfV (l := l) (i := i) (by simpa using h) z.2
mutual
theorem RepD.inj : ∀ {a b : D} {x : V}, noS a = true -> noS b = true -> RepD K G x a -> RepD K G x b -> a = b
 | .non, b, x, _, nb, ra, rb => by
  cases (show x = V.non from ra)
  cases b <;> simp_all [RepD, noS]
 | .bl c, b, x, _, nb, ra, rb => by
  cases (show x = V.bl c from ra)
  cases b <;> simp_all [RepD, noS]
 | .int c, b, x, _, nb, ra, rb => by
  cases (show x = V.int c from ra)
  cases b <;> simp_all [RepD, noS]
 | .str c, b, x, _, nb, ra, rb => by
  cases (show x = V.str c from ra)
  cases b <;> simp_all [RepD, noS]
 | .lst ds, b, x, na, nb, ra, rb => by
  obtain ⟨p, xs, rfl, q, r⟩ := ra
  cases b with
  | lst es =>
   obtain ⟨p2, ys, e, q2, r2⟩ := rb
   cases e
   rw [q] at q2
   cases q2
   simp only [noS] at na nb
   rw [RepL.inj na nb r r2]
  | tup es =>
   obtain ⟨p2, ys, e, q2, r2⟩ := rb
   cases e
   rw [q] at q2
   cases q2
  | scr _ => simp [noS] at nb
  | exc _ => simp [noS] at nb
  | dic _ _ => simp [noS] at nb
  | dit _ _ => simp [noS] at nb
  | non => simp [RepD] at rb
  | bl _ => simp [RepD] at rb
  | int _ => simp [RepD] at rb
  | str _ => simp [RepD] at rb
 | .tup ds, b, x, na, nb, ra, rb => by
  obtain ⟨p, xs, rfl, q, r⟩ := ra
  cases b with
  | tup es =>
   obtain ⟨p2, ys, e, q2, r2⟩ := rb
   cases e
   rw [q] at q2
   cases q2
   simp only [noS] at na nb
   rw [RepL.inj na nb r r2]
  | lst es =>
   obtain ⟨p2, ys, e, q2, r2⟩ := rb
   cases e
   rw [q] at q2
   cases q2
  | scr _ => simp [noS] at nb
  | exc _ => simp [noS] at nb
  | dic _ _ => simp [noS] at nb
  | dit _ _ => simp [noS] at nb
  | non => simp [RepD] at rb
  | bl _ => simp [RepD] at rb
  | int _ => simp [RepD] at rb
  | str _ => simp [RepD] at rb
 | .scr _, _, _, na, _, _, _ => by simp [noS] at na
 | .exc _, _, _, na, _, _, _ => by simp [noS] at na
 | (.dic _ _), _, _, na, _, _, _ => by simp [noS] at na
 | (.dit _ _), _, _, na, _, _, _ => by simp [noS] at na
theorem RepL.inj : ∀ {as bs : List D} {xs : List V}, noSL as = true -> noSL bs = true -> RepL K G xs as -> RepL K G xs bs -> as = bs
 | [], [], _, _, _, _, _ => rfl
 | [], _ :: _, xs, _, _, e, h => by
  obtain ⟨_, _, e2, _⟩ := h
  cases (show xs = [] from e)
  cases e2
 | _ :: _, [], xs, _, _, h, e => by
  obtain ⟨_, _, e2, _⟩ := h
  cases (show xs = [] from e)
  cases e2
 | a :: as, b :: bs, xs, na, nb, h, h2 => by
  obtain ⟨x, ys, e, q, r⟩ := h
  obtain ⟨x2, ys2, e2, q2, r2⟩ := h2
  subst e
  cases e2
  simp only [noSL, Bool.and_eq_true] at na nb
  rw [RepD.inj na.1 nb.1 q q2, RepL.inj na.2 nb.2 r r2]
end
noncomputable def eqJ (ds es : List D) (j : Nat) : Bool := match ds[j]?, es[j]? with
 | some a, some b => eqB a b
 | _, _ => false
theorem zdQ : ∀ (as bs : List D), as.length = bs.length -> (List.range as.length).all (eqJ as bs) = eqBL as bs
 | [], [], _ => by simp [eqBL]
 | a :: as, b :: bs, h => by
  have ih := zdQ as bs (by simpa using h)
  rw [List.length_cons, List.range_succ_eq_map, List.all_cons, List.all_map]
  simp only [eqBL, <- ih]
  congr 1
 | [], _ :: _, h => by simp at h
 | _ :: _, [], h => by simp at h
section
variable {X : Cx} {pins : List (Addr × Obj)} {σ : St} {H G : Hp} {s : Shared}
theorem ziH (r : Vals xs us) (h : RepL X.K G xs ds) (e : us[j]? = some u) : ∃ x d, ds[j]? = some d /\ RelV x u /\ RepD X.K G x d := by
 have hl := r.length
 have hl2 := h.length
 have hj : j < us.length := (List.getElem?_eq_some_iff.mp e).1
 have ej : ds[j]? = some ds[j] := List.getElem?_eq_getElem (by lia)
 obtain ⟨x, q1, q2⟩ := h.get ej
 obtain ⟨u', h1, h2⟩ := r.get q1
 have : u' = u := by rw [h1] at e; exact Option.some.inj e
 subst this
 exact ⟨x, _, ej, h2, q2⟩
theorem eqAt_D (I : Inv X pins σ H s) (fz : Fz G H) : ∀ (n : Nat) (A : Around) (a b : D) (x y : V) (u v : Value), depth a <= n -> noS a = true -> noS b = true -> A.units + n + 1 < cLine -> RepD X.K G x a -> RepD X.K G y b -> RelV x u -> RelV y v ->
  SeqAt.EqAt A s u v (eqB a b) /\ SeqAt.RcAt A s u v (eqB a b) := by
 intro n
 induction n with
 | zero =>
  intro A a b x y u v hd na nb hu ra rb rx ry
  have hu' : A.units < cLine := by lia
  cases a with
  | non =>
   cases (show x = V.non from ra); cases (show u = Value.none from rx)
   cases b with
   | non => cases (show y = V.non from rb); cases (show v = Value.none from ry); exact ⟨.same _, .none_none⟩
   | bl c => cases (show y = V.bl c from rb); cases (show v = Value.bool c from ry); exact ⟨.none_bool _, .none_bool _⟩
   | int c => cases (show y = V.int c from rb); obtain ⟨t, rfl⟩ := ry; exact ⟨.none_int _ _, .none_int _ _⟩
   | str c => cases (show y = V.str c from rb); obtain ⟨t, rfl⟩ := ry; exact ⟨.none_str _ _, .none_str _ _⟩
   | lst ds =>
    obtain ⟨p, xs, rfl, q, r⟩ := rb
    cases (show v = Value.ref p from ry)
    obtain ⟨its, rv, pl, hz⟩ := I.list (SqL.of (fz _ _ q))
    exact ⟨.none_list pl.isList hu', .none_list pl.isList hu'⟩
   | tup ds =>
    obtain ⟨p, xs, rfl, q, r⟩ := rb
    cases (show v = Value.ref p from ry)
    obtain ⟨its, rv, pl, hz⟩ := I.tuple (SqT.of (fz _ _ q))
    exact ⟨.none_tuple pl hu', .none_tuple pl hu'⟩
   | scr _ => simp [noS] at nb
   | exc _ => simp [noS] at nb
   | dic _ _ => simp [noS] at nb
   | dit _ _ => simp [noS] at nb
  | bl c0 =>
   cases (show x = V.bl c0 from ra); cases (show u = Value.bool c0 from rx)
   cases b with
   | non => cases (show y = V.non from rb); cases (show v = Value.none from ry); exact ⟨.bool_none _, .bool_none _⟩
   | bl c => cases (show y = V.bl c from rb); cases (show v = Value.bool c from ry); exact ⟨.bool_bool _ _, .bool_bool _ _⟩
   | int c => cases (show y = V.int c from rb); obtain ⟨t, rfl⟩ := ry; exact ⟨.bool_int _ _ _, .bool_int _ _ _⟩
   | str c => cases (show y = V.str c from rb); obtain ⟨t, rfl⟩ := ry; exact ⟨.bool_str _ _ _, .bool_str _ _ _⟩
   | lst ds =>
    obtain ⟨p, xs, rfl, q, r⟩ := rb
    cases (show v = Value.ref p from ry)
    obtain ⟨its, rv, pl, hz⟩ := I.list (SqL.of (fz _ _ q))
    exact ⟨.bool_list _ pl.isList hu', .bool_list _ pl.isList hu'⟩
   | tup ds =>
    obtain ⟨p, xs, rfl, q, r⟩ := rb
    cases (show v = Value.ref p from ry)
    obtain ⟨its, rv, pl, hz⟩ := I.tuple (SqT.of (fz _ _ q))
    exact ⟨.bool_tuple _ pl hu', .bool_tuple _ pl hu'⟩
   | scr _ => simp [noS] at nb
   | exc _ => simp [noS] at nb
   | dic _ _ => simp [noS] at nb
   | dit _ _ => simp [noS] at nb
  | int c0 =>
   cases (show x = V.int c0 from ra); obtain ⟨t0, rfl⟩ := rx
   cases b with
   | non => cases (show y = V.non from rb); cases (show v = Value.none from ry); exact ⟨.int_none _ _, .int_none _ _⟩
   | bl c => cases (show y = V.bl c from rb); cases (show v = Value.bool c from ry); exact ⟨.int_bool _ _ _, .int_bool _ _ _⟩
   | int c => cases (show y = V.int c from rb); obtain ⟨t, rfl⟩ := ry; exact ⟨.int_int _ _ _ _, .int_int _ _ _ _⟩
   | str c => cases (show y = V.str c from rb); obtain ⟨t, rfl⟩ := ry; exact ⟨.int_str _ _ _ _, .int_str _ _ _ _⟩
   | lst ds =>
    obtain ⟨p, xs, rfl, q, r⟩ := rb
    cases (show v = Value.ref p from ry)
    obtain ⟨its, rv, pl, hz⟩ := I.list (SqL.of (fz _ _ q))
    exact ⟨.int_list _ _ pl.isList hu', .int_list _ _ pl.isList hu'⟩
   | tup ds =>
    obtain ⟨p, xs, rfl, q, r⟩ := rb
    cases (show v = Value.ref p from ry)
    obtain ⟨its, rv, pl, hz⟩ := I.tuple (SqT.of (fz _ _ q))
    exact ⟨.int_tuple _ _ pl hu', .int_tuple _ _ pl hu'⟩
   | scr _ => simp [noS] at nb
   | exc _ => simp [noS] at nb
   | dic _ _ => simp [noS] at nb
   | dit _ _ => simp [noS] at nb
  | str c0 =>
   cases (show x = V.str c0 from ra); obtain ⟨t0, rfl⟩ := rx
   cases b with
   | non => cases (show y = V.non from rb); cases (show v = Value.none from ry); exact ⟨.str_none _ _, .str_none _ _⟩
   | bl c => cases (show y = V.bl c from rb); cases (show v = Value.bool c from ry); exact ⟨.str_bool _ _ _, .str_bool _ _ _⟩
   | int c => cases (show y = V.int c from rb); obtain ⟨t, rfl⟩ := ry; exact ⟨.str_int _ _ _ _, .str_int _ _ _ _⟩
   | str c => cases (show y = V.str c from rb); obtain ⟨t, rfl⟩ := ry; exact ⟨.str_str _ _ _ _, .str_str _ _ _ _⟩
   | lst ds =>
    obtain ⟨p, xs, rfl, q, r⟩ := rb
    cases (show v = Value.ref p from ry)
    obtain ⟨its, rv, pl, hz⟩ := I.list (SqL.of (fz _ _ q))
    exact ⟨.str_list _ _ pl.isList hu', .str_list _ _ pl.isList hu'⟩
   | tup ds =>
    obtain ⟨p, xs, rfl, q, r⟩ := rb
    cases (show v = Value.ref p from ry)
    obtain ⟨its, rv, pl, hz⟩ := I.tuple (SqT.of (fz _ _ q))
    exact ⟨.str_tuple _ _ pl hu', .str_tuple _ _ pl hu'⟩
   | scr _ => simp [noS] at nb
   | exc _ => simp [noS] at nb
   | dic _ _ => simp [noS] at nb
   | dit _ _ => simp [noS] at nb
  | lst ds => simp [depth] at hd
  | tup ds => simp [depth] at hd
  | scr _ => simp [noS] at na
  | exc _ => simp [noS] at na
  | dic _ _ => simp [noS] at na
  | dit _ _ => simp [noS] at na
 | succ n ih =>
  intro A a b x y u v hd na nb hu ra rb rx ry
  have hu' : A.units < cLine := by lia
  have items : ∀ (ds es : List D) (xs ys : List V) (its its2 : List Value), ze0 ds <= n -> noSL ds = true -> noSL es = true -> RepL X.K G xs ds -> RepL X.K G ys es -> Vals xs its -> Vals ys its2 ->
    ∀ j (h1 : j < its.toArray.size) (h2 : j < its2.toArray.size), SeqAt.EqAt A.in1 s its.toArray[j] its2.toArray[j] (eqJ ds es j) := by
   intro ds es xs ys its its2 hd nd ne r r2 rv rv2 j h1 h2
   simp only [List.size_toArray] at h1 h2
   obtain ⟨x1, d1, e1, k1, m1⟩ := ziH rv r (j := j) (u := its[j]) (List.getElem?_eq_getElem h1)
   obtain ⟨x2, d2, e2, k2, m2⟩ := ziH rv2 r2 (j := j) (u := its2[j]) (List.getElem?_eq_getElem h2)
   have e : eqJ ds es j = eqB d1 d2 := by unfold eqJ; rw [e1, e2]
   rw [e]
   have := zgE e1
   simpa using (ih A.in1 d1 d2 x1 x2 _ _ (by lia) (zfV e1 nd) (zfV e2 ne) (by show A.units + 1 + n + 1 < cLine; lia) m1 m2 k1 k2).1
  cases a with
  | scr _ => simp [noS] at na
  | exc _ => simp [noS] at na
  | dic _ _ => simp [noS] at na
  | dit _ _ => simp [noS] at na
  | non => exact ih A .non b x y u v (Nat.zero_le _) na nb (by lia) ra rb rx ry
  | bl c => exact ih A (.bl c) b x y u v (Nat.zero_le _) na nb (by lia) ra rb rx ry
  | int c => exact ih A (.int c) b x y u v (Nat.zero_le _) na nb (by lia) ra rb rx ry
  | str c => exact ih A (.str c) b x y u v (Nat.zero_le _) na nb (by lia) ra rb rx ry
  | lst ds =>
   have ra0 := ra
   obtain ⟨p, xs, rfl, q, r⟩ := ra
   cases (show u = Value.ref p from rx)
   obtain ⟨its, rv, pl, hz⟩ := I.list (SqL.of (fz _ _ q))
   cases b with
   | non => cases (show y = V.non from rb); cases (show v = Value.none from ry); exact ⟨.list_none pl.isList hu', .list_none pl.isList hu'⟩
   | bl c => cases (show y = V.bl c from rb); cases (show v = Value.bool c from ry); exact ⟨.list_bool _ pl.isList hu', .list_bool _ pl.isList hu'⟩
   | int c => cases (show y = V.int c from rb); obtain ⟨t, rfl⟩ := ry; exact ⟨.list_int _ _ pl.isList hu', .list_int _ _ pl.isList hu'⟩
   | str c => cases (show y = V.str c from rb); obtain ⟨t, rfl⟩ := ry; exact ⟨.list_str _ _ pl.isList hu', .list_str _ _ pl.isList hu'⟩
   | scr _ => simp [noS] at nb
   | exc _ => simp [noS] at nb
   | dic _ _ => simp [noS] at nb
   | dit _ _ => simp [noS] at nb
   | tup es =>
    obtain ⟨p2, ys, rfl, q2, r2⟩ := rb
    cases (show v = Value.ref p2 from ry)
    obtain ⟨its2, rv2, pl2, hz2⟩ := I.tuple (SqT.of (fz _ _ q2))
    exact ⟨.list_tuple pl.isList pl2 hu', .list_tuple pl.isList pl2 hu'⟩
   | lst es =>
    have rb0 := rb
    obtain ⟨p2, ys, rfl, q2, r2⟩ := rb
    cases (show v = Value.ref p2 from ry)
    obtain ⟨its2, rv2, pl2, hz2⟩ := I.list (SqL.of (fz _ _ q2))
    simp only [depth] at hd
    have l1 := rv.length; have l2 := r.length; have l3 := rv2.length; have l4 := r2.length
    have rc : SeqAt.RcAt A s (.ref p) (.ref p2) (eqBL ds es) := by
     by_cases hl : ds.length = es.length
     ·have z := SeqAt.RcAt.lists (A := A) (s := s) (e := eqJ ds es) pl.isList pl2.isList (by simp only [List.size_toArray]; lia) hu' (items ds es xs ys its its2 (by lia) (by simpa only [noS] using na) (by simpa only [noS] using nb) r r2 rv rv2)
      rw [List.size_toArray, <- l1, l2, zdQ ds es hl] at z
      exact z
     ·rw [zfT hl]
      refine .lists_lengths pl.isList pl2.isList ?_ hu'
      simp only [List.size_toArray, bne_iff_ne, ne_eq]
      lia
    refine ⟨?_, by simp only [eqB]; exact rc⟩
    by_cases hp : p = p2
    ·subst hp
     have e := RepD.inj na nb ra0 rb0
     cases e
     rw [ziB _ na]
     exact .same _
    ·simp only [eqB]
     exact .of_refs hp rc
  | tup ds =>
   have ra0 := ra
   obtain ⟨p, xs, rfl, q, r⟩ := ra
   cases (show u = Value.ref p from rx)
   obtain ⟨its, rv, pl, hz⟩ := I.tuple (SqT.of (fz _ _ q))
   cases b with
   | non => cases (show y = V.non from rb); cases (show v = Value.none from ry); exact ⟨.tuple_none pl hu', .tuple_none pl hu'⟩
   | bl c => cases (show y = V.bl c from rb); cases (show v = Value.bool c from ry); exact ⟨.tuple_bool _ pl hu', .tuple_bool _ pl hu'⟩
   | int c => cases (show y = V.int c from rb); obtain ⟨t, rfl⟩ := ry; exact ⟨.tuple_int _ _ pl hu', .tuple_int _ _ pl hu'⟩
   | str c => cases (show y = V.str c from rb); obtain ⟨t, rfl⟩ := ry; exact ⟨.tuple_str _ _ pl hu', .tuple_str _ _ pl hu'⟩
   | scr _ => simp [noS] at nb
   | exc _ => simp [noS] at nb
   | dic _ _ => simp [noS] at nb
   | dit _ _ => simp [noS] at nb
   | lst es =>
    obtain ⟨p2, ys, rfl, q2, r2⟩ := rb
    cases (show v = Value.ref p2 from ry)
    obtain ⟨its2, rv2, pl2, hz2⟩ := I.list (SqL.of (fz _ _ q2))
    exact ⟨.tuple_list pl pl2.isList hu', .tuple_list pl pl2.isList hu'⟩
   | tup es =>
    have rb0 := rb
    obtain ⟨p2, ys, rfl, q2, r2⟩ := rb
    cases (show v = Value.ref p2 from ry)
    obtain ⟨its2, rv2, pl2, hz2⟩ := I.tuple (SqT.of (fz _ _ q2))
    simp only [depth] at hd
    have l1 := rv.length; have l2 := r.length; have l3 := rv2.length; have l4 := r2.length
    have rc : SeqAt.RcAt A s (.ref p) (.ref p2) (eqBL ds es) := by
     have z := SeqAt.RcAt.tuples (A := A) (s := s) (e := eqJ ds es) pl pl2 hu' (items ds es xs ys its its2 (by lia) (by simpa only [noS] using na) (by simpa only [noS] using nb) r r2 rv rv2)
     simp only [List.size_toArray] at z
     by_cases hl : ds.length = es.length
     ·have e1 : min its.length its2.length = ds.length := by lia
      have e2 : (its.length == its2.length) = true := by simp; lia
      rw [e1, e2, Bool.and_true, zdQ ds es hl] at z
      exact z
     ·have e2 : (its.length == its2.length) = false := by simp; lia
      rw [e2, Bool.and_false] at z
      rw [zfT hl]
      exact z
    refine ⟨?_, by simp only [eqB]; exact rc⟩
    by_cases hp : p = p2
    ·subst hp
     have e := RepD.inj na nb ra0 rb0
     cases e
     rw [ziB _ na]
     exact .same _
    ·simp only [eqB]
     exact .of_refs hp rc
end
noncomputable def dEq (a b : D) : Option D := if noS a && noS b && decide (depth a <= 50) then some (.bl (eqB a b)) else none
noncomputable def dNe (a b : D) : Option D := if noS a && noS b && decide (depth a <= 50) then some (.bl (!eqB a b)) else none
noncomputable def rEqD (K : W.Frag) (c : Bool -> Bool) : R2 := fun x y H Q => ∃ G a b, Fz G H /\ RepD K G x a /\ RepD K G y b /\ noS a = true /\ noS b = true /\ depth a <= 50 /\ Q (.bl (c (eqB a b))) H
theorem op_eqD (hu : X.A.units + 64 < cLine) : OpR X (compareOp .Eq) (rEqD X.K id) := by
 intro pins s σ H x y v u Q I rx ry h
 obtain ⟨G, a, b, fz, ra, rb, na, nb, hd, q⟩ := h
 exact (eqAt_D I fz 50 X.A a b x y v u hd na nb (by lia) ra rb rx ry).2 _ _ _ _ ⟨.bl _, H, I, rfl, q⟩
theorem zjw {ma mb : ME} (hu : X.A.units + 64 < cLine) (ha : SE X a ma) (hb : SE X b mb) : SE X (.Compare a [.Eq] [b] pos) (m2 dEq ma mb) := by
 refine zjv (op_eqD hu) (fun B G H σ ρ x y a b d Q I ra rb hf k => ?_) ha hb (zgX _)
 unfold dEq at hf
 split at hf
 ·rename_i h
  simp only [Bool.and_eq_true, decide_eq_true_eq] at h
  cases hf
  exact ⟨G, a, b, I.fz, ra, rb, h.1.1, h.1.2, h.2, k G H _ I (Fz.refl G) rfl⟩
 ·cases hf
section
variable {X : Cx} {pins : List (Addr × Obj)} {σ : St} {H G : Hp} {s : Shared}
theorem neAt_D (I : Inv X pins σ H s) (fz : Fz G H) (A : Around) (a b : D) (x y : V) (u v : Value) (hd : depth a <= 50) (na : noS a = true) (nb : noS b = true) (hu : A.units + 64 < cLine) (ra : RepD X.K G x a) (rb : RepD X.K G y b) (rx : RelV x u) (ry : RelV y v) :
  SeqAt.RcNeAt A s u v (!eqB a b) := by
 have hu' : A.units < cLine := by lia
 have items : ∀ (ds es : List D) (xs ys : List V) (its its2 : List Value), ze0 ds <= 49 -> noSL ds = true -> noSL es = true -> RepL X.K G xs ds -> RepL X.K G ys es -> Vals xs its -> Vals ys its2 ->
   ∀ j (h1 : j < its.toArray.size) (h2 : j < its2.toArray.size), SeqAt.EqAt A.in1 s its.toArray[j] its2.toArray[j] (eqJ ds es j) := by
  intro ds es xs ys its its2 hd nd ne r r2 rv rv2 j h1 h2
  simp only [List.size_toArray] at h1 h2
  obtain ⟨x1, d1, e1, k1, m1⟩ := ziH rv r (j := j) (u := its[j]) (List.getElem?_eq_getElem h1)
  obtain ⟨x2, d2, e2, k2, m2⟩ := ziH rv2 r2 (j := j) (u := its2[j]) (List.getElem?_eq_getElem h2)
  have e : eqJ ds es j = eqB d1 d2 := by unfold eqJ; rw [e1, e2]
  rw [e]
  have := zgE e1
  simpa using (eqAt_D I fz 49 A.in1 d1 d2 x1 x2 _ _ (by lia) (zfV e1 nd) (zfV e2 ne) (by show A.units + 1 + 49 + 1 < cLine; lia) m1 m2 k1 k2).1
 cases a with
 | scr _ => simp [noS] at na
 | exc _ => simp [noS] at na
 | dic _ _ => simp [noS] at na
 | dit _ _ => simp [noS] at na
 | non =>
  cases (show x = V.non from ra); cases (show u = Value.none from rx)
  cases b with
  | non => cases (show y = V.non from rb); cases (show v = Value.none from ry); exact .none_none
  | bl c => cases (show y = V.bl c from rb); cases (show v = Value.bool c from ry); exact .none_bool _
  | int c => cases (show y = V.int c from rb); obtain ⟨t, rfl⟩ := ry; exact .none_int _ _
  | str c => cases (show y = V.str c from rb); obtain ⟨t, rfl⟩ := ry; exact .none_str _ _
  | lst ds =>
   obtain ⟨p, xs, rfl, q, r⟩ := rb
   cases (show v = Value.ref p from ry)
   obtain ⟨its, rv, pl, hz⟩ := I.list (SqL.of (fz _ _ q))
   exact .none_list pl.isList hu'
  | tup ds =>
   obtain ⟨p, xs, rfl, q, r⟩ := rb
   cases (show v = Value.ref p from ry)
   obtain ⟨its, rv, pl, hz⟩ := I.tuple (SqT.of (fz _ _ q))
   exact .none_tuple pl hu'
  | scr _ => simp [noS] at nb
  | exc _ => simp [noS] at nb
  | dic _ _ => simp [noS] at nb
  | dit _ _ => simp [noS] at nb
 | bl c0 =>
  cases (show x = V.bl c0 from ra); cases (show u = Value.bool c0 from rx)
  cases b with
  | non => cases (show y = V.non from rb); cases (show v = Value.none from ry); exact .bool_none _
  | bl c => cases (show y = V.bl c from rb); cases (show v = Value.bool c from ry); exact .bool_bool _ _
  | int c => cases (show y = V.int c from rb); obtain ⟨t, rfl⟩ := ry; exact .bool_int _ _ _
  | str c => cases (show y = V.str c from rb); obtain ⟨t, rfl⟩ := ry; exact .bool_str _ _ _
  | lst ds =>
   obtain ⟨p, xs, rfl, q, r⟩ := rb
   cases (show v = Value.ref p from ry)
   obtain ⟨its, rv, pl, hz⟩ := I.list (SqL.of (fz _ _ q))
   exact .bool_list _ pl.isList hu'
  | tup ds =>
   obtain ⟨p, xs, rfl, q, r⟩ := rb
   cases (show v = Value.ref p from ry)
   obtain ⟨its, rv, pl, hz⟩ := I.tuple (SqT.of (fz _ _ q))
   exact .bool_tuple _ pl hu'
  | scr _ => simp [noS] at nb
  | exc _ => simp [noS] at nb
  | dic _ _ => simp [noS] at nb
  | dit _ _ => simp [noS] at nb
 | int c0 =>
  cases (show x = V.int c0 from ra); obtain ⟨t0, rfl⟩ := rx
  cases b with
  | non => cases (show y = V.non from rb); cases (show v = Value.none from ry); exact .int_none _ _
  | bl c => cases (show y = V.bl c from rb); cases (show v = Value.bool c from ry); exact .int_bool _ _ _
  | int c => cases (show y = V.int c from rb); obtain ⟨t, rfl⟩ := ry; exact .int_int _ _ _ _
  | str c => cases (show y = V.str c from rb); obtain ⟨t, rfl⟩ := ry; exact .int_str _ _ _ _
  | lst ds =>
   obtain ⟨p, xs, rfl, q, r⟩ := rb
   cases (show v = Value.ref p from ry)
   obtain ⟨its, rv, pl, hz⟩ := I.list (SqL.of (fz _ _ q))
   exact .int_list _ _ pl.isList hu'
  | tup ds =>
   obtain ⟨p, xs, rfl, q, r⟩ := rb
   cases (show v = Value.ref p from ry)
   obtain ⟨its, rv, pl, hz⟩ := I.tuple (SqT.of (fz _ _ q))
   exact .int_tuple _ _ pl hu'
  | scr _ => simp [noS] at nb
  | exc _ => simp [noS] at nb
  | dic _ _ => simp [noS] at nb
  | dit _ _ => simp [noS] at nb
 | str c0 =>
  cases (show x = V.str c0 from ra); obtain ⟨t0, rfl⟩ := rx
  cases b with
  | non => cases (show y = V.non from rb); cases (show v = Value.none from ry); exact .str_none _ _
  | bl c => cases (show y = V.bl c from rb); cases (show v = Value.bool c from ry); exact .str_bool _ _ _
  | int c => cases (show y = V.int c from rb); obtain ⟨t, rfl⟩ := ry; exact .str_int _ _ _ _
  | str c => cases (show y = V.str c from rb); obtain ⟨t, rfl⟩ := ry; exact .str_str _ _ _ _
  | lst ds =>
   obtain ⟨p, xs, rfl, q, r⟩ := rb
   cases (show v = Value.ref p from ry)
   obtain ⟨its, rv, pl, hz⟩ := I.list (SqL.of (fz _ _ q))
   exact .str_list _ _ pl.isList hu'
  | tup ds =>
   obtain ⟨p, xs, rfl, q, r⟩ := rb
   cases (show v = Value.ref p from ry)
   obtain ⟨its, rv, pl, hz⟩ := I.tuple (SqT.of (fz _ _ q))
   exact .str_tuple _ _ pl hu'
  | scr _ => simp [noS] at nb
  | exc _ => simp [noS] at nb
  | dic _ _ => simp [noS] at nb
  | dit _ _ => simp [noS] at nb
 | lst ds =>
  obtain ⟨p, xs, rfl, q, r⟩ := ra
  cases (show u = Value.ref p from rx)
  obtain ⟨its, rv, pl, hz⟩ := I.list (SqL.of (fz _ _ q))
  cases b with
  | non => cases (show y = V.non from rb); cases (show v = Value.none from ry); exact .list_none pl.isList hu'
  | bl c => cases (show y = V.bl c from rb); cases (show v = Value.bool c from ry); exact .list_bool _ pl.isList hu'
  | int c => cases (show y = V.int c from rb); obtain ⟨t, rfl⟩ := ry; exact .list_int _ _ pl.isList hu'
  | str c => cases (show y = V.str c from rb); obtain ⟨t, rfl⟩ := ry; exact .list_str _ _ pl.isList hu'
  | scr _ => simp [noS] at nb
  | exc _ => simp [noS] at nb
  | dic _ _ => simp [noS] at nb
  | dit _ _ => simp [noS] at nb
  | tup es =>
   obtain ⟨p2, ys, rfl, q2, r2⟩ := rb
   cases (show v = Value.ref p2 from ry)
   obtain ⟨its2, rv2, pl2, hz2⟩ := I.tuple (SqT.of (fz _ _ q2))
   exact .list_tuple pl.isList pl2 hu'
  | lst es =>
   obtain ⟨p2, ys, rfl, q2, r2⟩ := rb
   cases (show v = Value.ref p2 from ry)
   obtain ⟨its2, rv2, pl2, hz2⟩ := I.list (SqL.of (fz _ _ q2))
   simp only [depth] at hd
   have l1 := rv.length; have l2 := r.length; have l3 := rv2.length; have l4 := r2.length
   simp only [eqB]
   by_cases hl : ds.length = es.length
   ·have z := SeqAt.RcNeAt.lists (A := A) (s := s) (e := eqJ ds es) pl.isList pl2.isList (by simp only [List.size_toArray]; lia) hu' (items ds es xs ys its its2 (by lia) (by simpa only [noS] using na) (by simpa only [noS] using nb) r r2 rv rv2)
    rw [List.size_toArray, <- l1, l2, zdQ ds es hl] at z
    exact z
   ·rw [zfT hl]
    refine .lists_lengths pl.isList pl2.isList ?_ hu'
    simp only [List.size_toArray, bne_iff_ne, ne_eq]
    lia
 | tup ds =>
  obtain ⟨p, xs, rfl, q, r⟩ := ra
  cases (show u = Value.ref p from rx)
  obtain ⟨its, rv, pl, hz⟩ := I.tuple (SqT.of (fz _ _ q))
  cases b with
  | non => cases (show y = V.non from rb); cases (show v = Value.none from ry); exact .tuple_none pl hu'
  | bl c => cases (show y = V.bl c from rb); cases (show v = Value.bool c from ry); exact .tuple_bool _ pl hu'
  | int c => cases (show y = V.int c from rb); obtain ⟨t, rfl⟩ := ry; exact .tuple_int _ _ pl hu'
  | str c => cases (show y = V.str c from rb); obtain ⟨t, rfl⟩ := ry; exact .tuple_str _ _ pl hu'
  | scr _ => simp [noS] at nb
  | exc _ => simp [noS] at nb
  | dic _ _ => simp [noS] at nb
  | dit _ _ => simp [noS] at nb
  | lst es =>
   obtain ⟨p2, ys, rfl, q2, r2⟩ := rb
   cases (show v = Value.ref p2 from ry)
   obtain ⟨its2, rv2, pl2, hz2⟩ := I.list (SqL.of (fz _ _ q2))
   exact .tuple_list pl pl2.isList hu'
  | tup es =>
   obtain ⟨p2, ys, rfl, q2, r2⟩ := rb
   cases (show v = Value.ref p2 from ry)
   obtain ⟨its2, rv2, pl2, hz2⟩ := I.tuple (SqT.of (fz _ _ q2))
   simp only [depth] at hd
   have l1 := rv.length; have l2 := r.length; have l3 := rv2.length; have l4 := r2.length
   have z := SeqAt.RcNeAt.tuples (A := A) (s := s) (e := eqJ ds es) pl pl2 hu' (items ds es xs ys its its2 (by lia) (by simpa only [noS] using na) (by simpa only [noS] using nb) r r2 rv rv2)
   simp only [List.size_toArray] at z
   simp only [eqB]
   by_cases hl : ds.length = es.length
   ·have e1 : min its.length its2.length = ds.length := by lia
    have e2 : (its.length == its2.length) = true := by simp; lia
    rw [e1, e2, Bool.and_true, zdQ ds es hl] at z
    exact z
   ·have e2 : (its.length == its2.length) = false := by simp; lia
    rw [e2, Bool.and_false] at z
    rw [zfT hl]
    exact z
end
theorem op_neD (hu : X.A.units + 64 < cLine) : OpR X (compareOp .NotEq) (rEqD X.K not) := by
 intro pins s σ H x y v u Q I rx ry h
 obtain ⟨G, a, b, fz, ra, rb, na, nb, hd, q⟩ := h
 exact neAt_D I fz X.A a b x y v u hd na nb hu ra rb rx ry _ _ _ _ ⟨.bl _, H, I, rfl, q⟩
theorem v2_ne : V2 X (rEqD X.K not) dNe := by
 intro B G H σ ρ x y a b d Q I ra rb hf k
 unfold dNe at hf
 split at hf
 ·rename_i h
  simp only [Bool.and_eq_true, decide_eq_true_eq] at h
  cases hf
  exact ⟨G, a, b, I.fz, ra, rb, h.1.1, h.1.2, h.2, k G H _ I (Fz.refl G) rfl⟩
 ·cases hf
theorem v2_eq : V2 X (rEqD X.K id) dEq := by
 intro B G H σ ρ x y a b d Q I ra rb hf k
 unfold dEq at hf
 split at hf
 ·rename_i h
  simp only [Bool.and_eq_true, decide_eq_true_eq] at h
  cases hf
  exact ⟨G, a, b, I.fz, ra, rb, h.1.1, h.1.2, h.2, k G H _ I (Fz.refl G) rfl⟩
 ·cases hf
noncomputable def dIx : D -> D -> Option D
 | .lst ds, .int i => atI ds i
 | .tup ds, .int i => atI ds i
 | .scr ns, .int i => (atI ns i).map .int
 | _, _ => none
theorem atI_map {α β : Type} (f : α -> β) {xs : List α} {i : Int} {v : α} (h : atI xs i = some v) : atI (xs.map f) i = some (f v) := by
 unfold atI at h ⊢
 rw [List.length_map]
 cases q : ixN xs.length i with
 | none => rw [q] at h; cases h
 | some j =>
  rw [q] at h
  show (xs.map f)[j]? = _
  rw [List.getElem?_map, show xs[j]? = some v from h]
  rfl
noncomputable def ReadD (K : W.Frag) (G H : Hp) (v : V) : D -> Prop
 | .lst ds => ∃ a xs, v = .ref a /\ H a = some (.lst xs) /\ RepL K G xs ds
 | d => RepD K G v d
theorem ReadD.of (fz : Fz G H) (h : RepD K G v d) : ReadD K G H v d := by
 cases d with
 | lst ds => obtain ⟨a, xs, e, q, r⟩ := h; exact ⟨a, xs, e, fz a _ q, r⟩
 | _ => exact h
noncomputable def Sl.read : Sl -> Option D
 | .emp => none
 | .two _ _ => none
 | .tre _ => none
 | .ptr _ => none
 | .val d => some d
 | .own ds => some (.lst ds)
 | .par ds => some (.lst ds)
noncomputable def hasV (ρ : R) (j : Nat) : Bool := match ρ[j]? with
 | some (.val _) => true
 | some (.own _) => true
 | some (.par _) => true
 | _ => false
theorem SI.has (I : SI K B G H σ ρ) (h : hasV ρ j = true) : ∃ v, σ[j]? = some (some v) := by
 unfold hasV at h
 cases e : ρ[j]? with
 | none => rw [e] at h; cases h
 | some s =>
  rw [e] at h
  have q := I.slot j s e
  cases s with
  | emp => cases h
  | two _ _ => cases h
  | tre _ => cases h
  | ptr _ => cases h
  | val d => obtain ⟨v, e, _⟩ := q; exact ⟨v, e⟩
  | own d => obtain ⟨l, _, e, _⟩ := q; exact ⟨_, e⟩
  | par d => obtain ⟨l, _, e, _⟩ := q; exact ⟨_, e⟩
theorem SI.read (I : SI K B G H σ ρ) (hv : σ[j]? = some (some v)) (e : ρ[j]? = some s) (q : s.read = some d) : ReadD K G H v d := by
 have h := I.slot j s e
 cases s with
 | emp => cases q
 | two _ _ => cases q
 | tre _ => cases q
 | ptr _ => cases q
 | val d' =>
  cases q
  obtain ⟨w, e1, r⟩ := h
  rw [hv] at e1; cases e1
  exact .of I.fz r
 | own ds =>
  cases q
  obtain ⟨l, xs, e1, _, h3, h4, _⟩ := h
  rw [hv] at e1; cases e1
  exact ⟨l, xs, rfl, h3, h4⟩
 | par ds =>
  cases q
  obtain ⟨l, xs, e1, _, h3, h4, _⟩ := h
  rw [hv] at e1; cases e1
  exact ⟨l, xs, rfl, h3, h4⟩
theorem zlN {x y : V} {a b d : D} {Q : VK} (I : SI K B G H σ ρ) (ra : ReadD K G H x a) (rb : RepD K G y b) (hf : dIx a b = some d) (k : ∀ v, RepD K G v d -> Q v H) : rIx K x y H Q := by
 cases a <;> cases b <;> simp only [dIx] at hf <;> try cases hf
 ·rename_i ds i
  obtain ⟨p, xs, rfl, hp, r⟩ := ra
  obtain ⟨v, e, q⟩ := r.at hf
  exact .inl ⟨p, xs, i, v, rfl, rb, SqL.of hp, e, k _ q⟩
 ·rename_i ds i
  obtain ⟨p, xs, rfl, hp, r⟩ := I.tup ra
  obtain ⟨v, e, q⟩ := r.at hf
  exact .inr (.inl ⟨p, xs, i, v, rfl, rb, SqT.of hp, e, k _ q⟩)
 ·rename_i ns i
  obtain ⟨p, rfl, hp⟩ := ra
  cases e : atI ns i with
  | none => rw [e] at hf; cases hf
  | some n =>
   rw [e] at hf
   cases hf
   exact .inl ⟨p, _, i, .int n, rfl, rb, I.fz.sql hp, atI_map V.int e, k _ rfl⟩
theorem v2_ix : V2 X (rIx X.K) dIx := fun B G H σ ρ x y a b d Q I ra rb hf k => zlN I (.of I.fz ra) rb hf fun v q => k G H v I (Fz.refl G) q
theorem zaI {ma mb : ME} (ha : SE X a ma) (hb : SE X b mb) (hs : ziE b := by exact fun _ _ => rfl) : SE X (.Subscript a b pos) (m2 dIx ma mb) := se_ix ix_seq v2_ix ha hb hs
noncomputable def eIxV (j : Nat) (mi : ME) : ME := fun ρ => if hasV ρ j then (mi ρ).bind fun p => (p.2[j]?.bind Sl.read).bind fun d => (dIx d p.1).map fun e => (e, p.2) else none
theorem zaj (j : Nat) (hb : SE X b mb) (hN : X.N[j]? = some x := by rfl) (hv : Vis X.env.scope x := by first | exact Or.inl rfl | exact Or.inr (Or.inl rfl) | exact Or.inr (Or.inr rfl)) (hd : (x == ("__debug__" : Str)) = false := by decide)
    (hcd : (x == ("__classdict__" : Str)) = false := by decide) (hs : ziE b := by exact fun _ _ => rfl) : SE X (.Subscript (.Name x pos') b pos) (eIxV j mb) := by
  obtain ⟨tb, pb, sb⟩ := hb
  refine ⟨_, pe_ix ix_seq (zea hN hv hd hcd) pb hs, fun B G H σ ρ d ρ' Q I hm k => ?_⟩
  unfold eIxV at hm
  split at hm
  . rename_i hh
    obtain ⟨v, ev⟩ := I.has hh
    cases e1 : mb ρ with
    | none => rw [e1] at hm; cases hm
    | some q =>
      obtain ⟨i, ρ1⟩ := q
      rw [e1] at hm
      simp only [Option.bind_some] at hm
      cases e2 : ρ1[j]? with
      | none => rw [e2] at hm; cases hm
      | some s =>
        rw [e2] at hm
        simp only [Option.bind_some] at hm
        cases e3 : s.read with
        | none => rw [e3] at hm; cases hm
        | some a =>
          rw [e3] at hm
          simp only [Option.bind_some] at hm
          cases e4 : dIx a i with
          | none => rw [e4] at hm; cases hm
          | some c =>
            rw [e4] at hm
            cases hm
            exact ⟨v, ev, sb B G H σ ρ i ρ' _ I e1 fun G1 H1 y I1 f1 r1 => zlN I1 (I1.read ev e2 e3) r1 e4 fun w q => k G1 H1 w I1 f1 q⟩
  . cases hm
noncomputable def dLen : List D -> Option D
 | [.lst ds] => some (.int ds.length)
 | [.tup ds] => some (.int ds.length)
 | [.scr ns] => some (.int ns.length)
 | _ => none
theorem zkw {x : V} {a d : D} {Q : VK} (I : SI K B G H σ ρ) (ra : ReadD K G H x a) (hf : dLen [a] = some d) (k : ∀ v, RepD K G v d -> Q v H) :
  ∃ p ys, [x] = [V.ref p] /\ (SqL K H p ys \/ SqT K H p ys) /\ Q (.int ys.length) H := by
 cases a <;> simp only [dLen] at hf <;> try cases hf
 ·obtain ⟨p, xs, rfl, hp, r⟩ := ra
  exact ⟨p, xs, rfl, .inl (SqL.of hp), by rw [r.length]; exact k _ rfl⟩
 ·obtain ⟨p, xs, rfl, hp, r⟩ := I.tup ra
  exact ⟨p, xs, rfl, .inr (SqT.of hp), by rw [r.length]; exact k _ rfl⟩
 ·obtain ⟨p, rfl, hp⟩ := ra
  exact ⟨p, _, rfl, .inl (I.fz.sql hp), by rw [List.length_map]; exact k _ rfl⟩
theorem RepL.one (h : RepL K G xs [d]) : ∃ x, xs = [x] /\ RepD K G x d := by
 obtain ⟨x, ys, e, q, r⟩ := h
 cases (show ys = [] from r)
 exact ⟨x, e, q⟩
theorem RepL.two {a b : D} (h : RepL K G xs [a, b]) : ∃ x y, xs = [x, y] /\ RepD K G x a /\ RepD K G y b := by
 obtain ⟨x, ys, e, q, r⟩ := h
 obtain ⟨y, e2, q2⟩ := r.one
 subst e2
 exact ⟨x, y, e, q, q2⟩
theorem dLen_one (h : dLen ds = some d) : ∃ a, ds = [a] := by
 match ds, h with
 | [a], _ => exact ⟨a, rfl⟩
 | [], h => cases h
 | _ :: _ :: _, h => simp [dLen] at h
theorem vc_len : VC X (fun xs H Q => ∃ p ys, xs = [.ref p] /\ (SqL X.K H p ys \/ SqT X.K H p ys) /\ Q (.int ys.length) H) dLen := by
 intro B G H σ ρ xs ds d Q I r hf k
 obtain ⟨a, rfl⟩ := dLen_one hf
 obtain ⟨x, rfl, ra⟩ := r.one
 exact zkw I (.of I.fz ra) hf fun v q => k G H v I (Fz.refl G) q
theorem zfx (ml : X.mg "len" = none) (ha : SA X [e] ma) (hg : Gl X "len" := by rfl) (he : starEach [e] X.env = (false, eval e X.env) :: starEach [] X.env := by rfl) : SE X (.Call (.Name "len" p) [e] [] pos) (mC dLen ma) :=
 zct zgM vc_len PySem.boot_len ml ha hg (by decide) (by decide) he rfl
noncomputable def zbY (j : Nat) : ME := fun ρ => (ρ[j]?.bind Sl.read).bind fun d => (dLen [d]).map fun e => (e, ρ)
theorem zaY (j : Nat) (ml : X.mg "len" = none) (hN : X.N[j]? = some x := by rfl) (hv : Vis X.env.scope x := by first | exact Or.inl rfl | exact Or.inr (Or.inl rfl) | exact Or.inr (Or.inr rfl)) (hd : (x == ("__debug__" : Str)) = false := by decide)
  (hcd : (x == ("__classdict__" : Str)) = false := by decide) (hg : Gl X "len" := by rfl) (he : starEach [.Name x pos'] X.env = (false, eval (.Name x pos') X.env) :: starEach [] X.env := by rfl) : SE X (.Call (.Name "len" p) [.Name x pos'] [] pos) (zbY j) := by
 refine ⟨_, zir zgM hg ml PySem.boot_len (zem (zea hN hv hd hcd) zjh he) (by decide) (by decide) he rfl, fun B G H σ ρ d ρ' Q I hm k => ?_⟩
 unfold zbY at hm
 cases e2 : ρ[j]? with
 | none => rw [e2] at hm; cases hm
 | some s =>
  rw [e2] at hm
  simp only [Option.bind_some] at hm
  cases e3 : s.read with
  | none => rw [e3] at hm; cases hm
  | some a =>
   rw [e3] at hm
   simp only [Option.bind_some] at hm
   cases e4 : dLen [a] with
   | none => rw [e4] at hm; cases hm
   | some c =>
    rw [e4] at hm
    cases hm
    have hh : hasV ρ j = true := by
     unfold hasV
     rw [e2]
     cases s <;> first | rfl | cases e3
    obtain ⟨v, ev⟩ := I.has hh
    exact ⟨v, ev, zkw I (I.read ev e2 e3) e4 fun w q => k G H w I (Fz.refl G) q⟩
noncomputable def zbF : List D -> Option D
 | [.lst ds] => some (.tup ds)
 | [.tup ds] => some (.tup ds)
 | [.scr ns] => some (.tup (ns.map .int))
 | _ => none
theorem vc_tuple : VC X (fun xs H Q => ∃ p ys, xs = [.ref p] /\ ((SqL X.K H p ys /\ ∀ l, H l = none -> Q (.ref l) (upd H l (.tup ys))) \/ (SqT X.K H p ys /\ Q (.ref p) H))) zbF := by
 intro B G H σ ρ xs ds d Q I r hf k
 match ds, hf with
 | [a], hf =>
  obtain ⟨x, rfl, ra⟩ := r.one
  cases a <;> simp only [zbF] at hf <;> try cases hf
  ·obtain ⟨p, ys, rfl, hp, q⟩ := I.lst ra
   refine ⟨p, ys, rfl, .inl ⟨SqL.of hp, fun l hl => ?_⟩⟩
   obtain ⟨I2, f2, r2⟩ := I.newT hl q
   exact k _ _ _ I2 f2 r2
  ·obtain ⟨p, ys, e, hp, q⟩ := I.tup ra
   subst e
   exact ⟨p, ys, rfl, .inr ⟨SqT.of hp, k G H _ I (Fz.refl G) ra⟩⟩
  ·obtain ⟨p, rfl, hp⟩ := ra
   refine ⟨p, _, rfl, .inl ⟨I.fz.sql hp, fun l hl => ?_⟩⟩
   obtain ⟨I2, f2, r2⟩ := I.newT hl (RepL.ints _)
   exact k _ _ _ I2 f2 r2
 | [], hf => cases hf
 | _ :: _ :: _, hf => simp [zbF] at hf
theorem zbA (ml : X.mg "tuple" = none) (ha : SA X [e] ma) (hg : Gl X "tuple" := by rfl) (he : starEach [e] X.env = (false, eval e X.env) :: starEach [] X.env := by rfl) (hb : bootBuiltins "tuple" = some (.type "tuple") := by decide +kernel) :
  SE X (.Call (.Name "tuple" p) [e] [] pos) (mC zbF ma) :=
 zja zh8 vc_tuple hb ml ha hg (by decide) (by decide) he rfl
noncomputable def zaN : List D -> Option (List D)
 | [.lst ds] => some ds
 | [.tup ds] => some ds
 | [.scr ns] => some (ns.map .int)
 | _ => none
noncomputable def oC (f : List D -> Option (List D)) (ma : MA) : MO := fun ρ => (ma ρ).bind fun p => (f p.1).map fun d => (d, p.2)
theorem oC_inv {f : List D -> Option (List D)} {d : List D} (h : oC f ma ρ = some (d, ρ')) : ∃ a, ma ρ = some (a, ρ') /\ f a = some d := by
 unfold oC at h
 cases e1 : ma ρ with
 | none => rw [e1] at h; cases h
 | some p =>
  obtain ⟨a, ρ1⟩ := p
  rw [e1] at h
  simp only [Option.bind_some] at h
  cases e3 : f a with
  | none => rw [e3] at h; cases h
  | some c => rw [e3] at h; cases h; exact ⟨a, rfl, e3⟩
theorem SI.newO (I : SI K B G H σ ρ) {p : Addr} (hp : H p = none) (xs : List V) : SI K B G (upd H p (.lst xs)) σ ρ /\ G p = none /\ (upd H p (.lst xs)) p = some (.lst xs) /\ B.H p = none /\ Nw K G (upd H p (.lst xs)) σ ρ p :=
 ⟨I.allocO hp _, I.fz.free hp, zaO, I.there p hp, I.nw_move (I.nw hp) fun i s a _ _ g h => ⟨g, zay fun z => h (by rw [z]; exact hp)⟩⟩
theorem zgC (ml : X.mg "list" = none) (ha : SA X [e] ma) (hg : Gl X "list" := by rfl) (he : starEach [e] X.env = (false, eval e X.env) :: starEach [] X.env := by rfl) (hb : bootBuiltins "list" = some (.type "list") := by decide +kernel) :
  SO X (.Call (.Name "list" p) [e] [] pos) (oC zaN ma) := by
 obtain ⟨t, pa, sa⟩ := ha
 refine ⟨_, zjs zjq hg ml hb pa (by decide) (by decide) he rfl, fun B G H σ ρ ds ρ' Q I hm k => ?_⟩
 obtain ⟨as, e1, e2⟩ := oC_inv hm
 refine sa B G H σ ρ as ρ' _ I e1 fun G1 H1 vs I1 f1 r1 => ?_
 match as, e2 with
 | [a], e2 =>
  obtain ⟨x, rfl, ra⟩ := r1.one
  have fin : ∀ (q : Addr) (ys : List V) (sq : SqL X.K H1 q ys \/ SqT X.K H1 q ys), x = .ref q -> RepL X.K G1 ys ds -> ∃ p ys, [x] = [V.ref p] /\ (SqL X.K H1 p ys \/ SqT X.K H1 p ys) /\ ∀ l, H1 l = none -> Q (.ref l) (upd H1 l (.lst ys)) := fun q ys sq ex r => by
   refine ⟨q, ys, by rw [ex], sq, fun l hl => ?_⟩
   obtain ⟨I2, g2, h2, b2, n2⟩ := I1.newO hl ys
   exact k G1 _ l ys I2 f1 g2 h2 r b2 n2
  cases a <;> simp only [zaN] at e2 <;> try cases e2
  ·obtain ⟨p, ys, ex, hp, q⟩ := I1.lst ra
   exact fin p ys (.inl (SqL.of hp)) ex q
  ·obtain ⟨p, ys, ex, hp, q⟩ := I1.tup ra
   exact fin p ys (.inr (SqT.of hp)) ex q
  ·obtain ⟨p, ex, hp⟩ := ra
   exact fin p _ (.inl (I1.fz.sql hp)) ex (RepL.ints _)
 | [], e2 => cases e2
 | _ :: _ :: _, e2 => simp [zaN] at e2
section
variable {X : Cx} {es : List Expr} {ma : MA} {pos : Pos}
noncomputable def eTup (ma : MA) : ME := fun ρ => (ma ρ).bind fun p => if p.1.length <= 16777216 then some (.tup p.1, p.2) else none
theorem zaT {x1} (h : SA X es ma) : SE X (.Tuple es x1 pos) (eTup ma) := by
 obtain ⟨t, pa, sa⟩ := h
 refine ⟨_, pe_tup pa, fun B G H σ ρ d ρ' Q I hm k => ?_⟩
 unfold eTup at hm
 cases e1 : ma ρ with
 | none => rw [e1] at hm; cases hm
 | some q =>
  obtain ⟨ds, ρ1⟩ := q
  rw [e1] at hm
  simp only [Option.bind_some] at hm
  split at hm
  ·rename_i hl
   cases hm
   refine sa B G H σ ρ ds ρ' _ I e1 fun G1 H1 vs I1 f1 r1 => ⟨by rw [r1.length, sizeLine_eq]; exact hl, fun p hp => ?_⟩
   obtain ⟨I2, f2, r2⟩ := I1.newT hp r1
   exact k _ _ _ I2 (f1.trans f2) r2
  ·cases hm
noncomputable def oLst (ma : MA) : MO := fun ρ => (ma ρ).bind fun p => if p.1.length <= 16777216 then some (p.1, p.2) else none
theorem za1 (h : SA X es ma) : SO X (.List es pos) (oLst ma) := by
 obtain ⟨t, pa, sa⟩ := h
 refine ⟨_, pe_lst pa, fun B G H σ ρ d ρ' Q I hm k => ?_⟩
 unfold oLst at hm
 cases e1 : ma ρ with
 | none => rw [e1] at hm; cases hm
 | some q =>
  obtain ⟨ds, ρ1⟩ := q
  rw [e1] at hm
  simp only [Option.bind_some] at hm
  split at hm
  ·rename_i hl
   cases hm
   refine sa B G H σ ρ _ ρ' _ I e1 fun G1 H1 vs I1 f1 r1 => ⟨by rw [r1.length, sizeLine_eq]; exact hl, fun p hp => ?_⟩
   obtain ⟨I2, g2, h2, b2, n2⟩ := I1.newO hp vs
   exact k G1 _ p vs I2 f1 g2 h2 r1 b2 n2
  ·cases hm
end
theorem zah {α β : Type} {o : Option α} {f : α -> Option β} {b : β} (h : o.bind f = some b) : ∃ a, o = some a /\ f a = some b := by
 cases o with
 | none => cases h
 | some a => exact ⟨a, rfl, h⟩
theorem zaH {α β : Type} {o : Option α} {f : α -> β} {b : β} (h : o.map f = some b) : ∃ a, o = some a /\ f a = b := by
 cases o with
 | none => cases h
 | some a => cases h; exact ⟨a, rfl, rfl⟩
noncomputable def dTru : D -> Option Bool
 | .bl b => some b
 | .int i => some (i != 0)
 | .non => some false
 | .lst ds => some (!ds.isEmpty)
 | .tup ds => some (!ds.isEmpty)
 | _ => none
noncomputable def tTru (ma : ME) : MT := fun ρ => (ma ρ).bind fun p => (dTru p.1).map fun b => (b, p.2)
section
variable {X : Cx} {a b c : Expr} {ma mb mc : ME} {pos : Pos}
theorem ziL (h : RepL K G xs ds) : (!xs.isEmpty) = !ds.isEmpty := by
 have := h.length
 cases xs <;> cases ds <;> simp_all
theorem zdZ (ha : SE X a ma) (he : ∀ whole, isTrue a X.env whole = (do let v <- whole; standAt a.pos; holding [v] (truthy v)) := by exact fun _ => rfl) : STt X a (tTru ma) := by
  obtain ⟨ta, pa, sa⟩ := ha
  refine ⟨_, pt_truth pa he, fun B G H σ ρ d ρ' Q I hm k => ?_⟩
  obtain ⟨⟨x, ρ1⟩, e1, e2⟩ := zah hm
  obtain ⟨t, e3, e4⟩ := zaH e2
  obtain ⟨rfl, rfl⟩ := Prod.mk.inj e4
  refine sa B G H σ ρ x ρ1 _ I e1 fun G1 H1 v I1 f1 r1 => ⟨t, ?_, k G1 H1 I1 f1⟩
  cases x <;> simp only [dTru] at e3 <;> try cases e3
  . cases r1; exact rfl
  . cases r1; exact rfl
  . cases r1; exact rfl
  . obtain ⟨p, xs, rfl, hp, r⟩ := I1.lst r1
    exact .inl ⟨xs, SqL.of hp, (ziL r).symm⟩
  . obtain ⟨p, xs, rfl, hp, r⟩ := I1.tup r1
    exact .inr (.inl ⟨xs, SqT.of hp, (ziL r).symm⟩)
theorem zfR {r : R2} (ho : OpR X (compareOp op) r) (hv : V2 X r f) (hB : ∀ x y d, f x y = some d -> ∃ t, d = .bl t) (ha : SE X a ma) (hb : SE X b mb) (hm : behindInMarks op b = false) : STt X (.Compare a [op] [b] pos) (tTru (m2 f ma mb)) := by
 obtain ⟨ta, pa, sa⟩ := ha
 obtain ⟨tb, pb, sb⟩ := hb
 refine ⟨_, pt_cmpR ho pa pb hm, fun B G H σ ρ d ρ' Q I hm k => ?_⟩
 obtain ⟨⟨x, ρ1⟩, e1, e2⟩ := zah hm
 obtain ⟨t, e3, e4⟩ := zaH e2
 obtain ⟨rfl, rfl⟩ := Prod.mk.inj e4
 obtain ⟨_, _, _, _, _, e5⟩ := m2_inv e1
 obtain ⟨t', rfl⟩ := hB _ _ _ e5
 obtain rfl : t' = t := Option.some.inj e3
 refine zkB hv sa sb B G H σ ρ (.bl t') ρ1 _ I e1 fun G1 H1 v I1 f1 r1 => ?_
 cases (show v = V.bl t' from r1)
 exact ⟨t', rfl, k G1 H1 I1 f1⟩
theorem zkn {g : Int -> Int -> Bool} (x y d : D) (h : dI2 (fun _ _ => true) (fun i j => .bl (g i j)) x y = some d) : ∃ t, d = .bl t := by
 cases x <;> cases y <;> simp only [dI2] at h <;> try cases h
 exact ⟨_, rfl⟩
theorem bl_eq (x y d : D) (h : dEq x y = some d) : ∃ t, d = .bl t := by
 unfold dEq at h
 split at h
 ·cases h; exact ⟨_, rfl⟩
 ·cases h
theorem bl_ne (x y d : D) (h : dNe x y = some d) : ∃ t, d = .bl t := by
 unfold dNe at h
 split at h
 ·cases h; exact ⟨_, rfl⟩
 ·cases h
theorem st_lt (ha : SE X a ma) (hb : SE X b mb) : STt X (.Compare a [.Lt] [b] pos) (tTru (m2 dLt ma mb)) := zfR op_lt zeK zkn ha hb (zgX _)
theorem st_gt (ha : SE X a ma) (hb : SE X b mb) : STt X (.Compare a [.Gt] [b] pos) (tTru (m2 dGt ma mb)) := zfR op_gt zeK zkn ha hb (zgX _)
theorem st_ge (ha : SE X a ma) (hb : SE X b mb) : STt X (.Compare a [.GtE] [b] pos) (tTru (m2 dGe ma mb)) := zfR op_ge zeK zkn ha hb (zgX _)
theorem zb3 (hu : X.A.units + 64 < cLine) (ha : SE X a ma) (hb : SE X b mb) : STt X (.Compare a [.Eq] [b] pos) (tTru (m2 dEq ma mb)) := zfR (op_eqD hu) v2_eq bl_eq ha hb (zgX _)
theorem zm1 (hu : X.A.units + 64 < cLine) (ha : SE X a ma) (hb : SE X b mb) : STt X (.Compare a [.NotEq] [b] pos) (tTru (m2 dNe ma mb)) := zfR (op_neD hu) v2_ne bl_ne ha hb (zgX _)
end
noncomputable def STw (X : Cx) (e : Expr) (m : MT) : Prop :=
 ∃ t, PW X e t /\ ∀ B G H σ ρ d ρ' (Q : Bool -> Hp -> Prop), SI X.K B G H σ ρ -> m ρ = some (d, ρ') -> (∀ G' H', SI X.K B G' H' σ ρ' -> Fz G G' -> Q d H') -> t σ H Q
theorem STw.st (h : STw X e m) : STt X e m := let ⟨t, p, s⟩ := h; ⟨t, p.pt, s⟩
noncomputable def zl0 (a b : MT) : MT := fun ρ => (a ρ).bind fun p => if p.1 then b p.2 else some (false, p.2)
noncomputable def tOrM (a b : MT) : MT := fun ρ => (a ρ).bind fun p => if p.1 then some (true, p.2) else b p.2
noncomputable def zkl (a : MT) : MT := fun ρ => (a ρ).map fun p => (!p.1, p.2)
section
variable {X : Cx} {a b c : Expr} {ma mb : MT} {pos : Pos} {rest : List Expr}
theorem zmK (h : STt X a ma) : STw X (.BoolOp .And [a] pos) ma := let ⟨t, p, s⟩ := h; ⟨t, pw_and1 p, s⟩
theorem zhe (h : STt X a ma) : STw X (.BoolOp .Or [a] pos) ma := let ⟨t, p, s⟩ := h; ⟨t, pw_or1 p, s⟩
theorem sw_and (ha : STt X a ma) (hb : STw X (.BoolOp .And (b :: rest) pos) mb) : STw X (.BoolOp .And (a :: b :: rest) pos) (zl0 ma mb) := by
 obtain ⟨ta, pa, sa⟩ := ha
 obtain ⟨tb, pb, sb⟩ := hb
 refine ⟨_, pw_and pa pb, fun B G H σ ρ d ρ' Q I hm k => ?_⟩
 obtain ⟨⟨x, ρ1⟩, e1, e2⟩ := zah hm
 refine sa B G H σ ρ x ρ1 _ I e1 fun G1 H1 I1 f1 => ?_
 cases x with
 | true => exact sb B G1 H1 σ ρ1 d ρ' Q I1 e2 fun G2 H2 I2 f2 => k G2 H2 I2 (f1.trans f2)
 | false => cases e2; exact k G1 H1 I1 f1
theorem zjg (ha : STt X a ma) (hb : STw X (.BoolOp .Or (b :: rest) pos) mb) : STw X (.BoolOp .Or (a :: b :: rest) pos) (tOrM ma mb) := by
 obtain ⟨ta, pa, sa⟩ := ha
 obtain ⟨tb, pb, sb⟩ := hb
 refine ⟨_, pw_or pa pb, fun B G H σ ρ d ρ' Q I hm k => ?_⟩
 obtain ⟨⟨x, ρ1⟩, e1, e2⟩ := zah hm
 refine sa B G H σ ρ x ρ1 _ I e1 fun G1 H1 I1 f1 => ?_
 cases x with
 | false => exact sb B G1 H1 σ ρ1 d ρ' Q I1 e2 fun G2 H2 I2 f2 => k G2 H2 I2 (f1.trans f2)
 | true => cases e2; exact k G1 H1 I1 f1
theorem zjj (ha : STt X a ma) : STt X (.UnaryOp .Not a pos) (zkl ma) := by
 obtain ⟨ta, pa, sa⟩ := ha
 refine ⟨_, pt_not pa, fun B G H σ ρ d ρ' Q I hm k => ?_⟩
 obtain ⟨⟨x, ρ1⟩, e1, e2⟩ := zaH hm
 cases e2
 exact sa B G H σ ρ x ρ1 _ I e1 fun G1 H1 I1 f1 => k G1 H1 I1 f1
end
noncomputable def eAnd (a b : ME) : ME := fun ρ => (a ρ).bind fun p => match p.1 with
 | .bl true => b p.2
 | .bl false => some (.bl false, p.2)
 | _ => none
noncomputable def eOr (a b : ME) : ME := fun ρ => (a ρ).bind fun p => match p.1 with
 | .bl true => some (.bl true, p.2)
 | .bl false => b p.2
 | _ => none
noncomputable def dNot : D -> Option D
 | .bl b => some (.bl (!b))
 | _ => none
section
variable {X : Cx} {a b c : Expr} {ma mb : ME} {pos : Pos} {rest : List Expr} {op : BoolOp}
theorem zhG (h : SE X a ma) : SE X (.BoolOp op [a] pos) ma := let ⟨t, p, s⟩ := h; ⟨t, pe_one p, s⟩
theorem zhV (ha : SE X a ma) (hb : SE X (.BoolOp .And (b :: rest) pos) mb) : SE X (.BoolOp .And (a :: b :: rest) pos) (eAnd ma mb) := by
 obtain ⟨ta, pa, sa⟩ := ha
 obtain ⟨tb, pb, sb⟩ := hb
 refine ⟨_, pe_and pa pb, fun B G H σ ρ d ρ' Q I hm k => ?_⟩
 obtain ⟨⟨x, ρ1⟩, e1, e2⟩ := zah hm
 refine sa B G H σ ρ x ρ1 _ I e1 fun G1 H1 v I1 f1 r1 => ?_
 cases x <;> try cases e2
 rename_i y
 refine ⟨y, r1, ?_⟩
 cases y with
 | true => exact sb B G1 H1 σ ρ1 d ρ' Q I1 e2 fun G2 H2 v I2 f2 r2 => k G2 H2 v I2 (f1.trans f2) r2
 | false => cases e2; exact k G1 H1 _ I1 f1 rfl
theorem se_not (ha : SE X a ma) : SE X (.UnaryOp .Not a pos) (m1 dNot ma) := by
 obtain ⟨ta, pa, sa⟩ := ha
 refine ⟨_, pe_not pa, fun B G H σ ρ d ρ' Q I hm k => ?_⟩
 obtain ⟨x, e1, e2⟩ := m1_inv hm
 refine sa B G H σ ρ x ρ' _ I e1 fun G1 H1 v I1 f1 r1 => ?_
 cases x <;> simp only [dNot] at e2 <;> try cases e2
 exact ⟨_, r1, k G1 H1 _ I1 f1 rfl⟩
noncomputable def eIf (c : MT) (a b : ME) : ME := fun ρ => (c ρ).bind fun p => if p.1 then a p.2 else b p.2
theorem zeW (hc : STt X c mc) (ha : SE X a ma) (hb : SE X b mb) : SE X (.IfExp c a b pos) (eIf mc ma mb) := by
 obtain ⟨tc, pc, sc⟩ := hc
 obtain ⟨ta, pa, sa⟩ := ha
 obtain ⟨tb, pb, sb⟩ := hb
 refine ⟨_, pe_ifExp pc pa pb, fun B G H σ ρ d ρ' Q I hm k => ?_⟩
 obtain ⟨⟨x, ρ1⟩, e1, e2⟩ := zah hm
 refine sc B G H σ ρ x ρ1 _ I e1 fun G1 H1 I1 f1 => ?_
 cases x with
 | true => exact sa B G1 H1 σ ρ1 d ρ' Q I1 e2 fun G2 H2 v I2 f2 r2 => k G2 H2 v I2 (f1.trans f2) r2
 | false => exact sb B G1 H1 σ ρ1 d ρ' Q I1 e2 fun G2 H2 v I2 f2 r2 => k G2 H2 v I2 (f1.trans f2) r2
end
noncomputable def zgL (f g : D -> D -> Option D) (a b c : ME) : ME := fun ρ => (a ρ).bind fun p => (b p.2).bind fun q => (f p.1 q.1).bind fun t => match t with
 | .bl true => (c q.2).bind fun r => (g q.1 r.1).map fun d => (d, r.2)
 | .bl false => some (.bl false, q.2)
 | _ => none
section
variable {X : Cx} {a b c : Expr} {ma mb mc : ME} {pos : Pos}
theorem zhd {r r' : R2} {f g : D -> D -> Option D} {ta tb tc : TE} (hv : V2 X r f) (hw : V2 X r' g)
  (sa : ∀ B G H σ ρ d ρ' (Q : VK), SI X.K B G H σ ρ -> ma ρ = some (d, ρ') -> (∀ G' H' v, SI X.K B G' H' σ ρ' -> Fz G G' -> RepD X.K G' v d -> Q v H') -> ta σ H Q)
  (sb : ∀ B G H σ ρ d ρ' (Q : VK), SI X.K B G H σ ρ -> mb ρ = some (d, ρ') -> (∀ G' H' v, SI X.K B G' H' σ ρ' -> Fz G G' -> RepD X.K G' v d -> Q v H') -> tb σ H Q)
  (sc : ∀ B G H σ ρ d ρ' (Q : VK), SI X.K B G H σ ρ -> mc ρ = some (d, ρ') -> (∀ G' H' v, SI X.K B G' H' σ ρ' -> Fz G G' -> RepD X.K G' v d -> Q v H') -> tc σ H Q) :
  ∀ B G H σ ρ d ρ' (Q : VK), SI X.K B G H σ ρ -> zgL f g ma mb mc ρ = some (d, ρ') -> (∀ G' H' v, SI X.K B G' H' σ ρ' -> Fz G G' -> RepD X.K G' v d -> Q v H') -> zmp r r' ta tb tc σ H Q := by
 intro B G H σ ρ d ρ' Q I hm k
 obtain ⟨⟨x, ρ1⟩, e1, h1⟩ := zah hm
 obtain ⟨⟨y, ρ2⟩, e2, h2⟩ := zah h1
 obtain ⟨t, e3, h3⟩ := zah h2
 refine sa B G H σ ρ x ρ1 _ I e1 fun G1 H1 v I1 f1 r1 => sb B G1 H1 σ ρ1 y ρ2 _ I1 e2 fun G2 H2 u I2 f2 r2 => hv B G2 H2 σ ρ2 v u x y t _ I2 (r1.mono f2) r2 e3 fun G3 H3 z I3 f3 r3 => ?_
 cases t <;> try cases h3
 rename_i t
 refine ⟨t, r3, ?_⟩
 cases t with
 | true =>
  obtain ⟨⟨w, ρ3⟩, e4, h4⟩ := zah h3
  obtain ⟨d', e5, e6⟩ := zaH h4
  cases e6
  exact sc B G3 H3 σ ρ2 w ρ3 _ I3 e4 fun G4 H4 s I4 f4 r4 => hw B G4 H4 σ ρ3 u s y w d Q I4 (r2.mono (f3.trans f4)) r4 e5 fun G5 H5 z5 I5 f5 r5 => k G5 H5 z5 I5 (f1.trans (f2.trans (f3.trans (f4.trans f5)))) r5
 | false => cases h3; exact k G3 H3 _ I3 (f1.trans (f2.trans f3)) rfl
theorem zk2 {r r' : R2} {f g : D -> D -> Option D} (ho : OpR X (compareOp op) r) (ho' : OpR X (compareOp op') r') (hv : V2 X r f) (hw : V2 X r' g) (ha : SE X a ma) (hb : SE X b mb) (hc : SE X c mc)
  (hm : lastMarks [op, op'] [b, c] = false := by with_unfolding_all rfl) : SE X (.Compare a [op, op'] [b, c] pos) (zgL f g ma mb mc) := by
 obtain ⟨ta, pa, sa⟩ := ha
 obtain ⟨tb, pb, sb⟩ := hb
 obtain ⟨tc, pc, sc⟩ := hc
 exact ⟨_, pe_chain ho ho' pa pb pc hm, zhd hv hw sa sb sc⟩
theorem st_chain {r r' : R2} {f g : D -> D -> Option D} (ho : OpR X (compareOp op) r) (ho' : OpR X (compareOp op') r') (hv : V2 X r f) (hw : V2 X r' g) (hB : ∀ x y d, g x y = some d -> ∃ t, d = .bl t) (ha : SE X a ma) (hb : SE X b mb) (hc : SE X c mc)
  (hm : lastMarks [op, op'] [b, c] = false := by with_unfolding_all rfl) : STt X (.Compare a [op, op'] [b, c] pos) (tTru (zgL f g ma mb mc)) := by
 obtain ⟨ta, pa, sa⟩ := ha
 obtain ⟨tb, pb, sb⟩ := hb
 obtain ⟨tc, pc, sc⟩ := hc
 refine ⟨_, pt_chain ho ho' pa pb pc hm, fun B G H σ ρ d ρ' Q I hm k => ?_⟩
 obtain ⟨⟨x, ρ1⟩, e1, e2⟩ := zah hm
 obtain ⟨t, e3, e4⟩ := zaH e2
 obtain ⟨rfl, rfl⟩ := Prod.mk.inj e4
 have hx : ∃ t', x = .bl t' := by
  obtain ⟨⟨x', ρ1'⟩, _, h1⟩ := zah e1
  obtain ⟨⟨y', ρ2'⟩, _, h2⟩ := zah h1
  obtain ⟨t', et', h3⟩ := zah h2
  clear et'
  cases t' <;> try cases h3
  rename_i t'
  cases t' with
  | true =>
   obtain ⟨⟨w, ρ3⟩, e4, h4⟩ := zah h3
   obtain ⟨d', e5, e6⟩ := zaH h4
   cases e6
   exact hB _ _ _ e5
  | false => cases h3; exact ⟨_, rfl⟩
 obtain ⟨t', rfl⟩ := hx
 obtain rfl : t' = t := Option.some.inj e3
 refine zhd hv hw sa sb sc B G H σ ρ (.bl t') ρ1 _ I e1 fun G1 H1 v I1 f1 r1 => ?_
 cases (show v = V.bl t' from r1)
 exact ⟨t', rfl, k G1 H1 I1 f1⟩
end
inductive Fl where
 | next | brk | cont | ret (r : Sl)
noncomputable abbrev MS := R -> Option (Fl × R)
noncomputable def ResOk (K : W.Frag) (B : Bs) (G H : Hp) (v : V) : Sl -> Prop
 | .val d => RepD K G v d
 | .own ds => ∃ l xs, v = .ref l /\ G l = none /\ H l = some (.lst xs) /\ RepL K G xs ds /\ B.H l = none
 | .tre t => ∃ A, RepT K G H v t A /\ A.Nodup /\ ∀ a ∈ A, G a = none /\ B.H a = none
 | .two ds es => ∃ t l xs m ys, v = .ref t /\ H t = some (.tup [.ref l, .ref m]) /\ l ≠ m /\ G l = none /\ H l = some (.lst xs) /\ RepL K G xs ds /\ B.H l = none /\ G m = none /\ H m = some (.lst ys) /\ RepL K G ys es /\ B.H m = none
 | _ => False
noncomputable def Post (K : W.Frag) (B : Bs) (G : Hp) (E : Ends) (fl : Fl) (ρ' : R) : Prop := match fl with
 | .next => ∀ G' H' σ', SI K B G' H' σ' ρ' -> Fz G G' -> E.nx σ' H'
 | .brk => ∀ G' H' σ', SI K B G' H' σ' ρ' -> Fz G G' -> E.bk σ' H'
 | .cont => ∀ G' H' σ', SI K B G' H' σ' ρ' -> Fz G G' -> E.ct σ' H'
 | .ret r => ∀ G' H' σ' v, SI K B G' H' σ' ρ' -> Fz G G' -> ResOk K B G' H' v r -> E.rt v H'
theorem Post.mono {G G1 : Hp} {E : Ends} {fl : Fl} (h : Post K B G E fl ρ') (f : Fz G G1) : Post K B G1 E fl ρ' := by
 cases fl with
 | next => exact fun G' H' σ' I g => h G' H' σ' I (f.trans g)
 | brk => exact fun G' H' σ' I g => h G' H' σ' I (f.trans g)
 | cont => exact fun G' H' σ' I g => h G' H' σ' I (f.trans g)
 | ret r => exact fun G' H' σ' v I g => h G' H' σ' v I (f.trans g)
noncomputable def SS (X : Cx) (st : Stmt) (m : MS) : Prop := ∃ t, PS X st t /\ ∀ B G H σ ρ fl ρ' (E : Ends), SI X.K B G H σ ρ -> m ρ = some (fl, ρ') -> Post X.K B G E fl ρ' -> t E σ H
noncomputable def SSs (X : Cx) (st : List Stmt) (m : MS) : Prop := ∃ t, PSs X st t /\ ∀ B G H σ ρ fl ρ' (E : Ends), SI X.K B G H σ ρ -> m ρ = some (fl, ρ') -> Post X.K B G E fl ρ' -> t E σ H
noncomputable def zbg : MS := fun ρ => some (.next, ρ)
noncomputable def sSeq (a b : MS) : MS := fun ρ => (a ρ).bind fun p => match p.1 with
 | .next => b p.2
 | f => some (f, p.2)
section
variable {X : Cx} {st : Stmt} {rest : List Stmt} {m n : MS} {e : Expr} {me : ME} {pos : Pos}
theorem zaz : SSs X [] zbg := ⟨_, pss_nil, fun B G H σ ρ fl ρ' E I hm k => by cases hm; exact k G H σ I (Fz.refl G)⟩
theorem zan (h : SS X st m) : SSs X [st] m := let ⟨t, p, s⟩ := h; ⟨t, pss_one p, s⟩
theorem zag (h : SS X st m) (hr : SSs X rest n) : SSs X (st :: rest) (sSeq m n) := by
 obtain ⟨t, p, s⟩ := h
 obtain ⟨u, q, z⟩ := hr
 refine ⟨_, pss_cons p q, fun B G H σ ρ fl ρ' E I hm k => ?_⟩
 obtain ⟨⟨f, ρ1⟩, e1, e2⟩ := zah hm
 refine s B G H σ ρ f ρ1 _ I e1 ?_
 cases f with
 | next => exact fun G1 H1 σ1 I1 f1 => z B G1 H1 σ1 ρ1 fl ρ' E I1 e2 (k.mono f1)
 | brk => cases e2; exact k
 | cont => cases e2; exact k
 | ret r => cases e2; exact k
noncomputable def sRet (m : ME) : MS := fun ρ => (m ρ).map fun p => (.ret (.val p.1), p.2)
theorem zax (h : SE X e me) : SS X (.Return (some e) pos) (sRet me) := by
 obtain ⟨t, p, s⟩ := h
 refine ⟨_, zl5 p, fun B G H σ ρ fl ρ' E I hm k => ?_⟩
 obtain ⟨⟨d, ρ1⟩, e1, e2⟩ := zaH hm
 cases e2
 exact s B G H σ ρ d ρ1 _ I e1 fun G1 H1 v I1 f1 r1 => k G1 H1 σ v I1 f1 r1
noncomputable def zj7 (m : MO) : MS := fun ρ => (m ρ).map fun p => (.ret (.own p.1), p.2)
theorem zhF {mo : MO} (h : SO X e mo) : SS X (.Return (some e) pos) (zj7 mo) := by
 obtain ⟨t, p, s⟩ := h
 refine ⟨_, zl5 p, fun B G H σ ρ fl ρ' E I hm k => ?_⟩
 obtain ⟨⟨d, ρ1⟩, e1, e2⟩ := zaH hm
 cases e2
 exact s B G H σ ρ d ρ1 _ I e1 fun G1 H1 l xs I1 f1 g1 h1 r1 b1 _ => k G1 H1 σ _ I1 f1 ⟨l, xs, rfl, g1, h1, r1, b1⟩
theorem SI.emp (I : SI K B G H σ ρ) (i : Nat) : SI K B G H σ (ρ.set i .emp) := by
 by_cases hi : i < ρ.length
 ·have hs : σ[i]? = some (σ[i]'(by rw [I.len]; exact hi)) := List.getElem?_eq_getElem _
  have h := I.chg (i := i) (ov := σ[i]'(by rw [I.len]; exact hi)) (s' := .emp) I.fz (Fz.refl G) I.new I.keep I.there (fun _ _ _ _ _ _ g _ => ⟨g, rfl, id⟩) trivial
  rwa [ziX hs] at h
 ·rw [List.set_eq_of_length_le (by lia)]; exact I
noncomputable def zix (i : Nat) : MS := fun ρ => match ρ[i]? with
 | some (.val d) => some (.ret (.val d), ρ)
 | some (.own ds) => some (.ret (.own ds), ρ.set i .emp)
 | _ => none
theorem zgA (i : Nat) (hN : X.N[i]? = some x := by rfl) (hv : Vis X.env.scope x := by first | exact Or.inl rfl | exact Or.inr (Or.inl rfl) | exact Or.inr (Or.inr rfl)) (hd : (x == ("__debug__" : Str)) = false := by decide)
  (hcd : (x == ("__classdict__" : Str)) = false := by decide) : SS X (.Return (some (.Name x pos')) pos) (zix i) := by
 refine ⟨_, zl5 (zea hN hv hd hcd), fun B G H σ ρ fl ρ' E I hm k => ?_⟩
 unfold zix at hm
 cases e : ρ[i]? with
 | none => rw [e] at hm; cases hm
 | some s =>
  rw [e] at hm
  have h := I.slot i s e
  cases s with
  | emp => cases hm
  | two _ _ => cases hm
  | tre _ => cases hm
  | ptr _ => cases hm
  | par ds => cases hm
  | val d => cases hm; obtain ⟨v, h1, h2⟩ := h; exact ⟨v, h1, k G H σ v I (Fz.refl G) h2⟩
  | own ds =>
   cases hm
   obtain ⟨l, xs, h1, h2, h3, h4, h5⟩ := h
   exact ⟨.ref l, h1, k G H σ _ (I.emp i) (Fz.refl G) ⟨l, xs, rfl, h2, h3, h4, h5⟩⟩
noncomputable def sIf (c : MT) (a b : MS) : MS := fun ρ => (c ρ).bind fun p => if p.1 then a p.2 else b p.2
theorem zbl {c : Expr} {a b : List Stmt} {ma mb : MS} (hc : STt X c mc) (ha : SSs X a ma) (hb : SSs X b mb) : SS X (.If c a b pos) (sIf mc ma mb) := by
 obtain ⟨tc, pc, sc⟩ := hc
 obtain ⟨ta, pa, sa⟩ := ha
 obtain ⟨tb, pb, sb⟩ := hb
 refine ⟨_, ps_if pc pa pb, fun B G H σ ρ fl ρ' E I hm k => ?_⟩
 obtain ⟨⟨x, ρ1⟩, e1, e2⟩ := zah hm
 refine sc B G H σ ρ x ρ1 _ I e1 fun G1 H1 I1 f1 => ?_
 cases x with
 | true => exact sa B G1 H1 σ ρ1 fl ρ' E I1 e2 (k.mono f1)
 | false => exact sb B G1 H1 σ ρ1 fl ρ' E I1 e2 (k.mono f1)
end
noncomputable def SG (X : Cx) (tg : Expr) (g : D -> R -> Option R) : Prop := ∃ t, PG X tg t /\ ∀ B G H σ ρ v d ρ' (Q : St -> Hp -> Prop), SI X.K B G H σ ρ -> RepD X.K G v d -> g d ρ = some ρ' -> (∀ G' H' σ', SI X.K B G' H' σ' ρ' -> Fz G G' -> Q σ' H') -> t v σ H Q
noncomputable def SGs (X : Cx) (tgs : List Expr) (g : List D -> R -> Option R) : Prop := ∃ t, PGs X tgs t /\ ∀ B G H σ ρ vs ds ρ' (Q : St -> Hp -> Prop), SI X.K B G H σ ρ -> RepL X.K G vs ds -> g ds ρ = some ρ' -> (∀ G' H' σ', SI X.K B G' H' σ' ρ' -> Fz G G' -> Q σ' H') -> t vs σ H Q
noncomputable def gN (i : Nat) : D -> R -> Option R := fun d ρ => some (ρ.set i (.val d))
noncomputable def zcs : List D -> R -> Option R := fun ds ρ => match ds with
 | [] => some ρ
 | _ => none
noncomputable def zas (g : D -> R -> Option R) (h : List D -> R -> Option R) : List D -> R -> Option R := fun ds ρ => match ds with
 | d :: ds => (g d ρ).bind fun ρ1 => h ds ρ1
 | [] => none
noncomputable def gT (n : Nat) (g : List D -> R -> Option R) : D -> R -> Option R := fun d ρ => match d with
 | .tup ds => if ds.length = n then g ds ρ else none
 | _ => none
section
variable {X : Cx} {pos : Pos}
theorem zam (i : Nat) (hN : X.N.Nodup) (hi : X.N[i]? = some x := by rfl) (hx : Loc X.env.scope x := by first | exact Or.inl rfl | exact Or.inr rfl) (hf : X.fn x = true \/ X.env.scope.names.lookup x = some .local := by first | exact Or.inl rfl | exact Or.inr rfl) : SG X (.Name x pos) (gN i) :=
 ⟨_, zlC hN hi hx hf, fun B G H σ ρ v d ρ' Q I r hm k => by cases hm; exact k G H _ (I.set r) (Fz.refl G)⟩
theorem za0 : SGs X [] zcs := ⟨_, pgs_nil, fun B G H σ ρ vs ds ρ' Q I r hm k => by
 cases ds with
 | nil => cases hm; exact ⟨r, k G H σ I (Fz.refl G)⟩
 | cons => cases hm⟩
theorem zao {e : Expr} (h1 : SG X e g) (h2 : SGs X es h) (hs : (assignEach (e :: es) X.env).map (·.2) = assign e X.env :: (assignEach es X.env).map (·.2) := by rfl) : SGs X (e :: es) (zas g h) := by
 obtain ⟨t, p, s⟩ := h1
 obtain ⟨u, q, z⟩ := h2
 refine ⟨_, pgs_cons p q hs, fun B G H σ ρ vs ds ρ' Q I r hm k => ?_⟩
 cases ds with
 | nil => cases hm
 | cons d ds =>
  obtain ⟨x, ys, rfl, rx, ry⟩ := r
  obtain ⟨ρ1, e1, e2⟩ := zah hm
  exact ⟨x, ys, rfl, s B G H σ ρ x d ρ1 _ I rx e1 fun G1 H1 σ1 I1 f1 => z B G1 H1 σ1 ρ1 ys ds ρ' Q I1 (ry.mono f1) e2 fun G2 H2 σ2 I2 f2 => k G2 H2 σ2 I2 (f1.trans f2)⟩
theorem zbu {g : List D -> R -> Option R} (hc : X.calm = true) (h : SGs X es g) (hn : (assignEach es X.env).length = n := by rfl) (hst : (assignEach es X.env).findIdx? (·.1) = none := by rfl) : SG X (.Tuple es k pos) (gT n g) := by
 obtain ⟨t, p, s⟩ := h
 refine ⟨_, pg_tup hc p hn hst, fun B G H σ ρ v d ρ' Q I r hm k => ?_⟩
 cases d <;> try cases hm
 rename_i ds
 simp only [gT] at hm
 split at hm
 ·rename_i hl
  obtain ⟨a, xs, e, ha, rx⟩ := I.tup r
  exact ⟨a, xs, e, SqT.of ha, by rw [rx.length]; exact hl, s B G H σ ρ xs ds ρ' Q I rx hm k⟩
 ·cases hm
variable {e tg : Expr} {me : ME} {mo : MO}
noncomputable def sAsg (m : ME) (g : D -> R -> Option R) : MS := fun ρ => (m ρ).bind fun p => (g p.1 p.2).map fun ρ' => (.next, ρ')
theorem zhS (he : SE X e me) (hg : SG X tg g) (hs : swapsWithSole [tg] e pos.line X.env = pure false := by rfl) (hw : swappedStores [tg] e X.env = pure none := by rfl)
  (h1 : (assignEach [tg] X.env).map (·.2) = [assign tg X.env] := by rfl) : SS X (.Assign [tg] e pos) (sAsg me g) := by
 obtain ⟨t, p, s⟩ := he
 obtain ⟨u, q, z⟩ := hg
 refine ⟨_, zm7 p q hs hw h1, fun B G H σ ρ fl ρ' E I hm k => ?_⟩
 obtain ⟨⟨d, ρ1⟩, e1, h2⟩ := zah hm
 obtain ⟨ρ2, e2, e3⟩ := zaH h2
 obtain ⟨rfl, rfl⟩ := Prod.mk.inj e3
 exact s B G H σ ρ d ρ1 _ I e1 fun G1 H1 v I1 f1 r1 => z B G1 H1 σ ρ1 v d ρ2 _ I1 r1 e2 fun G2 H2 σ2 I2 f2 => k G2 H2 σ2 I2 (f1.trans f2)
noncomputable def sSet (i : Nat) (m : ME) : MS := fun ρ => (m ρ).map fun p => (.next, p.2.set i (.val p.1))
theorem zar (i : Nat) (he : SE X e me) (hN : X.N.Nodup) (hi : X.N[i]? = some x := by rfl) (hx : Loc X.env.scope x := by first | exact Or.inl rfl | exact Or.inr rfl) (hs : swapsWith e (some (.Name x pos')) pos.line X.env = pure false := by rfl)
    (hf : X.fn x = true \/ X.env.scope.names.lookup x = some .local := by first | exact Or.inl rfl | exact Or.inr rfl) : SS X (.Assign [.Name x pos'] e pos) (sSet i me) := by
  obtain ⟨t, p, s⟩ := he
  refine ⟨_, zlT hN hi hx p hs hf, fun B G H σ ρ fl ρ' E I hm k => ?_⟩
  obtain ⟨⟨d, ρ1⟩, e1, e3⟩ := zaH hm
  cases e3
  exact s B G H σ ρ d ρ1 _ I e1 fun G1 H1 v I1 f1 r1 => k G1 H1 _ (I1.set r1) f1
noncomputable def zeY (i : Nat) (m : MO) : MS := fun ρ => (m ρ).map fun p => (.next, p.2.set i (.own p.1))
theorem zbM (i : Nat) (he : SO X e mo) (hN : X.N.Nodup) (hi : X.N[i]? = some x := by rfl) (hx : Loc X.env.scope x := by first | exact Or.inl rfl | exact Or.inr rfl) (hs : swapsWith e (some (.Name x pos')) pos.line X.env = pure false := by rfl)
    (hf : X.fn x = true \/ X.env.scope.names.lookup x = some .local := by first | exact Or.inl rfl | exact Or.inr rfl) : SS X (.Assign [.Name x pos'] e pos) (zeY i mo) := by
  obtain ⟨t, p, s⟩ := he
  refine ⟨_, zlT hN hi hx p hs hf, fun B G H σ ρ fl ρ' E I hm k => ?_⟩
  obtain ⟨⟨d, ρ1⟩, e1, e3⟩ := zaH hm
  cases e3
  exact s B G H σ ρ d ρ1 _ I e1 fun G1 H1 l xs I1 f1 g1 h1 r1 b1 n1 => k G1 H1 _ (I1.setO g1 h1 r1 b1 n1) f1
noncomputable def sApp (i : Nat) (m : ME) : MS := fun ρ => if (ρ[i]?.bind Sl.items).isSome then (m ρ).bind fun p => p.2[i]?.bind fun s => s.items.bind fun ds => if ds.length < 16777216 then some (.next, p.2.set i (s.put (ds ++ [p.1]))) else none else none
theorem zh6 (i : Nat) {pos' apos cpos : Pos} (he : SE X e me) (hN : X.N[i]? = some x := by rfl) (hv : Vis X.env.scope x := by first | exact Or.inl rfl | exact Or.inr (Or.inl rfl) | exact Or.inr (Or.inr rfl)) (hd : (x == ("__debug__" : Str)) = false := by decide)
  (hcd : (x == ("__classdict__" : Str)) = false := by decide)
  (hbase : attributeBase (.Name x pos') "append" X.env (eval (.Name x pos') X.env) = eval (.Name x pos') X.env := by rfl)
  (hfew : ((backTo cpos (starEach [e] X.env)).all (fun x => !x.1) && (backToKw cpos (keywordEach [] X.env)).all (fun x => x.1.isSome)
   && decide ([e].length + ([] : List Keyword).length + (if ([] : List Keyword).isEmpty then 0 else 1) < 30)) = true := by rfl)
  (hline : (apos.endLine == cpos.line) = true := by rfl) (hs : starEach [e] X.env = (false, eval e X.env) :: starEach [] X.env := by rfl) : SS X (.Expr (.Call (.Attribute (.Name x pos') "append" apos) [e] [] cpos) pos) (sApp i me) := by
 obtain ⟨t, p, s⟩ := he
 refine ⟨_, ps_expr (pe_bm PySem.F.plainAttrs_list PySem.F.slot_list_append PySem.F.type_list_append ziS (zea hN hv hd hcd) (zem p zjh hs) hbase hfew hline hs rfl) (by rfl), fun B G H σ ρ fl ρ' E I hm k => ?_⟩
 unfold sApp at hm
 split at hm
 ·rename_i hso
  obtain ⟨ds0, hso⟩ := Option.isSome_iff_exists.mp hso
  obtain ⟨s0, e0, q0⟩ := zah hso
  obtain ⟨l, xs0, h1, h2, h3, h4⟩ := I.wr e0 q0
  obtain ⟨⟨d, ρ1⟩, e1, hm⟩ := zah hm
  obtain ⟨s1, e2, hm⟩ := zah hm
  obtain ⟨ds, e3, hm⟩ := zah hm
  split at hm
  ·rename_i hl
   cases hm
   refine ⟨.ref l, h1, .inl ⟨rfl, _, SqL.of h3⟩, s B G H σ ρ d ρ1 _ I e1 fun G1 H1 v I1 f1 r1 => ?_⟩
   obtain ⟨l', xs, k1, k2, k3, k4⟩ := I1.wr e2 e3
   rw [h1] at k1; cases k1
   refine ⟨l, xs, v, rfl, rfl, k3, by rw [k4.length, sizeLine_eq]; exact hl, ?_⟩
   exact k G1 _ σ (I1.write e2 e3 h1 (k4.snoc r1)) f1
  ·cases hm
 ·cases hm
noncomputable def sPut (j : Nat) (mi me : ME) : MS := fun ρ => (me ρ).bind fun p => if hasV p.2 j then (mi p.2).bind fun q => match q.1 with
 | .int k => q.2[j]?.bind fun s => s.items.bind fun ds => (ixN ds.length k).bind fun n => some (.next, q.2.set j (s.put (ds.set n p.1)))
 | _ => none else none
theorem zf2 (j : Nat) {i : Expr} {mi : ME} {pos' tpos : Pos} (he : SE X e me) (hi : SE X i mi) (hN : X.N[j]? = some x := by rfl) (hv : Vis X.env.scope x := by first | exact Or.inl rfl | exact Or.inr (Or.inl rfl) | exact Or.inr (Or.inr rfl)) (hd : (x == ("__debug__" : Str)) = false := by decide)
  (hcd : (x == ("__classdict__" : Str)) = false := by decide)
  (ha : ∀ v, assign (.Subscript (.Name x pos') i tpos) X.env v = (do
   let ov <- holding [v] (eval (.Name x pos') X.env)
   let iv <- holding [v, ov] (eval i X.env)
   standAt tpos
   holding [v, ov, iv] (setItem ov iv v)
   release [v, ov, iv] []) := by exact fun _ => rfl)
  (hs : swapsWithSole [.Subscript (.Name x pos') i tpos] e pos.line X.env = pure false := by rfl) (hw : swappedStores [.Subscript (.Name x pos') i tpos] e X.env = pure none := by rfl)
  (h1 : (assignEach [.Subscript (.Name x pos') i tpos] X.env).map (·.2) = [assign (.Subscript (.Name x pos') i tpos) X.env] := by rfl) : SS X (.Assign [.Subscript (.Name x pos') i tpos] e pos) (sPut j mi me) := by
 obtain ⟨t, p, s⟩ := he
 obtain ⟨u, q, z⟩ := hi
 refine ⟨_, zm7 p (pg_sub (zea hN hv hd hcd) q set_list ha) hs hw h1, fun B G H σ ρ fl ρ' E I hm k => ?_⟩
 obtain ⟨⟨d, ρ1⟩, e1, hm⟩ := zah hm
 refine s B G H σ ρ d ρ1 _ I e1 fun G1 H1 v I1 f1 r1 => ?_
 split at hm
 ·rename_i hh
  obtain ⟨w, ew⟩ := I1.has hh
  obtain ⟨⟨kd, ρ2⟩, e2, hm⟩ := zah hm
  cases kd <;> try cases hm
  rename_i kk
  obtain ⟨s2, e3, hm⟩ := zah hm
  obtain ⟨ds, e4, hm⟩ := zah hm
  obtain ⟨n, e5, hm⟩ := zah hm
  cases hm
  refine ⟨w, ew, z B G1 H1 σ ρ1 (.int kk) ρ2 _ I1 e2 fun G2 H2 y I2 f2 r2 => ?_⟩
  obtain ⟨l, xs, k1, k2, k3, k4⟩ := I2.wr e3 e4
  rw [ew] at k1; cases k1
  refine ⟨l, xs, kk, n, rfl, r2, k3, by rw [k4.length]; exact e5, ?_⟩
  exact k G2 _ σ (I2.write e3 e4 ew (k4.set n (r1.mono f2))) (f1.trans f2)
 ·cases hm
end
structure Itm (K : W.Frag) (J : It) (G : Hp) (items : List D) : Prop where
 go : ∀ H i, Fz G H -> i < items.length -> J.go i H
 yld : ∀ H i x H', Fz G H -> J.yld i H x H' -> ∀ d, items[i]? = some d -> (H' = H /\ RepD K G x d) \/ ∃ p xs ds, H p = none /\ H' = upd H p (.tup xs) /\ x = .ref p /\ d = .tup ds /\ RepL K G xs ds
 stop : ∀ H i, Fz G H -> items.length <= i -> J.stop i H
noncomputable def SIt (X : Cx) (tg it : Expr) (m : MA) : Prop := ∃ wi, PI X tg it wi /\ ∀ B G H σ ρ ds ρ' (Q : It -> Hp -> Prop), SI X.K B G H σ ρ -> m ρ = some (ds, ρ') -> (∀ J G' H', SI X.K B G' H' σ ρ' -> Fz G G' -> Itm X.K J G' ds -> Q J H') -> wi σ H Q
noncomputable def forM (f : D -> R -> Option (Fl × R)) : List D -> R -> Option (Fl × R)
 | [], ρ => some (.next, ρ)
 | d :: ds, ρ => (f d ρ).bind fun p => match p.1 with
  | .next => forM f ds p.2
  | .cont => forM f ds p.2
  | .brk => some (.next, p.2)
  | .ret r => some (.ret r, p.2)
noncomputable def sFor (mi : MA) (g : D -> R -> Option R) (mb : MS) : MS := fun ρ => (mi ρ).bind fun p => forM (fun d ρ => (g d ρ).bind fun ρ' => mb ρ') p.1 p.2
theorem SI.yld {x : V} (I : SI K B G H σ ρ)
  (h : (H' = H /\ RepD K G x d) \/ ∃ p xs ds, H p = none /\ H' = upd H p (.tup xs) /\ x = .ref p /\ d = .tup ds /\ RepL K G xs ds) : ∃ G', SI K B G' H' σ ρ /\ Fz G G' /\ RepD K G' x d := by
 rcases h with ⟨rfl, r⟩ | ⟨p, xs, ds, hp, rfl, rfl, rfl, r⟩
 ·exact ⟨G, I, Fz.refl G, r⟩
 ·obtain ⟨I2, f2, r2⟩ := I.newT hp r
  exact ⟨_, I2, f2, r2⟩
theorem zck {tg it : Expr} {mi : MA} {mb : MS} (hp : PassesOwn (model X.prog X.w) X.A X.env X.xe) (hc : X.calm = true) (hi : SIt X tg it mi) (hg : SG X tg g) (hb : SSs X body mb)
    (hs : ∀ x, foldedSetIterable it X.env x = pure x := by exact fun _ => rfl) : SS X (.For tg it body [] pos) (sFor mi g mb) := by
  obtain ⟨wi, pi, si⟩ := hi
  obtain ⟨tg', pg, sg⟩ := hg
  obtain ⟨tb, pb, sb⟩ := hb
  refine ⟨_, ps_for hp hc pi pg pb hs, fun B G H σ ρ fl ρ' E I hm k => ?_⟩
  obtain ⟨⟨ds, ρ1⟩, e1, hm⟩ := zah hm
  refine si B G H σ ρ ds ρ1 _ I e1 fun J G1 H1 I1 f1 IT => ?_
  refine ⟨fun i m σ H => m = ds.length - i /\ i <= ds.length /\ ∃ G2 ρ2, SI X.K B G2 H σ ρ2 /\ Fz G1 G2 /\ forM (fun d ρ => (g d ρ).bind fun ρ' => mb ρ') (ds.drop i) ρ2 = some (fl, ρ'), ⟨ds.length, by simp, Nat.zero_le _, G1, ρ1, I1, Fz.refl _, by simpa using hm⟩, ?_⟩
  rintro i m σ2 H2 ⟨rfl, hi, G2, ρ2, I2, f2, e2⟩
  by_cases hlt : i < ds.length
  . rw [List.drop_eq_getElem_cons hlt] at e2
    simp only [forM] at e2
    obtain ⟨⟨f, ρ3⟩, e3, e4⟩ := zah e2
    obtain ⟨ρ2', e5, e6⟩ := zah e3
    have fz2 : Fz G1 H2 := f2.trans I2.fz
    refine .inr ⟨IT.go H2 i fz2 hlt, fun σ' H' => (∃ G3, SI X.K B G3 H' σ' ρ3 /\ Fz G1 G3) /\ (f = .next \/ f = .cont), ?_, fun x H' y => ?_⟩
    . rintro σ' H' ⟨⟨G3, I3, f3⟩, hf⟩
      refine ⟨ds.length - (i + 1), by lia, rfl, hlt, G3, ρ3, I3, f3, ?_⟩
      rcases hf with rfl | rfl <;> exact e4
    . have yy := IT.yld H2 i x H' fz2 y ds[i] (List.getElem?_eq_getElem hlt)
      have yy2 : (H' = H2 /\ RepD X.K G2 x ds[i]) \/ ∃ p xs es, H2 p = none /\ H' = upd H2 p (.tup xs) /\ x = .ref p /\ ds[i] = .tup es /\ RepL X.K G2 xs es := by
        rcases yy with ⟨a, b⟩ | ⟨p, xs, es, a, b, c, d, e⟩
        . exact .inl ⟨a, b.mono f2⟩
        . exact .inr ⟨p, xs, es, a, b, c, d, e.mono f2⟩
      obtain ⟨G3, I3, f3, r3⟩ := I2.yld yy2
      refine sg B G3 H' σ2 ρ2 x ds[i] ρ2' _ I3 r3 e5 fun G4 H4 σ4 I4 f4 => sb B G4 H4 σ4 ρ2' f ρ3 _ I4 e6 ?_
      have ff : Fz G1 G4 := f2.trans (f3.trans f4)
      cases f with
      | next => exact fun G5 H5 σ5 I5 f5 => ⟨⟨G5, I5, ff.trans f5⟩, .inl rfl⟩
      | cont => exact fun G5 H5 σ5 I5 f5 => ⟨⟨G5, I5, ff.trans f5⟩, .inr rfl⟩
      | brk => cases e4; exact fun G5 H5 σ5 I5 f5 => k G5 H5 σ5 I5 (f1.trans (ff.trans f5))
      | ret r => cases e4; exact fun G5 H5 σ5 v I5 f5 => k G5 H5 σ5 v I5 (f1.trans (ff.trans f5))
  . have e : i = ds.length := by lia
    subst e
    rw [List.drop_length] at e2
    cases e2
    exact .inl ⟨IT.stop H2 _ (f2.trans I2.fz) (Nat.le_refl _), k G2 H2 σ2 I2 (f1.trans f2)⟩
section
variable {X : Cx} {tg it : Expr} {me : ME}
noncomputable def iSeq (m : ME) : MA := fun ρ => (m ρ).bind fun p => (zaN [p.1]).map fun ds => (ds, p.2)
theorem pi_or {l : Expr} {tl : TE} (hl : PE X l tl) : PI X tg l (fun σ H R => tl σ H fun x H1 => ∃ a, x = .ref a /\ (((∃ xs, SqL X.K H1 a xs) /\ R (Itl X.K a) H1) \/ ((∃ xs, SqT X.K H1 a xs) /\ R (Itt X.K a) H1))) := by
 intro pins s σ H R I h
 refine thn (hl pins s σ H _ I h) fun v s1 ⟨x, H1, I1, r1, q1⟩ => ?_
 obtain ⟨a, e, q⟩ := q1
 subst e
 cases r1
 rcases q with ⟨⟨xs, hq⟩, q⟩ | ⟨⟨xs, hq⟩, q⟩
 ·obtain ⟨its, rv, p, hz⟩ := I1.list hq
  refine wpAny_pyIter_list p.isList ?_
  refine ⟨s1.heap.objs.size, [s1.heap.objs.size], _, _, H1, rfl, I1.kept (t' := s1.toks) fun b o e => Heap.get?_push_of_some _ e, zlG a _, ⟨_, Heap.get?_push_size _ rfl, rfl, rfl⟩, fun b hb => ?_, q⟩
  have e : b = s1.heap.objs.size := by simpa using hb
  subst e
  exact I1.fpOk (Nat.le_refl _) (I1.hok.fresh (Nat.le_refl _))
 ·obtain ⟨its, rv, p, hz⟩ := I1.tuple hq
  refine wpAny_pyIter_tuple (show s1.heap.IsTuple a its.toArray from p) ?_
  refine ⟨s1.heap.objs.size, [s1.heap.objs.size], _, _, H1, rfl, I1.kept (t' := s1.toks) fun b o e => Heap.get?_push_of_some _ e, zlk a _, ⟨_, Heap.get?_push_size _ rfl, rfl, rfl⟩, fun b hb => ?_, q⟩
  have e : b = s1.heap.objs.size := by simpa using hb
  subst e
  exact I1.fpOk (Nat.le_refl _) (I1.hok.fresh (Nat.le_refl _))
theorem zkK {a : Addr} (hg : SqL K G a xs) (r : RepL K G xs ds) : Itm K (Itl K a) G ds where
 go := fun H i f hi => by
  have hl := r.length
  exact ⟨xs, xs[i], f.sql hg, List.getElem?_eq_getElem (by lia)⟩
 yld := fun H i x H' f y d e => by
  obtain ⟨rfl, y⟩ := y
  have hx := y xs (f.sql hg)
  obtain ⟨x', h1, h2⟩ := r.get e
  rw [hx] at h1; cases h1
  exact .inl ⟨rfl, h2⟩
 stop := fun H i f hi => ⟨xs, f.sql hg, by rw [r.length]; exact hi⟩
theorem itm_tup {a : Addr} (hg : G a = some (.tup xs)) (r : RepL K G xs ds) : Itm K (Itt K a) G ds where
 go := fun H i f hi => by
  have hl := r.length
  exact ⟨xs, xs[i], SqT.of (f _ _ hg), List.getElem?_eq_getElem (by lia)⟩
 yld := fun H i x H' f y d e => by
  obtain ⟨rfl, y⟩ := y
  have hx := y xs (SqT.of (f _ _ hg))
  obtain ⟨x', h1, h2⟩ := r.get e
  rw [hx] at h1; cases h1
  exact .inl ⟨rfl, h2⟩
 stop := fun H i f hi => ⟨xs, SqT.of (f _ _ hg), by rw [r.length]; exact hi⟩
theorem zbx (h : SE X it me) : SIt X tg it (iSeq me) := by
 obtain ⟨t, p, s⟩ := h
 refine ⟨_, pi_or p, fun B G H σ ρ ds ρ' Q I hm k => ?_⟩
 obtain ⟨⟨d, ρ1⟩, e1, hm⟩ := zah hm
 obtain ⟨es, e2, e3⟩ := zaH hm
 cases e3
 refine s B G H σ ρ d ρ1 _ I e1 fun G1 H1 v I1 f1 r1 => ?_
 cases d <;> simp only [zaN] at e2 <;> try cases e2
 ·obtain ⟨a, xs, rfl, ha, r⟩ := r1
  exact ⟨a, rfl, .inl ⟨⟨xs, SqL.of (I1.fz _ _ ha)⟩, k _ G1 H1 I1 f1 (zkK (SqL.of ha) r)⟩⟩
 ·obtain ⟨a, xs, rfl, ha, r⟩ := r1
  exact ⟨a, rfl, .inr ⟨⟨xs, SqT.of (I1.fz _ _ ha)⟩, k _ G1 H1 I1 f1 (itm_tup ha r)⟩⟩
 ·obtain ⟨a, rfl, ha⟩ := r1
  exact ⟨a, rfl, .inl ⟨⟨_, I1.fz.sql ha⟩, k _ G1 H1 I1 f1 (zkK ha (RepL.ints _))⟩⟩
end
noncomputable def zfv (lo : Int) (n : Nat) : List D := (List.range n).map fun (i : Nat) => D.int (lo + (i : Int))
theorem zmM (lo : Int) (n : Nat) : Itm K (Itr lo n) G (zfv lo n) where
 go := fun H i f hi => by show i < n; simpa [zfv] using hi
 yld := fun H i x H' f y d e => by
  obtain ⟨rfl, rfl⟩ := y
  unfold zfv at e
  rw [List.getElem?_map] at e
  cases q : (List.range n)[i]? with
  | none => rw [q] at e; cases e
  | some j =>
   rw [q] at e
   have hj : j = i := by
    have := List.getElem?_eq_some_iff.mp q
    obtain ⟨h1, h2⟩ := this
    simpa using h2.symm
   subst hj
   cases e
   exact .inl ⟨rfl, rfl⟩
 stop := fun H i f hi => by show n <= i; simpa [zfv] using hi
noncomputable def zb6 (j : Int) : Bool := decide (-1000000000000 <= j) && decide (j <= 1000000000000)
theorem zhw {j : Int} (h : zb6 j = true) : -(2 ^ 62) <= j /\ j < 2 ^ 62 := by
 unfold zb6 at h
 simp only [Bool.and_eq_true, decide_eq_true_eq] at h
 lia
noncomputable def iR1 (ma : MA) : MA := fun ρ => (ma ρ).bind fun p => match p.1 with
 | [.int j] => if zb6 j then some (zfv 0 j.toNat, p.2) else none
 | _ => none
section
variable {X : Cx} {tg a b : Expr} {ma : MA} {p pos : Pos}
theorem zaM (hm : X.mg "range" = none) (ha : SA X [a] ma) (hg : Gl X "range" := by rfl) (hs : starEach [a] X.env = [(false, eval a X.env)] := by rfl) : SIt X tg (.Call (.Name "range" p) [a] [] pos) (iR1 ma) := by
 obtain ⟨t, pa, sa⟩ := ha
 refine ⟨_, zmL hg hm pa hs, fun B G H σ ρ ds ρ' Q I hm k => ?_⟩
 obtain ⟨⟨es, ρ1⟩, e1, h2⟩ := zah hm
 dsimp only at h2
 refine sa B G H σ ρ es ρ1 _ I e1 fun G1 H1 vs I1 f1 r1 => ?_
 split at h2
 ·rename_i j
  split at h2
  ·rename_i hj
   cases h2
   obtain ⟨x, rfl, rx⟩ := r1.one
   cases (show x = V.int j from rx)
   exact ⟨j, rfl, (zhw hj).1, (zhw hj).2, k _ G1 H1 I1 f1 (zmM 0 _)⟩
  ·cases h2
 ·cases h2
end
noncomputable def ResF (K : W.Frag) (G' H' H : Hp) (v : V) : Sl -> Prop
 | .val d => RepD K G' v d
 | .own ds => ∃ l xs, v = .ref l /\ G' l = none /\ H' l = some (.lst xs) /\ RepL K G' xs ds /\ H l = none
 | .tre t => ∃ A, RepT K G' H' v t A /\ A.Nodup /\ ∀ a ∈ A, G' a = none /\ H a = none
 | .two ds es => ∃ t l xs m ys, v = .ref t /\ H' t = some (.tup [.ref l, .ref m]) /\ l ≠ m /\ G' l = none /\ H' l = some (.lst xs) /\ RepL K G' xs ds /\ H l = none /\ G' m = none /\ H' m = some (.lst ys) /\ RepL K G' ys es /\ H m = none
 | _ => False
noncomputable def spP (K : W.Frag) (n : Nat) (F : List D -> Option Sl) : Sp := fun vs H Q _ => ∃ G ds r, F ds = some r /\ ds.length = n /\ Fz G H /\ RepL K G vs ds /\
 ∀ G' H' v, Fz G G' -> Fz G' H' -> (∀ b o, G' b = some o -> G b ≠ none \/ H b = none) -> Fz H H' -> ResF K G' H' H v r -> Q v H'
noncomputable def spM (K : W.Frag) (n : Nat) (F : List D -> List D -> Option (Sl × List D)) : Sp := fun vs H Q _ => ∃ G l xs cs ws ds r out, vs = .ref l :: ws /\ F cs ds = some (r, out) /\ ds.length + 1 = n /\ Fz G H /\ G l = none /\ H l = some (.lst xs) /\ RepL K G xs cs /\ RepL K G ws ds /\
 ∀ G' H' v ys, Fz G G' -> Fz G' H' -> (∀ b o, G' b = some o -> G b ≠ none \/ H b = none) -> (∀ b o, b ≠ l -> H b = some o -> H' b = some o) -> G' l = none -> H' l = some (.lst ys) -> RepL K G' ys out -> ResF K G' H' H v r -> Q v H'
noncomputable def fP (N : Nat) (m : MS) : List D -> Option Sl := fun ds => (m (ds.map .val ++ List.replicate (N - ds.length) .emp)).bind fun p => match p.1 with
 | .ret r => some r
 | .next => some (.val .non)
 | _ => none
noncomputable def fM (N : Nat) (m : MS) : List D -> List D -> Option (Sl × List D) := fun cs ds => (m (.par cs :: (ds.map .val ++ List.replicate (N - (ds.length + 1)) .emp))).bind fun p => match p.1, (p.2[0]? : Option Sl) with
 | Fl.ret r, some (Sl.par out) => some (r, out)
 | Fl.next, some (Sl.par out) => some (.val .non, out)
 | _, _ => none
theorem zi5 (h : vs.length <= N.length) : (L2.start N vs).length = N.length := by
 unfold L2.start
 rw [List.length_append, List.length_map, List.length_replicate]
 lia
theorem SI.start (fz : Fz G H) (r : RepL K G vs ds) (h : ds.length <= N.length) :
  SI K ⟨G, H, []⟩ G H (L2.start N vs) (ds.map .val ++ List.replicate (N.length - ds.length) .emp) where
 fz := fz
 g0 := Fz.refl G
 new := fun b o e => .inl (by show G b ≠ none; rw [e]; simp)
 keep := fun b o e _ => e
 there := fun b e => e
 ob := fun i b m => by cases m
 len := by rw [zi5 (by rw [r.length]; exact h), List.length_append, List.length_map, List.length_replicate]; lia
 slot := fun i s e => by
  by_cases hi : i < ds.length
  ·rw [List.getElem?_append_left (by simpa using hi), List.getElem?_map, List.getElem?_eq_getElem hi] at e
   cases e
   obtain ⟨x, h1, h2⟩ := r.get (List.getElem?_eq_getElem hi)
   refine ⟨x, ?_, h2⟩
   unfold L2.start
   rw [List.getElem?_append_left (by rw [List.length_map, r.length]; exact hi), List.getElem?_map, h1]
   rfl
  ·rw [List.getElem?_append_right (by simpa using hi), List.getElem?_replicate] at e
   split at e
   ·cases e; trivial
   ·cases e
 dis := fun i j s _ a _ e _ w => by
  exfalso
  by_cases hi : i < ds.length
  ·rw [List.getElem?_append_left (by simpa using hi), List.getElem?_map, List.getElem?_eq_getElem hi] at e
   cases e; exact w
  ·rw [List.getElem?_append_right (by simpa using hi), List.getElem?_replicate] at e
   split at e
   ·cases e; exact w
   ·cases e
theorem SI.startM (fz : Fz G H) (hg : G l = none) (hl : H l = some (.lst xs)) (rc : RepL K G xs cs) (r : RepL K G vs ds) (h : ds.length + 1 <= N.length) :
  SI K ⟨G, H, [(0, l)]⟩ G H (L2.start N (.ref l :: vs)) (.par cs :: (ds.map .val ++ List.replicate (N.length - (ds.length + 1)) .emp)) where
 fz := fz
 g0 := Fz.refl G
 new := fun b o e => .inl (by show G b ≠ none; rw [e]; simp)
 keep := fun b o e _ => e
 there := fun b e => e
 ob := fun i b m => by
  have : b = l := ((by simpa using m) : i = 0 /\ b = l).2
  subst this
  show H b ≠ none
  rw [hl]; simp
 len := by
  have := r.length
  rw [zi5 (by rw [List.length_cons, r.length]; exact h), List.length_cons, List.length_append, List.length_map, List.length_replicate]; lia
 slot := fun i s e => by
  cases i with
  | zero => simp at e; subst e; exact ⟨l, xs, rfl, hg, hl, rc, by simp⟩
  | succ i =>
   rw [List.getElem?_cons_succ] at e
   by_cases hi : i < ds.length
   ·rw [List.getElem?_append_left (by simpa using hi), List.getElem?_map, List.getElem?_eq_getElem hi] at e
    cases e
    obtain ⟨x, h1, h2⟩ := r.get (List.getElem?_eq_getElem hi)
    refine ⟨x, ?_, h2⟩
    unfold L2.start
    rw [List.map_cons, List.cons_append, List.getElem?_cons_succ, List.getElem?_append_left (by rw [List.length_map, r.length]; exact hi), List.getElem?_map, h1]
    rfl
   ·rw [List.getElem?_append_right (by simpa using hi), List.getElem?_replicate] at e
    split at e
    ·cases e; trivial
    ·cases e
 dis := fun i j s t a hij hi hj w1 w2 => by
  have z : ∀ (i : Nat) (s : Sl), (Sl.par cs :: (ds.map .val ++ List.replicate (N.length - (ds.length + 1)) .emp))[i]? = some s -> OwS K G H (L2.start N (.ref l :: vs))[i]? a s -> i = 0 := fun i s e q => by
   cases i with
   | zero => rfl
   | succ i =>
    exfalso
    rw [List.getElem?_cons_succ] at e
    by_cases hi : i < ds.length
    ·rw [List.getElem?_append_left (by simpa using hi), List.getElem?_map, List.getElem?_eq_getElem hi] at e
     cases e; exact q
    ·rw [List.getElem?_append_right (by simpa using hi), List.getElem?_replicate] at e
     split at e
     ·cases e; exact q
     ·cases e
  exact hij ((z i s hi w1).trans (z j t hj w2).symm)
section
variable {P : Program} {w : World} {K : W.Frag} {mg : Str -> Option Value} {base : Heap}
theorem fnP_ok {st : Stmt} {f : Addr} {m : MS} (F : Fun K x qual st f fd) (S : FnScope N ps (zaR st)) (hn : ps.length = n) (hN : n <= N.length)
  (body : ∀ (cdv : Value) (A : Around) (outer : List Env) (s : Shared) (H : Hp) (E : XK), Room k (A.deeper (envOfC qual (zaR st) s.heap.objs.size f cdv)) -> SSs (cxOf CX0 P w K mg base N qual (zaR st) f cdv A outer s H E).nox (zca st) m) :
  FnOk P w K mg base CX0 (k + 1) f fd ps (spP K n (fP N.length m)) := by
 refine F.ok S (fun vs H Q E h => ?_) (fun cdv A outer s H vs Q E hr h => ?_)
 ·obtain ⟨G, ds, r, _, h2, _, h4, _⟩ := h
  rw [h4.length, h2, hn]
 ·obtain ⟨G, ds, r, e1, h2, fz, h4, kk⟩ := h
  obtain ⟨t, pt, so⟩ := body cdv A outer s H E hr
  refine ⟨t, pt, ?_⟩
  obtain ⟨⟨fl, ρ'⟩, e2, e3⟩ := zah e1
  refine so ⟨G, H, []⟩ G H (L2.start N vs) _ fl ρ' _ (SI.start fz h4 (by lia)) e2 ?_
  have fin : ∀ G' H' σ' v, SI K ⟨G, H, []⟩ G' H' σ' ρ' -> Fz G G' -> ResF K G' H' H v r -> Q v H' := fun G' H' σ' v I f rr => kk G' H' v f I.fz I.new (fun b o e => I.keep b o e (by simp)) rr
  cases fl with
  | next => cases e3; exact fun G' H' σ' I f => fin G' H' σ' .non I f rfl
  | brk => cases e3
  | cont => cases e3
  | ret r' =>
   cases e3
   refine fun G' H' σ' v I f rr => fin G' H' σ' v I f ?_
   cases r with
   | val d => exact rr
   | own ds => exact rr
   | emp => exact rr
   | two _ _ => exact rr
   | tre _ => exact rr
   | ptr _ => exact rr
   | par ds => exact rr
theorem fnM_ok {st : Stmt} {f : Addr} {m : MS} (F : Fun K x qual st f fd) (S : FnScope N ps (zaR st)) (hn : ps.length = n) (hN : n <= N.length)
  (body : ∀ (cdv : Value) (A : Around) (outer : List Env) (s : Shared) (H : Hp) (E : XK), Room k (A.deeper (envOfC qual (zaR st) s.heap.objs.size f cdv)) -> SSs (cxOf CX0 P w K mg base N qual (zaR st) f cdv A outer s H E).nox (zca st) m) :
  FnOk P w K mg base CX0 (k + 1) f fd ps (spM K n (fM N.length m)) := by
 refine F.ok S (fun vs H Q E h => ?_) (fun cdv A outer s H vs Q E hr h => ?_)
 ·obtain ⟨G, l, xs, cs, ws, ds, r, out, rfl, _, h2, _, _, _, _, h4, _⟩ := h
  rw [List.length_cons, h4.length, h2, hn]
 ·obtain ⟨G, l, xs, cs, ws, ds, r, out, rfl, e1, h2, fz, hg, hl, rc, h4, kk⟩ := h
  obtain ⟨t, pt, so⟩ := body cdv A outer s H E hr
  refine ⟨t, pt, ?_⟩
  obtain ⟨⟨fl, ρ'⟩, e2, e3⟩ := zah e1
  refine so ⟨G, H, [(0, l)]⟩ G H _ _ fl ρ' _ (SI.startM fz hg hl rc h4 (by lia)) e2 ?_
  have fin : ∀ G' H' σ' v, ρ'[0]? = some (.par out) -> SI K ⟨G, H, [(0, l)]⟩ G' H' σ' ρ' -> Fz G G' -> ResF K G' H' H v r -> Q v H' := fun G' H' σ' v e0 I f rr => by
   obtain ⟨l', ys, k1, k2, k3, k4, k5⟩ := I.slot 0 _ e0
   have : l' = l := by simpa using k5
   subst this
   exact kk G' H' v ys f I.fz I.new (fun b o hb e => I.keep b o e (fun i hm => by simp at hm; exact hb hm.2)) k2 k3 k4 rr
  cases e0 : ρ'[0]? with
  | none => rw [e0] at e3; cases fl <;> cases e3
  | some s0 =>
   rw [e0] at e3
   cases s0 with
   | emp => cases fl <;> cases e3
   | two _ _ => cases fl <;> cases e3
   | tre _ => cases fl <;> cases e3
   | ptr _ => cases fl <;> cases e3
   | val d => cases fl <;> cases e3
   | own d => cases fl <;> cases e3
   | par o2 =>
    cases fl with
    | next => cases e3; exact fun G' H' σ' I f => fin G' H' σ' .non e0 I f rfl
    | brk => cases e3
    | cont => cases e3
    | ret r' =>
     cases e3
     refine fun G' H' σ' v I f rr => fin G' H' σ' v e0 I f ?_
     cases r with
     | val d => exact rr
     | own ds => exact rr
     | emp => exact rr
     | two _ _ => exact rr
     | tre _ => exact rr
     | ptr _ => exact rr
     | par ds => exact rr
end
structure FD (P : Program) (w : World) (K : W.Frag) (mg : Str -> Option Value) (base : Heap) (k : Nat) (x : Str) (sp : Sp) : Prop where
 ex : ∃ f fd ps, FnOk P w K mg base CX0 k f fd ps sp /\ mg x = some (.ref f) /\ W.keepIn K (.ref f) = true /\ Binds K fd ps []
theorem zmv (nw : ∀ b o, G' b = some o -> G b ≠ none \/ H b = none) (kp : Fz H H') : ∀ (i : Nat) (s : Sl) (a : Addr), ρ[i]? = some s -> OwS K G H σ[i]? a s -> G a = none -> H a ≠ none -> G' a = none /\ H' a = H a := fun i s a _ _ g h => by
 obtain ⟨u, hu⟩ := Option.ne_none_iff_exists'.mp h
 refine ⟨?_, (kp a u hu).trans hu.symm⟩
 cases q : G' a with
 | none => rfl
 | some u =>
  rcases nw a u q with z | z
  ·exact absurd g z
  ·exact absurd z h
theorem SI.grow (I : SI K B G H σ ρ) (f : Fz G G') (fz : Fz G' H') (nw : ∀ b o, G' b = some o -> G b ≠ none \/ H b = none) (kp : Fz H H') : SI K B G' H' σ ρ :=
 I.move fz f (fun b o e => by
  rcases nw b o e with h | h
  ·cases q : G b with
   | none => exact absurd q h
   | some u => exact I.new b u q
  ·exact .inr (I.there b h)) (fun b o e n => kp b o (I.keep b o e n)) (fun b e => I.there b (kp.free e)) (zmv nw kp)
theorem SI.own_ne (I : SI K B G H σ ρ) {p : Addr} (hp : H p = none) (nw : ∀ b o, G' b = some o -> G b ≠ none \/ H b = none) (kp : Fz H H') : Nw K G' H' σ ρ p := I.nw_move (I.nw hp) (zmv nw kp)
noncomputable def zba (F : List D -> Option Sl) (ma : MA) : ME := fun ρ => (ma ρ).bind fun p => (F p.1).bind fun r => match r with
 | .val d => some (d, p.2)
 | .own ds => some (.lst ds, p.2)
 | _ => none
noncomputable def oCall (F : List D -> Option Sl) (ma : MA) : MO := fun ρ => (ma ρ).bind fun p => (F p.1).bind fun r => match r with
 | .own ds => some (ds, p.2)
 | _ => none
section
variable {X : Cx} {x : Str} {p pos : Pos} {e : Expr} {es : List Expr} {ma : MA} {k k' n : Nat} {F : List D -> Option Sl}
theorem zav (fd : FD X.prog X.w X.K X.mg X.base k x (spP X.K n F)) (hr : Room k' X.A) (ha : SA X (e :: es) ma) (hn : (e :: es).length = n := by rfl) (hk : k <= k' := by decide) (hg : Gl X x := by rfl) (hdb : (x == ("__debug__" : Str)) = false := by decide)
  (he : starEach (e :: es) X.env = (false, eval e X.env) :: starEach es X.env := by rfl) (hpl : (backTo pos (starEach es X.env)).any (·.1) = false := by rfl) (hlen : ∀ ρ as ρ', ma ρ = some (as, ρ') -> as.length = n) : SE X (.Call (.Name x p) (e :: es) [] pos) (zba F ma) := by
 obtain ⟨f, fdd, ps, G0, h1, h2, h3⟩ := fd.ex
 obtain ⟨t, pa, sa⟩ := ha
 refine ⟨_, zih G0 (hr.mono hk) hg h1 h2 h3 .nil pass0 pa hdb he hpl, fun B G H σ ρ d ρ' Q I hm kk => ?_⟩
 obtain ⟨⟨as, ρ1⟩, e1, hm⟩ := zah hm
 obtain ⟨r, e2, hm⟩ := zah hm
 refine sa B G H σ ρ as ρ1 _ I e1 fun G1 H1 vs I1 f1 r1 => ?_
 show spP X.K n F (vs ++ []) H1 Q E0
 rw [List.append_nil]
 refine ⟨G1, as, r, e2, hlen ρ as ρ1 e1, I1.fz, r1, fun G2 H2 v f2 fz2 nw kp rr => ?_⟩
 have I2 := I1.grow f2 fz2 nw kp
 cases r with
 | val d' => cases hm; exact kk G2 H2 v I2 (f1.trans f2) rr
 | own ds =>
  cases hm
  obtain ⟨l, xs, rfl, g3, h3, r3, b3⟩ := rr
  obtain ⟨I3, f3, r4⟩ := zi6 I2 g3 h3 r3 (I1.there l b3) (I1.own_ne b3 nw kp)
  exact kk _ H2 _ I3 (f1.trans (f2.trans f3)) r4
 | emp => cases hm
 | two _ _ => cases hm
 | tre _ => cases hm
 | ptr _ => cases hm
 | par _ => cases hm
theorem so_call (fd : FD X.prog X.w X.K X.mg X.base k x (spP X.K n F)) (hr : Room k' X.A) (ha : SA X (e :: es) ma) (hn : (e :: es).length = n := by rfl) (hk : k <= k' := by decide) (hg : Gl X x := by rfl) (hdb : (x == ("__debug__" : Str)) = false := by decide)
  (he : starEach (e :: es) X.env = (false, eval e X.env) :: starEach es X.env := by rfl) (hpl : (backTo pos (starEach es X.env)).any (·.1) = false := by rfl) (hlen : ∀ ρ as ρ', ma ρ = some (as, ρ') -> as.length = n) : SO X (.Call (.Name x p) (e :: es) [] pos) (oCall F ma) := by
 obtain ⟨f, fdd, ps, G0, h1, h2, h3⟩ := fd.ex
 obtain ⟨t, pa, sa⟩ := ha
 refine ⟨_, zih G0 (hr.mono hk) hg h1 h2 h3 .nil pass0 pa hdb he hpl, fun B G H σ ρ d ρ' Q I hm kk => ?_⟩
 obtain ⟨⟨as, ρ1⟩, e1, hm⟩ := zah hm
 obtain ⟨r, e2, hm⟩ := zah hm
 refine sa B G H σ ρ as ρ1 _ I e1 fun G1 H1 vs I1 f1 r1 => ?_
 show spP X.K n F (vs ++ []) H1 Q E0
 rw [List.append_nil]
 refine ⟨G1, as, r, e2, hlen ρ as ρ1 e1, I1.fz, r1, fun G2 H2 v f2 fz2 nw kp rr => ?_⟩
 have I2 := I1.grow f2 fz2 nw kp
 cases r with
 | val d' => cases hm
 | own ds =>
  cases hm
  obtain ⟨l, xs, rfl, g3, h3, r3, b3⟩ := rr
  exact kk G2 H2 l xs I2 (f1.trans f2) g3 h3 r3 (I1.there l b3) (I1.own_ne b3 nw kp)
 | emp => cases hm
 | two _ _ => cases hm
 | tre _ => cases hm
 | ptr _ => cases hm
 | par _ => cases hm
end
noncomputable def aLen (ma : MA) (n : Nat) : Prop := ∀ ρ as ρ', ma ρ = some (as, ρ') -> as.length = n
theorem zak : aLen aNil 0 := fun ρ as ρ' h => by cases h; rfl
theorem zac {m : ME} {r : MA} (h : aLen r n) : aLen (zad m r) (n + 1) := fun ρ as ρ' e => by
 obtain ⟨⟨d, ρ1⟩, _, h2⟩ := zah e
 obtain ⟨⟨ds, ρ2⟩, e3, e4⟩ := zaH h2
 cases e4
 rw [List.length_cons, h ρ1 ds ρ2 e3]
noncomputable def zau (F : List D -> List D -> Option (Sl × List D)) (j : Nat) (ma : MA) : ME := fun ρ => if (ρ[j]?.bind Sl.items).isSome then (ma ρ).bind fun p => p.2[j]?.bind fun s => s.items.bind fun cs => (F cs p.1).bind fun r => match r.1 with
 | .val d => some (d, p.2.set j (s.put r.2))
 | .own ds => some (.lst ds, p.2.set j (s.put r.2))
 | _ => none else none
noncomputable def zkN (F : List D -> List D -> Option (Sl × List D)) (j : Nat) (ma : MA) : MO := fun ρ => if (ρ[j]?.bind Sl.items).isSome then (ma ρ).bind fun p => p.2[j]?.bind fun s => s.items.bind fun cs => (F cs p.1).bind fun r => match r.1 with
 | .own ds => some (ds, p.2.set j (s.put r.2))
 | _ => none else none
theorem SI.growW (I : SI K B G H σ ρ) (e : ρ[j]? = some s) (q : s.items = some cs) (hl : σ[j]? = some (some (.ref l)))
  (f : Fz G G') (fz : Fz G' H') (nw : ∀ b o, G' b = some o -> G b ≠ none \/ H b = none) (kp : ∀ b o, b ≠ l -> H b = some o -> H' b = some o) (gl : G' l = none) (hl' : H' l = some (.lst ys)) (r : RepL K G' ys out) : SI K B G' H' σ (ρ.set j (s.put out)) :=
 I.chgW e q hl fz f nw kp gl hl' r
theorem SI.own_neW {l p : Addr} (I : SI K B G H σ ρ) (e : ρ[j]? = some s) (q : s.items = some cs) (hl : σ[j]? = some (some (.ref l))) (hp : H p = none)
  (nw : ∀ b o, G' b = some o -> G b ≠ none \/ H b = none) (kp : ∀ b o, b ≠ l -> H b = some o -> H' b = some o) : Nw K G' H' σ (ρ.set j (s.put out)) p := fun i t et w => by
 obtain ⟨l', xs, e1, e2, e3, e4⟩ := I.wr e q
 rw [hl] at e1; cases e1
 have hpl : p ≠ l := fun z => by rw [z, e3] at hp; cases hp
 by_cases z : i = j
 ·subst z
  rw [List.getElem?_set, if_pos rfl] at et
  split at et
  ·cases et
   have := (zeP (zjF q out)).mp w
   rw [hl] at this
   exact hpl (V.ref.inj (Option.some.inj (Option.some.inj this))).symm
  ·cases et
 ·rw [List.getElem?_set_ne (Ne.symm z)] at et
  have sl := I.slot i t et
  refine (sl.own (sl.back (fun a w g h => ?_) w)).2.1 hp
  have na : a ≠ l := fun w' => by subst w'; exact I.dis i j t s a z et e w ((zeP q).mpr hl)
  obtain ⟨u, hu⟩ := Option.ne_none_iff_exists'.mp h
  refine ⟨?_, (kp a u na hu).trans hu.symm⟩
  cases q2 : G' a with
  | none => rfl
  | some u =>
   rcases nw a u q2 with z | z
   ·exact absurd g z
   ·exact absurd z h
section
variable {X : Cx} {x y : Str} {p py pos : Pos} {es : List Expr} {ma : MA} {k k' n : Nat} {F : List D -> List D -> Option (Sl × List D)}
theorem soundM {t : TA} {Q : VK} (sa : ∀ B G H σ ρ ds ρ' (Q : List V -> Hp -> Prop), SI X.K B G H σ ρ -> ma ρ = some (ds, ρ') -> (∀ G' H' vs, SI X.K B G' H' σ ρ' -> Fz G G' -> RepL X.K G' vs ds -> Q vs H') -> t σ H Q)
  (hlen : ∀ ρ as ρ', ma ρ = some (as, ρ') -> as.length + 1 = n) (I : SI X.K B G H σ ρ) {ds0 : List D} (h0 : ρ[j]?.bind Sl.items = some ds0) {as : List D} {ρ1 : R} (e1 : ma ρ = some (as, ρ1)) {s : Sl} (e2 : ρ1[j]? = some s) {cs : List D} (e3 : s.items = some cs)
  {r : Sl} {out : List D} (e4 : F cs as = some (r, out))
  (kk : ∀ G' H' v, SI X.K B G' H' σ (ρ1.set j (s.put out)) -> Fz G G' -> True -> (∃ H1, ResF X.K G' H' H1 v r /\ (∀ b, H1 b = none -> B.H b = none) /\ ∀ b, H1 b = none -> Nw X.K G' H' σ (ρ1.set j (s.put out)) b) -> Q v H') :
  tCall (spM X.K n F) [] E0 (tCons (tVar j) t) σ H Q := by
 obtain ⟨s0, k0, q0⟩ := zah h0
 obtain ⟨l, xs0, h1, h2, h3, h4⟩ := I.wr k0 q0
 refine ⟨.ref l, h1, sa B G H σ ρ as ρ1 _ I e1 fun G1 H1 vs I1 f1 r1 => ?_⟩
 show spM X.K n F ((.ref l :: vs) ++ []) H1 Q E0
 rw [List.append_nil]
 obtain ⟨l', xs, m1, m2, m3, m4⟩ := I1.wr e2 e3
 rw [h1] at m1; cases m1
 refine ⟨G1, l, xs, cs, vs, as, r, out, rfl, e4, hlen ρ as ρ1 e1, I1.fz, m2, m3, m4, r1, fun G2 H2 v ys f2 fz2 nw kp gl hl r2 rr => ?_⟩
 exact kk G2 H2 v (I1.growW e2 e3 h1 f2 fz2 nw kp gl hl r2) (f1.trans f2) trivial ⟨H1, rr, fun b hb => I1.there b hb, fun b hb => I1.own_neW e2 e3 h1 hb nw kp⟩
theorem zap (j : Nat) (fd : FD X.prog X.w X.K X.mg X.base k x (spM X.K n F)) (hr : Room k' X.A) (ha : SA X es ma) (hlen : ∀ ρ as ρ', ma ρ = some (as, ρ') -> as.length + 1 = n) (hN : X.N[j]? = some y := by rfl) (hv : Vis X.env.scope y := by first | exact Or.inl rfl | exact Or.inr (Or.inl rfl) | exact Or.inr (Or.inr rfl)) (hd : (y == ("__debug__" : Str)) = false := by decide)
  (hcd : (y == ("__classdict__" : Str)) = false := by decide) (hk : k <= k' := by decide) (hg : Gl X x := by rfl) (hdb : (x == ("__debug__" : Str)) = false := by decide)
  (he : starEach (.Name y py :: es) X.env = (false, eval (.Name y py) X.env) :: starEach es X.env := by rfl) (hpl : (backTo pos (starEach es X.env)).any (·.1) = false := by rfl) : SE X (.Call (.Name x p) (.Name y py :: es) [] pos) (zau F j ma) := by
 obtain ⟨f, fdd, ps, G0, h1, h2, h3⟩ := fd.ex
 obtain ⟨t, pa, sa⟩ := ha
 refine ⟨_, zih G0 (hr.mono hk) hg h1 h2 h3 .nil pass0 (zem (zea hN hv hd hcd) pa he) hdb he hpl, fun B G H σ ρ d ρ' Q I hm kk => ?_⟩
 unfold zau at hm
 split at hm
 ·rename_i hso
  obtain ⟨ds0, hso⟩ := Option.isSome_iff_exists.mp hso
  obtain ⟨⟨as, ρ1⟩, e1, hm⟩ := zah hm
  obtain ⟨s, e2, hm⟩ := zah hm
  obtain ⟨cs, e3, hm⟩ := zah hm
  obtain ⟨⟨r, out⟩, e4, hm⟩ := zah hm
  refine soundM sa hlen I hso e1 e2 e3 e4 fun G' H' v I' f' _ ⟨H1, rr, bb, nn⟩ => ?_
  cases r with
  | val d' => cases hm; exact kk G' H' v I' f' rr
  | own ds =>
   cases hm
   obtain ⟨l, xs, rfl, g3, h3, r3, b3⟩ := rr
   obtain ⟨I3, f3, r4⟩ := zi6 I' g3 h3 r3 (bb l b3) (nn l b3)
   exact kk _ H' _ I3 (f'.trans f3) r4
  | emp => cases hm
  | two _ _ => cases hm
  | tre _ => cases hm
  | ptr _ => cases hm
  | par _ => cases hm
 ·cases hm
theorem so_callM (j : Nat) (fd : FD X.prog X.w X.K X.mg X.base k x (spM X.K n F)) (hr : Room k' X.A) (ha : SA X es ma) (hlen : ∀ ρ as ρ', ma ρ = some (as, ρ') -> as.length + 1 = n) (hN : X.N[j]? = some y := by rfl) (hv : Vis X.env.scope y := by first | exact Or.inl rfl | exact Or.inr (Or.inl rfl) | exact Or.inr (Or.inr rfl)) (hd : (y == ("__debug__" : Str)) = false := by decide)
  (hcd : (y == ("__classdict__" : Str)) = false := by decide) (hk : k <= k' := by decide) (hg : Gl X x := by rfl) (hdb : (x == ("__debug__" : Str)) = false := by decide)
  (he : starEach (.Name y py :: es) X.env = (false, eval (.Name y py) X.env) :: starEach es X.env := by rfl) (hpl : (backTo pos (starEach es X.env)).any (·.1) = false := by rfl) : SO X (.Call (.Name x p) (.Name y py :: es) [] pos) (zkN F j ma) := by
 obtain ⟨f, fdd, ps, G0, h1, h2, h3⟩ := fd.ex
 obtain ⟨t, pa, sa⟩ := ha
 refine ⟨_, zih G0 (hr.mono hk) hg h1 h2 h3 .nil pass0 (zem (zea hN hv hd hcd) pa he) hdb he hpl, fun B G H σ ρ d ρ' Q I hm kk => ?_⟩
 unfold zkN at hm
 split at hm
 ·rename_i hso
  obtain ⟨ds0, hso⟩ := Option.isSome_iff_exists.mp hso
  obtain ⟨⟨as, ρ1⟩, e1, hm⟩ := zah hm
  obtain ⟨s, e2, hm⟩ := zah hm
  obtain ⟨cs, e3, hm⟩ := zah hm
  obtain ⟨⟨r, out⟩, e4, hm⟩ := zah hm
  refine soundM sa hlen I hso e1 e2 e3 e4 fun G' H' v I' f' _ ⟨H1, rr, bb, nn⟩ => ?_
  cases r with
  | val d' => cases hm
  | own ds =>
   cases hm
   obtain ⟨l, xs, rfl, g3, h3, r3, b3⟩ := rr
   exact kk G' H' l xs I' f' g3 h3 r3 (bb l b3) (nn l b3)
  | emp => cases hm
  | two _ _ => cases hm
  | tre _ => cases hm
  | ptr _ => cases hm
  | par _ => cases hm
 ·cases hm
end
noncomputable def zep (env : Env) (cs : List (Str × Addr)) (x : Str × NameKind) : List (Str × Addr) := if x.2 == .free then (x.1, (env.cells.lookup x.1).getD 0) :: cs else cs
noncomputable def clOf (scope : Scope) (env : Env) : List (Str × Addr) := scope.names.foldl (zep env) []
theorem zgW : ∀ (names : List (Str × NameKind)) (cs : List (Str × Addr)), (∀ y ∈ names, y.2 = .free -> ∃ c, env.cells.lookup y.1 = some c) ->
  (forIn names cs (fun x r => if x.2 == NameKind.free then do let a <- cellOf env x.1; pure (ForInStep.yield ((x.1, a) :: r)) else pure (ForInStep.yield r)) : Sem (List (Str × Addr))) = pure (names.foldl (zep env) cs)
 | [], cs, _ => rfl
 | (n, k) :: r, cs, h => by
  have ih := fun cs' => zgW r cs' (fun y hy => h y (List.mem_cons_of_mem _ hy))
  rw [List.forIn_cons, List.foldl_cons]
  by_cases hk : (k == NameKind.free) = true
  ·obtain ⟨c, hc⟩ := h (n, k) List.mem_cons_self (by simpa using hk)
   have e : zep env cs (n, k) = (n, c) :: cs := by unfold zep; simp [hk, hc]
   rw [e, <- ih]
   simp only [hk, if_true]
   unfold cellOf
   simp only at hc
   rw [hc]
   rfl
  ·have e : zep env cs (n, k) = cs := by unfold zep; simp [hk]
   rw [e, <- ih]
   simp only [hk]
   rfl
theorem zk6 {env : Env} (h : ∀ y ∈ scope.names, y.2 = .free -> ∃ c, env.cells.lookup y.1 = some c) : closureFor scope env = pure (clOf scope env) := by
 unfold closureFor clOf
 have e := zgW (env := env) scope.names [] h
 simp only [bind_pure]
 exact e
theorem zdz : ∀ {names : List (Str × NameKind)} {cs : List (Str × Addr)}, (∀ y ∈ names, y.2 = .free -> ∃ c, env.cells.lookup y.1 = some c) -> (cs.lookup x = some c -> env.cells.lookup x = some c) ->
  (names.foldl (zep env) cs).lookup x = some c -> env.cells.lookup x = some c
 | [], cs, _, h0, h => h0 h
 | (n, k) :: r, cs, hn, h0, h => by
  rw [List.foldl_cons] at h
  refine zdz (names := r) (fun y hy => hn y (List.mem_cons_of_mem _ hy)) ?_ h
  intro q
  unfold zep at q
  split at q
  ·rename_i hk
   obtain ⟨c', hc⟩ := hn (n, k) List.mem_cons_self (by simpa using hk)
   rw [List.lookup_cons] at q
   simp only at hc
   by_cases z : (x == n) = true
   ·rw [z] at q
    have zz : x = n := by simpa using z
    subst zz
    simp only [hc, Option.getD_some] at q
    rw [hc]; exact q
   ·have z' : (x == n) = false := by simpa using z
    rw [z'] at q; exact h0 q
  ·exact h0 q
theorem zeS : ∀ {names : List (Str × NameKind)} {cs : List (Str × Addr)}, ((x, NameKind.free) ∈ names \/ (cs.lookup x).isSome = true) -> ((names.foldl (zep env) cs).lookup x).isSome = true
 | [], cs, h => by
  rcases h with h | h
  ·simp at h
  ·exact h
 | (n, k) :: r, cs, h => by
  rw [List.foldl_cons]
  refine zeS (names := r) ?_
  rcases h with h | h
  ·rcases List.mem_cons.mp h with h | h
   ·cases h
    refine .inr ?_
    unfold zep
    simp
   ·exact .inl h
  ·refine .inr ?_
   unfold zep
   split
   ·rw [List.lookup_cons]
    by_cases z : (x == n) = true
    ·rw [z]; rfl
    ·have z' : (x == n) = false := by simpa using z
     rw [z']; exact h
   ·exact h
theorem zhr : ∀ {names : List (Str × NameKind)} {n : Nat} {acc : List (Str × Addr)}, (cellsFrom n names acc).lookup x = some c -> (n <= c /\ (x, NameKind.cell) ∈ names) \/ acc.lookup x = some c
 | [], n, acc, h => .inr h
 | (m, k) :: r, n, acc, h => by
  unfold cellsFrom at h
  split at h
  ·rename_i hk
   have hk' : k = .cell := by simpa using hk
   subst hk'
   rcases zhr h with ⟨h1, h2⟩ | h1
   ·exact .inl ⟨Nat.le_of_succ_le h1, List.mem_cons_of_mem _ h2⟩
   ·rw [List.lookup_cons] at h1
    cases q : x == m with
    | true =>
     rw [q] at h1
     cases h1
     rw [beq_iff_eq.mp q]
     exact .inl ⟨Nat.le_refl _, List.mem_cons_self⟩
    | false => rw [q] at h1; exact .inr h1
  ·rcases zhr h with ⟨h1, h2⟩ | h1
   ·exact .inl ⟨h1, List.mem_cons_of_mem _ h2⟩
   ·exact .inr h1
theorem zk0 : ∀ {names : List (Str × NameKind)} {n : Nat} {acc : List (Str × Addr)}, (x, NameKind.cell) ∉ names -> (cellsFrom n names acc).lookup x = acc.lookup x
 | [], n, acc, _ => rfl
 | (m, k) :: r, n, acc, h => by
  unfold cellsFrom
  split
  ·rename_i hk
   have hk' : k = .cell := by simpa using hk
   subst hk'
   rw [zk0 fun z => h (List.mem_cons_of_mem _ z), List.lookup_cons]
   cases q : x == m with
   | true => exact absurd (by rw [beq_iff_eq.mp q]; exact List.mem_cons_self) h
   | false => rfl
  ·exact zk0 fun z => h (List.mem_cons_of_mem _ z)
theorem zkt : ∀ {names : List (Str × NameKind)} {n : Nat} {acc : List (Str × Addr)}, (x, NameKind.cell) ∈ names -> ∃ c, (cellsFrom n names acc).lookup x = some c /\ n <= c
 | (m, k) :: r, n, acc, h => by
  unfold cellsFrom
  by_cases hr : (x, NameKind.cell) ∈ r
  ·split
   ·obtain ⟨c, h1, h2⟩ := zkt (n := n + 1) (acc := (m, n) :: acc) hr
    exact ⟨c, h1, Nat.le_of_succ_le h2⟩
   ·exact zkt hr
  ·rcases List.mem_cons.mp h with e | e
   ·cases e
    rw [if_pos (beq_self_eq_true _), zk0 hr, List.lookup_cons, beq_self_eq_true]
    exact ⟨n, rfl, Nat.le_refl _⟩
   ·exact absurd e hr
theorem zlX : ∀ {names : List (Str × NameKind)} {n : Nat} {acc : List (Str × Addr)}, (∀ x c, acc.lookup x = some c -> c < n) -> (∀ x y c, acc.lookup x = some c -> acc.lookup y = some c -> x = y) ->
  ∀ x y c, (cellsFrom n names acc).lookup x = some c -> (cellsFrom n names acc).lookup y = some c -> x = y
 | [], n, acc, _, hi => hi
 | (m, k) :: r, n, acc, hl, hi => by
  unfold cellsFrom
  split
  ·refine zlX (fun x c h => ?_) (fun x y c h1 h2 => ?_)
   ·rw [List.lookup_cons] at h
    cases q : x == m with
    | true => rw [q] at h; cases h; exact Nat.lt_succ_self _
    | false => rw [q] at h; exact Nat.lt_succ_of_lt (hl x c h)
   ·rw [List.lookup_cons] at h1 h2
    cases q : x == m with
    | true =>
     rw [q] at h1
     cases h1
     cases q2 : y == m with
     | true => rw [beq_iff_eq.mp q, beq_iff_eq.mp q2]
     | false => rw [q2] at h2; exact absurd (hl y n h2) (Nat.lt_irrefl _)
    | false =>
     rw [q] at h1
     cases q2 : y == m with
     | true => rw [q2] at h2; cases h2; exact absurd (hl x n h1) (Nat.lt_irrefl _)
     | false => rw [q2] at h2; exact hi x y c h1 h2
  ·exact zlX hl hi
theorem zkd : ∀ {names : List (Str × NameKind)} {h : Heap} {acc : List (Str × Addr)}, (∀ x c, acc.lookup x = some c -> ∃ v, h.IsCell c v) -> ∀ x c, (cellsFrom h.objs.size names acc).lookup x = some c -> ∃ v, (pushCells h names).IsCell c v
 | [], h, acc, ha => ha
 | (m, k) :: r, h, acc, ha => by
  unfold cellsFrom pushCells
  split
  ·intro x c e
   rw [<- Heap.size_push h { cls := .type "cell", data := .cell none }] at e
   refine zkd (fun y d q => ?_) x c e
   rw [List.lookup_cons] at q
   cases z : y == m with
   | true => rw [z] at q; cases q; exact ⟨none, _, Heap.get?_push_size _ rfl, rfl⟩
   | false =>
    rw [z] at q
    obtain ⟨v, hv⟩ := ha y d q
    exact ⟨v, hv.keeps fun b o e => Heap.get?_push_of_some _ e⟩
  ·exact zkd ha
theorem zjV {M : Model} {s : Shared} {globals : Addr} {Q : Env -> Shared -> Prop}
  (hQ : ∀ h' : Heap, h'.Ns s.heap.objs.size (fun _ => none) -> (∀ a o, s.heap.get? a = some o -> h'.get? a = some o) ->
   ((∀ x c, cl.lookup x = some c -> ∃ v, s.heap.IsCell c v) -> ∀ x c, (cellsFrom (s.heap.objs.size + 1) scope.names cl).lookup x = some c -> ∃ v, h'.IsCell c v) ->
   Q (newEnv scope s.heap.objs.size globals (cellsFrom (s.heap.objs.size + 1) scope.names cl) qual none .none (some env) builtinsNs) { s with heap := h' }) :
  wpAny M A (newFunctionEnv scope globals cl [] qual none .none (some env)) Q E s := by
 simp only [newFunctionEnv, Option.isSome_some, if_true]
 refine wpAny_bind (wpAny_alloc ?_)
 refine wpAny_bind (wpAny_layCells _ (fun name kind cells => by cases hkc : kind == NameKind.cell <;> simp [hkc]) _ _ _ _ ?_)
 rw [show ({ s with heap := s.heap.push { cls := .type "dict", data := .dict #[] } } : Shared).heap.objs.size = s.heap.objs.size + 1 from Heap.size_push ..]
 refine wpAny_bind ?_
 rw [List.forIn_nil]
 refine wpAny_pure (wpAny_pure (hQ _ ((Heap.Ns.new s.heap (.type "dict")).keeps (pushCells_keeps _ _)) (fun a o e => pushCells_keeps _ _ a o (Heap.get?_push_of_some _ e)) fun hc x c e => ?_))
 rw [<- Heap.size_push s.heap { cls := .type "dict", data := .dict #[] }] at e
 refine zkd (fun y d q => ?_) x c e
 obtain ⟨v, hv⟩ := hc y d q
 exact ⟨v, hv.keeps fun b o e => Heap.get?_push_of_some _ e⟩
noncomputable def clC (scope : Scope) (env : Env) (C : Addr) : List (Str × Addr) := cellsFrom (C + 1) scope.names (clOf scope env)
noncomputable def ownC (scope : Scope) (x : Str) : Bool := match scope.names.lookup x with
 | some .cell => true
 | _ => false
noncomputable def cxC (X : Cx) (N : List Str) (scope : Scope) (C : Addr) (s : Shared) (H : Hp) (fp : List Addr) : Cx :=
 { X with N := N, s₀ := s, H₀ := H, env := compEnvC scope (clC scope X.env C) C X.env, outer := X.stack, ex := fp, fn := ownC scope, pn := [], xe := fun _ _ => False }
structure BlkOk (X : Cx) (scope : Scope) : Prop where
 kind : scope.kind = .function
 uniq : ∀ y ∈ scope.names, scope.names.lookup y.1 = some y.2
 free : ∀ y ∈ scope.names, y.2 = .free -> X.env.kindOf y.1 = some .cell \/ X.env.kindOf y.1 = some .free
theorem zeV {α : Type} {v : α} : ∀ {l : List (Str × α)}, l.lookup x = some v -> (x, v) ∈ l
 | [], h => by simp at h
 | (n, w) :: r, h => by
  rw [List.lookup_cons] at h
  by_cases z : (x == n) = true
  ·rw [z] at h
   have zz : x = n := by simpa using z
   subst zz
   cases h
   exact List.mem_cons_self
  ·have z' : (x == n) = false := by simpa using z
   rw [z'] at h
   exact List.mem_cons_of_mem _ (zeV h)
theorem zdj {env : Env} {x : Str} : ∀ {names : List (Str × NameKind)}, (names.map fun (n, k) => if (k == NameKind.free && env.scope.kind == .function && env.kindOf n == some .cell) then (n, NameKind.cell) else (n, k)).lookup x =
  (names.lookup x).map fun k => if (k == NameKind.free && env.scope.kind == .function && env.kindOf x == some .cell) then NameKind.cell else k
 | [] => rfl
 | (n, k) :: r => by
  have ih := zdj (env := env) (x := x) (names := r)
  show List.lookup x ((if (k == NameKind.free && env.scope.kind == .function && env.kindOf n == some .cell) = true then (n, NameKind.cell) else (n, k)) :: _) = _
  cases hx : x == n with
  | true =>
   have zz : x = n := by simpa using hx
   by_cases hc : (k == NameKind.free && env.scope.kind == .function && env.kindOf n == some .cell) = true
   ·rw [if_pos hc]
    simp only [List.lookup_cons, hx, Option.map_some]
    rw [zz, if_pos hc]
   ·rw [if_neg hc]
    simp only [List.lookup_cons, hx, Option.map_some]
    rw [zz, if_neg hc]
  | false =>
   by_cases hc : (k == NameKind.free && env.scope.kind == .function && env.kindOf n == some .cell) = true
   ·rw [if_pos hc]; simp only [List.lookup_cons, hx]; exact ih
   ·rw [if_neg hc]; simp only [List.lookup_cons, hx]; exact ih
section
variable {X : Cx} {pins : List (Addr × Obj)} {σ : St} {H : Hp} {s : Shared} {scope : Scope} {N : List Str} {fp : List Addr} {C : Addr}
theorem zhC (I : Inv X pins σ H s) (b : BlkOk X scope) : ∀ y ∈ scope.names, y.2 = .free -> ∃ c, X.env.cells.lookup y.1 = some c := fun y hy hf => I.ok.has y.1 (b.free y hy hf)
theorem blk_vis (h : (relabel scope X.env).names.lookup x = some .cell \/ (relabel scope X.env).names.lookup x = some .free) : (x, NameKind.free) ∈ scope.names \/ (x, NameKind.cell) ∈ scope.names := by
 have e : (relabel scope X.env).names.lookup x = (scope.names.lookup x).map fun k => if (k == NameKind.free && X.env.scope.kind == .function && X.env.kindOf x == some .cell) then NameKind.cell else k := zdj
 rw [e] at h
 cases q : scope.names.lookup x with
 | none => rw [q] at h; simp at h
 | some k =>
  have hm := zeV q
  by_cases hk : k = .free
  ·subst hk; exact .inl hm
  ·rw [q] at h
   have hkf : (k == NameKind.free) = false := by simpa using hk
   simp only [Option.map_some, hkf, Bool.false_and, Bool.false_eq_true, if_false, Option.some.injEq] at h
   rcases h with h | h
   ·subst h; exact .inr hm
   ·exact absurd h hk
theorem zfY (I : Inv X pins σ H s) (b : BlkOk X scope) (h : (clOf scope X.env).lookup x = some c) : X.env.cells.lookup x = some c := zdz (zhC I b) (by simp) h
theorem zgs (I : Inv X pins σ H s) (b : BlkOk X scope) (h : (clC scope X.env C).lookup x = some c) : C < c \/ X.env.cells.lookup x = some c := by
 rcases zhr h with ⟨h1, _⟩ | h1
 ·exact .inl h1
 ·exact .inr (zfY I b h1)
theorem zkP (b : BlkOk X scope) (h : (x, NameKind.free) ∈ scope.names) : (clC scope X.env C).lookup x = (clOf scope X.env).lookup x := zk0 fun z => by
 have h1 := b.uniq _ h
 have h2 := b.uniq _ z
 simp only at h1 h2
 rw [h1] at h2
 cases h2
theorem blk_ok (I : Inv X pins σ H s) (b : BlkOk X scope) (hC : s.heap.objs.size <= C) (hf : ∀ b ∈ fp, FpOk X pins H b) (hfC : ∀ b ∈ fp, b < C) : (cxC X N scope C s H fp).Ok where
 mod := I.ok.mod
 kind := b.kind
 glob := I.ok.glob
 blt := I.ok.blt
 above := hC
 inj := zlX (fun x c h => by
  obtain ⟨v, hv⟩ := I.cell x c (zfY I b h)
  exact Nat.lt_succ_of_lt (Nat.lt_of_lt_of_le hv.lt hC)) fun x y c h1 h2 => I.ok.inj x y c (zfY I b h1) (zfY I b h2)
 has := fun x hx => by
  rcases blk_vis (x := x) hx with hm | hm
  ·show ∃ c, (clC scope X.env C).lookup x = some c
   rw [zkP b hm]
   exact Option.isSome_iff_exists.mp (zeS (.inl hm))
  ·obtain ⟨c, h, _⟩ := zkt (n := C + 1) (acc := clOf scope X.env) hm
   exact ⟨c, h⟩
 cab := fun x c h e => by
  have h' : ownC scope x = true := h
  unfold ownC at h'
  split at h'
  ·rename_i q
   obtain ⟨c', h1, h2⟩ := zkt (n := C + 1) (acc := clOf scope X.env) (zeV q)
   have e' : some c' = some c := h1.symm.trans e
   cases e'
   exact Nat.le_trans hC (Nat.le_of_succ_le h2)
  ·cases h'
 hd := I.ok.hd
 frames := I.ok.frames
 stk := .inl rfl
 exf := fun a ha => ⟨Nat.ne_of_lt (hfC a ha), fun x c e z => by
  rcases zgs I b e with q | q
  ·exact Nat.lt_asymm q (z ▸ hfC a ha)
  ·exact (hf a ha).2.2.2.2.1 x c q z⟩
 bs := I.bs
 bsz := Nat.le_trans I.ok.bsz I.sz
 noex := fun a o e ha => by
  rcases (hf a ha).2.2.2.1 with z | z
  ·exact I.ok.noex a o e z
  ·exact absurd (Nat.lt_of_lt_of_le (Heap.lt_size e) (Nat.le_trans I.ok.bsz z)) (Nat.lt_irrefl _)
 exfs := fun a ha hs => by
  rcases List.mem_cons.mp (I.stkSub a hs) with z | z
  ·exact (hf a ha).2.1 z
  ·exact (hf a ha).2.2.1 z
 funs := I.stack
 frf := I.stkFree
theorem zlD {tk : Nat} (I : Inv X pins σ H s) (b : BlkOk X scope) (hf : ∀ b ∈ fp, FpOk X pins H b) (hfs : ∀ b ∈ fp, b < s.heap.objs.size)
  (hns : h'.Ns s.heap.objs.size (fun _ => none)) (hk : ∀ a o, s.heap.get? a = some o -> h'.get? a = some o) (hcl : ∀ x c, (clC scope X.env s.heap.objs.size).lookup x = some c -> ∃ v, h'.IsCell c v) (hl : σc.length = N.length)
  (hσ : ∀ (i : Nat) (x : Str) (v : V), N[i]? = some x -> σc[i]? = some (some v) -> (x, NameKind.free) ∈ scope.names /\ ∃ j : Nat, X.N[j]? = some x /\ σ[j]? = some (some v)) (hloc : ∀ (i : Nat) (x : Str) (v : V), N[i]? = some x -> σc[i]? = some (some v) -> ¬ (relabel scope X.env).names.lookup x = some .local) :
  Inv (cxC X N scope s.heap.objs.size s H fp) [] σc H { s with heap := h', toks := tk } := by
 have ok := blk_ok (N := N) I b (Nat.le_refl _) hf hfs
 refine ⟨ok, rfl, I.bare, Un.kept hk, ⟨_, hns, fun i x v h1 h2 h3 => ?_⟩, fun x c e => ?_, I.hok.fresh (Nat.le_refl _), fun x c e => ?_, fun p hp => absurd (show p ∈ ([] : List (Addr × Obj)) from hp) (by simp), I.hok.kept hk, hl⟩
 ·obtain ⟨hm, j, hj, hv⟩ := hσ i x v h1 h2
  have hkind := b.free _ hm rfl
  obtain ⟨m, hn, hloc'⟩ := I.loc
  have hvis : Vis X.env.scope x := by
   rcases hkind with z | z
   ·exact .inr (.inl z)
   ·exact .inr (.inr z)
  obtain ⟨u, ru, lk⟩ := hloc' j x v hj hv hvis
  refine ⟨u, ru, ?_⟩
  rcases lk with ⟨z, _⟩ | ⟨_, c, ec, hc⟩
  ·exfalso
   rcases hkind with w | w <;> simp only at w <;> rw [z] at w <;> cases w
  ·refine .inr ⟨?_, c, ?_, ?_⟩
   ·rcases h3 with z | z | z
    ·exact absurd z (hloc i x v h1 h2)
    ·exact .inl z
    ·exact .inr z
   ·have hs : ((clOf scope X.env).lookup x).isSome = true := zeS (.inl hm)
    obtain ⟨c', ec'⟩ := Option.isSome_iff_exists.mp hs
    have := zdz (zhC I b) (by simp) ec'
    rw [ec] at this
    cases this
    exact (zkP b hm).trans ec'
   ·obtain ⟨o, ho, hd⟩ := hc
    exact ⟨o, hk _ _ ho, hd⟩
 ·exact hcl x c e
 ·rcases zgs I b e with q | q
  ·exact I.hok.fresh (Nat.le_of_lt q)
  ·exact I.freeC x c q
theorem zmE {h' : Heap} {s1 : Shared} (I : Inv X pins σ H s) (hf : ∀ b ∈ fp, FpOk X pins H b) (J : Inv (cxC X N scope s.heap.objs.size s H fp) [] σc H' s1) (hs : Heap.SameBut s.heap.objs.size s1.heap h') : Inv X pins σ H' { s1 with heap := h' } := by
 have kp : ∀ a o, a ≠ s.heap.objs.size -> s1.heap.get? a = some o -> h'.get? a = some o := fun a o ha e => hs.extBut a o ha e
 have free : H' s.heap.objs.size = none := J.free
 have ntr : ∀ a u, H' a = some u -> a ≠ s.heap.objs.size := fun a u e z => by rw [z, free] at e; cases e
 have lt : ∀ a o, s.heap.get? a = some o -> a ≠ s.heap.objs.size := fun a o e => Nat.ne_of_lt (Heap.lt_size e)
 have u : Un (frs X.stack) fp H H' s.heap s1.heap := J.base
 have u' : Un (frs X.stack) fp H H' s.heap h' := by
  refine ⟨fun a o e n hb hx => kp a o (lt a o e) (u.keep a o e n hb hx), fun a o e n hb hx => ?_, u.free, fun a o e hx => ?_, u.tups, u.frzs, u.tbls⟩
  ·obtain ⟨sl, q⟩ := u.slot a o e n hb hx
   exact ⟨sl, kp a _ (lt a o e) q⟩
  ·obtain ⟨o', q⟩ := u.there a o e hx
   exact ⟨o', kp a _ (lt a o e) q⟩
 have hok : HOk X.prog X.w H' h' := fun a o e => (J.hok a o e).stay (fun c v hc q => by
  refine kp c v ?_ q
  rcases hc with rfl | hc
  ·exact ntr _ _ e
  ·exact ntr _ _ hc) (fun _ q => q) fun _ _ q => q
 obtain ⟨hh, g, d, t, os'⟩ := s1
 have os : os' = s.os := J.os
 subst os
 have z := I.call (h' := h') (g' := g) (d' := d) (t' := t) (ch := fp) u' hok J.bare (fun a ha => ⟨(hf a ha).2.2.2.1, (hf a ha).2.1, (hf a ha).2.2.2.2.1, (hf a ha).2.2.2.2.2⟩)
 exact z
end
noncomputable def PTs (X : Cx) (ifs : List Expr) (t : TT) : Prop := ∀ (pins : List (Addr × Obj)) (s : Shared) (σ : St) (H : Hp) (Q : Bool -> Hp -> Prop), Inv X pins σ H s -> t σ H Q ->
 wpAny (model X.prog X.w) X.A (forIn ifs true fun c r => if r = true then do let ok <- isTrue c X.env (eval c X.env); pure (ForInStep.yield ok) else pure (ForInStep.yield r)) (TP X pins σ Q) X.xe s
theorem pts_nil : PTs X [] (fun _ H Q => Q true H) := fun pins s σ H Q I h => wpAny_tests_nil ⟨H, I, h⟩
theorem pts_one {c : Expr} {t : TT} (h : PT X c t) : PTs X [c] t := fun pins s σ H Q I hw => wpAny_tests_one (h pins s σ H Q I hw)
theorem zjR {R : Result -> Shared -> Prop} {s : Shared} {elt target iter : Expr} {it acc : Value} (I : Nat -> Shared -> Prop)
  (turn : ∀ n s, I n s -> wpAny (model prog w) A (pyNext it) (fun r s₁ => match r with
   | none => R (.ok .next) s₁
   | some v => wpAny (model prog w) A (letOwnedTupleGo target it v) (fun _ s₁' => wpAny (model prog w) A (assign target env v) (fun _ s₂ =>
     wpAny (model prog w) A (forIn ifs true fun c r => if r = true then do let ok <- isTrue c env (eval c env); pure (ForInStep.yield ok) else pure (ForInStep.yield r)) (fun ok s₃ =>
      if ok = true then wpAny (model prog w) A (eval elt env) (fun x s₄ =>
       wpAny (model prog w) A (call (.builtin "list.append") [acc, x]) (fun _ s₅ => ∃ m, m < n /\ I m s₅) (fun _ _ => False) s₄) (fun _ _ => False) s₃
      else ∃ m, m < n /\ I m s₃) (fun _ _ => False) s₂) (fun _ _ => False) s₁') (fun _ _ => False) s₁) (fun _ _ => False) s)
  (n : Nat) (h : I n s) : codeAny (model prog w) A (.compLoop (.ListComp elt [⟨target, iter, ifs, 0⟩] scope pos) 0 it acc env) R s := by
 refine codeAny_loop rfl I (fun n s hI => ?_) n h
 show wpAny _ A ((compTurn (.ListComp elt [⟨target, iter, ifs, 0⟩] scope pos) 0 it acc env).onRaise (fun x => do noteFrame x env; theTreesLotGoes x)) _ _ s
 refine wpAny_noted ?_
 rw [compTurn_list]
 have no : ∀ {E : Value -> Shared -> Prop}, ∀ x s', (fun (_ : Value) (_ : Shared) => False) x s' -> E x s' := fun _ _ z => z.elim
 refine wpAny_bind (wpAny_standAt (wpAny_bind (wpAny_mono (turn n s hI) (fun r s₁ h₁ => ?_) no)))
 cases r with
 | none => exact wpAny_pure h₁
 | some v =>
  refine wpAny_bind (wpAny_mono h₁ (fun _ s₁' h₁' => ?_) no)
  refine wpAny_bind (wpAny_mono h₁' (fun _ s₂ h₂ => wpAny_bind (wpAny_mono h₂ (fun ok s₃ h₃ => ?_) no)) no)
  cases ok with
  | false => exact wpAny_pure ⟨rfl, h₃⟩
  | true =>
   exact wpAny_bind (wpAny_bind (wpAny_mono h₃ (fun x s₄ h₄ => wpAny_bind (wpAny_mono h₄ (fun _ s₅ h₅ => wpAny_pure (wpAny_pure ⟨rfl, h₅⟩)) no)) no))
noncomputable def tLC (σ0 : St -> St) (wi : TI) (g : Addr -> Shared -> Hp -> List Addr -> TG) (tt : Addr -> Shared -> Hp -> List Addr -> TT) (te : Addr -> Shared -> Hp -> List Addr -> TE) : TE := fun σ H Q => wi σ H fun J H1 => ∀ D, H1 D = none -> ∃ W : Nat -> Nat -> St -> Hp -> Prop, (∃ m, W 0 m (σ0 σ) (upd H1 D (.lst []))) /\ ∀ i m σ H, W i m σ H ->
 (J.stop i H /\ Q (.ref D) H) \/ (J.go i H /\ ∀ C s₀ H₀ fp x H', J.yld i H x H' -> g C s₀ H₀ fp x σ H' fun σ2 H2 => tt C s₀ H₀ fp σ2 H2 fun ok H3 => if ok = true then te C s₀ H₀ fp σ2 H3 fun v H4 => ∃ xs, H4 D = some (.lst xs) /\ xs.length < sizeLine /\ ∃ m', m' < m /\ W (i + 1) m' σ2 (upd H4 D (.lst (xs ++ [v])))
  else ∃ m', m' < m /\ W (i + 1) m' σ2 H3)
section
variable {X : Cx} {elt iter tg : Expr} {ifs : List Expr} {scope : Scope} {pos : Pos} {N : List Str} {σ0 : St -> St} {wi : TI} {g : Addr -> Shared -> Hp -> List Addr -> TG} {tt : Addr -> Shared -> Hp -> List Addr -> TT} {te : Addr -> Shared -> Hp -> List Addr -> TE}
structure Cap (X : Cx) (scope : Scope) (N : List Str) (σ0 : St -> St) : Prop where
 len : ∀ σ, (σ0 σ).length = N.length
 src : ∀ (σ : St) (i : Nat) (x : Str) (v : V), N[i]? = some x -> (σ0 σ)[i]? = some (some v) -> (x, NameKind.free) ∈ scope.names /\ ∃ j : Nat, X.N[j]? = some x /\ σ[j]? = some (some v)
 loc : ∀ (σ : St) (i : Nat) (x : Str) (v : V), N[i]? = some x -> (σ0 σ)[i]? = some (some v) -> ¬ (relabel scope X.env).names.lookup x = some .local
theorem zm3 {E : Value -> Shared -> Prop} (hc : X.calm = true) (b : BlkOk X scope) (cap : Cap X scope N σ0) (hi : PI X tg iter wi) (hg : ∀ C s H fp, PG (cxC X N scope C s H fp) tg (g C s H fp)) (ht : ∀ C s H fp, PTs (cxC X N scope C s H fp) ifs (tt C s H fp)) (he : ∀ C s H fp, PE (cxC X N scope C s H fp) elt (te C s H fp))
  {pins : List (Addr × Obj)} {s : Shared} {σ : St} {H : Hp} {Q : VK} (I : Inv X pins σ H s) (h : tLC σ0 wi g tt te σ H Q) {QQ : Value -> Shared -> Prop} {p0 : Pos}
  (hs : ∀ x, foldedSetIterable iter X.env x = pure x)
  (fin : match use with
   | none => ∀ u s', EP X pins σ Q u s' -> QQ u s'
   | some f => ∀ (D : Addr) (fp : List Addr) (C : Addr) (H1 H' : Hp) (σc : St) (s1 s' : Shared), Inv X pins σ H1 s1 -> (∀ b ∈ fp, FpOk X pins H1 b) -> C = s1.heap.objs.size -> Inv (cxC X N scope C s1 H1 fp) [] σc H' s' -> Q (.ref D) H' ->
     wpAny (model X.prog X.w) X.A (f (.ref D)) (fun _ s'' => ∃ m, s''.heap.Ns C m /\ ∀ h', Heap.SameBut C s''.heap h' -> QQ .none { s'' with heap := h' }) X.xe s') :
  wpAny (model X.prog X.w) X.A (comprehension (.ListComp elt [⟨tg, iter, ifs, 0⟩] scope pos) scope X.env p0 (newList []) false (eval iter X.env) use) QQ X.xe s := by
 refine wpAny_comprehension_free (cl := clOf scope X.env) (g := ⟨tg, iter, ifs, 0⟩) (gs := []) rfl hs (zk6 (zhC I b)) b.kind (fun x hx hl => hl ▸ b.uniq x hx) ?_
 refine thn (hi pins s σ H _ I h) fun v s1 h1 => thn h1 fun itv s2 h2 => ?_
 obtain ⟨it, fp, tn, J, H2, e, I2, T, st2, f2, h3⟩ := h2
 subst e
 refine wpAny_newObj_type ?_ (by show (0 : Nat) <= sizeLine; exact Nat.zero_le _)
 have hD : H2 s2.heap.objs.size = none := I2.fresh
 obtain ⟨W, ⟨m0, w0⟩, turn⟩ := h3 _ hD
 have I3 : Inv X pins σ (upd H2 s2.heap.objs.size (.lst [])) { s2 with heap := s2.heap.push { cls := .type "list", data := .seq ([] : List Value).toArray } } := I2.lnew (t' := s2.toks) .nil (Nat.zero_le _)
 have f3 : ∀ b ∈ fp, FpOk X pins (upd H2 s2.heap.objs.size (.lst [])) b := fun b hb => by
  obtain ⟨a1, a2⟩ := f2 b hb
  obtain ⟨o, ho, _⟩ := T.obj _ _ st2 b hb
  exact ⟨by rw [zay (Nat.ne_of_lt (Heap.lt_size ho))]; exact a1, a2⟩
 have st3 : tn 0 (s2.heap.push { cls := .type "list", data := .seq ([] : List Value).toArray }) := T.keep _ _ _ st2 fun b hb o e => Heap.get?_push_of_some _ e
 generalize hs3 : ({ s2 with heap := s2.heap.push { cls := .type "list", data := .seq ([] : List Value).toArray } } : Shared) = s3 at I3
 have hs3' : s3.heap = s2.heap.push { cls := .type "list", data := .seq ([] : List Value).toArray } := by rw [<- hs3]
 rw [<- hs3'] at st3
 have hfs : ∀ b ∈ fp, b < s3.heap.objs.size := fun b hb => by
  obtain ⟨o, ho, _⟩ := T.obj _ _ st3 b hb
  exact Heap.lt_size ho
 show wpAny _ _ (newFunctionEnv scope X.env.globals (clOf scope X.env) [] X.env.qual none .none (some X.env)) _ _ s3
 refine zjV fun h' hns hk hcl => ?_
 have hcl := hcl fun x c e => I3.cell x c (zfY I3 b e)
 generalize hDD : s2.heap.objs.size = DD at *
 have B0 : Inv (cxC X N scope s3.heap.objs.size s3 (upd H2 DD (.lst [])) fp) [] (σ0 σ) (upd H2 DD (.lst [])) { s3 with heap := h' } :=
  zlD (tk := s3.toks) I3 b f3 hfs hns hk hcl (cap.len σ) (cap.src σ) (cap.loc σ)
 have stat : ∀ {H' : Hp}, (∀ b ∈ fp, H' b = none) -> ∀ b ∈ fp, FpOk (cxC X N scope s3.heap.objs.size s3 (upd H2 DD (.lst [])) fp) [] H' b := fun hn b' hb => by
  refine ⟨hn b' hb, Nat.ne_of_lt (hfs b' hb), fun z => ?_, .inl hb, fun x c e => ?_, fun p hp => absurd (show p ∈ ([] : List (Addr × Obj)) from hp) (by simp)⟩
  ·rcases List.mem_cons.mp (I3.stkSub b' z) with w | w
   ·exact (f3 b' hb).2.1 w
   ·exact (f3 b' hb).2.2.1 w
  ·intro z
   rcases zgs I3 b e with q | q
   ·exact Nat.lt_asymm q (z ▸ hfs b' hb)
   ·exact (f3 b' hb).2.2.2.2.1 x c q z
 have tn0 : tn 0 h' := T.keep _ _ _ st3 fun b' hb o e => hk b' o e
 have post : ∀ (s' : Shared) (σc : St) (H' : Hp), Inv (cxC X N scope s3.heap.objs.size s3 (upd H2 DD (.lst [])) fp) [] σc H' s' -> Q (.ref DD) H' -> compPost (model X.prog X.w) X.A X.xe use QQ (.ref DD) s3.heap.objs.size (.ok .next) s' := fun s' σc H' J' q => by
  cases use with
  | none =>
   obtain ⟨m, hn, _⟩ := J'.loc
   exact ⟨m, hn, fun h'' hs'' => fin _ _ ⟨.ref DD, H', zmE I3 f3 J' hs'', rfl, q⟩⟩
  | some f => exact fin DD fp _ _ H' σc s3 s' I3 f3 rfl J' q
 have loop : codeAny (model X.prog X.w) X.A (.compLoop (.ListComp elt [⟨tg, iter, ifs, 0⟩] scope pos) 0 (.ref it) (.ref DD) (compEnvC scope (clC scope X.env s3.heap.objs.size) s3.heap.objs.size X.env)) (compPost (model X.prog X.w) X.A X.xe use QQ (.ref DD) s3.heap.objs.size) { s3 with heap := h' } := by
  refine zjR (fun n s' => ∃ i σ' H', Inv (cxC X N scope s3.heap.objs.size s3 (upd H2 DD (.lst [])) fp) [] σ' H' s' /\ tn i s'.heap /\ (∀ b ∈ fp, H' b = none) /\ W i n σ' H') ?_ m0 ⟨0, σ0 σ, _, B0, tn0, fun b' hb => (f3 b' hb).1, w0⟩
  rintro n s5 ⟨i, σ5, H5, I5, st5, fr5, w5⟩
  rcases turn i n σ5 H5 w5 with ⟨stop, qn⟩ | ⟨go, step⟩
  ·refine thn (T.done (cxC X N scope s3.heap.objs.size s3 (upd H2 DD (.lst [])) fp) rfl rfl rfl hc i [] s5 σ5 H5 (fun _ _ => False) I5 (stat fr5) st5 stop) fun r s6 ⟨hr, I6⟩ => ?_
   subst hr
   exact post s6 σ5 H5 I6 qn
  ·refine thn (T.item (cxC X N scope s3.heap.objs.size s3 (upd H2 DD (.lst [])) fp) rfl rfl rfl hc i [] s5 σ5 H5 (fun _ _ => False) I5 (stat fr5) st5 go) fun r s6 ⟨u, hr, h6⟩ => ?_
   subst hr
   refine thn h6 fun _ s7 ⟨x, H7, I7, r7, y7, st7, fr7⟩ => ?_
   have I7' := I7.pinned (stat fr7) (T.obj _ _ st7)
   have again : ∀ {σ8 : St} {H8 : Hp} {s8 : Shared} {m' : Nat}, Inv (cxC X N scope s3.heap.objs.size s3 (upd H2 DD (.lst [])) fp) ([] ++ zjG fp s7.heap) σ8 H8 s8 -> m' < n -> W (i + 1) m' σ8 H8 ->
     ∃ m, m < n /\ ∃ i σ' H', Inv (cxC X N scope s3.heap.objs.size s3 (upd H2 DD (.lst [])) fp) [] σ' H' s8 /\ tn i s8.heap /\ (∀ b ∈ fp, H' b = none) /\ W i m σ' H' := fun {σ8 H8 s8 m'} I8 hm w8 => by
    refine ⟨m', hm, i + 1, σ8, H8, I8.unpinned, T.keep _ _ _ st7 fun b' hb o e => (I8.pin (b', o) (List.mem_append_right _ (List.mem_append_right _ (zeX hb e)))).1, fun b' hb => ?_, w8⟩
    obtain ⟨o, e, d⟩ := T.obj _ _ st7 b' hb
    exact (I8.pin (b', o) (List.mem_append_right _ (List.mem_append_right _ (zeX hb e)))).2.1
   refine thn (hg _ _ _ _ _ s7 σ5 H7 x u _ I7' r7 (step _ _ _ _ x H7 y7)) fun _ s8 ⟨σ8, H8, I8, q8⟩ => ?_
   refine thn (ht _ _ _ _ _ s8 σ8 H8 _ I8 q8) fun ok s9 ⟨H9, I9, q9⟩ => ?_
   cases ok with
   | false =>
    obtain ⟨m', hm, w9⟩ := q9
    exact again I9 hm w9
   | true =>
    refine thn (he _ _ _ _ _ s9 σ8 H9 _ I9 q9) fun u10 s10 ⟨v10, H10, I10, r10, xs, hx, hz, m', hm, w10⟩ => ?_
    refine thn (ziS _ s10 σ8 H10 (.ref DD) [v10] (.ref DD) [u10] (fun v H' => v = .non /\ H' = upd H10 DD (.lst (xs ++ [v10]))) I10 rfl (.cons r10 .nil) ⟨DD, xs, v10, rfl, rfl, hx, hz, rfl, rfl⟩) fun _ s11 ⟨_, H11, I11, _, _, e11⟩ => ?_
    subst e11
    exact again I11 hm w10
 exact codeAny_compStart_list loop (T.self _ _ _ _ _ tn0 loop)
theorem pe_lc (hc : X.calm = true) (b : BlkOk X scope) (cap : Cap X scope N σ0) (hi : PI X tg iter wi) (hg : ∀ C s H fp, PG (cxC X N scope C s H fp) tg (g C s H fp)) (ht : ∀ C s H fp, PTs (cxC X N scope C s H fp) ifs (tt C s H fp)) (he : ∀ C s H fp, PE (cxC X N scope C s H fp) elt (te C s H fp))
    (hs : ∀ x, foldedSetIterable iter X.env x = pure x := by exact fun _ => rfl) : PE X (.ListComp elt [⟨tg, iter, ifs, 0⟩] scope pos) (tLC σ0 wi g tt te) := by
  intro pins s σ H Q I h
  rw [eval_ListComp]
  exact zm3 (use := none) (E := X.xe) hc b cap hi hg ht he I h hs (fun u s' q => q)
end
noncomputable def zdB (ρ : R) : Bool := ρ.all fun s => match s with
 | .own _ => false
 | .par _ => false
 | .tre _ => false
 | .ptr _ => false
 | _ => true
theorem zkW (h : zdB ρ = true) {a : Addr} (e : ρ[i]? = some s) : ¬ OwS K G H ov a s := fun w => by
 unfold zdB at h
 rw [List.all_eq_true] at h
 have := h s (List.mem_of_getElem? e)
 cases s with
 | emp => exact w
 | two _ _ => exact w
 | val d => exact w
 | _ => exact absurd (show false = true from this) Bool.false_ne_true
theorem zg7 (h : zdB ρ = true) (e : ρ[i]? = some s) : (∀ t, s ≠ .tre t) /\ ∀ t, s ≠ .ptr t := by
 unfold zdB at h
 rw [List.all_eq_true] at h
 have := h s (List.mem_of_getElem? e)
 constructor
 ·rintro t rfl; exact absurd (show false = true from this) Bool.false_ne_true
 ·rintro t rfl; exact absurd (show false = true from this) Bool.false_ne_true
theorem zg5 (h : zdB ρ = true) : ¬ Wr ρ i := fun ⟨s, ds, e, q⟩ => by
 unfold zdB at h
 rw [List.all_eq_true] at h
 have := h s (List.mem_of_getElem? e)
 cases s with
 | emp => cases q
 | two _ _ => cases q
 | tre _ => cases q
 | ptr _ => cases q
 | val d => cases q
 | own d => exact absurd (show false = true from this) Bool.false_ne_true
 | par d => exact absurd (show false = true from this) Bool.false_ne_true
structure VS (K : W.Frag) (G : Hp) (σ : St) (ρ : R) : Prop where
 len : σ.length = ρ.length
 no : zdB ρ = true
 val : ∀ (i : Nat) d, ρ[i]? = some (.val d) -> ∃ v, σ[i]? = some (some v) /\ RepD K G v d
theorem VS.si (h : VS K G σ ρ) (fz : Fz G H) : SI K ⟨G, H, []⟩ G H σ ρ where
 fz := fz
 g0 := Fz.refl G
 new := fun b o e => .inl (by show G b ≠ none; rw [e]; simp)
 keep := fun b o e _ => e
 there := fun b e => e
 ob := fun i b m => by cases m
 len := h.len
 slot := fun i s e => by
  cases s with
  | emp => trivial
  | two _ _ => trivial
  | tre t => exact absurd rfl ((zg7 h.no e).1 t)
  | ptr t => exact absurd rfl ((zg7 h.no e).2 t)
  | val d => exact h.val i d e
  | own ds => exact absurd ⟨_, ds, e, rfl⟩ (zg5 h.no (i := i))
  | par ds => exact absurd ⟨_, ds, e, rfl⟩ (zg5 h.no (i := i))
 dis := fun i j s _ a _ e _ w => absurd w (zkW h.no e)
theorem VS.of (I : SI K B G H σ ρ) (h : zdB ρ = true) : VS K G σ ρ := ⟨I.len, h, fun i d e => I.slot i _ e⟩
noncomputable def fz1 (i : Nat) (ρ : R) : R := match ρ[i]? with
 | some (.own ds) => ρ.set i (.val (.lst ds))
 | _ => ρ
noncomputable def fzL : List Nat -> R -> R
 | [], ρ => ρ
 | i :: is, ρ => fzL is (fz1 i ρ)
theorem SI.fz1 (I : SI K B G H σ ρ) (i : Nat) : ∃ G', SI K B G' H σ (M.fz1 i ρ) /\ Fz G G' := by
 unfold M.fz1
 cases e : ρ[i]? with
 | none => exact ⟨G, I, Fz.refl G⟩
 | some s =>
  cases s with
  | own ds => obtain ⟨l, xs, _, f, _, I'⟩ := I.freeze e; exact ⟨_, I', f⟩
  | emp => exact ⟨G, I, Fz.refl G⟩
  | two _ _ => exact ⟨G, I, Fz.refl G⟩
  | tre _ => exact ⟨G, I, Fz.refl G⟩
  | ptr _ => exact ⟨G, I, Fz.refl G⟩
  | val _ => exact ⟨G, I, Fz.refl G⟩
  | par _ => exact ⟨G, I, Fz.refl G⟩
theorem SI.fzL : ∀ (is : List Nat) {G : Hp} {ρ : R}, SI K B G H σ ρ -> ∃ G', SI K B G' H σ (M.fzL is ρ) /\ Fz G G'
 | [], G, ρ, I => ⟨G, I, Fz.refl G⟩
 | i :: is, G, ρ, I => by
  obtain ⟨G1, I1, f1⟩ := I.fz1 i
  obtain ⟨G2, I2, f2⟩ := SI.fzL is I1
  exact ⟨G2, I2, f1.trans f2⟩
noncomputable def capS (ρ : R) (i : Nat) : Sl := match ρ[i]? with
 | some (.val d) => .val d
 | _ => .emp
theorem zk7 (ρ : R) (i : Nat) : capS ρ i = .emp \/ ∃ d, capS ρ i = .val d := by
 unfold capS
 split
 ·exact .inr ⟨_, rfl⟩
 ·exact .inl rfl
noncomputable def capR (cap : List Nat) (t : Nat) (ρ : R) : R := cap.map (capS ρ) ++ List.replicate t .emp
noncomputable def capσ (cap : List Nat) (t : Nat) (σ : St) : St := cap.map (fun i => (σ[i]?).join) ++ List.replicate t none
theorem cap_vs (I : SI K B G H σ ρ) (cap : List Nat) (t : Nat) : VS K G (capσ cap t σ) (capR cap t ρ) where
 len := by unfold capσ capR; simp
 no := by
  unfold zdB capR
  rw [List.all_eq_true]
  intro s hs
  rcases List.mem_append.mp hs with h | h
  ·obtain ⟨i, _, rfl⟩ := List.mem_map.mp h
   rcases zk7 ρ i with e | ⟨d, e⟩
   ·rw [e]
   ·rw [e]
  ·rw [List.eq_of_mem_replicate h]
 val := fun i d e => by
  unfold capR at e
  by_cases hi : i < cap.length
  ·rw [List.getElem?_append_left (by simpa using hi), List.getElem?_map, List.getElem?_eq_getElem hi] at e
   have e' : capS ρ cap[i] = .val d := by simpa using e
   unfold capS at e'
   split at e'
   ·rename_i d' q
    cases e'
    obtain ⟨v, h1, h2⟩ := I.slot _ _ q
    refine ⟨v, ?_, h2⟩
    unfold capσ
    rw [List.getElem?_append_left (by simpa using hi), List.getElem?_map, List.getElem?_eq_getElem hi]
    simp [h1]
   ·cases e'
  ·rw [List.getElem?_append_right (by simpa using hi), List.getElem?_replicate] at e
   split at e
   ·cases e
   ·cases e
noncomputable def zcV (f : D -> R -> Option (Option D × R)) : List D -> R -> Option (List D × R)
 | [], ρ => some ([], ρ)
 | d :: ds, ρ => (f d ρ).bind fun p => (zcV f ds p.2).map fun q => (p.1.toList ++ q.1, q.2)
noncomputable def zhb (g : D -> R -> Option R) (mt : MT) (me : ME) : D -> R -> Option (Option D × R) := fun d ρ => (g d ρ).bind fun ρ1 => (mt ρ1).bind fun p => if p.1 then (me p.2).bind fun q => if zdB q.2 then some (some q.1, q.2) else none else if zdB p.2 then some (none, p.2) else none
noncomputable def oLC (cap : List Nat) (t : Nat) (mi : MA) (g : D -> R -> Option R) (mt : MT) (me : ME) : MO := fun ρ => (mi ρ).bind fun p => if p.1.length <= 16777216 then (zcV (zhb g mt me) p.1 (capR cap t (fzL cap p.2))).map fun q => (q.1, fzL cap p.2) else none
noncomputable def STs (X : Cx) (ifs : List Expr) (m : MT) : Prop :=
 ∃ t, PTs X ifs t /\ ∀ B G H σ ρ d ρ' (Q : Bool -> Hp -> Prop), SI X.K B G H σ ρ -> m ρ = some (d, ρ') -> (∀ G' H', SI X.K B G' H' σ ρ' -> Fz G G' -> Q d H') -> t σ H Q
noncomputable def zbh : MT := fun ρ => some (true, ρ)
theorem zaG : STs X [] zbh := ⟨_, pts_nil, fun B G H σ ρ d ρ' Q I hm k => by cases hm; exact k G H I (Fz.refl G)⟩
theorem zlP {c : Expr} (h : STt X c m) : STs X [c] m := let ⟨t, p, s⟩ := h; ⟨t, pts_one p, s⟩
noncomputable def blkB (env : Env) (scope : Scope) : Bool := (scope.names.all fun x => scope.names.lookup x.1 == some x.2 && (x.2 != .free || (env.kindOf x.1 == some .cell || env.kindOf x.1 == some .free)))
theorem zlB (hk : scope.kind = .function) (h : blkB X.env scope = true) : BlkOk X scope := by
 unfold blkB at h
 rw [List.all_eq_true] at h
 refine ⟨hk, fun x hx => ?_, fun x hx hf => ?_⟩
 ·have := h x hx
  simp only [Bool.and_eq_true, Bool.or_eq_true, bne_iff_ne, beq_iff_eq] at this
  exact this.1
 ·have := h x hx
  simp only [Bool.and_eq_true, Bool.or_eq_true, bne_iff_ne, beq_iff_eq] at this
  exact (this.2).resolve_left (fun z => z hf)
noncomputable def capB (names : List (Str × NameKind)) (N XN : List Str) (cap : List Nat) (t : Nat) : Bool := N.length == cap.length + t && (cap.zip N).all fun p => XN[p.1]? == some p.2 && names.lookup p.2 == some .free
theorem zms (h : capB scope.names N X.N cap t = true) : Cap X scope N (capσ cap t) := by
 unfold capB at h
 rw [Bool.and_eq_true, List.all_eq_true] at h
 obtain ⟨hl, h⟩ := h
 have hl : N.length = cap.length + t := by simpa using hl
 have key : ∀ (σ : St) (i : Nat) (x : Str) (v : V), N[i]? = some x -> (capσ cap t σ)[i]? = some (some v) -> ∃ j, cap[i]? = some j /\ σ[j]? = some (some v) /\ X.N[j]? = some x /\ scope.names.lookup x = some .free := fun σ i x v h1 h2 => by
  unfold capσ at h2
  by_cases hi : i < cap.length
  ·rw [List.getElem?_append_left (by simpa using hi), List.getElem?_map, List.getElem?_eq_getElem hi] at h2
   have h3 : (σ[cap[i]]?).join = some v := by simpa using h2
   have hz : (cap[i], x) ∈ cap.zip N := by
    refine List.mem_of_getElem? (i := i) ?_
    rw [List.getElem?_zip_eq_some]
    exact ⟨List.getElem?_eq_getElem hi, h1⟩
   have := h _ hz
   simp only [Bool.and_eq_true, beq_iff_eq] at this
   refine ⟨cap[i], List.getElem?_eq_getElem hi, ?_, this.1, this.2⟩
   cases q : σ[cap[i]]? with
   | none => rw [q] at h3; cases h3
   | some o => rw [q] at h3; rw [show o = some v from h3]
  ·rw [List.getElem?_append_right (by simpa using hi), List.getElem?_replicate] at h2
   split at h2 <;> cases h2
 refine ⟨fun σ => by unfold capσ; simp [hl], fun σ i x v h1 h2 => ?_, fun σ i x v h1 h2 z => ?_⟩
 ·obtain ⟨j, _, a, b, c⟩ := key σ i x v h1 h2
  exact ⟨zeV c, j, b, a⟩
 ·obtain ⟨j, _, a, b, c⟩ := key σ i x v h1 h2
  have e : (relabel scope X.env).names.lookup x = (scope.names.lookup x).map fun k => if (k == NameKind.free && X.env.scope.kind == .function && X.env.kindOf x == some .cell) then NameKind.cell else k := zdj
  rw [e, c] at z
  simp only [Option.map_some, Option.some.injEq] at z
  split at z <;> cases z
structure LcV (K : W.Frag) (g : D -> R -> Option R) (mt : MT) (me : ME) (items all : List D) (G2 H1 : Hp) (DD : Addr) (i : Nat) (σc : St) (Hc Gc : Hp) (ρc : R) (acc : List D) (xs : List V) (rest : List D) (ρe : R) : Prop where
 fc : Fz G2 Gc
 fcH : Fz Gc Hc
 nw : ∀ b o, Gc b = some o -> G2 b ≠ none \/ H1 b = none
 kp : ∀ b o, H1 b = some o -> Hc b = some o
 gD : Gc DD = none
 hDc : Hc DD = some (.lst xs)
 ra : RepL K Gc xs acc
 hx : xs.length <= i
 vs : VS K Gc σc ρc
 ec : zcV (zhb g mt me) (items.drop i) ρc = some (rest, ρe)
 eall : all = acc ++ rest
section
variable {X : Cx} {elt iter tg : Expr} {ifs : List Expr} {scope : Scope} {pos : Pos} {N : List Str} {cap : List Nat} {t : Nat} {mi : MA} {g : D -> R -> Option R} {mt : MT} {me : ME}
theorem zkT 
  (si : ∀ B G H σ ρ ds ρ' (Q : It -> Hp -> Prop), SI X.K B G H σ ρ -> mi ρ = some (ds, ρ') -> (∀ J G' H', SI X.K B G' H' σ ρ' -> Fz G G' -> Itm X.K J G' ds -> Q J H') -> wi σ H Q)
  (sg : ∀ C s H₀ fp B G H σ ρ v d ρ' (Q : St -> Hp -> Prop), SI X.K B G H σ ρ -> RepD X.K G v d -> g d ρ = some ρ' -> (∀ G' H' σ', SI X.K B G' H' σ' ρ' -> Fz G G' -> Q σ' H') -> tg' C s H₀ fp v σ H Q)
  (st : ∀ C s H₀ fp B G H σ ρ d ρ' (Q : Bool -> Hp -> Prop), SI X.K B G H σ ρ -> mt ρ = some (d, ρ') -> (∀ G' H', SI X.K B G' H' σ ρ' -> Fz G G' -> Q d H') -> tt C s H₀ fp σ H Q)
  (se : ∀ C s H₀ fp B G H σ ρ d ρ' (Q : VK), SI X.K B G H σ ρ -> me ρ = some (d, ρ') -> (∀ G' H' v, SI X.K B G' H' σ ρ' -> Fz G G' -> RepD X.K G' v d -> Q v H') -> te C s H₀ fp σ H Q) :
  ∀ B G H σ ρ ds ρ' (Q : VK), SI X.K B G H σ ρ -> oLC cap t mi g mt me ρ = some (ds, ρ') ->
   (∀ G' H' l xs, SI X.K B G' H' σ ρ' -> Fz G G' -> G' l = none -> H' l = some (.lst xs) -> RepL X.K G' xs ds -> B.H l = none -> Nw X.K G' H' σ ρ' l -> Q (.ref l) H') -> tLC (capσ cap t) wi tg' tt te σ H Q := by
 intro B G H σ ρ ds ρ' Q I hm k
 obtain ⟨⟨items, ρ1⟩, e1, hm⟩ := zah hm
 refine si B G H σ ρ items ρ1 _ I e1 fun J G1 H1 I1 f1 IT DD hD => ?_
 dsimp only at hm
 split at hm
 ·rename_i hlen
  obtain ⟨⟨all, ρf⟩, e2, e3⟩ := zaH hm
  obtain ⟨rfl, rfl⟩ := Prod.mk.inj e3
  obtain ⟨G2, I2, f2⟩ := SI.fzL cap I1
  have hDG : G2 DD = none := I2.fz.free hD
  refine ⟨fun i m σc Hc => m = items.length - i /\ i <= items.length /\ ∃ Gc ρc acc xs rest ρe, LcV X.K g mt me items all G2 H1 DD i σc Hc Gc ρc acc xs rest ρe,
   ⟨items.length, by simp, Nat.zero_le _, G2, capR cap t (M.fzL cap ρ1), [], [], all, ρf, { fc := Fz.refl _, fcH := I2.fz.right hDG _, nw := fun b o e => .inl (by rw [e]; simp), kp := fun b o e => by rw [zay (zaP e hD)]; exact e, gD := hDG, hDc := zaO, ra := .nil, hx := Nat.le_refl _, vs := cap_vs I2 cap t, ec := by simpa using e2, eall := rfl }⟩, ?_⟩
  rintro i m σc Hc ⟨rfl, hi, Gc, ρc, acc, xs, rest, ρe, J0⟩
  obtain ⟨fc, fcH, nw, kp, gD, hDc, ra, hx, vs, ec, eall⟩ := J0
  by_cases hlt : i < items.length
  ·refine .inr ⟨IT.go Hc i (f2.trans (fc.trans fcH)) hlt, fun C s₀ H₀ fp x H' y => ?_⟩
   rw [List.drop_eq_getElem_cons hlt] at ec
   simp only [zcV] at ec
   obtain ⟨⟨o, ρ3⟩, h3, ec⟩ := zah ec
   obtain ⟨⟨rest2, ρ4⟩, h4, ec⟩ := zaH ec
   obtain ⟨rfl, rfl⟩ := Prod.mk.inj ec
   dsimp only at h4
   unfold zhb at h3
   obtain ⟨ρ5, h5, h3⟩ := zah h3
   obtain ⟨⟨ok, ρ6⟩, h6, h3⟩ := zah h3
   dsimp only at h3
   have Ic : SI X.K ⟨Gc, Hc, []⟩ Gc Hc σc ρc := vs.si fcH
   have fz2 : Fz G1 Hc := f2.trans (fc.trans fcH)
   have yy := IT.yld Hc i x H' fz2 y items[i] (List.getElem?_eq_getElem hlt)
   have yy2 : (H' = Hc /\ RepD X.K Gc x items[i]) \/ ∃ p xs es, Hc p = none /\ H' = upd Hc p (.tup xs) /\ x = .ref p /\ items[i] = .tup es /\ RepL X.K Gc xs es := by
    rcases yy with ⟨a, b⟩ | ⟨p, xs, es, a, b, c, d, e⟩
    ·exact .inl ⟨a, b.mono (f2.trans fc)⟩
    ·exact .inr ⟨p, xs, es, a, b, c, d, e.mono (f2.trans fc)⟩
   obtain ⟨G3, I3, f3, r3⟩ := Ic.yld yy2
   refine sg C s₀ H₀ fp _ G3 H' σc ρc x items[i] ρ5 _ I3 r3 h5 fun G4 H4 σ4 I4 f4 => st C s₀ H₀ fp _ G4 H4 σ4 ρ5 ok ρ6 _ I4 h6 fun G5 H5 I5 f5 => ?_
   have facts : ∀ (G' H' : Hp) (σ' : St) (ρ' : R), SI X.K ⟨Gc, Hc, []⟩ G' H' σ' ρ' -> (∀ b o, G' b = some o -> G2 b ≠ none \/ H1 b = none) /\ (∀ b o, H1 b = some o -> H' b = some o) /\ G' DD = none /\ H' DD = some (.lst xs) := fun G' H' σ' ρ' I' => by
    refine ⟨fun b o e => ?_, fun b o e => I'.keep b o (kp b o e) (by simp), ?_, I'.keep DD _ hDc (by simp)⟩
    ·rcases I'.new b o e with h | h
     ·have h : Gc b ≠ none := h
      cases q : Gc b with
      | none => exact absurd q h
      | some u => exact nw b u q
     ·refine .inr ?_
      cases q : H1 b with
      | none => rfl
      | some u => have := kp b u q; rw [show Hc b = none from h] at this; cases this
    ·cases q : G' DD with
     | none => rfl
     | some u =>
      rcases I'.new DD u q with h | h
      ·exact absurd gD h
      ·rw [show Hc DD = none from h] at hDc; cases hDc
   cases ok with
   | false =>
    simp only [Bool.false_eq_true, if_false] at h3
    split at h3
    ·rename_i hno
     cases h3
     obtain ⟨a1, a2, a3, a4⟩ := facts G5 H5 σ4 _ I5
     exact ⟨items.length - (i + 1), by lia, rfl, hlt, G5, _, acc, xs, rest2, ρ4, { fc := fc.trans (f3.trans (f4.trans f5)), fcH := I5.fz, nw := a1, kp := a2, gD := a3, hDc := a4, ra := ra.mono (f3.trans (f4.trans f5)), hx := by lia, vs := VS.of I5 hno, ec := h4, eall := by simpa using eall }⟩
    ·cases h3
   | true =>
    simp only [if_true] at h3 ⊢
    obtain ⟨⟨dv, ρ7⟩, h7, h3⟩ := zah h3
    dsimp only at h3
    split at h3
    ·rename_i hno
     cases h3
     refine se C s₀ H₀ fp _ G5 H5 σ4 ρ6 dv _ _ I5 h7 fun G6 H6 v I6 f6 r6 => ?_
     obtain ⟨a1, a2, a3, a4⟩ := facts G6 H6 σ4 _ I6
     have ff : Fz Gc G6 := f3.trans (f4.trans (f5.trans f6))
     exact ⟨xs, a4, by rw [sizeLine_eq]; lia, items.length - (i + 1), by lia, rfl, hlt, G6, _, acc ++ [dv], xs ++ [v], rest2, ρ4, { fc := fc.trans ff, fcH := I6.fz.right a3 _, nw := a1, kp := fun b o e => by rw [zay (zaP e hD)]; exact a2 b o e, gD := a3, hDc := zaO, ra := (ra.mono ff).snoc r6, hx := by rw [List.length_append, List.length_singleton]; lia, vs := VS.of I6 hno, ec := h4, eall := by rw [eall]; simp }⟩
    ·cases h3
  ·have e : i = items.length := by lia
   subst e
   rw [List.drop_length] at ec
   cases ec
   have hall : all = acc := by rw [eall, List.append_nil]
   refine .inl ⟨IT.stop Hc _ (f2.trans (fc.trans fcH)) (Nat.le_refl _), ?_⟩
   rw [<- hall] at ra
   exact k Gc Hc DD xs (I2.grow fc fcH nw kp) (f1.trans (f2.trans fc)) gD hDc ra (I2.there DD hD) (I2.own_ne hD nw kp)
 ·cases hm
theorem zcD (cap : List Nat) (t : Nat) (N : List Str) (hc : X.calm = true) (hi : SIt X tg iter mi) (hg : ∀ C s H fp, SG (cxC X N scope C s H fp) tg g) (ht : ∀ C s H fp, STs (cxC X N scope C s H fp) ifs mt) (he : ∀ C s H fp, SE (cxC X N scope C s H fp) elt me)
    (hk : scope.kind = .function := by rfl) (hb : blkB X.env scope = true := by kernel_rfl) (hcap : capB scope.names N X.N cap t = true := by kernel_rfl)
    (hs : ∀ x, foldedSetIterable iter X.env x = pure x := by exact fun _ => rfl) : SO X (.ListComp elt [⟨tg, iter, ifs, 0⟩] scope pos) (oLC cap t mi g mt me) := by
  obtain ⟨wi, pi, si⟩ := hi
  exact ⟨_, pe_lc hc (zlB hk hb) (zms hcap) pi (fun C s H fp => (hg C s H fp).choose_spec.1) (fun C s H fp => (ht C s H fp).choose_spec.1) (fun C s H fp => (he C s H fp).choose_spec.1) hs,
    zkT si (fun C s H fp => (hg C s H fp).choose_spec.2) (fun C s H fp => (ht C s H fp).choose_spec.2) (fun C s H fp => (he C s H fp).choose_spec.2)⟩
end
section
variable {X : Cx} {elt iter tg : Expr} {ifs : List Expr} {scope : Scope} {pos lpos pos' : Pos} {N : List Str} {cap : List Nat} {t : Nat} {mi : MA} {g : D -> R -> Option R} {mt : MT} {me : ME}
theorem zkx {σ0 : St -> St} (hN : X.N.Nodup) (hxi : X.N[i]? = some x) (hx : Loc X.env.scope x) (hf : X.fn x = true \/ X.env.scope.names.lookup x = some .local)
  (hsw : swapsWith (.ListComp elt [⟨tg, iter, ifs, 0⟩] scope lpos) (some (.Name x pos')) pos.line X.env = pure true) (hc : X.calm = true) (b : BlkOk X scope) (cap : Cap X scope N σ0) (hi : PI X tg iter wi) (hg : ∀ C s H fp, PG (cxC X N scope C s H fp) tg (tg' C s H fp)) (ht : ∀ C s H fp, PTs (cxC X N scope C s H fp) ifs (tt C s H fp)) (he : ∀ C s H fp, PE (cxC X N scope C s H fp) elt (te C s H fp))
  (hs : ∀ x, foldedSetIterable iter X.env x = pure x) : PS X (.Assign [.Name x pos'] (.ListComp elt [⟨tg, iter, ifs, 0⟩] scope lpos) pos) (fun E σ H => tLC σ0 wi tg' tt te σ H fun v H' => E.nx (σ.set i (some v)) H') := by
 intro pins s σ H E I h
 rw [exec_Assign_Name_used _ _ _ _ hsw]
 refine wpAny_bind (wpAny_standAt (wpAny_bind ?_))
 show wpAny _ _ (do let _ <- comprehension (.ListComp elt [⟨tg, iter, ifs, 0⟩] scope lpos) scope X.env _ (newList []) false (eval iter X.env) (some (assign (.Name x pos') X.env))) _ _ s
 refine wpAny_bind (thn (zm3 (use := some (assign (.Name x pos') X.env)) (QQ := fun _ s' => SP X pins E .next s') (E := X.xe) hc b cap hi hg ht he I h hs ?_) fun _ s' hq => wpAny_pure (wpAny_pure hq))
 intro D fp C H1 H' σc s1 s' I1 f1 eC J q
 subst eC
 have I2 : Inv X pins σ H' s' := by
  have z := zmE (h' := s'.heap) I1 f1 J (Heap.SameBut.refl _ _)
  exact z
 obtain ⟨m, ⟨o, es, ep, ho, hd, hrest⟩, _⟩ := J.loc
 have fpk : FpOk X pins H' s1.heap.objs.size := I1.fpOk (Nat.le_refl _) J.free
 have I3 : Inv X (pins ++ [(s1.heap.objs.size, o)]) σ H' s' := I2.pins_of fun p hp => by
  rcases List.mem_append.mp hp with hp | hp
  ·exact I2.pin p (List.mem_append_right _ hp)
  ·have e : p = (s1.heap.objs.size, o) := by simpa using hp
   subst e
   exact ⟨ho, fpk.1, fpk.2.1, fpk.2.2.1, fun v z => by rw [hd] at z; cases z⟩
 refine thn (zlC hN hxi hx hf (pins ++ [(s1.heap.objs.size, o)]) s' σ H' (.ref D) (.ref D) (fun σ2 H2 => E.nx σ2 H2) I3 rfl q) fun _ s'' ⟨σ2, H2, I4, q4⟩ => ?_
 have pC := I4.pin (s1.heap.objs.size, o) (List.mem_append_right _ (List.mem_append_right _ (by simp)))
 refine ⟨m, ⟨o, es, ep, pC.1, hd, hrest⟩, fun h' hs' => ?_⟩
 have I5 : Inv X pins σ2 H2 s'' := I4.unpinned
 have fp2 : FpOk X pins H2 s1.heap.objs.size := I1.fpOk (Nat.le_refl _) pC.2.1
 have I6 := I5.turned (t' := s''.toks) (h' := h') (it := s1.heap.objs.size) (fun b' o' hb e => hs'.extBut b' o' hb e) fp2.1 fp2.2.1 fp2.2.2.2.1 fp2.2.2.2.2.1 fp2.2.2.2.2.2
 exact ⟨σ2, H2, I6, q4⟩
end
section
variable {X : Cx} {pins : List (Addr × Obj)} {σ : St} {H : Hp} {s : Shared}
theorem zga {A : Around} {p : Addr} (hh : A.handled = none) (I : Inv X pins σ H s) (hq : SqL X.K H p ys \/ SqT X.K H p ys)
  (k : ∀ (its : List Value) (s₂ : Shared) (St : Nat -> Heap -> Prop), Vals ys its -> Walks X.prog X.w A s.heap.objs.size [s.heap.objs.size, p] [s.heap.objs.size] its.length (fun i v => its[i]? = some v) St -> St 0 s₂.heap -> (∀ b ∈ [s.heap.objs.size, p], b < s₂.heap.objs.size) ->
   (∀ h' tk, (∀ b o, b ∉ [s.heap.objs.size] -> s₂.heap.get? b = some o -> h'.get? b = some o) -> Inv X pins σ H { s₂ with heap := h', toks := tk }) -> Q (.ref s.heap.objs.size) s₂) : wpAny (model X.prog X.w) A (pyIter (.ref p)) Q E s := by
 have fin : ∀ (o : Obj), ∀ h' tk, (∀ b o', b ∉ [s.heap.objs.size] -> (s.heap.push o).get? b = some o' -> h'.get? b = some o') -> Inv X pins σ H { ({ s with heap := s.heap.push o } : Shared) with heap := h', toks := tk } := fun o h' tk hk => by
  have z := I.kept (h' := h') (t' := tk) fun b o' e => hk b o' (by simpa using Nat.ne_of_lt (Heap.lt_size e)) (Heap.get?_push_of_some _ e)
  exact z
 rcases hq with hq | hq
 ·obtain ⟨its, r, pl, hz⟩ := I.list hq
  have hlt : p < s.heap.objs.size := by obtain ⟨_, _, e, _⟩ := pl; exact Heap.lt_size e
  refine wpAny_pyIter_list pl.isList (k its _ (fun i h => h.IsListIter s.heap.objs.size p i /\ h.IsList p its.toArray) r ?_ ⟨⟨_, Heap.get?_push_size _ rfl, rfl, rfl⟩, pl.isList.push _⟩ (fun b hb => ?_) (fin _))
  ·have w := Walks.list (prog := X.prog) (w := X.w) (A := A) hh s.heap.objs.size p (Nat.ne_of_lt hlt) its.toArray
   simpa using w
  ·show b < (s.heap.push _).objs.size
   rw [Heap.size_push]
   simp at hb
   rcases hb with z | z
   ·rw [z]; exact Nat.lt_succ_self _
   ·rw [z]; exact Nat.lt_succ_of_lt hlt
 ·obtain ⟨its, r, pl, hz⟩ := I.tuple hq
  have hlt : p < s.heap.objs.size := pl.lt
  refine wpAny_pyIter_tuple (show s.heap.IsTuple p its.toArray from pl) (k its _ (fun i h => h.IsTupleIter s.heap.objs.size p i /\ h.IsTuple p its.toArray) r ?_ ⟨⟨_, Heap.get?_push_size _ rfl, rfl, rfl⟩, (show s.heap.IsTuple p its.toArray from pl).push _⟩ (fun b hb => ?_) (fin _))
  ·have w := Walks.tuple (prog := X.prog) (w := X.w) (A := A) hh s.heap.objs.size p (Nat.ne_of_lt hlt) its.toArray
   simpa using w
  ·show b < (s.heap.push _).objs.size
   rw [Heap.size_push]
   simp at hb
   rcases hb with z | z
   ·rw [z]; exact Nat.lt_succ_self _
   ·rw [z]; exact Nat.lt_succ_of_lt hlt
end
theorem zhT (ns : List Int) : ∀ j, preSum (fun i => ns.getD i 0) j = (ns.take j).sum
 | 0 => by simp [preSum]
 | j + 1 => by
  rw [preSum, zhT ns j]
  by_cases h : j < ns.length
  ·rw [List.take_succ_eq_append_getElem h, List.sum_append]
   simp [h]
  ·rw [List.take_of_length_le (by lia), List.take_of_length_le (by lia)]
   simp [List.getElem?_eq_none (by lia : ns.length <= j)]
theorem zgj (r : Vals (ns.map V.int) its) {v : Value} (e : its[i]? = some v) : ∃ t, v = .int (ns.getD i 0) t := by
 have hl := r.length
 have hi : i < its.length := (List.getElem?_eq_some_iff.mp e).1
 rw [List.length_map] at hl
 have e2 : (ns.map V.int)[i]? = some (.int ns[i]) := by rw [List.getElem?_map, List.getElem?_eq_getElem (by lia)]; rfl
 obtain ⟨u, h1, t, h2⟩ := r.get e2
 rw [e] at h1; cases h1
 exact ⟨t, by rw [h2]; simp [show i < ns.length by lia]⟩
noncomputable def rSum (K : W.Frag) : List V -> Hp -> VK -> Prop := fun xs H Q => ∃ (p : Addr) (ns : List Int), xs = [.ref p] /\ (SqL K H p (ns.map V.int) \/ SqT K H p (ns.map V.int)) /\ Q (.int ns.sum) H
theorem zmB (hc : X.calm = true) : zeH X (.builtin "sum") (rSum X.K) := by
 intro pins s σ H xs us Q I r h
 obtain ⟨p, ns, rfl, hq, q⟩ := h
 obtain ⟨u, rfl, ru⟩ := zg0 r
 cases ru
 refine call_sum_walkG (zga (A := X.A.in1) (I.ok.hd hc) I hq fun its s₂ St rv W st hfp fin => ?_)
 refine ⟨_, _, _, _, _, _, fun i => ns.getD i 0, rfl, W, st, hfp, fun i v e => zgj rv e, fun h' tk t' hk => ⟨.int ns.sum, H, fin h' tk hk, ⟨t', ?_⟩, q⟩⟩
 have hl := rv.length
 rw [List.length_map] at hl
 rw [zhT, <- hl, List.take_of_length_le (Nat.le_refl _)]
noncomputable def zb4 : List D -> Option (List Int)
 | [] => some []
 | .int i :: ds => (zb4 ds).map (i :: ·)
 | _ => none
theorem zf7 : ∀ {ds : List D} {ns : List Int}, zb4 ds = some ns -> ds = ns.map .int
 | [], ns, h => by cases h; rfl
 | d :: ds, ns, h => by
  cases d <;> simp only [zb4] at h <;> try cases h
  obtain ⟨ms, e1, e2⟩ := zaH h
  subst e2
  rw [zf7 e1]; rfl
@[simp] theorem intsOf_map : ∀ (ns : List Int), zb4 (ns.map .int) = some ns
 | [] => rfl
 | n :: ns => by simp [zb4, intsOf_map ns]
noncomputable def dSum : List D -> Option D
 | [d] => (zaN [d]).bind fun ds => (zb4 ds).map fun ns => .int ns.sum
 | _ => none
theorem zg9 (I : SI K B G H σ ρ) {x : V} (r : RepD K G x d) (e : zaN [d] = some ds) : ∃ p ys, x = .ref p /\ (SqL K H p ys \/ SqT K H p ys) /\ RepL K G ys ds := by
 cases d <;> simp only [zaN] at e <;> try cases e
 ·obtain ⟨p, ys, ex, hp, q⟩ := I.lst r
  exact ⟨p, ys, ex, .inl (SqL.of hp), q⟩
 ·obtain ⟨p, ys, ex, hp, q⟩ := I.tup r
  exact ⟨p, ys, ex, .inr (SqT.of hp), q⟩
 ·obtain ⟨p, ex, hp⟩ := r
  exact ⟨p, _, ex, .inl (I.fz.sql hp), RepL.ints _⟩
theorem vc_sum : VC X (rSum X.K) dSum := by
 intro B G H σ ρ xs ds d Q I r hf k
 match ds, hf with
 | [a], hf =>
  obtain ⟨es, e1, hf⟩ := zah hf
  obtain ⟨ns, e2, e3⟩ := zaH hf
  subst e3
  obtain ⟨x, rfl, ra⟩ := r.one
  obtain ⟨p, ys, rfl, hq, ry⟩ := zg9 I ra e1
  rw [zf7 e2] at ry
  rw [RepL.ints_eq ry] at hq
  exact ⟨p, ns, rfl, hq, k G H _ I (Fz.refl G) rfl⟩
 | [], hf => cases hf
 | _ :: _ :: _, hf => cases hf
theorem zlR (hc : X.calm = true) (ml : X.mg "sum" = none) (ha : SA X [e] ma) (hg : Gl X "sum" := by rfl) (he : starEach [e] X.env = (false, eval e X.env) :: starEach [] X.env := by rfl) : SE X (.Call (.Name "sum" p) [e] [] pos) (mC dSum ma) :=
 zct (zmB hc) vc_sum (by decide +kernel) ml ha hg (by decide) (by decide) he rfl
noncomputable def zdX : List D -> Option (List Bool)
 | [] => some []
 | .bl b :: ds => (zdX ds).map (b :: ·)
 | _ => none
theorem zhR : ∀ {ds : List D} {bs : List Bool}, zdX ds = some bs -> ds = bs.map .bl
 | [], ns, h => by cases h; rfl
 | d :: ds, ns, h => by
  cases d <;> simp only [zdX] at h <;> try cases h
  obtain ⟨ms, e1, e2⟩ := zaH h
  subst e2
  rw [zhR e1]; rfl
@[simp] theorem boolsOf_map : ∀ (bs : List Bool), zdX (bs.map .bl) = some bs
 | [] => rfl
 | n :: ns => by simp [zdX, boolsOf_map ns]
theorem RepL.bools_eq : ∀ {bs : List Bool} {xs : List V}, RepL K G xs (bs.map D.bl) -> xs = bs.map V.bl
 | [], _, e => e
 | n :: ns, _, ⟨x, ys, e, q, r⟩ => by subst e; cases (show x = V.bl n from q); rw [RepL.bools_eq r]; rfl
theorem zjx {bs : List Bool} (r : Vals (bs.map V.bl) its) {v : Value} (e : its[i]? = some v) : ∃ b, bs[i]? = some b /\ v = .bool b := by
 have hl := r.length
 have hi : i < its.length := (List.getElem?_eq_some_iff.mp e).1
 rw [List.length_map] at hl
 have e2 : (bs.map V.bl)[i]? = some (.bl bs[i]) := by rw [List.getElem?_map, List.getElem?_eq_getElem (by lia)]; rfl
 obtain ⟨u, h1, h2⟩ := r.get e2
 rw [e] at h1; cases h1
 exact ⟨bs[i], List.getElem?_eq_getElem (by lia), h2⟩
noncomputable def rAll (K : W.Frag) (f : List Bool -> Bool) : List V -> Hp -> VK -> Prop := fun xs H Q => ∃ (p : Addr) (bs : List Bool), xs = [.ref p] /\ (SqL K H p (bs.map V.bl) \/ SqT K H p (bs.map V.bl)) /\ Q (.bl (f bs)) H
theorem zmR (hc : X.calm = true) : zeH X (.builtin "all") (rAll X.K fun bs => bs.all id) := by
 intro pins s σ H xs us Q I r h
 obtain ⟨p, bs, rfl, hq, q⟩ := h
 obtain ⟨u, rfl, ru⟩ := zg0 r
 cases ru
 refine call_all_walk (zga (A := X.A.in1) (I.ok.hd hc) I hq fun its s₂ St rv W st hfp fin => ?_)
 have hl := rv.length
 rw [List.length_map] at hl
 refine ⟨_, _, _, _, _, _, fun i => (bs[i]?).getD true, rfl, W, st, fun i v s' Q' E' hP hQ => ?_, fun h' tk hk => ⟨.bl (bs.all id), H, fin h' tk hk, ?_, q⟩⟩
 ·obtain ⟨b, e, rfl⟩ := zjx rv hP
  simp only [e, Option.getD_some] at hQ
  exact wpAny_truthy_bool hQ
 ·rw [<- hl, LSm.range_all]; rfl
theorem zmg (hc : X.calm = true) : zeH X (.builtin "any") (rAll X.K fun bs => bs.any id) := by
 intro pins s σ H xs us Q I r h
 obtain ⟨p, bs, rfl, hq, q⟩ := h
 obtain ⟨u, rfl, ru⟩ := zg0 r
 cases ru
 refine call_any_walk (zga (A := X.A.in1) (I.ok.hd hc) I hq fun its s₂ St rv W st hfp fin => ?_)
 have hl := rv.length
 rw [List.length_map] at hl
 refine ⟨_, _, _, _, _, _, fun i => (bs[i]?).getD false, rfl, W, st, fun i v s' Q' E' hP hQ => ?_, fun h' tk hk => ⟨.bl (bs.any id), H, fin h' tk hk, ?_, q⟩⟩
 ·obtain ⟨b, e, rfl⟩ := zjx rv hP
  simp only [e, Option.getD_some] at hQ
  exact wpAny_truthy_bool hQ
 ·rw [<- hl, LSm.range_any]; rfl
noncomputable def dAll (f : List Bool -> Bool) : List D -> Option D
 | [d] => (zaN [d]).bind fun ds => (zdX ds).map fun bs => .bl (f bs)
 | _ => none
theorem vc_all (f : List Bool -> Bool) : VC X (rAll X.K f) (dAll f) := by
 intro B G H σ ρ xs ds d Q I r hf k
 match ds, hf with
 | [a], hf =>
  obtain ⟨es, e1, hf⟩ := zah hf
  obtain ⟨ns, e2, e3⟩ := zaH hf
  subst e3
  obtain ⟨x, rfl, ra⟩ := r.one
  obtain ⟨p, ys, rfl, hq, ry⟩ := zg9 I ra e1
  rw [zhR e2] at ry
  rw [RepL.bools_eq ry] at hq
  exact ⟨p, ns, rfl, hq, k G H _ I (Fz.refl G) rfl⟩
 | [], hf => cases hf
 | _ :: _ :: _, hf => cases hf
theorem zjJ (hc : X.calm = true) (ml : X.mg "all" = none) (ha : SA X [e] ma) (hg : Gl X "all" := by rfl) (he : starEach [e] X.env = (false, eval e X.env) :: starEach [] X.env := by rfl) : SE X (.Call (.Name "all" p) [e] [] pos) (mC (dAll fun bs => bs.all id) ma) :=
 zct (zmR hc) (vc_all _) (by decide +kernel) ml ha hg (by decide) (by decide) he rfl
theorem se_any (hc : X.calm = true) (ml : X.mg "any" = none) (ha : SA X [e] ma) (hg : Gl X "any" := by rfl) (he : starEach [e] X.env = (false, eval e X.env) :: starEach [] X.env := by rfl) : SE X (.Call (.Name "any" p) [e] [] pos) (mC (dAll fun bs => bs.any id) ma) :=
 zct (zmg hc) (vc_all _) (by decide +kernel) ml ha hg (by decide) (by decide) he rfl
noncomputable def d2I (g : Int -> Int -> Int) : List D -> Option D
 | [.int i, .int j] => some (.int (g i j))
 | _ => none
theorem vc_2I (g : Int -> Int -> Int) : VC X (fun xs H Q => ∃ i j, xs = [.int i, .int j] /\ Q (.int (g i j)) H) (d2I g) := by
 intro B G H σ ρ xs ds d Q I r hf k
 unfold d2I at hf
 split at hf
 ·rename_i i j
  cases hf
  obtain ⟨x, y, rfl, rx, ry⟩ := r.two
  cases (show x = V.int i from rx)
  cases (show y = V.int j from ry)
  exact ⟨i, j, rfl, k G H _ I (Fz.refl G) rfl⟩
 ·cases hf
noncomputable def max2 (i j : Int) : Int := if j > i then j else i
noncomputable def min2 (i j : Int) : Int := if j < i then j else i
theorem ziF (hc : X.calm = true) (ml : X.mg "max" = none) (ha : SA X [a, b] ma) (hg : Gl X "max" := by rfl) (he : starEach [a, b] X.env = (false, eval a X.env) :: starEach [b] X.env := by rfl) (hpl : (backTo pos (starEach [b] X.env)).any (·.1) = false := by rfl) : SE X (.Call (.Name "max" p) [a, b] [] pos) (mC (d2I max2) ma) :=
 zct (zmh hc) (vc_2I max2) (by decide +kernel) ml ha hg (by decide) (by decide) he hpl
theorem zj9 (hc : X.calm = true) (ml : X.mg "min" = none) (ha : SA X [a, b] ma) (hg : Gl X "min" := by rfl) (he : starEach [a, b] X.env = (false, eval a X.env) :: starEach [b] X.env := by rfl) (hpl : (backTo pos (starEach [b] X.env)).any (·.1) = false := by rfl) : SE X (.Call (.Name "min" p) [a, b] [] pos) (mC (d2I min2) ma) :=
 zct (zl8 hc) (vc_2I min2) (by decide +kernel) ml ha hg (by decide) (by decide) he hpl
noncomputable def abs1 (i : Int) : Int := if i < 0 then -i else i
noncomputable def dAbs : List D -> Option D
 | [.int i] => some (.int (abs1 i))
 | _ => none
theorem se_abs (ml : X.mg "abs" = none) (ha : SA X [a] ma) (hg : Gl X "abs" := by rfl) (he : starEach [a] X.env = (false, eval a X.env) :: starEach [] X.env := by rfl) : SE X (.Call (.Name "abs" p) [a] [] pos) (mC dAbs ma) :=
 zct call_abs (fun B G H σ ρ xs ds d Q I r hf k => by
  unfold dAbs at hf
  split at hf
  ·rename_i i
   cases hf
   obtain ⟨x, rfl, rx⟩ := r.one
   cases (show x = V.int i from rx)
   exact ⟨i, rfl, k G H _ I (Fz.refl G) rfl⟩
  ·cases hf) (by decide +kernel) ml ha hg (by decide) (by decide) he rfl
noncomputable def dInt : List D -> Option D
 | [.int i] => some (.int i)
 | [.bl b] => some (.int (if b then 1 else 0))
 | _ => none
theorem zha (ml : X.mg "int" = none) (ha : SA X [a] ma) (hg : Gl X "int" := by rfl) (he : starEach [a] X.env = (false, eval a X.env) :: starEach [] X.env := by rfl) : SE X (.Call (.Name "int" p) [a] [] pos) (mC dInt ma) :=
 zja zlO (fun B G H σ ρ xs ds d Q I r hf k => by
  unfold dInt at hf
  split at hf
  ·rename_i i
   cases hf
   obtain ⟨x, rfl, rx⟩ := r.one
   cases (show x = V.int i from rx)
   exact .inl ⟨i, rfl, k G H _ I (Fz.refl G) rfl⟩
  ·rename_i b
   cases hf
   obtain ⟨x, rfl, rx⟩ := r.one
   cases (show x = V.bl b from rx)
   exact .inr ⟨b, rfl, k G H _ I (Fz.refl G) rfl⟩
  ·cases hf) (by decide +kernel) ml ha hg (by decide) (by decide) he rfl
theorem zgY (K : W.Frag) : W.kitOne K (.type "NoneType") (.type "int") = some false := by kernel_rfl
theorem zgq (K : W.Frag) : W.kitOne K (.type "NoneType") (.type "bool") = some false := by kernel_rfl
theorem zf6 (K : W.Frag) : W.kitOne K (.type "NoneType") (.type "tuple") = some false := by kernel_rfl
theorem zgu (K : W.Frag) : W.kitOne K (.type "NoneType") (.type "list") = some false := by kernel_rfl
theorem zg2 (K : W.Frag) : W.kitOne K (.type "NoneType") (.type "str") = some false := by kernel_rfl
theorem zjH (K : W.Frag) : W.kitOne K (.type "bool") (.type "int") = some true := by kernel_rfl
theorem ziy (K : W.Frag) : W.kitOne K (.type "bool") (.type "bool") = some true := by kernel_rfl
theorem zhM (K : W.Frag) : W.kitOne K (.type "bool") (.type "tuple") = some false := by kernel_rfl
theorem ziC (K : W.Frag) : W.kitOne K (.type "bool") (.type "list") = some false := by kernel_rfl
theorem zju (K : W.Frag) : W.kitOne K (.type "bool") (.type "str") = some false := by kernel_rfl
theorem zjO (K : W.Frag) : W.kitOne K (.type "int") (.type "int") = some true := by kernel_rfl
theorem zjm (K : W.Frag) : W.kitOne K (.type "int") (.type "bool") = some false := by kernel_rfl
theorem zif (K : W.Frag) : W.kitOne K (.type "int") (.type "tuple") = some false := by kernel_rfl
theorem zjC (K : W.Frag) : W.kitOne K (.type "int") (.type "list") = some false := by kernel_rfl
theorem zke (K : W.Frag) : W.kitOne K (.type "int") (.type "str") = some false := by kernel_rfl
theorem zkh (K : W.Frag) : W.kitOne K (.type "str") (.type "int") = some false := by kernel_rfl
theorem ziM (K : W.Frag) : W.kitOne K (.type "str") (.type "bool") = some false := by kernel_rfl
theorem ziJ (K : W.Frag) : W.kitOne K (.type "str") (.type "tuple") = some false := by kernel_rfl
theorem zjK (K : W.Frag) : W.kitOne K (.type "str") (.type "list") = some false := by kernel_rfl
theorem zkb (K : W.Frag) : W.kitOne K (.type "str") (.type "str") = some true := by kernel_rfl
theorem ziU (K : W.Frag) : W.kitOne K (.type "list") (.type "int") = some false := by kernel_rfl
theorem ziD (K : W.Frag) : W.kitOne K (.type "list") (.type "bool") = some false := by kernel_rfl
theorem zhQ (K : W.Frag) : W.kitOne K (.type "list") (.type "tuple") = some false := by kernel_rfl
theorem zie (K : W.Frag) : W.kitOne K (.type "list") (.type "list") = some true := by kernel_rfl
theorem ziO (K : W.Frag) : W.kitOne K (.type "list") (.type "str") = some false := by kernel_rfl
theorem zid (K : W.Frag) : W.kitOne K (.type "tuple") (.type "int") = some false := by kernel_rfl
theorem zhK (K : W.Frag) : W.kitOne K (.type "tuple") (.type "bool") = some false := by kernel_rfl
theorem zhz (K : W.Frag) : W.kitOne K (.type "tuple") (.type "tuple") = some true := by kernel_rfl
theorem zhL (K : W.Frag) : W.kitOne K (.type "tuple") (.type "list") = some false := by kernel_rfl
theorem ziG (K : W.Frag) : W.kitOne K (.type "tuple") (.type "str") = some false := by kernel_rfl
noncomputable def isI (T : String) : D -> Bool
 | .non => false
 | .bl _ => T == "bool" || T == "int"
 | .int _ => T == "int"
 | .str _ => T == "str"
 | .lst _ => T == "list"
 | .tup _ => T == "tuple"
 | .scr _ => T == "list"
 | .exc _ => false
 | .dic _ _ => false
 | .dit _ _ => false
noncomputable def okT (T : String) : Bool := ["int", "bool", "tuple", "list", "str"].contains T
noncomputable def rIsI (K : W.Frag) (T : String) : List V -> Hp -> VK -> Prop := fun xs H Q => ∃ x t b, xs = [x, .ty T] /\ TyOf K H x t /\ W.kitOne K t (.type T) = some b /\ Q (.bl b) H
theorem call_isI (T : String) : zeH X (.builtin "isinstance") (rIsI X.K T) := by
 intro pins s σ H xs us Q I r h
 obtain ⟨x, t, b, rfl, ty, e, q⟩ := h
 obtain ⟨u, w', rfl, r1, r2⟩ := vals2 r
 cases (show w' = Value.type T from r2)
 exact zmX I r1 ty e fun tk => ⟨.bl b, H, I.tok _, rfl, q⟩
noncomputable def eIsI (T : String) (ma : ME) : ME := fun ρ => (ma ρ).bind fun p => if okT T && noS1 p.1 then some (.bl (isI T p.1), p.2) else none
where noS1 : D -> Bool
 | .scr _ => false
 | .exc _ => false
 | .dic _ _ => false
 | .dit _ _ => false
 | _ => true
theorem kit_all (K : W.Frag) {T : String} (hT : okT T = true) : W.kitOne K (.type "NoneType") (.type T) = some false /\ W.kitOne K (.type "bool") (.type T) = some (T == "bool" || T == "int") /\ W.kitOne K (.type "int") (.type T) = some (T == "int") /\
  W.kitOne K (.type "str") (.type T) = some (T == "str") /\ W.kitOne K (.type "list") (.type T) = some (T == "list") /\ W.kitOne K (.type "tuple") (.type T) = some (T == "tuple") := by
 have h : T = "int" \/ T = "bool" \/ T = "tuple" \/ T = "list" \/ T = "str" := by simpa [okT] using hT
 rcases h with rfl | rfl | rfl | rfl | rfl
 ·exact ⟨zgY K, zjH K, zjO K, zkh K, ziU K, zid K⟩
 ·exact ⟨zgq K, ziy K, zjm K, ziM K, ziD K, zhK K⟩
 ·exact ⟨zf6 K, zhM K, zif K, ziJ K, zhQ K, zhz K⟩
 ·exact ⟨zgu K, ziC K, zjC K, zjK K, zie K, zhL K⟩
 ·exact ⟨zg2 K, zju K, zke K, zkb K, ziO K, ziG K⟩
theorem se_isI {ma : ME} {p q pos : Pos} (T : String) (ml : X.mg "isinstance" = none) (mT : X.mg x = none) (hbT : bootBuiltins x = some (.type T)) (ha : SE X a ma) (hg : Gl X "isinstance" := by rfl) (hgT : Gl X x := by rfl) (hn : x ≠ "__name__" := by decide) (hd : (x == ("__debug__" : Str)) = false := by decide)
  (he : starEach [a, .Name x q] X.env = (false, eval a X.env) :: starEach [.Name x q] X.env := by rfl) (he2 : starEach [.Name x q] X.env = (false, eval (.Name x q) X.env) :: starEach [] X.env := by rfl) (hpl : (backTo pos (starEach [.Name x q] X.env)).any (·.1) = false := by rfl) :
  SE X (.Call (.Name "isinstance" p) [a, .Name x q] [] pos) (eIsI T ma) := by
 obtain ⟨ta, pa, sa⟩ := ha
 refine ⟨_, zir (call_isI T) hg ml boot_isinstance (zem pa (zem (pe_bltn (v := .ty T) hgT mT hbT rfl hn hd) zjh he2) he) (by decide) (by decide) he hpl, fun B G H σ ρ d ρ' Q I hm k => ?_⟩
 obtain ⟨⟨y, ρ1⟩, e1, hm⟩ := zah hm
 dsimp only at hm
 split at hm
 ·rename_i hT
  obtain ⟨rfl, rfl⟩ := Prod.mk.inj (Option.some.inj hm)
  rw [Bool.and_eq_true] at hT
  obtain ⟨hT, hS⟩ := hT
  refine sa B G H σ ρ y ρ1 _ I e1 fun G1 H1 v I1 f1 r1 => ?_
  obtain ⟨k0, k1, k2, k3, k4, k5⟩ := kit_all X.K hT
  have fin : ∀ t, TyOf X.K H1 v t -> W.kitOne X.K t (.type T) = some (isI T y) -> rIsI X.K T [v, .ty T] H1 Q := fun t ty e => ⟨v, t, isI T y, rfl, ty, e, k G1 H1 _ I1 f1 rfl⟩
  cases y with
  | non => cases (show v = V.non from r1); exact fin _ .non k0
  | bl c => cases (show v = V.bl c from r1); exact fin _ (.bl c) k1
  | int c => cases (show v = V.int c from r1); exact fin _ (.int c) k2
  | str c => cases (show v = V.str c from r1); exact fin _ (.str c) k3
  | lst ds => obtain ⟨a, xs, e, hp, r⟩ := I1.lst r1; subst e; exact fin _ (.lst hp) k4
  | tup ds => obtain ⟨a, xs, e, hp, r⟩ := I1.tup r1; subst e; exact fin _ (.tup hp) k5
  | scr _ => cases hS
  | exc _ => cases hS
  | dic _ _ => cases hS
  | dit _ _ => cases hS
 ·cases hm
noncomputable def cutD {α : Type} (xs : List α) (lo hi : Option Int) : List α := (xs.drop (HT.sIx xs.length 0 lo)).take (HT.sIx xs.length xs.length hi - HT.sIx xs.length 0 lo)
theorem RepL.cut (h : RepL K G xs ds) (lo hi : Option Int) : RepL K G (cutV xs lo hi) (cutD ds lo hi) := by
 unfold cutV cutD
 rw [h.length]
 exact (h.drop _).take _
section
variable {prog : Program} {w : World} {A : Around} {E : Value -> Shared -> Prop} {s : Shared}
theorem zfG {t sl : Addr} {items : Array Value} {vl vu : Value} {lo hi : Option Int} (ht : IsTup s.heap t items) (hs : s.heap.IsSliceOf sl vl vu .none) (pl : IsPart vl lo) (pu : IsPart vu hi)
  (hw : HT.sIx items.size 0 lo = 0 /\ HT.sIx items.size items.size hi = items.size) (h : Q (.ref t) s) : wpAny (model prog w) A (getItem (.ref t) (.ref sl)) Q E s := by
 obtain ⟨os, hos, hcs, hds⟩ := id hs
 have hTs : s.TypeIs (.ref sl) "slice" := ⟨os, hos, hcs⟩
 unfold getItem
 try with_reducible refine wpAny_holding ?_
 first | refine wpAny_bind (wpAny_pure ?_) | skip
 refine wpAny_bind (wpAny_sequenceKey ht.typeIs (by decide) ?_)
 refine wpAny_bind (wpAny_callSpecial?_slot (name := Str.ofString "__getitem__") ht.typeIs PyProof.Rows.slot_tuple_getitem
  (wpAny_call_entry PyProof.Rows.slot_tuple_getitem ht.typeIs entry_tuple_getitem ?_ (args_tuple_getitem _ _)))
 show wpAny _ _ (Builtin.Tuple.tupleItemsOf (.ref t) >>= _) _ _ s
 refine wpAny_bind (tupleItemsOf_ ht ?_)
 refine wpAny_bind (wpAny_typeOf hTs ?_)
 rw [if_pos (by decide)]
 refine wpAny_bind (HT.zd3 hs pl pu ?_)
 have hyes : (((HT.sIx items.size 0 lo : Nat) : Int) == 0 && (1 : Int) == 1 && (HT.sIx items.size items.size hi - HT.sIx items.size 0 lo) == items.size) = true := by
  rw [hw.1, hw.2]; simp
 show wpAny _ _ (if (((HT.sIx items.size 0 lo : Nat) : Int) == 0 && (1 : Int) == 1 && (HT.sIx items.size items.size hi - HT.sIx items.size 0 lo) == items.size) = true then _ else _) _ _ s
 rw [if_pos hyes]
 refine wpAny_bind (m := Builtin.Tuple.tupleIsExact _) ?_
 unfold Builtin.Tuple.tupleIsExact
 refine wpAny_bind (wpAny_typeOf ht.typeIs (wpAny_pure ?_))
 rw [if_pos (by decide)]
 refine wpAny_bind (wpAny_rule ?_)
 exact wpAny_pure ⟨_, rfl, wpAny_pure h⟩
end
noncomputable def rSlTW (K : W.Frag) : V -> Option Int -> Option Int -> Hp -> VK -> Prop := fun x lo hi H Q => ∃ a xs, x = .ref a /\ SqT K H a xs /\ (HT.sIx xs.length 0 lo = 0 /\ HT.sIx xs.length xs.length hi = xs.length) /\ Q (.ref a) H
theorem sl_tupW : SlR X (rSlTW X.K) := by
 intro pins s σ H x v vl vu lo hi sl Q I rx hs pl pu h
 obtain ⟨a, xs, rfl, hx, hw, q⟩ := h
 cases rx
 obtain ⟨its, r, ht, hz⟩ := I.tuple hx
 have hlen : its.toArray.size = xs.length := by rw [List.size_toArray]; exact r.length.symm
 refine ⟨"tuple", _, PyProof.Rows.slot_tuple_getitem.lookup, ht.typeIs, ?_⟩
 exact zfG ht hs pl pu (by rw [hlen]; exact hw) ⟨.ref a, H, I, rfl, q⟩
noncomputable abbrev MP := R -> Option (Option Int × R)
noncomputable def SPt (X : Cx) (e : Option Expr) (m : MP) : Prop := ∃ t, PO X e t /\ ∀ B G H σ ρ o ρ' (Q : Option Int -> Hp -> Prop), SI X.K B G H σ ρ -> m ρ = some (o, ρ') -> (∀ G' H', SI X.K B G' H' σ ρ' -> Fz G G' -> Q o H') -> t σ H Q
noncomputable def pNo : MP := fun ρ => some (none, ρ)
noncomputable def zbt (m : ME) : MP := fun ρ => (m ρ).bind fun p => match p.1 with
 | .int i => some (some i, p.2)
 | _ => none
theorem zdt : SPt X none pNo := ⟨_, po_none, fun B G H σ ρ o ρ' Q I hm k => by cases hm; exact k G H I (Fz.refl G)⟩
theorem zaL {m : ME} (h : SE X e m) : SPt X (some e) (zbt m) := by
 obtain ⟨t, p, s⟩ := h
 refine ⟨_, po_some p, fun B G H σ ρ o ρ' Q I hm k => ?_⟩
 obtain ⟨⟨d, ρ1⟩, e1, hm⟩ := zah hm
 refine s B G H σ ρ d ρ1 _ I e1 fun G1 H1 v I1 f1 r1 => ?_
 cases d <;> try cases hm
 rename_i i
 exact ⟨i, r1, k G1 H1 I1 f1⟩
noncomputable def dCut (d : D) (lo hi : Option Int) : Option D := match d with
 | .lst ds => some (.lst (cutD ds lo hi))
 | .tup ds => some (.tup (cutD ds lo hi))
 | .scr ns => some (.lst ((cutD ns lo hi).map .int))
 | _ => none
noncomputable def eCut (ma : ME) (ml mh : MP) : ME := fun ρ => (ma ρ).bind fun p => (ml p.2).bind fun q => (mh q.2).bind fun r => (dCut p.1 q.1 r.1).map fun d => (d, r.2)
theorem zmy (ns : List Int) (lo hi : Option Int) : cutV (ns.map V.int) lo hi = (cutD ns lo hi).map V.int := by
 unfold cutV cutD
 rw [List.length_map, <- List.map_drop, <- List.map_take]
theorem zbj {lo hi : Option Expr} {ma : ME} {ml mh : MP} {pos p2 : Pos} (he : SE X e ma) (hl : SPt X lo ml) (hu : SPt X hi mh) : SE X (.Subscript e (.Slice lo hi none p2) pos) (eCut ma ml mh) := by
 obtain ⟨ta, pa, sa⟩ := he
 obtain ⟨tl, pl, sl⟩ := hl
 obtain ⟨th, ph, sh⟩ := hu
 refine ⟨_, zkJ (sl_list.or (sl_tup.or sl_tupW)) pa pl ph, fun B G H σ ρ d ρ' Q I hm k => ?_⟩
 obtain ⟨⟨x, ρ1⟩, e1, hm⟩ := zah hm
 obtain ⟨⟨l, ρ2⟩, e2, hm⟩ := zah hm
 obtain ⟨⟨u, ρ3⟩, e3, hm⟩ := zah hm
 obtain ⟨c, e4, e5⟩ := zaH hm
 obtain ⟨rfl, rfl⟩ := Prod.mk.inj e5
 refine sa B G H σ ρ x ρ1 _ I e1 fun G1 H1 v I1 f1 r1 => sl B G1 H1 σ ρ1 l ρ2 _ I1 e2 fun G2 H2 I2 f2 => sh B G2 H2 σ ρ2 u ρ3 _ I2 e3 fun G3 H3 I3 f3 => ?_
 have r3 := r1.mono (f2.trans f3)
 dsimp only at e4
 cases x with
 | exc _ => cases e4
 | dic _ _ => cases e4
 | dit _ _ => cases e4
 | non => cases e4
 | bl _ => cases e4
 | int _ => cases e4
 | str _ => cases e4
 | lst ds =>
  cases e4
  obtain ⟨a, xs, rfl, ha, r⟩ := I3.lst r3
  refine .inl ⟨a, xs, rfl, SqL.of ha, fun p hp => ?_⟩
  obtain ⟨I4, f4, r4⟩ := I3.newL hp (r.cut l u)
  exact k _ _ _ I4 (f1.trans (f2.trans (f3.trans f4))) r4
 | tup ds =>
  cases e4
  obtain ⟨a, xs, rfl, ha, r⟩ := I3.tup r3
  by_cases hw : HT.sIx xs.length 0 l = 0 /\ HT.sIx xs.length xs.length u = xs.length
  ·refine .inr (.inr ⟨a, xs, rfl, SqT.of ha, hw, ?_⟩)
   have e : cutD ds l u = ds := by
    unfold cutD
    rw [<- r.length, hw.1, hw.2, List.drop_zero, Nat.sub_zero, List.take_of_length_le (by rw [r.length]; exact Nat.le_refl _)]
   rw [e] at k
   exact k G3 H3 _ I3 (f1.trans (f2.trans f3)) r3
  ·refine .inr (.inl ⟨a, xs, rfl, SqT.of ha, hw, fun p hp => ?_⟩)
   obtain ⟨I4, f4, r4⟩ := I3.newT hp (r.cut l u)
   exact k _ _ _ I4 (f1.trans (f2.trans (f3.trans f4))) r4
 | scr ns =>
  cases e4
  obtain ⟨a, rfl, ha⟩ := r3
  refine .inl ⟨a, _, rfl, I3.fz.sql ha, fun p hp => ?_⟩
  rw [zmy]
  obtain ⟨I4, f4, r4⟩ := I3.newL hp (RepL.ints (cutD ns l u))
  exact k _ _ _ I4 (f1.trans (f2.trans (f3.trans f4))) r4
theorem zaX (h : aLen ma n) : ∀ ρ as ρ', ma ρ = some (as, ρ') -> as.length + 1 = n + 1 := fun ρ as ρ' e => congrArg (· + 1) (h ρ as ρ' e)
section
variable {X : Cx} {elt iter tg : Expr} {ifs : List Expr} {scope : Scope} {pos lpos pos' : Pos} {N : List Str} {cap : List Nat} {t : Nat} {mi : MA} {g : D -> R -> Option R} {mt : MT} {me : ME}
theorem zf8 (i : Nat) (cap : List Nat) (t : Nat) (N : List Str) (hc : X.calm = true) (hi : SIt X tg iter mi) (hg : ∀ C s H fp, SG (cxC X N scope C s H fp) tg g) (ht : ∀ C s H fp, STs (cxC X N scope C s H fp) ifs mt) (he : ∀ C s H fp, SE (cxC X N scope C s H fp) elt me) (hN : X.N.Nodup)
    (hxi : X.N[i]? = some x := by rfl) (hx : Loc X.env.scope x := by first | exact Or.inl rfl | exact Or.inr rfl) (hf : X.fn x = true \/ X.env.scope.names.lookup x = some .local := by first | exact Or.inl rfl | exact Or.inr rfl)
    (hsw : swapsWith (.ListComp elt [⟨tg, iter, ifs, 0⟩] scope lpos) (some (.Name x pos')) pos.line X.env = pure true := by rfl)
    (hk : scope.kind = .function := by rfl) (hb : blkB X.env scope = true := by kernel_rfl) (hcap : capB scope.names N X.N cap t = true := by kernel_rfl)
    (hs : ∀ x, foldedSetIterable iter X.env x = pure x := by exact fun _ => rfl) : SS X (.Assign [.Name x pos'] (.ListComp elt [⟨tg, iter, ifs, 0⟩] scope lpos) pos) (sSet i (eFz (oLC cap t mi g mt me))) := by
  obtain ⟨wi, pi, si⟩ := hi
  refine ⟨_, zkx hN hxi hx hf hsw hc (zlB hk hb) (zms hcap) pi (fun C s H fp => (hg C s H fp).choose_spec.1) (fun C s H fp => (ht C s H fp).choose_spec.1) (fun C s H fp => (he C s H fp).choose_spec.1) hs, fun B G H σ ρ fl ρ' E I hm k => ?_⟩
  obtain ⟨⟨d, ρ1⟩, e1, e3⟩ := zaH hm
  obtain ⟨⟨ds, ρ2⟩, e4, e5⟩ := zaH e1
  obtain ⟨rfl, rfl⟩ := Prod.mk.inj e5
  obtain ⟨rfl, rfl⟩ := Prod.mk.inj e3
  refine zkT si (fun C s H fp => (hg C s H fp).choose_spec.2) (fun C s H fp => (ht C s H fp).choose_spec.2) (fun C s H fp => (he C s H fp).choose_spec.2) B G H σ ρ ds ρ2 _ I e4 fun G1 H1 l xs I1 f1 g1 h1 r1 b1 n1 => ?_
  obtain ⟨I2, f2, r2⟩ := zi6 I1 g1 h1 r1 b1 n1
  exact k _ H1 _ (I2.set r2) (f1.trans f2)
end
end M
namespace M
open L2 PySem
@[simp] theorem atI_nat' {α : Type} (xs : List α) (i : Nat) : atI xs (i : Int) = xs[i]? := by
 unfold atI ixN
 rw [if_pos (by lia)]
 by_cases h : i < xs.length
 ·rw [if_pos (by lia)]; simp
 ·rw [if_neg (by lia)]; simp [List.getElem?_eq_none (by lia : xs.length <= i)]
end M
namespace M
open L2 PySem PySem.Spec
open PyProof.Rows hiding St
variable {K : W.Frag} {tg e a b : Expr} {G : Hp} {j : Int} {X : Cx} {ma mb : ME} {p pos : Pos} {xs : List V} {ds : List D}
noncomputable def Itrs (lo st : Int) (n : Nat) : It := ⟨fun i _ => i < n, fun i H x H' => H' = H /\ x = .int (lo + i * st), fun i _ => n <= i⟩
theorem zjQ {P : Program} {w : World} (it : Addr) (lo st : Int) (n : Nat) : Turn P w K tg (Itrs lo st n) [it] it (fun i h => IsRangeIter h it (lo + (i : Nat) * st) ((n : Int) - (i : Nat)) st) where
 mem := by simp
 obj := fun i h st b hb => by
  have e : b = it := by simpa using hb
  subst e
  exact ⟨_, st, fun v z => by
   have z' : Data.fields _ = Data.cell v := z
   cases z'⟩
 keep := fun i h h' st k => k it (by simp) _ st
 item := by
  intro X hP hw hK hc i pins s σ H E I hf st' hg
  subst hP hw hK
  obtain ⟨f0, f1, f2, f3, f4, f5⟩ := hf it (by simp)
  have W := Walks.range (prog := X.prog) (w := X.w) (I.ok.hd hc) it lo st n
  refine W.item i s _ _ hg st' fun v h' tk hv st' kk => ?_
  obtain ⟨t, rfl⟩ := hv
  have I1 : Inv X pins σ H { s with heap := h', toks := tk } := I.turned (fun b o hb e => kk b o (by simpa using hb) e) f0 f1 f3 f4 f5
  exact ⟨_, rfl, zmd (s := { s with heap := h', toks := tk }) (n := "range_iterator") st' rfl rfl (by decide) ⟨.int (lo + i * st), H, I1, ⟨t, rfl⟩, ⟨rfl, rfl⟩, st', fun b hb => (hf b hb).1⟩⟩
 done := by
  intro X hP hw hK hc i pins s σ H E I hf st' hg
  subst hP hw hK
  obtain ⟨f0, f1, f2, f3, f4, f5⟩ := hf it (by simp)
  exact wpAny_pyNext_range_end (I.ok.hd hc) st' (by have : n <= i := hg; lia) fun h' eb => ⟨rfl, I.turned (t' := s.toks) (fun b o hb e => eb b o hb e) f0 f1 f3 f4 f5⟩
 self := fun _ _ _ _ _ st h => wpAny_pyIter_rangeiter st h
noncomputable def ziT (lo st : Int) (n : Nat) : List D := (List.range n).map fun (i : Nat) => D.int (lo + (i : Int) * st)
theorem zlt (lo st : Int) (n : Nat) : Itm K (Itrs lo st n) G (ziT lo st n) where
 go := fun H i f hi => by show i < n; simpa [ziT] using hi
 yld := fun H i x H' f y d e => by
  obtain ⟨rfl, rfl⟩ := y
  unfold ziT at e
  rw [List.getElem?_map] at e
  cases q : (List.range n)[i]? with
  | none => rw [q] at e; cases e
  | some j =>
   rw [q] at e
   have hj : j = i := by
    have := List.getElem?_eq_some_iff.mp q
    obtain ⟨h1, h2⟩ := this
    simpa using h2.symm
   subst hj
   cases e
   exact .inl ⟨rfl, rfl⟩
 stop := fun H i f hi => by show n <= i; simpa [ziT] using hi
theorem zjl (h : zb6 j = true) : -(2 ^ 60) <= j /\ j < 2 ^ 60 := by
 unfold zb6 at h
 simp only [Bool.and_eq_true, decide_eq_true_eq] at h
 lia
noncomputable def zhl (lt : Int -> Int -> Bool) (ns : List Int) : Int := ns.getD (argBest (fun i j => lt (ns.getD i 0) (ns.getD j 0)) (ns.length - 1)) 0
noncomputable def rBest (K : W.Frag) (lt : Int -> Int -> Bool) : List V -> Hp -> VK -> Prop := fun xs H Q => ∃ (p : Addr) (ns : List Int), xs = [.ref p] /\ ns ≠ [] /\ (SqL K H p (ns.map V.int) \/ SqT K H p (ns.map V.int)) /\ Q (.int (zhl lt ns)) H
theorem zmP (hc : X.calm = true) : zeH X (.builtin "max") (rBest X.K fun i j => decide (i > j)) := by
 intro pins s σ H xs us Q I r h
 obtain ⟨p, ns, rfl, ne, hq, q⟩ := h
 obtain ⟨u, rfl, ru⟩ := zg0 r
 cases ru
 refine call_max_walk (zga (A := X.A.in1) (I.ok.hd hc) I hq fun its s₂ St rv W st hfp fin => ?_)
 have hl := rv.length
 rw [List.length_map] at hl
 have hp : 0 < its.length := by rw [<- hl]; exact List.length_pos_iff.mpr ne
 refine ⟨_, _, _, _, _, _, _, rfl, W, st, hfp, hp, CmpOf.ints_gt (fun i => ns.getD i 0) (fun i v e => zgj rv e), fun v h' tk hP hk => ?_⟩
 obtain ⟨t, rfl⟩ := zgj rv hP
 refine ⟨.int (zhl _ ns), H, fin h' tk hk, ⟨t, ?_⟩, q⟩
 unfold zhl
 rw [hl]
theorem zmS (hc : X.calm = true) : zeH X (.builtin "min") (rBest X.K fun i j => decide (i < j)) := by
 intro pins s σ H xs us Q I r h
 obtain ⟨p, ns, rfl, ne, hq, q⟩ := h
 obtain ⟨u, rfl, ru⟩ := zg0 r
 cases ru
 refine call_min_walk (zga (A := X.A.in1) (I.ok.hd hc) I hq fun its s₂ St rv W st hfp fin => ?_)
 have hl := rv.length
 rw [List.length_map] at hl
 have hp : 0 < its.length := by rw [<- hl]; exact List.length_pos_iff.mpr ne
 refine ⟨_, _, _, _, _, _, _, rfl, W, st, hfp, hp, CmpOf.ints_lt (fun i => ns.getD i 0) (fun i v e => zgj rv e), fun v h' tk hP hk => ?_⟩
 obtain ⟨t, rfl⟩ := zgj rv hP
 refine ⟨.int (zhl _ ns), H, fin h' tk hk, ⟨t, ?_⟩, q⟩
 unfold zhl
 rw [hl]
noncomputable def zj4 (lt : Int -> Int -> Bool) : List D -> Option D
 | [d] => (zaN [d]).bind fun ds => (zb4 ds).bind fun ns => if ns.isEmpty then none else some (.int (zhl lt ns))
 | _ => none
theorem zlQ (lt : Int -> Int -> Bool) : VC X (rBest X.K lt) (zj4 lt) := by
 intro B G H σ ρ xs ds d Q I r hf k
 match ds, hf with
 | [a], hf =>
  obtain ⟨es, e1, hf⟩ := zah hf
  obtain ⟨ns, e2, hf⟩ := zah hf
  split at hf
  ·cases hf
  ·rename_i ne
   cases hf
   obtain ⟨x, rfl, ra⟩ := r.one
   obtain ⟨p, ys, rfl, hq, ry⟩ := zg9 I ra e1
   rw [zf7 e2] at ry
   rw [RepL.ints_eq ry] at hq
   exact ⟨p, ns, rfl, fun z => ne (by rw [z]; rfl), hq, k G H _ I (Fz.refl G) rfl⟩
 | [], hf => cases hf
 | _ :: _ :: _, hf => cases hf
noncomputable def dMaxL : List D -> Option D := zj4 fun i j => decide (i > j)
noncomputable def dMinL : List D -> Option D := zj4 fun i j => decide (i < j)
theorem se_maxL {ma : MA} (hc : X.calm = true) (ml : X.mg "max" = none) (ha : SA X [e] ma) (hg : Gl X "max" := by rfl) (he : starEach [e] X.env = (false, eval e X.env) :: starEach [] X.env := by rfl) : SE X (.Call (.Name "max" p) [e] [] pos) (mC dMaxL ma) :=
 zct (zmP hc) (zlQ _) (by decide +kernel) ml ha hg (by decide) (by decide) he rfl
theorem se_minL {ma : MA} (hc : X.calm = true) (ml : X.mg "min" = none) (ha : SA X [e] ma) (hg : Gl X "min" := by rfl) (he : starEach [e] X.env = (false, eval e X.env) :: starEach [] X.env := by rfl) : SE X (.Call (.Name "min" p) [e] [] pos) (mC dMinL ma) :=
 zct (zmS hc) (zlQ _) (by decide +kernel) ml ha hg (by decide) (by decide) he rfl
noncomputable def oRep (ma mb : ME) : MO := fun ρ => (ma ρ).bind fun p => (mb p.2).bind fun q => match p.1, q.1 with
 | .lst xs, .int k => if zb6 k && decide (xs.length * k.toNat <= 16777216) then some ((List.replicate k.toNat xs).flatten, q.2) else none
 | _, _ => none
theorem RepL.times (h : RepL K G xs ds) : ∀ n : Nat, RepL K G (List.replicate n xs).flatten (List.replicate n ds).flatten
 | 0 => RepL.nil
 | n + 1 => by
  rw [List.replicate_succ, List.flatten_cons, List.replicate_succ, List.flatten_cons]
  exact h.append (h.times n)
theorem zlK (ha : SE X a ma) (hb : SE X b mb) : SO X (.BinOp a .Mult b pos) (oRep ma mb) := by
 obtain ⟨ta, pa, sa⟩ := ha
 obtain ⟨tb, pb, sb⟩ := hb
 refine ⟨_, pe_op op_rep pa pb, fun B G H σ ρ d ρ' Q I hm k => ?_⟩
 obtain ⟨⟨x, ρ1⟩, e1, hm⟩ := zah hm
 obtain ⟨⟨y, ρ2⟩, e2, hm⟩ := zah hm
 refine sa B G H σ ρ x ρ1 _ I e1 fun G1 H1 v I1 f1 r1 => sb B G1 H1 σ ρ1 y ρ2 _ I1 e2 fun G2 H2 u I2 f2 r2 => ?_
 dsimp only at hm
 split at hm
 ·rename_i xs n _
  split at hm
  ·rename_i hs
   cases hm
   simp only [Bool.and_eq_true, decide_eq_true_eq] at hs
   cases (show u = V.int n from r2)
   obtain ⟨l, ys, rfl, hl, r⟩ := I2.lst (r1.mono f2)
   have a1 := zhw hs.1
   refine ⟨l, n, ys, rfl, rfl, hl, by lia, by lia, by rw [r.length, sizeLine_eq]; exact hs.2, fun p hp => ?_⟩
   obtain ⟨I3, g3, h3, b3, n3⟩ := I2.newO hp (List.replicate n.toNat ys).flatten
   exact k G2 _ p _ I3 (f1.trans f2) g3 h3 (r.times _) b3 n3
  ·cases hm
 ·cases hm
noncomputable def flV : D -> Option V
 | .non => some .non
 | .bl b => some (.bl b)
 | .int i => some (.int i)
 | .str x => some (.str x)
 | _ => none
noncomputable def zln : List D -> Option (List V)
 | [] => some []
 | d :: ds => (flV d).bind fun v => (zln ds).map (v :: ·)
theorem flV_ok {x v : V} {d : D} (r : RepD K G x d) (e : flV d = some v) : x = v /\ zhJ v = true := by
 cases d <;> simp only [flV] at e <;> cases e <;> exact ⟨r, rfl⟩
theorem zkM : ∀ {ys xs : List V} {ds : List D}, RepL K G ys ds -> zln ds = some xs -> ys = xs /\ xs.all zhJ = true
 | ys, xs, [], r, e => by cases e; cases (show ys = [] from r); exact ⟨rfl, rfl⟩
 | ys, xs, d :: ds, r, e => by
  obtain ⟨y, zs, rfl, ry, rz⟩ := r
  obtain ⟨v, e1, e⟩ := zah e
  obtain ⟨vs, e2, rfl⟩ := zaH e
  obtain ⟨rfl, f1⟩ := flV_ok ry e1
  obtain ⟨rfl, f2⟩ := zkM rz e2
  exact ⟨rfl, by rw [List.all_cons, f1, f2]; rfl⟩
noncomputable def dInB (neg : Bool) (a b : D) : Option D := (flV a).bind fun x => (zaN [b]).bind fun ds => (zln ds).map fun xs => .bl (if neg then !inV x xs else inV x xs)
noncomputable def dIn : D -> D -> Option D := dInB false
noncomputable def zhY : D -> D -> Option D := dInB true
theorem v2_in (neg : Bool) : V2 X (rIn X.K neg) (dInB neg) := by
 intro B G H σ ρ x y a b d Q I ra rb hf k
 obtain ⟨v, e1, hf⟩ := zah hf
 obtain ⟨ds, e2, hf⟩ := zah hf
 obtain ⟨xs, e3, rfl⟩ := zaH hf
 obtain ⟨rfl, f1⟩ := flV_ok ra e1
 obtain ⟨p, ys, rfl, hq, ry⟩ := zg9 I rb e2
 obtain ⟨rfl, f2⟩ := zkM ry e3
 exact ⟨p, ys, rfl, hq, f1, f2, k G H _ I (Fz.refl G) rfl⟩
theorem se_in (ha : SE X a ma) (hb : SE X b mb) (hm : behindInMarks .In b = false := by rfl) : SE X (.Compare a [.In] [b] pos) (m2 dIn ma mb) := zjv zjo (v2_in false) ha hb hm
theorem bl_in (neg : Bool) : ∀ x y d, dInB neg x y = some d -> ∃ t, d = .bl t := by
 intro x y d hf
 obtain ⟨v, e1, hf⟩ := zah hf
 obtain ⟨ds, e2, hf⟩ := zah hf
 obtain ⟨xs, e3, rfl⟩ := zaH hf
 exact ⟨_, rfl⟩
theorem st_in (ha : SE X a ma) (hb : SE X b mb) (hm : behindInMarks .In b = false := by rfl) : STt X (.Compare a [.In] [b] pos) (tTru (m2 dIn ma mb)) := zfR zjo (v2_in false) (bl_in false) ha hb hm
theorem st_notIn (ha : SE X a ma) (hb : SE X b mb) (hm : behindInMarks .NotIn b = false := by rfl) : STt X (.Compare a [.NotIn] [b] pos) (tTru (m2 zhY ma mb)) := zfR zjD (v2_in true) (bl_in true) ha hb hm
end M
namespace M
open L2 PySem PySem.Spec
open PyProof.Rows hiding St
open Sem (wp)
variable {b N i k : Nat} {a it : Addr} {t : Bool} {h h' : Heap} {is xs ys : Array Value} {Q : Value -> Shared -> Prop}
theorem nin2 {b x y z : Nat} (h : b ∈ [x, y]) (h1 : x ≠ z) (h2 : y ≠ z) : b ≠ z := by
 simp at h
 rcases h with rfl | rfl <;> assumption
theorem nA {N a b : Nat} (h : a ≠ b) : N + a ≠ N + b := fun e => h (Nat.add_left_cancel e)
theorem nB (h : 0 ≠ b) : N ≠ N + b := fun e => h (Nat.add_left_cancel (show N + 0 = N + b from e))
theorem nC (h : b ≠ 0) : N + b ≠ N := fun e => h (Nat.add_left_cancel (show N + b = N + 0 from e))
theorem nL {a N b : Nat} (h : a < N) : a ≠ N + b := Nat.ne_of_lt (Nat.lt_of_lt_of_le h (Nat.le_add_right _ _))
theorem ne_ {a b : Nat} (h : a ≠ b) : a ≠ b := h
local macro_rules | `(tactic| ac_rfl) => `(tactic| first | exact M.nA (by decide) | exact M.nB (by decide) | exact M.nC (by decide) | exact M.nL (by assumption) | exact Nat.ne_of_lt (by assumption) | lia)
noncomputable def SrcIt : Bool -> Heap -> Addr -> Addr -> Nat -> Prop
 | true, h, it, a, i => h.IsTupleIter it a i
 | false, h, it, a, i => h.IsListIter it a i
noncomputable def SrcH : Bool -> Heap -> Addr -> Array Value -> Prop
 | true, h, a, its => h.IsTuple a its
 | false, h, a, its => h.IsList a its
theorem SrcIt.at (x : SrcIt t h it a i) (e : ∀ o, h.get? it = some o -> h'.get? it = some o) : SrcIt t h' it a i := by
 cases t
 ·exact Heap.IsListIter.at x e
 ·exact Heap.IsTupleIter.at x e
theorem SrcH.at (x : SrcH t h a is) (e : ∀ o, h.get? a = some o -> h'.get? a = some o) : SrcH t h' a is := by
 cases t
 ·exact Heap.IsList.at x e
 ·obtain ⟨o, ho, r⟩ := x; exact ⟨o, e _ ho, r⟩
theorem SrcIt.obj (x : SrcIt t h it a i) : ∃ o, h.get? it = some o /\ ∀ v, o.data ≠ .cell v := by
 cases t <;> (obtain ⟨o, e, c, d⟩ := x; exact ⟨o, e, fun v z => by rw [d] at z; cases z⟩)
theorem SrcH.lt (x : SrcH t h a is) : a < h.objs.size := by
 cases t <;> (obtain ⟨o, e, _⟩ := x; exact Heap.lt_size e)
section
variable {prog : Program} {w : World} {A : Around} {E : Value -> Shared -> Prop} {s : Shared}
theorem zko {it l : Addr} {items} (hit : s.heap.IsTupleIter it l i) (hl : s.heap.IsTuple l items)
  (k : (∃ x, items[i]? = some x /\ ∀ h', h'.IsTupleIter it l (i + 1) -> Heap.SameBut it s.heap h' -> Q x { s with heap := h' }) \/
   (items[i]? = none /\ A.handled = none /\ ∀ h' e, Heap.ExtBut it s.heap h' -> (∃ o, h'.get? e = some o /\ o.cls = .type "StopIteration") -> E (.ref e) { s with heap := h' })) :
  wpAny (model prog w) A (Builtin.SmallTypes.nextOf (.ref it)) Q E s := by
 obtain ⟨o, ho, hc, hd⟩ := id hit
 obtain ⟨ol, hol, -, nl, hdl⟩ := hl
 have ne : ¬ ((Value.ref l == Value.none) = true) := Bool.false_ne_true
 unfold Builtin.SmallTypes.nextOf
 refine wpAny_bind (wpAny_callSpecial?_slot (name := Str.ofString "__next__") hit.typeIs slot_tupleiter_next (wpAny_call_entry slot_tupleiter_next hit.typeIs entry_tupleiter_next ?_ (args_tupleiter_next _)))
 refine (?_ : wpAny _ _ (field (.ref it) 0 >>= _) _ _ s)
 refine wpAny_bind (wpAny_field ho hd (x := .ref l) rfl (?_ : wpAny _ _ (if (Value.ref l == Value.none) = true then _ else _) _ _ s))
 rw [if_neg ne]
 refine (?_ : wpAny _ _ (field (.ref it) 1 >>= _) _ _ s)
 refine wpAny_bind (wpAny_field ho hd (x := .int i 0) rfl (?_ : wpAny _ _ (seqItems? (.ref l) >>= _) _ _ s))
 refine wpAny_bind (wpAny_seqItems hol hdl ?_)
 rcases k with ⟨x, hx, k⟩ | ⟨hx, hh, k⟩ <;> simp only [Int.toNat_natCast, hx]
 ·have upd : ∀ h' : Heap, h'.get? it = some (o.mapFields fun a => a.setIfInBounds 1 (rawInt (((i : Nat) : Int) + 1))) -> h'.IsTupleIter it l (i + 1) := fun h' e => ⟨_, e, (Obj.cls_mapFields ..).trans hc, by rw [Obj.data_mapFields hd]; simp [rawInt]⟩
  refine wpAny_bind (wpAny_setField ho hd (by simp) (wpAny_pure ⟨x, rfl, wpAny_pure (k _ ?_ (Heap.SameBut.update ..))⟩))
  refine ⟨_, Heap.get?_update_self _ ho (Obj.isFreed_of_fields (Obj.data_mapFields hd _)), (Obj.cls_mapFields ..).trans hc, ?_⟩
  rw [Obj.data_mapFields hd]
  simp [rawInt]
 ·refine wpAny_bind (wpAny_rule (wpAny_bind (wpAny_setField ho hd (by simp) (?_ : wpAny _ _ (newExc (.type "StopIteration") [] >>= _) _ _ _))))
  refine wpAny_bind ?_
  simp only [newExc, newTuple]
  refine wpAny_bind (wpAny_newObj_type (wpAny_bind (m := firstArgMember _ _) (wpAny_of_eq (a := Value.none) (by first | rfl | (simp only [firstArgMember]; rfl)) (wpAny_newObj_type ?_ (by size_fits)))) (by size_fits))
  simp only [raiseNew]
  refine wpAny_bind (wpAny_handled ?_)
  first | rw [show A.in1.handled = none from hh] | rw [hh]
  exact wpAny_bind (wpAny_pure (wpAny_throw (k _ _ (((Heap.SameBut.update ..).extBut.push _).push _) ⟨_, Heap.get?_push_size _ rfl, rfl⟩)))
theorem zbz (hh : A.handled = none) (it l : Addr) (hne : l ≠ it) (items : Array Value) : Draws prog w A it [it, l] items.size (fun i v => items[i]? = some v) (fun i h => SrcIt t h it l i /\ SrcH t h l items) := by
 cases t
 ·exact Draws.list hh it l hne items
 ·refine ⟨fun _ _ st => ?_, fun _ _ _ st hk => ⟨SrcIt.at st.1 fun o e => hk it (by simp) o e, SrcH.at st.2 fun o e => hk l (by simp) o e⟩, fun i s Q E hi st hQ => ?_, fun s Q E st hE => zko st.1 st.2 (.inr ⟨by simp, hh, hE⟩)⟩
  ·obtain ⟨o, e, -⟩ := SrcIt.obj st.1
   exact ⟨o, e⟩
  ·exact zko st.1 st.2 (.inl ⟨items[i], by simp [hi], fun h' a b => hQ _ h' s.toks (by simp [hi]) ⟨a, SrcH.at st.2 fun o e => (b.2 l hne).trans e⟩ b⟩)
noncomputable def srcO (t : Bool) (a : Addr) : Obj := { cls := .type (if t then "tuple_iterator" else "list_iterator"), data := .fields #[.ref a, .int 0 0] }
theorem zhj (e : h.get? it = some (srcO t a)) : SrcIt t h it a 0 := by
 cases t <;> exact ⟨_, e, rfl, rfl⟩
theorem zeC (t : Bool) (a : Addr) : (srcO t a).isFreed = false := by cases t <;> rfl
theorem zdH {items} (hl : SrcH t s.heap a items) (hQ : Q (.ref s.heap.objs.size) { s with heap := s.heap.push (srcO t a) }) :
  wpAny (model prog w) A (pyIter (.ref a)) Q E s := by
 cases t
 ·exact wpAny_pyIter_list hl hQ
 ·exact wpAny_pyIter_tuple hl hQ
noncomputable abbrev zdi (h : Heap) (T : Addr) (a b c : Value) : Prop := h.get? T = some { cls := .type "tuple", data := .seq #[a, b, c] }
theorem zhE {T : Addr} {a b c x : Value} {Q : Unit -> Shared -> Prop} (hT : zdi s.heap T a b c)
  (h : ∀ h', h'.get? T = some { cls := .type "tuple", data := .seq ((#[a, b, c] : Array Value).setIfInBounds k x) } -> Heap.SameBut T s.heap h' -> Q () { s with heap := h' }) :
  wpAny (model prog w) A (updateSeq T (·.setIfInBounds k x)) Q E s :=
 wpAny_updateSeq hT rfl (h _ (by rw [Heap.get?_update_self _ hT rfl]; simp [Obj.mapSeq]) (Heap.SameBut.update ..))
section
variable {N a1 a2 a3 : Nat} {n1 n2 n3 : Nat} {P1 P2 P3 : Nat -> Value -> Prop} {S1 S2 S3 : Nat -> Heap -> Prop}
theorem zmZ {a b c : Value} (D1 : Draws prog w A N [N, a1] n1 P1 S1) (D2 : Draws prog w A (N + 1) [N + 1, a2] n2 P2 S2) (D3 : Draws prog w A (N + 2) [N + 2, a3] n3 P3 S3) (l1 : a1 < N) (l2 : a2 < N) (l3 : a3 < N)
  (hz : IsZip s.heap (N + 5) (N + 3) (N + 4) .none) (hTI : zdi s.heap (N + 3) (.ref N) (.ref (N + 1)) (.ref (N + 2))) (hTO : zdi s.heap (N + 4) a b c) (h1 : S1 i s.heap) (h2 : S2 i s.heap) (h3 : S3 i s.heap) (i1 : i < n1) (i2 : i < n2) (i3 : i < n3)
  (k : ∀ x y z h' tk, P1 i x -> P2 i y -> P3 i z -> IsZip h' (N + 5) (N + 3) (N + 4) (rawInt s.heap.objs.size) -> zdi h' (N + 4) x y z -> S1 (i + 1) h' -> S2 (i + 1) h' -> S3 (i + 1) h' -> zdi h' s.heap.objs.size x y z ->
   (∀ c o, c ≠ N -> c ≠ N + 1 -> c ≠ N + 2 -> c ≠ N + 4 -> c ≠ N + 5 -> s.heap.get? c = some o -> h'.get? c = some o) -> Q (.ref s.heap.objs.size) { s with heap := h', toks := tk }) :
  wpAny (model prog w) A (Builtin.«zip.__next__» ⟨[.ref (N + 5)], []⟩) (fun fin s' => ∃ v, fin = .done (.ret v) /\ Q v s') E s := by
 refine (?_ : wpAny _ _ (field (.ref (N + 5)) 2 >>= _) _ _ _)
 refine wpAny_bind (wpAny_field hz rfl (x := .bool false) rfl (?_ : wpAny _ _ (field (.ref (N + 5)) 3 >>= _) _ _ _))
 refine wpAny_bind (wpAny_field hz rfl (x := .ref (N + 3)) rfl (wpAny_bind (wpAny_seqItems hTI rfl (?_ : wpAny _ _ (Builtin.SmallTypes.ownedTupleIsFree (.ref (N + 5)) >>= _) _ _ _))))
 refine wpAny_bind ?_
 unfold Builtin.SmallTypes.ownedTupleIsFree
 refine wpAny_bind (wpAny_field hz rfl (x := .none) rfl (wpAny_pure ?_))
 simp only [if_true]
 refine wpAny_bind (wpAny_rule (wpAny_bind (wpAny_field hz rfl (x := .ref (N + 4)) rfl (wpAny_bind (wpAny_setField_rec hz (by simp) fun g1 z1 s1 => wpAny_bind ?_)))))
 replace z1 : IsZip g1 (N + 5) (N + 3) (N + 4) .ellipsis := z1
 simp only [List.zipIdx_cons, List.zipIdx_nil, List.forIn_cons, List.forIn_nil]
 refine wpAny_bind (wpAny_bind (wpAny_onRaise (?_ : wpAny _ _ (Builtin.SmallTypes.nextOf (.ref N) >>= _) _ _ _)))
 have e1 : S1 i g1 := D1.frame _ _ _ h1 fun b hb o e => (s1.2 b (nin2 hb (by ac_rfl) (by ac_rfl))).trans e
 refine wpAny_bind (D1.item i _ _ _ i1 e1 fun x g2 t2 p1 f2 s2 => wpAny_pure ?_)
 have q2 : zdi g2 (N + 4) a b c := (s2.2 _ (ne_ (by ac_rfl))).trans ((s1.2 _ (ne_ (by ac_rfl))).trans hTO)
 refine wpAny_bind (wpAny_seqItems q2 rfl (wpAny_bind (zhE q2 fun g3 q3 s3 => wpAny_bind (wpAny_letGo (wpAny_pure ?_)))))
 replace q3 : zdi g3 (N + 4) x b c := q3
 have k3 : ∀ d o, d ≠ N -> d ≠ N + 4 -> d ≠ N + 5 -> s.heap.get? d = some o -> g3.get? d = some o := fun d o c1 c2 c3 e => (s3.2 d c2).trans ((s2.2 d c1).trans ((s1.2 d c3).trans e))
 refine wpAny_bind (wpAny_bind (wpAny_onRaise (?_ : wpAny _ _ (Builtin.SmallTypes.nextOf (.ref (N + 1)) >>= _) _ _ _)))
 have e3 : S2 i g3 := D2.frame _ _ _ h2 fun b hb o e => k3 b o (nin2 hb (by ac_rfl) (by ac_rfl)) (nin2 hb (by ac_rfl) (by ac_rfl)) (nin2 hb (by ac_rfl) (by ac_rfl)) e
 refine wpAny_bind (D2.item i _ _ _ i2 e3 fun y g4 t4 p2 f4 s4 => wpAny_pure ?_)
 have q4 : zdi g4 (N + 4) x b c := (s4.2 _ (ne_ (by ac_rfl))).trans q3
 refine wpAny_bind (wpAny_seqItems q4 rfl (wpAny_bind (zhE q4 fun g5 q5 s5 => wpAny_bind (wpAny_letGo (wpAny_pure ?_)))))
 replace q5 : zdi g5 (N + 4) x y c := q5
 refine wpAny_bind (wpAny_bind (wpAny_onRaise (?_ : wpAny _ _ (Builtin.SmallTypes.nextOf (.ref (N + 2)) >>= _) _ _ _)))
 have e5 : S3 i g5 := D3.frame _ _ _ h3 fun b hb o e => (s5.2 b (nin2 hb (by ac_rfl) (by ac_rfl))).trans ((s4.2 b (nin2 hb (by ac_rfl) (by ac_rfl))).trans (k3 b o (nin2 hb (by ac_rfl) (by ac_rfl)) (nin2 hb (by ac_rfl) (by ac_rfl)) (nin2 hb (by ac_rfl) (by ac_rfl)) e))
 refine wpAny_bind (D3.item i _ _ _ i3 e5 fun z g6 t6 p3 f6 s6 => wpAny_pure ?_)
 have q6 : zdi g6 (N + 4) x y c := (s6.2 _ (ne_ (by ac_rfl))).trans q5
 refine wpAny_bind (wpAny_seqItems q6 rfl (wpAny_bind (zhE q6 fun g7 q7 s7 => wpAny_bind (wpAny_letGo (wpAny_pure (wpAny_pure ?_))))))
 replace q7 : zdi g7 (N + 4) x y z := q7
 have sz : g7.objs.size = s.heap.objs.size := by rw [s7.1, s6.1, s5.1, s4.1, s3.1, s2.1, s1.1]
 have z7 : IsZip g7 (N + 5) (N + 3) (N + 4) .ellipsis := (s7.2 _ (ne_ (by ac_rfl))).trans ((s6.2 _ (ne_ (by ac_rfl))).trans ((s5.2 _ (ne_ (by ac_rfl))).trans ((s4.2 _ (ne_ (by ac_rfl))).trans ((s3.2 _ (ne_ (by ac_rfl))).trans ((s2.2 _ (ne_ (by ac_rfl))).trans z1)))))
 have zl : (N + 5 : Nat) < g7.objs.size := Heap.lt_size z7
 have k7 : ∀ d o, d ≠ N -> d ≠ N + 1 -> d ≠ N + 2 -> d ≠ N + 4 -> d ≠ N + 5 -> s.heap.get? d = some o -> g7.get? d = some o := fun d o c1 c2 c3 c4 c5 e => (s7.2 d c4).trans ((s6.2 d c3).trans ((s5.2 d c4).trans ((s4.2 d c2).trans (k3 d o c1 c4 c5 e))))
 have f7 : S1 (i + 1) g7 := D1.frame _ _ _ f2 fun b hb o e => (s7.2 b (nin2 hb (by ac_rfl) (by ac_rfl))).trans ((s6.2 b (nin2 hb (by ac_rfl) (by ac_rfl))).trans ((s5.2 b (nin2 hb (by ac_rfl) (by ac_rfl))).trans ((s4.2 b (nin2 hb (by ac_rfl) (by ac_rfl))).trans ((s3.2 b (nin2 hb (by ac_rfl) (by ac_rfl))).trans e))))
 have f7' : S2 (i + 1) g7 := D2.frame _ _ _ f4 fun b hb o e => (s7.2 b (nin2 hb (by ac_rfl) (by ac_rfl))).trans ((s6.2 b (nin2 hb (by ac_rfl) (by ac_rfl))).trans ((s5.2 b (nin2 hb (by ac_rfl) (by ac_rfl))).trans e))
 have f7'' : S3 (i + 1) g7 := D3.frame _ _ _ f6 fun b hb o e => (s7.2 b (nin2 hb (by ac_rfl) (by ac_rfl))).trans e
 refine wpAny_bind (wpAny_seqItems q7 rfl (wpAny_bind (wpAny_newTuple (?_ : wpAny _ _ (Builtin.SmallTypes.ownedTupleHandOut (.ref (N + 5)) (.ref g7.objs.size) >>= _) _ _ _))))
 refine wpAny_bind ?_
 unfold Builtin.SmallTypes.ownedTupleHandOut
 refine wpAny_bind (wpAny_setField_rec (show IsZip (g7.push { cls := .type "tuple", data := .seq #[x, y, z] }) (N + 5) (N + 3) (N + 4) .ellipsis from Heap.get?_push_of_some _ z7) (by simp) fun g9 z9 s9 => ?_)
 replace z9 : IsZip g9 (N + 5) (N + 3) (N + 4) (rawInt g7.objs.size) := z9
 refine wpAny_setField_rec z9 (by simp) fun g8 z8 s8 => wpAny_pure ⟨_, rfl, ?_⟩
 replace z8 : IsZip g8 (N + 5) (N + 3) (N + 4) (rawInt g7.objs.size) := z8
 have up : ∀ c o, c ≠ N + 5 -> g7.get? c = some o -> g8.get? c = some o := fun c o c1 e => (s8.2 c c1).trans ((s9.2 c c1).trans (Heap.get?_push_of_some _ e))
 have T8 : zdi g8 g7.objs.size x y z := (s8.2 _ (ne_ (by ac_rfl))).trans ((s9.2 _ (ne_ (by ac_rfl))).trans (Heap.get?_push_size _ rfl))
 rw [sz] at z8 T8
 refine (?_ : Q (.ref g7.objs.size) _)
 rw [sz]
 exact k x y z g8 _ p1 p2 p3 z8 (up _ _ (ne_ (by ac_rfl)) q7) (D1.frame _ _ _ f7 fun b hb o e => up b o (nin2 hb (by ac_rfl) (by ac_rfl)) e) (D2.frame _ _ _ f7' fun b hb o e => up b o (nin2 hb (by ac_rfl) (by ac_rfl)) e) (D3.frame _ _ _ f7'' fun b hb o e => up b o (nin2 hb (by ac_rfl) (by ac_rfl)) e) T8 fun c o c1 c2 c3 c4 c5 e => up c o c5 (k7 c o c1 c2 c3 c4 c5 e)
theorem zip3_end {a b c : Value} {Q : Fin -> Shared -> Prop} (D1 : Draws prog w A N [N, a1] n1 P1 S1) (D2 : Draws prog w A (N + 1) [N + 1, a2] n2 P2 S2) (D3 : Draws prog w A (N + 2) [N + 2, a3] n3 P3 S3) (l1 : a1 < N) (l2 : a2 < N) (l3 : a3 < N)
  (hz : IsZip s.heap (N + 5) (N + 3) (N + 4) .none) (hTI : zdi s.heap (N + 3) (.ref N) (.ref (N + 1)) (.ref (N + 2))) (hTO : zdi s.heap (N + 4) a b c) (h1 : S1 i s.heap) (h2 : S2 i s.heap) (h3 : S3 i s.heap) (hi : i = n1 \/ (i < n1 /\ (i = n2 \/ (i < n2 /\ i = n3))))
  (k : ∀ h' e tk, (∀ c o, c ≠ N -> c ≠ N + 1 -> c ≠ N + 2 -> c ≠ N + 4 -> c ≠ N + 5 -> s.heap.get? c = some o -> h'.get? c = some o) -> (∃ o, h'.get? e = some o /\ o.cls = .type "StopIteration") -> E (.ref e) { s with heap := h', toks := tk }) :
  wpAny (model prog w) A (Builtin.«zip.__next__» ⟨[.ref (N + 5)], []⟩) Q E s := by
 refine (?_ : wpAny _ _ (field (.ref (N + 5)) 2 >>= _) _ _ _)
 refine wpAny_bind (wpAny_field hz rfl (x := .bool false) rfl (?_ : wpAny _ _ (field (.ref (N + 5)) 3 >>= _) _ _ _))
 refine wpAny_bind (wpAny_field hz rfl (x := .ref (N + 3)) rfl (wpAny_bind (wpAny_seqItems hTI rfl (?_ : wpAny _ _ (Builtin.SmallTypes.ownedTupleIsFree (.ref (N + 5)) >>= _) _ _ _))))
 refine wpAny_bind ?_
 unfold Builtin.SmallTypes.ownedTupleIsFree
 refine wpAny_bind (wpAny_field hz rfl (x := .none) rfl (wpAny_pure ?_))
 simp only [if_true]
 refine wpAny_bind (wpAny_rule (wpAny_bind (wpAny_field hz rfl (x := .ref (N + 4)) rfl (wpAny_bind (wpAny_setField_rec hz (by simp) fun g1 z1 s1 => wpAny_bind ?_)))))
 replace z1 : IsZip g1 (N + 5) (N + 3) (N + 4) .ellipsis := z1
 simp only [List.zipIdx_cons, List.zipIdx_nil, List.forIn_cons, List.forIn_nil]
 refine wpAny_bind (wpAny_bind (wpAny_onRaise (?_ : wpAny _ _ (Builtin.SmallTypes.nextOf (.ref N) >>= _) _ _ _)))
 have e1 : S1 i g1 := D1.frame _ _ _ h1 fun b hb o e => (s1.2 b (nin2 hb (by ac_rfl) (by ac_rfl))).trans e
 rcases hi with rfl | ⟨i1, hi⟩
 ·refine wpAny_bind (D1.done _ _ _ e1 fun g2 e x2 he => ?_)
  obtain ⟨oe, hoe, hce⟩ := he
  have z2 : IsZip g2 (N + 5) (N + 3) (N + 4) .ellipsis := x2 _ _ (ne_ (by ac_rfl)) z1
  have hez : e ≠ N + 5 := fun x => by subst x; rw [z2] at hoe; cases hoe; simp at hce
  exact wpAny_setField_rec z2 (by simp) fun g3 _ s3 => k g3 e _ (fun c o c1 c2 c3 c4 c5 x => (s3.2 c c5).trans (x2 c o c1 ((s1.2 c c5).trans x))) ⟨oe, (s3.2 _ hez).trans hoe, hce⟩
 refine wpAny_bind (D1.item i _ _ _ i1 e1 fun x g2 t2 p1 f2 s2 => wpAny_pure ?_)
 have q2 : zdi g2 (N + 4) a b c := (s2.2 _ (ne_ (by ac_rfl))).trans ((s1.2 _ (ne_ (by ac_rfl))).trans hTO)
 refine wpAny_bind (wpAny_seqItems q2 rfl (wpAny_bind (zhE q2 fun g3 q3 s3 => wpAny_bind (wpAny_letGo (wpAny_pure ?_)))))
 replace q3 : zdi g3 (N + 4) x b c := q3
 have k3 : ∀ d o, d ≠ N -> d ≠ N + 4 -> d ≠ N + 5 -> s.heap.get? d = some o -> g3.get? d = some o := fun d o c1 c2 c3 e => (s3.2 d c2).trans ((s2.2 d c1).trans ((s1.2 d c3).trans e))
 have z3 : IsZip g3 (N + 5) (N + 3) (N + 4) .ellipsis := (s3.2 _ (ne_ (by ac_rfl))).trans ((s2.2 _ (ne_ (by ac_rfl))).trans z1)
 refine wpAny_bind (wpAny_bind (wpAny_onRaise (?_ : wpAny _ _ (Builtin.SmallTypes.nextOf (.ref (N + 1)) >>= _) _ _ _)))
 have e3 : S2 i g3 := D2.frame _ _ _ h2 fun b hb o e => k3 b o (nin2 hb (by ac_rfl) (by ac_rfl)) (nin2 hb (by ac_rfl) (by ac_rfl)) (nin2 hb (by ac_rfl) (by ac_rfl)) e
 rcases hi with rfl | ⟨i2, rfl⟩
 ·refine wpAny_bind (D2.done _ _ _ e3 fun g4 e x4 he => ?_)
  obtain ⟨oe, hoe, hce⟩ := he
  have z4 : IsZip g4 (N + 5) (N + 3) (N + 4) .ellipsis := x4 _ _ (ne_ (by ac_rfl)) z3
  have hez : e ≠ N + 5 := fun x => by subst x; rw [z4] at hoe; cases hoe; simp at hce
  exact wpAny_setField_rec z4 (by simp) fun g5 _ s5 => k g5 e _ (fun c o c1 c2 c3 c4 c5 x => (s5.2 c c5).trans (x4 c o c2 (k3 c o c1 c4 c5 x))) ⟨oe, (s5.2 _ hez).trans hoe, hce⟩
 refine wpAny_bind (D2.item i _ _ _ i2 e3 fun y g4 t4 p2 f4 s4 => wpAny_pure ?_)
 have q4 : zdi g4 (N + 4) x b c := (s4.2 _ (ne_ (by ac_rfl))).trans q3
 refine wpAny_bind (wpAny_seqItems q4 rfl (wpAny_bind (zhE q4 fun g5 q5 s5 => wpAny_bind (wpAny_letGo (wpAny_pure ?_)))))
 have z5 : IsZip g5 (N + 5) (N + 3) (N + 4) .ellipsis := (s5.2 _ (ne_ (by ac_rfl))).trans ((s4.2 _ (ne_ (by ac_rfl))).trans z3)
 refine wpAny_bind (wpAny_bind (wpAny_onRaise (?_ : wpAny _ _ (Builtin.SmallTypes.nextOf (.ref (N + 2)) >>= _) _ _ _)))
 have e5 : S3 i g5 := D3.frame _ _ _ h3 fun b hb o e => (s5.2 b (nin2 hb (by ac_rfl) (by ac_rfl))).trans ((s4.2 b (nin2 hb (by ac_rfl) (by ac_rfl))).trans (k3 b o (nin2 hb (by ac_rfl) (by ac_rfl)) (nin2 hb (by ac_rfl) (by ac_rfl)) (nin2 hb (by ac_rfl) (by ac_rfl)) e))
 refine wpAny_bind (D3.done _ _ _ e5 fun g6 e x6 he => ?_)
 obtain ⟨oe, hoe, hce⟩ := he
 have z6 : IsZip g6 (N + 5) (N + 3) (N + 4) .ellipsis := x6 _ _ (ne_ (by ac_rfl)) z5
 have hez : e ≠ N + 5 := fun x => by subst x; rw [z6] at hoe; cases hoe; simp at hce
 exact wpAny_setField_rec z6 (by simp) fun g7 _ s7 => k g7 e _ (fun c o c1 c2 c3 c4 c5 x => (s7.2 c c5).trans (x6 c o c3 ((s5.2 c c4).trans ((s4.2 c c2).trans (k3 c o c1 c4 c5 x))))) ⟨oe, (s7.2 _ hez).trans hoe, hce⟩
end
end
noncomputable abbrev tup_ (vs : Array Value) : Obj := { cls := .type "tuple", data := .seq vs }
noncomputable abbrev zip_ (ti to : Addr) : Obj := { cls := .type "zip", data := .fields #[.none, .bool false, .bool false, .ref ti, .ref to] }
noncomputable abbrev z2a (h : Heap) (t1 t2 : Bool) (l1 l2 : Addr) : Heap := (h.push (srcO t1 l1)).push (srcO t2 l2)
noncomputable abbrev z2b (h : Heap) (t1 t2 : Bool) (l1 l2 : Addr) : Heap := (z2a h t1 t2 l1 l2).push (tup_ #[.ref h.objs.size, .ref (h.push (srcO t1 l1)).objs.size])
noncomputable abbrev z2c (h : Heap) (t1 t2 : Bool) (l1 l2 : Addr) : Heap := (z2b h t1 t2 l1 l2).push (tup_ #[.none, .none])
noncomputable abbrev z2d (h : Heap) (t1 t2 : Bool) (l1 l2 : Addr) : Heap := (z2c h t1 t2 l1 l2).push (zip_ (z2a h t1 t2 l1 l2).objs.size (z2b h t1 t2 l1 l2).objs.size)
theorem zlh (t1 t2 : Bool) (l1 l2 : Addr) (xs ys : Array Value) : Meets (Builtin.«zip.__new__» ⟨[.type "zip", .ref l1, .ref l2], []⟩) (fun _ R s => SrcH t1 s.heap l1 xs /\ SrcH t2 s.heap l2 ys /\
   R (.ok (.ret (.ref (z2c s.heap t1 t2 l1 l2).objs.size))) { s with heap := z2d s.heap t1 t2 l1 l2 }) :=
 .of_wp fun prog w A R s h => by
  obtain ⟨hp, g, d, tk, os⟩ := s
  obtain ⟨b1, b2, h⟩ := h
  have hsub := sub_zip
  have L1 : SrcH t1 (Shared.heap ⟨hp, g, d, tk, os⟩) l1 xs := b1
  have L2 : SrcH t2 (Shared.heap ⟨hp.push (srcO t1 l1), g, d, tk, os⟩) l2 ys := SrcH.at b2 fun o e => Heap.get?_push_of_some _ e
  wp_walk using zdH L1, zdH L2
  exact ⟨_, rfl, h⟩
noncomputable abbrev z3a (h : Heap) (t1 t2 t3 : Bool) (l1 l2 l3 : Addr) : Heap := ((h.push (srcO t1 l1)).push (srcO t2 l2)).push (srcO t3 l3)
noncomputable abbrev z3b (h : Heap) (t1 t2 t3 : Bool) (l1 l2 l3 : Addr) : Heap := (z3a h t1 t2 t3 l1 l2 l3).push (tup_ #[.ref h.objs.size, .ref (h.push (srcO t1 l1)).objs.size, .ref ((h.push (srcO t1 l1)).push (srcO t2 l2)).objs.size])
noncomputable abbrev z3c (h : Heap) (t1 t2 t3 : Bool) (l1 l2 l3 : Addr) : Heap := (z3b h t1 t2 t3 l1 l2 l3).push (tup_ #[.none, .none, .none])
noncomputable abbrev z3d (h : Heap) (t1 t2 t3 : Bool) (l1 l2 l3 : Addr) : Heap := (z3c h t1 t2 t3 l1 l2 l3).push (zip_ (z3a h t1 t2 t3 l1 l2 l3).objs.size (z3b h t1 t2 t3 l1 l2 l3).objs.size)
set_option maxHeartbeats 4000000 in
theorem zlm (t1 t2 t3 : Bool) (l1 l2 l3 : Addr) (xs ys zs : Array Value) : Meets (Builtin.«zip.__new__» ⟨[.type "zip", .ref l1, .ref l2, .ref l3], []⟩) (fun _ R s => SrcH t1 s.heap l1 xs /\ SrcH t2 s.heap l2 ys /\ SrcH t3 s.heap l3 zs /\
   R (.ok (.ret (.ref (z3c s.heap t1 t2 t3 l1 l2 l3).objs.size))) { s with heap := z3d s.heap t1 t2 t3 l1 l2 l3 }) :=
 .of_wp fun prog w A R s h => by
  obtain ⟨hp, g, d, tk, os⟩ := s
  obtain ⟨b1, b2, b3, h⟩ := h
  have hsub := sub_zip
  have L1 : SrcH t1 (Shared.heap ⟨hp, g, d, tk, os⟩) l1 xs := b1
  have L2 : SrcH t2 (Shared.heap ⟨hp.push (srcO t1 l1), g, d, tk, os⟩) l2 ys := SrcH.at b2 fun o e => Heap.get?_push_of_some _ e
  have L3 : SrcH t3 (Shared.heap ⟨(hp.push (srcO t1 l1)).push (srcO t2 l2), g, d, tk, os⟩) l3 zs := SrcH.at b3 fun o e => Heap.get?_push_of_some _ (Heap.get?_push_of_some _ e)
  wp_walk using zdH L1, zdH L2, zdH L3
  exact ⟨_, rfl, h⟩
theorem zit (a b c : Value) : checkTypeCall "zip" ⟨[a, b, c], []⟩ = pure () := by kernel_rfl
theorem ziQ (a b c : Value) : checkBuiltinCall "zip.__new__" ⟨[.type "zip", a, b, c], []⟩ = pure () := by kernel_rfl
theorem zlo (a b c d : Value) : argsOk "object.__init__" ⟨[a, b, c, d], []⟩ := by
 unfold argsOk; rw [signature?_of (id := "object.__init__") (n := ['_', '_', 't', 'i', 'n', 'i', '_', '_']) (o := ['t', 'c', 'e', 'j', 'b', 'o']) (by kernel_rfl) F.owner_object]; kernel_rfl
section
variable {prog : Program} {w : World} {A : Around} {E : Value -> Shared -> Prop} {s : Shared}
theorem zlH {t1 t2 : Bool} {l1 l2 : Addr} (h1 : SrcH t1 s.heap l1 xs) (h2 : SrcH t2 s.heap l2 ys)
  (k : ∀ h', IsZip h' (s.heap.objs.size + 4) (s.heap.objs.size + 2) (s.heap.objs.size + 3) .none -> IsPair h' (s.heap.objs.size + 2) (.ref s.heap.objs.size) (.ref (s.heap.objs.size + 1)) ->
   IsPair h' (s.heap.objs.size + 3) .none .none -> SrcIt t1 h' s.heap.objs.size l1 0 -> SrcIt t2 h' (s.heap.objs.size + 1) l2 0 ->
   (∀ c o, s.heap.get? c = some o -> h'.get? c = some o) -> Q (.ref (s.heap.objs.size + 4)) { s with heap := h' }) : wpAny (model prog w) A (call (.type "zip") [.ref l1, .ref l2]) Q E s := by
 refine callType_new F.called_zip (by decide) (F.typeCall_zip_2 _ _) (F.newCall_zip_2 _ _) (fun obj => F.args_object_init_3 obj _ _) F.entry_zip_new (zlh t1 t2 l1 l2 xs ys) ⟨h1, h2, (?_ : _ /\ _)⟩
 have y1 : (s.heap.push (srcO t1 l1)).objs.size = s.heap.objs.size + 1 := Heap.size_push ..
 have y2 : (z2a s.heap t1 t2 l1 l2).objs.size = s.heap.objs.size + 2 := by rw [Heap.size_push, y1]
 have y3 : (z2b s.heap t1 t2 l1 l2).objs.size = s.heap.objs.size + 3 := by rw [Heap.size_push, y2]
 have y4 : (z2c s.heap t1 t2 l1 l2).objs.size = s.heap.objs.size + 4 := by rw [Heap.size_push, y3]
 have g5 : (z2d s.heap t1 t2 l1 l2).get? (z2c s.heap t1 t2 l1 l2).objs.size = some _ := Heap.get?_push_size _ rfl
 have g4 : (z2d s.heap t1 t2 l1 l2).get? (z2b s.heap t1 t2 l1 l2).objs.size = some _ := Heap.get?_push_of_some _ (Heap.get?_push_size _ rfl)
 have g3 : (z2d s.heap t1 t2 l1 l2).get? (z2a s.heap t1 t2 l1 l2).objs.size = some _ := Heap.get?_push_of_some _ (Heap.get?_push_of_some _ (Heap.get?_push_size _ rfl))
 have g2 : (z2d s.heap t1 t2 l1 l2).get? (s.heap.push (srcO t1 l1)).objs.size = some (srcO t2 l2) := Heap.get?_push_of_some _ (Heap.get?_push_of_some _ (Heap.get?_push_of_some _ (Heap.get?_push_size _ (zeC ..))))
 have g1 : (z2d s.heap t1 t2 l1 l2).get? s.heap.objs.size = some (srcO t1 l1) := Heap.get?_push_of_some _ (Heap.get?_push_of_some _ (Heap.get?_push_of_some _ (Heap.get?_push_of_some _ (Heap.get?_push_size _ (zeC ..)))))
 rw [y2, y3, y4] at g5
 rw [y1, y2] at g3
 rw [y3] at g4
 rw [y1] at g2
 rw [y4]
 exact ⟨⟨_, g5, rfl⟩, k _ g5 g3 g4 (zhj g1) (zhj g2) fun c o x => Heap.get?_push_of_some _ (Heap.get?_push_of_some _ (Heap.get?_push_of_some _ (Heap.get?_push_of_some _ (Heap.get?_push_of_some _ x))))⟩
theorem zmC {t1 t2 t3 : Bool} {l1 l2 l3 : Addr} {xs ys zs : Array Value} (h1 : SrcH t1 s.heap l1 xs) (h2 : SrcH t2 s.heap l2 ys) (h3 : SrcH t3 s.heap l3 zs)
  (k : ∀ h', IsZip h' (s.heap.objs.size + 5) (s.heap.objs.size + 3) (s.heap.objs.size + 4) .none -> zdi h' (s.heap.objs.size + 3) (.ref s.heap.objs.size) (.ref (s.heap.objs.size + 1)) (.ref (s.heap.objs.size + 2)) ->
   zdi h' (s.heap.objs.size + 4) .none .none .none -> SrcIt t1 h' s.heap.objs.size l1 0 -> SrcIt t2 h' (s.heap.objs.size + 1) l2 0 -> SrcIt t3 h' (s.heap.objs.size + 2) l3 0 ->
   (∀ c o, s.heap.get? c = some o -> h'.get? c = some o) -> Q (.ref (s.heap.objs.size + 5)) { s with heap := h' }) : wpAny (model prog w) A (call (.type "zip") [.ref l1, .ref l2, .ref l3]) Q E s := by
 refine callType_new F.called_zip (by decide) (zit _ _ _) (ziQ _ _ _) (fun obj => zlo obj _ _ _) F.entry_zip_new (zlm t1 t2 t3 l1 l2 l3 xs ys zs) ⟨h1, h2, h3, (?_ : _ /\ _)⟩
 have y1 : (s.heap.push (srcO t1 l1)).objs.size = s.heap.objs.size + 1 := Heap.size_push ..
 have y2 : ((s.heap.push (srcO t1 l1)).push (srcO t2 l2)).objs.size = s.heap.objs.size + 2 := by rw [Heap.size_push, y1]
 have y3 : (z3a s.heap t1 t2 t3 l1 l2 l3).objs.size = s.heap.objs.size + 3 := by rw [Heap.size_push, y2]
 have y4 : (z3b s.heap t1 t2 t3 l1 l2 l3).objs.size = s.heap.objs.size + 4 := by rw [Heap.size_push, y3]
 have y5 : (z3c s.heap t1 t2 t3 l1 l2 l3).objs.size = s.heap.objs.size + 5 := by rw [Heap.size_push, y4]
 have g6 : (z3d s.heap t1 t2 t3 l1 l2 l3).get? (z3c s.heap t1 t2 t3 l1 l2 l3).objs.size = some _ := Heap.get?_push_size _ rfl
 have g5 : (z3d s.heap t1 t2 t3 l1 l2 l3).get? (z3b s.heap t1 t2 t3 l1 l2 l3).objs.size = some _ := Heap.get?_push_of_some _ (Heap.get?_push_size _ rfl)
 have g4 : (z3d s.heap t1 t2 t3 l1 l2 l3).get? (z3a s.heap t1 t2 t3 l1 l2 l3).objs.size = some _ := Heap.get?_push_of_some _ (Heap.get?_push_of_some _ (Heap.get?_push_size _ rfl))
 have g3 : (z3d s.heap t1 t2 t3 l1 l2 l3).get? ((s.heap.push (srcO t1 l1)).push (srcO t2 l2)).objs.size = some (srcO t3 l3) := Heap.get?_push_of_some _ (Heap.get?_push_of_some _ (Heap.get?_push_of_some _ (Heap.get?_push_size _ (zeC ..))))
 have g2 : (z3d s.heap t1 t2 t3 l1 l2 l3).get? (s.heap.push (srcO t1 l1)).objs.size = some (srcO t2 l2) := Heap.get?_push_of_some _ (Heap.get?_push_of_some _ (Heap.get?_push_of_some _ (Heap.get?_push_of_some _ (Heap.get?_push_size _ (zeC ..)))))
 have g1 : (z3d s.heap t1 t2 t3 l1 l2 l3).get? s.heap.objs.size = some (srcO t1 l1) := Heap.get?_push_of_some _ (Heap.get?_push_of_some _ (Heap.get?_push_of_some _ (Heap.get?_push_of_some _ (Heap.get?_push_of_some _ (Heap.get?_push_size _ (zeC ..))))))
 rw [y3, y4, y5] at g6
 rw [y1, y2, y3] at g4
 rw [y4] at g5
 rw [y2] at g3
 rw [y1] at g2
 rw [y5]
 exact ⟨⟨_, g6, rfl⟩, k _ g6 g4 g5 (zhj g1) (zhj g2) (zhj g3) fun c o x => Heap.get?_push_of_some _ (Heap.get?_push_of_some _ (Heap.get?_push_of_some _ (Heap.get?_push_of_some _ (Heap.get?_push_of_some _ (Heap.get?_push_of_some _ x)))))⟩
end
end M
namespace M
local macro_rules | `(tactic| ac_rfl) => `(tactic| first | exact M.nA (by decide) | exact M.nB (by decide) | exact M.nC (by decide) | exact M.nL (by assumption) | exact Nat.ne_of_lt (by assumption) | lia)
open L2 PySem PySem.Spec
open PyProof.Rows hiding St
open Sem (wp)
variable {t' ek : Nat} {h' : Heap} {fp : List Addr} {vs xs : List V} {its : List Value} {t : Bool} {X : Cx} {pins : List (Addr × Obj)} {σ : St} {H : Hp} {s : Shared} {a : Addr} {K : W.Frag} {elts : List Expr} {ep p pos : Pos} {es : List D}
section
variable {X : Cx} {pins : List (Addr × Obj)} {σ : St} {H : Hp} {s : Shared}
theorem zjX (I : Inv X pins σ H s) (k : ∀ b o, b ∉ fp -> s.heap.get? b = some o -> h'.get? b = some o) (hf : ∀ b ∈ fp, FpOk X pins H b) : Inv X pins σ H { s with heap := h', toks := t' } := by
 have nit : ∀ b u, H b = some u -> b ∉ fp := fun b u e z => by rw [(hf b z).1] at e; cases e
 refine I.step (g' := s.gens) (d' := s.drawn) (ch := fp) (fun b hb => ?_) (fun b o _ _ hc e _ => k b o hc e) (fun b o _ _ hc e _ => ⟨o.slots, k b o hc e⟩) (fun _ _ _ _ n => n)
  (fun b o hc e => ⟨o, k b o hc e⟩) (fun _ _ e => e) (fun _ _ _ e => e) (fun b ps e => ⟨#[], by rw [e]; simp⟩) (fun m hm => ?_) (fun b u e => ?_) I.bare
 ·obtain ⟨f0, f1, f2, f3, f4, f5⟩ := hf b hb
  exact ⟨f3, f1, f4, f5⟩
 ·obtain ⟨o, es, ep, ho, r⟩ := hm
  exact ⟨o, es, ep, k _ o (fun z => (hf _ z).2.1 rfl) ho, r⟩
 ·refine (I.hok b u e).stay (fun c v hc q => k c v ?_ q) (fun _ q => q) fun _ _ q => q
  rcases hc with z | z
  ·rw [z]; exact nit b u e
  ·exact nit c _ z
theorem zlM {t' : Nat} {h' : Heap} {fp : List Addr} (I : Inv X pins σ H s) (k : ∀ b o, b ∉ fp -> s.heap.get? b = some o -> h'.get? b = some o) (hf : ∀ b ∈ fp, FpOk X pins H b) (hl : ∀ b ∈ fp, b < s.heap.objs.size)
  (hT : h'.get? s.heap.objs.size = some (tup_ its.toArray)) (hz : vs.length <= sizeLine) (r : Vals vs its) : Inv X pins σ (upd H s.heap.objs.size (.tup vs)) { s with heap := h', toks := t' } := by
 have I1 := I.laid (t' := s.toks) (a := s.heap.objs.size) (o := .tup vs) (h' := s.heap.push (tup_ its.toArray)) (fun b u q => Heap.get?_push_of_some _ q) (Nat.le_refl _) ⟨hz, its, r, IsTup.new _ _⟩
 refine zjX (s := { s with heap := s.heap.push (tup_ its.toArray), toks := s.toks }) (t' := t') (fp := fp) I1 (fun b o hb e => ?_) fun b hb => ?_
 ·have e' : (s.heap.push (tup_ its.toArray)).get? b = some o := e
  rcases Heap.get?_push_cases e' with ⟨rfl, rfl⟩ | q
  ·exact hT
  ·exact k b o hb q
 ·obtain ⟨f0, fr⟩ := hf b hb
  refine ⟨?_, fr⟩
  rw [zay (Nat.ne_of_lt (hl b hb))]
  exact f0
end
noncomputable def SrcSq (t : Bool) (K : W.Frag) (H : Hp) (a : Addr) (xs : List V) : Prop := match t with
 | true => SqT K H a xs
 | false => SqL K H a xs
theorem SrcSq.heap (I : Inv X pins σ H s) (h : SrcSq t X.K H a xs) : ∃ its : List Value, Vals xs its /\ SrcH t s.heap a its.toArray /\ xs.length <= sizeLine := by
 cases t
 ·obtain ⟨its, r, p, z⟩ := I.list h
  exact ⟨its, r, p.isList, z⟩
 ·obtain ⟨its, r, p, z⟩ := I.tuple h
  exact ⟨its, r, p, z⟩
theorem SrcSq.inj {xs ys : List V} (I : Inv X pins σ H s) (h : SrcSq t X.K H a xs) (h' : SrcSq t X.K H a ys) : xs = ys := by
 cases t
 ·exact I.list_inj h h'
 ·exact I.tuple_inj h h'
noncomputable def Itz2 (K : W.Frag) (t1 : Bool) (a1 : Addr) (t2 : Bool) (a2 : Addr) (n : Nat) : It where
 go := fun i H => i < n /\ ∃ xs ys, SrcSq t1 K H a1 xs /\ SrcSq t2 K H a2 ys /\ n = min xs.length ys.length
 yld := fun i H x H' => ∃ p x1 x2, H p = none /\ H' = upd H p (.tup [x1, x2]) /\ x = .ref p /\ ∀ xs ys, SrcSq t1 K H a1 xs -> SrcSq t2 K H a2 ys -> xs[i]? = some x1 /\ ys[i]? = some x2
 stop := fun i H => n <= i /\ ∃ xs ys, SrcSq t1 K H a1 xs /\ SrcSq t2 K H a2 ys /\ n = min xs.length ys.length
theorem nin4 {c N : Nat} (h : c ∉ ([N, N + 1, N + 2, N + 3, N + 4] : List Nat)) : c ≠ N /\ c ≠ N + 1 /\ c ≠ N + 3 /\ c ≠ N + 4 :=
 ⟨fun e => h (e ▸ .head _), fun e => h (e ▸ .tail _ (.head _)), fun e => h (e ▸ .tail _ (.tail _ (.tail _ (.head _)))), fun e => h (e ▸ .tail _ (.tail _ (.tail _ (.tail _ (.head _)))))⟩
theorem nin5 {c N : Nat} (h : c ∉ ([N, N + 1, N + 2, N + 3, N + 4, N + 5] : List Nat)) : c ≠ N /\ c ≠ N + 1 /\ c ≠ N + 2 /\ c ≠ N + 4 /\ c ≠ N + 5 :=
 ⟨fun e => h (e ▸ .head _), fun e => h (e ▸ .tail _ (.head _)), fun e => h (e ▸ .tail _ (.tail _ (.head _))), fun e => h (e ▸ .tail _ (.tail _ (.tail _ (.tail _ (.head _))))), fun e => h (e ▸ .tail _ (.tail _ (.tail _ (.tail _ (.tail _ (.head _))))))⟩
noncomputable def Itz3 (K : W.Frag) (t1 : Bool) (a1 : Addr) (t2 : Bool) (a2 : Addr) (t3 : Bool) (a3 : Addr) (n : Nat) : It where
 go := fun i H => i < n /\ ∃ xs ys zs, SrcSq t1 K H a1 xs /\ SrcSq t2 K H a2 ys /\ SrcSq t3 K H a3 zs /\ n = min xs.length (min ys.length zs.length)
 yld := fun i H x H' => ∃ p x1 x2 x3, H p = none /\ H' = upd H p (.tup [x1, x2, x3]) /\ x = .ref p /\ ∀ xs ys zs, SrcSq t1 K H a1 xs -> SrcSq t2 K H a2 ys -> SrcSq t3 K H a3 zs -> xs[i]? = some x1 /\ ys[i]? = some x2 /\ zs[i]? = some x3
 stop := fun i H => n <= i /\ ∃ xs ys zs, SrcSq t1 K H a1 xs /\ SrcSq t2 K H a2 ys /\ SrcSq t3 K H a3 zs /\ n = min xs.length (min ys.length zs.length)
theorem zmf {P : Program} {w : World} (t1 : Bool) (a1 : Nat) (t2 : Bool) (a2 : Nat) (t3 : Bool) (a3 : Nat) (n N : Nat) (l1 : a1 < N) (l2 : a2 < N) (l3 : a3 < N) :
  Turn P w K (.Tuple elts ek ep) (Itz3 K t1 a1 t2 a2 t3 a3 n) ([N, N + 1, N + 2, N + 3, N + 4, N + 5] : List Nat) (N + 5 : Nat)
   (fun i h => i <= n /\ IsZip h (N + 5 : Nat) (N + 3 : Nat) (N + 4 : Nat) .none /\ zdi h (N + 3 : Nat) (.ref N) (.ref (N + 1 : Nat)) (.ref (N + 2 : Nat)) /\ (∃ a b c, zdi h (N + 4 : Nat) a b c) /\ SrcIt t1 h N a1 i /\ SrcIt t2 h (N + 1 : Nat) a2 i /\ SrcIt t3 h (N + 2 : Nat) a3 i) where
 mem := by simp
 obj := fun i h st b hb => by
  obtain ⟨-, h5, h3, ⟨a, c, d, h4⟩, h0, h1, h2⟩ := st
  simp only [List.mem_cons, List.not_mem_nil, or_false] at hb
  rcases hb with rfl | rfl | rfl | rfl | rfl | rfl
  ·exact h0.obj
  ·exact h1.obj
  ·exact h2.obj
  ·exact ⟨_, h3, fun v z => by cases z⟩
  ·exact ⟨_, h4, fun v z => by cases z⟩
  ·exact ⟨_, h5, fun v z => by cases z⟩
 keep := fun i h h' st k => by
  obtain ⟨hi, h5, h3, ⟨a, c, d, h4⟩, h0, h1, h2⟩ := st
  exact ⟨hi, k _ (by simp) _ h5, k _ (by simp) _ h3, ⟨a, c, d, k _ (by simp) _ h4⟩, h0.at fun o e => k _ (by simp) o e, h1.at fun o e => k _ (by simp) o e, h2.at fun o e => k _ (by simp) o e⟩
 item := by
  intro X hP hw hK hc i pins s σ H E I hf st hg
  subst hP hw hK
  obtain ⟨hi, h5, h3, ⟨a, c, d, h4⟩, h0, h1, h2⟩ := st
  obtain ⟨hn, xs, ys, zs, q1, q2, q3, en⟩ := hg
  obtain ⟨us, ru, hu, zu⟩ := q1.heap I
  obtain ⟨ws, rw', hw', zw⟩ := q2.heap I
  obtain ⟨os, ro, ho', zo⟩ := q3.heap I
  have lu := ru.length
  have lw := rw'.length
  have lo := ro.length
  have D1 := zbz (prog := X.prog) (w := X.w) (A := X.A.in1) (t := t1) (I.ok.hd hc) N a1 (ne_ (by ac_rfl)) us.toArray
  have D2 := zbz (prog := X.prog) (w := X.w) (A := X.A.in1) (t := t2) (I.ok.hd hc) (N + 1) a2 (ne_ (by ac_rfl)) ws.toArray
  have D3 := zbz (prog := X.prog) (w := X.w) (A := X.A.in1) (t := t3) (I.ok.hd hc) (N + 2) a3 (ne_ (by ac_rfl)) os.toArray
  have hT : s.TypeIs (.ref (N + 5 : Nat)) "zip" := ⟨_, h5, rfl⟩
  unfold pyNext
  refine wpAny_bind (wpAny_attempt (wpAny_callSpecial?_slot (name := Str.ofString "__next__") hT F.slot_zip_next (wpAny_call_entry F.slot_zip_next hT F.entry_zip_next
   (zmZ D1 D2 D3 l1 l2 l3 h5 h3 h4 ⟨h0, hu⟩ ⟨h1, hw'⟩ ⟨h2, ho'⟩ (by simp; lia) (by simp; lia) (by simp; lia) fun x y z h' tk p1 p2 p3 g5 g4 g0 g1 g2 gT kk => wpAny_pure ?_) (F.args_zip_next_1 _))))
  obtain ⟨x1, hx1⟩ : ∃ x1, xs[i]? = some x1 := ⟨xs[i]'(by lia), List.getElem?_eq_getElem _⟩
  obtain ⟨x2, hx2⟩ : ∃ x2, ys[i]? = some x2 := ⟨ys[i]'(by lia), List.getElem?_eq_getElem _⟩
  obtain ⟨x3, hx3⟩ : ∃ x3, zs[i]? = some x3 := ⟨zs[i]'(by lia), List.getElem?_eq_getElem _⟩
  obtain ⟨u1, hu1, r1⟩ := ru.get hx1
  obtain ⟨u2, hu2, r2⟩ := rw'.get hx2
  obtain ⟨u3, hu3, r3⟩ := ro.get hx3
  have e1 : u1 = x := by
   have : us[i]? = some x := by simpa using p1
   rw [hu1] at this; cases this; rfl
  have e2 : u2 = y := by
   have : ws[i]? = some y := by simpa using p2
   rw [hu2] at this; cases this; rfl
  have e3 : u3 = z := by
   have : os[i]? = some z := by simpa using p3
   rw [hu3] at this; cases this; rfl
  subst e1 e2 e3
  refine ⟨_, rfl, wpAny_letOwnedTupleGo_zip (s := { s with heap := h', toks := tk }) g5 fun h'' g5' sb => ?_⟩
  replace sb : Heap.SameBut (N + 5 : Nat) h' h'' := sb
  have lz : N + 5 < s.heap.objs.size := Heap.lt_size h5
  have kk' : ∀ b o, b ∉ ([N, N + 1, N + 2, N + 3, N + 4, N + 5] : List Nat) -> s.heap.get? b = some o -> h''.get? b = some o := fun b o hb e => by
   obtain ⟨c1, c2, c3, c4, c5⟩ := nin5 hb
   exact (sb.2 b c5).trans (kk b o c1 c2 c3 c4 c5 e)
  have I1 := zlM (t' := tk) (vs := [x1, x2, x3]) (its := [u1, u2, u3]) I kk' hf (fun b hb => by
   have : b = N \/ b = N + 1 \/ b = N + 2 \/ b = N + 3 \/ b = N + 4 \/ b = N + 5 := by simpa using hb
   exact Nat.lt_of_le_of_lt (show (b : Nat) <= N + 5 by rcases this with h | h | h | h | h | h <;> rw [h] <;> simp) lz) ((sb.2 _ (ne_ (by ac_rfl))).trans gT) (by simp; rw [sizeLine_eq]; decide) (.cons r1 (.cons r2 (.cons r3 .nil)))
  refine ⟨.ref s.heap.objs.size, _, I1, rfl, ⟨_, x1, x2, x3, I.hok.fresh (Nat.le_refl _), rfl, rfl, fun xs' ys' zs' b1 b2 b3 => ?_⟩, ⟨hn, g5', (sb.2 _ (ne_ (by ac_rfl))).trans (kk _ _ (ne_ (by ac_rfl)) (ne_ (by ac_rfl)) (ne_ (by ac_rfl)) (ne_ (by ac_rfl)) (ne_ (by ac_rfl)) h3), ⟨_, _, _, (sb.2 _ (ne_ (by ac_rfl))).trans g4⟩, SrcIt.at g0.1 fun o e => (sb.2 _ (ne_ (by ac_rfl))).trans e, SrcIt.at g1.1 fun o e => (sb.2 _ (ne_ (by ac_rfl))).trans e, SrcIt.at g2.1 fun o e => (sb.2 _ (ne_ (by ac_rfl))).trans e⟩, fun b hb => ?_⟩
  ·rw [SrcSq.inj I b1 q1, SrcSq.inj I b2 q2, SrcSq.inj I b3 q3]
   exact ⟨hx1, hx2, hx3⟩
  ·have : b = N \/ b = N + 1 \/ b = N + 2 \/ b = N + 3 \/ b = N + 4 \/ b = N + 5 := by simpa using hb
   rw [zay (Nat.ne_of_lt (Nat.lt_of_le_of_lt (show (b : Nat) <= N + 5 by rcases this with h | h | h | h | h | h <;> rw [h] <;> simp) lz))]
   exact (hf b hb).1
 done := by
  intro X hP hw hK hc i pins s σ H E I hf st hg
  subst hP hw hK
  obtain ⟨hi, h5, h3, ⟨a, c, d, h4⟩, h0, h1, h2⟩ := st
  obtain ⟨hn, xs, ys, zs, q1, q2, q3, en⟩ := hg
  obtain ⟨us, ru, hu, zu⟩ := q1.heap I
  obtain ⟨ws, rw', hw', zw⟩ := q2.heap I
  obtain ⟨os, ro, ho', zo⟩ := q3.heap I
  have lu := ru.length
  have lw := rw'.length
  have lo := ro.length
  have D1 := zbz (prog := X.prog) (w := X.w) (A := X.A.in1) (t := t1) (I.ok.hd hc) N a1 (ne_ (by ac_rfl)) us.toArray
  have D2 := zbz (prog := X.prog) (w := X.w) (A := X.A.in1) (t := t2) (I.ok.hd hc) (N + 1) a2 (ne_ (by ac_rfl)) ws.toArray
  have D3 := zbz (prog := X.prog) (w := X.w) (A := X.A.in1) (t := t3) (I.ok.hd hc) (N + 2) a3 (ne_ (by ac_rfl)) os.toArray
  have hT : s.TypeIs (.ref (N + 5 : Nat)) "zip" := ⟨_, h5, rfl⟩
  unfold pyNext
  refine wpAny_bind (wpAny_attempt (wpAny_callSpecial?_slot (name := Str.ofString "__next__") hT F.slot_zip_next (wpAny_call_entry F.slot_zip_next hT F.entry_zip_next
   (zip3_end D1 D2 D3 l1 l2 l3 h5 h3 h4 ⟨h0, hu⟩ ⟨h1, hw'⟩ ⟨h2, ho'⟩ (by simp; lia) fun h' e tk kk he => ?_) (F.args_zip_next_1 _))))
  obtain ⟨o, ho, hce⟩ := he
  refine wpAny_bind (wpAny_isInstance (T := "StopIteration") (b := true) ⟨o, ho, hce⟩ isSubtype_stop (wpAny_pure ⟨rfl, zjX I (fun b o hb e => ?_) hf⟩))
  obtain ⟨c1, c2, c3, c4, c5⟩ := nin5 hb
  exact kk b o c1 c2 c3 c4 c5 e
 self := fun _ _ _ _ _ st h => wpAny_pyIter_zip st.2.1 h
theorem zkO : bootBuiltins "zip" = some (.type "zip") := by decide +kernel
section
variable {X : Cx} {elts : List Expr} {ek : Nat} {ep : Pos}
theorem pi_zip3 {a b c : Expr} {ta : TA} (hg : Gl X "zip") (hm : X.mg "zip" = none) (ha : PA X [a, b, c] ta) (hs : starEach [a, b, c] X.env = (false, eval a X.env) :: starEach [b, c] X.env := by rfl) (hs2 : (backTo pos (starEach [b, c] X.env)).any (·.1) = false := by rfl) :
  PI X (.Tuple elts ek ep) (.Call (.Name "zip" p) [a, b, c] [] pos) (fun σ H R => ta σ H fun vs H1 => ∃ t1 a1 xs t2 a2 ys t3 a3 zs, vs = [.ref a1, .ref a2, .ref a3] /\ SrcSq t1 X.K H1 a1 xs /\ SrcSq t2 X.K H1 a2 ys /\ SrcSq t3 X.K H1 a3 zs /\ R (Itz3 X.K t1 a1 t2 a2 t3 a3 (min xs.length (min ys.length zs.length))) H1) := by
 intro pins s σ H R I h
 refine Call_ (zgF I hg hm zkO (PyProof.Rows.callWith_type1 (thn (ha pos pins s σ H _ I h) fun us s1 ⟨vs, H1, I1, r1, q1⟩ => ?_) hs hs2))
 obtain ⟨t1, a1, xs, t2, a2, ys, t3, a3, zs, e, q1, q2, q3, q⟩ := q1
 subst e
 cases r1 with
 | cons r rr =>
  cases rr with
  | cons r' rr =>
   cases rr with
   | cons r'' rr =>
    cases rr
    cases r
    cases r'
    cases r''
    obtain ⟨us, ru, hu, -⟩ := q1.heap I1
    obtain ⟨ws, rw', hw', -⟩ := q2.heap I1
    obtain ⟨os, ro, ho', -⟩ := q3.heap I1
    refine zmC hu hw' ho' fun h' g5 g3 g4 g0 g1 g2 kk => wpAny_pyIter_zip g5 ⟨_, _, _, _, H1, rfl, I1.kept (t' := s1.toks) kk, zmf t1 a1 t2 a2 t3 a3 (min xs.length (min ys.length zs.length)) s1.heap.objs.size hu.lt hw'.lt ho'.lt, ⟨Nat.zero_le _, g5, g3, ⟨_, _, _, g4⟩, g0, g1, g2⟩, fun b hb => ?_, q⟩
    have : b = s1.heap.objs.size \/ b = s1.heap.objs.size + 1 \/ b = s1.heap.objs.size + 2 \/ b = s1.heap.objs.size + 3 \/ b = s1.heap.objs.size + 4 \/ b = s1.heap.objs.size + 5 := by simpa using hb
    have le : s1.heap.objs.size <= b := by rcases this with h | h | h | h | h | h <;> rw [h] <;> simp
    exact I1.fpOk le (I1.hok.fresh le)
end
theorem ziZ {G : Hp} {x : V} {d : D} (r : RepD K G x d) (e : zaN [d] = some es) : ∃ t a xs, x = .ref a /\ (∀ H, Fz G H -> SrcSq t K H a xs) /\ RepL K G xs es := by
 cases d <;> simp only [zaN] at e <;> try cases e
 ·obtain ⟨a, xs, rfl, ha, r⟩ := r
  exact ⟨false, a, xs, rfl, fun H f => SqL.of (f _ _ ha), r⟩
 ·obtain ⟨a, xs, rfl, ha, r⟩ := r
  exact ⟨true, a, xs, rfl, fun H f => SqT.of (f _ _ ha), r⟩
 ·obtain ⟨a, rfl, ha⟩ := r
  exact ⟨false, a, _, rfl, fun H f => f.sql ha, RepL.ints _⟩
noncomputable def zjP (xs ys : List D) : List D := List.zipWith (fun x y => D.tup [x, y]) xs ys
noncomputable def zkk (xs ys zs : List D) : List D := List.zipWith (fun x (p : D × D) => D.tup [x, p.1, p.2]) xs (List.zip ys zs)
noncomputable def iZ2 (ma : MA) : MA := fun ρ => (ma ρ).bind fun p => match p.1 with
 | [a, b] => (zaN [a]).bind fun xs => (zaN [b]).bind fun ys => some (zjP xs ys, p.2)
 | _ => none
noncomputable def iZ3 (ma : MA) : MA := fun ρ => (ma ρ).bind fun p => match p.1 with
 | [a, b, c] => (zaN [a]).bind fun xs => (zaN [b]).bind fun ys => (zaN [c]).bind fun zs => some (zkk xs ys zs, p.2)
 | _ => none
theorem it_zip3 {a b c : Expr} {ma : MA} (hm : X.mg "zip" = none) (ha : SA X [a, b, c] ma) (hg : Gl X "zip" := by rfl) (hs : starEach [a, b, c] X.env = (false, eval a X.env) :: starEach [b, c] X.env := by rfl) (hs2 : (backTo pos (starEach [b, c] X.env)).any (·.1) = false := by rfl) :
  SIt X (.Tuple elts ek ep) (.Call (.Name "zip" p) [a, b, c] [] pos) (iZ3 ma) := by
 obtain ⟨t, pa, sa⟩ := ha
 refine ⟨_, pi_zip3 hg hm pa hs hs2, fun B G H σ ρ ds ρ' Q I hm k => ?_⟩
 obtain ⟨⟨es, ρ1⟩, e1, h2⟩ := zah hm
 dsimp only at h2
 refine sa B G H σ ρ es ρ1 _ I e1 fun G1 H1 vs I1 f1 r1 => ?_
 split at h2
 ·obtain ⟨xs, ex, h2⟩ := zah h2
  obtain ⟨ys, ey, h2⟩ := zah h2
  obtain ⟨zs, ez, h2⟩ := zah h2
  cases h2
  obtain ⟨x, us, rfl, rx, r2⟩ := r1
  obtain ⟨y, ws, rfl, ry, r3⟩ := r2
  obtain ⟨z, os, rfl, rz, r4⟩ := r3
  cases (show os = [] from r4)
  obtain ⟨t1, a1, us, rfl, s1, c1⟩ := ziZ rx ex
  obtain ⟨t2, a2, ws, rfl, s2, c2⟩ := ziZ ry ey
  obtain ⟨t3, a3, os, rfl, s3, c3⟩ := ziZ rz ez
  have n1 := c1.length
  have n2 := c2.length
  have n3 := c3.length
  refine ⟨t1, a1, us, t2, a2, ws, t3, a3, os, rfl, s1 _ I1.fz, s2 _ I1.fz, s3 _ I1.fz, k _ G1 H1 I1 f1 ⟨fun H i f hi => ?_, fun H i x H' f y d e => ?_, fun H i f hi => ?_⟩⟩
  ·exact ⟨by simp [zkk] at hi; lia, us, ws, os, s1 _ f, s2 _ f, s3 _ f, rfl⟩
  ·obtain ⟨p, x1, x2, x3, hp, eh, ex', q⟩ := y
   obtain ⟨q1, q2, q3⟩ := q us ws os (s1 _ f) (s2 _ f) (s3 _ f)
   simp only [zkk, List.zip, List.getElem?_zipWith] at e
   have hi : i < us.length /\ i < ws.length /\ i < os.length := ⟨(List.getElem?_eq_some_iff.mp q1).1, (List.getElem?_eq_some_iff.mp q2).1, (List.getElem?_eq_some_iff.mp q3).1⟩
   have g1 : xs[i]? = some (xs[i]'(by lia)) := List.getElem?_eq_getElem _
   have g2 : ys[i]? = some (ys[i]'(by lia)) := List.getElem?_eq_getElem _
   have g3 : zs[i]? = some (zs[i]'(by lia)) := List.getElem?_eq_getElem _
   rw [g1, g2, g3] at e
   cases e
   obtain ⟨v1, b1, r1⟩ := c1.get g1
   obtain ⟨v2, b2, r2⟩ := c2.get g2
   obtain ⟨v3, b3, r3⟩ := c3.get g3
   rw [q1] at b1; cases b1
   rw [q2] at b2; cases b2
   rw [q3] at b3; cases b3
   exact .inr ⟨p, _, _, hp, eh, ex', rfl, ⟨_, _, rfl, r1, _, _, rfl, r2, _, _, rfl, r3, rfl⟩⟩
  ·exact ⟨by simp [zkk] at hi; lia, us, ws, os, s1 _ f, s2 _ f, s3 _ f, rfl⟩
 ·cases h2
end M
namespace M
open L2 PySem PySem.Spec
open PyProof.Rows hiding St
noncomputable def isN : D -> Bool
 | .non => true
 | _ => false
theorem isN_ok {K : W.Frag} {G : Hp} {x : V} {d : D} (r : RepD K G x d) : decide (x = .non) = isN d := by
 cases d with
 | non => cases (show x = V.non from r); rfl
 | bl b => cases (show x = V.bl b from r); rfl
 | int i => cases (show x = V.int i from r); rfl
 | str s => cases (show x = V.str s from r); rfl
 | lst ds => obtain ⟨a, xs, rfl, -⟩ := r; rfl
 | tup ds => obtain ⟨a, xs, rfl, -⟩ := r; rfl
 | scr ns => obtain ⟨a, rfl, -⟩ := r; rfl
 | exc c => obtain ⟨a, C, rfl, -⟩ := r; rfl
 | dic _ _ => obtain ⟨a, ys, rfl, -⟩ := r; rfl
 | dit _ _ => obtain ⟨a, ys, o, xs, rfl, -⟩ := r; rfl
noncomputable def dIsN : D -> D -> Option D
 | a, .non => some (.bl (isN a))
 | _, _ => none
noncomputable def zis : D -> D -> Option D
 | a, .non => some (.bl (!isN a))
 | _, _ => none
theorem v2_isN {X : Cx} : V2 X (fun x y H Q => y = .non /\ Q (.bl (decide (x = .non))) H) dIsN := by
 intro B G H σ ρ x y a b d Q I ra rb hf k
 cases b <;> simp only [dIsN] at hf <;> cases hf
 exact ⟨rb, k G H _ I (Fz.refl G) (by rw [isN_ok ra]; rfl)⟩
theorem v2_notN {X : Cx} : V2 X (fun x y H Q => y = .non /\ Q (.bl (!decide (x = .non))) H) zis := by
 intro B G H σ ρ x y a b d Q I ra rb hf k
 cases b <;> simp only [zis] at hf <;> cases hf
 exact ⟨rb, k G H _ I (Fz.refl G) (by rw [isN_ok ra]; rfl)⟩
theorem bl_isN : ∀ x y d, dIsN x y = some d -> ∃ t, d = .bl t := by
 intro x y d hf
 cases y <;> simp only [dIsN] at hf <;> cases hf
 exact ⟨_, rfl⟩
theorem bl_notN : ∀ x y d, zis x y = some d -> ∃ t, d = .bl t := by
 intro x y d hf
 cases y <;> simp only [zis] at hf <;> cases hf
 exact ⟨_, rfl⟩
section
variable {X : Cx} {a b : Expr} {ma mb : ME} {pos : Pos}
theorem se_is (ha : SE X a ma) (hb : SE X b mb) (hm : behindInMarks .Is b = false := by rfl) : SE X (.Compare a [.Is] [b] pos) (m2 dIsN ma mb) := zjv op_isN v2_isN ha hb hm
theorem st_is (ha : SE X a ma) (hb : SE X b mb) (hm : behindInMarks .Is b = false := by rfl) : STt X (.Compare a [.Is] [b] pos) (tTru (m2 dIsN ma mb)) := zfR op_isN v2_isN bl_isN ha hb hm
theorem ziI (ha : SE X a ma) (hb : SE X b mb) (hm : behindInMarks .IsNot b = false := by rfl) : STt X (.Compare a [.IsNot] [b] pos) (tTru (m2 zis ma mb)) := zfR op_notN v2_notN bl_notN ha hb hm
end
noncomputable def zkf (b : Nat) (ρ : R) : Bool := match ρ[b]? with
 | some (.par _) => zdB (ρ.set b .emp)
 | _ => false
noncomputable def zmF (b : Nat) (ρ : R) : List D := match ρ[b]? with
 | some (.par cs) => cs
 | _ => []
noncomputable def zle (b : Nat) (g : D -> R -> Option R) (mt : MT) (me : ME) : D -> R -> Option (Option D × R) := fun d ρ => (g d ρ).bind fun ρ1 => (mt ρ1).bind fun p => if p.1 then (me p.2).bind fun q => if zkf b q.2 then some (some q.1, q.2) else none else if zkf b p.2 then some (none, p.2) else none
noncomputable def oLCM (cap : List Nat) (t b w : Nat) (mi : MA) (g : D -> R -> Option R) (mt : MT) (me : ME) : MO := fun ρ => (mi ρ).bind fun p => if p.1.length <= 16777216 then
    ((fzL (cap.filter (· != w)) p.2)[w]?).bind fun s => s.items.bind fun cs => (zcV (zle b g mt me) p.1 ((capR cap t (fzL (cap.filter (· != w)) p.2)).set b (.par cs))).map fun q => (q.1, (fzL (cap.filter (· != w)) p.2).set w (s.put (zmF b q.2)))
  else none
theorem VS.setEmp {K : W.Frag} {G : Hp} {σ : St} {ρ : R} (h : VS K G σ ρ) (b : Nat) : VS K G σ (ρ.set b .emp) where
 len := by rw [List.length_set]; exact h.len
 no := by
  have h0 := h.no
  unfold zdB at *
  rw [List.all_eq_true] at *
  intro s hs
  rcases List.mem_or_eq_of_mem_set hs with z | z
  ·exact h0 s z
  ·rw [z]
 val := fun i d e => by
  rw [List.getElem?_set] at e
  split at e
  ·split at e
   ·cases e
   ·cases e
  ·exact h.val i d e
theorem VS.siP {K : W.Frag} {G H : Hp} {σ : St} {ρ : R} {b : Nat} {cs : List D} {l : Addr} {ys : List V} (h : VS K G σ (ρ.set b .emp)) (fz : Fz G H) (hb : ρ[b]? = some (.par cs)) (hs : σ[b]? = some (some (.ref l))) (gl : G l = none) (hl : H l = some (.lst ys)) (r : RepL K G ys cs) : SI K ⟨G, H, [(b, l)]⟩ G H σ ρ where
 fz := fz
 g0 := Fz.refl G
 new := fun b o e => .inl (by show G b ≠ none; rw [e]; simp)
 keep := fun b o e _ => e
 there := fun b e => e
 ob := fun i c m => by
  have : i = b /\ c = l := by simpa using m
  rw [this.2]
  show H l ≠ none
  rw [hl]; simp
 len := by rw [h.len, List.length_set]
 slot := fun i s e => by
  by_cases z : i = b
  ·subst z
   rw [hb] at e; cases e
   exact ⟨l, ys, hs, gl, hl, r, by simp⟩
  ·have e' : (ρ.set b .emp)[i]? = some s := by rw [List.getElem?_set_ne (Ne.symm z)]; exact e
   cases s with
   | emp => trivial
   | two _ _ => trivial
   | tre t => exact absurd rfl ((zg7 h.no e').1 t)
   | ptr t => exact absurd rfl ((zg7 h.no e').2 t)
   | val d => exact h.val i d e'
   | own ds => exact absurd ⟨_, ds, e', rfl⟩ (zg5 h.no (i := i))
   | par ds => exact absurd ⟨_, ds, e', rfl⟩ (zg5 h.no (i := i))
 dis := fun i j s t a hij e1 e2 w1 w2 => by
  have key : ∀ (i : Nat) (s : Sl) ov, ρ[i]? = some s -> OwS K G H ov a s -> i = b := fun i s ov e w => by
   by_cases z : i = b
   ·exact z
   ·exact absurd w (zkW h.no (show (ρ.set b .emp)[i]? = some s by rw [List.getElem?_set_ne (Ne.symm z)]; exact e))
  exact hij ((key i s _ e1 w1).trans (key j t _ e2 w2).symm)
theorem VS.ofP {K : W.Frag} {B : Bs} {G H : Hp} {σ : St} {ρ : R} {b : Nat} {l : Addr} (I : SI K B G H σ ρ) (hO : B.O = [(b, l)]) (h : zkf b ρ = true) : ∃ cs ys, ρ[b]? = some (.par cs) /\ σ[b]? = some (some (.ref l)) /\ G l = none /\ H l = some (.lst ys) /\ RepL K G ys cs /\ VS K G σ (ρ.set b .emp) := by
 unfold zkf at h
 split at h
 ·rename_i cs e
  obtain ⟨l', ys, h1, h2, h3, h4, h5⟩ := I.slot b _ e
  have hl : l' = l := by rw [hO] at h5; simpa using h5
  subst hl
  refine ⟨cs, ys, e, h1, h2, h3, h4, ⟨by rw [List.length_set]; exact I.len, h, fun i d e' => ?_⟩⟩
  rw [List.getElem?_set] at e'
  split at e'
  ·split at e'
   ·cases e'
   ·cases e'
  ·exact I.slot i _ e'
 ·cases h
structure LcP (K : W.Frag) (bk : Nat) (g : D -> R -> Option R) (mt : MT) (me : ME) (items all : List D) (ρf : R) (G2 H1 : Hp) (DD l : Addr) (i : Nat) (σc : St) (Hc Gc : Hp) (ρc : R) (acc : List D) (xs : List V) (rest cs : List D) (ys : List V) : Prop where
 fc : Fz G2 Gc
 fcH : Fz Gc Hc
 nw : ∀ b o, Gc b = some o -> G2 b ≠ none \/ H1 b = none
 kp : ∀ b o, b ≠ l -> H1 b = some o -> Hc b = some o
 gD : Gc DD = none
 hDc : Hc DD = some (.lst xs)
 ra : RepL K Gc xs acc
 hx : xs.length <= i
 eb : ρc[bk]? = some (.par cs)
 sb : σc[bk]? = some (some (.ref l))
 glc : Gc l = none
 hlc : Hc l = some (.lst ys)
 rlc : RepL K Gc ys cs
 vs : VS K Gc σc (ρc.set bk .emp)
 ec : zcV (zle bk g mt me) (items.drop i) ρc = some (rest, ρf)
 eall : all = acc ++ rest
section
variable {X : Cx} {elt iter tg : Expr} {ifs : List Expr} {scope : Scope} {pos : Pos} {N : List Str} {cap : List Nat} {t bk wk : Nat} {mi : MA} {g : D -> R -> Option R} {mt : MT} {me : ME}
theorem zl2 (hbw : cap[bk]? = some wk) {wi : TI} {tg' : Addr -> Shared -> Hp -> List Addr -> TG} {tt : Addr -> Shared -> Hp -> List Addr -> TT} {te : Addr -> Shared -> Hp -> List Addr -> TE}
    (si : ∀ B G H σ ρ ds ρ' (Q : It -> Hp -> Prop), SI X.K B G H σ ρ -> mi ρ = some (ds, ρ') -> (∀ J G' H', SI X.K B G' H' σ ρ' -> Fz G G' -> Itm X.K J G' ds -> Q J H') -> wi σ H Q)
    (sg : ∀ C s H₀ fp B G H σ ρ v d ρ' (Q : St -> Hp -> Prop), SI X.K B G H σ ρ -> RepD X.K G v d -> g d ρ = some ρ' -> (∀ G' H' σ', SI X.K B G' H' σ' ρ' -> Fz G G' -> Q σ' H') -> tg' C s H₀ fp v σ H Q)
    (st : ∀ C s H₀ fp B G H σ ρ d ρ' (Q : Bool -> Hp -> Prop), SI X.K B G H σ ρ -> mt ρ = some (d, ρ') -> (∀ G' H', SI X.K B G' H' σ ρ' -> Fz G G' -> Q d H') -> tt C s H₀ fp σ H Q)
    (se : ∀ C s H₀ fp B G H σ ρ d ρ' (Q : VK), SI X.K B G H σ ρ -> me ρ = some (d, ρ') -> (∀ G' H' v, SI X.K B G' H' σ ρ' -> Fz G G' -> RepD X.K G' v d -> Q v H') -> te C s H₀ fp σ H Q) :
    ∀ B G H σ ρ ds ρ' (Q : VK), SI X.K B G H σ ρ -> oLCM cap t bk wk mi g mt me ρ = some (ds, ρ') ->
      (∀ G' H' l xs, SI X.K B G' H' σ ρ' -> Fz G G' -> G' l = none -> H' l = some (.lst xs) -> RepL X.K G' xs ds -> B.H l = none -> Nw X.K G' H' σ ρ' l -> Q (.ref l) H') -> tLC (capσ cap t) wi tg' tt te σ H Q := by
  intro B G H σ ρ ds ρ' Q I hm k
  obtain ⟨⟨items, ρ1⟩, e1, hm⟩ := zah hm
  refine si B G H σ ρ items ρ1 _ I e1 fun J G1 H1 I1 f1 IT DD hD => ?_
  dsimp only at hm
  split at hm
  . rename_i hlen
    obtain ⟨sw, ew, hm⟩ := zah hm
    obtain ⟨cs0, qw, hm⟩ := zah hm
    obtain ⟨⟨all, ρf⟩, e2, e3⟩ := zaH hm
    obtain ⟨rfl, rfl⟩ := Prod.mk.inj e3
    obtain ⟨G2, I2, f2⟩ := SI.fzL (cap.filter (· != wk)) I1
    have hDG : G2 DD = none := I2.fz.free hD
    obtain ⟨l, ys0, hσ, gl0, hl0, rl0⟩ := I2.wr ew qw
    have hlD : DD ≠ l := (zaP hl0 hD).symm
    have hb : bk < cap.length := (List.getElem?_eq_some_iff.mp hbw).1
    have hbe : cap[bk] = wk := (List.getElem?_eq_some_iff.mp hbw).2
    have hσb : (capσ cap t σ)[bk]? = some (some (.ref l)) := by
      unfold capσ
      rw [List.getElem?_append_left (by simpa using hb), List.getElem?_map, List.getElem?_eq_getElem hb, hbe]
      simp [hσ]
    have hcl : bk < (capR cap t (M.fzL (cap.filter (· != wk)) ρ1)).length := by unfold capR; simp; lia
    refine ⟨fun i m σc Hc => m = items.length - i /\ i <= items.length /\ ∃ Gc ρc acc xs rest cs ys, LcP X.K bk g mt me items all ρf G2 H1 DD l i σc Hc Gc ρc acc xs rest cs ys,
      ⟨items.length, by simp, Nat.zero_le _, G2, (capR cap t (M.fzL (cap.filter (· != wk)) ρ1)).set bk (.par cs0), [], [], all, cs0, ys0, { fc := Fz.refl _, fcH := I2.fz.right hDG _, nw := fun b o e => .inl (by rw [e]; simp), kp := fun b o _ e => by rw [zay (zaP e hD)]; exact e, gD := hDG, hDc := zaO, ra := .nil, hx := Nat.le_refl _, eb := by rw [List.getElem?_set]; simp [hcl], sb := hσb, glc := gl0, hlc := by rw [zay (zaP hl0 hD)]; exact hl0, rlc := rl0, vs := by rw [List.set_set]; exact (cap_vs I2 cap t).setEmp bk, ec := by simpa using e2, eall := rfl }⟩, ?_⟩
    rintro i m σc Hc ⟨rfl, hi, Gc, ρc, acc, xs, rest, cs, ys, J0⟩
    obtain ⟨fc, fcH, nw, kp, gD, hDc, ra, hx, eb, sb, glc, hlc, rlc, vs, ec, eall⟩ := J0
    by_cases hlt : i < items.length
    . refine .inr ⟨IT.go Hc i (f2.trans (fc.trans fcH)) hlt, fun C s₀ H₀ fp x H' y => ?_⟩
      rw [List.drop_eq_getElem_cons hlt] at ec
      simp only [zcV] at ec
      obtain ⟨⟨o, ρ3⟩, h3, ec⟩ := zah ec
      obtain ⟨⟨rest2, ρ4⟩, h4, ec⟩ := zaH ec
      obtain ⟨rfl, rfl⟩ := Prod.mk.inj ec
      dsimp only at h4
      unfold zle at h3
      obtain ⟨ρ5, h5, h3⟩ := zah h3
      obtain ⟨⟨ok, ρ6⟩, h6, h3⟩ := zah h3
      dsimp only at h3
      have Ic : SI X.K ⟨Gc, Hc, [(bk, l)]⟩ Gc Hc σc ρc := vs.siP fcH eb sb glc hlc rlc
      have fz2 : Fz G1 Hc := f2.trans (fc.trans fcH)
      have yy := IT.yld Hc i x H' fz2 y items[i] (List.getElem?_eq_getElem hlt)
      have yy2 : (H' = Hc /\ RepD X.K Gc x items[i]) \/ ∃ p xs es, Hc p = none /\ H' = upd Hc p (.tup xs) /\ x = .ref p /\ items[i] = .tup es /\ RepL X.K Gc xs es := by
        rcases yy with ⟨a, b⟩ | ⟨p, xs, es, a, b, c, d, e⟩
        . exact .inl ⟨a, b.mono (f2.trans fc)⟩
        . exact .inr ⟨p, xs, es, a, b, c, d, e.mono (f2.trans fc)⟩
      obtain ⟨G3, I3, f3, r3⟩ := Ic.yld yy2
      refine sg C s₀ H₀ fp _ G3 H' σc ρc x items[i] ρ5 _ I3 r3 h5 fun G4 H4 σ4 I4 f4 => st C s₀ H₀ fp _ G4 H4 σ4 ρ5 ok ρ6 _ I4 h6 fun G5 H5 I5 f5 => ?_
      have facts : ∀ (G' H' : Hp) (σ' : St) (ρ' : R), SI X.K ⟨Gc, Hc, [(bk, l)]⟩ G' H' σ' ρ' -> (∀ b o, G' b = some o -> G2 b ≠ none \/ H1 b = none) /\ (∀ b o, b ≠ l -> H1 b = some o -> H' b = some o) /\ G' DD = none /\ H' DD = some (.lst xs) := fun G' H' σ' ρ' I' => by
        refine ⟨fun b o e => ?_, fun b o ne e => I'.keep b o (kp b o ne e) (by simp; exact ne), ?_, I'.keep DD _ hDc (by simp; exact hlD)⟩
        . rcases I'.new b o e with h | h
          . have h : Gc b ≠ none := h
            cases q : Gc b with
            | none => exact absurd q h
            | some u => exact nw b u q
          . refine .inr ?_
            cases q : H1 b with
            | none => rfl
            | some u =>
              have hn : Hc b = none := h
              have nb : b ≠ l := fun z => by rw [z, hlc] at hn; cases hn
              have := kp b u nb q
              rw [hn] at this; cases this
        . cases q : G' DD with
          | none => rfl
          | some u =>
            rcases I'.new DD u q with h | h
            . exact absurd gD h
            . rw [show Hc DD = none from h] at hDc; cases hDc
      cases ok with
      | false =>
        simp only [Bool.false_eq_true, if_false] at h3
        split at h3
        . rename_i hno
          cases h3
          obtain ⟨a1, a2, a3, a4⟩ := facts G5 H5 σ4 _ I5
          obtain ⟨cs', ys', w1, w2, w3, w4, w5, w6⟩ := VS.ofP I5 rfl hno
          exact ⟨items.length - (i + 1), by lia, rfl, hlt, G5, _, acc, xs, rest2, cs', ys', { fc := fc.trans (f3.trans (f4.trans f5)), fcH := I5.fz, nw := a1, kp := a2, gD := a3, hDc := a4, ra := ra.mono (f3.trans (f4.trans f5)), hx := by lia, eb := w1, sb := w2, glc := w3, hlc := w4, rlc := w5, vs := w6, ec := h4, eall := by simpa using eall }⟩
        . cases h3
      | true =>
        simp only [if_true] at h3 ⊢
        obtain ⟨⟨dv, ρ7⟩, h7, h3⟩ := zah h3
        dsimp only at h3
        split at h3
        . rename_i hno
          cases h3
          refine se C s₀ H₀ fp _ G5 H5 σ4 ρ6 dv _ _ I5 h7 fun G6 H6 v I6 f6 r6 => ?_
          obtain ⟨a1, a2, a3, a4⟩ := facts G6 H6 σ4 _ I6
          obtain ⟨cs', ys', w1, w2, w3, w4, w5, w6⟩ := VS.ofP I6 rfl hno
          have ff : Fz Gc G6 := f3.trans (f4.trans (f5.trans f6))
          exact ⟨xs, a4, by rw [sizeLine_eq]; lia, items.length - (i + 1), by lia, rfl, hlt, G6, _, acc ++ [dv], xs ++ [v], rest2, cs', ys', { fc := fc.trans ff, fcH := I6.fz.right a3 _, nw := a1, kp := fun b o ne e => by rw [zay (zaP e hD)]; exact a2 b o ne e, gD := a3, hDc := zaO, ra := (ra.mono ff).snoc r6, hx := by rw [List.length_append, List.length_singleton]; lia, eb := w1, sb := w2, glc := w3, hlc := by rw [zay (Ne.symm hlD)]; exact w4, rlc := w5, vs := w6, ec := h4, eall := by rw [eall]; simp }⟩
        . cases h3
    . have e : i = items.length := by lia
      subst e
      rw [List.drop_length] at ec
      obtain ⟨rfl, rfl⟩ := Prod.mk.inj (Option.some.inj ec)
      have hall : all = acc := by rw [eall, List.append_nil]
      refine .inl ⟨IT.stop Hc _ (f2.trans (fc.trans fcH)) (Nat.le_refl _), ?_⟩
      rw [<- hall] at ra
      have hp : zmF bk ρc = cs := by unfold zmF; rw [eb]
      rw [hp] at k
      exact k Gc Hc DD xs (I2.growW ew qw hσ fc fcH nw kp glc hlc rlc) (f1.trans (f2.trans fc)) gD hDc ra (I2.there DD hD) (I2.own_neW ew qw hσ hD nw kp)
  . cases hm
theorem zcu (i : Nat) {x : Str} {lpos pos' : Pos} (cap : List Nat) (t bk wk : Nat) (N : List Str) (hc : X.calm = true) (hi : SIt X tg iter mi) (hg : ∀ C s H fp, SG (cxC X N scope C s H fp) tg g) (ht : ∀ C s H fp, STs (cxC X N scope C s H fp) ifs mt) (he : ∀ C s H fp, SE (cxC X N scope C s H fp) elt me) (hN : X.N.Nodup) (hbw : cap[bk]? = some wk := by rfl)
    (hxi : X.N[i]? = some x := by rfl) (hx : Loc X.env.scope x := by first | exact Or.inl rfl | exact Or.inr rfl) (hf : X.fn x = true \/ X.env.scope.names.lookup x = some .local := by first | exact Or.inl rfl | exact Or.inr rfl)
    (hsw : swapsWith (.ListComp elt [⟨tg, iter, ifs, 0⟩] scope lpos) (some (.Name x pos')) pos.line X.env = pure true := by rfl)
    (hk : scope.kind = .function := by rfl) (hb : blkB X.env scope = true := by kernel_rfl) (hcap : capB scope.names N X.N cap t = true := by kernel_rfl)
    (hs : ∀ x, foldedSetIterable iter X.env x = pure x := by exact fun _ => rfl) : SS X (.Assign [.Name x pos'] (.ListComp elt [⟨tg, iter, ifs, 0⟩] scope lpos) pos) (sSet i (eFz (oLCM cap t bk wk mi g mt me))) := by
  obtain ⟨wi, pi, si⟩ := hi
  refine ⟨_, zkx hN hxi hx hf hsw hc (zlB hk hb) (zms hcap) pi (fun C s H fp => (hg C s H fp).choose_spec.1) (fun C s H fp => (ht C s H fp).choose_spec.1) (fun C s H fp => (he C s H fp).choose_spec.1) hs, fun B G H σ ρ fl ρ' E I hm k => ?_⟩
  obtain ⟨⟨d, ρ1⟩, e1, e3⟩ := zaH hm
  obtain ⟨⟨ds, ρ2⟩, e4, e5⟩ := zaH e1
  obtain ⟨rfl, rfl⟩ := Prod.mk.inj e5
  obtain ⟨rfl, rfl⟩ := Prod.mk.inj e3
  refine zl2 hbw si (fun C s H fp => (hg C s H fp).choose_spec.2) (fun C s H fp => (ht C s H fp).choose_spec.2) (fun C s H fp => (he C s H fp).choose_spec.2) B G H σ ρ ds ρ2 _ I e4 fun G1 H1 l xs I1 f1 g1 h1 r1 b1 n1 => ?_
  obtain ⟨I2, f2, r2⟩ := zi6 I1 g1 h1 r1 b1 n1
  exact k _ H1 _ (I2.set r2) (f1.trans f2)
end
end M
namespace M
open L2 PySem
noncomputable def eCutO (j : Nat) (ml mh : MP) : ME := fun ρ => if (ρ[j]?.bind Sl.items).isSome then (ml ρ).bind fun q => (mh q.2).bind fun r => (r.2[j]?.bind Sl.items).bind fun ds => some (.lst (cutD ds q.1 r.1), r.2) else none
theorem se_cutO {X : Cx} {lo hi : Option Expr} {ml mh : MP} {pos p2 pos' : Pos} (j : Nat) {x : Str} (hl : SPt X lo ml) (hu : SPt X hi mh) (hN : X.N[j]? = some x := by rfl) (hv : Vis X.env.scope x := by first | exact Or.inl rfl | exact Or.inr (Or.inl rfl) | exact Or.inr (Or.inr rfl)) (hd : (x == ("__debug__" : Str)) = false := by decide)
  (hcd : (x == ("__classdict__" : Str)) = false := by decide) : SE X (.Subscript (.Name x pos') (.Slice lo hi none p2) pos) (eCutO j ml mh) := by
 obtain ⟨tl, pl, sl⟩ := hl
 obtain ⟨th, ph, sh⟩ := hu
 refine ⟨_, zkJ sl_list (zea hN hv hd hcd) pl ph, fun B G H σ ρ d ρ' Q I hm k => ?_⟩
 unfold eCutO at hm
 split at hm
 ·rename_i hso
  obtain ⟨ds0, hso⟩ := Option.isSome_iff_exists.mp hso
  obtain ⟨s0, e0, q0⟩ := zah hso
  obtain ⟨l, xs0, h1, h2, h3, h4⟩ := I.wr e0 q0
  obtain ⟨⟨a, ρ2⟩, e2, hm⟩ := zah hm
  obtain ⟨⟨u, ρ3⟩, e3, hm⟩ := zah hm
  obtain ⟨ds, e4, hm⟩ := zah hm
  obtain ⟨s3, e5, q5⟩ := zah e4
  cases hm
  refine ⟨.ref l, h1, sl B G H σ ρ a ρ2 _ I e2 fun G2 H2 I2 f2 => sh B G2 H2 σ ρ2 u ρ3 _ I2 e3 fun G3 H3 I3 f3 => ?_⟩
  obtain ⟨l', xs, k1, k2, k3, k4⟩ := I3.wr e5 q5
  rw [h1] at k1; cases k1
  refine ⟨l, xs, rfl, SqL.of k3, fun p hp => ?_⟩
  obtain ⟨I4, f4, r4⟩ := I3.newL hp (k4.cut a u)
  exact k _ _ _ I4 (f2.trans (f3.trans f4)) r4
 ·cases hm
end M
namespace M
open L2 PySem PySem.Spec
open PyProof.Rows hiding St
noncomputable def iR2L (ma : MA) : MA := fun ρ => (ma ρ).bind fun p => match p.1 with
 | [.int i, .int j] => some (zfv i (j - i).toNat, p.2)
 | _ => none
theorem nn {α : Type} {o : Option α} {x : α} (e : o = some x) : o ≠ none := by rw [e]; exact fun z => by cases z
noncomputable abbrev MX := R -> Option Str
noncomputable def fX (N : Nat) (x : MX) : List D -> Option Str := fun ds => x (ds.map .val ++ List.replicate (N - ds.length) .emp)
noncomputable def zgG (mc : MT) (mb : MS) : Nat -> MS
 | 0, _ => none
 | n + 1, ρ => (mc ρ).bind fun p => if p.1 then (mb p.2).bind fun q => match q.1 with
  | .next => zgG mc mb n q.2
  | .cont => zgG mc mb n q.2
  | .brk => some (.next, q.2)
  | .ret r => some (.ret r, q.2)
  else some (.next, p.2)
theorem ss_while {X : Cx} {c : Expr} {body : List Stmt} {mc : MT} {mb : MS} {pos : Pos} (fuel : Nat) (hp : PassesOwn (model X.prog X.w) X.A X.env X.xe) (hc : STt X c mc) (hb : SSs X body mb) : SS X (.While c body [] pos) (zgG mc mb fuel) := by
 obtain ⟨tc, pc, sc⟩ := hc
 obtain ⟨tb, pb, sb⟩ := hb
 refine ⟨_, ps_while hp pc pb, fun B G H σ ρ fl ρ' E I hm k => ?_⟩
 refine ⟨fun m σ' H' => ∃ G' ρ1, SI X.K B G' H' σ' ρ1 /\ Fz G G' /\ zgG mc mb m ρ1 = some (fl, ρ'), ⟨fuel, G, ρ, I, Fz.refl G, hm⟩, fun m σ1 H1 w => ?_⟩
 obtain ⟨G1, ρ1, I1, f1, e1⟩ := w
 cases m with
 | zero => cases e1
 | succ m =>
  obtain ⟨⟨b, ρ2⟩, e2, e1⟩ := zah e1
  refine sc B G1 H1 σ1 ρ1 b ρ2 _ I1 e2 fun G2 H2 I2 f2 => ?_
  dsimp only at e1
  cases b with
  | false =>
   rw [if_neg (by simp)] at e1 ⊢
   cases e1
   exact k G2 H2 σ1 I2 (f1.trans f2)
  | true =>
   rw [if_pos rfl] at e1 ⊢
   obtain ⟨⟨f, ρ3⟩, e3, e1⟩ := zah e1
   refine ⟨fun σ' H' => ∃ G' ρ1, SI X.K B G' H' σ' ρ1 /\ Fz G G' /\ zgG mc mb m ρ1 = some (fl, ρ'), fun σ' H' h => ⟨m, Nat.lt_succ_self m, h⟩, ?_⟩
   refine sb B G2 H2 σ1 ρ2 f ρ3 _ I2 e3 ?_
   have ff := f1.trans f2
   cases f with
   | next => exact fun G' H' σ' I3 f3 => ⟨G', ρ3, I3, ff.trans f3, e1⟩
   | cont => exact fun G' H' σ' I3 f3 => ⟨G', ρ3, I3, ff.trans f3, e1⟩
   | brk => cases e1; exact fun G' H' σ' I3 f3 => k G' H' σ' I3 (ff.trans f3)
   | ret r => cases e1; exact fun G' H' σ' v I3 f3 rr => k G' H' σ' v I3 (ff.trans f3) rr
noncomputable def gS (j : Nat) (mi : ME) : D -> R -> Option R := fun d ρ => if hasV ρ j then (mi ρ).bind fun q => match q.1 with
 | .int k => q.2[j]?.bind fun s => s.items.bind fun ds => (ixN ds.length k).bind fun n => some (q.2.set j (s.put (ds.set n d)))
 | _ => none else none
end M
namespace M
open L2 PySem
noncomputable def likeS : Sl -> Sl -> Bool
 | .own ds, .own es => match zb4 ds, zb4 es with
  | some a, some b => a == b
  | _, _ => false
 | .par ds, .par es => match zb4 ds, zb4 es with
  | some a, some b => a == b
  | _, _ => false
 | .own _, _ => false
 | .par _, _ => false
 | .tre _, _ => false
 | .ptr _, _ => false
 | _, _ => true
end M
namespace M
open L2 PySem PySem.Spec
open PyProof.Rows hiding St
noncomputable def Sl.putT (s : Sl) (t : T) : Sl := match s with
 | .tre _ => .tre t
 | .ptr _ => .ptr t
 | s => s
noncomputable def Sl.tree : Sl -> Option T
 | .tre t => some t
 | .ptr t => some t
 | _ => none
section
variable {K : W.Frag} {B : Bs} {G G' H H' : Hp} {σ : St} {ρ : R}
theorem zkC {s : Sl} {t : T} (q : s.tree = some t) {ov : Option (Option V)} {a : Addr} : OwS K G H ov a s ↔ ∃ v A, ov = some (some v) /\ RepT K G H v t A /\ a ∈ A := by
 cases s with
 | tre _ => cases q; exact Iff.rfl
 | ptr _ => cases q; exact Iff.rfl
 | _ => cases q
theorem zlZ {s : Sl} {t : T} (q : s.tree = some t) (t' : T) : (s.putT t').tree = some t' := by
 cases s with
 | tre _ => rfl
 | ptr _ => rfl
 | _ => cases q
theorem SI.tree (I : SI K B G H σ ρ) {i : Nat} {s : Sl} {t : T} (e : ρ[i]? = some s) (q : s.tree = some t) : ∃ v A, σ[i]? = some (some v) /\ RepT K G H v t A /\ A.Nodup /\ (∀ a ∈ A, G a = none) /\ ∀ a ∈ A, B.H a = none \/ (i, a) ∈ B.O := by
 have h := I.slot i s e
 cases s with
 | tre _ => cases q; obtain ⟨v, A, h1, h2, h3, h4⟩ := h; exact ⟨v, A, h1, h2, h3, fun a m => (h4 a m).1, fun a m => .inl (h4 a m).2⟩
 | ptr _ => cases q; obtain ⟨v, A, h1, h2, h3, h4⟩ := h; exact ⟨v, A, h1, h2, h3, fun a m => (h4 a m).1, fun a m => (h4 a m).2⟩
 | _ => cases q
theorem SI.chT (I : SI K B G H σ ρ) {i : Nat} {s : Sl} {t t' : T} {v : V} {A A' : List Addr} (e : ρ[i]? = some s) (q : s.tree = some t) (hv : σ[i]? = some (some v)) (r : RepT K G H v t A) (fz : Fz G H') (kp : ∀ b o, b ∉ A -> H b = some o -> H' b = some o) (th : ∀ b, H' b = none -> H b = none)
  (r' : RepT K G H' v t' A') (nd : A'.Nodup) (sub : ∀ a ∈ A', a ∈ A \/ H a = none) : SI K B G H' σ (ρ.set i (s.putT t')) := by
 obtain ⟨v1, A1, h1, h2, h3, h4, h5⟩ := I.tree e q
 rw [hv] at h1; cases h1
 have : A1 = A := h2.det r fun _ _ => rfl
 subst this
 have g' : ∀ a ∈ A', G a = none := fun a m => by
  rcases sub a m with z | z
  ·exact h4 a z
  ·exact I.fz.free z
 have b' : ∀ a ∈ A', B.H a = none \/ (i, a) ∈ B.O := fun a m => by
  rcases sub a m with z | z
  ·exact h5 a z
  ·exact .inl (I.there a z)
 have h := I.chg (i := i) (ov := some v) (s' := s.putT t') (G' := G) (H' := H') fz (Fz.refl G) I.new (fun b o k1 k2 => kp b o (fun m => ?_) (I.keep b o k1 k2)) (fun b k => I.there b (th b k)) (fun j u a z ej w g ha => ?_) ?_
 ·rwa [ziX hv] at h
 ·rcases h5 b m with z | z
  ·rw [k1] at z; cases z
  ·exact k2 i z
 ·have na : a ∉ A1 := fun m => I.dis j i u s a z ej e w ((zkC q).mpr ⟨v, A1, hv, h2, m⟩)
  obtain ⟨x, hx⟩ := Option.ne_none_iff_exists'.mp ha
  refine ⟨g, (kp a x na hx).trans hx.symm, fun w' => ?_⟩
  obtain ⟨v2, A2, k1, k2, k3⟩ := (zkC (zlZ q t')).mp w'
  cases k1
  rw [k2.det r' fun _ _ => rfl] at k3
  rcases sub a k3 with z | z
  ·exact na z
  ·exact ha z
 ·have sl := I.slot i s e
  cases s with
  | tre _ =>
   obtain ⟨v2, A2, k1, k2, k3, k4⟩ := sl
   rw [hv] at k1; cases k1
   cases q
   have : A2 = A1 := k2.det h2 fun _ _ => rfl
   subst this
   refine ⟨v, A', rfl, r', nd, fun a m => ⟨g' a m, ?_⟩⟩
   rcases sub a m with z | z
   ·exact (k4 a z).2
   ·exact I.there a z
  | ptr _ => exact ⟨v, A', rfl, r', nd, fun a m => ⟨g' a m, b' a m⟩⟩
  | _ => cases q
theorem SI.setT (I : SI K B G H σ ρ) {i : Nat} {v : V} {t : T} {A : List Addr} (r : RepT K G H v t A) (nd : A.Nodup) (hA : ∀ a ∈ A, G a = none /\ B.H a = none /\ Nw K G H σ ρ a) : SI K B G H (σ.set i (some v)) (ρ.set i (.tre t)) :=
 I.chg I.fz (Fz.refl G) I.new I.keep I.there (fun j s a _ e w g _ => ⟨g, rfl, fun ⟨v2, A2, k1, k2, k3⟩ => by
  cases k1
  rw [k2.det r fun _ _ => rfl] at k3
  exact (hA a k3).2.2 j s e w⟩) ⟨v, A, rfl, r, nd, fun a m => ⟨(hA a m).1, (hA a m).2.1⟩⟩
open Classical in
end
section
variable {J κ : Type} [DecidableEq J] [DecidableEq κ]
noncomputable def lkD : List J -> List D -> J -> Option D
 | k :: ks, d :: ds, j => if k = j then some d else lkD ks ds j
 | _, _, _ => none
noncomputable def ptD (ks : List J) (ds : List D) (j : J) (d : D) : List J × List D := if ks.contains j then (ks, List.zipWith (fun k x => if k = j then d else x) ks ds) else (ks ++ [j], ds ++ [d])
variable {K : W.Frag} {G : Hp} {em : J -> κ}
theorem zmG (inj : ∀ a b, em a = em b -> a = b) : ∀ {ks : List J} {ds : List D} {ys : List (κ × V)} {j : J} {d : D}, ys.map (·.1) = ks.map em -> RepL K G (ys.map (·.2)) ds -> lkD ks ds j = some d -> ∃ v, valV ys (em j) = some v /\ RepD K G v d
 | [], _, _, _, _, _, _, h => by cases h
 | _ :: _, [], _, _, _, _, _, h => by cases h
 | k :: ks, x :: ds, [], j, d, e, _, _ => by cases e
 | k :: ks, x :: ds, y :: ys, j, d, e, ⟨z, zs, e1, r1, r2⟩, h => by
  cases e1
  have e2 := List.cons.inj e
  unfold lkD at h
  by_cases q : k = j
  ·rw [if_pos q] at h; cases h
   subst q
   exact ⟨y.2, zig e2.1, r1⟩
  ·rw [if_neg q] at h
   obtain ⟨v, h1, h2⟩ := zmG inj e2.2 r2 h
   refine ⟨v, ?_, h2⟩
   rw [zin fun z => q (inj _ _ (e2.1.symm.trans z)), h1]
theorem pt_rep (inj : ∀ a b, em a = em b -> a = b) {ks : List J} {ds : List D} {ys : List (κ × V)} {j : J} {v : V} {d : D} (e : ys.map (·.1) = ks.map em) (r : RepL K G (ys.map (·.2)) ds) (rv : RepD K G v d) :
  (putK ys (em j) v).map (·.1) = (ptD ks ds j d).1.map em /\ RepL K G ((putK ys (em j) v).map (·.2)) (ptD ks ds j d).2 := by
 have any : (ys.any fun kv => decide (kv.1 = em j)) = ks.contains j := by
  clear r
  induction ys generalizing ks with
  | nil => cases ks with
   | nil => rfl
   | cons _ _ => cases e
  | cons y ys ih => cases ks with
   | nil => cases e
   | cons k ks =>
    have e2 := List.cons.inj e
    rw [List.any_cons, ih e2.2, List.contains_cons]
    congr 1
    by_cases q : j = k
    ·subst q; simp [e2.1]
    ·rw [decide_eq_false (fun z => q (inj _ _ (e2.1.symm.trans z)).symm)]
     simp [q]
 unfold putK ptD
 rw [any]
 by_cases q : ks.contains j = true
 ·rw [if_pos q, if_pos q]
  constructor
  ·rw [List.map_map, <- e]
   apply List.map_congr_left
   intro a _
   simp only [Function.comp]
   split <;> rfl
  ·clear any q
   rw [List.map_map]
   induction ys generalizing ks ds with
   | nil => cases ks with
    | nil => exact RepL.nil
    | cons _ _ => cases e
   | cons y ys ih => cases ks with
    | nil => cases e
    | cons k ks =>
     have e2 := List.cons.inj e
     cases ds with
     | nil => cases r
     | cons x ds =>
      obtain ⟨z, zs, e1, r1, r2⟩ := r
      cases e1
      refine RepL.cons ?_ (ih e2.2 r2)
      simp only [Function.comp]
      by_cases q : k = j
      ·rw [if_pos q, if_pos (by rw [<- q]; exact e2.1)]; exact rv
      ·rw [if_neg q, if_neg fun z => q (inj _ _ (e2.1.symm.trans z))]; exact r1
 ·rw [if_neg q, if_neg q]
  rw [List.map_append, List.map_append, List.map_append, e]
  exact ⟨rfl, r.append (.cons rv .nil)⟩
end
theorem kI_inj (a b : Int) (h : kI a = kI b) : a = b := by cases h; rfl
theorem zmD (a b : List Int) (h : a.map kI = b.map kI) : a = b := by
 induction a generalizing b with
 | nil => cases b with
  | nil => rfl
  | cons _ _ => cases h
 | cons x a ih => cases b with
  | nil => cases h
  | cons y b =>
   have := List.cons.inj h
   rw [kI_inj _ _ this.1, ih b this.2]
noncomputable def Sl.dic : Sl -> Option (List Int × List D)
 | .tre (.dic ks ds) => some (ks, ds)
 | .ptr (.dic ks ds) => some (ks, ds)
 | .val (.dic ks ds) => some (ks, ds)
 | _ => none
noncomputable def tDI (j : Nat) (neg : Bool) (mk : ME) : MT := fun ρ => (mk ρ).bind fun p => match p.1 with
 | .int k => (p.2[j]?.bind Sl.dic).map fun q => (((lkD q.1 q.2 k).isSome != neg), p.2)
 | _ => none
noncomputable def fzD (j : Nat) (ρ : R) : R := match ρ[j]? with
 | some (.tre (.dic ks ds)) => ρ.set j (.val (.dic ks ds))
 | _ => ρ
noncomputable def Ch.sl : Ch -> Sl
 | .d x => .val x
 | .l ds => .own ds
 | .t xss => .tre (.lst (xss.map .l))
noncomputable def putCs : List Nat -> List Ch -> R -> R
 | i :: is, c :: cs, ρ => putCs is cs (ρ.set i c.sl)
 | _, _, ρ => ρ
end M
namespace M
open L2 PySem PySem.Spec
open PyProof.Rows hiding St
open Classical in
noncomputable def fMT (N : Nat) (m : MS) : List D -> T -> List D -> Option (Sl × List D) := fun cs t ds => (m (.par cs :: .tre t :: (ds.map .val ++ List.replicate (N - (ds.length + 2)) .emp))).bind fun p => match p.1, (p.2[0]? : Option Sl) with
 | Fl.ret r, some (Sl.par out) => some (r, out)
 | Fl.next, some (Sl.par out) => some (.val .non, out)
 | _, _ => none
noncomputable abbrev MP' := R -> Option (List Ch × R)
end M
namespace M
open L2 PySem PySem.Spec
open PyProof.Rows hiding St
noncomputable def Ch.D : Ch -> M.D
 | .d x => x
 | .l ds => .lst ds
 | .t xss => .lst (xss.map .lst)
noncomputable def sTA (i j : Nat) : MS := fun ρ => match ρ[i]?, ρ[j]? with
 | some (.tre (.lst cs)), some (.own ds) => if cs.length < 16777216 then some (.next, (ρ.set j .emp).set i (.tre (.lst (cs ++ [.l ds])))) else none
 | _, _ => none
noncomputable abbrev MQ := R -> Option D
noncomputable def fzT (j : Nat) (ρ : R) : R := match ρ[j]? with
 | some (.tre (.lst cs)) => ρ.set j (.val (.lst (cs.map Ch.D)))
 | _ => ρ
section
variable {X : Cx} {x y : Str} {pos p' q' tpos : Pos}
variable {e : Expr} {es : List Expr} {ma : MA} {k k' n : Nat} {F : List D -> Option Sl}
variable {a b : Expr} {mi mk : MQ}
noncomputable def sPar (i j : Nat) (ma : MA) : MS := fun ρ => (ma ρ).bind fun p => match p.1 with
 | [c, d] => some (.next, (p.2.set i (.val c)).set j (.val d))
 | _ => none
end
end M
namespace M
local macro_rules | `(tactic| ac_rfl) => `(tactic| first | exact M.nA (by decide) | exact M.nB (by decide) | exact M.nC (by decide) | exact M.nL (by assumption) | exact Nat.ne_of_lt (by assumption) | lia)
open L2 PySem PySem.Spec
open PyProof.Rows hiding St
open Sem (wp)
variable {a b u : Value} {Q E : Value -> Shared -> Prop} {i : Nat} {prog : Program} {w : World} {A : Around} {s : Shared} {tg : Expr} {K : W.Frag} {X : Cx} {p pos : Pos}
noncomputable abbrev zdO (h : Heap) (z TI TO : Addr) (f0 : Value) (b : Bool) : Prop := h.get? z = some { cls := .type "zip", data := .fields #[f0, .bool b, .bool false, .ref TI, .ref TO] }
noncomputable def ZipAt (h : Heap) (z TI TO : Addr) : Prop := ∃ f0 b, zdO h z TI TO f0 b /\ (f0 = .none \/ ∃ T : Nat, f0 = rawInt T)
section
variable {prog : Program} {w : World} {A : Around} {E : Value -> Shared -> Prop} {s : Shared}
theorem zmw {a : Addr} {Q : Option Obj -> Shared -> Prop} (h : Q (s.heap.get? a) s) : wpAny (model prog w) A (loadIfAlive a) Q E s := fun Γ p hΓ => by
 show Sem.wp _ _ (Sem.loadIfAlive a Sem.pure) _ _ p s
 rw [Sem.wp_loadIfAlive]
 exact (wpAny_pure (M := model prog w) (A := A) (E := E) h) Γ p hΓ
theorem zmT {z TI TO : Addr} {f0 : Value} {b : Bool} (hz : zdO s.heap z TI TO f0 b) (hf : f0 = .none \/ ∃ T : Nat, f0 = rawInt T) {Q : Bool -> Shared -> Prop} (h1 : Q true s)
  (h2 : ∀ h', zdO h' z TI TO f0 true -> Heap.SameBut z s.heap h' -> Q false { s with heap := h' }) : wpAny (model prog w) A (Builtin.SmallTypes.ownedTupleIsFree (.ref z)) Q E s := by
 unfold Builtin.SmallTypes.ownedTupleIsFree
 refine wpAny_bind (wpAny_field hz rfl (x := f0) rfl ?_)
 rcases hf with rfl | ⟨T, rfl⟩
 ·exact wpAny_pure h1
 ·refine (?_ : wpAny _ _ (loadIfAlive _ >>= _) _ _ _)
  refine wpAny_bind (zmw ?_)
  cases e : s.heap.get? (T : Int).toNat with
  | none => exact wpAny_pure h1
  | some o =>
   refine (?_ : wpAny _ _ (field (.ref z) 1 >>= _) _ _ _)
   refine wpAny_bind (wpAny_field hz rfl (x := .bool b) rfl ?_)
   cases b
   ·refine (?_ : wpAny _ _ (setField (.ref z) 1 (.bool true) >>= _) _ _ _)
    exact wpAny_bind (wpAny_setField_rec hz (by simp) fun g1 z1 s1 => wpAny_pure (h2 g1 z1 s1))
   ·exact wpAny_pure (h2 s.heap hz ⟨rfl, fun _ _ => rfl⟩)
variable {N a1 a2 : Nat} {n1 n2 : Nat} {P1 P2 : Nat -> Value -> Prop} {S1 S2 : Nat -> Heap -> Prop}
theorem zlf (D1 : Draws prog w A N [N, a1] n1 P1 S1) (D2 : Draws prog w A (N + 1) [N + 1, a2] n2 P2 S2) (l1 : a1 < N) (l2 : a2 < N)
  (hz' : ZipAt s.heap (N + 4) (N + 2) (N + 3)) (hTI : IsPair s.heap (N + 2) (.ref N) (.ref (N + 1))) (hTO : IsPair s.heap (N + 3) a b) (h1 : S1 i s.heap) (h2 : S2 i s.heap) (i1 : i < n1) (i2 : i < n2)
  (k : ∀ x y h' tk, P1 i x -> P2 i y -> ZipAt h' (N + 4) (N + 2) (N + 3) -> (∃ a b, IsPair h' (N + 3) a b) -> S1 (i + 1) h' -> S2 (i + 1) h' -> IsPair h' s.heap.objs.size x y ->
   (∀ c o, c ≠ N -> c ≠ N + 1 -> c ≠ N + 3 -> c ≠ N + 4 -> s.heap.get? c = some o -> h'.get? c = some o) -> Q (.ref s.heap.objs.size) { s with heap := h', toks := tk }) :
  wpAny (model prog w) A (Builtin.«zip.__next__» ⟨[.ref (N + 4)], []⟩) (fun fin s' => ∃ v, fin = .done (.ret v) /\ Q v s') E s := by
 obtain ⟨f0, bb, hz, hf⟩ := hz'
 refine (?_ : wpAny _ _ (field (.ref (N + 4)) 2 >>= _) _ _ _)
 refine wpAny_bind (wpAny_field hz rfl (x := .bool false) rfl (?_ : wpAny _ _ (field (.ref (N + 4)) 3 >>= _) _ _ _))
 refine wpAny_bind (wpAny_field hz rfl (x := .ref (N + 2)) rfl (wpAny_bind (wpAny_seqItems hTI rfl (?_ : wpAny _ _ (Builtin.SmallTypes.ownedTupleIsFree (.ref (N + 4)) >>= _) _ _ _))))
 refine wpAny_bind (zmT hz hf ?_ fun g0 z0 s0 => ?_)
 ·simp only [if_true]
  refine wpAny_bind (wpAny_rule (wpAny_bind (wpAny_field hz rfl (x := .ref (N + 3)) rfl (wpAny_bind (wpAny_setField_rec hz (by simp) fun g1 z1 s1 => wpAny_bind ?_)))))
  replace z1 : zdO g1 (N + 4) (N + 2) (N + 3) .ellipsis bb := z1
  simp only [List.zipIdx_cons, List.zipIdx_nil, List.forIn_cons, List.forIn_nil]
  refine wpAny_bind (wpAny_bind (wpAny_onRaise (?_ : wpAny _ _ (Builtin.SmallTypes.nextOf (.ref N) >>= _) _ _ _)))
  have e1 : S1 i g1 := D1.frame _ _ _ h1 fun b hb o e => (s1.2 b (nin2 hb (by ac_rfl) (by ac_rfl))).trans e
  refine wpAny_bind (D1.item i _ _ _ i1 e1 fun x g2 t2 p1 f2 s2 => wpAny_pure ?_)
  have q2 : IsPair g2 (N + 3) a b := (s2.2 _ (ne_ (by ac_rfl))).trans ((s1.2 _ (ne_ (by ac_rfl))).trans hTO)
  refine wpAny_bind (wpAny_seqItems q2 rfl (wpAny_bind (wpAny_updateSeq_pair q2 fun g3 q3 s3 => wpAny_bind (wpAny_letGo (wpAny_pure ?_)))))
  replace q3 : IsPair g3 (N + 3) x b := q3
  refine wpAny_bind (wpAny_bind (wpAny_onRaise (?_ : wpAny _ _ (Builtin.SmallTypes.nextOf (.ref (N + 1)) >>= _) _ _ _)))
  have e3 : S2 i g3 := D2.frame _ _ _ h2 fun b hb o e => (s3.2 b (nin2 hb (by ac_rfl) (by ac_rfl))).trans ((s2.2 b (nin2 hb (by ac_rfl) (by ac_rfl))).trans ((s1.2 b (nin2 hb (by ac_rfl) (by ac_rfl))).trans e))
  refine wpAny_bind (D2.item i _ _ _ i2 e3 fun y g4 t4 p2 f4 s4 => wpAny_pure ?_)
  have q4 : IsPair g4 (N + 3) x b := (s4.2 _ (ne_ (by ac_rfl))).trans q3
  refine wpAny_bind (wpAny_seqItems q4 rfl (wpAny_bind (wpAny_updateSeq_pair q4 fun g5 q5 s5 => wpAny_bind (wpAny_letGo (wpAny_pure (wpAny_pure ?_))))))
  replace q5 : IsPair g5 (N + 3) x y := q5
  have sz : g5.objs.size = s.heap.objs.size := by rw [s5.1, s4.1, s3.1, s2.1, s1.1]
  have z5 : zdO g5 (N + 4) (N + 2) (N + 3) .ellipsis bb := (s5.2 _ (ne_ (by ac_rfl))).trans ((s4.2 _ (ne_ (by ac_rfl))).trans ((s3.2 _ (ne_ (by ac_rfl))).trans ((s2.2 _ (ne_ (by ac_rfl))).trans z1)))
  have zl : (N + 4 : Nat) < g5.objs.size := Heap.lt_size z5
  have k5 : ∀ c o, c ≠ N -> c ≠ N + 1 -> c ≠ N + 3 -> c ≠ N + 4 -> s.heap.get? c = some o -> g5.get? c = some o := fun c o c1 c2 c3 c4 e => (s5.2 c c3).trans ((s4.2 c c2).trans ((s3.2 c c3).trans ((s2.2 c c1).trans ((s1.2 c c4).trans e))))
  have f5 : S1 (i + 1) g5 := D1.frame _ _ _ f2 fun b hb o e => (s5.2 b (nin2 hb (by ac_rfl) (by ac_rfl))).trans ((s4.2 b (nin2 hb (by ac_rfl) (by ac_rfl))).trans ((s3.2 b (nin2 hb (by ac_rfl) (by ac_rfl))).trans e))
  have f5' : S2 (i + 1) g5 := D2.frame _ _ _ f4 fun b hb o e => (s5.2 b (nin2 hb (by ac_rfl) (by ac_rfl))).trans e
  refine wpAny_bind (wpAny_seqItems q5 rfl (wpAny_bind (wpAny_newTuple (?_ : wpAny _ _ (Builtin.SmallTypes.ownedTupleHandOut (.ref (N + 4)) (.ref g5.objs.size) >>= _) _ _ _))))
  refine wpAny_bind ?_
  unfold Builtin.SmallTypes.ownedTupleHandOut
  refine wpAny_bind (wpAny_setField_rec (show zdO (g5.push { cls := .type "tuple", data := .seq #[x, y] }) (N + 4) (N + 2) (N + 3) .ellipsis bb from Heap.get?_push_of_some _ z5) (by simp) fun g7 z7 s7 => ?_)
  replace z7 : zdO g7 (N + 4) (N + 2) (N + 3) (rawInt g5.objs.size) bb := z7
  refine wpAny_setField_rec z7 (by simp) fun g8 z8 s8 => wpAny_pure ⟨_, rfl, ?_⟩
  replace z8 : zdO g8 (N + 4) (N + 2) (N + 3) (rawInt g5.objs.size) false := z8
  have up : ∀ c o, c ≠ N + 4 -> g5.get? c = some o -> g8.get? c = some o := fun c o c1 e => (s8.2 c c1).trans ((s7.2 c c1).trans (Heap.get?_push_of_some _ e))
  have T8 : IsPair g8 g5.objs.size x y := (s8.2 _ (ne_ (by ac_rfl))).trans ((s7.2 _ (ne_ (by ac_rfl))).trans (Heap.get?_push_size _ rfl))
  rw [sz] at z8 T8
  refine (?_ : Q (.ref g5.objs.size) _)
  rw [sz]
  exact k x y g8 _ p1 p2 ⟨_, _, z8, .inr ⟨_, rfl⟩⟩ ⟨_, _, up _ _ (ne_ (by ac_rfl)) q5⟩ (D1.frame _ _ _ f5 fun b hb o e => up b o (nin2 hb (by ac_rfl) (by ac_rfl)) e) (D2.frame _ _ _ f5' fun b hb o e => up b o (nin2 hb (by ac_rfl) (by ac_rfl)) e) T8 fun c o c1 c2 c3 c4 e => up c o c4 (k5 c o c1 c2 c3 c4 e)
 ·simp only [Bool.false_eq_true, if_false]
  simp only [List.forIn_toArray, List.forIn_cons, List.forIn_nil]
  have e0 : S1 i g0 := D1.frame _ _ _ h1 fun b hb o e => (s0.2 b (nin2 hb (by ac_rfl) (by ac_rfl))).trans e
  refine wpAny_bind (wpAny_bind (wpAny_bind (wpAny_holding (?_ : wpAny _ _ (Builtin.SmallTypes.nextOf (.ref N) >>= _) _ _ _))))
  refine wpAny_bind (D1.item i _ _ _ i1 e0 fun x g2 t2 p1 f2 s2 => wpAny_pure (wpAny_pure ?_))
  refine wpAny_bind (wpAny_bind (wpAny_holding (?_ : wpAny _ _ (Builtin.SmallTypes.nextOf (.ref (N + 1)) >>= _) _ _ _)))
  have e3 : S2 i g2 := D2.frame _ _ _ h2 fun b hb o e => (s2.2 b (nin2 hb (by ac_rfl) (by ac_rfl))).trans ((s0.2 b (nin2 hb (by ac_rfl) (by ac_rfl))).trans e)
  refine wpAny_bind (D2.item i _ _ _ i2 e3 fun y g4 t4 p2 f4 s4 => wpAny_pure (wpAny_pure (wpAny_pure ?_)))
  have sz : g4.objs.size = s.heap.objs.size := by rw [s4.1, s2.1, s0.1]
  have z4 : zdO g4 (N + 4) (N + 2) (N + 3) f0 true := (s4.2 _ (ne_ (by ac_rfl))).trans ((s2.2 _ (ne_ (by ac_rfl))).trans z0)
  have f4' : S1 (i + 1) g4 := D1.frame _ _ _ f2 fun b hb o e => (s4.2 b (nin2 hb (by ac_rfl) (by ac_rfl))).trans e
  refine (?_ : wpAny _ _ (newTuple [x, y] >>= _) _ _ _)
  refine wpAny_bind (wpAny_newTuple (wpAny_pure ⟨_, rfl, ?_⟩))
  have k5 : ∀ c o, c ≠ N -> c ≠ N + 1 -> c ≠ N + 3 -> c ≠ N + 4 -> s.heap.get? c = some o -> g4.get? c = some o := fun c o c1 c2 c3 c4 e => (s4.2 c c2).trans ((s2.2 c c1).trans ((s0.2 c c4).trans e))
  have q4 : IsPair g4 (N + 3) a b := (s4.2 _ (ne_ (by ac_rfl))).trans ((s2.2 _ (ne_ (by ac_rfl))).trans ((s0.2 _ (ne_ (by ac_rfl))).trans hTO))
  have T8 : IsPair (g4.push { cls := .type "tuple", data := .seq #[x, y] }) g4.objs.size x y := Heap.get?_push_size _ rfl
  rw [sz] at T8
  refine (?_ : Q (.ref g4.objs.size) _)
  rw [sz]
  exact k x y _ _ p1 p2 ⟨_, _, Heap.get?_push_of_some _ z4, hf⟩ ⟨_, _, Heap.get?_push_of_some _ q4⟩ (D1.frame _ _ _ f4' fun b hb o e => Heap.get?_push_of_some _ e) (D2.frame _ _ _ f4 fun b hb o e => Heap.get?_push_of_some _ e) T8 fun c o c1 c2 c3 c4 e => Heap.get?_push_of_some _ (k5 c o c1 c2 c3 c4 e)
theorem zl3 {Q : Fin -> Shared -> Prop} (D1 : Draws prog w A N [N, a1] n1 P1 S1) (D2 : Draws prog w A (N + 1) [N + 1, a2] n2 P2 S2) (l1 : a1 < N) (l2 : a2 < N)
  (hz' : ZipAt s.heap (N + 4) (N + 2) (N + 3)) (hTI : IsPair s.heap (N + 2) (.ref N) (.ref (N + 1))) (hTO : IsPair s.heap (N + 3) a b) (h1 : S1 i s.heap) (h2 : S2 i s.heap) (hi : i = n1 \/ (i < n1 /\ i = n2))
  (k : ∀ h' e tk, (∀ c o, c ≠ N -> c ≠ N + 1 -> c ≠ N + 3 -> c ≠ N + 4 -> s.heap.get? c = some o -> h'.get? c = some o) -> (∃ o, h'.get? e = some o /\ o.cls = .type "StopIteration") -> E (.ref e) { s with heap := h', toks := tk }) :
  wpAny (model prog w) A (Builtin.«zip.__next__» ⟨[.ref (N + 4)], []⟩) Q E s := by
 obtain ⟨f0, bb, hz, hf⟩ := hz'
 refine (?_ : wpAny _ _ (field (.ref (N + 4)) 2 >>= _) _ _ _)
 refine wpAny_bind (wpAny_field hz rfl (x := .bool false) rfl (?_ : wpAny _ _ (field (.ref (N + 4)) 3 >>= _) _ _ _))
 refine wpAny_bind (wpAny_field hz rfl (x := .ref (N + 2)) rfl (wpAny_bind (wpAny_seqItems hTI rfl (?_ : wpAny _ _ (Builtin.SmallTypes.ownedTupleIsFree (.ref (N + 4)) >>= _) _ _ _))))
 refine wpAny_bind (zmT hz hf ?_ fun g0 z0 s0 => ?_)
 ·simp only [if_true]
  refine wpAny_bind (wpAny_rule (wpAny_bind (wpAny_field hz rfl (x := .ref (N + 3)) rfl (wpAny_bind (wpAny_setField_rec hz (by simp) fun g1 z1 s1 => wpAny_bind ?_)))))
  replace z1 : zdO g1 (N + 4) (N + 2) (N + 3) .ellipsis bb := z1
  simp only [List.zipIdx_cons, List.zipIdx_nil, List.forIn_cons, List.forIn_nil]
  refine wpAny_bind (wpAny_bind (wpAny_onRaise (?_ : wpAny _ _ (Builtin.SmallTypes.nextOf (.ref N) >>= _) _ _ _)))
  have e1 : S1 i g1 := D1.frame _ _ _ h1 fun b hb o e => (s1.2 b (nin2 hb (by ac_rfl) (by ac_rfl))).trans e
  rcases hi with rfl | ⟨i1, rfl⟩
  ·refine wpAny_bind (D1.done _ _ _ e1 fun g2 e x2 he => ?_)
   obtain ⟨oe, hoe, hce⟩ := he
   have z2 : zdO g2 (N + 4) (N + 2) (N + 3) .ellipsis bb := x2 _ _ (ne_ (by ac_rfl)) z1
   have hez : e ≠ N + 4 := fun x => by subst x; rw [z2] at hoe; cases hoe; simp at hce
   exact wpAny_setField_rec z2 (by simp) fun g3 _ s3 => k g3 e _ (fun c o c1 c2 c3 c4 x => (s3.2 c c4).trans (x2 c o c1 ((s1.2 c c4).trans x))) ⟨oe, (s3.2 _ hez).trans hoe, hce⟩
  ·refine wpAny_bind (D1.item i _ _ _ i1 e1 fun x g2 t2 p1 f2 s2 => wpAny_pure ?_)
   have q2 : IsPair g2 (N + 3) a b := (s2.2 _ (ne_ (by ac_rfl))).trans ((s1.2 _ (ne_ (by ac_rfl))).trans hTO)
   refine wpAny_bind (wpAny_seqItems q2 rfl (wpAny_bind (wpAny_updateSeq_pair q2 fun g3 q3 s3 => wpAny_bind (wpAny_letGo (wpAny_pure ?_)))))
   replace q3 : IsPair g3 (N + 3) x b := q3
   refine wpAny_bind (wpAny_bind (wpAny_onRaise (?_ : wpAny _ _ (Builtin.SmallTypes.nextOf (.ref (N + 1)) >>= _) _ _ _)))
   have e3 : S2 i g3 := D2.frame _ _ _ h2 fun b hb o e => (s3.2 b (nin2 hb (by ac_rfl) (by ac_rfl))).trans ((s2.2 b (nin2 hb (by ac_rfl) (by ac_rfl))).trans ((s1.2 b (nin2 hb (by ac_rfl) (by ac_rfl))).trans e))
   refine wpAny_bind (D2.done _ _ _ e3 fun g4 e x4 he => ?_)
   obtain ⟨oe, hoe, hce⟩ := he
   have z3 : zdO g3 (N + 4) (N + 2) (N + 3) .ellipsis bb := (s3.2 _ (ne_ (by ac_rfl))).trans ((s2.2 _ (ne_ (by ac_rfl))).trans z1)
   have z4 : zdO g4 (N + 4) (N + 2) (N + 3) .ellipsis bb := x4 _ _ (ne_ (by ac_rfl)) z3
   have hez : e ≠ N + 4 := fun x => by subst x; rw [z4] at hoe; cases hoe; simp at hce
   exact wpAny_setField_rec z4 (by simp) fun g5 _ s5 => k g5 e _ (fun c o c1 c2 c3 c4 x => (s5.2 c c4).trans (x4 c o c2 ((s3.2 c c3).trans ((s2.2 c c1).trans ((s1.2 c c4).trans x))))) ⟨oe, (s5.2 _ hez).trans hoe, hce⟩
 ·simp only [Bool.false_eq_true, if_false, List.forIn_toArray, List.forIn_cons, List.forIn_nil]
  have e0 : S1 i g0 := D1.frame _ _ _ h1 fun b hb o e => (s0.2 b (nin2 hb (by ac_rfl) (by ac_rfl))).trans e
  refine wpAny_bind (wpAny_bind (wpAny_bind (wpAny_holding (?_ : wpAny _ _ (Builtin.SmallTypes.nextOf (.ref N) >>= _) _ _ _))))
  rcases hi with rfl | ⟨i1, rfl⟩
  ·refine wpAny_bind (D1.done _ _ _ e0 fun g2 e x2 he => ?_)
   exact k g2 e _ (fun c o c1 c2 c3 c4 x => x2 c o c1 ((s0.2 c c4).trans x)) he
  ·refine wpAny_bind (D1.item i _ _ _ i1 e0 fun x g2 t2 p1 f2 s2 => wpAny_pure (wpAny_pure ?_))
   refine wpAny_bind (wpAny_bind (wpAny_holding (?_ : wpAny _ _ (Builtin.SmallTypes.nextOf (.ref (N + 1)) >>= _) _ _ _)))
   have e3 : S2 i g2 := D2.frame _ _ _ h2 fun b hb o e => (s2.2 b (nin2 hb (by ac_rfl) (by ac_rfl))).trans ((s0.2 b (nin2 hb (by ac_rfl) (by ac_rfl))).trans e)
   refine wpAny_bind (D2.done _ _ _ e3 fun g4 e x4 he => ?_)
   exact k g4 e _ (fun c o c1 c2 c3 c4 x => x4 c o c2 ((s2.2 c c1).trans ((s0.2 c c4).trans x))) he
end
theorem ZipAt.at {h h' : Heap} {z TI TO : Addr} (x : ZipAt h z TI TO) (e : ∀ o, h.get? z = some o -> h'.get? z = some o) : ZipAt h' z TI TO := by
 obtain ⟨f0, b, q, r⟩ := x
 exact ⟨f0, b, e _ q, r⟩
theorem zjS {z TI TO : Addr} (hz : ZipAt s.heap z TI TO) (h : Q (.ref z) s) : wpAny (model prog w) A (pyIter (.ref z)) Q E s := by
 obtain ⟨f0, b, q, r⟩ := hz
 have hT : s.TypeIs (.ref z) "zip" := ⟨_, q, rfl⟩
 exact wpAny_pyIter_slot hT F.slot_zip_iter (wpAny_call_entry F.slot_zip_iter hT F.entry_zip_iter (wpAny_pure ⟨.ref z, rfl, "zip", .builtin "zip.__next__", hT, F.slot_zip_next.lookup, h⟩) (F.args_zip_iter_1 (.ref z)))
theorem letGoZ {z TI TO : Addr} {Q : Unit -> Shared -> Prop} (hz : ZipAt s.heap z TI TO) (h1 : Q () s)
  (h2 : ∀ h', ZipAt h' z TI TO -> Heap.SameBut z s.heap h' -> Q () { s with heap := h' }) : wpAny (model prog w) A (letOwnedTupleGo tg (.ref z) u) Q E s := by
 obtain ⟨f0, b, q, r⟩ := hz
 have core : ∀ a : Addr, wpAny (model prog w) A (do
   let o <- load z
   match o.cls, o.data with
    | Value.type n, Data.fields vs =>
     if (["enumerate", "zip", "dict_itemiterator", "dict_reverseitemiterator", "odict_iterator", "itertools.zip_longest", "itertools.pairwise"].contains n && vs[0]? == some (rawInt ↑a)) = true then do
      rule "for.unpacks-the-owned-tuple"
      updateField z 0 Value.none
     else pure ()
    | x, x_1 => pure ()) Q E s := fun a => by
  refine wpAny_bind (wpAny_load q ?_)
  dsimp only
  split
  ·refine wpAny_bind (wpAny_rule ?_)
   refine (?_ : wpAny _ _ (setField (.ref z) 0 .none) _ _ _)
   exact wpAny_setField_rec q (by simp) fun g1 z1 s1 => h2 g1 ⟨_, _, z1, .inl rfl⟩ s1
  ·exact wpAny_pure h1
 unfold letOwnedTupleGo
 cases tg <;> first | exact wpAny_pure h1 | (cases u <;> first | exact wpAny_pure h1 | exact core _)
theorem zlx {P : Program} {w : World} (t1 : Bool) (a1 : Nat) (t2 : Bool) (a2 : Nat) (n N : Nat) (l1 : a1 < N) (l2 : a2 < N) :
  Turn P w K tg (Itz2 K t1 a1 t2 a2 n) ([N, N + 1, N + 2, N + 3, N + 4] : List Nat) (N + 4 : Nat)
   (fun i h => i <= n /\ ZipAt h (N + 4 : Nat) (N + 2 : Nat) (N + 3 : Nat) /\ IsPair h (N + 2 : Nat) (.ref N) (.ref (N + 1 : Nat)) /\ (∃ a b, IsPair h (N + 3 : Nat) a b) /\ SrcIt t1 h N a1 i /\ SrcIt t2 h (N + 1 : Nat) a2 i) where
 mem := by simp
 obj := fun i h st b hb => by
  obtain ⟨-, h4, h2, ⟨a, c, h3⟩, h0, h1⟩ := st
  simp only [List.mem_cons, List.not_mem_nil, or_false] at hb
  rcases hb with rfl | rfl | rfl | rfl | rfl
  ·exact h0.obj
  ·exact h1.obj
  ·exact ⟨_, h2, fun v z => by cases z⟩
  ·exact ⟨_, h3, fun v z => by cases z⟩
  ·obtain ⟨f0, bb, z4, -⟩ := h4
   exact ⟨_, z4, fun v z => by cases z⟩
 keep := fun i h h' st k => by
  obtain ⟨hi, h4, h2, ⟨a, c, h3⟩, h0, h1⟩ := st
  exact ⟨hi, h4.at fun o e => k _ (by simp) o e, k _ (by simp) _ h2, ⟨a, c, k _ (by simp) _ h3⟩, h0.at fun o e => k _ (by simp) o e, h1.at fun o e => k _ (by simp) o e⟩
 item := by
  intro X hP hw hK hc i pins s σ H E I hf st hg
  subst hP hw hK
  obtain ⟨hi, h4, h2, ⟨a, c, h3⟩, h0, h1⟩ := st
  obtain ⟨hn, xs, ys, q1, q2, en⟩ := hg
  obtain ⟨us, ru, hu, zu⟩ := q1.heap I
  obtain ⟨ws, rw', hw', zw⟩ := q2.heap I
  have lu := ru.length
  have lw := rw'.length
  have D1 := zbz (prog := X.prog) (w := X.w) (A := X.A.in1) (t := t1) (I.ok.hd hc) N a1 (ne_ (by ac_rfl)) us.toArray
  have D2 := zbz (prog := X.prog) (w := X.w) (A := X.A.in1) (t := t2) (I.ok.hd hc) (N + 1) a2 (ne_ (by ac_rfl)) ws.toArray
  have z4 := h4
  obtain ⟨f0, bb, z4, -⟩ := z4
  have hT : s.TypeIs (.ref (N + 4 : Nat)) "zip" := ⟨_, z4, rfl⟩
  unfold pyNext
  refine wpAny_bind (wpAny_attempt (wpAny_callSpecial?_slot (name := Str.ofString "__next__") hT F.slot_zip_next (wpAny_call_entry F.slot_zip_next hT F.entry_zip_next
   (zlf D1 D2 l1 l2 h4 h2 h3 ⟨h0, hu⟩ ⟨h1, hw'⟩ (by simp; lia) (by simp; lia) fun x y h' tk p1 p2 g4 g3 g0 g1 gT kk => wpAny_pure ?_) (F.args_zip_next_1 _))))
  obtain ⟨x1, hx1⟩ : ∃ x1, xs[i]? = some x1 := ⟨xs[i]'(by lia), List.getElem?_eq_getElem _⟩
  obtain ⟨x2, hx2⟩ : ∃ x2, ys[i]? = some x2 := ⟨ys[i]'(by lia), List.getElem?_eq_getElem _⟩
  obtain ⟨u1, hu1, r1⟩ := ru.get hx1
  obtain ⟨u2, hu2, r2⟩ := rw'.get hx2
  have e1 : u1 = x := by
   have : us[i]? = some x := by simpa using p1
   rw [hu1] at this; cases this; rfl
  have e2 : u2 = y := by
   have : ws[i]? = some y := by simpa using p2
   rw [hu2] at this; cases this; rfl
  subst e1 e2
  refine ⟨_, rfl, ?_⟩
  have fin : ∀ h'', ZipAt h'' (N + 4 : Nat) (N + 2 : Nat) (N + 3 : Nat) -> Heap.SameBut (N + 4 : Nat) h' h'' -> ∃ x H', L2.Inv X pins σ H' { s with heap := h'', toks := tk } /\ RelV x (.ref s.heap.objs.size) /\ (Itz2 X.K t1 a1 t2 a2 n).yld i H x H' /\ (i + 1 <= n /\ ZipAt h'' (N + 4 : Nat) (N + 2 : Nat) (N + 3 : Nat) /\ IsPair h'' (N + 2 : Nat) (.ref N) (.ref (N + 1 : Nat)) /\ (∃ a b, IsPair h'' (N + 3 : Nat) a b) /\ SrcIt t1 h'' N a1 (i + 1) /\ SrcIt t2 h'' (N + 1 : Nat) a2 (i + 1)) /\ ∀ b ∈ ([N, N + 1, N + 2, N + 3, N + 4] : List Nat), H' b = none := fun h'' z'' sb => by
   have lz : N + 4 < s.heap.objs.size := Heap.lt_size z4
   have kk' : ∀ b o, b ∉ ([N, N + 1, N + 2, N + 3, N + 4] : List Nat) -> s.heap.get? b = some o -> h''.get? b = some o := fun b o hb e => by
    obtain ⟨c1, c2, c3, c4⟩ := nin4 hb
    exact (sb.2 b c4).trans (kk b o c1 c2 c3 c4 e)
   have I1 := zlM (t' := tk) (vs := [x1, x2]) (its := [u1, u2]) I kk' hf (fun b hb => by
    have : b = N \/ b = N + 1 \/ b = N + 2 \/ b = N + 3 \/ b = N + 4 := by simpa using hb
    exact Nat.lt_of_le_of_lt (show (b : Nat) <= N + 4 by rcases this with h | h | h | h | h <;> rw [h] <;> simp) lz) ((sb.2 _ (ne_ (by ac_rfl))).trans gT) (by simp; rw [sizeLine_eq]; decide) (.cons r1 (.cons r2 .nil))
   refine ⟨.ref s.heap.objs.size, _, I1, rfl, ⟨_, x1, x2, I.hok.fresh (Nat.le_refl _), rfl, rfl, fun xs' ys' b1 b2 => ?_⟩, ⟨hn, z'', (sb.2 _ (ne_ (by ac_rfl))).trans (kk _ _ (ne_ (by ac_rfl)) (ne_ (by ac_rfl)) (ne_ (by ac_rfl)) (ne_ (by ac_rfl)) h2), (let ⟨a', b', e'⟩ := g3; ⟨a', b', (sb.2 _ (ne_ (by ac_rfl))).trans e'⟩), SrcIt.at g0.1 fun o e => (sb.2 _ (ne_ (by ac_rfl))).trans e, SrcIt.at g1.1 fun o e => (sb.2 _ (ne_ (by ac_rfl))).trans e⟩, fun b hb => ?_⟩
   ·rw [SrcSq.inj I b1 q1, SrcSq.inj I b2 q2]
    exact ⟨hx1, hx2⟩
   ·have : b = N \/ b = N + 1 \/ b = N + 2 \/ b = N + 3 \/ b = N + 4 := by simpa using hb
    rw [zay (Nat.ne_of_lt (Nat.lt_of_le_of_lt (show (b : Nat) <= N + 4 by rcases this with h | h | h | h | h <;> rw [h] <;> simp) lz))]
    exact (hf b hb).1
  exact letGoZ (s := { s with heap := h', toks := tk }) g4 (fin h' g4 ⟨rfl, fun _ _ => rfl⟩) fun h'' z'' sb => fin h'' z'' sb
 done := by
  intro X hP hw hK hc i pins s σ H E I hf st hg
  subst hP hw hK
  obtain ⟨hi, h4, h2, ⟨a, c, h3⟩, h0, h1⟩ := st
  obtain ⟨hn, xs, ys, q1, q2, en⟩ := hg
  obtain ⟨us, ru, hu, zu⟩ := q1.heap I
  obtain ⟨ws, rw', hw', zw⟩ := q2.heap I
  have lu := ru.length
  have lw := rw'.length
  have D1 := zbz (prog := X.prog) (w := X.w) (A := X.A.in1) (t := t1) (I.ok.hd hc) N a1 (ne_ (by ac_rfl)) us.toArray
  have D2 := zbz (prog := X.prog) (w := X.w) (A := X.A.in1) (t := t2) (I.ok.hd hc) (N + 1) a2 (ne_ (by ac_rfl)) ws.toArray
  have z4 := h4
  obtain ⟨f0, bb, z4, -⟩ := z4
  have hT : s.TypeIs (.ref (N + 4 : Nat)) "zip" := ⟨_, z4, rfl⟩
  unfold pyNext
  refine wpAny_bind (wpAny_attempt (wpAny_callSpecial?_slot (name := Str.ofString "__next__") hT F.slot_zip_next (wpAny_call_entry F.slot_zip_next hT F.entry_zip_next
   (zl3 D1 D2 l1 l2 h4 h2 h3 ⟨h0, hu⟩ ⟨h1, hw'⟩ (by simp; lia) fun h' e tk kk he => ?_) (F.args_zip_next_1 _))))
  obtain ⟨o, ho, hce⟩ := he
  refine wpAny_bind (wpAny_isInstance (T := "StopIteration") (b := true) ⟨o, ho, hce⟩ isSubtype_stop (wpAny_pure ⟨rfl, zjX I (fun b o hb e => ?_) hf⟩))
  obtain ⟨c1, c2, c3, c4⟩ := nin4 hb
  exact kk b o c1 c2 c3 c4 e
 self := fun _ _ _ _ _ st h => zjS st.2.1 h
theorem pi_zip2N {a b : Expr} {ta : TA} (hg : Gl X "zip") (hm : X.mg "zip" = none) (ha : PA X [a, b] ta) (hs : starEach [a, b] X.env = (false, eval a X.env) :: starEach [b] X.env := by rfl) (hs2 : (backTo pos (starEach [b] X.env)).any (·.1) = false := by rfl) :
  PI X tg (.Call (.Name "zip" p) [a, b] [] pos) (fun σ H R => ta σ H fun vs H1 => ∃ t1 a1 xs t2 a2 ys, vs = [.ref a1, .ref a2] /\ SrcSq t1 X.K H1 a1 xs /\ SrcSq t2 X.K H1 a2 ys /\ R (Itz2 X.K t1 a1 t2 a2 (min xs.length ys.length)) H1) := by
 intro pins s σ H R I h
 refine Call_ (zgF I hg hm zkO (PyProof.Rows.callWith_type1 (thn (ha pos pins s σ H _ I h) fun us s1 ⟨vs, H1, I1, r1, q1⟩ => ?_) hs hs2))
 obtain ⟨t1, a1, xs, t2, a2, ys, e, q1, q2, q⟩ := q1
 subst e
 cases r1 with
 | cons r rr =>
  cases rr with
  | cons r' rr =>
   cases rr
   cases r
   cases r'
   obtain ⟨us, ru, hu, -⟩ := q1.heap I1
   obtain ⟨ws, rw', hw', -⟩ := q2.heap I1
   refine zlH hu hw' fun h' g4 g2 g3 g0 g1 kk => wpAny_pyIter_zip g4 ⟨_, _, _, _, H1, rfl, I1.kept (t' := s1.toks) kk, zlx t1 a1 t2 a2 (min xs.length ys.length) s1.heap.objs.size hu.lt hw'.lt, ⟨Nat.zero_le _, ⟨_, _, g4, .inl rfl⟩, g2, ⟨_, _, g3⟩, g0, g1⟩, fun b hb => ?_, q⟩
   have : b = s1.heap.objs.size \/ b = s1.heap.objs.size + 1 \/ b = s1.heap.objs.size + 2 \/ b = s1.heap.objs.size + 3 \/ b = s1.heap.objs.size + 4 := by simpa using hb
   have le : s1.heap.objs.size <= b := by rcases this with h | h | h | h | h <;> rw [h] <;> simp
   exact I1.fpOk le (I1.hok.fresh le)
theorem zeT {a b : Expr} {ma : MA} (hm : X.mg "zip" = none) (ha : SA X [a, b] ma) (hg : Gl X "zip" := by rfl) (hs : starEach [a, b] X.env = (false, eval a X.env) :: starEach [b] X.env := by rfl) (hs2 : (backTo pos (starEach [b] X.env)).any (·.1) = false := by rfl) :
  SIt X tg (.Call (.Name "zip" p) [a, b] [] pos) (iZ2 ma) := by
 obtain ⟨t, pa, sa⟩ := ha
 refine ⟨_, pi_zip2N hg hm pa hs hs2, fun B G H σ ρ ds ρ' Q I hm k => ?_⟩
 obtain ⟨⟨es, ρ1⟩, e1, h2⟩ := zah hm
 dsimp only at h2
 refine sa B G H σ ρ es ρ1 _ I e1 fun G1 H1 vs I1 f1 r1 => ?_
 split at h2
 ·obtain ⟨xs, ex, h2⟩ := zah h2
  obtain ⟨ys, ey, h2⟩ := zah h2
  cases h2
  obtain ⟨x, y, rfl, rx, ry⟩ := r1.two
  obtain ⟨t1, a1, us, rfl, s1, c1⟩ := ziZ rx ex
  obtain ⟨t2, a2, ws, rfl, s2, c2⟩ := ziZ ry ey
  have n1 := c1.length
  have n2 := c2.length
  refine ⟨t1, a1, us, t2, a2, ws, rfl, s1 _ I1.fz, s2 _ I1.fz, k _ G1 H1 I1 f1 ⟨fun H i f hi => ?_, fun H i x H' f y d e => ?_, fun H i f hi => ?_⟩⟩
  ·exact ⟨by simp [zjP] at hi; lia, us, ws, s1 _ f, s2 _ f, rfl⟩
  ·obtain ⟨p, x1, x2, hp, eh, ex', q⟩ := y
   obtain ⟨q1, q2⟩ := q us ws (s1 _ f) (s2 _ f)
   simp only [zjP, List.getElem?_zipWith] at e
   split at e
   ·rename_i d1 d2 g1 g2
    cases e
    obtain ⟨v1, b1, r1⟩ := c1.get g1
    obtain ⟨v2, b2, r2⟩ := c2.get g2
    rw [q1] at b1; cases b1
    rw [q2] at b2; cases b2
    exact .inr ⟨p, _, _, hp, eh, ex', rfl, ⟨_, _, rfl, r1, _, _, rfl, r2, rfl⟩⟩
   ·cases e
  ·exact ⟨by simp [zjP] at hi; lia, us, ws, s1 _ f, s2 _ f, rfl⟩
 ·cases h2
end M
namespace M
open L2 PySem PySem.Spec
open PyProof.Rows hiding St
variable {l : List Str} {p : List Value -> Prop} {n k : List Int} {oc u : Value} {osl : Array (Option Value)} {fd : FuncData} {v : V} {K : W.Frag} {B : Bs} {G H : Hp} {σ : St} {ρ : R} {j : Nat} {q : List (List Int) × List D} {d : D} {ks : List (List Int)} {ds es : List D}
theorem ndk (h : decide l.Nodup = true := by kernel_rfl) : l.Nodup := of_decide_eq_true h
theorem us_0 (h : p []) : ∀ us : List Value, us.length = 0 -> p us := fun us e => by
 cases us with
 | nil => exact h
 | cons => cases e
theorem us_s {n : Nat} (h : ∀ (a : Value) (us : List Value), us.length = n -> p (a :: us)) : ∀ us : List Value, us.length = n + 1 -> p us := fun us e => by
 cases us with
 | nil => cases e
 | cons a us => exact h a us (Nat.succ.inj e)
section
variable {P : Program} {w : World} {K : W.Frag} {mg : Str -> Option Value} {base hp : Heap} {x : Str} {st : Stmt} {f : Addr}
noncomputable def FnAt (K : W.Frag) (x : Str) (st : Stmt) : Prop := ∃ f fd, W.nsIn K mainGlobals x = some (some (.ref f)) /\ Fun K x x st f fd
theorem FnAt.mk {od an : Option Addr} {kV doc pm cdv ct : Value} (a : W.nsIn K mainGlobals x = some (some (.ref f))) (l : K.lookup f = some ⟨oc, od, .func (W.fnOf x x (zev st) (zca st) (zaR st) .none kV doc pm an cdv ct), osl⟩)
  (c : W.codeIn K cdv x = true) (k : W.keepIn K (.ref f) = true) : FnAt K x st := ⟨f, _, a, fun_mk l c k⟩
noncomputable abbrev BindsAt (x : Str) (st : Stmt) (ps : List Str) : Prop := ∀ (kV doc pm : Value) (an : Option Addr) (cdv ct : Value) (us : List Value), us.length = ps.length -> bindArgs (W.fnOf x x (zev st) (zca st) (zaR st) .none kV doc pm an cdv ct) ⟨us, []⟩ = pure (ps.zip us)
theorem FnAt.law (h : FnAt K x st) (X : K.In hp) (G : hp.Ns mainGlobals mg) (hf : mg x = some (.ref f)) : ∃ kV doc pm an cdv ct, Fun K x x st f (W.fnOf x x (zev st) (zca st) (zaR st) .none kV doc pm an cdv ct) := by
 obtain ⟨f', fd, a, T⟩ := h
 have e := hf.symm.trans (W.mg_of X G a)
 cases e
 obtain ⟨oc, od, kV, doc, pm, an, cdv, ct, osl, rfl, lk, hcd⟩ := id T.ex
 exact ⟨kV, doc, pm, an, cdv, ct, T⟩
variable {N : List Str} {k n : Nat} {m : MS}
noncomputable abbrev Bd (P : Program) (w : World) (K : W.Frag) (mg : Str -> Option Value) (base : Heap) (x : Str) (st : Stmt) (N : List Str) (k : Nat) (m : MS) : Prop := ∀ (f : Addr) (cdv : Value) (A : Around) (outer : List Env) (s : Shared) (H : Hp) (E : XK), Room k (A.deeper (PyProof.Rows.envOfC x (zaR st) s.heap.objs.size f cdv)) -> N.Nodup -> SSs (cxOf CX0 P w K mg base N x (zaR st) f cdv A outer s H E).nox (zca st) m
structure DefOk (x : Str) (st : Stmt) (N : List Str) (n : Nat) : Prop where
 sc : FnScope N (N.take n) (zaR st)
 len : (N.take n).length = n
 le : n <= N.length
 bs : BindsAt x st (N.take n)
theorem lawP (F : Fun K x x st f fd) (b : Bd P w K mg base x st N k m) (d : DefOk x st N n := by exact ⟨⟨rfl, rfl, rfl, by decide +kernel, rfl, by decide +kernel, by decide +kernel⟩, rfl, by decide, fun _ _ _ _ _ _ => by first | exact us_s fun _ => us_0 rfl | exact us_s fun _ => us_s fun _ => us_0 rfl | exact us_s fun _ => us_s fun _ => us_s fun _ => us_0 rfl | exact us_s fun _ => us_s fun _ => us_s fun _ => us_s fun _ => us_0 rfl | exact us_0 rfl | exact us_s fun _ => us_s fun _ => us_s fun _ => us_s fun _ => us_s fun _ => us_0 rfl⟩) : FnOk P w K mg base CX0 (k + 1) f fd (N.take n) (spP K n (fP N.length m)) := fnP_ok F d.sc d.len d.le fun cdv A outer s H E hr => b _ cdv A outer s H E hr d.sc.nd
theorem fdP (X : K.In hp) (G : hp.Ns mainGlobals mg) (h : FnAt K x st) (b : Bd P w K mg base x st N k m) (d : DefOk x st N n := by exact ⟨⟨rfl, rfl, rfl, by decide +kernel, rfl, by decide +kernel, by decide +kernel⟩, rfl, by decide, fun _ _ _ _ _ _ => by first | exact us_s fun _ => us_0 rfl | exact us_s fun _ => us_s fun _ => us_0 rfl | exact us_s fun _ => us_s fun _ => us_s fun _ => us_0 rfl | exact us_s fun _ => us_s fun _ => us_s fun _ => us_s fun _ => us_0 rfl | exact us_0 rfl | exact us_s fun _ => us_s fun _ => us_s fun _ => us_s fun _ => us_s fun _ => us_0 rfl⟩) : FD P w K mg base (k + 1) x (spP K n (fP N.length m)) :=
 let ⟨f, fd, a, T⟩ := h
 ⟨⟨f, fd, _, fnP_ok T d.sc d.len d.le fun cdv A outer s H E hr => b _ cdv A outer s H E hr d.sc.nd, W.mg_of X G a, T.kp, T.binds d.bs⟩⟩
theorem fdM (X : K.In hp) (G : hp.Ns mainGlobals mg) (h : FnAt K x st) (b : Bd P w K mg base x st N k m) (d : DefOk x st N n := by exact ⟨⟨rfl, rfl, rfl, by decide +kernel, rfl, by decide +kernel, by decide +kernel⟩, rfl, by decide, fun _ _ _ _ _ _ => by first | exact us_s fun _ => us_0 rfl | exact us_s fun _ => us_s fun _ => us_0 rfl | exact us_s fun _ => us_s fun _ => us_s fun _ => us_0 rfl | exact us_s fun _ => us_s fun _ => us_s fun _ => us_s fun _ => us_0 rfl | exact us_0 rfl | exact us_s fun _ => us_s fun _ => us_s fun _ => us_s fun _ => us_s fun _ => us_0 rfl⟩) : FD P w K mg base (k + 1) x (spM K n (fM N.length m)) :=
 let ⟨f, fd, a, T⟩ := h
 ⟨⟨f, fd, _, fnM_ok T d.sc d.len d.le fun cdv A outer s H E hr => b _ cdv A outer s H E hr d.sc.nd, W.mg_of X G a, T.kp, T.binds d.bs⟩⟩
end
variable {P : Program} {w : World} {H G : Hp} {h : Heap} {a b : Addr} {o : Obj} {xs : List (List L2.Key × Addr × Value)} {ks : List (List Int)} {ys : List (List L2.Key × V)}
theorem th_eq (k : List Int) : reduceHash (Builtin.Tuple.tupleHashOf ((k.map kI).map hI)) = (tupleKind (zbO P w)).hash (k.map kI) := by
 have e : (k.map kI).map hI = (k.map kI).map (keyH w) := by rw [List.map_map, List.map_map]; exact List.map_congr_left fun _ _ => rfl
 rw [e]
 rfl
theorem te_one {q : List L2.Key × Addr × Value} (e : q.1 = k.map kI) : (⟨reduceHash (Builtin.Tuple.tupleHashOf (q.1.map hI)), .ref q.2.1, q.2.2⟩ : DictEntry) = entryOfKey (tupleKind (zbO P w)) q := by
 unfold entryOfKey
 rw [e, th_eq (P := P) (w := w)]
theorem te_eq (kt : KT G ys xs) (e : ys.map (·.1) = ks.map (·.map kI)) : (xs.map fun x => (⟨reduceHash (Builtin.Tuple.tupleHashOf (x.1.map hI)), .ref x.2.1, x.2.2⟩ : DictEntry)) = xs.map (entryOfKey (tupleKind (zbO P w))) := by
  induction kt generalizing ks with
  | nil => rw [List.map_nil, List.map_nil]
  | @cons p q ps qs h t ih =>
    cases ks with
    | nil => cases e
    | cons k ks =>
      have e2 := List.cons.inj e
      rw [List.map_cons, List.map_cons, ih e2.2]
      exact congrArg (· :: _) (te_one (h.1.symm.trans e2.1))
theorem kn_at (ok : HOk P w H h) (e : H a = some (kn a o)) : h.get? a = some o := (show ObjOk P w H h a (kn a o) from ok a _ e).1
theorem kn_ok (e : h.get? a = some o) : ObjOk P w H h a (kn a o) := ⟨e, ⟨o, e⟩, fun _ _ e1 k => k o e1⟩
theorem DtI.of (d : DtI H a o xs ks ys) (ok : HOk P w H h) (e : H a = some (kn a o)) : h.DictOfH (tupleKind (zbO P w)) a xs := by
 obtain ⟨h1, ⟨es, ep, h2, h3⟩, h4⟩ := d.dn
 refine ⟨o, es, ep, kn_at ok e, h1, h2, h3.trans (te_eq d.kt d.key), ?_, h4⟩
 have all : ∀ {l : List (List L2.Key × V)} {m : List (List L2.Key × Addr × Value)}, KT H l m -> ∀ x ∈ m, (tupleKind (zbO P w)).is h x.1 x.2.1 := by
  intro l m q
  induction q with
  | nil => intro x hx; exact nomatch hx
  | @cons p q ps qs hq t ih =>
   intro x hx
   rcases List.mem_cons.mp hx with e | hx
   ·subst e
    exact zlS ok (by rw [<- hq.1]; exact hq.2.1)
   ·exact ih x hx
 exact all d.kt
theorem DtN.of (d : DtI H a o xs ks ys) (rv : RelV v u) (hb : H b = some (.tup ((k.map kI).map kV))) (dd : h.DictOfH (tupleKind (zbO P w)) a (storedH xs (k.map kI) b u)) : ∃ o', h.get? a = some o' /\ DtN o' (storedH xs (k.map kI) b u) := by
 obtain ⟨o', es, ep, h1, h2, h3, h4, h5, h6⟩ := dd
 have kt := KT.put d.kt (k.map kI) hb rv
 have key : ∃ ks' : List (List Int), (putK ys (k.map kI) v).map (·.1) = ks'.map (·.map kI) := by
  unfold putK
  split
  ·refine ⟨ks, ?_⟩
   rw [<- d.key, List.map_map]
   refine List.map_congr_left fun p _ => ?_
   show (if p.1 = k.map kI then (p.1, v) else p).1 = p.1
   split <;> rfl
  ·exact ⟨ks ++ [k], by rw [List.map_append, List.map_append, d.key]; rfl⟩
 obtain ⟨ks', key⟩ := key
 exact ⟨o', h1, h2, ⟨es, ep, h3, h4.trans (te_eq kt key).symm⟩, h6⟩
noncomputable def DtG (H : Hp) (x y : V) (r : Option V) : Prop := ∃ (a b : Addr) (o : Obj) (xs : List (List L2.Key × Addr × Value)) (ks : List (List Int)) (ys : List (List L2.Key × V)) (k : List Int), x = .ref a /\ y = .ref b /\ H a = some (kn a o) /\ DtI H a o xs ks ys /\ H b = some (.tup ((k.map kI).map kV)) /\ r = valV ys (k.map kI)
section
variable {X : Cx} {e i value : Expr} {td ty tv : TE} {pos pos' : Pos}
noncomputable def tDGT (td ty : TE) : TE := fun σ H Q => td σ H fun x H1 => ty σ H1 fun y H2 => ∃ v, DtG H2 x y (some v) /\ Q v H2
theorem pe_dgetT (hu : X.A.units + 1 < cLine) (ho : PE X e td) (hi : PE X i ty) (hs : NoSl i) : PE X (.Subscript e i pos) (tDGT td ty) := by
 intro pins s σ H Q I h
 refine subD_of PySem.F.slot_dict_getitem.lookup hs (thn (ho pins s σ H _ I h) fun u s1 ⟨x, H1, I1, rx, q1⟩ => thn (hi pins s1 σ H1 _ I1 q1) fun iv s2 ⟨y, H2, I2, ry, v, g, q2⟩ => ?_)
 obtain ⟨a, b, o, xs, ks, ys, k, rfl, rfl, g1, g2, g3, g4⟩ := g
 obtain rfl : u = Value.ref a := rx
 obtain rfl : iv = Value.ref b := ry
 have dd := g2.of I2.hok g1
 obtain ⟨w', hw, rw'⟩ := RelO.some_of (v := v) (o := (atKey xs (k.map kI)).map (·.2)) (by rw [g4]; exact KT.val g2.kt _)
 obtain ⟨p, hp, hp2⟩ := Option.map_eq_some_iff.mp hw
 refine ⟨dd.typeIs, wpAny_getItem_heap (tupleKind_room_in1 hu) (zlS I2.hok g3) dd hp ?_⟩
 rw [hp2]
 exact ⟨v, H2, I2.tok _, rw', q2⟩
noncomputable def DtP (ys : List (List L2.Key × V)) (xs : List (List L2.Key × Addr × Value)) (b : Addr) (k : List Int) (v : V) (xs' : List (List L2.Key × Addr × Value)) : Prop := ∀ G : Hp, KT G ys xs -> G b = some (.tup ((k.map kI).map kV)) -> KT G (putK ys (k.map kI) v) xs'
noncomputable def sDPt (td ty tv : TE) : TS := fun D σ H => tv σ H fun v H1 => td σ H1 fun x H2 => ty σ H2 fun y H3 => ∃ (a b : Addr) (o : Obj) (xs : List (List L2.Key × Addr × Value)) (ks : List (List Int)) (ys : List (List L2.Key × V)) (k : List Int), x = .ref a /\ y = .ref b /\ H3 a = some (kn a o) /\ DtI H3 a o xs ks ys /\ H3 b = some (.tup ((k.map kI).map kV)) /\ ∀ o' xs', DtN o' xs' -> DtP ys xs b k v xs' -> D.nx σ (upd H3 a (kn a o'))
theorem ps_dputT (hu : X.A.units + 1 < cLine) (ho : PE X e td) (hi : PE X i ty) (hv : PE X value tv) (hs : swapsWith value (some (.Subscript e i pos')) pos.line X.env = pure false) :
  PS X (.Assign [.Subscript e i pos'] value pos) (sDPt td ty tv) := by
 intro pins s σ H D I h
 refine wpAny_Assign_Subscript (thn (hv pins s σ H _ I h) fun r s1 ⟨v, H1, I1, rv, q1⟩ => thn (ho pins s1 σ H1 _ I1 q1) fun u s2 ⟨x, H2, I2, rx, q2⟩ => thn (hi pins s2 σ H2 _ I2 q2) fun iv s3 ⟨y, H3, I3, ry, a, b, o, xs, ks, ys, k, e1, e2, g1, g2, g3, q3⟩ => ?_) hs
 subst e1 e2
 obtain rfl : u = Value.ref a := rx
 obtain rfl : iv = Value.ref b := ry
 have hz : xs.length <= sizeLine := by rw [<- Paired.length g2.kt]; exact g2.len
 refine wpAny_setItem_heap (hsz := hz) (tupleKind_room_in1 hu) (zlS I3.hok g3) (g2.of I3.hok g1) fun h' dd' hs => ?_
 obtain ⟨o', go, dn⟩ := DtN.of g2 rv g3 dd'
 exact ⟨σ, _, d_write I3 (by rw [g1]; exact True.intro) hs ⟨o', go⟩ (kn_ok go), q3 o' _ dn fun G kt gb => KT.put kt _ gb rv⟩
noncomputable def tDNewt : TE := fun _ H Q => ∀ p o, H p = none -> (p == sysModules) = false -> DtN o [] -> Q (.ref p) (upd H p (kn p o))
theorem pe_dnewt : PE X (.Dict [] [] pos) tDNewt := fun pins s σ H Q I h =>
 wpAny_Dict_empty ⟨.ref s.heap.objs.size, _, I.laid (a := s.heap.objs.size) (o := kn s.heap.objs.size { cls := .type "dict", data := .dict #[] }) (t' := s.toks) (fun _ _ q => Heap.get?_push_of_some _ q) (Nat.le_refl _) (kn_ok (Heap.get?_push_size _ rfl)), rfl, h _ _ (I.hok.fresh (Nat.le_refl _)) (beq_eq_false_iff_ne.mpr (Ne.symm (Nat.ne_of_lt I.big))) ⟨⟨rfl, rfl, rfl⟩, ⟨#[], 0, rfl, rfl⟩, List.nodup_nil⟩⟩
end
noncomputable def Sl.dit : Sl -> Option (List (List Int) × List D)
 | .tre (.dit ks ds) => some (ks, ds)
 | .ptr (.dit ks ds) => some (ks, ds)
 | .val (.dit ks ds) => some (ks, ds)
 | _ => none
noncomputable def keyT : D -> Option (List Int)
 | .tup es => zb4 es
 | _ => none
theorem SI.dit (I : SI K B G H σ ρ) {s : Sl} (e : ρ[j]? = some s) (h : s.dit = some q) : ∃ p ys o xs, σ[j]? = some (some (.ref p)) /\ H p = some (kn p o) /\ DtI G p o xs q.1 ys /\ RepL K G (ys.map (·.2)) q.2 := by
 have tr : ∀ {t : T}, s.tree = some t -> t = .dit q.1 q.2 -> ∃ p ys o xs, σ[j]? = some (some (.ref p)) /\ H p = some (kn p o) /\ DtI G p o xs q.1 ys /\ RepL K G (ys.map (·.2)) q.2 := fun {t} h1 h2 => by
  subst h2
  obtain ⟨v, A, k1, ⟨p, ys, o, xs, rfl, e2, e3, e4, -⟩, _⟩ := I.tree e h1
  exact ⟨p, ys, o, xs, k1, e2, e3, e4⟩
 cases s with
 | tre t => cases t with
  | dit ks ds => cases h; exact tr rfl rfl
  | _ => cases h
 | ptr t => cases t with
  | dit ks ds => cases h; exact tr rfl rfl
  | _ => cases h
 | val d => cases d with
  | dit ks ds =>
   cases h
   obtain ⟨v, k1, a, ys, o, xs, rfl, e2, e3, e4⟩ := I.slot j _ e
   exact ⟨a, ys, o, xs, k1, I.fz _ _ e2, e3, e4⟩
  | _ => cases h
 | _ => cases h
theorem zmj (r : RepD K G v d) (e : keyT d = some k) : ∃ b, v = .ref b /\ G b = some (.tup ((k.map kI).map kV)) := by
 cases d with
 | tup es =>
  obtain ⟨b, xs, rfl, h, rl⟩ := r
  cases zf7 e
  rw [RepL.ints_eq rl] at h
  refine ⟨b, rfl, h.trans ?_⟩
  rw [List.map_map]
  rfl
 | _ => cases e
noncomputable def eDGT (j : Nat) (mk : ME) : ME := fun ρ => if (ρ[j]?.bind Sl.dit).isSome then (mk ρ).bind fun p => (keyT p.1).bind fun k => (p.2[j]?.bind Sl.dit).bind fun q => (lkD q.1 q.2 k).map fun d => (d, p.2) else none
noncomputable def sDPT (j : Nat) (mk me : ME) : MS := fun ρ => (me ρ).bind fun p => if (p.2[j]?.bind Sl.dit).isSome then (mk p.2).bind fun q => (keyT q.1).bind fun k => q.2[j]?.bind fun s => match s.tree with
  | some (.dit ks ds) => if ks.length < 16777216 then some (.next, q.2.set j (s.putT (.dit (ptD ks ds k p.1).1 (ptD ks ds k p.1).2))) else none
  | _ => none else none
noncomputable def sDNT (i : Nat) : MS := fun ρ => some (.next, ρ.set i (.tre (.dit [] [])))
section
variable {X : Cx} {x : Str} {a e : Expr} {tg : Expr} {mk me : ME} {pos p' tpos : Pos}
theorem se_dGetT (j : Nat) (hu : X.A.units + 64 < cLine) (ha : SE X a mk) (hs : NoSl a := by exact fun _ _ => rfl) (hN : X.N[j]? = some x := by rfl) (hv : Vis X.env.scope x := by first | exact Or.inl rfl | exact Or.inr (Or.inl rfl) | exact Or.inr (Or.inr rfl)) (hd : (x == ("__debug__" : Str)) = false := by decide)
  (hcd : (x == ("__classdict__" : Str)) = false := by decide) : SE X (.Subscript (.Name x p') a pos) (eDGT j mk) := by
 obtain ⟨t, pa, sa⟩ := ha
 refine ⟨_, pe_dgetT (by lia) (zea hN hv hd hcd) pa hs, fun B G H σ ρ d ρ' Q I hm k => ?_⟩
 unfold eDGT at hm
 split at hm
 ·rename_i hso
  obtain ⟨q0, hso⟩ := Option.isSome_iff_exists.mp hso
  obtain ⟨s0, e0, d0⟩ := zah hso
  obtain ⟨p, _, _, _, k1, _⟩ := I.dit e0 d0
  obtain ⟨⟨y, ρ1⟩, e1, hm⟩ := zah hm
  refine ⟨.ref p, k1, sa B G H σ ρ y ρ1 _ I e1 fun G1 H1 v I1 f1 r1 => ?_⟩
  obtain ⟨n, en, hm⟩ := zah hm
  obtain ⟨q, e2, hm⟩ := zah hm
  obtain ⟨d', e3, e4⟩ := zaH hm
  cases e4
  obtain ⟨s, e5, e6⟩ := zah e2
  obtain ⟨p', ys, o, xs, m1, m2, m3, m4⟩ := I1.dit e5 e6
  rw [k1] at m1; cases m1
  obtain ⟨b, rfl, hb⟩ := zmj r1 en
  obtain ⟨w, h1, h2⟩ := zmG zmD m3.key m4 e3
  exact ⟨w, ⟨p, b, o, xs, q.1, ys, n, rfl, rfl, m2, m3.mono I1.fz, I1.fz _ _ hb, h1.symm⟩, k G1 H1 w I1 f1 h2⟩
 ·cases hm
theorem DtI.put {p b : Addr} {o o' : Obj} {xs xs' : List (List L2.Key × Addr × Value)} {ys : List (List L2.Key × V)} (i : DtI G p o xs ks ys) (r : RepL K G (ys.map (·.2)) ds) (rv : RepD K G v d) (hl : ks.length < 16777216) (hb : G b = some (.tup ((n.map kI).map kV))) (dn : DtN o' xs') (dp : DtP ys xs b n v xs') : DtI G p o' xs' (ptD ks ds n d).1 (putK ys (n.map kI) v) /\ RepL K G ((putK ys (n.map kI) v).map (·.2)) (ptD ks ds n d).2 := by
 obtain ⟨m1, m2⟩ := pt_rep zmD (j := n) i.key r rv
 have len : ys.length = ks.length := by have := congrArg List.length i.key; simpa using this
 refine ⟨⟨i.sys, dn, ?_, m1, dp G i.kt hb⟩, m2⟩
 have := zjU ys (n.map kI) v
 rw [sizeLine_eq]; lia
theorem ss_dPutT (j : Nat) (hu : X.A.units + 64 < cLine) (he : SE X e me) (ha : SE X a mk) (hN : X.N[j]? = some x := by rfl) (hv : Vis X.env.scope x := by first | exact Or.inl rfl | exact Or.inr (Or.inl rfl) | exact Or.inr (Or.inr rfl)) (hd : (x == ("__debug__" : Str)) = false := by decide)
    (hcd : (x == ("__classdict__" : Str)) = false := by decide) (hs : swapsWith e (some (.Subscript (.Name x p') a tpos)) pos.line X.env = pure false := by rfl) : SS X (.Assign [.Subscript (.Name x p') a tpos] e pos) (sDPT j mk me) := by
  obtain ⟨t, pa, sa⟩ := ha
  obtain ⟨u, pe, se⟩ := he
  refine ⟨_, ps_dputT (by lia) (zea hN hv hd hcd) pa pe hs, fun B G H σ ρ fl ρ' E I hm k => ?_⟩
  obtain ⟨⟨d, ρ1⟩, e1, hm⟩ := zah hm
  refine se B G H σ ρ d ρ1 _ I e1 fun G1 H1 v I1 f1 r1 => ?_
  split at hm
  . rename_i hso
    obtain ⟨q0, hso⟩ := Option.isSome_iff_exists.mp hso
    obtain ⟨s0, e0, d0⟩ := zah hso
    obtain ⟨p, _, _, _, k1, _⟩ := I1.dit e0 d0
    obtain ⟨⟨y, ρ2⟩, e2, hm⟩ := zah hm
    refine ⟨.ref p, k1, sa B G1 H1 σ ρ1 y ρ2 _ I1 e2 fun G2 H2 w I2 f2 r2 => ?_⟩
    obtain ⟨n, en, hm⟩ := zah hm
    obtain ⟨s, e3, hm⟩ := zah hm
    split at hm
    . rename_i ks ds q
      split at hm
      . rename_i hl
        cases hm
        obtain ⟨b, rfl, hb⟩ := zmj r2 en
        obtain ⟨v2, A, h1, h2, h3, h4, h5⟩ := I2.tree e3 q
        rw [k1] at h1; cases h1
        obtain ⟨p2, ys, o, xs, z, g2, g3, g4, rfl⟩ := h2
        cases z
        refine ⟨p, b, o, xs, ks, ys, n, rfl, rfl, g2, g3.mono I2.fz, I2.fz _ _ hb, fun o' xs' dn dp => ?_⟩
        obtain ⟨m1, m2⟩ := g3.put g4 (r1.mono f2) hl hb dn dp
        have rep : RepT X.K G2 (upd H2 p (kn p o')) (.ref p) (.dit (ptD ks ds n d).1 (ptD ks ds n d).2) [p] := ⟨p, _, o', xs', rfl, zaO, m1, m2, rfl⟩
        exact k G2 _ σ (I2.chT e3 q k1 ⟨p, ys, o, xs, rfl, g2, g3, g4, rfl⟩ (I2.fz.right (h4 p (by simp)) _) (fun b o n h => by rw [zay (fun z => n (by simp [z]))]; exact h) (fun b h => by
          by_cases z : b = p
          . subst z; rw [zaO] at h; cases h
          . rw [zay z] at h; exact h) rep (by simp) (fun a m => .inl m)) (f1.trans f2)
      . cases hm
    . cases hm
  . cases hm
theorem ss_dNewT (i : Nat) (hN : X.N.Nodup) (hi : X.N[i]? = some x := by rfl) (hx : Loc X.env.scope x := by first | exact Or.inl rfl | exact Or.inr rfl) (hs : swapsWith (.Dict [] [] tpos) (some (.Name x p')) pos.line X.env = pure false := by rfl)
    (hf : X.fn x = true \/ X.env.scope.names.lookup x = some .local := by first | exact Or.inl rfl | exact Or.inr rfl) : SS X (.Assign [.Name x p'] (.Dict [] [] tpos) pos) (sDNT i) := by
  refine ⟨_, zlT hN hi hx pe_dnewt hs hf, fun B G H σ ρ fl ρ' E I hm k => ?_⟩
  cases hm
  intro p o hp ns dn
  have nw : Nw X.K G (upd H p (kn p o)) σ ρ p := I.nw_move (I.nw hp) fun i s a _ _ g h => ⟨g, zay fun z => h (by rw [z]; exact hp)⟩
  exact k G _ _ ((I.allocO hp _).setT (A := [p]) ⟨p, [], o, [], rfl, zaO, ⟨ns, dn, Nat.zero_le _, rfl, .nil⟩, RepL.nil, rfl⟩ (by simp) (fun a m => by
    have : a = p := by simpa using m
    subst this
    exact ⟨I.fz.free hp, I.there a hp, nw⟩)) (Fz.refl G)
theorem SI.know (I : SI K B G H σ ρ) (e : ρ[j]? = some (.tre (.dit ks es))) : ∃ p G', σ[j]? = some (some (.ref p)) /\ SI K B G' H σ (ρ.set j (.val (.dit ks es))) /\ Fz G G' /\ RepD K G' (.ref p) (.dit ks es) := by
 obtain ⟨v, A, h1, ⟨p, ys, o, xs, rfl, h2, h3, h4, rfl⟩, h5, h6⟩ := I.slot j _ e
 obtain ⟨g, hb⟩ := h6 p (by simp)
 have fz := Fz.new g (kn p o)
 have rep : RepD K (upd G p (kn p o)) (.ref p) (.dit ks es) := ⟨p, ys, o, xs, rfl, zaO, h3.mono fz, h4.mono fz⟩
 have I2 := I.chg (i := j) (ov := some (.ref p)) (s' := .val (.dit ks es)) (G' := upd G p (kn p o)) (H' := H) (fun a u q => by
   by_cases z : a = p
   ·subst z; rw [zaO] at q; cases q; exact h2
   ·rw [zay z] at q; exact I.fz a u q) fz (fun b u q => by
   by_cases z : b = p
   ·subst z; exact .inr hb
   ·rw [zay z] at q; exact I.new b u q) I.keep I.there (fun i t a z ei w g' _ => by
   have na : a ≠ p := fun q => by subst q; exact I.dis i j t _ a z ei e w ⟨_, _, h1, ⟨a, ys, o, xs, rfl, h2, h3, h4, rfl⟩, by simp⟩
   exact ⟨by rw [zay na]; exact g', rfl, id⟩) ⟨.ref p, rfl, rep⟩
 rw [ziX h1] at I2
 exact ⟨p, _, h1, I2, fz, rep⟩
end
end M
namespace M
open L2 PySem PySem.Spec
open PyProof.Rows hiding St
theorem zmV (lo hi : Int) : (((lo - hi).toNat : Nat) : Int) = Builtin.Range.rangeSize lo hi (-1) := by
 unfold Builtin.Range.rangeSize
 rw [if_neg (by decide)]
 split
 ·simp only [Int.neg_neg, Int.ediv_one]; lia
 ·lia
theorem zmI {a b : Int} (ha : -(2 ^ 60) <= a) (ha' : a < 2 ^ 60) (hb : -(2 ^ 60) <= b) (hb' : b < 2 ^ 60) : Builtin.Range.small a b (-1) = true := by
 have h1 := zmV a b
 unfold Builtin.Range.small
 simp only [Builtin.Range.rangeFitsLong, Bool.and_eq_true, Bool.or_eq_true, decide_eq_true_eq, beq_iff_eq, <- h1]
 simp
 lia
section
variable {X : Cx} {tg : Expr}
theorem zmc {pins : List (Addr × Obj)} {σ : St} {H : Hp} {s : Shared} {R : It -> Hp -> Prop} {E : Value -> Shared -> Prop} {lo hi : Int} {t u v : Tok} {tk : Nat} (I : Inv X pins σ H s) (h1 : -(2 ^ 60) <= lo) (h2 : lo < 2 ^ 60) (h3 : -(2 ^ 60) <= hi) (h4 : hi < 2 ^ 60)
  (q : R (Itrs lo (-1) (lo - hi).toNat) H) : wpAny (model X.prog X.w) X.A (pyIter (.ref s.heap.objs.size)) (PIE X pins σ tg R) E { s with heap := s.heap.push { cls := .type "range", data := .fields #[.int lo t, .int hi u, .int (-1) v] }, toks := tk } := by
 refine wpAny_pyIter_range (IsRange.new ..) (zmI h1 h2 h3 h4) ?_
 have I1 : Inv X pins σ H { s with heap := s.heap.push { cls := .type "range", data := .fields #[.int lo t, .int hi u, .int (-1) v] }, toks := tk } := I.kept fun b o e => Heap.get?_push_of_some _ e
 refine ⟨(s.heap.push { cls := .type "range", data := .fields #[.int lo t, .int hi u, .int (-1) v] }).objs.size, [(s.heap.push { cls := .type "range", data := .fields #[.int lo t, .int hi u, .int (-1) v] }).objs.size], _, _, H, rfl,
  I1.kept (t' := tk) fun b o e => Heap.get?_push_of_some _ e, zjQ _ lo (-1) (lo - hi).toNat, ?_, fun b hb => ?_, q⟩
 ·have e1 : lo + ((0 : Nat) : Int) * (-1) = lo := by simp
  show IsRangeIter _ _ (lo + ((0 : Nat) : Int) * (-1)) ((((lo - hi).toNat : Nat) : Int) - ((0 : Nat) : Int)) (-1)
  rw [e1, zmV, show (((0 : Nat) : Int)) = 0 from rfl, Int.sub_zero]
  exact Heap.get?_push_size _ rfl
 ·have e : b = (s.heap.push { cls := .type "range", data := .fields #[.int lo t, .int hi u, .int (-1) v] }).objs.size := by simpa using hb
  subst e
  exact I1.fpOk (Nat.le_refl _) (I1.hok.fresh (Nat.le_refl _))
theorem zlu {a b c : Expr} {ta : TA} {p pos : Pos} (hg : Gl X "range") (hm : X.mg "range" = none) (ha : PA X [a, b, c] ta) (hs : starEach [a, b, c] X.env = (false, eval a X.env) :: starEach [b, c] X.env := by rfl) (hs2 : (backTo pos (starEach [b, c] X.env)).any (·.1) = false := by rfl) :
  PI X tg (.Call (.Name "range" p) [a, b, c] [] pos) (fun σ H R => ta σ H fun vs H1 => ∃ i j : Int, vs = [.int i, .int j, .int (-1)] /\ (-(2 ^ 60) <= i /\ i < 2 ^ 60 /\ -(2 ^ 60) <= j /\ j < 2 ^ 60) /\ R (Itrs i (-1) (i - j).toNat) H1) := by
 intro pins s σ H R I h
 refine Call_ (zgF I hg hm boot_range (PyProof.Rows.callWith_type1 (thn (ha pos pins s σ H _ I h) fun us s1 ⟨vs, H1, I1, r1, q1⟩ => ?_) hs hs2))
 obtain ⟨i, j, e, ⟨q1, q2, q3, q4⟩, q⟩ := q1
 subst e
 cases r1 with
 | cons r rr =>
  cases rr with
  | cons r' rr =>
   cases rr with
   | cons r'' rr =>
    cases rr
    obtain ⟨t, rfl⟩ := r
    obtain ⟨t', rfl⟩ := r'
    obtain ⟨t'', rfl⟩ := r''
    exact call_range_3 (by lia) (zmc I1 q1 q2 q3 q4 q) (Or.inl (PyProof.noPylong_small (by lia)))
end
noncomputable def iR3N (ma : MA) : MA := fun ρ => (ma ρ).bind fun p => match p.1 with
 | [.int i, .int j, .int k] => if zb6 i && zb6 j && decide (k = -1) then some (ziT i (-1) (i - j).toNat, p.2) else none
 | _ => none
theorem zlr {X : Cx} {tg a b c : Expr} {ma : MA} {p pos : Pos} (hm : X.mg "range" = none) (ha : SA X [a, b, c] ma) (hg : Gl X "range" := by rfl) (hs : starEach [a, b, c] X.env = (false, eval a X.env) :: starEach [b, c] X.env := by rfl) (hs2 : (backTo pos (starEach [b, c] X.env)).any (·.1) = false := by rfl) : SIt X tg (.Call (.Name "range" p) [a, b, c] [] pos) (iR3N ma) := by
 obtain ⟨t, pa, sa⟩ := ha
 refine ⟨_, zlu hg hm pa hs hs2, fun B G H σ ρ ds ρ' Q I hm k => ?_⟩
 obtain ⟨⟨es, ρ1⟩, e1, h2⟩ := zah hm
 dsimp only at h2
 refine sa B G H σ ρ es ρ1 _ I e1 fun G1 H1 vs I1 f1 r1 => ?_
 split at h2
 ·rename_i i j l
  split at h2
  ·rename_i hj
   simp only [Bool.and_eq_true, decide_eq_true_eq] at hj
   cases h2
   obtain ⟨x, xs, rfl, rx, r2⟩ := r1
   obtain ⟨y, ys, rfl, ry, r3⟩ := r2
   obtain ⟨z, zs, rfl, rz, r4⟩ := r3
   cases (show x = V.int i from rx)
   cases (show y = V.int j from ry)
   cases (show z = V.int l from rz)
   cases (show zs = [] from r4)
   obtain rfl := hj.2
   have a1 := zjl hj.1.1
   have a2 := zjl hj.1.2
   exact ⟨i, j, rfl, ⟨a1.1, a1.2, a2.1, a2.2⟩, k _ G1 H1 I1 f1 (zlt i (-1) _)⟩
  ·cases h2
 ·cases h2
noncomputable def fzDT (j : Nat) (ρ : R) : R := match ρ[j]? with
 | some (.tre (.dit ks ds)) => ρ.set j (.val (.dit ks ds))
 | _ => ρ
noncomputable def sFzDT (j : Nat) (m : MS) : MS := fun ρ => m (fzDT j ρ)
theorem SI.fzDT {K : W.Frag} {B : Bs} {G H : Hp} {σ : St} {ρ : R} (I : SI K B G H σ ρ) (j : Nat) : ∃ G', SI K B G' H σ (fzDT j ρ) /\ Fz G G' := by
 unfold M.fzDT
 split
 ·rename_i ks ds e
  obtain ⟨p, G', h1, h2, h3, h4⟩ := I.know e
  exact ⟨G', h2, h3⟩
 ·exact ⟨G, I, Fz.refl G⟩
theorem ss_fzDT {X : Cx} {st : Stmt} {m : MS} (j : Nat) (h : SS X st m) : SS X st (sFzDT j m) := by
 obtain ⟨t, p, s⟩ := h
 refine ⟨t, p, fun B G H σ ρ fl ρ' E I hm k => ?_⟩
 obtain ⟨G', I', f⟩ := I.fzDT j
 exact s B G' H σ _ fl ρ' E I' hm (k.mono f)
noncomputable def eCallU (F : List D -> Option Sl) (ma : MA) : ME := fun ρ => (ma ρ).bind fun p => (F p.1).bind fun r => match r with
 | .tre (.tup cs) => some (.tup (cs.map Ch.D), p.2)
 | _ => none
noncomputable def fzU (j : Nat) (ρ : R) : R := match ρ[j]? with
 | some (.tre (.tup cs)) => ρ.set j (.val (.tup (cs.map Ch.D)))
 | _ => ρ
noncomputable def turnT (g : D -> R -> Option R) (mt : MT) (mo : MO) : D -> R -> Option (Option (List D) × R) := fun d ρ => (g d ρ).bind fun ρ1 => (mt ρ1).bind fun p => if p.1 then (mo p.2).bind fun q => if zdB q.2 then some (some q.1, q.2) else none else if zdB p.2 then some (none, p.2) else none
noncomputable def rowsOf : List Ch -> Option (List (List D))
 | [] => some []
 | .l ds :: cs => (rowsOf cs).map (ds :: ·)
 | _ => none
noncomputable def zmY (b c : Nat) (ρ : R) : Bool := match ρ[b]?, ρ[c]? with
 | some (.par _), some (.par _) => zdB ((ρ.set b .emp).set c .emp)
 | _, _ => false
noncomputable def turnQ (b c : Nat) (g : D -> R -> Option R) (mt : MT) (me : ME) : D -> R -> Option (Option D × R) := fun d ρ => (g d ρ).bind fun ρ1 => (mt ρ1).bind fun p => if p.1 then (me p.2).bind fun q => if zmY b c q.2 then some (some q.1, q.2) else none else if zmY b c p.2 then some (none, p.2) else none
end M
namespace M
open PySem PySem.W
open PyProof.Rows (bubble mirror bubble_size bubble_perm mirror_size mirror_perm getElem?_bubble getElem?_mirror_all)
noncomputable def kv (p : Array Nat) (k : Nat) : Nat := p.getD k 0
end M
namespace L2
open PyProof.Rows PySem PySem.Spec
noncomputable def gCut (i : Nat) (tl th : TE) : TG := fun v σ H Q => ∃ x, σ[i]? = some (some x) /\ tl σ H fun a H1 => th σ H1 fun c H2 => ∃ (l b : Addr) (xs ys : List V) (m n : Int), x = .ref l /\ v = .ref b /\ a = .int m /\ c = .int n /\ H2 l = some (.lst xs) /\ H2 b = some (.lst ys) /\ l ≠ b /\ 0 <= m /\ m <= n /\ n <= xs.length /\ xs.length + ys.length <= sizeLine /\ Q σ (upd H2 l (.lst (xs.take m.toNat ++ ys ++ xs.drop n.toNat)))
theorem pg_cut {X : Cx} {i : Nat} {x : Str} {lo hi : Expr} {tl th : TE} {p p2 pos : Pos} (hl : PE X lo tl) (hu : PE X hi th) (hN : X.N[i]? = some x) (hv : Vis X.env.scope x) (hd : (x == ("__debug__" : Str)) = false := by decide) (hcd : (x == ("__classdict__" : Str)) = false := by decide) : PG X (.Subscript (.Name x p) (.Slice (some lo) (some hi) none p2) pos) (gCut i tl th) := by
 intro pins s σ H v u Q I r h
 rw [arm_assign_Subscript]
 obtain ⟨y, hy, h⟩ := h
 refine wpAny_bind (wpAny_holding (thn (zea hN hv hd hcd pins s σ H (fun z H1 => z = y /\ H1 = H) I ⟨y, hy, rfl, rfl⟩) fun ov s1 ⟨z, H1, I1, r1, q1, q2⟩ => ?_))
 subst q1 q2
 refine wpAny_bind (wpAny_holding (wpAny_Slice (thn (hl pins s1 σ _ _ I1 h) fun vl s2 ⟨a, H2, I2, pl, q⟩ => ?_)))
 refine thn (hu pins s2 σ _ _ I2 q) fun vu s3 ⟨c, H3, I3, pu, l, b, xs, ys, m, n, f1, f2, f3, f4, f5, f6, f7, f8, f9, f10, f11, f12⟩ => ?_
 subst f1 f2 f3 f4
 cases r1
 cases r
 rw [evalPart_none]
 refine wpAny_pure (wpAny_bind (wpAny_standAt (wpAny_bind (wpAny_holding ?_))))
 have I4 : Inv X pins σ H3 { s3 with heap := s3.heap.push { cls := .type "slice", data := .fields #[vl, vu, .none] } } := I3.kept (t' := s3.toks) fun b ob q => Heap.get?_push_of_some _ q
 exact zmr I4 f5 f6 f7 (Heap.IsSliceOf.new ..) pl pu f8 f9 f10 f11 fun s' I' => wpAny_release ⟨σ, _, I', f12⟩
end L2
namespace M
open L2 PySem PySem.Spec
open PyProof.Rows hiding St
noncomputable def sCut (i : Nat) (me ml mh : ME) : MS := fun ρ => (me ρ).bind fun p => if (p.2[i]?.bind Sl.items).isSome then (ml p.2).bind fun q => (mh q.2).bind fun r => r.2[i]?.bind fun s => s.items.bind fun ds => match p.1, q.1, r.1 with
 | .lst es, .int m, .int n => if decide (0 <= m) && decide (m <= n) && decide (n <= ds.length) && decide (ds.length + es.length <= 16777216) then some (.next, r.2.set i (s.put (ds.take m.toNat ++ es ++ ds.drop n.toNat))) else none
 | _, _, _ => none else none
theorem ss_cut {X : Cx} {e a b : Expr} {me ml mh : ME} {pos : Pos} (i : Nat) {x : Str} {p p2 pos' : Pos} (he : SE X e me) (hl : SE X a ml) (hh : SE X b mh) (hN : X.N[i]? = some x := by rfl) (hv : Vis X.env.scope x := by first | exact Or.inl rfl | exact Or.inr (Or.inl rfl) | exact Or.inr (Or.inr rfl)) (hd : (x == ("__debug__" : Str)) = false := by decide) (hcd : (x == ("__classdict__" : Str)) = false := by decide)
  (hs : swapsWithSole [.Subscript (.Name x p) (.Slice (some a) (some b) none p2) pos'] e pos.line X.env = pure false := by rfl) (hw : swappedStores [.Subscript (.Name x p) (.Slice (some a) (some b) none p2) pos'] e X.env = pure none := by rfl)
  (h1 : (assignEach [.Subscript (.Name x p) (.Slice (some a) (some b) none p2) pos'] X.env).map (·.2) = [assign (.Subscript (.Name x p) (.Slice (some a) (some b) none p2) pos') X.env] := by rfl) :
  SS X (.Assign [.Subscript (.Name x p) (.Slice (some a) (some b) none p2) pos'] e pos) (sCut i me ml mh) := by
 obtain ⟨t, pe, se⟩ := he
 obtain ⟨t1, pl, sl⟩ := hl
 obtain ⟨t2, ph, sh⟩ := hh
 refine ⟨_, zm7 pe (pg_cut pl ph hN hv hd hcd) hs hw h1, fun B G H σ ρ fl ρ' E I hm k => ?_⟩
 obtain ⟨⟨d, ρ1⟩, e1, hm⟩ := zah hm
 dsimp only at hm
 split at hm
 ·rename_i hso
  obtain ⟨ds0, hso⟩ := Option.isSome_iff_exists.mp hso
  obtain ⟨s0, e0, q0⟩ := zah hso
  obtain ⟨⟨dm, ρ2⟩, e2, hm⟩ := zah hm
  obtain ⟨⟨dn, ρ3⟩, e3, hm⟩ := zah hm
  obtain ⟨s1, e4, hm⟩ := zah hm
  obtain ⟨ds, e5, hm⟩ := zah hm
  dsimp only at hm
  split at hm
  ·split at hm
   ·rename_i hc
    simp only [Bool.and_eq_true, decide_eq_true_eq] at hc
    cases hm
    refine se B G H σ ρ _ ρ1 _ I e1 fun G1 H1 v I1 f1 r1 => ?_
    obtain ⟨l, xs0, k1, k2, k3, k4⟩ := I1.wr e0 q0
    refine ⟨.ref l, k1, sl B G1 H1 σ ρ1 _ ρ2 _ I1 e2 fun G2 H2 v2 I2 f2 r2 => sh B G2 H2 σ ρ2 _ ρ3 _ I2 e3 fun G3 H3 v3 I3 f3 r3 => ?_⟩
    obtain ⟨l', xs, j1, j2, j3, j4⟩ := I3.wr e4 e5
    rw [k1] at j1; cases j1
    obtain ⟨b', zs, rfl, hb, rb⟩ := RepD.mono (f2.trans f3) r1
    refine ⟨l, b', xs, zs, _, _, rfl, rfl, r2, r3, j3, I3.fz _ _ hb, fun z => ?_, hc.1.1.1, hc.1.1.2, by rw [j4.length]; exact hc.1.2, by rw [j4.length, rb.length, sizeLine_eq]; exact hc.2, ?_⟩
    ·subst z; rw [j2] at hb; cases hb
    ·exact k G3 _ σ (I3.write e4 e5 k1 (((j4.take _).append rb).append (j4.drop _))) (f1.trans (f2.trans f3))
   ·cases hm
  ·cases hm
 ·cases hm
noncomputable def Itw (K : W.Frag) (a : Addr) (n : Nat) : It :=
 ⟨fun i H => ∃ xs x, SqL K H a xs /\ xs.length = n /\ xs.reverse[i]? = some x, fun i H x H' => H' = H /\ ∀ xs, SqL K H a xs -> xs.reverse[i]? = some x, fun i H => n <= i /\ ∃ xs, SqL K H a xs /\ xs.length = n⟩
theorem turn_rw {P : Program} {w : World} {K : W.Frag} {tg : Expr} (a it : Addr) (n : Nat) : Turn P w K tg (Itw K a n) [it] it (fun i h => i <= n /\ h.IsRevIter it a ((n : Int) - 1 - (i : Int))) where
 mem := by simp
 obj := fun i h st b hb => by
  have e : b = it := by simpa using hb
  subst e
  obtain ⟨_, o, e, c, d⟩ := st
  exact ⟨o, e, fun v z => by rw [d] at z; cases z⟩
 keep := fun i h h' st k => ⟨st.1, st.2.at fun o e => k it (by simp) o e⟩
 item := by
  intro X hP hw hK hc i pins s σ H E I hf st hg
  subst hP hw hK
  obtain ⟨xs, x, hq, hn, hx⟩ := hg
  obtain ⟨its, rv, p, hz⟩ := I.list hq
  obtain ⟨u, hu, ru⟩ := rv.reverse.get hx
  have hl := rv.length
  have hi : i < n := by
   have := (List.getElem?_eq_some_iff.mp hx).1
   rw [List.length_reverse] at this; lia
  obtain ⟨f0, f1, f2, f3, f4, f5⟩ := hf it (by simp)
  have e1 : (n : Int) - 1 - (i : Int) = ((n - 1 - i : Nat) : Int) := by lia
  have hit := st.2
  rw [e1] at hit
  rw [List.getElem?_reverse (by lia)] at hu
  refine wpAny_pyNext_rev_item hit p.isList (x := u) (by rw [List.getElem?_toArray, <- hu]; congr 1; lia) fun h' st' sb => ?_
  have I1 : Inv X pins σ H { s with heap := h', toks := s.toks } := I.turned (t' := s.toks) (fun b o hb e => (sb.2 b hb).trans e) f0 f1 f3 f4 f5
  have e2 : ((n - 1 - i : Nat) : Int) - 1 = (n : Int) - 1 - ((i + 1 : Nat) : Int) := by lia
  rw [e2] at st'
  obtain ⟨o, e, c, d⟩ := id st'
  exact ⟨u, rfl, zmd (s := { s with heap := h', toks := s.toks }) e c d (by decide) ⟨x, H, I1, ru, ⟨rfl, fun ys hy => by rw [I.list_inj hy hq]; exact hx⟩, ⟨hi, st'⟩, fun b hb => (hf b hb).1⟩⟩
 done := by
  intro X hP hw hK hc i pins s σ H E I hf st hg
  subst hP hw hK
  obtain ⟨hn, xs, hq, hx⟩ := hg
  obtain ⟨f0, f1, f2, f3, f4, f5⟩ := hf it (by simp)
  have hit := st.2
  rw [show (n : Int) - 1 - (i : Int) = -1 by have := st.1; lia] at hit
  exact wpAny_pyNext_rev_end (I.ok.hd hc) hit fun h' eb => ⟨rfl, I.turned (t' := s.toks) (fun b o hb e => eb b o hb e) f0 f1 f3 f4 f5⟩
 self := fun _ _ _ _ _ st h => wpAny_pyIter_revIter st.2 h
theorem itm_rw {K : W.Frag} {G : Hp} {a : Addr} {xs : List V} {ds : List D} (hg : G a = some (.lst xs)) (r : RepL K G xs ds) : Itm K (Itw K a xs.length) G ds.reverse where
 go := fun H i f hi => by
  have hl := r.length
  rw [List.length_reverse] at hi
  exact ⟨xs, xs.reverse[i]'(by simp; lia), SqL.of (f _ _ hg), rfl, List.getElem?_eq_getElem _⟩
 yld := fun H i x H' f y d e => by
  obtain ⟨rfl, y⟩ := y
  have hx := y xs (SqL.of (f _ _ hg))
  obtain ⟨x', h1, h2⟩ := r.reverse.get e
  rw [hx] at h1; cases h1
  exact .inl ⟨rfl, h2⟩
 stop := fun H i f hi => ⟨by rw [r.length]; rw [List.length_reverse] at hi; exact hi, xs, SqL.of (f _ _ hg), rfl⟩
noncomputable def iRw (me : ME) : MA := fun ρ => (me ρ).bind fun p => match p.1 with
 | .lst ds => some (ds.reverse, p.2)
 | _ => none
section
variable {X : Cx} {tg e : Expr} {me : ME} {q pos' : Pos}
theorem it_rw (mr : X.mg "reversed" = none) (he : SE X e me) (hgr : Gl X "reversed" := by rfl) (h1 : starEach [e] X.env = (false, eval e X.env) :: starEach [] X.env := by rfl) (h2 : (backTo pos' (starEach [] X.env)).any (·.1) = false := by rfl) :
  SIt X tg (.Call (.Name "reversed" q) [e] [] pos') (iRw me) := by
 obtain ⟨te, pe, se⟩ := he
 have pi : PI X tg (.Call (.Name "reversed" q) [e] [] pos') (fun σ H R => te σ H fun x H1 => ∃ a xs, [x] = [V.ref a] /\ SqL X.K H1 a xs /\ R (Itw X.K a xs.length) H1) := by
  intro pins s σ H R I h
  refine wpAny_Call_Name_kw (zgF I hgr mr (show bootBuiltins "reversed" = some (.type "reversed") by decide +kernel) ?_ (by decide) (by decide))
  refine PyProof.Rows.callWith_type1 (thn ((zem pe zjh h1) pos' pins s σ H (fun vs H1 => ∃ a xs, vs = [.ref a] /\ SqL X.K H1 a xs /\ R (Itw X.K a xs.length) H1) I ?_) fun us s1 ⟨vs, H1, I1, r1, q1⟩ => ?_) h1 h2
  ·exact h
  ·obtain ⟨a, xs, rfl, hq, qq⟩ := q1
   obtain ⟨u, rfl, ru⟩ := zg0 r1
   cases ru
   obtain ⟨its, r, ht, hz⟩ := I1.list hq
   refine call_reversed_list (items := its.toArray) ht.isList ?_
   have hrv : (s1.heap.push (revObj a ((its.toArray.size : Int) - 1))).IsRevIter s1.heap.objs.size a ((xs.length : Int) - 1 - ((0 : Nat) : Int)) := ⟨_, Heap.get?_push_size _ rfl, rfl, by rw [show (xs.length : Int) - 1 - ((0 : Nat) : Int) = (its.toArray.size : Int) - 1 by rw [List.size_toArray, <- r.length]; lia]; rfl⟩
   refine wpAny_pyIter_revIter (s := { s1 with heap := s1.heap.push (revObj a ((its.toArray.size : Int) - 1)) }) hrv ?_
   refine ⟨s1.heap.objs.size, [s1.heap.objs.size], _, _, H1, rfl, I1.kept (t' := s1.toks) fun b o e => Heap.get?_push_of_some _ e, turn_rw a _ xs.length, ⟨Nat.zero_le _, hrv⟩, fun b hb => ?_, qq⟩
   have e : b = s1.heap.objs.size := by simpa using hb
   subst e
   exact I1.fpOk (Nat.le_refl _) (I1.hok.fresh (Nat.le_refl _))
 refine ⟨_, pi, fun B G H σ ρ ds ρ' Q I hm k => ?_⟩
 obtain ⟨⟨d, ρ1⟩, e1, hm⟩ := zah hm
 dsimp only at hm
 refine se B G H σ ρ d ρ1 _ I e1 fun G1 H1 v I1 f1 r1 => ?_
 split at hm
 ·cases hm
  obtain ⟨a, xs, rfl, ha, r⟩ := r1
  exact ⟨a, xs, rfl, SqL.of (I1.fz _ _ ha), k _ G1 H1 I1 f1 (itm_rw ha r)⟩
 ·cases hm
end
end M
namespace L2
open PyProof.Rows PySem PySem.Spec
theorem pe_orW {X : Cx} {a b : Expr} {ta tb : TE} {pos : Pos} {rest : List Expr} (ha : PE X a ta) (hb : PE X (.BoolOp .Or (b :: rest) pos) tb) :
  PE X (.BoolOp .Or (a :: b :: rest) pos) (fun σ H Q => ta σ H fun x H1 => ∃ k, TruV X.K x H1 k /\ if k = true then Q x H1 else tb σ H1 Q) := by
 intro pins s σ H Q I h
 refine BoolOp_or (thn (ha pins s σ H _ I h) fun v s1 ⟨x, H1, I1, r1, k, e, q1⟩ => ?_)
 refine thn (tru_ok pins s1 σ H1 x v (fun c H2 => c = k /\ H2 = H1) I1 r1 ⟨k, e, rfl, rfl⟩) fun c s2 ⟨H2, I2, e1, e2⟩ => ?_
 subst e1 e2
 cases c with
 | false => exact hb pins s2 σ _ Q I2 q1
 | true => exact ⟨x, _, I2, r1, q1⟩
end L2
namespace M
open L2 PySem PySem.Spec
open PyProof.Rows hiding St
noncomputable def eOrW (a b : ME) : ME := fun ρ => (a ρ).bind fun p => (dTru p.1).bind fun t => if t then some p else b p.2
theorem se_orW {X : Cx} {a b : Expr} {ma mb : ME} {pos : Pos} {rest : List Expr} (ha : SE X a ma) (hb : SE X (.BoolOp .Or (b :: rest) pos) mb) : SE X (.BoolOp .Or (a :: b :: rest) pos) (eOrW ma mb) := by
 obtain ⟨ta, pa, sa⟩ := ha
 obtain ⟨tb, pb, sb⟩ := hb
 refine ⟨_, pe_orW pa pb, fun B G H σ ρ d ρ' Q I hm k => ?_⟩
 obtain ⟨⟨x, ρ1⟩, e1, hm⟩ := zah hm
 obtain ⟨t, e3, hm⟩ := zah hm
 refine sa B G H σ ρ x ρ1 _ I e1 fun G1 H1 v I1 f1 r1 => ⟨t, ?_, ?_⟩
 ·cases x <;> simp only [dTru] at e3 <;> try cases e3
  ·cases r1; exact rfl
  ·cases r1; exact rfl
  ·cases r1; exact rfl
  ·obtain ⟨p, xs, rfl, hp, r⟩ := I1.lst r1
   exact .inl ⟨xs, SqL.of hp, (ziL r).symm⟩
  ·obtain ⟨p, xs, rfl, hp, r⟩ := I1.tup r1
   exact .inr (.inl ⟨xs, SqT.of hp, (ziL r).symm⟩)
 ·cases t with
  | true => cases hm; exact k G1 H1 v I1 f1 r1
  | false => exact sb B G1 H1 σ ρ1 d ρ' Q I1 hm fun G2 H2 v I2 f2 r2 => k G2 H2 v I2 (f1.trans f2) r2
end M
namespace M
open L2 PySem
variable {c : Prop} {z : Bool} {Q : Fl × R -> Prop} {me m : ME} {b : MS} {f : D -> R -> Option (Option D × R)} {g : D -> R -> Option R} {mt : MT} {d : D} {ρ : R} {r : Sl} {i n j t N k : Nat} {h : List D -> R -> Option R} {ds : List D} {mi ma : MA} {F : List D -> List D -> Option (Sl × List D)} {cap : List Nat} {I : R -> Prop} {ns : List Int}
structure Lock {α : Type} (Q : α -> Prop) : Type where
noncomputable def Ok {α : Type} (o : Option α) (Q : α -> Prop) (l : Lock Q := ⟨⟩) : Prop := ∃ a, o = some a /\ Q a
section
variable {α β : Type} {o : Option α} {Q Q' : α -> Prop}
theorem ok_some {a : α} : Ok (some a) Q ↔ Q a := ⟨fun ⟨_, e, q⟩ => by cases e; exact q, fun q => ⟨a, rfl, q⟩⟩
theorem ok_none : Ok (none : Option α) Q ↔ False := ⟨fun ⟨_, e, _⟩ => (by cases e), False.elim⟩
theorem ok_bind {f : α -> Option β} {Q : β -> Prop} : Ok (o.bind f) Q ↔ Ok o fun a => Ok (f a) Q := by
 cases o with
 | none => exact ⟨fun ⟨_, e, _⟩ => (by cases e), fun ⟨_, e, _⟩ => (by cases e)⟩
 | some a => exact ⟨fun h => ⟨a, rfl, h⟩, fun ⟨_, e, h⟩ => by cases e; exact h⟩
theorem ok_map {f : α -> β} {Q : β -> Prop} : Ok (o.map f) Q ↔ Ok o fun a => Q (f a) := by
 cases o with
 | none => exact ⟨fun ⟨_, e, _⟩ => (by cases e), fun ⟨_, e, _⟩ => (by cases e)⟩
 | some a => exact ⟨fun h => ⟨a, rfl, ok_some.mp h⟩, fun ⟨_, e, h⟩ => by cases e; exact ok_some.mpr h⟩
theorem zes [Decidable c] : Ok (if c then o else none) Q ↔ c /\ Ok o Q := by
 by_cases h : c
 ·rw [if_pos h]; exact ⟨fun k => ⟨h, k⟩, fun k => k.2⟩
 ·rw [if_neg h]; exact ⟨fun k => (ok_none.mp k).elim, fun k => absurd k.1 h⟩
theorem Ok.mono (h : Ok o Q) (k : ∀ a, Q a -> Q' a) : Ok o Q' := by obtain ⟨a, e, q⟩ := h; exact ⟨a, e, k a q⟩
theorem zaV {Q' : α -> Prop} (h : ∀ a, Q a ↔ Q' a) : Ok o Q ↔ Ok o Q' := ⟨fun ⟨a, e, q⟩ => ⟨a, e, (h a).mp q⟩, fun ⟨a, e, q⟩ => ⟨a, e, (h a).mpr q⟩⟩
end
section
variable {c : MT} {a b : MS} {ρ : R}
theorem zjf {α : Type} {o u : Option α} {Q : α -> Prop} : Ok (if z then o else u) Q ↔ (z = true -> Ok o Q) /\ (z = false -> Ok u Q) := by cases z <;> simp
theorem ok_sIf : Ok (sIf c a b ρ) Q ↔ Ok (c ρ) fun p => (p.1 = true -> Ok (a p.2) Q) /\ (p.1 = false -> Ok (b p.2) Q) := by
 unfold sIf; rw [ok_bind]; exact zaV fun p => zjf
theorem ok_eIf {a b : ME} {Q : D × R -> Prop} : Ok (eIf c a b ρ) Q ↔ Ok (c ρ) fun p => (p.1 = true -> Ok (a p.2) Q) /\ (p.1 = false -> Ok (b p.2) Q) := by
 unfold eIf; rw [ok_bind]; exact zaV fun p => zjf
theorem ok_tAnd {a b : MT} {Q : Bool × R -> Prop} : Ok (zl0 a b ρ) Q ↔ Ok (a ρ) fun p => (p.1 = true -> Ok (b p.2) Q) /\ (p.1 = false -> Q (false, p.2)) := by
 unfold zl0; rw [ok_bind]; exact zaV fun p => by rw [zjf, ok_some]
theorem ok_tOr {a b : MT} {Q : Bool × R -> Prop} : Ok (tOrM a b ρ) Q ↔ Ok (a ρ) fun p => (p.1 = true -> Q (true, p.2)) /\ (p.1 = false -> Ok (b p.2) Q) := by
 unfold tOrM; rw [ok_bind]; exact zaV fun p => by rw [zjf, ok_some]
theorem ok_eAnd {a b : ME} {Q : D × R -> Prop} : Ok (eAnd a b ρ) Q ↔ Ok (a ρ) fun p => ∃ z, p.1 = .bl z /\ (z = true -> Ok (b p.2) Q) /\ (z = false -> Q (.bl false, p.2)) := by
 unfold eAnd; rw [ok_bind]
 have : ∀ p : D × R, Ok (match p.1 with
  | .bl true => b p.2
  | .bl false => some (.bl false, p.2)
  | _ => none) Q ↔ ∃ z, p.1 = .bl z /\ (z = true -> Ok (b p.2) Q) /\ (z = false -> Q (.bl false, p.2)) := by
  rintro ⟨d, ρ⟩
  cases d with
  | bl z => cases z <;> simp [ok_some]
  | _ => simp [ok_none]
 exact zaV this
theorem ok_eOr {a b : ME} {Q : D × R -> Prop} : Ok (eOr a b ρ) Q ↔ Ok (a ρ) fun p => ∃ z, p.1 = .bl z /\ (z = true -> Q (.bl true, p.2)) /\ (z = false -> Ok (b p.2) Q) := by
 unfold eOr; rw [ok_bind]
 have : ∀ p : D × R, Ok (match p.1 with
  | .bl true => some (.bl true, p.2)
  | .bl false => b p.2
  | _ => none) Q ↔ ∃ z, p.1 = .bl z /\ (z = true -> Q (.bl true, p.2)) /\ (z = false -> Ok (b p.2) Q) := by
  rintro ⟨d, ρ⟩
  cases d with
  | bl z => cases z <;> simp [ok_some]
  | _ => simp [ok_none]
 exact zaV this
theorem ok_chain {f g : D -> D -> Option D} {a b c : ME} {Q : D × R -> Prop} : Ok (zgL f g a b c ρ) Q ↔ Ok (a ρ) fun p => Ok (b p.2) fun q => Ok (f p.1 q.1) fun t => ∃ z, t = .bl z /\ (z = true -> Ok (c q.2) fun r => Ok (g q.1 r.1) fun d => Q (d, r.2)) /\ (z = false -> Q (.bl false, q.2)) := by
 unfold zgL; rw [ok_bind]
 have : ∀ (p q : D × R) (t : D), Ok (match t with
  | .bl true => (c q.2).bind fun r => (g q.1 r.1).map fun d => (d, r.2)
  | .bl false => some (.bl false, q.2)
  | _ => none) Q ↔ ∃ z, t = .bl z /\ (z = true -> Ok (c q.2) fun r => Ok (g q.1 r.1) fun d => Q (d, r.2)) /\ (z = false -> Q (.bl false, q.2)) := by
  intro p q t
  cases t with
  | bl z =>
   cases z
   ·simp [ok_some]
   ·simp only [ok_bind, D.bl.injEq, exists_eq_left', forall_const, reduceCtorEq, false_implies, and_true]
    exact zaV fun r => ok_map
  | _ => simp [ok_none]
 exact zaV fun p => by rw [ok_bind]; exact zaV fun q => by rw [ok_bind]; exact zaV fun t => this p q t
theorem ok_turnM {Q : Option D × R -> Prop} : Ok (zhb g mt me d ρ) Q ↔ Ok (g d ρ) fun ρ1 => Ok (mt ρ1) fun p => (p.1 = true -> Ok (me p.2) fun q => zdB q.2 = true /\ Q (some q.1, q.2)) /\ (p.1 = false -> zdB p.2 = true /\ Q (none, p.2)) := by
 unfold zhb; rw [ok_bind]; exact zaV fun ρ1 => by rw [ok_bind]; exact zaV fun p => by rw [zjf, ok_bind, zes, ok_some]; exact and_congr (imp_congr Iff.rfl (zaV fun q => by rw [zes, ok_some])) Iff.rfl
theorem ok_turnP {bk : Nat} {Q : Option D × R -> Prop} : Ok (zle bk g mt me d ρ) Q ↔ Ok (g d ρ) fun ρ1 => Ok (mt ρ1) fun p => (p.1 = true -> Ok (me p.2) fun q => zkf bk q.2 = true /\ Q (some q.1, q.2)) /\ (p.1 = false -> zkf bk p.2 = true /\ Q (none, p.2)) := by
 unfold zle; rw [ok_bind]; exact zaV fun ρ1 => by rw [ok_bind]; exact zaV fun p => by rw [zjf, ok_bind, zes, ok_some]; exact and_congr (imp_congr Iff.rfl (zaV fun q => by rw [zes, ok_some])) Iff.rfl
theorem zll (n : Nat) : Int.natAbs (no_index (OfNat.ofNat n)) = n := rfl
end
section
theorem ok_sNext : Ok (zbg ρ) Q ↔ Q (.next, ρ) := ok_some
noncomputable def SeqK (b : MS) (Q : Fl × R -> Prop) (p : Fl × R) : Prop := Ok (match p.1 with
 | .next => b p.2
 | f => some (f, p.2)) Q
theorem zhg : SeqK b Q (.next, ρ) ↔ Ok (b ρ) Q := Iff.rfl
theorem seqK_ret : SeqK b Q (.ret r, ρ) ↔ Q (.ret r, ρ) := ok_some
theorem seqK_brk : SeqK b Q (.brk, ρ) ↔ Q (.brk, ρ) := ok_some
theorem zma : SeqK b Q (.cont, ρ) ↔ Q (.cont, ρ) := ok_some
theorem zkg {a b : MS} : Ok (sSeq a b ρ) Q ↔ Ok (a ρ) (SeqK b Q) := ok_bind
theorem ok_sRet : Ok (sRet m ρ) Q ↔ Ok (m ρ) fun p => Q (.ret (.val p.1), p.2) := ok_map
theorem ok_sRetO {m : MO} : Ok (zj7 m ρ) Q ↔ Ok (m ρ) fun p => Q (.ret (.own p.1), p.2) := ok_map
theorem ok_sRetV : Ok (zix i ρ) Q = Ok (match ρ[i]? with
 | some (.val d) => some (.ret (.val d), ρ)
 | some (.own ds) => some (.ret (.own ds), ρ.set i .emp)
 | _ => none) Q := rfl
theorem ok_gN {Q : R -> Prop} : Ok (gN i d ρ) Q ↔ Q (ρ.set i (.val d)) := ok_some
theorem ok_gsNil  {ds : List D} {ρ : R} {Q : R -> Prop} : Ok (zcs ds ρ) Q = Ok (match ds with
 | [] => some ρ
 | _ => none) Q := rfl
theorem zlJ {Q : R -> Prop} : Ok (zas g h ds ρ) Q = Ok (match ds with
 | d :: ds => (g d ρ).bind fun ρ1 => h ds ρ1
 | [] => none) Q := rfl
theorem ok_gT {g : List D -> R -> Option R} {Q : R -> Prop} : Ok (gT n g d ρ) Q = Ok (match d with
 | .tup ds => if ds.length = n then g ds ρ else none
 | _ => none) Q := rfl
theorem ok_sAsg : Ok (sAsg m g ρ) Q ↔ Ok (m ρ) fun p => Ok (g p.1 p.2) fun ρ' => Q (.next, ρ') := ok_bind.trans (zaV fun _ => ok_map)
theorem zlA : Ok (sSet i m ρ) Q ↔ Ok (m ρ) fun p => Q (.next, p.2.set i (.val p.1)) := ok_map
theorem ok_sSetO {m : MO} : Ok (zeY i m ρ) Q ↔ Ok (m ρ) fun p => Q (.next, p.2.set i (.own p.1)) := ok_map
theorem ok_sApp : Ok (sApp i m ρ) Q = Ok (if (ρ[i]?.bind Sl.items).isSome then (m ρ).bind fun p => p.2[i]?.bind fun s => s.items.bind fun ds => if ds.length < 16777216 then some (.next, p.2.set i (s.put (ds ++ [p.1]))) else none else none) Q := rfl
theorem ok_sPut {mi me : ME} : Ok (sPut j mi me ρ) Q = Ok ((me ρ).bind fun p => if hasV p.2 j then (mi p.2).bind fun q => match q.1 with
 | .int k => q.2[j]?.bind fun s => s.items.bind fun ds => (ixN ds.length k).bind fun n => some (.next, q.2.set j (s.put (ds.set n p.1)))
 | _ => none else none) Q := rfl
theorem ok_eC {Q : D × R -> Prop} : Ok (eC d ρ) Q ↔ Q (d, ρ) := ok_some
theorem ok_eVar {Q : D × R -> Prop} : Ok (eVar i ρ) Q = Ok (match ρ[i]? with
 | some (.val d) => some (d, ρ)
 | some (.own ds) => some (.lst ds, ρ.set i (.val (.lst ds)))
 | _ => none) Q := rfl
theorem ok_aNil {Q : List D × R -> Prop} : Ok (aNil ρ) Q ↔ Q ([], ρ) := ok_some
theorem ok_aCons {r : MA} {Q : List D × R -> Prop} : Ok (zad m r ρ) Q ↔ Ok (m ρ) fun p => Ok (r p.2) fun q => Q (p.1 :: q.1, q.2) := ok_bind.trans (zaV fun _ => ok_map)
theorem ok_m2 {f : D -> D -> Option D} {ma mb : ME} {Q : D × R -> Prop} : Ok (m2 f ma mb ρ) Q ↔ Ok (ma ρ) fun p => Ok (mb p.2) fun q => Ok (f p.1 q.1) fun d => Q (d, q.2) := ok_bind.trans (zaV fun _ => ok_bind.trans (zaV fun _ => ok_map))
theorem ok_m1 {f : D -> Option D} {ma : ME} {Q : D × R -> Prop} : Ok (m1 f ma ρ) Q ↔ Ok (ma ρ) fun p => Ok (f p.1) fun d => Q (d, p.2) := ok_bind.trans (zaV fun _ => ok_map)
theorem ok_mC {f : List D -> Option D} {Q : D × R -> Prop} : Ok (mC f ma ρ) Q ↔ Ok (ma ρ) fun p => Ok (f p.1) fun d => Q (d, p.2) := ok_bind.trans (zaV fun _ => ok_map)
theorem ok_eIxV {mi : ME} {Q : D × R -> Prop} : Ok (eIxV j mi ρ) Q = Ok (if hasV ρ j then (mi ρ).bind fun p => (p.2[j]?.bind Sl.read).bind fun d => (dIx d p.1).map fun e => (e, p.2) else none) Q := rfl
theorem ok_eLenV {Q : D × R -> Prop} : Ok (zbY j ρ) Q = Ok ((ρ[j]?.bind Sl.read).bind fun d => (dLen [d]).map fun e => (e, ρ)) Q := rfl
theorem ok_oC {f : List D -> Option (List D)} {Q : List D × R -> Prop} : Ok (oC f ma ρ) Q ↔ Ok (ma ρ) fun p => Ok (f p.1) fun d => Q (d, p.2) := ok_bind.trans (zaV fun _ => ok_map)
theorem ok_eTup {Q : D × R -> Prop} : Ok (eTup ma ρ) Q ↔ Ok (ma ρ) fun p => p.1.length <= 16777216 /\ Q (.tup p.1, p.2) := ok_bind.trans (zaV fun _ => by rw [zes, ok_some])
theorem ok_oLst {Q : List D × R -> Prop} : Ok (oLst ma ρ) Q ↔ Ok (ma ρ) fun p => p.1.length <= 16777216 /\ Q (p.1, p.2) := ok_bind.trans (zaV fun _ => by rw [zes, ok_some])
theorem ok_tTru {ma : ME} {Q : Bool × R -> Prop} : Ok (tTru ma ρ) Q ↔ Ok (ma ρ) fun p => Ok (dTru p.1) fun b => Q (b, p.2) := ok_bind.trans (zaV fun _ => ok_map)
theorem ok_tNotM {a : MT} {Q : Bool × R -> Prop} : Ok (zkl a ρ) Q ↔ Ok (a ρ) fun p => Q (!p.1, p.2) := ok_map
theorem ok_eCall {F : List D -> Option Sl} {Q : D × R -> Prop} : Ok (zba F ma ρ) Q = Ok ((ma ρ).bind fun p => (F p.1).bind fun r => match r with
 | .val d => some (d, p.2)
 | .own ds => some (.lst ds, p.2)
 | _ => none) Q := rfl
theorem ok_oCall {F : List D -> Option Sl} {Q : List D × R -> Prop} : Ok (oCall F ma ρ) Q = Ok ((ma ρ).bind fun p => (F p.1).bind fun r => match r with
 | .own ds => some (ds, p.2)
 | _ => none) Q := rfl
theorem zl1 {Q : D × R -> Prop} : Ok (zau F j ma ρ) Q = Ok (if (ρ[j]?.bind Sl.items).isSome then (ma ρ).bind fun p => p.2[j]?.bind fun s => s.items.bind fun cs => (F cs p.1).bind fun r => match r.1 with
 | .val d => some (d, p.2.set j (s.put r.2))
 | .own ds => some (.lst ds, p.2.set j (s.put r.2))
 | _ => none else none) Q := rfl
theorem zmn {Q : List D × R -> Prop} : Ok (zkN F j ma ρ) Q = Ok (if (ρ[j]?.bind Sl.items).isSome then (ma ρ).bind fun p => p.2[j]?.bind fun s => s.items.bind fun cs => (F cs p.1).bind fun r => match r.1 with
 | .own ds => some (ds, p.2.set j (s.put r.2))
 | _ => none else none) Q := rfl
theorem ok_iR2L {Q : List D × R -> Prop} : Ok (iR2L ma ρ) Q = Ok ((ma ρ).bind fun p => match p.1 with
 | [.int i, .int j] => some (zfv i (j - i).toNat, p.2)
 | _ => none) Q := rfl
theorem ok_eFz {m : MO} {Q : D × R -> Prop} : Ok (eFz m ρ) Q ↔ Ok (m ρ) fun p => Q (.lst p.1, p.2) := ok_map
theorem ok_eCut {ma : ME} {ml mh : MP} {Q : D × R -> Prop} : Ok (eCut ma ml mh ρ) Q = Ok ((ma ρ).bind fun p => (ml p.2).bind fun q => (mh q.2).bind fun r => (dCut p.1 q.1 r.1).map fun d => (d, r.2)) Q := rfl
theorem ok_pNo {Q : Option Int × R -> Prop} : Ok (pNo ρ) Q ↔ Q (none, ρ) := ok_some
theorem ok_pSome {Q : Option Int × R -> Prop} : Ok (zbt m ρ) Q = Ok ((m ρ).bind fun p => match p.1 with
 | .int i => some (some i, p.2)
 | _ => none) Q := rfl
theorem ok_iSeq {Q : List D × R -> Prop} : Ok (iSeq m ρ) Q ↔ Ok (m ρ) fun p => Ok (zaN [p.1]) fun ds => Q (ds, p.2) := ok_bind.trans (zaV fun _ => ok_map)
theorem ok_iR1 {Q : List D × R -> Prop} : Ok (iR1 ma ρ) Q = Ok ((ma ρ).bind fun p => match p.1 with
 | [.int j] => if zb6 j then some (zfv 0 j.toNat, p.2) else none
 | _ => none) Q := rfl
theorem ok_sFor {mb : MS} : Ok (sFor mi g mb ρ) Q ↔ Ok (mi ρ) fun p => Ok (forM (fun d ρ => (g d ρ).bind fun ρ' => mb ρ') p.1 p.2) Q := ok_bind
theorem ok_oLC {Q : List D × R -> Prop} : Ok (oLC cap t mi g mt me ρ) Q = Ok ((mi ρ).bind fun p => if p.1.length <= 16777216 then (zcV (zhb g mt me) p.1 (capR cap t (fzL cap p.2))).map fun q => (q.1, fzL cap p.2) else none) Q := rfl
theorem ok_tTrue {Q : Bool × R -> Prop} : Ok (zbh ρ) Q ↔ Q (true, ρ) := ok_some
theorem ok_eIsI {T : String} {ma : ME} {Q : D × R -> Prop} : Ok (eIsI T ma ρ) Q = Ok ((ma ρ).bind fun p => if okT T && eIsI.noS1 p.1 then some (.bl (isI T p.1), p.2) else none) Q := rfl
theorem ok_oRep {ma mb : ME} {Q : List D × R -> Prop} : Ok (oRep ma mb ρ) Q = Ok ((ma ρ).bind fun p => (mb p.2).bind fun q => match p.1, q.1 with
 | .lst xs, .int k => if zb6 k && decide (xs.length * k.toNat <= 16777216) then some ((List.replicate k.toNat xs).flatten, q.2) else none
 | _, _ => none) Q := rfl
theorem ok_iZ2 {Q : List D × R -> Prop} : Ok (iZ2 ma ρ) Q = Ok ((ma ρ).bind fun p => match p.1 with
 | [a, b] => (zaN [a]).bind fun xs => (zaN [b]).bind fun ys => some (zjP xs ys, p.2)
 | _ => none) Q := rfl
theorem ok_iZ3 {Q : List D × R -> Prop} : Ok (iZ3 ma ρ) Q = Ok ((ma ρ).bind fun p => match p.1 with
 | [a, b, c] => (zaN [a]).bind fun xs => (zaN [b]).bind fun ys => (zaN [c]).bind fun zs => some (zkk xs ys zs, p.2)
 | _ => none) Q := rfl
theorem ok_oLCM {t b w : Nat} {Q : List D × R -> Prop} : Ok (oLCM cap t b w mi g mt me ρ) Q = Ok ((mi ρ).bind fun p => if p.1.length <= 16777216 then
    ((fzL (cap.filter (· != w)) p.2)[w]?).bind fun s => s.items.bind fun cs => (zcV (zle b g mt me) p.1 ((capR cap t (fzL (cap.filter (· != w)) p.2)).set b (.par cs))).map fun q => (q.1, (fzL (cap.filter (· != w)) p.2).set w (s.put (zmF b q.2)))
  else none) Q := rfl
theorem ok_fP {m : MS} {Q : Sl -> Prop} : Ok (fP N m ds) Q = Ok ((m (ds.map .val ++ List.replicate (N - ds.length) .emp)).bind fun p => match p.1 with
 | .ret r => some r
 | .next => some (.val .non)
 | _ => none) Q := rfl
theorem ok_fM {m : MS} {cs : List D} {Q : Sl × List D -> Prop} : Ok (fM N m cs ds) Q = Ok ((m (.par cs :: (ds.map .val ++ List.replicate (N - (ds.length + 1)) .emp))).bind fun p => match p.1, (p.2[0]? : Option Sl) with
 | Fl.ret r, some (Sl.par out) => some (r, out)
 | Fl.next, some (Sl.par out) => some (.val .non, out)
 | _, _ => none) Q := rfl
end
noncomputable def Turn (I : R -> Prop) (Q : Fl × R -> Prop) (p : Fl × R) : Prop := match p.1 with
 | .next => I p.2
 | .cont => I p.2
 | .brk => Q (.next, p.2)
 | .ret r => Q (.ret r, p.2)
theorem zlW : Turn I Q (.next, ρ) ↔ I ρ := Iff.rfl
theorem zmH : Turn I Q (.cont, ρ) ↔ I ρ := Iff.rfl
theorem turn_brk : Turn I Q (.brk, ρ) ↔ Q (.next, ρ) := Iff.rfl
theorem turn_ret : Turn I Q (.ret r, ρ) ↔ Q (.ret r, ρ) := Iff.rfl
theorem zmz {α : Type} {f : D -> R -> Option (Fl × R)} (enc : α -> D) (I : Nat -> R -> Prop) : ∀ (l : List α) (b : Nat) (ρ : R), I b ρ ->
  (∀ i a ρ, l[i]? = some a -> I (b + i) ρ -> Ok (f (enc a) ρ) (Turn (I (b + i + 1)) Q)) -> (∀ ρ, I (b + l.length) ρ -> Q (.next, ρ)) -> Ok (forM f (l.map enc) ρ) Q
 | [], b, ρ, h0, _, hq => ok_some.mpr (hq ρ h0)
 | a :: l, b, ρ, h0, hs, hq => by
  obtain ⟨p, e, t⟩ := hs 0 a ρ rfl h0
  obtain ⟨fl, ρ1⟩ := p
  have go : ∀ ρ1, I (b + 1) ρ1 -> Ok (forM f (l.map enc) ρ1) Q := fun ρ1 h1 => zmz enc I l (b + 1) ρ1 h1 (fun i a' ρ' hi hp => by
   have := hs (i + 1) a' ρ' (by simpa using hi) (by rw [show b + (i + 1) = b + 1 + i by lia]; exact hp)
   rw [show b + (i + 1) + 1 = b + 1 + i + 1 by lia] at this
   exact this) (fun ρ h => hq ρ (by rw [List.length_cons, show b + (l.length + 1) = b + 1 + l.length by lia]; exact h))
  have e' : forM f ((a :: l).map enc) ρ = (f (enc a) ρ).bind fun p => match p.1 with
   | .next => forM f (l.map enc) p.2
   | .cont => forM f (l.map enc) p.2
   | .brk => some (.next, p.2)
   | .ret r => some (.ret r, p.2) := rfl
  rw [e', e]
  cases fl with
  | next => exact go ρ1 t
  | cont => exact go ρ1 t
  | brk => exact ok_some.mpr t
  | ret r => exact ok_some.mpr t
theorem zku {α : Type} {f : D -> R -> Option (Fl × R)} {enc : α -> D} {l : List α} (I : Nat -> R -> Prop) (h0 : I 0 ρ)
  (hs : ∀ i a ρ, l[i]? = some a -> I i ρ -> Ok (f (enc a) ρ) (Turn (I (i + 1)) Q)) (hq : ∀ ρ, I l.length ρ -> Q (.next, ρ)) : Ok (forM f (l.map enc) ρ) Q :=
 zmz enc I l 0 ρ h0 (fun i a ρ hi h => by rw [Nat.zero_add] at h ⊢; exact hs i a ρ hi h) (fun ρ h => hq ρ (by rw [Nat.zero_add] at h; exact h))
theorem zi3 {α : Type} (enc : α -> D) {Q : List D × R -> Prop} (I : Nat -> List D -> R -> Prop) : ∀ (l : List α) (b : Nat) (acc : List D) (ρ : R), I b acc ρ ->
  (∀ i a acc ρ, l[i]? = some a -> I (b + i) acc ρ -> Ok (f (enc a) ρ) fun p => I (b + i + 1) (acc ++ p.1.toList) p.2) -> (∀ ds ρ, I (b + l.length) (acc ++ ds) ρ -> Q (ds, ρ)) -> Ok (zcV f (l.map enc) ρ) Q
 | [], b, acc, ρ, h0, _, hq => ok_some.mpr (hq [] ρ (by rw [List.append_nil]; exact h0))
 | a :: l, b, acc, ρ, h0, hs, hq => by
  obtain ⟨p, e, t⟩ := hs 0 a acc ρ rfl h0
  have go := zi3 enc (Q := fun q => Q (p.1.toList ++ q.1, q.2)) I l (b + 1) (acc ++ p.1.toList) p.2 t (fun i a' acc' ρ' hi hp => by
   have := hs (i + 1) a' acc' ρ' (by simpa using hi) (by rw [show b + (i + 1) = b + 1 + i by lia]; exact hp)
   rw [show b + (i + 1) + 1 = b + 1 + i + 1 by lia] at this
   exact this) (fun ds ρ h => hq _ ρ (by rw [List.length_cons, show b + (l.length + 1) = b + 1 + l.length by lia, <- List.append_assoc]; exact h))
  have e' : zcV f ((a :: l).map enc) ρ = (f (enc a) ρ).bind fun p => (zcV f (l.map enc) p.2).map fun q => (p.1.toList ++ q.1, q.2) := rfl
  rw [e', e]
  exact ok_map.mpr go
theorem zkR {α : Type} {enc : α -> D} {l : List α} {Q : List D × R -> Prop} (I : Nat -> List D -> R -> Prop) (h0 : I 0 [] ρ)
  (hs : ∀ i a acc ρ, l[i]? = some a -> I i acc ρ -> Ok (f (enc a) ρ) fun p => I (i + 1) (acc ++ p.1.toList) p.2) (hq : ∀ ds ρ, I l.length ds ρ -> Q (ds, ρ)) : Ok (zcV f (l.map enc) ρ) Q :=
 zi3 enc I l 0 [] ρ h0 (fun i a acc ρ hi h => by rw [Nat.zero_add] at h ⊢; exact hs i a acc ρ hi h) (fun ds ρ h => hq ds ρ (by rw [Nat.zero_add] at h; exact h))
theorem zkD {α : Type} {enc : α -> D} {l : List α} {Q : List D × R -> Prop} (P : R -> Prop) (g : α -> Option D) (h0 : P ρ)
  (hs : ∀ a ρ, a ∈ l -> P ρ -> Ok (f (enc a) ρ) fun p => p.1 = g a /\ P p.2) (hq : ∀ ρ, P ρ -> Q (l.filterMap g, ρ)) : Ok (zcV f (l.map enc) ρ) Q :=
 zkR (fun i ds ρ => ds = (l.take i).filterMap g /\ P ρ) ⟨rfl, h0⟩ (fun i a acc ρ hi ⟨e, p⟩ => by
  refine (hs a ρ (List.mem_of_getElem? hi) p).mono fun r h => ⟨?_, h.2⟩
  obtain ⟨h1, h2⟩ := List.getElem?_eq_some_iff.mp hi
  rw [h.1, e, List.take_add_one, hi, List.filterMap_append]
  cases q : g a <;> simp [q]) (fun ds ρ ⟨e, p⟩ => by rw [List.take_length] at e; rw [e]; exact hq ρ p)
theorem ziz {α : Type} {enc : α -> D} {l : List α} {Q : List D × R -> Prop} (P : R -> Prop) (g : α -> D) (h0 : P ρ)
  (hs : ∀ a ρ, a ∈ l -> P ρ -> Ok (f (enc a) ρ) fun p => p.1 = some (g a) /\ P p.2) (hq : ∀ ρ, P ρ -> Q (l.map g, ρ)) : Ok (zcV f (l.map enc) ρ) Q :=
 zkD P (fun a => some (g a)) h0 hs (fun ρ p => by rw [<- Function.comp_def some g, List.filterMap_eq_map]; exact hq ρ p)
theorem dEq_int (i j : Int) : dEq (.int i) (.int j) = some (.bl (i == j)) := by
 unfold dEq
 rw [show noS (.int i) = true from rfl, show noS (.int j) = true from rfl, show depth (.int i) = 0 from rfl]
 rfl
theorem dNe_int (i j : Int) : dNe (.int i) (.int j) = some (.bl (i != j)) := by
 unfold dNe
 rw [show noS (.int i) = true from rfl, show noS (.int j) = true from rfl, show depth (.int i) = 0 from rfl]
 rfl
theorem atI_n {α : Type} (xs : List α) (i : Nat) : atI xs (i : Int) = xs[i]? := by
 unfold atI ixN
 rw [if_pos (by lia)]
 by_cases h : i < xs.length
 ·rw [if_pos (by lia)]; simp
 ·rw [if_neg (by lia)]; simp [List.getElem?_eq_none (by lia : xs.length <= i)]
theorem atI_lit {α : Type} (xs : List α) (n : Nat) : atI xs (no_index (@OfNat.ofNat Int n _)) = xs[n]? := atI_n xs n
theorem atI_n1 {α : Type} (xs : List α) (i : Nat) : atI xs ((i : Int) + 1) = xs[i + 1]? := atI_n xs (i + 1)
theorem ixN_n (n i : Nat) : ixN n (i : Int) = if i < n then some i else none := by
 unfold ixN
 rw [if_pos (by lia)]
 by_cases h : i < n
 ·rw [if_pos (by lia), if_pos h]; simp
 ·rw [if_neg (by lia), if_neg h]
theorem ixN_lit (n i : Nat) : ixN n (no_index (@OfNat.ofNat Int i _)) = if i < n then some i else none := ixN_n n i
theorem zky {α : Type} (xs : List α) (x : α) : atI (xs ++ [x]) (-1) = some x := by
 unfold atI ixN
 rw [if_neg (by lia), if_pos (by simp; lia)]
 have : (-1 + ((xs ++ [x]).length : Int)).toNat = xs.length := by simp; lia
 simp only [Option.bind_some, this]
 simp
theorem zcJ {i j : Int} (h : i.natAbs < 18446744073709551616) : zj2 i j = true := by
 unfold zj2
 have : decide (i.natAbs < 2 ^ 64) = true := decide_eq_true h
 rw [this]; rfl
theorem zhm {i j : Int} (h : j.natAbs < 18446744073709551616) : zj2 i j = true := by
 unfold zj2
 have : decide (j.natAbs < 2 ^ 64) = true := decide_eq_true h
 rw [this]; simp
theorem zaK {j : Int} (h1 : -1000000000000 <= j) (h2 : j <= 1000000000000) : zb6 j = true := by
 unfold zb6; rw [decide_eq_true h1, decide_eq_true h2]; rfl
noncomputable def wL (n : Nat) (f : Nat -> D) : List D := (List.range n).map f
noncomputable abbrev wI (n : Nat) (f : Nat -> Int) : List D := wL n fun i => .int (f i)
theorem zaS (n : Nat) (f : Nat -> D) : (wL n f).length = n := by simp [wL]
theorem zat (f : Nat -> D) (h : i < n) : (wL n f)[i]? = some (f i) := by simp [wL, h]
theorem zd1 (n : Nat) (f : Nat -> D) : wL (n + 1) f = wL n f ++ [f n] := by simp [wL, List.range_succ]
theorem zf4 {f g : Nat -> D} (h : ∀ i, i < n -> f i = g i) : wL n f = wL n g := List.map_congr_left fun i hi => h i (List.mem_range.mp hi)
theorem wL_snoc (n : Nat) (f : Nat -> D) (x : D) : wL n f ++ [x] = wL (n + 1) fun j => if j < n then f j else x := by
 rw [zd1]; congr 1
 ·exact zf4 fun i hi => by rw [if_pos hi]
 ·rw [if_neg (by lia)]
theorem wL_set (f : Nat -> D) (x : D) (h : i < n) : (wL n f).set i x = wL n fun j => if j = i then x else f j := by
 apply List.ext_getElem?
 intro j
 by_cases hj : j < n
 ·rw [zat _ hj, List.getElem?_set]
  by_cases e : i = j
  ·subst e; simp [zaS, h]
  ·simp [e, zat _ hj, Ne.symm e]
 ·rw [List.getElem?_eq_none (by simp [zaS]; lia), List.getElem?_eq_none (by simp [zaS]; lia)]
theorem zmO (f : Nat -> D) : atI (wL (n + 1) f) (-1) = some (f n) := by rw [zd1]; exact zky _ _
theorem zgy (n : Nat) (f g : Nat -> D) : zjP (wL n f) (wL n g) = wL n fun i => .tup [f i, g i] := by
 apply List.ext_getElem?
 intro j
 unfold zjP
 by_cases hj : j < n
 ·rw [List.getElem?_zipWith, zat _ hj, zat _ hj, zat _ hj]
 ·rw [List.getElem?_eq_none (by simp [zaS]; lia), List.getElem?_eq_none (by simp [zaS]; lia)]
theorem zbi {α : Type} (xs : List α) (i : Nat) : cutD xs none (some (i : Int)) = xs.take i := by
 unfold cutD
 rw [HT.zik, HT.zii, Nat.sub_zero, List.drop_zero]
 by_cases h : i <= xs.length
 ·rw [Nat.min_eq_left h]
 ·rw [Nat.min_eq_right (by lia), List.take_of_length_le (Nat.le_refl _), List.take_of_length_le (by lia)]
theorem zbJ {α : Type} (xs : List α) (i : Nat) : cutD xs (some (i : Int)) none = xs.drop i := by
 unfold cutD
 rw [HT.zik, HT.zii]
 by_cases h : i <= xs.length
 ·rw [Nat.min_eq_left h, List.take_of_length_le (by simp)]
 ·rw [Nat.min_eq_right (by lia), List.drop_of_length_le (Nat.le_refl _), List.drop_of_length_le (by lia)]; simp
theorem zcU : ∀ (l : List Int), zb4 (l.map .int) = some l
 | [] => rfl
 | i :: l => by simp [zb4, zcU l]
theorem zhi (bt : Nat -> Nat -> Bool) : ∀ n, argBest bt n <= n
 | 0 => Nat.le_refl 0
 | n + 1 => by
  have := zhi bt n
  unfold argBest
  split <;> lia
theorem zjk (lt : Int -> Int -> Bool) (h : ns ≠ []) : zhl lt ns ∈ ns := by
 unfold zhl
 have hl : 0 < ns.length := List.length_pos_iff.mpr h
 have := zhi (fun i j => lt (ns.getD i 0) (ns.getD j 0)) (ns.length - 1)
 generalize argBest (fun i j => lt (ns.getD i 0) (ns.getD j 0)) (ns.length - 1) = k at *
 rw [List.getD_eq_getElem?_getD, List.getElem?_eq_getElem (by lia)]
 exact List.getElem_mem _
theorem zhW (lt : Int -> Int -> Bool) (h : ns ≠ []) : zj4 lt [.lst (ns.map .int)] = some (.int (zhl lt ns)) := by
 have hne : ns.isEmpty = false := by cases ns with | nil => exact absurd rfl h | cons => rfl
 simp only [zj4, zaN, Option.bind_some, zcU, hne]
 rfl
mutual
theorem zkF : ∀ (d : D), noS d = true -> eqB d d = true
 | .non, _ => rfl
 | .bl b, _ => by simp [eqB]
 | .int i, _ => by simp [eqB]
 | .str s, _ => by simp [eqB]
 | .lst ds, h => by simp only [eqB]; exact zht ds (by simpa [noS] using h)
 | .tup ds, h => by simp only [eqB]; exact zht ds (by simpa [noS] using h)
 | .scr _, h => by simp [noS] at h
 | .exc _, h => by simp [noS] at h
theorem zht : ∀ (ds : List D), noSL ds = true -> eqBL ds ds = true
 | [], _ => rfl
 | d :: ds, h => by
  simp only [noSL, Bool.and_eq_true] at h
  simp only [eqBL, Bool.and_eq_true]
  exact ⟨zkF d h.1, zht ds h.2⟩
end
theorem dNe_same (h : noS d = true) (k : depth d <= 50) : dNe d d = some (.bl false) := by simp [dNe, h, k, zkF d h]
theorem zka : ∀ {ds : List D}, (∀ d ∈ ds, noS d = true) -> noSL ds = true
 | [], _ => rfl
 | d :: ds, h => by simp only [noSL, Bool.and_eq_true]; exact ⟨h d List.mem_cons_self, zka fun e he => h e (List.mem_cons_of_mem _ he)⟩
theorem zhB : ∀ {ds : List D}, (∀ d ∈ ds, depth d <= k) -> ze0 ds <= k
 | [], _ => Nat.zero_le _
 | d :: ds, h => by simp only [ze0]; exact Nat.max_le.mpr ⟨h d List.mem_cons_self, zhB fun e he => h e (List.mem_cons_of_mem _ he)⟩
noncomputable def Pl (k : Nat) (d : D) : Prop := noS d = true /\ depth d <= k
theorem pl_int (k : Nat) (i : Int) : Pl k (.int i) := ⟨rfl, Nat.zero_le _⟩
theorem zm0 (h : ∀ d ∈ ds, Pl k d) : Pl (k + 1) (.lst ds) := ⟨by simp only [noS]; exact zka fun d hd => (h d hd).1, by simp only [depth]; exact Nat.succ_le_succ (zhB fun d hd => (h d hd).2)⟩
theorem pl_tup (h : ∀ d ∈ ds, Pl k d) : Pl (k + 1) (.tup ds) := ⟨by simp only [noS]; exact zka fun d hd => (h d hd).1, by simp only [depth]; exact Nat.succ_le_succ (zhB fun d hd => (h d hd).2)⟩
theorem pl_w {f : Nat -> D} (h : ∀ i, Pl k (f i)) : ∀ d ∈ wL n f, Pl k d := fun d hd => by
 obtain ⟨i, _, rfl⟩ := List.mem_map.mp hd; exact h i
theorem Pl.ne (h : Pl k d) (l : k <= 50) : dNe d d = some (.bl false) := dNe_same h.1 (Nat.le_trans h.2 l)
theorem rangeD_w (n : Nat) : zfv 0 n = wL n fun i => .int (i : Nat) := by unfold zfv wL; simp only [Int.zero_add]
section
variable {n : Nat} {e : Nat -> D} {ρ : R}
theorem zbQ {f : D -> R -> Option (Fl × R)} (I : Nat -> R -> Prop) (h0 : I 0 ρ)
  (hs : ∀ i ρ, i < n -> I i ρ -> Ok (f (e i) ρ) (Turn (I (i + 1)) Q)) (hq : ∀ ρ, I n ρ -> Q (.next, ρ)) : Ok (forM f (wL n e) ρ) Q :=
 zku (enc := e) (l := List.range n) I h0 (fun i a ρ hi h => by
  obtain ⟨h1, h2⟩ := List.getElem?_eq_some_iff.mp hi
  have : a = i := by simpa using h2.symm
  subst this
  exact hs a ρ (by simpa using h1) h) (fun ρ h => hq ρ (by simpa using h))
variable {f : D -> R -> Option (Option D × R)} {Q : List D × R -> Prop}
theorem zel (I : Nat -> List D -> R -> Prop) (h0 : I 0 [] ρ)
  (hs : ∀ i acc ρ, i < n -> I i acc ρ -> Ok (f (e i) ρ) fun p => I (i + 1) (acc ++ p.1.toList) p.2) (hq : ∀ ds ρ, I n ds ρ -> Q (ds, ρ)) : Ok (zcV f (wL n e) ρ) Q :=
 zkR (enc := e) (l := List.range n) I h0 (fun i a acc ρ hi h => by
  obtain ⟨h1, h2⟩ := List.getElem?_eq_some_iff.mp hi
  have : a = i := by simpa using h2.symm
  subst this
  exact hs a acc ρ (by simpa using h1) h) (fun ds ρ h => hq ds ρ (by simpa using h))
theorem zjd (P : R -> Prop) (g : Nat -> Option D) (h0 : P ρ)
  (hs : ∀ i ρ, i < n -> P ρ -> Ok (f (e i) ρ) fun p => p.1 = g i /\ P p.2) (hq : ∀ ρ, P ρ -> Q ((List.range n).filterMap g, ρ)) : Ok (zcV f (wL n e) ρ) Q :=
 zkD (enc := e) (l := List.range n) P g h0 (fun a ρ ha hp => hs a ρ (List.mem_range.mp ha) hp) hq
theorem zaJ (P : R -> Prop) (g : Nat -> D) (h0 : P ρ)
  (hs : ∀ i ρ, i < n -> P ρ -> Ok (f (e i) ρ) fun p => p.1 = some (g i) /\ P p.2) (hq : ∀ ρ, P ρ -> Q (wL n g, ρ)) : Ok (zcV f (wL n e) ρ) Q :=
 ziz (enc := e) (l := List.range n) P g h0 (fun a ρ ha hp => hs a ρ (List.mem_range.mp ha) hp) hq
end
end M
namespace M
theorem zeR (n : Nat) (f : Nat -> Int) (x : Int) : wI n f ++ [.int x] = wI (n + 1) fun j => if j < n then f j else x := by
 rw [wI, wL_snoc]; exact zf4 fun j _ => by dsimp only; split <;> rfl
theorem zho {j : Int} (h0 : 0 < j) (h1 : j < 1073741824) : zla j = true := by
 have h : j.natAbs.log2 < 9000 := by
  have : j.natAbs.log2 < 30 := (Nat.log2_lt (by lia)).mpr (by lia)
  lia
 unfold zla; rw [decide_eq_true h0, decide_eq_true h]; rfl
theorem zml {j : Int} (h0 : 0 < j) (h1 : j < 2 ^ 250) : zla j = true := by
 have h : j.natAbs.log2 < 9000 := by
  have : j.natAbs.log2 < 250 := (Nat.log2_lt (by lia)).mpr (by lia)
  lia
 unfold zla; rw [decide_eq_true h0, decide_eq_true h]; rfl
theorem zkY {n i : Nat} (f : Nat -> Int) (x : Int) (h : i < n) : (wI n f).set i (.int x) = wI n fun j => if j = i then x else f j := by
 rw [wI, wL_set _ _ h]; exact zf4 fun j _ => by dsimp only; split <;> rfl
theorem isN_non : isN .non = true := rfl
theorem isN_int (i : Int) : isN (.int i) = false := rfl
theorem isN_bl (b : Bool) : isN (.bl b) = false := rfl
theorem isN_str (s : PySem.Str) : isN (.str s) = false := rfl
theorem isN_lst (ds : List D) : isN (.lst ds) = false := rfl
theorem isN_tup (ds : List D) : isN (.tup ds) = false := rfl
end M
namespace M
open L2 PySem
variable {j b c i N : Nat} {Q : Fl × R -> Prop} {g : D -> R -> Option R} {m : MS} {ds : List D} {ma : MA} {mt : MT} {d : D} {me : ME}
theorem dItems_l (ds : List D) : zaN [.lst ds] = some ds := rfl
theorem dItems_t (ds : List D) : zaN [.tup ds] = some ds := rfl
theorem dItems_s (ns : List Int) : zaN [.scr ns] = some (ns.map .int) := rfl
theorem dLen_l (ds : List D) : dLen [.lst ds] = some (.int ds.length) := rfl
theorem zmN (ds : List D) : dLen [.tup ds] = some (.int ds.length) := rfl
theorem dLen_s (ns : List Int) : dLen [.scr ns] = some (.int ns.length) := rfl
theorem dTuple_l (ds : List D) : zbF [.lst ds] = some (.tup ds) := rfl
theorem dTuple_t (ds : List D) : zbF [.tup ds] = some (.tup ds) := rfl
theorem dTuple_s (ns : List Int) : zbF [.scr ns] = some (.tup (ns.map .int)) := rfl
theorem dCut_l (ds : List D) (a b : Option Int) : dCut (.lst ds) a b = some (.lst (cutD ds a b)) := rfl
theorem dCut_t (ds : List D) (a b : Option Int) : dCut (.tup ds) a b = some (.tup (cutD ds a b)) := rfl
theorem dCut_s (ns : List Int) (a b : Option Int) : dCut (.scr ns) a b = some (.lst ((cutD ns a b).map .int)) := rfl
theorem dIx_l (ds : List D) (i : Int) : dIx (.lst ds) (.int i) = atI ds i := rfl
theorem dIx_t (ds : List D) (i : Int) : dIx (.tup ds) (.int i) = atI ds i := rfl
theorem dIx_s (ns : List Int) (i : Int) : dIx (.scr ns) (.int i) = (atI ns i).map .int := rfl
theorem dEq_str (a b : Str) : dEq (.str a) (.str b) = some (.bl (a == b)) := by
 unfold dEq
 rw [show noS (.str a) = true from rfl, show noS (.str b) = true from rfl, show depth (.str a) = 0 from rfl]
 rfl
theorem zip3D_w (n : Nat) (f g h : Nat -> D) : zkk (wL n f) (wL n g) (wL n h) = wL n fun i => .tup [f i, g i, h i] := by
 apply List.ext_getElem?
 intro j
 unfold zkk
 by_cases hj : j < n
 ·have e : (List.zip (wL n g) (wL n h))[j]? = some (g j, h j) := by
   rw [List.getElem?_zip_eq_some]; exact ⟨zat g hj, zat h hj⟩
  rw [List.getElem?_zipWith, e, zat _ hj, zat _ hj]
 ·rw [List.getElem?_eq_none (by simp [zaS]; lia), List.getElem?_eq_none (by simp [zaS]; lia)]
structure Sq (d : D) (n : Nat) (f : Nat -> Int) : Prop where
 it : zaN [d] = some (wI n f)
 ln : dLen [d] = some (.int n)
 tp : zbF [d] = some (.tup (wI n f))
 ix : ∀ i, dIx d (.int i) = atI (wI n f) i
 ct : ∀ lo hi, ∃ d', dCut d lo hi = some d' /\ zaN [d'] = some (cutD (wI n f) lo hi)
theorem Sq.lst (n : Nat) (f : Nat -> Int) : Sq (.lst (wI n f)) n f := ⟨rfl, by rw [dLen_l, zaS], rfl, fun _ => rfl, fun lo hi => ⟨_, rfl, rfl⟩⟩
theorem Sq.tup (n : Nat) (f : Nat -> Int) : Sq (.tup (wI n f)) n f := ⟨rfl, by rw [zmN, zaS], rfl, fun _ => rfl, fun lo hi => ⟨_, rfl, rfl⟩⟩
noncomputable def eqW (s : Nat) (a b : Nat -> Int) : Bool := (List.range s).map a == (List.range s).map b
theorem zkS : ∀ (xs ys : List Int), eqBL (xs.map D.int) (ys.map D.int) = (xs == ys)
 | [], [] => rfl
 | [], _ :: _ => rfl
 | _ :: _, [] => rfl
 | x :: xs, y :: ys => by simp [eqBL, eqB, zkS xs ys]
theorem zmm (n : Nat) (f : Nat -> Int) : wI n f = ((List.range n).map f).map .int := by simp [wL, List.map_map, Function.comp_def]
theorem zdR (n : Nat) (b : Nat -> Bool) : zdX (wL n fun i => .bl (b i)) = some ((List.range n).map b) := by
 have : ∀ l : List Nat, zdX (l.map fun i => D.bl (b i)) = some (l.map b) := by
  intro l
  induction l with
  | nil => rfl
  | cons a l ih => simp [zdX, ih]
 exact this _
theorem all_w (n : Nat) (b : Nat -> Bool) : (((List.range n).map b).all id = true) ↔ ∀ i, i < n -> b i = true := by simp
theorem ok_eCutO {ml mh : MP} {ρ : R} {Q : D × R -> Prop} : Ok (eCutO j ml mh ρ) Q = Ok (if (ρ[j]?.bind Sl.items).isSome then (ml ρ).bind fun q => (mh q.2).bind fun r => (r.2[j]?.bind Sl.items).bind fun ds => some (.lst (cutD ds q.1 r.1), r.2) else none) Q := rfl
theorem eqV_int (a b : Int) : eqV (.int a) (.int b) = (b == a) := by
 show (a == b) = (b == a)
 by_cases h : a = b
 ·subst h; rfl
 ·rw [beq_eq_false_iff_ne.mpr h, beq_eq_false_iff_ne.mpr fun e => h e.symm]
theorem zh3 : ∀ (l : List Int), zln (l.map D.int) = some (l.map V.int)
 | [] => rfl
 | i :: l => by simp [zln, flV, zh3 l]
theorem zkA (a : Int) : ∀ (l : List Int), inV (.int a) (l.map V.int) = l.contains a
 | [] => rfl
 | i :: l => by
  have := zkA a l
  unfold inV at this ⊢
  rw [List.map_cons, List.any_cons, this, eqV_int, List.contains_cons]
noncomputable def sumR : Nat -> (Nat -> Int) -> Int
 | 0, _ => 0
 | n + 1, f => sumR n f + f n
theorem zh2 {f g : Nat -> Int} : ∀ {n : Nat}, (∀ i, i < n -> f i = g i) -> sumR n f = sumR n g
 | 0, _ => rfl
 | n + 1, h => by rw [sumR, sumR, zh2 fun i hi => h i (by lia), h n (by lia)]
theorem zkp (f g : Nat -> Int) : ∀ n, sumR n (fun i => f i - g i) = sumR n f - sumR n g
 | 0 => rfl
 | n + 1 => by simp only [sumR, zkp f g n]; lia
theorem zkv (a : Int) (f : Nat -> Int) : ∀ n, sumR n (fun i => a * f i) = a * sumR n f
 | 0 => by simp [sumR]
 | n + 1 => by simp only [sumR, zkv a f n, Int.mul_add]
theorem zgf (f : Nat -> Int) : ∀ n, ((List.range n).map f).sum = sumR n f
 | 0 => rfl
 | n + 1 => by simp [List.range_succ, zgf f n, sumR]
theorem ziA (n : Nat) (f : Nat -> Int) : zb4 (wI n f) = some ((List.range n).map f) := by
 have : wI n f = ((List.range n).map f).map .int := by simp [wL, List.map_map, Function.comp_def]
 rw [this, zcU]
theorem cut_w {n a b : Nat} (f : Nat -> D) (h : a + b <= n) : cutD (wL n f) (some (a : Int)) (some ((a : Int) + (b : Int))) = wL b fun i => f (a + i) := by
 have e : cutD (wL n f) (some (a : Int)) (some ((a : Int) + (b : Int))) = ((wL n f).drop a).take b := by
  unfold cutD
  rw [HT.zik, show ((a : Int) + (b : Int)) = ((a + b : Nat) : Int) by lia, HT.zik, zaS]
  rw [Nat.min_eq_left h, Nat.min_eq_left (by lia : a <= n), Nat.add_sub_cancel_left]
 rw [e]
 apply List.ext_getElem?
 intro j
 by_cases hj : j < b
 ·rw [List.getElem?_take_of_lt hj, List.getElem?_drop, zat _ (by lia), zat _ hj]
 ·rw [List.getElem?_eq_none (by simp [zaS]; lia), List.getElem?_eq_none (by rw [zaS]; lia)]
theorem zex (v : Nat -> Int) : ∀ n i, i <= n -> v i <= v (argBest (fun i j => decide (v i > v j)) n)
 | 0, i, h => by rw [show i = 0 by lia]; exact Int.le_refl _
 | n + 1, i, h => by
  simp only [argBest]
  by_cases c : v (n + 1) > v (argBest (fun i j => decide (v i > v j)) n)
  ·rw [if_pos (decide_eq_true c)]
   by_cases e : i = n + 1
   ·rw [e]; exact Int.le_refl _
   ·have := zex v n i (by lia); lia
  ·rw [if_neg (by simpa using c)]
   by_cases e : i = n + 1
   ·rw [e]; lia
   ·exact zex v n i (by lia)
theorem zek (v : Nat -> Int) : ∀ n i, i <= n -> v (argBest (fun i j => decide (v i < v j)) n) <= v i
 | 0, i, h => by rw [show i = 0 by lia]; exact Int.le_refl _
 | n + 1, i, h => by
  simp only [argBest]
  by_cases c : v (n + 1) < v (argBest (fun i j => decide (v i < v j)) n)
  ·rw [if_pos (decide_eq_true c)]
   by_cases e : i = n + 1
   ·rw [e]; exact Int.le_refl _
   ·have := zek v n i (by lia); lia
  ·rw [if_neg (by simpa using c)]
   by_cases e : i = n + 1
   ·rw [e]; lia
   ·exact zek v n i (by lia)
theorem zkX (g : Nat -> Int) (h : i < c) : ((List.range c).map g).getD i 0 = g i := by
 rw [List.getD_eq_getElem?_getD]; simp [h]
theorem max_w (g : Nat -> Int) (hc : 0 < c) : ∃ v, dMaxL [.lst (wI c g)] = some (.int v) /\ (∃ i, i < c /\ g i = v) /\ ∀ i, i < c -> g i <= v := by
 have hne : (List.range c).map g ≠ [] := fun h => by have := congrArg List.length h; simp at this; lia
 have e1 : wI c g = ((List.range c).map g).map .int := by simp [wL, List.map_map, Function.comp_def]
 refine ⟨_, by rw [e1]; exact zhW _ hne, ?_, ?_⟩
 ·obtain ⟨i, hi, e⟩ := List.mem_map.mp (zjk (fun i j => decide (i > j)) hne)
  exact ⟨i, List.mem_range.mp hi, e⟩
 ·intro i hi
  have := zex (fun i => ((List.range c).map g).getD i 0) (c - 1) i (by lia)
  rw [zkX g hi] at this
  unfold zhl
  rw [List.length_map, List.length_range]
  exact this
theorem min_w (g : Nat -> Int) (hc : 0 < c) : ∃ v, dMinL [.lst (wI c g)] = some (.int v) /\ (∃ i, i < c /\ g i = v) /\ ∀ i, i < c -> v <= g i := by
 have hne : (List.range c).map g ≠ [] := fun h => by have := congrArg List.length h; simp at this; lia
 have e1 : wI c g = ((List.range c).map g).map .int := by simp [wL, List.map_map, Function.comp_def]
 refine ⟨_, by rw [e1]; exact zhW _ hne, ?_, ?_⟩
 ·obtain ⟨i, hi, e⟩ := List.mem_map.mp (zjk (fun i j => decide (i < j)) hne)
  exact ⟨i, List.mem_range.mp hi, e⟩
 ·intro i hi
  have := zek (fun i => ((List.range c).map g).getD i 0) (c - 1) i (by lia)
  rw [zkX g hi] at this
  unfold zhl
  rw [List.length_map, List.length_range]
  exact this
theorem zkG {mc : MT} {mb : MS} (I : Nat -> R -> Prop) (turn : ∀ m ρ, I m ρ -> Ok (mc ρ) fun p => (p.1 = true -> ∃ m', m = m' + 1 /\ Ok (mb p.2) fun q => q.1 = .next /\ I m' q.2) /\ (p.1 = false -> Q (.next, p.2))) : ∀ (fuel m : Nat) (ρ : R), m < fuel -> I m ρ -> Ok (zgG mc mb fuel ρ) Q
 | 0, m, ρ, h, _ => by lia
 | n + 1, m, ρ, h, hI => by
  obtain ⟨⟨b, ρ1⟩, e, h1, h2⟩ := turn m ρ hI
  unfold zgG
  rw [e]
  cases b with
  | false => exact ok_some.mpr (h2 rfl)
  | true =>
   obtain ⟨m', rfl, ⟨f, ρ2⟩, e2, ef, hI2⟩ := h1 rfl
   show Ok ((mb ρ1).bind _) Q
   rw [e2]
   cases (show f = .next from ef)
   exact zkG I turn n m' ρ2 (by lia) hI2
theorem inL (j : Int) (ns : List Int) : dIn (.int j) (.lst (ns.map .int)) = some (.bl (ns.contains j)) := by
 show ((zln (ns.map D.int)).map fun xs => D.bl (inV (.int j) xs)) = _
 rw [zh3]
 show some (D.bl (inV (.int j) (ns.map V.int))) = _
 rw [zkA]
theorem like_par (ns : List Int) : likeS (.par (ns.map .int)) (.par (ns.map .int)) = true := by
 show (match zb4 (ns.map D.int), zb4 (ns.map D.int) with
  | some a, some b => a == b
  | _, _ => false) = true
 rw [zcU]; exact beq_self_eq_true ns
section
variable {j : Nat} {mk me : ME} {ρ : R}
theorem ok_tDI {neg : Bool} {Q : Bool × R -> Prop} : Ok (tDI j neg mk ρ) Q ↔ Ok (mk ρ) fun p => Ok (match p.1 with
 | .int k => (p.2[j]?.bind Sl.dic).map fun q => (((lkD q.1 q.2 k).isSome != neg), p.2)
 | _ => none) Q := ok_bind
theorem ok_fMT {cs : List D} {t : T} {Q : Sl × List D -> Prop} : Ok (fMT N m cs t ds) Q = Ok ((m (.par cs :: .tre t :: (ds.map .val ++ List.replicate (N - (ds.length + 2)) .emp))).bind fun p => match p.1, (p.2[0]? : Option Sl) with
 | Fl.ret r, some (Sl.par out) => some (r, out)
 | Fl.next, some (Sl.par out) => some (.val .non, out)
 | _, _ => none) Q := rfl
theorem ok_sPar : Ok (sPar i j ma ρ) Q = Ok ((ma ρ).bind fun p => match p.1 with
 | [c, d] => some (.next, (p.2.set i (.val c)).set j (.val d))
 | _ => none) Q := rfl
theorem ok_eDGT {Q : D × R -> Prop} : Ok (eDGT j mk ρ) Q = Ok (if (ρ[j]?.bind Sl.dit).isSome then (mk ρ).bind fun p => (keyT p.1).bind fun k => (p.2[j]?.bind Sl.dit).bind fun q => (lkD q.1 q.2 k).map fun d => (d, p.2) else none) Q := rfl
theorem ok_sDPT : Ok (sDPT j mk me ρ) Q = Ok ((me ρ).bind fun p => if (p.2[j]?.bind Sl.dit).isSome then (mk p.2).bind fun q => (keyT q.1).bind fun k => q.2[j]?.bind fun s => match s.tree with
  | some (.dit ks ds) => if ks.length < 16777216 then some (.next, q.2.set j (s.putT (.dit (ptD ks ds k p.1).1 (ptD ks ds k p.1).2))) else none
  | _ => none else none) Q := rfl
theorem ok_sDNT : Ok (sDNT j ρ) Q ↔ Q (.next, ρ.set j (.tre (.dit [] []))) := ok_some
theorem ok_sFzDT : Ok (sFzDT j m ρ) Q = Ok (m (fzDT j ρ)) Q := rfl
theorem ok_iR3N {Q : List D × R -> Prop} : Ok (iR3N ma ρ) Q = Ok ((ma ρ).bind fun p => match p.1 with
 | [.int i, .int j, .int k] => if zb6 i && zb6 j && decide (k = -1) then some (ziT i (-1) (i - j).toNat, p.2) else none
 | _ => none) Q := rfl
theorem ok_turnT {mo : MO} {Q : Option (List D) × R -> Prop} : Ok (turnT g mt mo d ρ) Q ↔ Ok (g d ρ) fun ρ1 => Ok (mt ρ1) fun p => (p.1 = true -> Ok (mo p.2) fun q => zdB q.2 = true /\ Q (some q.1, q.2)) /\ (p.1 = false -> zdB p.2 = true /\ Q (none, p.2)) := by
 unfold turnT; rw [ok_bind]; exact zaV fun ρ1 => by rw [ok_bind]; exact zaV fun p => by rw [zjf, ok_bind, zes, ok_some]; exact and_congr (imp_congr Iff.rfl (zaV fun q => by rw [zes, ok_some])) Iff.rfl
theorem ok_turnQ {Q : Option D × R -> Prop} : Ok (turnQ b c g mt me d ρ) Q ↔ Ok (g d ρ) fun ρ1 => Ok (mt ρ1) fun p => (p.1 = true -> Ok (me p.2) fun q => zmY b c q.2 = true /\ Q (some q.1, q.2)) /\ (p.1 = false -> zmY b c p.2 = true /\ Q (none, p.2)) := by
 unfold turnQ; rw [ok_bind]; exact zaV fun ρ1 => by rw [ok_bind]; exact zaV fun p => by rw [zjf, ok_bind, zes, ok_some]; exact and_congr (imp_congr Iff.rfl (zaV fun q => by rw [zes, ok_some])) Iff.rfl
theorem ok_sCut {me ml mh : ME} : Ok (sCut i me ml mh ρ) Q = Ok ((me ρ).bind fun p => if (p.2[i]?.bind Sl.items).isSome then (ml p.2).bind fun q => (mh q.2).bind fun r => r.2[i]?.bind fun s => s.items.bind fun ds => match p.1, q.1, r.1 with
 | .lst es, .int m, .int n => if decide (0 <= m) && decide (m <= n) && decide (n <= ds.length) && decide (ds.length + es.length <= 16777216) then some (.next, r.2.set i (s.put (ds.take m.toNat ++ es ++ ds.drop n.toNat))) else none
 | _, _, _ => none else none) Q := rfl
theorem ok_iRw {Q : List D × R -> Prop} : Ok (iRw me ρ) Q = Ok ((me ρ).bind fun p => match p.1 with
 | .lst ds => some (ds.reverse, p.2)
 | _ => none) Q := rfl
theorem ok_eOrW {a b : ME} {Q : D × R -> Prop} : Ok (eOrW a b ρ) Q = Ok ((a ρ).bind fun p => (dTru p.1).bind fun t => if t then some p else b p.2) Q := rfl
end
end M
local macro_rules | `(tactic| simp! only [$ls,*]) => `(tactic| simp only [↓M.ok_sIf, ↓M.ok_eIf, ↓M.ok_tAnd, ↓M.ok_tOr, ↓M.ok_eAnd, ↓M.ok_eOr, ↓M.ok_chain, ↓M.ok_turnM, ↓M.ok_turnP, ↓M.ok_turnQ, ↓M.ok_bind, ↓M.ok_map, ↓M.zes, ↓M.ok_some, ↓M.ok_sNext, ↓M.zkg, ↓M.ok_sRet, ↓M.ok_sRetO, ↓M.ok_sRetV, ↓M.ok_gN, ↓M.ok_gsNil, ↓M.zlJ, ↓M.ok_gT, ↓M.ok_sAsg, ↓M.zlA, ↓M.ok_sSetO, ↓M.ok_sApp, ↓M.ok_sPut, ↓M.ok_eC, ↓M.ok_eVar, ↓M.ok_aNil, ↓M.ok_aCons, ↓M.ok_m2, ↓M.ok_m1, ↓M.ok_mC, ↓M.ok_eIxV, ↓M.ok_eLenV, ↓M.ok_oC, ↓M.ok_eTup, ↓M.ok_oLst, ↓M.ok_tTru, ↓M.ok_tNotM, ↓M.ok_eCall, ↓M.ok_oCall, ↓M.zl1, ↓M.zmn, ↓M.ok_eFz, ↓M.ok_eCut, ↓M.ok_pNo, ↓M.ok_pSome, ↓M.ok_iSeq, ↓M.ok_iR1, ↓M.ok_sFor, ↓M.ok_oLC, ↓M.ok_tTrue, ↓M.ok_eIsI, ↓M.ok_fP, ↓M.ok_fM, ↓M.ok_oRep, ↓M.ok_iZ2, ↓M.ok_iZ3, ↓M.ok_oLCM, ↓M.ok_eCutO, ↓M.ok_fMT, ↓M.ok_eDGT, ↓M.ok_sDPT, ↓M.ok_sDNT, ↓M.ok_sFzDT, ↓M.ok_iR3N, ↓M.ok_turnT, ↓M.ok_sCut, ↓M.ok_iRw, ↓M.ok_eOrW, M.dI2, M.dSub, M.dDiv, M.dMod, M.dPow, M.dLt, M.dLe, M.dGt, M.dGe, M.dNeg, M.dMul, M.dAdd, M.dTru, M.dNot, M.Sl.read, M.Sl.items, M.Sl.put, M.hasV, M.zdB, M.fz1, M.fzL, M.capS, M.capR, M.eIsI.noS1, M.okT, M.isI, M.d2I, M.dAbs, M.dInt, M.dSum, M.dAll, M.dMaxL, M.dMinL, M.dIsN, M.zis, M.zkf, M.zmF, M.fzD, M.putCs, M.Ch.sl, M.Sl.dic, M.Sl.dit, M.Sl.tree, M.Sl.putT, M.Sl.dit, M.fzT, M.Ch.D, M.fzDT, M.fzU, M.rowsOf, M.zmY, M.zhg, M.seqK_ret, M.seqK_brk, M.zma, M.zlW, M.zmH, M.turn_brk, M.turn_ret, List.getElem?_cons_zero, List.getElem?_cons_succ, List.set_cons_zero, List.set_cons_succ, Option.bind_some, Option.isSome_some, Option.map_some, if_true, List.map_cons, List.map_nil, List.replicate_succ, List.replicate_zero, List.length_cons, List.length_nil, List.cons_append, List.nil_append, List.all_cons, List.all_nil, Bool.and_true, Bool.true_and, Bool.and_self, Bool.true_eq_false, Bool.false_eq_true, if_false, M.dEq_int, M.dNe_int, List.length_map, List.length_append, M.atI_n, M.atI_lit, M.ixN_n, M.ixN_lit, M.atI_n1, M.ok_none, M.dItems_l, M.dItems_t, M.dItems_s, M.dLen_l, M.zmN, M.dLen_s, M.dTuple_l, M.dTuple_t, M.dTuple_s, M.dCut_l, M.dCut_t, M.dCut_s, M.dIx_l, M.dIx_t, M.dIx_s, M.dEq_str, M.zip3D_w, M.isN_non, M.isN_int, M.isN_bl, M.isN_str, M.isN_lst, M.isN_tup, M.zcU, Int.toNat_natCast, M.rangeD_w, M.zaS, decide_eq_true_eq, Bool.and_eq_true, true_and, and_true, Nat.reduceAdd, Nat.reduceLeDiff, Int.reduceLT, Int.reduceLE, Int.reduceNeg, Nat.reduceSub, Int.reducePow, Int.reduceMul, Int.reduceAdd, Int.reduceSub, Int.reduceMod, Int.reduceDiv, Nat.reduceLT, Nat.reduceBNe, Nat.reduceEqDiff, List.filter_cons, List.filter_nil, bne_self_eq_false, Int.reduceToNat, Nat.reducePow, M.zll, Int.reduceEq, Int.reduceBEq, Int.reduceBNe, Nat.reduceMod, decide_true, decide_false, beq_iff_eq, beq_eq_false_iff_ne, bne_iff_ne, bne_eq_false_iff_eq, decide_eq_false_iff_not, Int.not_le, Int.not_lt, ne_eq, forall_const, true_implies, false_implies, reduceCtorEq, imp_self, implies_true, M.D.bl.injEq, exists_eq_left', Bool.not_true, Bool.not_false, $ls,*])
namespace Prf
open L2 M PySem
noncomputable def top (i : Nat) : Stmt := PySem.Challenge.pw_tellsum_k73_far_rows_judged.main.body.getD i (.Pass ⟨0, 0, 0, 0⟩)
structure BN (K : W.Frag) (mg : Str -> Option Value) : Prop where
 abs' : mg "abs" = none
 all' : mg "all" = none
 any' : mg "any" = none
 bool' : mg "bool" = none
 int' : mg "int" = none
 isinstance' : mg "isinstance" = none
 len' : mg "len" = none
 list' : mg "list" = none
 max' : mg "max" = none
 min' : mg "min" = none
 range' : mg "range" = none
 reversed' : mg "reversed" = none
 sum' : mg "sum" = none
 tuple' : mg "tuple" = none
 zip' : mg "zip" = none
section
variable {P : Program} {w : World} {K : W.Frag} {mg : Str -> Option Value} {base hp : Heap} {f : Addr} {fd : FuncData} (X : K.In hp) (G : hp.Ns mainGlobals mg) (bn : BN K mg)
include X G bn
noncomputable abbrev zgR : Stmt := top 1
noncomputable def zdo : ME :=
 (mC dSum (zad (eCut (eVar 0) (zbt (eVar 2)) (zbt (m2 dAdd (eVar 2) (eVar 1)))) aNil))
noncomputable def ze6 : MO :=
 oLC [0, 1] 1 (iR1 (zad (m2 dAdd (m2 dSub (zbY 0) (eVar 1)) (eC (.int 1))) aNil)) (gN 2) zbh zdo
noncomputable def zfH : MS :=
 (sRet (mC zbF (zad (eFz ze6) aNil)))
noncomputable def zbT : List D -> Option Sl := fP 2 zfH
theorem zjz  (h : FnAt K "line_sums" zgR) : FD P w K mg base 1 "line_sums" (spP K 2 zbT) :=
 fdP (N := ["row", "k"]) (k := 0) (m := zfH) X G h fun _ _ _ _ _ _ _ hr nd => (zan (zax (zbA bn.tuple' (zaa (SO.se (zcD [0, 1] 1 ["row", "k", "i"] rfl (zaM bn.range' (zaa (zaq (za6 (zaY 0 bn.len') (zab 1)) zae) zaf)) (fun C s H fp => (zam 2 ndk)) (fun C s H fp => zaG) (fun C s H fp => (zlR rfl bn.sum' (zaa (zbj (zab 0) (zaL (zab 2)) (zaL (zaq (zab 2) (zab 1)))) zaf))))) zaf))))
noncomputable abbrev zfW : Stmt := top 3
noncomputable def zeG : ME :=
 (zgL dLe dLe (eVar 0) (eVar 1) (eVar 2))
noncomputable def zeI : MO :=
 oLC [] 3 (iZ3 (zad (eVar 1) (zad (eVar 0) (zad (eVar 2) aNil)))) (gT 3 (zas (gN 0) (zas (gN 1) (zas (gN 2) zcs)))) zbh zeG
noncomputable def zen : MS :=
 (sRet (mC (dAll fun bs => bs.all id) (zad (eFz zeI) aNil)))
noncomputable def zeL : MS :=
 (sSeq (sIf (tTru (m2 dNe (zbY 0) (zbY 1)))
  (sRet (eC (.bl false)))
  zbg)
  zen)
noncomputable def zb5 : List D -> Option Sl := fP 3 zeL
theorem zij  (h : FnAt K "row_within" zfW) : FD P w K mg base 1 "row_within" (spP K 3 zb5) :=
 fdP (N := ["row", "least", "greatest"]) (k := 0) (m := zeL) X G h fun _ _ _ _ _ _ _ hr nd => (zag (zbl (zm1 hr.units (zaY 0 bn.len') (zaY 1 bn.len'))
  (zan (zax zgl))
  zaz)
  (zan (zax (zjJ rfl bn.all' (zaa (SO.se (zcD [] 3 ["low", "number", "high"] rfl (it_zip3 bn.zip' (zaa (zab 1) (zaa (zab 0) (zaa (zab 2) zaf)))) (fun C s H fp => (zbu rfl (zao (zam 0 ndk) (zao (zam 1 ndk) (zao (zam 2 ndk) za0))))) (fun C s H fp => zaG) (fun C s H fp => (zk2 zmt zmt zeK zeK (zab 0) (zab 1) (zab 2))))) zaf)))))
noncomputable abbrev zdc : Stmt := top 5
noncomputable def zcn : MS :=
 (sIf (zl0 (tTru (m2 zis (eIxV 3 (eVar 8)) (eC .non))) (tOrM (tTru (m2 dIsN (eIxV 3 (eVar 7)) (eC .non))) (tTru (m2 dGt (eIxV 3 (eVar 7)) (m2 dAdd (eIxV 3 (eVar 8)) (eVar 9))))))
  (sSeq (sPut 3 (eVar 7) (m2 dAdd (eIxV 3 (eVar 8)) (eVar 9)))
  (sSeq (sPut 4 (eVar 7) (eVar 8))
  (sSet 5 (eVar 7))))
  zbg)
noncomputable def zco : MS :=
 sFor (iSeq (eVar 0)) (gT 3 (zas (gN 7) (zas (gN 8) (zas (gN 9) zcs)))) zcn
noncomputable def zcr : MS :=
 (sSeq (sSet 5 (eC .non))
  zco)
noncomputable def zcl : MS :=
 sFor (iR1 (zad (eVar 1) aNil)) (gN 6) zcr
noncomputable def zbV : MS :=
 (sSeq (zeY 3 (oRep (eFz (oLst (zad (eC .non) aNil))) (eVar 1)))
  (sSeq (sPut 3 (eVar 2) (eC (.int 0)))
  (sSeq (zeY 4 (oRep (eFz (oLst (zad (eC .non) aNil))) (eVar 1)))
  (sSeq (sSet 5 (eC .non))
  (sSeq zcl
  (sRet (eTup (zad (eVar 3) (zad (eVar 4) (zad (eVar 5) aNil))))))))))
noncomputable def zaQ : List D -> Option Sl := fP 10 zbV
theorem zfQ  (h : FnAt K "greatest_shifts" zdc) : FD P w K mg base 1 "greatest_shifts" (spP K 3 zaQ) :=
 fdP (N := ["ties", "many", "start", "shifts", "unders", "falling", "turn", "lane", "under", "above"]) (k := 0) (m := zbV) X G h fun _ _ _ _ _ _ _ hr nd => (zag (zbM 3 (zlK (SO.se (za1 (zaa zcm zaf))) (zab 1)) nd)
  (zag (zf2 3 zae (zab 2))
  (zag (zbM 4 (zlK (SO.se (za1 (zaa zcm zaf))) (zab 1)) nd)
  (zag (zar 5 zcm nd)
  (zag (zck PassesOwn.never rfl (zaM bn.range' (zaa (zab 1) zaf)) (zam 6 nd)
  (zag (zar 5 zcm nd)
  (zan (zck PassesOwn.never rfl (zbx (zab 0)) (zbu rfl (zao (zam 7 nd) (zao (zam 8 nd) (zao (zam 9 nd) za0))))
  (zan (zbl (STw.st (sw_and (ziI (zaj 3 (zab 8)) zcm) (zmK (STw.st (zjg (st_is (zaj 3 (zab 7)) zcm) (zhe (st_gt (zaj 3 (zab 7)) (zaq (zaj 3 (zab 8)) (zab 9)))))))))
  (zag (zf2 3 (zaq (zaj 3 (zab 8)) (zab 9)) (zab 7))
  (zag (zf2 4 (zab 8) (zab 7))
  (zan (zar 5 (zab 7) nd))))
  zaz))))))
  (zan (zax (zaT (zaa (zab 3) (zaa (zab 4) (zaa (zab 5) zaf)))))))))))
noncomputable abbrev zei : Stmt := top 6
noncomputable def zdJ : MS :=
 (sSet 2 (eIxV 0 (eVar 2)))
noncomputable def zdM : MS :=
 sFor (iR1 (zad (zbY 0) aNil)) (gN 3) zdJ
noncomputable def zdE : MT :=
 (tTru (m2 dNe (eIxV 0 (eIxV 4 (m1 dNeg (eC (.int 1))))) (eVar 2)))
noncomputable def zdN : MS :=
 (sApp 4 (eIxV 0 (eIxV 4 (m1 dNeg (eC (.int 1))))))
noncomputable def zdG : MS :=
 zgG zdE zdN 400
noncomputable def zdC : MS :=
 (sSeq (sSet 2 (eVar 1))
  (sSeq zdM
  (sSeq (zeY 4 (oLst (zad (eVar 2) aNil)))
  (sSeq zdG
  (zix 4)))))
noncomputable def zby : List D -> Option Sl := fP 5 zdC
theorem zhn  (h : FnAt K "falling_loop" zei) : FD P w K mg base 1 "falling_loop" (spP K 2 zby) :=
 fdP (N := ["unders", "falling", "lane", "step", "loop"]) (k := 0) (m := zdC) X G h fun _ _ _ _ _ _ _ hr nd => (zag (zar 2 (zab 1) nd)
  (zag (zck PassesOwn.never rfl (zaM bn.range' (zaa (zaY 0 bn.len') zaf)) (zam 3 nd)
  (zan (zar 2 (zaj 0 (zab 2)) nd)))
  (zag (zbM 4 (za1 (zaa (zab 2) zaf)) nd)
  (zag (ss_while 400 PassesOwn.never (zm1 hr.units (zaj 0 (zaj 4 (zbH zae))) (zab 2))
  (zan (zh6 4 (zaj 0 (zaj 4 (zbH zae))))))
  (zan (zgA 4))))))
noncomputable abbrev zfg : Stmt := top 8
noncomputable def zd9 : ME :=
 (m2 dSub (eIxV 0 (m2 dAdd (eVar 1) (eC (.int 1)))) (eIxV 0 (eVar 1)))
noncomputable def zd7 : MO :=
 oLC [2] 1 (iR1 (zad (eVar 1) aNil)) (gN 1) zbh zd9
noncomputable def zdV : MS :=
 (sSeq (sSet 2 (m2 dIx (zba zaQ (zad (eVar 0) (zad (m2 dAdd (eVar 1) (eC (.int 1))) (zad (eC (.int 0)) aNil)))) (eC (.int 0))))
  (sRet (mC zbF (zad (eFz zd7) aNil))))
noncomputable def zbs : List D -> Option Sl := fP 3 zdV
theorem zhI (zaU : FD P w K mg base 1 "greatest_shifts" (spP K 3 zaQ)) (h : FnAt K "row_by_cuts" zfg) : FD P w K mg base 2 "row_by_cuts" (spP K 2 zbs) :=
 fdP (N := ["ties", "many", "upto"]) (k := 1) (m := zdV) X G h fun _ _ _ _ _ _ _ hr nd => (zag (zar 2 (zaI (zav zaU hr (zaa (zab 0) (zaa (zaq (zab 1) zae) (zaa zae zaf))) (hlen := (zac (zac (zac zak))))) zae) nd)
  (zan (zax (zbA bn.tuple' (zaa (SO.se (zcD [2] 1 ["upto", "place"] rfl (zaM bn.range' (zaa (zab 1) zaf)) (fun C s H fp => (zam 1 ndk)) (fun C s H fp => zaG) (fun C s H fp => (za6 (zaj 0 (zaq (zab 1) zae)) (zaj 0 (zab 1)))))) zaf)))))
noncomputable abbrev zeE : Stmt := top 10
noncomputable def zdv : MS :=
 (sRet (eIf (tTru (m2 dEq (eVar 1) (eC (.str "sum")))) (mC dLen (zad (eIxV 0 (eC (.int 1))) aNil)) (mC dLen (zad (eIxV 0 (eC (.int 2))) aNil))))
noncomputable def za4 : List D -> Option Sl := fP 2 zdv
theorem zhp  (h : FnAt K "numbers_many" zeE) : FD P w K mg base 1 "numbers_many" (spP K 2 za4) :=
 fdP (N := ["line", "kind"]) (k := 0) (m := zdv) X G h fun _ _ _ _ _ _ _ hr nd => (zan (zax (zeW (zb3 hr.units (zab 1) zbw) (zfx bn.len' (zaa (zaj 0 zae) zaf)) (zfx bn.len' (zaa (zaj 0 zae) zaf)))))
noncomputable abbrev zhZ : Stmt := top 11
noncomputable def zhk : MS :=
 (sSeq (sSet 2 (eIxV 1 (eC (.int 0))))
  (sRet (eAnd (m2 dIn (eVar 2) (eTup (zad (eC (.str "sum")) (zad (eC (.str "place")) aNil)))) (zgL dLe dLt (eC (.int 0)) (eIxV 1 (eC (.int 1))) (zba za4 (zad (eVar 0) (zad (eVar 2) aNil)))))))
noncomputable def zez : List D -> Option Sl := fP 3 zhk
theorem zlv (za7 : FD P w K mg base 1 "numbers_many" (spP K 2 za4)) (h : FnAt K "is_step" zhZ) : FD P w K mg base 2 "is_step" (spP K 2 zez) :=
 fdP (N := ["line", "step", "kind"]) (k := 1) (m := zhk) X G h fun _ _ _ _ _ _ _ hr nd => (zag (zar 2 (zaj 1 zae) nd)
  (zan (zax (zhV (se_in (zab 2) (zaT (zaa zbw (zaa zbw zaf)))) (zhG (zk2 zmt op_lt zeK zeK zae (zaj 1 zae) (zav za7 hr (zaa (zab 0) (zaa (zab 2) zaf)) (hlen := (zac (zac zak))))))))))
noncomputable abbrev zgU : Stmt := top 12
noncomputable def zfl : MS :=
 (sRet (eTup (zad (eVar 4) (zad (eVar 3) (zad (eIf (tTru (m2 dEq (eVar 2) (eC (.str "sum")))) (m1 dNeg (m2 dIx (eIxV 0 (eC (.int 1))) (eVar 3))) (m1 dNeg (m2 dIx (eIxV 0 (eC (.int 3))) (eVar 3)))) aNil)))))
noncomputable def zfL : MS :=
 (sSeq (sSet 2 (eIxV 1 (eC (.int 0))))
  (sSeq (sSet 3 (eIxV 1 (eC (.int 1))))
  (sSeq (sSet 4 (m2 dAdd (eVar 3) (eIf (tTru (m2 dEq (eVar 2) (eC (.str "sum")))) (eIxV 0 (eC (.int 0))) (eC (.int 1)))))
  (sSeq (sIf (tTru (eIxV 1 (eC (.int 2))))
  (sRet (eTup (zad (eVar 3) (zad (eVar 4) (zad (eIf (tTru (m2 dEq (eVar 2) (eC (.str "sum")))) (m2 dIx (eIxV 0 (eC (.int 1))) (eVar 3)) (m2 dIx (eIxV 0 (eC (.int 2))) (eVar 3))) aNil)))))
  zbg)
  zfl))))
noncomputable def zbc : List D -> Option Sl := fP 5 zfL
theorem zjN  (h : FnAt K "step_walk" zgU) : FD P w K mg base 1 "step_walk" (spP K 2 zbc) :=
 fdP (N := ["line", "step", "kind", "i", "over"]) (k := 0) (m := zfL) X G h fun _ _ _ _ _ _ _ hr nd => (zag (zar 2 (zaj 1 zae) nd)
  (zag (zar 3 (zaj 1 zae) nd)
  (zag (zar 4 (zaq (zab 3) (zeW (zb3 hr.units (zab 2) zbw) (zaj 0 zae) zae)) nd)
  (zag (zbl (zdZ (zaj 1 zae))
  (zan (zax (zaT (zaa (zab 3) (zaa (zab 4) (zaa (zeW (zb3 hr.units (zab 2) zbw) (zaI (zaj 0 zae) (zab 3)) (zaI (zaj 0 zae) (zab 3))) zaf))))))
  zaz)
  (zan (zax (zaT (zaa (zab 4) (zaa (zab 3) (zaa (zeW (zb3 hr.units (zab 2) zbw) (zbH (zaI (zaj 0 zae) (zab 3))) (zbH (zaI (zaj 0 zae) (zab 3)))) zaf))))))))))
noncomputable abbrev zhh : Stmt := top 13
noncomputable def zf0 : ME :=
 (eTup (zad (eVar 0) (zad (eVar 1) (zad (eC (.bl true)) aNil))))
noncomputable def zfX : MO :=
 oLC [1] 1 (iR1 (zad (eVar 2) aNil)) (gN 1) zbh zf0
noncomputable def zgd : ME :=
 (eTup (zad (eVar 0) (zad (eVar 1) (zad (eC (.bl false)) aNil))))
noncomputable def zgg : MO :=
 oLC [1] 1 (iR3N (zad (m2 dSub (eVar 2) (eC (.int 1))) (zad (m1 dNeg (eC (.int 1))) (zad (m1 dNeg (eC (.int 1))) aNil)))) (gN 1) zbh zgd
noncomputable def zgz : MS :=
 (sSeq (sSet 2 (zba za4 (zad (eVar 0) (zad (eVar 1) aNil))))
  (sRet (m2 dAdd (eFz zfX) (eFz zgg))))
noncomputable def zbD : List D -> Option Sl := fP 3 zgz
theorem zki (za7 : FD P w K mg base 1 "numbers_many" (spP K 2 za4)) (h : FnAt K "steps_of" zhh) : FD P w K mg base 2 "steps_of" (spP K 2 zbD) :=
 fdP (N := ["line", "kind", "many"]) (k := 1) (m := zgz) X G h fun _ _ _ _ _ _ _ hr nd => (zag (zar 2 (zav za7 hr (zaa (zab 0) (zaa (zab 1) zaf)) (hlen := (zac (zac zak)))) nd)
  (zan (zax (zaq (SO.se (zcD [1] 1 ["kind", "i"] rfl (zaM bn.range' (zaa (zab 2) zaf)) (fun C s H fp => (zam 1 ndk)) (fun C s H fp => zaG) (fun C s H fp => (zaT (zaa (zab 0) (zaa (zab 1) (zaa zgl zaf))))))) (SO.se (zcD [1] 1 ["kind", "i"] rfl (zlr bn.range' (zaa (za6 (zab 2) zae) (zaa (zbH zae) (zaa (zbH zae) zaf)))) (fun C s H fp => (zam 1 ndk)) (fun C s H fp => zaG) (fun C s H fp => (zaT (zaa (zab 0) (zaa (zab 1) (zaa zgl zaf)))))))))))
noncomputable abbrev zhx : Stmt := top 14
noncomputable def zgi : ME :=
 (zba zbc (zad (eVar 0) (zad (eVar 1) aNil)))
noncomputable def zfU : MO :=
 oLC [0] 1 (iSeq (zba zbD (zad (eVar 0) (zad (eVar 1) aNil)))) (gN 1) zbh zgi
noncomputable def zgo : MS :=
 (zj7 zfU)
noncomputable def zbr : List D -> Option Sl := fP 2 zgo
theorem zjW (za3 : FD P w K mg base 1 "step_walk" (spP K 2 zbc)) (zbC : FD P w K mg base 2 "steps_of" (spP K 2 zbD)) (h : FnAt K "walks_of" zhx) : FD P w K mg base 3 "walks_of" (spP K 2 zbr) :=
 fdP (N := ["line", "kind"]) (k := 2) (m := zgo) X G h fun _ _ _ _ _ _ _ hr nd => (zan (zhF (zcD [0] 1 ["line", "step"] rfl (zbx (zav zbC hr (zaa (zab 0) (zaa (zab 1) zaf)) (hlen := (zac (zac zak))))) (fun C s H fp => (zam 1 ndk)) (fun C s H fp => zaG) (fun C s H fp => (zav za3 hr (zaa (zab 0) (zaa (zab 1) zaf)) (hlen := (zac (zac zak))))))))
noncomputable abbrev zh4 : Stmt := top 15
noncomputable def zhc : MS :=
 (sRet (eIf (tTru (m2 dIsN (eVar 0) (eC .non))) (eVar 1) (mC (d2I max2) (zad (eVar 0) (zad (eVar 1) aNil)))))
noncomputable def zdK : List D -> Option Sl := fP 2 zhc
theorem zlz  (h : FnAt K "more_of" zh4) : FD P w K mg base 1 "more_of" (spP K 2 zdK) :=
 fdP (N := ["asks", "other"]) (k := 0) (m := zhc) X G h fun _ _ _ _ _ _ _ hr nd => (zan (zax (zeW (st_is (zab 0) zcm) (zab 1) (ziF rfl bn.max' (zaa (zab 0) (zaa (zab 1) zaf))))))
noncomputable abbrev zgm : Stmt := top 16
noncomputable def zeN : MS :=
 (sPut 3 (eVar 5) (zba zdK (zad (eIxV 3 (eVar 5)) (zad (m2 dAdd (eIxV 2 (eVar 4)) (eVar 6)) aNil))))
noncomputable def zcz : MS :=
 sFor (iSeq (eVar 0)) (gT 3 (zas (gN 4) (zas (gN 5) (zas (gN 6) zcs)))) zeN
noncomputable def zcv : MS :=
 (sPut 3 (eVar 5) (zba zdK (zad (eIxV 3 (eVar 5)) (zad (m2 dAdd (eIxV 3 (eVar 4)) (eVar 6)) aNil))))
noncomputable def zcL : MS :=
 sFor (iSeq (eVar 1)) (gT 3 (zas (gN 4) (zas (gN 5) (zas (gN 6) zcs)))) zcv
noncomputable def zey : MS :=
 (sSeq (zeY 3 (oRep (eFz (oLst (zad (eC .non) aNil))) (zbY 2)))
  (sSeq zcz
  (sSeq zcL
  (zix 3))))
noncomputable def zb1 : List D -> Option Sl := fP 7 zey
theorem zim (zeU : FD P w K mg base 1 "more_of" (spP K 2 zdK)) (h : FnAt K "one_sum_on" zgm) : FD P w K mg base 2 "one_sum_on" (spP K 3 zb1) :=
 fdP (N := ["sum_walks", "place_walks", "asks", "grown", "start", "end", "ask"]) (k := 1) (m := zey) X G h fun _ _ _ _ _ _ _ hr nd => (zag (zbM 3 (zlK (SO.se (za1 (zaa zcm zaf))) (zaY 2 bn.len')) nd)
  (zag (zck PassesOwn.never rfl (zbx (zab 0)) (zbu rfl (zao (zam 4 nd) (zao (zam 5 nd) (zao (zam 6 nd) za0))))
  (zan (zf2 3 (zav zeU hr (zaa (zaj 3 (zab 5)) (zaa (zaq (zaj 2 (zab 4)) (zab 6)) zaf)) (hlen := (zac (zac zak)))) (zab 5))))
  (zag (zck PassesOwn.never rfl (zbx (zab 1)) (zbu rfl (zao (zam 4 nd) (zao (zam 5 nd) (zao (zam 6 nd) za0))))
  (zan (zf2 3 (zav zeU hr (zaa (zaj 3 (zab 5)) (zaa (zaq (zaj 3 (zab 4)) (zab 6)) zaf)) (hlen := (zac (zac zak)))) (zab 5))))
  (zan (zgA 3)))))
noncomputable abbrev zgb : Stmt := top 17
noncomputable def zeM : ME :=
 (m1 dNeg (m2 dDiv (m2 dSub (m2 dIx (eIxV 0 (eVar 3)) (eVar 1)) (m2 dIx (eIxV 0 (m1 dNeg (eC (.int 1)))) (eVar 1))) (m2 dSub (eVar 2) (eVar 3))))
noncomputable def zeB : MO :=
 oLC [0, 1, 2] 1 (iR1 (zad (eVar 2) aNil)) (gN 3) zbh zeM
noncomputable def zeD : MS :=
 (sSeq (sSet 2 (m2 dSub (zbY 0) (eC (.int 1))))
  (sRet (mC dMinL (zad (eFz zeB) aNil))))
noncomputable def zbm : List D -> Option Sl := fP 3 zeD
theorem zic  (h : FnAt K "least_mean" zgb) : FD P w K mg base 1 "least_mean" (spP K 2 zbm) :=
 fdP (N := ["layers", "cut", "longest"]) (k := 0) (m := zeD) X G h fun _ _ _ _ _ _ _ hr nd => (zag (zar 2 (za6 (zaY 0 bn.len') zae) nd)
  (zan (zax (se_minL rfl bn.min' (zaa (SO.se (zcD [0, 1, 2] 1 ["layers", "cut", "longest", "j"] rfl (zaM bn.range' (zaa (zab 2) zaf)) (fun C s H fp => (zam 3 ndk)) (fun C s H fp => zaG) (fun C s H fp => (zbH (zjc (za6 (zaI (zaj 0 (zab 3)) (zab 1)) (zaI (zaj 0 (zbH zae)) (zab 1))) (za6 (zab 2) (zab 3))))))) zaf)))))
noncomputable abbrev zgH : Stmt := top 18
noncomputable def zfa : MS :=
 (sApp 4 (zba zb1 (zad (eVar 1) (zad (eVar 2) (zad (eIxV 4 (m1 dNeg (eC (.int 1)))) aNil)))))
noncomputable def zfu : MS :=
 sFor (iR1 (zad (eVar 3) aNil)) (gN 5) zfa
noncomputable def zfe : ME :=
 (zba zbm (zad (eVar 0) (zad (eVar 1) aNil)))
noncomputable def zfA : MO :=
 oLC [4] 1 (iR1 (zad (eVar 3) aNil)) (gN 1) zbh zfe
noncomputable def zfN : MS :=
 (sSeq (sSet 1 (zba zbr (zad (eVar 0) (zad (eC (.str "sum")) aNil))))
  (sSeq (sSet 2 (zba zbr (zad (eVar 0) (zad (eC (.str "place")) aNil))))
  (sSeq (sSet 3 (m2 dAdd (mC dLen (zad (eIxV 0 (eC (.int 2))) aNil)) (eC (.int 1))))
  (sSeq (zeY 4 (oLst (zad (m2 dMul (eFz (oLst (zad (eC (.int 0)) aNil))) (eVar 3)) aNil)))
  (sSeq zfu
  (sRet (mC dMaxL (zad (eFz zfA) aNil))))))))
noncomputable def zcT : List D -> Option Sl := fP 6 zfN
theorem zi9 (zd2 : FD P w K mg base 1 "least_mean" (spP K 2 zbm)) (zdU : FD P w K mg base 2 "one_sum_on" (spP K 3 zb1)) (zbo : FD P w K mg base 3 "walks_of" (spP K 2 zbr)) (h : FnAt K "least_far" zgH) : FD P w K mg base 4 "least_far" (spP K 1 zcT) :=
 fdP (N := ["line", "sum_walks", "place_walks", "cuts", "layers", "turn"]) (k := 3) (m := zfN) X G h fun _ _ _ _ _ _ _ hr nd => (zag (zar 1 (zav zbo hr (zaa (zab 0) (zaa zbw zaf)) (hlen := (zac (zac zak)))) nd)
  (zag (zar 2 (zav zbo hr (zaa (zab 0) (zaa zbw zaf)) (hlen := (zac (zac zak)))) nd)
  (zag (zar 3 (zaq (zfx bn.len' (zaa (zaj 0 zae) zaf)) zae) nd)
  (zag (zbM 4 (za1 (zaa (zbv (SO.se (za1 (zaa zae zaf))) (zab 3)) zaf)) nd)
  (zag (zck PassesOwn.never rfl (zaM bn.range' (zaa (zab 3) zaf)) (zam 5 nd)
  (zan (zh6 4 (zav zdU hr (zaa (zab 1) (zaa (zab 2) (zaa (zaj 4 (zbH zae)) zaf))) (hlen := (zac (zac (zac zak))))))))
  (zan (zax (se_maxL rfl bn.max' (zaa (SO.se (zcD [4] 1 ["layers", "cut"] rfl (zaM bn.range' (zaa (zab 3) zaf)) (fun C s H fp => (zam 1 ndk)) (fun C s H fp => zaG) (fun C s H fp => (zav zd2 hr (zaa (zab 0) (zaa (zab 1) zaf)) (hlen := (zac (zac zak))))))) zaf)))))))))
noncomputable abbrev zhD : Stmt := top 19
noncomputable def zgh : ME :=
 (eTup (zad (eVar 0) (zad (eVar 1) (zad (m1 dNeg (eVar 2)) aNil))))
noncomputable def zf5 : MO :=
 oLC [] 3 (iSeq (zba zbr (zad (eVar 0) (zad (eC (.str "place")) aNil)))) (gT 3 (zas (gN 0) (zas (gN 1) (zas (gN 2) zcs)))) zbh zgh
noncomputable def zfS : ME :=
 (eTup (zad (eVar 1) (zad (eVar 2) (zad (m2 dSub (eVar 0) (eVar 3)) aNil))))
noncomputable def zgc : MO :=
 oLC [1] 3 (iSeq (zba zbr (zad (eVar 0) (zad (eC (.str "sum")) aNil)))) (gT 3 (zas (gN 1) (zas (gN 2) (zas (gN 3) zcs)))) zbh zfS
noncomputable def zgD : MS :=
 (sSeq (sSet 2 (eFz zf5))
  (sRet (m2 dAdd (eVar 2) (eFz zgc))))
noncomputable def zbS : List D -> Option Sl := fP 3 zgD
theorem zjT (zbo : FD P w K mg base 3 "walks_of" (spP K 2 zbr)) (h : FnAt K "far_ties" zhD) : FD P w K mg base 4 "far_ties" (spP K 2 zbS) :=
 fdP (N := ["line", "far", "ties"]) (k := 3) (m := zgD) X G h fun _ _ _ _ _ _ _ hr nd => (zag (zf8 2 [] 3 ["start", "end", "ask"] rfl (zbx (zav zbo hr (zaa (zab 0) (zaa zbw zaf)) (hlen := (zac (zac zak))))) (fun C s H fp => (zbu rfl (zao (zam 0 ndk) (zao (zam 1 ndk) (zao (zam 2 ndk) za0))))) (fun C s H fp => zaG) (fun C s H fp => (zaT (zaa (zab 0) (zaa (zab 1) (zaa (zbH (zab 2)) zaf))))) nd)
  (zan (zax (zaq (zab 2) (SO.se (zcD [1] 3 ["far", "start", "end", "ask"] rfl (zbx (zav zbo hr (zaa (zab 0) (zaa zbw zaf)) (hlen := (zac (zac zak))))) (fun C s H fp => (zbu rfl (zao (zam 1 ndk) (zao (zam 2 ndk) (zao (zam 3 ndk) za0))))) (fun C s H fp => zaG) (fun C s H fp => (zaT (zaa (zab 1) (zaa (zab 2) (zaa (za6 (zab 0) (zab 3)) zaf)))))))))))
noncomputable abbrev zge : Stmt := top 20
noncomputable def zeO : MS :=
 (sDPT 4 (eCut (zba zbc (zad (eVar 0) (zad (eVar 5) aNil))) pNo (zbt (eC (.int 2)))) (eVar 5))
noncomputable def zcH : MS :=
 sFor (iSeq (m2 dAdd (zba zbD (zad (eVar 0) (zad (eC (.str "place")) aNil))) (zba zbD (zad (eVar 0) (zad (eC (.str "sum")) aNil))))) (gN 5) zeO
noncomputable def zeq : ME :=
 (eDGT 0 (eVar 1))
noncomputable def zeh : MO :=
 oLC [4] 1 (iZ2 (zad (eVar 3) (zad (m2 dAdd (eCut (eVar 3) (zbt (eC (.int 1))) pNo) (eCut (eVar 3) pNo (zbt (eC (.int 1))))) aNil))) (gN 1) zbh zeq
noncomputable def zer : MS :=
 (sSeq (sSet 2 (zba zaQ (zad (zba zbS (zad (eVar 0) (zad (eVar 1) aNil))) (zad (m2 dAdd (mC dLen (zad (eIxV 0 (eC (.int 2))) aNil)) (eC (.int 1))) (zad (eC (.int 0)) aNil)))))
  (sSeq (sSet 3 (zba zby (zad (eIxV 2 (eC (.int 1))) (zad (eIxV 2 (eC (.int 2))) aNil))))
  (sSeq (sDNT 4)
  (sSeq zcH
  (sFzDT 4 (zj7 zeh))))))
noncomputable def zb2 : List D -> Option Sl := fP 6 zer
theorem zib (zcS : FD P w K mg base 1 "falling_loop" (spP K 2 zby)) (zbX : FD P w K mg base 4 "far_ties" (spP K 2 zbS)) (zaU : FD P w K mg base 1 "greatest_shifts" (spP K 3 zaQ)) (za3 : FD P w K mg base 1 "step_walk" (spP K 2 zbc)) (zbC : FD P w K mg base 2 "steps_of" (spP K 2 zbD)) (h : FnAt K "way_beyond" zge) : FD P w K mg base 5 "way_beyond" (spP K 2 zb2) :=
 fdP (N := ["line", "far", "found", "cuts", "steps", "step"]) (k := 4) (m := zer) X G h fun _ _ _ _ _ _ _ hr nd => (zag (zar 2 (zav zaU hr (zaa (zav zbX hr (zaa (zab 0) (zaa (zab 1) zaf)) (hlen := (zac (zac zak)))) (zaa (zaq (zfx bn.len' (zaa (zaj 0 zae) zaf)) zae) (zaa zae zaf))) (hlen := (zac (zac (zac zak))))) nd)
  (zag (zar 3 (zav zcS hr (zaa (zaj 2 zae) (zaa (zaj 2 zae) zaf)) (hlen := (zac (zac zak)))) nd)
  (zag (ss_dNewT 4 nd)
  (zag (zck PassesOwn.never rfl (zbx (zaq (zav zbC hr (zaa (zab 0) (zaa zbw zaf)) (hlen := (zac (zac zak)))) (zav zbC hr (zaa (zab 0) (zaa zbw zaf)) (hlen := (zac (zac zak)))))) (zam 5 nd)
  (zan (ss_dPutT 4 hr.units (zab 5) (zbj (zav za3 hr (zaa (zab 0) (zaa (zab 5) zaf)) (hlen := (zac (zac zak)))) zdt (zaL zae)))))
  (zan (ss_fzDT 4 (zhF (zcD [4] 1 ["steps", "pair"] rfl (zeT bn.zip' (zaa (zab 3) (zaa (zaq (zbj (zab 3) (zaL zae) zdt) (zbj (zab 3) zdt (zaL zae))) zaf))) (fun C s H fp => (zam 1 ndk)) (fun C s H fp => zaG) (fun C s H fp => (se_dGetT 0 hr.units (zab 1)))))))))))
noncomputable abbrev zhu : Stmt := top 21
noncomputable def zgx : MS :=
 (sSeq (sSet 1 (zba zcT (zad (eVar 0) aNil)))
  (sSeq (sSet 2 (zba zbs (zad (zba zbS (zad (eVar 0) (zad (eVar 1) aNil))) (zad (mC dLen (zad (eIxV 0 (eC (.int 2))) aNil)) aNil))))
  (sRet (eTup (zad (eVar 1) (zad (eVar 2) (zad (eIf (tTru (m2 dEq (eVar 1) (eC (.int 0)))) (eC .non) (zba zb2 (zad (eVar 0) (zad (m2 dSub (eVar 1) (eC (.int 1))) aNil)))) aNil)))))))
noncomputable def zdI : List D -> Option Sl := fP 3 zgx
theorem zj8 (zbX : FD P w K mg base 4 "far_ties" (spP K 2 zbS)) (zeu : FD P w K mg base 4 "least_far" (spP K 1 zcT)) (zdw : FD P w K mg base 2 "row_by_cuts" (spP K 2 zbs)) (zdY : FD P w K mg base 5 "way_beyond" (spP K 2 zb2)) (h : FnAt K "line_off" zhu) : FD P w K mg base 6 "line_off" (spP K 1 zdI) :=
 fdP (N := ["line", "far", "row"]) (k := 5) (m := zgx) X G h fun _ _ _ _ _ _ _ hr nd => (zag (zar 1 (zav zeu hr (zaa (zab 0) zaf) (hlen := (zac zak))) nd)
  (zag (zar 2 (zav zdw hr (zaa (zav zbX hr (zaa (zab 0) (zaa (zab 1) zaf)) (hlen := (zac (zac zak)))) (zaa (zfx bn.len' (zaa (zaj 0 zae) zaf)) zaf)) (hlen := (zac (zac zak)))) nd)
  (zan (zax (zaT (zaa (zab 1) (zaa (zab 2) (zaa (zeW (zb3 hr.units (zab 1) zae) zcm (zav zdY hr (zaa (zab 0) (zaa (za6 (zab 1) zae) zaf)) (hlen := (zac (zac zak))))) zaf))))))))
noncomputable abbrev zhf : Stmt := top 22
noncomputable def zf9 : ME :=
 (m2 dLe (mC dAbs (zad (m2 dSub (eVar 1) (eVar 2)) aNil)) (eVar 0))
noncomputable def zfZ : MO :=
 oLC [1] 2 (iZ2 (zad (zba zbT (zad (eVar 2) (zad (eIxV 0 (eC (.int 0))) aNil))) (zad (eIxV 0 (eC (.int 1))) aNil))) (gT 2 (zas (gN 1) (zas (gN 2) zcs))) zbh zf9
noncomputable def zf1 : MS :=
 (sRet (mC (dAll fun bs => bs.all id) (zad (eFz zfZ) aNil)))
noncomputable def zgt : MS :=
 (sSeq (sIf (zkl (tTru (zba zb5 (zad (eVar 2) (zad (eIxV 0 (eC (.int 2))) (zad (eIxV 0 (eC (.int 3))) aNil))))))
  (sRet (eC (.bl false)))
  zbg)
  zf1)
noncomputable def zdP : List D -> Option Sl := fP 3 zgt
theorem zkc (zet : FD P w K mg base 1 "line_sums" (spP K 2 zbT)) (zdT : FD P w K mg base 1 "row_within" (spP K 3 zb5)) (h : FnAt K "row_near" zhf) : FD P w K mg base 2 "row_near" (spP K 3 zdP) :=
 fdP (N := ["line", "far", "row"]) (k := 1) (m := zgt) X G h fun _ _ _ _ _ _ _ hr nd => (zag (zbl (zjj (zdZ (zav zdT hr (zaa (zab 2) (zaa (zaj 0 zae) (zaa (zaj 0 zae) zaf))) (hlen := (zac (zac (zac zak)))))))
  (zan (zax zgl))
  zaz)
  (zan (zax (zjJ rfl bn.all' (zaa (SO.se (zcD [1] 2 ["far", "total", "told"] rfl (zeT bn.zip' (zaa (zav zet hr (zaa (zab 2) (zaa (zaj 0 zae) zaf)) (hlen := (zac (zac zak)))) (zaa (zaj 0 zae) zaf))) (fun C s H fp => (zbu rfl (zao (zam 1 ndk) (zao (zam 2 ndk) za0)))) (fun C s H fp => zaG) (fun C s H fp => (se_le (se_abs bn.abs' (zaa (za6 (zab 1) (zab 2)) zaf)) (zab 0))))) zaf)))))
noncomputable abbrev zgJ : Stmt := top 23
noncomputable def ze1 : ME :=
 (eVar 1)
noncomputable def zfh : MO :=
 oLC [] 3 (iSeq (eVar 0)) (gT 3 (zas (gN 0) (zas (gN 1) (zas (gN 2) zcs)))) zbh ze1
noncomputable def zfo : ME :=
 (eVar 0)
noncomputable def zfn : MO :=
 oLC [] 3 (iSeq (m2 dAdd (eCut (eVar 0) (zbt (eC (.int 1))) pNo) (eCut (eVar 0) pNo (zbt (eC (.int 1)))))) (gT 3 (zas (gN 0) (zas (gN 1) (zas (gN 2) zcs)))) zbh zfo
noncomputable def zfC : MS :=
 (sRet (m2 dEq (eFz zfh) (eFz zfn)))
noncomputable def zcG : List D -> Option Sl := fP 1 zfC
theorem zi1  (h : FnAt K "is_closed" zgJ) : FD P w K mg base 1 "is_closed" (spP K 1 zcG) :=
 fdP (N := ["walks"]) (k := 0) (m := zfC) X G h fun _ _ _ _ _ _ _ hr nd => (zan (zax (zjw hr.units (SO.se (zcD [] 3 ["start", "end", "ask"] rfl (zbx (zab 0)) (fun C s H fp => (zbu rfl (zao (zam 0 ndk) (zao (zam 1 ndk) (zao (zam 2 ndk) za0))))) (fun C s H fp => zaG) (fun C s H fp => (zab 1)))) (SO.se (zcD [] 3 ["start", "end", "ask"] rfl (zbx (zaq (zbj (zab 0) (zaL zae) zdt) (zbj (zab 0) zdt (zaL zae)))) (fun C s H fp => (zbu rfl (zao (zam 0 ndk) (zao (zam 1 ndk) (zao (zam 2 ndk) za0))))) (fun C s H fp => zaG) (fun C s H fp => (zab 0)))))))
noncomputable abbrev zgN : Stmt := top 24
noncomputable def zdm : ME :=
 (zba zez (zad (eVar 0) (zad (eVar 1) aNil)))
noncomputable def ze5 : MO :=
 oLC [0] 1 (iSeq (eVar 2)) (gN 1) zbh zdm
noncomputable def zdq : ME :=
 (zba zbc (zad (eVar 0) (zad (eVar 1) aNil)))
noncomputable def zfs : MO :=
 oLC [0] 1 (iSeq (eVar 2)) (gN 1) zbh zdq
noncomputable def zfr : ME :=
 (eVar 2)
noncomputable def zfy : MO :=
 oLC [] 3 (iSeq (eVar 3)) (gT 3 (zas (gN 0) (zas (gN 1) (zas (gN 2) zcs)))) zbh zfr
noncomputable def zdl : ME :=
 (eVar 0)
noncomputable def zdp : MT :=
 (tTru (m2 dEq (eIxV 0 (eC (.int 0))) (eC (.str "sum"))))
noncomputable def zfz : MO :=
 oLC [] 1 (iSeq (eVar 2)) (gN 0) zdp zdl
noncomputable def zds : MS :=
 (sSeq (sSet 3 (eFz zfs))
  (sSeq (sSet 4 (mC dSum (zad (eFz zfy) aNil)))
  (sSeq (sSet 5 (mC dLen (zad (eFz zfz) aNil)))
  (sRet (eAnd (zba zcG (zad (eVar 3) aNil)) (m2 dGt (eVar 4) (m2 dMul (m2 dSub (eVar 1) (eC (.int 1))) (eVar 5))))))))
noncomputable def zfE : MS :=
 (sSeq (sIf (tOrM (tTru (m2 dEq (zbY 2) (eC (.int 0)))) (zkl (tTru (mC (dAll fun bs => bs.all id) (zad (eFz ze5) aNil)))))
  (sRet (eC (.bl false)))
  zbg)
  zds)
noncomputable def zcN : List D -> Option Sl := fP 6 zfE
theorem ziR (zeF : FD P w K mg base 1 "is_closed" (spP K 1 zcG)) (zgn : FD P w K mg base 2 "is_step" (spP K 2 zez)) (za3 : FD P w K mg base 1 "step_walk" (spP K 2 zbc)) (h : FnAt K "way_right" zgN) : FD P w K mg base 3 "way_right" (spP K 3 zcN) :=
 fdP (N := ["line", "far", "way", "walks", "asked", "many"]) (k := 2) (m := zfE) X G h fun _ _ _ _ _ _ _ hr nd => (zag (zbl (STw.st (zjg (zb3 hr.units (zaY 2 bn.len') zae) (zhe (zjj (zdZ (zjJ rfl bn.all' (zaa (SO.se (zcD [0] 1 ["line", "step"] rfl (zbx (zab 2)) (fun C s H fp => (zam 1 ndk)) (fun C s H fp => zaG) (fun C s H fp => (zav zgn hr (zaa (zab 0) (zaa (zab 1) zaf)) (hlen := (zac (zac zak))))))) zaf)))))))
  (zan (zax zgl))
  zaz)
  (zag (zf8 3 [0] 1 ["line", "step"] rfl (zbx (zab 2)) (fun C s H fp => (zam 1 ndk)) (fun C s H fp => zaG) (fun C s H fp => (zav za3 hr (zaa (zab 0) (zaa (zab 1) zaf)) (hlen := (zac (zac zak))))) nd)
  (zag (zar 4 (zlR rfl bn.sum' (zaa (SO.se (zcD [] 3 ["start", "end", "ask"] rfl (zbx (zab 3)) (fun C s H fp => (zbu rfl (zao (zam 0 ndk) (zao (zam 1 ndk) (zao (zam 2 ndk) za0))))) (fun C s H fp => zaG) (fun C s H fp => (zab 2)))) zaf)) nd)
  (zag (zar 5 (zfx bn.len' (zaa (SO.se (zcD [] 1 ["step"] rfl (zbx (zab 2)) (fun C s H fp => (zam 0 ndk)) (fun C s H fp => (zlP (zb3 hr.units (zaj 0 zae) zbw))) (fun C s H fp => (zab 0)))) zaf)) nd)
  (zan (zax (zhV (zav zeF hr (zaa (zab 3) zaf) (hlen := (zac zak))) (zhG (se_gt (zab 4) (zbv (za6 (zab 1) zae) (zab 5)))))))))))
noncomputable abbrev zgS : Stmt := top 25
noncomputable def zfp : MS :=
 (sRet (zba zcN (zad (eVar 0) (zad (eVar 2) (zad (eVar 3) aNil)))))
noncomputable def zfj : MS :=
 (sSeq (sIf (tOrM (tTru (m2 dEq (eVar 2) (eC (.int 0)))) (tTru (m2 dIsN (eVar 3) (eC .non))))
  (sRet (eAnd (m2 dEq (eVar 2) (eC (.int 0))) (m2 dIsN (eVar 3) (eC .non))))
  zbg)
  zfp)
noncomputable def zfF : MS :=
 (sSeq (sSet 2 (eIxV 1 (eC (.int 0))))
  (sSeq (sSet 3 (eIxV 1 (eC (.int 2))))
  (sSeq (sIf (zkl (tTru (zba zdP (zad (eVar 0) (zad (eVar 2) (zad (eIxV 1 (eC (.int 1))) aNil))))))
  (sRet (eC (.bl false)))
  zbg)
  zfj)))
noncomputable def zcM : List D -> Option Sl := fP 4 zfF
theorem zjb (zfK : FD P w K mg base 2 "row_near" (spP K 3 zdP)) (zej : FD P w K mg base 3 "way_right" (spP K 3 zcN)) (h : FnAt K "off_right" zgS) : FD P w K mg base 4 "off_right" (spP K 2 zcM) :=
 fdP (N := ["line", "told", "far", "way"]) (k := 3) (m := zfF) X G h fun _ _ _ _ _ _ _ hr nd => (zag (zar 2 (zaj 1 zae) nd)
  (zag (zar 3 (zaj 1 zae) nd)
  (zag (zbl (zjj (zdZ (zav zfK hr (zaa (zab 0) (zaa (zab 2) (zaa (zaj 1 zae) zaf))) (hlen := (zac (zac (zac zak)))))))
  (zan (zax zgl))
  zaz)
  (zag (zbl (STw.st (zjg (zb3 hr.units (zab 2) zae) (zhe (st_is (zab 3) zcm))))
  (zan (zax (zhV (zjw hr.units (zab 2) zae) (zhG (se_is (zab 3) zcm)))))
  zaz)
  (zan (zax (zav zej hr (zaa (zab 0) (zaa (zab 2) (zaa (zab 3) zaf))) (hlen := (zac (zac (zac zak)))))))))))
noncomputable abbrev zgV : Stmt := top 27
noncomputable def zfb : MS :=
 (sSeq (sSet 3 (m2 dMod (m2 dAdd (m2 dMul (eVar 3) (eC (.int 48271))) (eC (.int 12345))) (eC (.int 2147483647))))
  (sSet 4 (m2 dAdd (m2 dMul (eVar 4) (eC (.int 16777216))) (m2 dMod (m2 dDiv (m2 dMod (m2 dMul (eVar 3) (eVar 3)) (eC (.int 2147483629))) (eC (.int 64))) (eC (.int 16777216))))))
noncomputable def zdu : MS :=
 sFor (iR1 (zad (eC (.int 40)) aNil)) (gN 5) zfb
noncomputable def zfd : MS :=
 (sSeq (sSet 3 (m2 dAdd (m2 dAdd (m2 dMod (eVar 2) (eC (.int 2147483629))) (m2 dMul (eC (.int 7919)) (eVar 1))) (eC (.int 1))))
  (sSeq (sSet 4 (eC (.int 0)))
  (sSeq zdu
  (zj7 (oLst (zad (eVar 4) aNil))))))
noncomputable def zdx : MS :=
 (sSeq (sIf (tTru (m2 dGe (eVar 2) (m2 dPow (eC (.int 10)) (eC (.int 18)))))
  (zj7 (oLst (zad (m2 dSub (eVar 2) (m2 dPow (eC (.int 10)) (eC (.int 18)))) aNil)))
  zbg)
  zfd)
noncomputable def zfP : MS :=
 (sSeq (sSet 2 (eC (.int 0)))
  (sSeq (sIf (tTru (m2 dLt (eVar 1) (zbY 0)))
  (sSet 2 (m2 dMod (eIxV 0 (eVar 1)) (m2 dMul (m2 dMul (m2 dMul (m2 dPow (eC (.int 10)) (eC (.int 60))) (m2 dPow (eC (.int 10)) (eC (.int 60)))) (m2 dPow (eC (.int 10)) (eC (.int 60)))) (m2 dPow (eC (.int 10)) (eC (.int 60))))))
  zbg)
  zdx))
noncomputable def zcB : List D -> Option Sl := fP 6 zfP
theorem zi7  (h : FnAt K "_law_deal" zgV) : FD P w K mg base 1 "_law_deal" (spP K 2 zcB) :=
 fdP (N := ["script", "k", "cell", "seed", "number", "turn"]) (k := 0) (m := zfP) X G h fun _ _ _ _ _ _ _ hr nd => (zag (zar 2 zae nd)
  (zag (zbl (st_lt (zab 1) (zaY 0 bn.len'))
  (zan (zar 2 (zgO (zaj 0 (zab 1)) (zbv (zbv (zbv (zde zae zae) (zde zae zae)) (zde zae zae)) (zde zae zae))) nd))
  zaz)
  (zag (zbl (st_ge (zab 2) (zde zae zae))
  (zan (zhF (za1 (zaa (za6 (zab 2) (zde zae zae)) zaf))))
  zaz)
  (zag (zar 3 (zaq (zaq (zgO (zab 2) zae) (zbv zae (zab 1))) zae) nd)
  (zag (zar 4 zae nd)
  (zag (zck PassesOwn.never rfl (zaM bn.range' (zaa zae zaf)) (zam 5 nd)
  (zag (zar 3 (zgO (zaq (zbv (zab 3) zae) zae) zae) nd)
  (zan (zar 4 (zaq (zbv (zab 4) zae) (zgO (zjc (zgO (zbv (zab 3) (zab 3)) zae) zae) zae)) nd))))
  (zan (zhF (za1 (zaa (zab 4) zaf))))))))))
noncomputable abbrev zgI : Stmt := top 28
noncomputable def zfD : MS :=
 (sSeq (sSet 2 (m2 dMod (eIxV 0 (eC (.int 0))) (eVar 1)))
  (sSeq (sPut 0 (eC (.int 0)) (m2 dDiv (eIxV 0 (eC (.int 0))) (eVar 1)))
  (zix 2)))
noncomputable def zal : List D -> List D -> Option (Sl × List D) := fM 3 zfD
theorem zjA  (h : FnAt K "_law_take" zgI) : FD P w K mg base 1 "_law_take" (spM K 2 zal) :=
 fdM (N := ["pot", "many", "digit"]) (k := 0) (m := zfD) X G h fun _ _ _ _ _ _ _ hr nd => (zag (zar 2 (zgO (zaj 0 zae) (zab 1)) nd)
  (zag (zf2 0 (zjc (zaj 0 zae) (zab 1)) zae)
  (zan (zgA 2))))
noncomputable abbrev ze2 : Stmt := top 29
noncomputable def zdS : MS :=
 (sRet (m2 dIx (eTup (zad (eFz (oC zaN (zad (eVar 1) aNil))) (zad (mC zbF (zad (eVar 1) aNil)) aNil))) (zau zal 0 (zad (eC (.int 2)) aNil))))
noncomputable def zbq : List D -> List D -> Option (Sl × List D) := fM 2 zdS
theorem zhN (zai : FD P w K mg base 1 "_law_take" (spM K 2 zal)) (h : FnAt K "_law_either" ze2) : FD P w K mg base 2 "_law_either" (spM K 2 zbq) :=
 fdM (N := ["pot", "some"]) (k := 1) (m := zdS) X G h fun _ _ _ _ _ _ _ hr nd => (zan (zax (zaI (zaT (zaa (SO.se (zgC bn.list' (zaa (zab 1) zaf))) (zaa (zbA bn.tuple' (zaa (zab 1) zaf)) zaf))) (zap 0 zai hr (zaa zae zaf) (zaX (zac zak))))))
noncomputable abbrev zgT : Stmt := top 30
noncomputable def zft : ME :=
 (eIxV 0 (m2 dAdd (eVar 1) (eVar 2)))
noncomputable def zfw : MO :=
 oLC [0, 3] 1 (iR1 (zad (eVar 1) aNil)) (gN 2) zbh zft
noncomputable def zdk : MS :=
 (sApp 2 (mC dSum (zad (eFz zfw) aNil)))
noncomputable def zeZ : MS :=
 sFor (iR1 (zad (m2 dAdd (m2 dSub (zbY 0) (eVar 1)) (eC (.int 1))) aNil)) (gN 3) zdk
noncomputable def zfB : MS :=
 (sSeq (zeY 2 (oLst aNil))
  (sSeq zeZ
  (sRet (mC zbF (zad (eVar 2) aNil)))))
noncomputable def zbp : List D -> Option Sl := fP 4 zfB
theorem zi8  (h : FnAt K "_law_sums" zgT) : FD P w K mg base 1 "_law_sums" (spP K 2 zbp) :=
 fdP (N := ["row", "k", "told", "at"]) (k := 0) (m := zfB) X G h fun _ _ _ _ _ _ _ hr nd => (zag (zbM 2 (za1 zaf) nd)
  (zag (zck PassesOwn.never rfl (zaM bn.range' (zaa (zaq (za6 (zaY 0 bn.len') (zab 1)) zae) zaf)) (zam 3 nd)
  (zan (zh6 2 (zlR rfl bn.sum' (zaa (SO.se (zcD [0, 3] 1 ["row", "at", "j"] rfl (zaM bn.range' (zaa (zab 1) zaf)) (fun C s H fp => (zam 2 ndk)) (fun C s H fp => zaG) (fun C s H fp => (zaj 0 (zaq (zab 1) (zab 2)))))) zaf)))))
  (zan (zax (zbA bn.tuple' (zaa (zab 2) zaf))))))
noncomputable abbrev zgP : Stmt := top 31
noncomputable def zfm : ME :=
 (m2 dIx (eFz (oLst (zad (eC (.int 1)) (zad (eC (.int 1000)) (zad (m2 dPow (eC (.int 10)) (eC (.int 30))) (zad (eVar 0) aNil)))))) (zau zal 1 (zad (eC (.int 4)) aNil)))
noncomputable def zfc : MO :=
 oLCM [5, 0] 1 1 0 (iR1 (zad (eVar 4) aNil)) (gN 2) zbh zfm
noncomputable def ze3 : ME :=
 (m2 dMul (eVar 1) (m2 dSub (zau zal 0 (zad (eC (.int 9)) aNil)) (eC (.int 4))))
noncomputable def zfi : MO :=
 oLCM [0] 1 0 0 (iSeq (eVar 6)) (gN 1) zbh ze3
noncomputable def zff : ME :=
 (m2 dSub (eVar 2) (m2 dMul (zau zal 0 (zad (eVar 1) aNil)) (eVar 3)))
noncomputable def zfk : MO :=
 oLCM [0, 3] 2 0 0 (iZ2 (zad (eVar 7) (zad (eVar 6) aNil))) (gT 2 (zas (gN 2) (zas (gN 3) zcs))) zbh zff
noncomputable def ze9 : ME :=
 (m2 dAdd (eVar 2) (m2 dMul (zau zal 0 (zad (eVar 1) aNil)) (eVar 3)))
noncomputable def ze8 : MO :=
 oLCM [0, 3] 2 0 0 (iZ2 (zad (eVar 7) (zad (eVar 6) aNil))) (gT 2 (zas (gN 2) (zas (gN 3) zcs))) zbh ze9
noncomputable def zdA : MS :=
 (sSeq (sSet 12 (zau zal 0 (zad (zbY 10) aNil)))
  (sPut 10 (eVar 12) (m2 dAdd (eIxV 10 (eVar 12)) (m2 dMul (m2 dSub (zau zal 0 (zad (eC (.int 9)) aNil)) (eC (.int 4))) (m2 dIx (eFz (oLst (zad (eC (.int 1)) (zad (eIxV 6 (eVar 12)) aNil)))) (zau zal 0 (zad (eC (.int 2)) aNil)))))))
noncomputable def ze4 : MS :=
 sFor (iR1 (zad (m2 dIx (eFz (oLst (zad (eC (.int 0)) (zad (eC (.int 1)) (zad (eC (.int 3)) (zad (zbY 10) aNil)))))) (zau zal 0 (zad (eC (.int 4)) aNil))) aNil)) (gN 11) zdA
noncomputable def zdy : MS :=
 (sSeq (sSet 7 (eFz zfi))
  (sSeq (sSet 8 (eFz zfk))
  (sSeq (sSet 9 (eFz ze8))
  (sSeq (zeY 10 (oC zaN (zad (zba zbp (zad (eVar 7) (zad (eVar 1) aNil))) aNil)))
  (sSeq ze4
  (sRet (eTup (zad (eVar 1) (zad (mC zbF (zad (eVar 10) aNil)) (zad (mC zbF (zad (eVar 8) aNil)) (zad (mC zbF (zad (eVar 9) aNil)) aNil)))))))))))
noncomputable def zfM : MS :=
 (sSeq (sSet 4 (m2 dAdd (eVar 1) (zau zal 0 (zad (m2 dAdd (m2 dSub (eVar 2) (eVar 1)) (eC (.int 1))) aNil))))
  (sSeq (sSet 5 (m2 dIx (eFz (oLst (zad (eC (.int 1)) (zad (eC (.int 1)) (zad (eC (.int 1)) (zad (m2 dPow (eC (.int 10)) (eC (.int 57))) aNil)))))) (zau zal 0 (zad (eC (.int 4)) aNil))))
  (sSeq (sSet 6 (m2 dMul (eFz (oLst (zad (eVar 5) aNil))) (eVar 4)))
  (sSeq (sIf (tTru (m2 dEq (zau zal 0 (zad (eC (.int 4)) aNil)) (eC (.int 0))))
  (sSet 6 (eFz zfc))
  zbg)
  zdy))))
noncomputable def zcC : List D -> List D -> Option (Sl × List D) := fM 13 zfM
theorem ziP (zbE : FD P w K mg base 1 "_law_sums" (spP K 2 zbp)) (zai : FD P w K mg base 1 "_law_take" (spM K 2 zal)) (h : FnAt K "_law_line" zgP) : FD P w K mg base 2 "_law_line" (spM K 4 zcC) :=
 fdM (N := ["pot", "k", "most", "wide", "many", "great", "scales", "row", "least", "greatest", "sums", "turn", "at"]) (k := 1) (m := zfM) X G h fun _ _ _ _ _ _ _ hr nd => (zag (zar 4 (zaq (zab 1) (zap 0 zai hr (zaa (zaq (za6 (zab 2) (zab 1)) zae) zaf) (zaX (zac zak)))) nd)
  (zag (zar 5 (zaI (SO.se (za1 (zaa zae (zaa zae (zaa zae (zaa (zde zae zae) zaf)))))) (zap 0 zai hr (zaa zae zaf) (zaX (zac zak)))) nd)
  (zag (zar 6 (zbv (SO.se (za1 (zaa (zab 5) zaf))) (zab 4)) nd)
  (zag (zbl (zb3 hr.units (zap 0 zai hr (zaa zae zaf) (zaX (zac zak))) zae)
  (zan (zcu 6 [5, 0] 1 1 0 ["great", "pot", "place"] rfl (zaM bn.range' (zaa (zab 4) zaf)) (fun C s H fp => (zam 2 ndk)) (fun C s H fp => zaG) (fun C s H fp => (zaI (SO.se (za1 (zaa zae (zaa zae (zaa (zde zae zae) (zaa (zab 0) zaf)))))) (zap 1 zai hr (zaa zae zaf) (zaX (zac zak))))) nd))
  zaz)
  (zag (zcu 7 [0] 1 0 0 ["pot", "scale"] rfl (zbx (zab 6)) (fun C s H fp => (zam 1 ndk)) (fun C s H fp => zaG) (fun C s H fp => (zbv (zab 1) (za6 (zap 0 zai hr (zaa zae zaf) (zaX (zac zak))) zae))) nd)
  (zag (zcu 8 [0, 3] 2 0 0 ["pot", "wide", "number", "scale"] rfl (zeT bn.zip' (zaa (zab 7) (zaa (zab 6) zaf))) (fun C s H fp => (zbu rfl (zao (zam 2 ndk) (zao (zam 3 ndk) za0)))) (fun C s H fp => zaG) (fun C s H fp => (za6 (zab 2) (zbv (zap 0 zai hr (zaa (zab 1) zaf) (zaX (zac zak))) (zab 3)))) nd)
  (zag (zcu 9 [0, 3] 2 0 0 ["pot", "wide", "number", "scale"] rfl (zeT bn.zip' (zaa (zab 7) (zaa (zab 6) zaf))) (fun C s H fp => (zbu rfl (zao (zam 2 ndk) (zao (zam 3 ndk) za0)))) (fun C s H fp => zaG) (fun C s H fp => (zaq (zab 2) (zbv (zap 0 zai hr (zaa (zab 1) zaf) (zaX (zac zak))) (zab 3)))) nd)
  (zag (zbM 10 (zgC bn.list' (zaa (zav zbE hr (zaa (zab 7) (zaa (zab 1) zaf)) (hlen := (zac (zac zak)))) zaf)) nd)
  (zag (zck PassesOwn.never rfl (zaM bn.range' (zaa (zaI (SO.se (za1 (zaa zae (zaa zae (zaa zae (zaa (zaY 10 bn.len') zaf)))))) (zap 0 zai hr (zaa zae zaf) (zaX (zac zak)))) zaf)) (zam 11 nd)
  (zag (zar 12 (zap 0 zai hr (zaa (zaY 10 bn.len') zaf) (zaX (zac zak))) nd)
  (zan (zf2 10 (zaq (zaj 10 (zab 12)) (zbv (za6 (zap 0 zai hr (zaa zae zaf) (zaX (zac zak))) zae) (zaI (SO.se (za1 (zaa zae (zaa (zaj 6 (zab 12)) zaf)))) (zap 0 zai hr (zaa zae zaf) (zaX (zac zak)))))) (zab 12)))))
  (zan (zax (zaT (zaa (zab 1) (zaa (zbA bn.tuple' (zaa (zab 10) zaf)) (zaa (zbA bn.tuple' (zaa (zab 8) zaf)) (zaa (zbA bn.tuple' (zaa (zab 9) zaf)) zaf))))))))))))))))
noncomputable abbrev zec : Stmt := top 38
noncomputable def zc2 : MS :=
 (sApp 7 (m2 dAdd (m2 dMod (eVar 8) (m2 dPow (eC (.int 10)) (eC (.int 9)))) (m2 dMul (m2 dIx (eFz (oLst (zad (eC (.int 0)) (zad (eC (.int 9)) (zad (m1 dNeg (eC (.int 9))) aNil))))) (zau zal 0 (zad (eC (.int 3)) aNil))) (m2 dPow (eC (.int 10)) (eC (.int 59))))))
noncomputable def zcX : MS :=
 sFor (iSeq (eVar 3)) (gN 8) zc2
noncomputable def zdf : ME :=
 (m2 dMod (eVar 0) (m2 dPow (eC (.int 10)) (eC (.int 9))))
noncomputable def zcZ : MO :=
 oLC [] 1 (iSeq (eVar 4)) (gN 0) zbh zdf
noncomputable def zc6 : ME :=
 (m2 dAdd (eVar 1) (zau zal 0 (zad (eC (.int 9)) aNil)))
noncomputable def zc5 : MO :=
 oLCM [0] 1 0 0 (iSeq (eVar 4)) (gN 1) zbh zc6
noncomputable def zc0 : ME :=
 (m2 dAdd (eVar 0) (eVar 1))
noncomputable def zc4 : MO :=
 oLC [6] 1 (iSeq (eVar 5)) (gN 1) zbh zc0
noncomputable def zc3 : ME :=
 (m2 dAdd (eVar 0) (eVar 1))
noncomputable def zdb : MO :=
 oLC [6] 1 (iSeq (eVar 4)) (gN 1) zbh zc3
noncomputable def zcO : MS :=
 (sSeq (sAsg (eVar 1) (gT 4 (zas (gN 2) (zas (gN 3) (zas (gN 4) (zas (gN 5) zcs))))))
  (sSeq (sSet 6 (m2 dMul (m2 dIx (eFz (oLst (zad (eC (.int 9)) (zad (m1 dNeg (eC (.int 9))) aNil)))) (zau zal 0 (zad (eC (.int 2)) aNil))) (m2 dPow (eC (.int 10)) (eC (.int 59)))))
  (sSeq (zeY 7 (oLst aNil))
  (sSeq zcX
  (sSeq (sSet 4 (eFz zcZ))
  (sSeq (sSet 5 (eFz zc5))
  (sRet (eTup (zad (eVar 2) (zad (mC zbF (zad (eVar 7) aNil)) (zad (mC zbF (zad (eFz zdb) aNil)) (zad (mC zbF (zad (eFz zc4) aNil)) aNil))))))))))))
noncomputable def zbn : List D -> List D -> Option (Sl × List D) := fM 9 zcO
theorem zgZ (zai : FD P w K mg base 1 "_law_take" (spM K 2 zal)) (h : FnAt K "_law_far_line" zec) : FD P w K mg base 2 "_law_far_line" (spM K 2 zbn) :=
 fdM (N := ["pot", "line", "k", "sums", "least", "greatest", "far", "moved", "number"]) (k := 1) (m := zcO) X G h fun _ _ _ _ _ _ _ hr nd => (zag (zhS (zab 1) (zbu rfl (zao (zam 2 nd) (zao (zam 3 nd) (zao (zam 4 nd) (zao (zam 5 nd) za0))))))
  (zag (zar 6 (zbv (zaI (SO.se (za1 (zaa zae (zaa (zbH zae) zaf)))) (zap 0 zai hr (zaa zae zaf) (zaX (zac zak)))) (zde zae zae)) nd)
  (zag (zbM 7 (za1 zaf) nd)
  (zag (zck PassesOwn.never rfl (zbx (zab 3)) (zam 8 nd)
  (zan (zh6 7 (zaq (zgO (zab 8) (zde zae zae)) (zbv (zaI (SO.se (za1 (zaa zae (zaa zae (zaa (zbH zae) zaf))))) (zap 0 zai hr (zaa zae zaf) (zaX (zac zak)))) (zde zae zae))))))
  (zag (zf8 4 [] 1 ["low"] rfl (zbx (zab 4)) (fun C s H fp => (zam 0 ndk)) (fun C s H fp => zaG) (fun C s H fp => (zgO (zab 0) (zde zae zae))) nd)
  (zag (zcu 5 [0] 1 0 0 ["pot", "low"] rfl (zbx (zab 4)) (fun C s H fp => (zam 1 ndk)) (fun C s H fp => zaG) (fun C s H fp => (zaq (zab 1) (zap 0 zai hr (zaa zae zaf) (zaX (zac zak))))) nd)
  (zan (zax (zaT (zaa (zab 2) (zaa (zbA bn.tuple' (zaa (zab 7) zaf)) (zaa (zbA bn.tuple' (zaa (SO.se (zcD [6] 1 ["far", "low"] rfl (zbx (zab 4)) (fun C s H fp => (zam 1 ndk)) (fun C s H fp => zaG) (fun C s H fp => (zaq (zab 0) (zab 1))))) zaf)) (zaa (zbA bn.tuple' (zaa (SO.se (zcD [6] 1 ["far", "high"] rfl (zbx (zab 5)) (fun C s H fp => (zam 1 ndk)) (fun C s H fp => zaG) (fun C s H fp => (zaq (zab 0) (zab 1))))) zaf)) zaf)))))))))))))
noncomputable abbrev zee : Stmt := top 32
noncomputable def zbL : MS :=
 (zix 2)
noncomputable def zcE : MS :=
 (sSeq (sSet 1 (m2 dAdd (eC (.int 2)) (zau zal 0 (zad (eC (.int 4)) aNil))))
  (sSeq (sSet 2 (zau zcC 0 (zad (eVar 1) (zad (m2 dIx (eFz (oLst (zad (eC (.int 12)) (zad (eC (.int 24)) aNil)))) (m2 dDiv (zau zal 0 (zad (eC (.int 6)) aNil)) (eC (.int 5)))) (zad (m2 dAdd (eC (.int 1)) (zau zal 0 (zad (eC (.int 5)) aNil))) aNil)))))
  (sSeq (sIf (tTru (m2 dEq (zau zal 0 (zad (eC (.int 8)) aNil)) (eC (.int 7))))
  (sSet 2 (zau zbn 0 (zad (eVar 2) aNil)))
  zbg)
  zbL)))
noncomputable def zbk : List D -> List D -> Option (Sl × List D) := fM 3 zcE
theorem zg1 (zcb : FD P w K mg base 2 "_law_far_line" (spM K 2 zbn)) (zew : FD P w K mg base 2 "_law_line" (spM K 4 zcC)) (zai : FD P w K mg base 1 "_law_take" (spM K 2 zal)) (h : FnAt K "_law_any_line" zee) : FD P w K mg base 3 "_law_any_line" (spM K 1 zbk) :=
 fdM (N := ["pot", "k", "line"]) (k := 2) (m := zcE) X G h fun _ _ _ _ _ _ _ hr nd => (zag (zar 1 (zaq zae (zap 0 zai hr (zaa zae zaf) (zaX (zac zak)))) nd)
  (zag (zar 2 (zap 0 zew hr (zaa (zab 1) (zaa (zaI (SO.se (za1 (zaa zae (zaa zae zaf)))) (zjc (zap 0 zai hr (zaa zae zaf) (zaX (zac zak))) zae)) (zaa (zaq zae (zap 0 zai hr (zaa zae zaf) (zaX (zac zak)))) zaf))) (zaX (zac (zac (zac zak))))) nd)
  (zag (zbl (zb3 hr.units (zap 0 zai hr (zaa zae zaf) (zaX (zac zak))) zae)
  (zan (zar 2 (zap 0 zcb hr (zaa (zab 2) zaf) (zaX (zac zak))) nd))
  zaz)
  (zan (zgA 2)))))
noncomputable abbrev ze7 : Stmt := top 33
noncomputable def zcc : ME :=
 (eAnd (m2 dLe (eIxV 0 (eVar 3)) (eIxV 1 (eVar 3))) (m2 dLe (eIxV 1 (eVar 3)) (eIxV 2 (eVar 3))))
noncomputable def zed : MO :=
 oLC [1, 0, 2] 1 (iR1 (zad (zbY 0) aNil)) (gN 3) zbh zcc
noncomputable def zef : MS :=
 (sRet (mC (dAll fun bs => bs.all id) (zad (eFz zed) aNil)))
noncomputable def zdW : MS :=
 (sSeq (sIf (tTru (m2 dNe (zbY 0) (zbY 1)))
  (sRet (eC (.bl false)))
  zbg)
  zef)
noncomputable def zbK : List D -> Option Sl := fP 3 zdW
theorem zhO  (h : FnAt K "_law_within" ze7) : FD P w K mg base 1 "_law_within" (spP K 3 zbK) :=
 fdP (N := ["row", "least", "greatest"]) (k := 0) (m := zdW) X G h fun _ _ _ _ _ _ _ hr nd => (zag (zbl (zm1 hr.units (zaY 0 bn.len') (zaY 1 bn.len'))
  (zan (zax zgl))
  zaz)
  (zan (zax (zjJ rfl bn.all' (zaa (SO.se (zcD [1, 0, 2] 1 ["least", "row", "greatest", "at"] rfl (zaM bn.range' (zaa (zaY 0 bn.len') zaf)) (fun C s H fp => (zam 3 ndk)) (fun C s H fp => zaG) (fun C s H fp => (zhV (se_le (zaj 0 (zab 3)) (zaj 1 (zab 3))) (zhG (se_le (zaj 1 (zab 3)) (zaj 2 (zab 3)))))))) zaf)))))
noncomputable abbrev zdD : Stmt := top 34
noncomputable def zcA : MS :=
 (sApp 2 (m2 dIx (eFz (oLst (zad (eVar 3) (zad (eVar 4) (zad (m2 dAdd (eVar 3) (zau zal 0 (zad (m2 dAdd (m2 dSub (eVar 4) (eVar 3)) (eC (.int 1))) aNil))) aNil))))) (zau zal 0 (zad (eC (.int 3)) aNil))))
noncomputable def zcP : MS :=
 sFor (iZ2 (zad (eIxV 1 (eC (.int 2))) (zad (eIxV 1 (eC (.int 3))) aNil))) (gT 2 (zas (gN 3) (zas (gN 4) zcs))) zcA
noncomputable def zcf : MS :=
 (sSeq (zeY 2 (oLst aNil))
  (sSeq zcP
  (zix 2)))
noncomputable def zbf : List D -> List D -> Option (Sl × List D) := fM 5 zcf
theorem zgB (zai : FD P w K mg base 1 "_law_take" (spM K 2 zal)) (h : FnAt K "_law_inner_row" zdD) : FD P w K mg base 2 "_law_inner_row" (spM K 2 zbf) :=
 fdM (N := ["pot", "line", "row", "low", "high"]) (k := 1) (m := zcf) X G h fun _ _ _ _ _ _ _ hr nd => (zag (zbM 2 (za1 zaf) nd)
  (zag (zck PassesOwn.never rfl (zeT bn.zip' (zaa (zaj 1 zae) (zaa (zaj 1 zae) zaf))) (zbu rfl (zao (zam 3 nd) (zao (zam 4 nd) za0)))
  (zan (zh6 2 (zaI (SO.se (za1 (zaa (zab 3) (zaa (zab 4) (zaa (zaq (zab 3) (zap 0 zai hr (zaa (zaq (za6 (zab 4) (zab 3)) zae) zaf) (zaX (zac zak)))) zaf))))) (zap 0 zai hr (zaa zae zaf) (zaX (zac zak)))))))
  (zan (zgA 2))))
noncomputable abbrev zdF : Stmt := top 35
noncomputable def zcK : MS :=
 (sRet (m2 dIx (eTup (zad (eVar 6) (zad (eVar 5) aNil))) (mC dInt (zad (eVar 4) aNil))))
noncomputable def zcd : MS :=
 (sSeq (sAsg (eVar 1) (gT 3 (zas (gN 2) (zas (gN 3) (zas (gN 4) zcs)))))
  (sSeq (sIf (tTru (m2 dEq (eVar 2) (eC (.str "sum"))))
  (sSeq (sSet 5 (eTup (zad (eVar 3) (zad (m2 dAdd (eVar 3) (eIxV 0 (eC (.int 0)))) (zad (m2 dIx (eIxV 0 (eC (.int 1))) (eVar 3)) aNil)))))
  (sSet 6 (eTup (zad (m2 dAdd (eVar 3) (eIxV 0 (eC (.int 0)))) (zad (eVar 3) (zad (m1 dNeg (m2 dIx (eIxV 0 (eC (.int 1))) (eVar 3))) aNil))))))
  (sSeq (sSet 5 (eTup (zad (eVar 3) (zad (m2 dAdd (eVar 3) (eC (.int 1))) (zad (m2 dIx (eIxV 0 (eC (.int 2))) (eVar 3)) aNil)))))
  (sSet 6 (eTup (zad (m2 dAdd (eVar 3) (eC (.int 1))) (zad (eVar 3) (zad (m1 dNeg (m2 dIx (eIxV 0 (eC (.int 3))) (eVar 3))) aNil)))))))
  zcK))
noncomputable def zbe : List D -> Option Sl := fP 7 zcd
theorem zgv  (h : FnAt K "_law_step_ends" zdF) : FD P w K mg base 1 "_law_step_ends" (spP K 2 zbe) :=
 fdP (N := ["line", "step", "kind", "at", "up", "told", "less"]) (k := 0) (m := zcd) X G h fun _ _ _ _ _ _ _ hr nd => (zag (zhS (zab 1) (zbu rfl (zao (zam 2 nd) (zao (zam 3 nd) (zao (zam 4 nd) za0)))))
  (zag (zbl (zb3 hr.units (zab 2) zbw)
  (zag (zar 5 (zaT (zaa (zab 3) (zaa (zaq (zab 3) (zaj 0 zae)) (zaa (zaI (zaj 0 zae) (zab 3)) zaf)))) nd)
  (zan (zar 6 (zaT (zaa (zaq (zab 3) (zaj 0 zae)) (zaa (zab 3) (zaa (zbH (zaI (zaj 0 zae) (zab 3))) zaf)))) nd)))
  (zag (zar 5 (zaT (zaa (zab 3) (zaa (zaq (zab 3) zae) (zaa (zaI (zaj 0 zae) (zab 3)) zaf)))) nd)
  (zan (zar 6 (zaT (zaa (zaq (zab 3) zae) (zaa (zab 3) (zaa (zbH (zaI (zaj 0 zae) (zab 3))) zaf)))) nd))))
  (zan (zax (zaI (zaT (zaa (zab 6) (zaa (zab 5) zaf))) (zha bn.int' (zaa (zab 4) zaf)))))))
noncomputable abbrev zfq : Stmt := top 36
noncomputable def zd5 : MS :=
 (sSeq (sAsg (zba zbe (zad (eVar 0) (zad (eTup (zad (eVar 5) (zad (eVar 6) (zad (eVar 7) aNil)))) aNil))) (gT 3 (zas (gN 8) (zas (gN 9) (zas (gN 10) zcs)))))
  (sSeq (sSet 3 (m2 dSub (m2 dAdd (eVar 3) (eVar 10)) (m2 dMul (m2 dSub (eVar 2) (eC (.int 1))) (mC dInt (zad (m2 dEq (eVar 5) (eC (.str "sum"))) aNil)))))
  (sApp 4 (eTup (zad (eVar 8) (zad (eVar 9) aNil))))))
noncomputable def zb8 : MS :=
 (sSeq (sIf (tOrM (tTru (m2 zhY (eVar 5) (eTup (zad (eC (.str "sum")) (zad (eC (.str "place")) aNil))))) (tOrM (tTru (m2 dLt (eVar 6) (eC (.int 0)))) (tTru (m2 dGe (eVar 6) (mC dLen (zad (m2 dIx (eTup (zad (eIxV 0 (eC (.int 1))) (zad (eIxV 0 (eC (.int 2))) aNil))) (mC dInt (zad (m2 dEq (eVar 5) (eC (.str "place"))) aNil))) aNil))))))
  (sRet (eC (.bl false)))
  zbg)
  zd5)
noncomputable def zd8 : MS :=
 sFor (iSeq (eVar 1)) (gT 3 (zas (gN 5) (zas (gN 6) (zas (gN 7) zcs)))) zb8
noncomputable def zce : ME :=
 (m2 dEq (m2 dIx (eIxV 0 (m2 dSub (eVar 1) (eC (.int 1)))) (eC (.int 1))) (m2 dIx (eIxV 0 (eVar 1)) (eC (.int 0))))
noncomputable def zeb : MO :=
 oLCM [4] 1 0 4 (iR1 (zad (zbY 4) aNil)) (gN 1) zbh zce
noncomputable def zd6 : MS :=
 (sSeq (sSet 3 (eC (.int 0)))
  (sSeq (zeY 4 (oLst aNil))
  (sSeq zd8
  (sSeq (sSet 11 (eFz zeb))
  (sRet (eAnd (mC (dAll fun bs => bs.all id) (zad (eVar 11) aNil)) (m2 dGt (eVar 3) (eC (.int 0)))))))))
noncomputable def zd0 : MS :=
 (sSeq (sIf (tTru (m2 dEq (zbY 1) (eC (.int 0))))
  (sRet (eC (.bl false)))
  zbg)
  zd6)
noncomputable def zbN : List D -> Option Sl := fP 12 zd0
theorem zhP (zbP : FD P w K mg base 1 "_law_step_ends" (spP K 2 zbe)) (h : FnAt K "_law_is_way" zfq) : FD P w K mg base 2 "_law_is_way" (spP K 3 zbN) :=
 fdP (N := ["line", "way", "far", "asks", "ends", "kind", "at", "up", "one", "other", "more", "rounds"]) (k := 1) (m := zd0) X G h fun _ _ _ _ _ _ _ hr nd => (zag (zbl (zb3 hr.units (zaY 1 bn.len') zae)
  (zan (zax zgl))
  zaz)
  (zag (zar 3 zae nd)
  (zag (zbM 4 (za1 zaf) nd)
  (zag (zck PassesOwn.never rfl (zbx (zab 1)) (zbu rfl (zao (zam 5 nd) (zao (zam 6 nd) (zao (zam 7 nd) za0))))
  (zag (zbl (STw.st (zjg (st_notIn (zab 5) (zaT (zaa zbw (zaa zbw zaf)))) (zjg (st_lt (zab 6) zae) (zhe (st_ge (zab 6) (zfx bn.len' (zaa (zaI (zaT (zaa (zaj 0 zae) (zaa (zaj 0 zae) zaf))) (zha bn.int' (zaa (zjw hr.units (zab 5) zbw) zaf))) zaf)))))))
  (zan (zax zgl))
  zaz)
  (zag (zhS (zav zbP hr (zaa (zab 0) (zaa (zaT (zaa (zab 5) (zaa (zab 6) (zaa (zab 7) zaf)))) zaf)) (hlen := (zac (zac zak)))) (zbu rfl (zao (zam 8 nd) (zao (zam 9 nd) (zao (zam 10 nd) za0)))))
  (zag (zar 3 (za6 (zaq (zab 3) (zab 10)) (zbv (za6 (zab 2) zae) (zha bn.int' (zaa (zjw hr.units (zab 5) zbw) zaf)))) nd)
  (zan (zh6 4 (zaT (zaa (zab 8) (zaa (zab 9) zaf)))))))))
  (zag (zcu 11 [4] 1 0 4 ["ends", "at"] rfl (zaM bn.range' (zaa (zaY 4 bn.len') zaf)) (fun C s H fp => (zam 1 ndk)) (fun C s H fp => zaG) (fun C s H fp => (zjw hr.units (zaI (zaj 0 (za6 (zab 1) zae)) zae) (zaI (zaj 0 (zab 1)) zae))) nd)
  (zan (zax (zhV (zjJ rfl bn.all' (zaa (zab 11) zaf)) (zhG (se_gt (zab 3) zae))))))))))
noncomputable abbrev zdL : Stmt := top 37
noncomputable def zcy : ME :=
 (m2 dGt (mC dAbs (zad (m2 dSub (eVar 1) (eVar 2)) aNil)) (eVar 0))
noncomputable def zcI : MO :=
 oLC [1] 2 (iZ2 (zad (zba zbp (zad (eVar 2) (zad (eIxV 0 (eC (.int 0))) aNil))) (zad (eIxV 0 (eC (.int 1))) aNil))) (gT 2 (zas (gN 1) (zas (gN 2) zcs))) zbh zcy
noncomputable def zcx : MS :=
 (sRet (zba zbN (zad (eVar 0) (zad (eVar 3) (zad (eVar 1) aNil)))))
noncomputable def zcF : MS :=
 (sSeq (sIf (tOrM (tTru (m2 dEq (eVar 1) (eC (.int 0)))) (tTru (m2 dIsN (eVar 3) (eC .non))))
  (sRet (eAnd (m2 dEq (eVar 1) (eC (.int 0))) (m2 dIsN (eVar 3) (eC .non))))
  zbg)
  zcx)
noncomputable def zcR : MS :=
 (sSeq (sIf (tTru (mC (dAll fun bs => bs.any id) (zad (eFz zcI) aNil)))
  (sRet (eC (.bl false)))
  zbg)
  zcF)
noncomputable def zcg : MS :=
 (sSeq (sIf (zkl (tTru (zba zbK (zad (eVar 2) (zad (eIxV 0 (eC (.int 2))) (zad (eIxV 0 (eC (.int 3))) aNil))))))
  (sRet (eC (.bl false)))
  zbg)
  zcR)
noncomputable def zbd : List D -> Option Sl := fP 4 zcg
theorem zgr (zdn : FD P w K mg base 2 "_law_is_way" (spP K 3 zbN)) (zbE : FD P w K mg base 1 "_law_sums" (spP K 2 zbp)) (zdr : FD P w K mg base 1 "_law_within" (spP K 3 zbK)) (h : FnAt K "_law_off_right" zdL) : FD P w K mg base 3 "_law_off_right" (spP K 4 zbd) :=
 fdP (N := ["line", "far", "row", "way"]) (k := 2) (m := zcg) X G h fun _ _ _ _ _ _ _ hr nd => (zag (zbl (zjj (zdZ (zav zdr hr (zaa (zab 2) (zaa (zaj 0 zae) (zaa (zaj 0 zae) zaf))) (hlen := (zac (zac (zac zak)))))))
  (zan (zax zgl))
  zaz)
  (zag (zbl (zdZ (se_any rfl bn.any' (zaa (SO.se (zcD [1] 2 ["far", "one", "other"] rfl (zeT bn.zip' (zaa (zav zbE hr (zaa (zab 2) (zaa (zaj 0 zae) zaf)) (hlen := (zac (zac zak)))) (zaa (zaj 0 zae) zaf))) (fun C s H fp => (zbu rfl (zao (zam 1 ndk) (zao (zam 2 ndk) za0)))) (fun C s H fp => zaG) (fun C s H fp => (se_gt (se_abs bn.abs' (zaa (za6 (zab 1) (zab 2)) zaf)) (zab 0))))) zaf)))
  (zan (zax zgl))
  zaz)
  (zag (zbl (STw.st (zjg (zb3 hr.units (zab 1) zae) (zhe (st_is (zab 3) zcm))))
  (zan (zax (zhV (zjw hr.units (zab 1) zae) (zhG (se_is (zab 3) zcm)))))
  zaz)
  (zan (zax (zav zdn hr (zaa (zab 0) (zaa (zab 3) (zaa (zab 1) zaf))) (hlen := (zac (zac (zac zak))))))))))
noncomputable abbrev zeg : Stmt := top 39
noncomputable def zcQ : MS :=
 (sSeq (sSet 2 (m2 dIx (eTup (zad (eC (.str "sum")) (zad (eC (.str "place")) (zad (eC (.str "cut")) aNil)))) (mC (d2I min2) (zad (eC (.int 2)) (zad (m2 dDiv (zau zal 0 (zad (eC (.int 9)) aNil)) (eC (.int 4))) aNil)))))
  (sSeq (sSet 3 (m2 dIx (eTup (zad (zau zal 0 (zad (mC dLen (zad (eIxV 1 (eC (.int 2))) aNil)) aNil)) (zad (mC dLen (zad (eIxV 1 (eC (.int 1))) aNil)) (zad (mC dLen (zad (eIxV 1 (eC (.int 2))) aNil)) (zad (m1 dNeg (eC (.int 1))) aNil))))) (mC (d2I max2) (zad (eC (.int 0)) (zad (m2 dSub (zau zal 0 (zad (eC (.int 8)) aNil)) (eC (.int 4))) aNil)))))
  (sRet (eTup (zad (eVar 2) (zad (eVar 3) (zad (m2 dEq (zau zal 0 (zad (eC (.int 2)) aNil)) (eC (.int 1))) aNil)))))))
noncomputable def zaZ : List D -> List D -> Option (Sl × List D) := fM 4 zcQ
theorem zg3 (zai : FD P w K mg base 1 "_law_take" (spM K 2 zal)) (h : FnAt K "_law_any_step" zeg) : FD P w K mg base 2 "_law_any_step" (spM K 2 zaZ) :=
 fdM (N := ["pot", "line", "kind", "at"]) (k := 1) (m := zcQ) X G h fun _ _ _ _ _ _ _ hr nd => (zag (zar 2 (zaI (zaT (zaa zbw (zaa zbw (zaa zbw zaf)))) (zj9 rfl bn.min' (zaa zae (zaa (zjc (zap 0 zai hr (zaa zae zaf) (zaX (zac zak))) zae) zaf)))) nd)
  (zag (zar 3 (zaI (zaT (zaa (zap 0 zai hr (zaa (zfx bn.len' (zaa (zaj 1 zae) zaf)) zaf) (zaX (zac zak))) (zaa (zfx bn.len' (zaa (zaj 1 zae) zaf)) (zaa (zfx bn.len' (zaa (zaj 1 zae) zaf)) (zaa (zbH zae) zaf))))) (ziF rfl bn.max' (zaa zae (zaa (za6 (zap 0 zai hr (zaa zae zaf) (zaX (zac zak))) zae) zaf)))) nd)
  (zan (zax (zaT (zaa (zab 2) (zaa (zab 3) (zaa (zjw hr.units (zap 0 zai hr (zaa zae zaf) (zaX (zac zak))) zae) zaf))))))))
noncomputable abbrev zd4 : Stmt := top 40
noncomputable def zc9 : ME :=
 (eTup (zad (eVar 0) (zad (eVar 1) (zad (m1 dNot (eVar 2)) aNil))))
noncomputable def zcY : MO :=
 oLC [] 3 (iRw (eVar 3)) (gT 3 (zas (gN 0) (zas (gN 1) (zas (gN 2) zcs)))) zbh zc9
noncomputable def zc8 : MS :=
 (sRet (m2 dAdd (m2 dAdd (eCut (eVar 3) pNo (zbt (eVar 5))) (eFz (oLst (zad (zau zaZ 0 (zad (eVar 1) aNil)) aNil)))) (eCut (eVar 3) (zbt (m2 dAdd (eVar 5) (eC (.int 1)))) pNo)))
noncomputable def zc7 : MS :=
 (sSeq (sIf (tTru (m2 dEq (eVar 4) (eC (.int 6))))
  (sRet (eCut (m2 dAdd (eVar 3) (eVar 3)) pNo (zbt (eC (.int 200)))))
  zbg)
  zc8)
noncomputable def zdg : MS :=
 (sSeq (sIf (tTru (m2 dEq (eVar 4) (eC (.int 5))))
  (sSeq (sAsg (eIxV 3 (eVar 5)) (gT 3 (zas (gN 6) (zas (gN 7) (zas (gN 8) zcs)))))
  (sRet (m2 dAdd (m2 dAdd (eCut (eVar 3) pNo (zbt (eVar 5))) (eFz (oLst (zad (eTup (zad (eVar 6) (zad (eVar 7) (zad (eVar 8) aNil)))) (zad (eTup (zad (eVar 6) (zad (eVar 7) (zad (m1 dNot (eVar 8)) aNil)))) aNil))))) (eCut (eVar 3) (zbt (eVar 5)) pNo))))
  zbg)
  zc7)
noncomputable def zdh : MS :=
 (sSeq (sIf (tTru (m2 dEq (eVar 4) (eC (.int 4))))
  (sSeq (sAsg (eIxV 3 (eVar 5)) (gT 3 (zas (gN 6) (zas (gN 7) (zas (gN 8) zcs)))))
  (sRet (m2 dAdd (m2 dAdd (eCut (eVar 3) pNo (zbt (eVar 5))) (eFz (oLst (zad (eTup (zad (eVar 6) (zad (m2 dSub (m2 dAdd (eVar 7) (eC (.int 1))) (m2 dMul (eC (.int 2)) (zau zal 0 (zad (eC (.int 2)) aNil)))) (zad (eVar 8) aNil)))) aNil)))) (eCut (eVar 3) (zbt (m2 dAdd (eVar 5) (eC (.int 1)))) pNo))))
  zbg)
  zdg)
noncomputable def zc1 : MS :=
 (sSeq (sIf (tTru (m2 dEq (eVar 4) (eC (.int 3))))
  (zj7 zcY)
  zbg)
  zdh)
noncomputable def zdd : MS :=
 (sSeq (sIf (tTru (m2 dEq (eVar 4) (eC (.int 2))))
  (sRet (m2 dAdd (eCut (eVar 3) (zbt (eVar 5)) pNo) (eCut (eVar 3) pNo (zbt (eVar 5)))))
  zbg)
  zc1)
noncomputable def zbI : MS :=
 (sSeq (sIf (tTru (m2 dEq (eVar 4) (eC (.int 1))))
  (sRet (m2 dAdd (eCut (eVar 3) pNo (zbt (eVar 5))) (eCut (eVar 3) (zbt (m2 dAdd (eVar 5) (eC (.int 1)))) pNo)))
  zbg)
  zdd)
noncomputable def zcw : MS :=
 (sSeq (sSet 3 (eFz (oC zaN (zad (eOrW (eVar 2) (eFz (oLst aNil))) aNil))))
  (sSeq (sSet 4 (zau zal 0 (zad (eC (.int 8)) aNil)))
  (sSeq (sSet 5 (zau zal 0 (zad (m2 dAdd (zbY 3) (eC (.int 1))) aNil)))
  (sSeq (sIf (tOrM (tTru (m2 dEq (eVar 4) (eC (.int 0)))) (tTru (m2 dEq (eCut (eVar 3) (zbt (eVar 5)) pNo) (eFz (oLst aNil)))))
  (sRet (m2 dAdd (m2 dAdd (eCut (eVar 3) pNo (zbt (eVar 5))) (eFz (oLst (zad (zau zaZ 0 (zad (eVar 1) aNil)) aNil)))) (eCut (eVar 3) (zbt (eVar 5)) pNo)))
  zbg)
  zbI))))
noncomputable def za9 : List D -> List D -> Option (Sl × List D) := fM 9 zcw
theorem zg4 (zbB : FD P w K mg base 2 "_law_any_step" (spM K 2 zaZ)) (zai : FD P w K mg base 1 "_law_take" (spM K 2 zal)) (h : FnAt K "_law_way_bent" zd4) : FD P w K mg base 3 "_law_way_bent" (spM K 3 za9) :=
 fdM (N := ["pot", "line", "way", "bent", "turn", "at", "kind", "spot", "up"]) (k := 2) (m := zcw) X G h fun _ _ _ _ _ _ _ hr nd => (zag (zar 3 (SO.se (zgC bn.list' (zaa (se_orW (zab 2) (zhG (SO.se (za1 zaf)))) zaf))) nd)
  (zag (zar 4 (zap 0 zai hr (zaa zae zaf) (zaX (zac zak))) nd)
  (zag (zar 5 (zap 0 zai hr (zaa (zaq (zaY 3 bn.len') zae) zaf) (zaX (zac zak))) nd)
  (zag (zbl (STw.st (zjg (zb3 hr.units (zab 4) zae) (zhe (zb3 hr.units (zbj (zab 3) (zaL (zab 5)) zdt) (SO.se (za1 zaf))))))
  (zan (zax (zaq (zaq (zbj (zab 3) zdt (zaL (zab 5))) (SO.se (za1 (zaa (zap 0 zbB hr (zaa (zab 1) zaf) (zaX (zac zak))) zaf)))) (zbj (zab 3) (zaL (zab 5)) zdt))))
  zaz)
  (zag (zbl (zb3 hr.units (zab 4) zae)
  (zan (zax (zaq (zbj (zab 3) zdt (zaL (zab 5))) (zbj (zab 3) (zaL (zaq (zab 5) zae)) zdt))))
  zaz)
  (zag (zbl (zb3 hr.units (zab 4) zae)
  (zan (zax (zaq (zbj (zab 3) (zaL (zab 5)) zdt) (zbj (zab 3) zdt (zaL (zab 5))))))
  zaz)
  (zag (zbl (zb3 hr.units (zab 4) zae)
  (zan (zhF (zcD [] 3 ["kind", "spot", "up"] rfl (it_rw bn.reversed' (zab 3)) (fun C s H fp => (zbu rfl (zao (zam 0 ndk) (zao (zam 1 ndk) (zao (zam 2 ndk) za0))))) (fun C s H fp => zaG) (fun C s H fp => (zaT (zaa (zab 0) (zaa (zab 1) (zaa (se_not (zab 2)) zaf))))))))
  zaz)
  (zag (zbl (zb3 hr.units (zab 4) zae)
  (zag (zhS (zaj 3 (zab 5)) (zbu rfl (zao (zam 6 nd) (zao (zam 7 nd) (zao (zam 8 nd) za0)))))
  (zan (zax (zaq (zaq (zbj (zab 3) zdt (zaL (zab 5))) (SO.se (za1 (zaa (zaT (zaa (zab 6) (zaa (za6 (zaq (zab 7) zae) (zbv zae (zap 0 zai hr (zaa zae zaf) (zaX (zac zak))))) (zaa (zab 8) zaf)))) zaf)))) (zbj (zab 3) (zaL (zaq (zab 5) zae)) zdt)))))
  zaz)
  (zag (zbl (zb3 hr.units (zab 4) zae)
  (zag (zhS (zaj 3 (zab 5)) (zbu rfl (zao (zam 6 nd) (zao (zam 7 nd) (zao (zam 8 nd) za0)))))
  (zan (zax (zaq (zaq (zbj (zab 3) zdt (zaL (zab 5))) (SO.se (za1 (zaa (zaT (zaa (zab 6) (zaa (zab 7) (zaa (zab 8) zaf)))) (zaa (zaT (zaa (zab 6) (zaa (zab 7) (zaa (se_not (zab 8)) zaf)))) zaf))))) (zbj (zab 3) (zaL (zab 5)) zdt)))))
  zaz)
  (zag (zbl (zb3 hr.units (zab 4) zae)
  (zan (zax (zbj (zaq (zab 3) (zab 3)) zdt (zaL zae))))
  zaz)
  (zan (zax (zaq (zaq (zbj (zab 3) zdt (zaL (zab 5))) (SO.se (za1 (zaa (zap 0 zbB hr (zaa (zab 1) zaf) (zaX (zac zak))) zaf)))) (zbj (zab 3) (zaL (zaq (zab 5) zae)) zdt))))))))))))))
noncomputable abbrev zda : Stmt := top 41
noncomputable def zch : ME :=
 (eVar 2)
noncomputable def zcq : MT :=
 (tTru (m2 dIn (eIxV 0 (eVar 2)) (m2 dAdd (eCut (eIxV 1 (eC (.int 2))) (zbt (eVar 2)) (zbt (m2 dAdd (eVar 2) (eC (.int 1))))) (eCut (eIxV 1 (eC (.int 3))) (zbt (eVar 2)) (zbt (m2 dAdd (eVar 2) (eC (.int 1))))))))
noncomputable def zcp : MO :=
 oLC [2, 1] 1 (iR1 (zad (zbY 2) aNil)) (gN 2) zcq zch
noncomputable def zcj : ME :=
 (m2 dAdd (eVar 1) (eVar 0))
noncomputable def zci : MO :=
 oLC [7] 1 (iSeq (eCutO 3 (zbt (eVar 5)) (zbt (m2 dAdd (eVar 5) (eC (.int 1)))))) (gN 1) zbh zcj
noncomputable def za5 : MS :=
 (zix 3)
noncomputable def zbW : MS :=
 (sSeq (zeY 3 (oC zaN (zad (eVar 2) aNil)))
  (sSeq (sSet 4 (eFz zcp))
  (sSeq (sSet 4 (eCut (m2 dAdd (eVar 4) (eFz (oLst (zad (eC (.int 0)) aNil)))) pNo (zbt (mC (d2I max2) (zad (eC (.int 1)) (zad (zbY 4) aNil))))))
  (sSeq (sSet 5 (eIxV 4 (zau zal 0 (zad (zbY 4) aNil))))
  (sSeq (sSet 6 (m2 dAdd (eVar 5) (m2 dMul (eIxV 1 (eC (.int 0))) (m2 dSub (eC (.int 1)) (m2 dMul (eC (.int 2)) (zau zal 0 (zad (eC (.int 2)) aNil)))))))
  (sSeq (sSet 7 (m2 dSub (eC (.int 1)) (m2 dMul (eC (.int 2)) (mC dInt (zad (m2 dEq (eIxV 2 (eVar 5)) (m2 dIx (m2 dAdd (eIxV 1 (eC (.int 2))) (eTup (zad (eC (.int 0)) aNil))) (eVar 5))) aNil)))))
  (sSeq (sCut 3 (eFz zci) (eVar 5) (m2 dAdd (eVar 5) (eC (.int 1))))
  (sSeq (sIf (tTru (zgL dLe dLt (eC (.int 0)) (eVar 6) (zbY 2)))
  (sPut 3 (eVar 6) (m2 dSub (eIxV 3 (eVar 6)) (eVar 7)))
  zbg)
  za5))))))))
noncomputable def za8 : List D -> List D -> Option (Sl × List D) := fM 8 zbW
theorem zf3 (zai : FD P w K mg base 1 "_law_take" (spM K 2 zal)) (h : FnAt K "_law_pair_moved" zda) : FD P w K mg base 2 "_law_pair_moved" (spM K 3 za8) :=
 fdM (N := ["pot", "line", "row", "moved", "some", "at", "other", "more"]) (k := 1) (m := zbW) X G h fun _ _ _ _ _ _ _ hr nd => (zag (zbM 3 (zgC bn.list' (zaa (zab 2) zaf)) nd)
  (zag (zf8 4 [2, 1] 1 ["row", "line", "at"] rfl (zaM bn.range' (zaa (zaY 2 bn.len') zaf)) (fun C s H fp => (zam 2 ndk)) (fun C s H fp => (zlP (st_in (zaj 0 (zab 2)) (zaq (zbj (zaj 1 zae) (zaL (zab 2)) (zaL (zaq (zab 2) zae))) (zbj (zaj 1 zae) (zaL (zab 2)) (zaL (zaq (zab 2) zae))))))) (fun C s H fp => (zab 2)) nd)
  (zag (zar 4 (zbj (zaq (zab 4) (SO.se (za1 (zaa zae zaf)))) zdt (zaL (ziF rfl bn.max' (zaa zae (zaa (zaY 4 bn.len') zaf))))) nd)
  (zag (zar 5 (zaj 4 (zap 0 zai hr (zaa (zaY 4 bn.len') zaf) (zaX (zac zak)))) nd)
  (zag (zar 6 (zaq (zab 5) (zbv (zaj 1 zae) (za6 zae (zbv zae (zap 0 zai hr (zaa zae zaf) (zaX (zac zak))))))) nd)
  (zag (zar 7 (za6 zae (zbv zae (zha bn.int' (zaa (zjw hr.units (zaj 2 (zab 5)) (zaI (zaq (zaj 1 zae) (zaT (zaa zae zaf))) (zab 5))) zaf)))) nd)
  (zag (ss_cut 3 (SO.se (zcD [7] 1 ["more", "number"] rfl (zbx (se_cutO 3 (zaL (zab 5)) (zaL (zaq (zab 5) zae)))) (fun C s H fp => (zam 1 ndk)) (fun C s H fp => zaG) (fun C s H fp => (zaq (zab 1) (zab 0))))) (zab 5) (zaq (zab 5) zae))
  (zag (zbl (st_chain zmt op_lt zeK zeK zkn zae (zab 6) (zaY 2 bn.len'))
  (zan (zf2 3 (za6 (zaj 3 (zab 6)) (zab 7)) (zab 6)))
  zaz)
  (zan (zgA 3))))))))))
noncomputable abbrev zgK : Stmt := top 42
noncomputable def zaB : MS :=
 (sRet (eTup (zad (eVar 3) (zad (mC zbF (zad (eVar 4) aNil)) (zad (eVar 5) aNil)))))
noncomputable def zaA : MS :=
 (sSeq (sIf (tTru (m2 dGt (eVar 6) (eC (.int 3))))
  (sSeq (sSet 5 (zau za9 0 (zad (eVar 1) (zad (eVar 5) aNil))))
  (sIf (tTru (m2 dEq (zau zal 0 (zad (eC (.int 8)) aNil)) (eC (.int 0))))
  (sSet 5 (eC .non))
  zbg))
  zbg)
  zaB)
noncomputable def zaE : MS :=
 (sSeq (sIf (tTru (m2 dEq (eVar 6) (eC (.int 3))))
  (sSeq (sSet 8 (zau za8 0 (zad (eVar 1) (zad (eVar 4) aNil))))
  (sSet 4 (m2 dIx (eFz (oLst (zad (eCut (eVar 4) pNo (zbt (m1 dNeg (eC (.int 1))))) (zad (m2 dAdd (mC zbF (zad (eVar 4) aNil)) (eTup (zad (eC (.int 0)) aNil))) (zad (eVar 8) (zad (eVar 8) aNil)))))) (zau zal 0 (zad (eC (.int 4)) aNil)))))
  zbg)
  zaA)
noncomputable def zaF : MS :=
 (sSeq (sIf (tTru (m2 dEq (eVar 6) (eC (.int 2))))
  (sSeq (sSet 7 (zau zal 0 (zad (zbY 4) aNil)))
  (sSeq (zeY 4 (oC zaN (zad (eVar 4) aNil)))
  (sPut 4 (eVar 7) (m2 dAdd (eIxV 4 (eVar 7)) (m2 dIx (eTup (zad (eC (.int 1)) (zad (m1 dNeg (eC (.int 1))) (zad (m2 dPow (eC (.int 10)) (eC (.int 59))) aNil)))) (zau zal 0 (zad (eC (.int 3)) aNil)))))))
  zbg)
  zaE)
noncomputable def zaC : MS :=
 (sSeq (sIf (tTru (m2 dEq (eVar 6) (eC (.int 1))))
  (zeY 4 (zkN zbf 0 (zad (eVar 1) aNil)))
  zbg)
  zaF)
noncomputable def zfO : MS :=
 (sSeq (sAsg (eVar 2) (gT 3 (zas (gN 3) (zas (gN 4) (zas (gN 5) zcs)))))
  (sSeq (sSet 6 (zau zal 0 (zad (eC (.int 6)) aNil)))
  (sSeq (sIf (tTru (m2 dEq (eVar 6) (eC (.int 0))))
  (sSet 3 (m2 dAdd (eVar 3) (m2 dIx (eTup (zad (eC (.int 1)) (zad (m1 dNeg (eC (.int 1))) (zad (m2 dSub (m1 dNeg (eVar 3)) (eC (.int 1))) (zad (m2 dPow (eC (.int 10)) (eC (.int 59))) aNil))))) (zau zal 0 (zad (eC (.int 4)) aNil)))))
  zbg)
  zaC)))
noncomputable def zcW : List D -> List D -> Option (Sl × List D) := fM 9 zfO
theorem ziN (zbR : FD P w K mg base 2 "_law_inner_row" (spM K 2 zbf)) (zbG : FD P w K mg base 2 "_law_pair_moved" (spM K 3 za8)) (zai : FD P w K mg base 1 "_law_take" (spM K 2 zal)) (zb7 : FD P w K mg base 3 "_law_way_bent" (spM K 3 za9)) (h : FnAt K "_law_bent" zgK) : FD P w K mg base 4 "_law_bent" (spM K 3 zcW) :=
 fdM (N := ["pot", "line", "told", "far", "row", "way", "turn", "at", "moved"]) (k := 3) (m := zfO) X G h fun _ _ _ _ _ _ _ hr nd => (zag (zhS (zab 2) (zbu rfl (zao (zam 3 nd) (zao (zam 4 nd) (zao (zam 5 nd) za0)))))
  (zag (zar 6 (zap 0 zai hr (zaa zae zaf) (zaX (zac zak))) nd)
  (zag (zbl (zb3 hr.units (zab 6) zae)
  (zan (zar 3 (zaq (zab 3) (zaI (zaT (zaa zae (zaa (zbH zae) (zaa (za6 (zbH (zab 3)) zae) (zaa (zde zae zae) zaf))))) (zap 0 zai hr (zaa zae zaf) (zaX (zac zak))))) nd))
  zaz)
  (zag (zbl (zb3 hr.units (zab 6) zae)
  (zan (zbM 4 (so_callM 0 zbR hr (zaa (zab 1) zaf) (zaX (zac zak))) nd))
  zaz)
  (zag (zbl (zb3 hr.units (zab 6) zae)
  (zag (zar 7 (zap 0 zai hr (zaa (zaY 4 bn.len') zaf) (zaX (zac zak))) nd)
  (zag (zbM 4 (zgC bn.list' (zaa (zab 4) zaf)) nd)
  (zan (zf2 4 (zaq (zaj 4 (zab 7)) (zaI (zaT (zaa zae (zaa (zbH zae) (zaa (zde zae zae) zaf)))) (zap 0 zai hr (zaa zae zaf) (zaX (zac zak))))) (zab 7)))))
  zaz)
  (zag (zbl (zb3 hr.units (zab 6) zae)
  (zag (zar 8 (zap 0 zbG hr (zaa (zab 1) (zaa (zab 4) zaf)) (zaX (zac (zac zak)))) nd)
  (zan (zar 4 (zaI (SO.se (za1 (zaa (zbj (zab 4) zdt (zaL (zbH zae))) (zaa (zaq (zbA bn.tuple' (zaa (zab 4) zaf)) (zaT (zaa zae zaf))) (zaa (zab 8) (zaa (zab 8) zaf)))))) (zap 0 zai hr (zaa zae zaf) (zaX (zac zak)))) nd)))
  zaz)
  (zag (zbl (st_gt (zab 6) zae)
  (zag (zar 5 (zap 0 zb7 hr (zaa (zab 1) (zaa (zab 5) zaf)) (zaX (zac (zac zak)))) nd)
  (zan (zbl (zb3 hr.units (zap 0 zai hr (zaa zae zaf) (zaX (zac zak))) zae)
  (zan (zar 5 zcm nd))
  zaz)))
  zaz)
  (zan (zax (zaT (zaa (zab 3) (zaa (zbA bn.tuple' (zaa (zab 4) zaf)) (zaa (zab 5) zaf)))))))))))))
noncomputable abbrev zjt : Stmt := top 43
noncomputable def zk4 : MS :=
 (sSet 6 (zau zcW 2 (zad (eVar 3) (zad (eVar 6) aNil))))
noncomputable def zkZ : MS :=
 sFor (iR1 (zad (mC (d2I min2) (zad (eVar 5) (zad (m2 dAdd (eC (.int 1)) (zau zal 2 (zad (eC (.int 2)) aNil))) aNil))) aNil)) (gN 7) zk4
noncomputable def zh9 : MS :=
 (sIf (zl0 (tTru (m2 zis (eVar 8) (eC .non))) (tTru (m2 dNe (eFz (oC zaN (zad (eVar 8) aNil))) (eIxV 6 (eC (.int 2))))))
  (sRet (eC (.bl false)))
  zbg)
noncomputable def zio : MS :=
 (sSeq (sSet 9 (zba zcM (zad (eVar 3) (zad (eTup (zad (eIxV 6 (eC (.int 0))) (zad (zau zbq 2 (zad (eIxV 6 (eC (.int 1))) aNil)) (zad (eVar 8) aNil)))) aNil))))
  (sSeq (sIf (tOrM (zkl (tTru (eIsI "bool" (eVar 9)))) (tTru (m2 dNe (eVar 9) (zba zbd (zad (eVar 3) (zad (eIxV 6 (eC (.int 0))) (zad (eIxV 6 (eC (.int 1))) (zad (eIxV 6 (eC (.int 2))) aNil))))))))
  (sRet (eC (.bl false)))
  zbg)
  zh9))
noncomputable def zkH : MS :=
 (sSeq (sSet 6 (eVar 4))
  (sSeq zkZ
  (sSeq (sSet 8 (eIxV 6 (eC (.int 2))))
  (sSeq (sIf (tTru (m2 zis (eVar 8) (eC .non)))
  (sSet 8 (zau zbq 2 (zad (eVar 8) aNil)))
  zbg)
  zio))))
noncomputable def zkr : MS :=
 sFor (iR1 (zad (eC (.int 12)) aNil)) (gN 5) zkH
noncomputable def zkq : MS :=
 (sSeq (zeY 2 (oCall zcB (zad (eVar 0) (zad (eVar 1) aNil))))
  (sSeq (sSet 3 (zau zbk 2 aNil))
  (sSeq (sSet 4 (zba zdI (zad (eVar 3) aNil)))
  zkr)))
noncomputable def zkL : MS :=
 sFor (iR1 (zad (mC (d2I max2) (zad (eC (.int 2)) (zad (mC (d2I min2) (zad (zbY 0) (zad (eC (.int 4)) aNil))) aNil))) aNil)) (gN 1) zkq
noncomputable def m_law : MS :=
 (sSeq zkL
  (sRet (eC (.bl true))))
noncomputable def zi4 : List D -> Option Sl := fP 10 m_law
theorem ok_law (zb9 : FD P w K mg base 3 "_law_any_line" (spM K 1 zbk)) (zeA : FD P w K mg base 4 "_law_bent" (spM K 3 zcW)) (zeJ : FD P w K mg base 1 "_law_deal" (spP K 2 zcB)) (zb0 : FD P w K mg base 2 "_law_either" (spM K 2 zbq)) (zbU : FD P w K mg base 3 "_law_off_right" (spP K 4 zbd)) (zai : FD P w K mg base 1 "_law_take" (spM K 2 zal)) (zfJ : FD P w K mg base 6 "line_off" (spP K 1 zdI)) (zeQ : FD P w K mg base 4 "off_right" (spP K 2 zcM)) (F : Fun K "law" "law" zjt f fd) : FnOk P w K mg base CX0 7 f fd ["script"] (spP K 1 zi4) :=
 lawP (N := ["script", "k", "pot", "line", "first", "turn", "told", "bend", "way", "found"]) (k := 6) (n := 1) (m := m_law) F fun _ _ _ _ _ _ _ hr nd => (zag (zck PassesOwn.never rfl (zaM bn.range' (zaa (ziF rfl bn.max' (zaa zae (zaa (zj9 rfl bn.min' (zaa (zaY 0 bn.len') (zaa zae zaf))) zaf))) zaf)) (zam 1 nd)
  (zag (zbM 2 (so_call zeJ hr (zaa (zab 0) (zaa (zab 1) zaf)) (hlen := (zac (zac zak)))) nd)
  (zag (zar 3 (zap 2 zb9 hr zaf (zaX zak)) nd)
  (zag (zar 4 (zav zfJ hr (zaa (zab 3) zaf) (hlen := (zac zak))) nd)
  (zan (zck PassesOwn.never rfl (zaM bn.range' (zaa zae zaf)) (zam 5 nd)
  (zag (zar 6 (zab 4) nd)
  (zag (zck PassesOwn.never rfl (zaM bn.range' (zaa (zj9 rfl bn.min' (zaa (zab 5) (zaa (zaq zae (zap 2 zai hr (zaa zae zaf) (zaX (zac zak)))) zaf))) zaf)) (zam 7 nd)
  (zan (zar 6 (zap 2 zeA hr (zaa (zab 3) (zaa (zab 6) zaf)) (zaX (zac (zac zak)))) nd)))
  (zag (zar 8 (zaj 6 zae) nd)
  (zag (zbl (ziI (zab 8) zcm)
  (zan (zar 8 (zap 2 zb0 hr (zaa (zab 8) zaf) (zaX (zac zak))) nd))
  zaz)
  (zag (zar 9 (zav zeQ hr (zaa (zab 3) (zaa (zaT (zaa (zaj 6 zae) (zaa (zap 2 zb0 hr (zaa (zaj 6 zae) zaf) (zaX (zac zak))) (zaa (zab 8) zaf)))) zaf)) (hlen := (zac (zac zak)))) nd)
  (zag (zbl (STw.st (zjg (zjj (zdZ (se_isI "bool" bn.isinstance' bn.bool' (by decide +kernel) (zab 9)))) (zhe (zm1 hr.units (zab 9) (zav zbU hr (zaa (zab 3) (zaa (zaj 6 zae) (zaa (zaj 6 zae) (zaa (zaj 6 zae) zaf)))) (hlen := (zac (zac (zac (zac zak))))))))))
  (zan (zax zgl))
  zaz)
  (zan (zbl (STw.st (sw_and (ziI (zab 8) zcm) (zmK (zm1 hr.units (SO.se (zgC bn.list' (zaa (zab 8) zaf))) (zaj 6 zae)))))
  (zan (zax zgl))
  zaz))))))))))))))
  (zan (zax zgl)))
end
set_option maxHeartbeats 0 in
theorem all_mk {l : W.OpenLaw} {w : World} {K : W.Frag} {h : Heap} {mg : Str -> Option Value} {fa : Addr} (X : K.In h) (G : h.Ns mainGlobals mg) (hfa : mg "law" = some (.ref fa))
  (h1 : FnAt K "line_sums" zgR)
  (h2 : FnAt K "row_within" zfW)
  (h3 : FnAt K "greatest_shifts" zdc)
  (h4 : FnAt K "falling_loop" zei)
  (h5 : FnAt K "row_by_cuts" zfg)
  (h6 : FnAt K "numbers_many" zeE)
  (h7 : FnAt K "is_step" zhZ)
  (h8 : FnAt K "step_walk" zgU)
  (h9 : FnAt K "steps_of" zhh)
  (h10 : FnAt K "walks_of" zhx)
  (h11 : FnAt K "more_of" zh4)
  (h12 : FnAt K "one_sum_on" zgm)
  (h13 : FnAt K "least_mean" zgb)
  (h14 : FnAt K "least_far" zgH)
  (h15 : FnAt K "far_ties" zhD)
  (h16 : FnAt K "way_beyond" zge)
  (h17 : FnAt K "line_off" zhu)
  (h18 : FnAt K "row_near" zhf)
  (h19 : FnAt K "is_closed" zgJ)
  (h20 : FnAt K "way_right" zgN)
  (h21 : FnAt K "off_right" zgS)
  (h22 : FnAt K "_law_deal" zgV)
  (h23 : FnAt K "_law_take" zgI)
  (h24 : FnAt K "_law_either" ze2)
  (h25 : FnAt K "_law_sums" zgT)
  (h26 : FnAt K "_law_line" zgP)
  (h27 : FnAt K "_law_far_line" zec)
  (h28 : FnAt K "_law_any_line" zee)
  (h29 : FnAt K "_law_within" ze7)
  (h30 : FnAt K "_law_inner_row" zdD)
  (h31 : FnAt K "_law_step_ends" zdF)
  (h32 : FnAt K "_law_is_way" zfq)
  (h33 : FnAt K "_law_off_right" zdL)
  (h34 : FnAt K "_law_any_step" zeg)
  (h35 : FnAt K "_law_way_bent" zd4)
  (h36 : FnAt K "_law_pair_moved" zda)
  (h37 : FnAt K "_law_bent" zgK)
  (h38 : FnAt K "law" zjt)
  (z0 : W.nsIn K mainGlobals "abs" = some none) (z1 : W.nsIn K mainGlobals "all" = some none) (z2 : W.nsIn K mainGlobals "any" = some none) (z3 : W.nsIn K mainGlobals "bool" = some none) (z4 : W.nsIn K mainGlobals "int" = some none) (z5 : W.nsIn K mainGlobals "isinstance" = some none) (z6 : W.nsIn K mainGlobals "len" = some none) (z7 : W.nsIn K mainGlobals "list" = some none) (z8 : W.nsIn K mainGlobals "max" = some none) (z9 : W.nsIn K mainGlobals "min" = some none) (z10 : W.nsIn K mainGlobals "range" = some none) (z11 : W.nsIn K mainGlobals "reversed" = some none) (z12 : W.nsIn K mainGlobals "sum" = some none) (z13 : W.nsIn K mainGlobals "tuple" = some none) (z14 : W.nsIn K mainGlobals "zip" = some none) :
  ∃ fd : FuncData, (∀ (s : Shared) (v : Value), BindsTo s fd ⟨[v], []⟩ [("script", v)]) /\ ∀ base : Heap, K.In base -> base.Ns mainGlobals mg -> FnOk l.prog w K mg base CX0 7 fa fd ["script"] (spP K 1 zi4) := by
 have bn : BN K mg := ⟨W.mg_none_of X G z0, W.mg_none_of X G z1, W.mg_none_of X G z2, W.mg_none_of X G z3, W.mg_none_of X G z4, W.mg_none_of X G z5, W.mg_none_of X G z6, W.mg_none_of X G z7, W.mg_none_of X G z8, W.mg_none_of X G z9, W.mg_none_of X G z10, W.mg_none_of X G z11, W.mg_none_of X G z12, W.mg_none_of X G z13, W.mg_none_of X G z14⟩
 obtain ⟨a, b, c, d, e, f, T⟩ := h38.law X G hfa
 refine ⟨W.fnOf "law" "law" (zev zjt) (zca zjt) (zaR zjt) .none a b c d e f, fun s v => .of_eq rfl, fun base _ _ => ?_⟩
 have zet := zjz (P := l.prog) (w := w) (base := base) X G bn  h1
 have zdT := zij (P := l.prog) (w := w) (base := base) X G bn  h2
 have zaU := zfQ (P := l.prog) (w := w) (base := base) X G bn  h3
 have zcS := zhn (P := l.prog) (w := w) (base := base) X G bn  h4
 have zdw := zhI (P := l.prog) (w := w) (base := base) X G bn zaU h5
 have za7 := zhp (P := l.prog) (w := w) (base := base) X G bn  h6
 have zgn := zlv (P := l.prog) (w := w) (base := base) X G bn za7 h7
 have za3 := zjN (P := l.prog) (w := w) (base := base) X G bn  h8
 have zbC := zki (P := l.prog) (w := w) (base := base) X G bn za7 h9
 have zbo := zjW (P := l.prog) (w := w) (base := base) X G bn za3 zbC h10
 have zeU := zlz (P := l.prog) (w := w) (base := base) X G bn  h11
 have zdU := zim (P := l.prog) (w := w) (base := base) X G bn zeU h12
 have zd2 := zic (P := l.prog) (w := w) (base := base) X G bn  h13
 have zeu := zi9 (P := l.prog) (w := w) (base := base) X G bn zd2 zdU zbo h14
 have zbX := zjT (P := l.prog) (w := w) (base := base) X G bn zbo h15
 have zdY := zib (P := l.prog) (w := w) (base := base) X G bn zcS zbX zaU za3 zbC h16
 have zfJ := zj8 (P := l.prog) (w := w) (base := base) X G bn zbX zeu zdw zdY h17
 have zfK := zkc (P := l.prog) (w := w) (base := base) X G bn zet zdT h18
 have zeF := zi1 (P := l.prog) (w := w) (base := base) X G bn  h19
 have zej := ziR (P := l.prog) (w := w) (base := base) X G bn zeF zgn za3 h20
 have zeQ := zjb (P := l.prog) (w := w) (base := base) X G bn zfK zej h21
 have zeJ := zi7 (P := l.prog) (w := w) (base := base) X G bn  h22
 have zai := zjA (P := l.prog) (w := w) (base := base) X G bn  h23
 have zb0 := zhN (P := l.prog) (w := w) (base := base) X G bn zai h24
 have zbE := zi8 (P := l.prog) (w := w) (base := base) X G bn  h25
 have zew := ziP (P := l.prog) (w := w) (base := base) X G bn zbE zai h26
 have zcb := zgZ (P := l.prog) (w := w) (base := base) X G bn zai h27
 have zb9 := zg1 (P := l.prog) (w := w) (base := base) X G bn zcb zew zai h28
 have zdr := zhO (P := l.prog) (w := w) (base := base) X G bn  h29
 have zbR := zgB (P := l.prog) (w := w) (base := base) X G bn zai h30
 have zbP := zgv (P := l.prog) (w := w) (base := base) X G bn  h31
 have zdn := zhP (P := l.prog) (w := w) (base := base) X G bn zbP h32
 have zbU := zgr (P := l.prog) (w := w) (base := base) X G bn zdn zbE zdr h33
 have zbB := zg3 (P := l.prog) (w := w) (base := base) X G bn zai h34
 have zb7 := zg4 (P := l.prog) (w := w) (base := base) X G bn zbB zai h35
 have zbG := zf3 (P := l.prog) (w := w) (base := base) X G bn zai h36
 have zeA := ziN (P := l.prog) (w := w) (base := base) X G bn zbR zbG zai zb7 h37
 exact ok_law X G bn zb9 zeA zeJ zb0 zbU zai zfJ zeQ T
theorem walk {l : W.OpenLaw} {q : Program} {loose : List Str} {XP : (Str -> Option Value) -> Heap -> Prop} {YP : World -> Heap -> Prop} {d : DefRec} {K : Params -> W.Frag} (hn : l.most = some 63) (hdf : d.params.defaults = [])
  (hm : ∀ ns : List Int, ns.length <= 63 -> zi4 [.scr ns] = some (.val (.bl true)))
  (hY : ∀ (w : World) (h : Heap), YP w h -> (K w.params).In h)
  (F : ∀ (w : World) (mg : Str -> Option Value) (fa : Addr) (h : Heap), (K w.params).In h -> h.Ns mainGlobals mg -> mg d.name = some (.ref fa) ->
   ∃ fd : FuncData, (∀ (s : Shared) (u : Value), BindsTo s fd ⟨[u], []⟩ [("script", u)]) /\ ∀ base : Heap, (K w.params).In base -> base.Ns mainGlobals mg -> FnOk l.prog w (K w.params) mg base CX0 7 fa fd ["script"] (spP (K w.params) 1 zi4)) :
  W.WalkO q loose XP YP l.row.toRowW d [] (fun f vs => PySem.call f vs) :=
 L2.walk_of (n := 63) (k := 7) (x := "script") (CX := fun _ => CX0) (sp := fun w => spP (K w.params) 1 zi4) hn (by decide) hdf ⟨rfl, by decide, by decide, rfl⟩ hY F
  (fun w H a ns hl _ hS => ⟨H, [.scr ns], .val (.bl true), hm ns hl, rfl, Fz.refl H, .cons ⟨a, rfl, hS⟩ .nil, fun _ _ _ _ _ _ _ rr => rr⟩) fun _ _ _ _ _ z => z
end Prf
set_option exponentiation.threshold 5000
namespace Prf
open L2 M PySem
variable {i j t q s n v c N p k n' m e : Nat} {d : Nat -> Option Int} {u : Nat -> Option Nat} {ts f qs us : Nat -> Nat} {y x F : Int} {b : Bool} {o : Option Int} {Q : Fl × R -> Prop} {X L G r : Nat -> Int} {ds ds' xs : List D} {l : List Gs}
noncomputable def ckf (m t j q : Nat) : Nat := if q < j then t * m + q + 1 else t * m + q + 1 - m
noncomputable def upf {α : Type} (f : Nat -> α) (i : Nat) (x : α) : Nat -> α := fun j => if j = i then x else f j
theorem za2 {α : Type} (f : Nat -> α) (i : Nat) (x : α) : upf f i x i = x := if_pos rfl
theorem zaD {α : Type} (f : Nat -> α) (x : α) (h : j ≠ i) : upf f i x j = f j := if_neg h
section
variable {m n : Nat} {tl tu : Nat -> Nat} {ta : Nat -> Int}
noncomputable def Kept (tl tu : Nat -> Nat) (ta : Nat -> Int) (d : Nat -> Option Int) (q : Nat) : Prop := ∀ y, d (tu q) = some y -> ∃ x, d (tl q) = some x /\ x <= y + ta q
structure BI (m : Nat) (tl tu : Nat -> Nat) (ta : Nat -> Int) (s t j : Nat) (d : Nat -> Option Int) (u : Nat -> Option Nat) (ts : Nat -> Nat) : Prop where
 le : ∀ v, ts v <= t * m + j
 st : ∃ x, d s = some x
 inj : ∀ v w, 0 < ts v -> ts v = ts w -> v = w
 un : ∀ l, 0 < ts l -> ∃ q, q < m /\ tl q = l /\ u l = some (tu q) /\ ∃ x y, d l = some x /\ d (tu q) = some y /\ y + ta q <= x /\ (ts l < ts (tu q) -> y + ta q < x) /\ (m < ts l -> ts l + 1 <= ts (tu q) + m)
 ck : ∀ q, q < m -> 0 < ckf m t j q -> ckf m t j q < ts (tu q) \/ Kept tl tu ta d q
theorem ziK (h : q ≠ j) : ckf m t (j + 1) q = ckf m t j q := by
 unfold ckf
 by_cases z : q < j
 ·rw [if_pos z, if_pos (by lia)]
 ·rw [if_neg z, if_neg (by lia)]
theorem ckf_le (hq : q < m) : ckf m t j q <= t * m + j := by
 unfold ckf
 split <;> lia
theorem BI.keep (b : BI m tl tu ta s t j d u ts) (k : Kept tl tu ta d j) : BI m tl tu ta s t (j + 1) d u ts where
 le := fun v => by have := b.le v; lia
 st := b.st
 inj := b.inj
 un := b.un
 ck := fun q hq h => by
  by_cases e : q = j
  ·subst e; exact .inr k
  ·rw [ziK e] at h ⊢; exact b.ck q hq h
theorem BI.change {s t j : Nat} (b : BI m tl tu ta s t j d u ts) (hj : j < m) (ne : tl j ≠ tu j) (hy : d (tu j) = some y) (hx : ∀ x, d (tl j) = some x -> y + ta j < x) :
  BI m tl tu ta s t (j + 1) (upf d (tl j) (some (y + ta j))) (upf u (tl j) (some (tu j))) (upf ts (tl j) (t * m + j + 1)) where
 le := fun v => by
  by_cases e : v = tl j
  ·rw [e, za2]; lia
  ·rw [zaD _ _ e]; have := b.le v; lia
 st := by
  obtain ⟨x, h⟩ := b.st
  by_cases e : s = tl j
  ·exact ⟨_, by rw [e, za2]⟩
  ·exact ⟨x, by rw [zaD _ _ e]; exact h⟩
 inj := fun v w h e => by
  have lv := b.le v
  have lw := b.le w
  by_cases ev : v = tl j
  ·by_cases ew : w = tl j
   ·rw [ev, ew]
   ·rw [ev, za2, zaD _ _ ew] at e; lia
  ·by_cases ew : w = tl j
   ·rw [ew, za2, zaD _ _ ev] at e; lia
   ·rw [zaD _ _ ev] at h e; rw [zaD _ _ ew] at e; exact b.inj v w h e
 un := fun l h => by
  by_cases e : l = tl j
  ·subst e
   refine ⟨j, hj, rfl, za2 _ _ _, y + ta j, y, za2 _ _ _, by rw [zaD _ _ ne.symm]; exact hy, Int.le_refl _, fun z => ?_, fun z => ?_⟩
   ·rw [za2, zaD _ _ ne.symm] at z
    have := b.le (tu j)
    lia
   ·rw [za2] at z ⊢
    rw [zaD _ _ ne.symm]
    have e1 : ckf m t j j = t * m + j + 1 - m := by unfold ckf; rw [if_neg (by lia)]
    rcases b.ck j hj (by rw [e1]; lia) with c | c
    ·rw [e1] at c; lia
    ·obtain ⟨x, h1, h2⟩ := c y hy
     have := hx x h1
     lia
  ·rw [zaD _ _ e] at h
   obtain ⟨q, hq, eq, eu, x, y', h1, h2, h3, h4, h5⟩ := b.un l h
   refine ⟨q, hq, eq, by rw [zaD _ _ e]; exact eu, ?_⟩
   by_cases z : tu q = tl j
   ·have lt := hx y' (by rw [<- z]; exact h2)
    refine ⟨x, y + ta j, by rw [zaD _ _ e]; exact h1, by rw [z, za2], by lia, fun _ => by lia, fun g => ?_⟩
    rw [zaD _ _ e] at g ⊢
    have := h5 g
    have := b.le (tu q)
    rw [z, za2]
    lia
   ·refine ⟨x, y', by rw [zaD _ _ e]; exact h1, by rw [zaD _ _ z]; exact h2, h3, fun g => ?_, fun g => ?_⟩
    ·rw [zaD _ _ e, zaD _ _ z] at g; exact h4 g
    ·rw [zaD _ _ e] at g ⊢; rw [zaD _ _ z]; exact h5 g
 ck := fun q hq h => by
  by_cases z : tu q = tl j
  ·by_cases e : q = j
   ·subst e; exact absurd z.symm ne
   ·left
    rw [ziK e, z, za2]
    have := ckf_le (t := t) (j := j) hq
    lia
  ·have sat : Kept tl tu ta d q -> Kept tl tu ta (upf d (tl j) (some (y + ta j))) q := fun k y' hy' => by
    rw [zaD _ _ z] at hy'
    obtain ⟨x, h1, h2⟩ := k y' hy'
    by_cases g : tl q = tl j
    ·refine ⟨y + ta j, by rw [g, za2], ?_⟩
     have := hx x (by rw [<- g]; exact h1)
     lia
    ·exact ⟨x, by rw [zaD _ _ g]; exact h1, h2⟩
   by_cases e : q = j
   ·subst e
    right
    intro y' hy'
    rw [zaD _ _ z, hy] at hy'
    cases hy'
    exact ⟨_, za2 _ _ _, Int.le_refl _⟩
   ·rw [ziK e] at h ⊢
    rw [zaD _ _ z]
    exact (b.ck q hq h).imp id sat
theorem BI.turn (b : BI m tl tu ta s t m d u ts) : BI m tl tu ta s (t + 1) 0 d u ts where
 le := fun v => by have := b.le v; rw [Nat.add_mul]; lia
 st := b.st
 inj := b.inj
 un := b.un
 ck := fun q hq h => by
  have e : ckf m (t + 1) 0 q = ckf m t m q := by
   unfold ckf
   rw [if_neg (by lia), if_pos hq, Nat.add_mul]
   lia
  rw [e] at h ⊢
  exact b.ck q hq h
theorem BI.start : BI m tl tu ta s 0 0 (fun v => if v = s then some 0 else none) (fun _ => none) (fun _ => 0) where
 le := fun v => by lia
 st := ⟨0, if_pos rfl⟩
 inj := fun v w h => by lia
 un := fun l h => by lia
 ck := fun q hq h => by
  unfold ckf at h
  rw [if_neg (by lia)] at h
  lia
theorem BI.kept (b : BI m tl tu ta s (t + 1) 0 d u ts) (h : ∀ v, ts v <= t * m) (hq : q < m) : Kept tl tu ta d q := by
 have e : ckf m (t + 1) 0 q = t * m + q + 1 := by unfold ckf; rw [if_neg (by lia), Nat.add_mul]; lia
 rcases b.ck q hq (by lia) with c | c
 ·have := h (tu q); lia
 ·exact c
end
noncomputable def back (u : Nat -> Option Nat) (l : Nat) : Nat -> Nat
 | 0 => l
 | i + 1 => (u (back u l i)).getD 0
theorem zbZ (u : Nat -> Option Nat) (l i : Nat) : ∀ j, back u (back u l i) j = back u l (i + j)
 | 0 => rfl
 | j + 1 => by
  show (u (back u (back u l i) j)).getD 0 = (u (back u l (i + j))).getD 0
  rw [zbZ u l i j]
theorem fewN : ∀ (c : Nat) (ks : List Nat), ks.Nodup -> (∀ x, x ∈ ks -> x < c) -> ks.length <= c
 | 0, [], _, _ => by simp
 | 0, x :: ks, _, h => by have := h x (by simp); lia
 | c + 1, ks, nd, h => by
  by_cases q : c ∈ ks
  ·have ih := fewN c (ks.erase c) (nd.erase _) fun x hx => by
    have hm := (nd.mem_erase_iff).mp hx
    have := h x hm.2
    have := hm.1
    lia
   rw [List.length_erase_of_mem q] at ih
   lia
  ·have := fewN c ks nd fun x hx => by
    have := h x hx
    have : x ≠ c := fun z => q (z ▸ hx)
    lia
   lia
theorem pigeon (h : ∀ i, i <= n -> f i < n) : ∃ i j, i < j /\ j <= n /\ f i = f j := by
 apply Classical.byContradiction
 intro no
 have nd : ((List.range (n + 1)).map f).Nodup := by
  rw [List.nodup_iff_pairwise_ne, List.pairwise_map]
  refine (List.Pairwise.and_mem.mp List.pairwise_lt_range).imp fun {a b} hh e => no ⟨a, b, hh.2.2, ?_, e⟩
  have := List.mem_range.mp hh.2.1
  lia
 have := fewN n _ nd fun x hx => by
  obtain ⟨i, hi, rfl⟩ := List.mem_map.mp hx
  exact h i (by have := List.mem_range.mp hi; lia)
 rw [List.length_map, List.length_range] at this
 lia
section
variable {m n : Nat} {tl tu : Nat -> Nat} {ta : Nat -> Int} {s : Nat} {d : Nat -> Option Int} {u : Nat -> Option Nat} {ts : Nat -> Nat} {l : Nat}
theorem BI.next (b : BI m tl tu ta s n 0 d u ts) (h : 0 < ts v) : ∃ q, q < m /\ tl q = v /\ tu q = (u v).getD 0 := by
 obtain ⟨q, hq, e, eu, _⟩ := b.un v h
 exact ⟨q, hq, e, by rw [eu]; rfl⟩
theorem BI.live (b : BI m tl tu ta s (n + 1) 0 d u ts) (h : n * m < ts l) : ∀ i, i <= n -> n * m + 1 <= ts (back u l i) + i * (m - 1)
 | 0, _ => by show n * m + 1 <= ts l + 0 * (m - 1); lia
 | i + 1, hi => by
  have ih := BI.live b h i (by lia)
  have m1 : 1 <= m := by
   obtain ⟨q, hq, _⟩ := b.un l (by lia)
   lia
  obtain ⟨m', rfl⟩ : ∃ m', m = m' + 1 := ⟨m - 1, by lia⟩
  obtain ⟨n', rfl⟩ : ∃ n', n = n' + 1 := ⟨n - 1, by lia⟩
  rw [Nat.add_sub_cancel] at ih ⊢
  have le : i * m' <= n' * m' := Nat.mul_le_mul_right _ (by lia)
  have e1 : (n' + 1) * (m' + 1) = n' * m' + m' + n' + 1 := by rw [Nat.add_mul, Nat.mul_add]; lia
  obtain ⟨q, hq, e, eu, x, y, _, _, _, _, h5⟩ := b.un (back u l i) (by lia)
  have h6 := h5 (by lia)
  have e2 : back u l (i + 1) = tu q := by show (u (back u l i)).getD 0 = _; rw [eu]; rfl
  have e3 : (i + 1) * m' = i * m' + m' := Nat.succ_mul i m'
  rw [e2]
  lia
theorem BI.all (b : BI m tl tu ta s (n + 1) 0 d u ts) (h : n * m < ts l) (hl : ∀ q, q < m -> tl q < n + 1) (hu : ∀ q, q < m -> tu q < n + 1) :
  (∀ t, 0 < ts (back u l t)) /\ ∃ p, 1 <= p /\ p <= n + 1 /\ back u l (n + 1 + p) = back u l (n + 1) := by
 have pos : ∀ i, i <= n -> 0 < ts (back u l i) := fun i hi => by
  have := b.live h i hi
  have m1 : 1 <= m := by
   obtain ⟨q, hq, _⟩ := b.un l (by lia)
   lia
  obtain ⟨m', rfl⟩ : ∃ m', m = m' + 1 := ⟨m - 1, by lia⟩
  rw [Nat.add_sub_cancel] at this
  have le : i * m' <= n * m' := Nat.mul_le_mul_right _ hi
  rw [Nat.mul_add] at this
  lia
 have lt : ∀ i, i <= n + 1 -> back u l i < n + 1 := fun i hi => by
  cases i with
  | zero =>
   obtain ⟨q, hq, e, _⟩ := b.next (pos 0 (by lia))
   have := hl q hq
   rw [e] at this; exact this
  | succ i =>
   obtain ⟨q, hq, _, e⟩ := b.next (pos i (by lia))
   have := hu q hq
   rw [e] at this; exact this
 obtain ⟨i, j, hij, hj, e⟩ := pigeon lt
 have per : ∀ t, back u l (i + t) = back u l (j + t) := fun t => by rw [<- zbZ, <- zbZ, e]
 refine ⟨fun t => ?_, j - i, by lia, by lia, ?_⟩
 ·induction t using Nat.strongRecOn with
  | _ t ih =>
   by_cases z : t < j
   ·exact pos t (by lia)
   ·have := per (t - j)
    rw [show j + (t - j) = t by lia] at this
    rw [<- this]
    exact ih _ (by lia)
 ·have := per (n + 1 - i)
  rw [show i + (n + 1 - i) = n + 1 by lia, show j + (n + 1 - i) = n + 1 + (j - i) by lia] at this
  exact this.symm
theorem least_p {P : Nat -> Prop} : ∀ p, P p -> ∃ c, P c /\ c <= p /\ ∀ i, i < c -> ¬ P i := by
 intro p
 induction p using Nat.strongRecOn with
 | _ p ih =>
  intro h
  by_cases z : ∃ i, i < p /\ P i
  ·obtain ⟨i, hi, hP⟩ := z
   obtain ⟨c, h1, h2, h3⟩ := ih i hi hP
   exact ⟨c, h1, by lia, h3⟩
  ·exact ⟨p, h, Nat.le_refl p, fun i hi hP => z ⟨i, hi, hP⟩⟩
structure Round (m : Nat) (tl tu : Nat -> Nat) (ta : Nat -> Int) (u : Nat -> Option Nat) (a c : Nat) (qs : Nat -> Nat) : Prop where
 pos : 1 <= c
 home : back u a c = a
 first : ∀ i, 1 <= i -> i < c -> back u a i ≠ a
 tie : ∀ i, i < c -> qs i < m /\ tl (qs i) = back u a i /\ tu (qs i) = back u a (i + 1)
 neg : sumR c (fun i => ta (qs i)) < 0
theorem Round.apart {a c : Nat} (r : Round m tl tu ta u a c qs) (hij : i < j) (hj : j < c) : back u a i ≠ back u a j := fun e => by
 have h1 := zbZ u a i (c - j)
 have h2 := zbZ u a j (c - j)
 rw [show j + (c - j) = c by lia, r.home] at h2
 rw [e, h2] at h1
 exact r.first (i + (c - j)) (by lia) (by lia) h1.symm
theorem BI.round (b : BI m tl tu ta s (n + 1) 0 d u ts) (h : n * m < ts l) (hl : ∀ q, q < m -> tl q < n + 1) (hu : ∀ q, q < m -> tu q < n + 1) (ne : ∀ q, q < m -> tl q ≠ tu q) :
  ∃ c qs, c <= n + 1 /\ Round m tl tu ta u (back u l (n + 1)) c qs := by
 obtain ⟨pos, p, p1, p2, ep⟩ := b.all h hl hu
 obtain ⟨c, ⟨c1, ec⟩, cp, cm⟩ := least_p (P := fun c => 1 <= c /\ back u l (n + 1 + c) = back u l (n + 1)) p ⟨p1, ep⟩
 have pos' : ∀ i, 0 < ts (back u (back u l (n + 1)) i) := fun i => by rw [zbZ]; exact pos _
 have un : ∀ i, ∃ q, q < m /\ tl q = back u (back u l (n + 1)) i /\ tu q = back u (back u l (n + 1)) (i + 1) /\ ∃ x y, d (back u (back u l (n + 1)) i) = some x /\ d (back u (back u l (n + 1)) (i + 1)) = some y /\ y + ta q <= x /\ (ts (back u (back u l (n + 1)) i) < ts (back u (back u l (n + 1)) (i + 1)) -> y + ta q < x) := fun i => by
  obtain ⟨q, hq, e, eu, x, y, h1, h2, h3, h4, _⟩ := b.un _ (pos' i)
  have e2 : back u (back u l (n + 1)) (i + 1) = tu q := by show (u (back u (back u l (n + 1)) i)).getD 0 = _; rw [eu]; rfl
  rw [e2]
  exact ⟨q, hq, e, rfl, x, y, h1, h2, h3, h4⟩
 let a := back u l (n + 1)
 let qs : Nat -> Nat := fun i => (un i).choose
 have sp := fun i => (un i).choose_spec
 have home : back u a c = a := by show back u (back u l (n + 1)) c = _; rw [zbZ]; exact ec
 refine ⟨c, qs, by lia, c1, home, fun i i1 ic e => cm i ic ⟨i1, by rw [<- zbZ]; exact e⟩, fun i _ => ⟨(sp i).1, (sp i).2.1, (sp i).2.2.1⟩, ?_⟩
 let x : Nat -> Int := fun i => (d (back u a i)).getD 0
 have step : ∀ i, x (i + 1) + ta (qs i) <= x i /\ (ts (back u a i) < ts (back u a (i + 1)) -> x (i + 1) + ta (qs i) < x i) := fun i => by
  obtain ⟨_, _, _, X, Y, h1, h2, h3, h4⟩ := sp i
  have e1 : x i = X := by show (d (back u (back u l (n + 1)) i)).getD 0 = X; rw [h1]; rfl
  have e2 : x (i + 1) = Y := by show (d (back u (back u l (n + 1)) (i + 1))).getD 0 = Y; rw [h2]; rfl
  rw [e1, e2]
  exact ⟨h3, h4⟩
 obtain ⟨i0, hi0, lt⟩ : ∃ i, i < c /\ ts (back u a i) < ts (back u a (i + 1)) := by
  apply Classical.byContradiction
  intro no
  have dec : ∀ i, i <= c -> ts (back u a i) <= ts a := by
   intro i
   induction i with
   | zero => intro _; exact Nat.le_refl _
   | succ i ih =>
    intro hi
    have := ih (by lia)
    have : ¬ ts (back u a i) < ts (back u a (i + 1)) := fun z => no ⟨i, by lia, z⟩
    lia
  have inc : ∀ i, i <= c -> ts a <= ts (back u a (c - i)) := by
   intro i
   induction i with
   | zero => intro _; rw [Nat.sub_zero, home]; exact Nat.le_refl _
   | succ i ih =>
    intro hi
    have h1 := ih (by lia)
    have h2 : ¬ ts (back u a (c - (i + 1))) < ts (back u a (c - (i + 1) + 1)) := fun z => no ⟨_, by lia, z⟩
    rw [show c - (i + 1) + 1 = c - i by lia] at h2
    lia
  have h1 := inc (c - 1) (by lia)
  rw [show c - (c - 1) = 1 by lia] at h1
  have h2 := dec 1 c1
  have e := b.inj (back u a 1) a (pos' 1) (by lia)
  obtain ⟨q1, q2, q3, _⟩ := sp 0
  exact ne (qs 0) q1 (by rw [show tl (qs 0) = a from q2, show tu (qs 0) = back u a 1 from q3, e])
 have tele : ∀ i, sumR i (fun j => ta (qs j)) <= x 0 - x i /\ (i0 < i -> sumR i (fun j => ta (qs j)) < x 0 - x i) := by
  intro i
  induction i with
  | zero => exact ⟨by show (0 : Int) <= _; lia, fun z => by lia⟩
  | succ i ih =>
   have st := step i
   have e : sumR (i + 1) (fun j => ta (qs j)) = sumR i (fun j => ta (qs j)) + ta (qs i) := rfl
   rw [e]
   refine ⟨by lia, fun z => ?_⟩
   by_cases g : i0 < i
   ·have := ih.2 g; lia
   ·have : i = i0 := by lia
    subst this
    have := st.2 lt
    lia
 have := (tele c).2 hi0
 have e0 : x c = x 0 := by show (d (back u a c)).getD 0 = (d a).getD 0; rw [home]
 lia
end
noncomputable def dO : Option Int -> D
 | none => .non
 | some x => .int x
noncomputable def uO : Option Nat -> D
 | none => .non
 | some v => .int (v : Nat)
theorem dO_n : dO none = .non := rfl
theorem dO_s (x : Int) : dO (some x) = .int x := rfl
noncomputable def tieL (m : Nat) (tl tu : Nat -> Nat) (ta : Nat -> Int) : List D := wL m fun q => .tup [.int (tl q : Nat), .int (tu q : Nat), .int (ta q)]
theorem zh5 (f : Nat -> D) (x : D) (h : i < n) : (wL n f).set i x = wL n (upf f i x) := by
 apply List.ext_getElem?
 intro j
 rw [List.getElem?_set]
 by_cases e : i = j
 ·subst e
  rw [if_pos rfl, if_pos (by rw [zaS]; exact h), zat _ h, za2]
 ·rw [if_neg e]
  by_cases hj : j < n
  ·rw [zat _ hj, zat _ hj, zaD _ _ (Ne.symm e)]
  ·rw [List.getElem?_eq_none (by rw [zaS]; lia), List.getElem?_eq_none (by rw [zaS]; lia)]
theorem zk1 (d : Nat -> Option Int) (i : Nat) (x : Int) : upf (fun v => dO (d v)) i (.int x) = fun v => dO (upf d i (some x) v) := by
 funext v
 unfold upf
 split <;> rfl
theorem uO_put (d : Nat -> Option Nat) (i x : Nat) : upf (fun v => uO (d v)) i (.int (x : Nat)) = fun v => uO (upf d i (some x) v) := by
 funext v
 unfold upf
 split <;> rfl
theorem zkU (n : Nat) (x : D) : (List.replicate n [x]).flatten = wL n fun _ => x := by
 induction n with
 | zero => rfl
 | succ n ih => rw [List.replicate_succ', List.flatten_append, ih, zd1]; rfl
section
variable {m n : Nat} {tl tu : Nat -> Nat} {ta : Nat -> Int} {s : Nat}
noncomputable def Shifts (m n : Nat) (tl tu : Nat -> Nat) (ta : Nat -> Int) (s : Nat) (d : Nat -> Option Int) (u : Nat -> Option Nat) (f : Option Nat) : Prop :=
 ∃ ts, BI m tl tu ta s n 0 d u ts /\ ((f = none /\ ∀ v, ts v <= (n - 1) * m) \/ ∃ l, f = some l /\ (n - 1) * m < ts l)
theorem zi2 (n1 : 1 <= n) (n9 : n <= 1000) (hs : s < n) (hl : ∀ q, q < m -> tl q < n) (hu : ∀ q, q < m -> tu q < n) (ne : ∀ q, q < m -> tl q ≠ tu q) :
  Ok (zaQ [.lst (tieL m tl tu ta), .int n, .int s]) fun x => ∃ d u f, Shifts m n tl tu ta s d u f /\ x = .val (.tup [.lst (wL n fun v => dO (d v)), .lst (wL n fun v => uO (u v)), uO f]) := by
 have e0 : upf (fun _ => D.non) s (.int 0) = fun v => dO ((fun v => if v = s then some 0 else none) v) := by
  funext v
  unfold upf
  (try dsimp only)
  split <;> rfl
 simp! only [↓zaQ, ↓zbV, zkU, ↓zcl]
 rw [zh5 _ _ hs, e0]
 have sm : zb6 (n : Int) = true := zaK (by lia) (by lia)
 refine ⟨⟨sm, by lia⟩, hs, ⟨sm, by lia⟩, sm, zbQ (fun t ρ => ∃ (d : Nat -> Option Int) (u : Nat -> Option Nat) (f : Option Nat) (ts : Nat -> Nat) (s6 s7 s8 s9 : Sl), BI m tl tu ta s t 0 d u ts /\ ((f = none /\ ∀ v, ts v <= (t - 1) * m) \/ ∃ l, f = some l /\ (t - 1) * m < ts l) /\ ρ = [.val (.lst (tieL m tl tu ta)), .val (.int n), .val (.int s), .own (wL n fun v => dO (d v)), .own (wL n fun v => uO (u v)), .val (uO f), s6, s7, s8, s9]) ⟨_, fun _ => none, none, fun _ => 0, _, _, _, _, BI.start, .inl ⟨rfl, fun v => Nat.zero_le _⟩, rfl⟩ ?_ ?_⟩
 ·rintro t _ ht ⟨d, u, f, ts, s6, s7, s8, s9, b, -, rfl⟩
  simp! only [↓zcr, ↓zco, tieL]
  refine zbQ (fun j ρ => ∃ (d : Nat -> Option Int) (u : Nat -> Option Nat) (f : Option Nat) (ts : Nat -> Nat) (s7 s8 s9 : Sl), BI m tl tu ta s t j d u ts /\ ((f = none /\ ∀ v, ts v <= t * m) \/ ∃ l, f = some l /\ t * m < ts l) /\ ρ = [.val (.lst (tieL m tl tu ta)), .val (.int n), .val (.int s), .own (wL n fun v => dO (d v)), .own (wL n fun v => uO (u v)), .val (uO f), .val (.int t), s7, s8, s9]) ⟨d, u, none, ts, _, _, _, b, .inl ⟨rfl, fun v => by have := b.le v; lia⟩, rfl⟩ ?_ ?_
  ·rintro j _ hj ⟨d, u, f, ts, s7, s8, s9, b, hf, rfl⟩
   have a1 := hl j hj
   have a2 := hu j hj
   simp! only [↓zcn, zat _ a1, zat _ a2]
   cases hy : d (tu j) with
   | none =>
    have k : Kept tl tu ta d j := fun y e => by rw [hy] at e; cases e
    simp! only [dO_n]
    exact ⟨d, u, f, ts, _, _, _, b.keep k, hf, rfl⟩
   | some y =>
    have chg : (∀ x, d (tl j) = some x -> y + ta j < x) -> ∃ (d' : Nat -> Option Int) (u' : Nat -> Option Nat) (f' : Option Nat) (ts' : Nat -> Nat) (s7 s8 s9 : Sl), BI m tl tu ta s t (j + 1) d' u' ts' /\ ((f' = none /\ ∀ v, ts' v <= t * m) \/ ∃ l, f' = some l /\ t * m < ts' l) /\ [Sl.val (.lst (wL m fun q => .tup [.int (tl q : Nat), .int (tu q : Nat), .int (ta q)])), .val (.int n), .val (.int s), .own ((wL n fun v => dO (d v)).set (tl j) (.int (y + ta j))), .own ((wL n fun v => uO (u v)).set (tl j) (.int (tu j : Nat))), .val (.int (tl j : Nat)), .val (.int t), .val (.int (tl j : Nat)), .val (.int (tu j : Nat)), .val (.int (ta j))] = [.val (.lst (tieL m tl tu ta)), .val (.int n), .val (.int s), .own (wL n fun v => dO (d' v)), .own (wL n fun v => uO (u' v)), .val (uO f'), .val (.int t), s7, s8, s9] := fun hx => by
     rw [zh5 _ _ a1, zh5 _ _ a1, zk1, uO_put]
     exact ⟨_, _, some (tl j), _, .val (.int (tl j : Nat)), .val (.int (tu j : Nat)), .val (.int (ta j)), b.change hj (ne j hj) hy hx, .inr ⟨tl j, rfl, by rw [za2]; lia⟩, rfl⟩
    cases hx : d (tl j) with
    | none =>
     simp! only [dO_n, dO_s, zat _ a2, hy, a1, if_true]
     exact chg fun x e => by rw [hx] at e; cases e
    | some x =>
     simp! only [dO_s, zat _ a2, zat _ a1, hy, hx, a1, if_true]
     exact ⟨fun z => chg fun x' e => by rw [hx] at e; cases e; exact z, fun z => ⟨d, u, f, ts, _, _, _, b.keep fun y' e => by rw [hy] at e; cases e; exact ⟨x, hx, z⟩, hf, rfl⟩⟩
  ·rintro _ ⟨d, u, f, ts, s7, s8, s9, b, hf, rfl⟩
   simp! only []
   exact ⟨d, u, f, ts, _, _, _, _, b.turn, by simpa using hf, rfl⟩
 ·rintro _ ⟨d, u, f, ts, s6, s7, s8, s9, b, hf, rfl⟩
  simp! only []
  cases f with
  | none => simp! only [uO]; exact ⟨d, u, none, ⟨ts, b, hf⟩, rfl⟩
  | some l => simp! only [uO]; exact ⟨d, u, some l, ⟨ts, b, hf⟩, rfl⟩
end
theorem zmQ (i : Nat) (f : Nat -> D) : atI (wL (i + 1) f) (-1) = some (f i) := by
 unfold atI ixN
 rw [if_neg (by lia), zaS, if_pos (by lia)]
 show (wL (i + 1) f)[(((i + 1 : Nat) : Int) + -1).toNat]? = _
 rw [show (((i + 1 : Nat) : Int) + -1).toNat = i by lia, zat _ (by lia)]
section
variable {m n : Nat} {tl tu : Nat -> Nat} {ta : Nat -> Int} {s : Nat} {d : Nat -> Option Int} {u : Nat -> Option Nat} {ts : Nat -> Nat} {l : Nat}
theorem loop_ok (b : BI m tl tu ta s (n + 1) 0 d u ts) (h : n * m < ts l) (n9 : n <= 300) (hl : ∀ q, q < m -> tl q < n + 1) (hu : ∀ q, q < m -> tu q < n + 1) (ne : ∀ q, q < m -> tl q ≠ tu q) :
  Ok (zby [.lst (wL (n + 1) fun v => uO (u v)), .int l]) fun x => ∃ c qs, c <= n + 1 /\ Round m tl tu ta u (back u l (n + 1)) c qs /\ x = .own (wI c fun i => ((back u (back u l (n + 1)) i : Nat) : Int)) := by
 obtain ⟨c, qs, cn, R⟩ := b.round h hl hu ne
 obtain ⟨pos, -⟩ := b.all h hl hu
 have nx : ∀ t, back u l t < n + 1 /\ uO (u (back u l t)) = .int ((back u l (t + 1) : Nat) : Int) := fun t => by
  obtain ⟨q, hq, e, eu, _⟩ := b.un _ (pos t)
  refine ⟨by rw [<- e]; exact hl q hq, ?_⟩
  show uO (u (back u l t)) = .int (((u (back u l t)).getD 0 : Nat) : Int)
  rw [eu]
  rfl
 have sm : zb6 ((n + 1 : Nat) : Int) = true := zaK (by lia) (by lia)
 simp! only [↓zby, ↓zdC, ↓zdM]
 refine ⟨sm, zbQ (fun t ρ => ∃ s3, ρ = [.val (.lst (wL (n + 1) fun v => uO (u v))), .val (.int l), .val (.int (back u l t : Nat)), s3, .emp]) ⟨_, rfl⟩ ?_ ?_⟩
 ·rintro t _ ht ⟨s3, rfl⟩
  simp! only [↓zdJ, zat _ (nx t).1, (nx t).2]
  exact ⟨_, rfl⟩
 ·rintro _ ⟨s3, rfl⟩
  simp! only [↓zdG]
  have nx' : ∀ i, back u (back u l (n + 1)) i < n + 1 /\ uO (u (back u (back u l (n + 1)) i)) = .int ((back u (back u l (n + 1)) (i + 1) : Nat) : Int) := fun i => by
   rw [zbZ, zbZ]
   exact nx _
  generalize back u l (n + 1) = a at R nx'
  have last : ∀ i, atI (wI (i + 1) fun i => ((back u a i : Nat) : Int)) (-1) = some (.int (back u a i : Nat)) := fun i => by
   rw [zmQ i]
  refine zkG (fun k ρ => ∃ i, i < c /\ k = c - 1 - i /\ ρ = [.val (.lst (wL (n + 1) fun v => uO (u v))), .val (.int l), .val (.int (a : Nat)), s3, .own (wI (i + 1) fun i => ((back u a i : Nat) : Int))]) ?_ 400 (c - 1) _ (by lia) ⟨0, R.pos, by lia, rfl⟩
  rintro k _ ⟨i, hi, rfl, rfl⟩
  simp! only [↓zdE, last, zat _ (nx' i).1, (nx' i).2]
  refine ⟨fun z => ⟨c - 1 - (i + 1), ?_, ?_⟩, fun z => ⟨c, qs, cn, R, ?_⟩⟩
  ·have : i + 1 ≠ c := fun e => z (by rw [e, R.home])
   lia
  ·have : i + 1 ≠ c := fun e => z (by rw [e, R.home])
   have ew : (wI (i + 1) fun i => ((back u a i : Nat) : Int)) ++ [D.int (back u a (i + 1) : Nat)] = wI (i + 1 + 1) fun i => ((back u a i : Nat) : Int) := (zd1 _ _).symm
   simp! only [↓zdN, last, zat _ (nx' i).1, (nx' i).2, ew]
   exact ⟨by lia, i + 1, by lia, rfl, rfl⟩
  ·have : i + 1 = c := by
    by_cases e : i + 1 = c
    ·exact e
    ·exact absurd (by lia) (R.first (i + 1) (by lia) (by lia))
   rw [this]
end
noncomputable abbrev zaW (k m n : Nat) (T L G : Nat -> Int) : D := .tup [.int k, .tup (wI m T), .tup (wI n L), .tup (wI n G)]
noncomputable def absI (x : Int) : Int := if x < 0 then -x else x
noncomputable def win (k : Nat) (r : Nat -> Int) (i : Nat) : Int := sumR k fun j => r (i + j)
noncomputable abbrev Tt := Nat × Nat × Int
noncomputable def tD (t : Tt) : D := .tup [.int (t.1 : Nat), .int (t.2.1 : Nat), .int t.2.2]
section
variable {k m n : Nat} {T L G s : Nat -> Int} {ts : List Tt}
noncomputable def tAt (ts : List Tt) (q : Nat) : Tt := ts.getD q (0, 0, 0)
theorem zmb (h : q < ts.length) : tAt ts q ∈ ts := by
 unfold tAt
 rw [List.getD_eq_getElem?_getD, List.getElem?_eq_getElem h]
 exact List.getElem_mem h
theorem ties_w (ts : List Tt) : ts.map tD = tieL ts.length (fun q => (tAt ts q).1) (fun q => (tAt ts q).2.1) (fun q => (tAt ts q).2.2) := by
 unfold tieL
 apply List.ext_getElem?
 intro q
 by_cases h : q < ts.length
 ·rw [zat _ h, List.getElem?_map, List.getElem?_eq_getElem h]
  have e : tAt ts q = ts[q] := by unfold tAt; rw [List.getD_eq_getElem?_getD, List.getElem?_eq_getElem h]; rfl
  (try dsimp only)
  rw [e]
  rfl
 ·rw [List.getElem?_eq_none (by rw [List.length_map]; lia), List.getElem?_eq_none (by rw [zaS]; lia)]
theorem cuts_ok (n9 : n <= 900) (hb : ∀ t, t ∈ ts -> t.1 < n + 1 /\ t.2.1 < n + 1 /\ t.1 ≠ t.2.1) (nr : ∀ (c : Nat) (v : Nat -> Nat) (w : Nat -> Int), v c = v 0 -> (∀ i j, i < j -> j < c -> v i ≠ v j) -> (∀ i, i < c -> (v i, v (i + 1), w i) ∈ ts) -> 0 <= sumR c w)
  (ch : ∀ p, p < n -> ∃ a, (p + 1, p, a) ∈ ts) : Ok (zbs [.lst (ts.map tD), .int n]) fun x => ∃ X : Nat -> Int, (∀ t, t ∈ ts -> X t.1 <= X t.2.1 + t.2.2) /\ x = .val (.tup (wI n fun p => X (p + 1) - X p)) := by
 have e1 : (n : Int) + 1 = ((n + 1 : Nat) : Int) := by lia
 have at_ : ∀ q, q < ts.length -> tAt ts q ∈ ts := fun q h => zmb h
 simp! only [↓zbs, ↓zdV, ties_w, e1]
 refine (zi2 (s := 0) (by lia) (by lia) (by lia) (fun q hq => (hb _ (at_ q hq)).1) (fun q hq => (hb _ (at_ q hq)).2.1) (fun q hq => (hb _ (at_ q hq)).2.2)).mono ?_
 rintro _ ⟨d, u, f, ⟨us, b, hf⟩, rfl⟩
 have kept : ∀ q, q < ts.length -> Kept (fun q => (tAt ts q).1) (fun q => (tAt ts q).2.1) (fun q => (tAt ts q).2.2) d q := fun q hq => by
  rcases hf with ⟨_, h⟩ | ⟨l, _, h⟩
  ·exact b.kept (t := n) h hq
  ·exfalso
   obtain ⟨c, qs, _, R⟩ := b.round h (fun q hq => (hb _ (at_ q hq)).1) (fun q hq => (hb _ (at_ q hq)).2.1) (fun q hq => (hb _ (at_ q hq)).2.2)
   have := nr c (fun i => back u (back u l (n + 1)) i) (fun i => (tAt ts (qs i)).2.2) R.home (fun i j hij hj => R.apart hij hj) fun i hi => by
    obtain ⟨h1, h2, h3⟩ := R.tie i hi
    (try dsimp only)
    rw [<- h2, <- h3]
    exact at_ _ h1
   have := R.neg
   lia
 have kt : ∀ t, t ∈ ts -> ∀ y, d t.2.1 = some y -> ∃ x, d t.1 = some x /\ x <= y + t.2.2 := fun t ht => by
  obtain ⟨q, hq, rfl⟩ := List.getElem_of_mem ht
  have := kept q hq
  unfold Kept at this
  have e : tAt ts q = ts[q] := by unfold tAt; rw [List.getD_eq_getElem?_getD, List.getElem?_eq_getElem hq]; rfl
  (try dsimp only at this)
  rw [e] at this
  exact this
 have dv : ∀ v, v <= n -> ∃ x, d v = some x := fun v => by
  induction v with
  | zero => exact fun _ => b.st
  | succ v ih =>
   intro hv
   obtain ⟨x, hx⟩ := ih (by lia)
   obtain ⟨a, ha⟩ := ch v (by lia)
   obtain ⟨y, hy, _⟩ := kt _ ha x hx
   exact ⟨y, hy⟩
 have dX : ∀ v, v <= n -> d v = some ((d v).getD 0) := fun v hv => by
  obtain ⟨x, hx⟩ := dv v hv
  rw [hx]; rfl
 have sm : zb6 (n : Int) = true := zaK (by lia) (by lia)
 simp! only [↓zd7]
 refine ⟨sm, by lia, zaJ (fun ρ => ∃ a, ρ = [.val (.lst (wL (n + 1) fun v => dO (d v))), a]) (fun p => .int ((d (p + 1)).getD 0 - (d p).getD 0)) ⟨_, rfl⟩ ?_ ?_⟩
 ·rintro p _ hp ⟨a, rfl⟩
  have e2 : (p : Int) + 1 = ((p + 1 : Nat) : Int) := by lia
  have h1 := dX p (by lia)
  have h2 := dX (p + 1) (by lia)
  simp! only [↓zd9, e2, zat _ (show p < n + 1 by lia), zat _ (show p + 1 < n + 1 by lia)]
  rw [h1, h2]
  simp! only [dO_s]
  exact ⟨by simp, _, rfl⟩
 ·rintro _ ⟨a, rfl⟩
  simp! only []
  refine ⟨fun v => (d v).getD 0, fun t ht => ?_, rfl⟩
  obtain ⟨h1, h2, _⟩ := hb t ht
  have e := dX t.2.1 (by lia)
  obtain ⟨x, hx, hl⟩ := kt t ht _ e
  (try dsimp only)
  rw [hx]
  exact hl
end
noncomputable def kS : Bool -> Str
 | true => "sum"
 | false => "place"
theorem zji (b : Bool) : (kS b == ("sum" : Str)) = b := by cases b <;> decide +kernel
theorem kS_place (b : Bool) : (kS b == ("place" : Str)) = !b := by cases b <;> decide +kernel
theorem kS_notIn (b : Bool) : zhY (.str (kS b)) (.tup [.str "sum", .str "place"]) = some (.bl false) := by cases b <;> rfl
noncomputable abbrev Sp := Bool × Nat × Bool
noncomputable def sD (s : Sp) : D := .tup [.str (kS s.1), .int (s.2.1 : Nat), .bl s.2.2]
noncomputable abbrev cnt (m n : Nat) (b : Bool) : Nat := if b then m else n
noncomputable def spw (k : Nat) (T L G : Nat -> Int) : Sp -> Tt
 | (true, i, true) => (i, i + k, T i)
 | (true, i, false) => (i + k, i, - T i)
 | (false, i, true) => (i, i + 1, L i)
 | (false, i, false) => (i + 1, i, - G i)
noncomputable def stL (b : Bool) (c : Nat) : List Sp := (List.range c).map (fun i => (b, i, true)) ++ (List.range c).map (fun i => (b, c - 1 - i, false))
theorem zgp (b : Bool) (c : Nat) : (stL b c).length = 2 * c := by simp [stL]; lia
theorem mem_stL {s : Sp} : s ∈ stL b c ↔ s.1 = b /\ s.2.1 < c := by
 obtain ⟨b', i, u⟩ := s
 simp only [stL, List.mem_append, List.mem_map, List.mem_range, Prod.mk.injEq]
 constructor
 ·rintro (⟨a, ha, rfl, rfl, rfl⟩ | ⟨a, ha, rfl, rfl, rfl⟩)
  ·exact ⟨rfl, ha⟩
  ·exact ⟨rfl, by lia⟩
 ·rintro ⟨rfl, hi⟩
  cases u
  ·exact .inr ⟨c - 1 - i, by lia, rfl, by lia, rfl⟩
  ·exact .inl ⟨i, hi, rfl, rfl, rfl⟩
theorem stepD_w (c : Nat) : ziT ((c : Int) - 1) (-1) ((c : Int) - 1 - -1).toNat = wL c fun i => .int ((c - 1 - i : Nat) : Int) := by
 rw [show ((c : Int) - 1 - -1).toNat = c by lia]
 unfold ziT wL
 refine List.map_congr_left fun i hi => ?_
 have := List.mem_range.mp hi
 congr 1; lia
section
variable {k m n : Nat} {T L G : Nat -> Int}
theorem zj0 (b : Bool) : Ok (za4 [zaW k m n T L G, .str (kS b)]) fun x => x = .val (.int (cnt m n b : Nat)) := by
 simp! only [↓za4, ↓zdv, zji]
 cases b
 ·exact ⟨fun h => (by cases h), fun _ => rfl⟩
 ·exact ⟨fun _ => rfl, fun h => (by cases h)⟩
theorem zj1 (s : Sp) (h : s.2.1 < cnt m n s.1) : Ok (zbc [zaW k m n T L G, sD s]) fun x => x = .val (tD (spw k T L G s)) := by
 obtain ⟨b, i, u⟩ := s
 cases b <;> cases u <;>
 ·simp only [cnt, if_true, Bool.false_eq_true, if_false] at h
  simp! only [↓zbc, ↓zfL, sD, zji, zat _ h, ↓zfl, spw, tD]
  simp
theorem zia (b : Bool) (m9 : m <= 1000) (n9 : n <= 1000) : Ok (zbD [zaW k m n T L G, .str (kS b)]) fun x => x = .val (.lst ((stL b (cnt m n b)).map sD)) := by
 simp! only [↓zbD, ↓zgz]
 refine (zj0 b).mono ?_
 rintro _ rfl
 have c9 : cnt m n b <= 1000 := by unfold cnt; split <;> lia
 generalize cnt m n b = c at *
 simp! only [↓zfX]
 refine ⟨zaK (by lia) (by lia), by lia, zaJ (fun ρ => ∃ z, ρ = [.val (.str (kS b)), z]) (fun i => sD (b, i, true)) ⟨_, rfl⟩ ?_ ?_⟩
 ·rintro i _ hi ⟨z, rfl⟩
  simp! only [↓zf0]
  exact ⟨rfl, _, rfl⟩
 rintro _ ⟨z, rfl⟩
 simp! only [↓zgg, stepD_w]
 refine ⟨⟨zaK (by lia) (by lia), rfl⟩, by lia, zaJ (fun ρ => ∃ z, ρ = [.val (.str (kS b)), z]) (fun i => sD (b, c - 1 - i, false)) ⟨_, rfl⟩ ?_ ?_⟩
 ·rintro i _ hi ⟨z, rfl⟩
  simp! only [↓zgd]
  exact ⟨rfl, _, rfl⟩
 rintro _ ⟨z, rfl⟩
 simp! only []
 refine ⟨by lia, ?_⟩
 unfold stL wL
 rw [List.map_append, List.map_map, List.map_map]
 rfl
theorem zg6 (b : Bool) (m9 : m <= 1000) (n9 : n <= 1000) : Ok (zbr [zaW k m n T L G, .str (kS b)]) fun x => x = .own (((stL b (cnt m n b)).map (spw k T L G)).map tD) := by
 simp! only [↓zbr, ↓zgo, ↓zfU]
 refine (zia b m9 n9).mono ?_
 rintro _ rfl
 have c9 : cnt m n b <= 1000 := by unfold cnt; split <;> lia
 have l9 := zgp b (cnt m n b)
 simp! only []
 refine ⟨by lia, ziz (enc := sD) (l := stL b (cnt m n b)) (fun ρ => ∃ z, ρ = [.val (zaW k m n T L G), z]) (fun s => tD (spw k T L G s)) ⟨_, rfl⟩ ?_ ?_⟩
 ·rintro s _ hs ⟨z, rfl⟩
  obtain ⟨e, h⟩ := mem_stL.mp hs
  simp! only [↓zgi]
  refine (zj1 s (by rw [e]; exact h)).mono ?_
  rintro _ rfl
  simp! only []
  exact ⟨_, rfl⟩
 ·rintro _ ⟨z, rfl⟩
  simp! only [List.map_map]
  rfl
end
noncomputable def mx (o : Option Int) (x : Int) : Int := match o with
 | none => x
 | some y => max2 y x
theorem mx_ge (o : Option Int) (x : Int) : x <= mx o x := by unfold mx; split <;> (try unfold max2) <;> (try split) <;> lia
theorem zkE (x : Int) (h : o = some y) : y <= mx o x := by subst h; unfold mx max2; (try dsimp only); split <;> lia
theorem mx_is (o : Option Int) (x : Int) : mx o x = x \/ o = some (mx o x) := by
 cases o with
 | none => exact .inl rfl
 | some y => unfold mx max2; (try dsimp only); split <;> simp
theorem zj5 (o : Option Int) (x : Int) : Ok (zdK [dO o, .int x]) fun r => r = .val (.int (mx o x)) := by
 cases o <;> simp! only [↓zdK, ↓zhc, dO, mx]
inductive Rc (S P : List Tt) (d : Nat -> Int) : Nat -> Int -> Prop
 | sum {t : Tt} : t ∈ S -> Rc S P d t.2.1 (d t.1 + t.2.2)
 | place {t : Tt} {x : Int} : Rc S P d t.1 x -> t ∈ P -> Rc S P d t.2.1 (x + t.2.2)
noncomputable abbrev gL (N : Nat) (g : Nat -> Option Int) : List D := wL N fun v => dO (g v)
theorem zjp {α : Type} {l : List α} {a : α} (h : l[i]? = some a) : l.take (i + 1) = l.take i ++ [a] := by
 rw [List.take_succ, h]; rfl
theorem zmW {S P : List Tt} {d : Nat -> Int} (hb : ∀ t, t ∈ S -> t.1 < N /\ t.2.1 < N) (a1 a4 a5 a6 : Sl) 
  (hQ : ∀ g a4 a5 a6, (∀ t, t ∈ S -> ∃ x, g t.2.1 = some x /\ d t.1 + t.2.2 <= x) -> (∀ v x, g v = some x -> Rc S P d v x) -> Q (.next, [.val (.lst (S.map tD)), a1, .val (.lst (wI N d)), .own (gL N g), a4, a5, a6])) :
  Ok (zcz [.val (.lst (S.map tD)), a1, .val (.lst (wI N d)), .own (gL N fun _ => none), a4, a5, a6]) Q := by
 simp! only [↓zcz]
 refine zku (enc := tD) (l := S) (fun i ρ => ∃ g a4 a5 a6, (∀ t, t ∈ S.take i -> ∃ x, g t.2.1 = some x /\ d t.1 + t.2.2 <= x) /\ (∀ v x, g v = some x -> Rc S P d v x) /\ ρ = [.val (.lst (S.map tD)), a1, .val (.lst (wI N d)), .own (gL N g), a4, a5, a6]) ⟨_, _, _, _, by simp, fun v x h => (by cases h), rfl⟩ ?_ ?_
 ·rintro i t _ hi ⟨g, a4, a5, a6, lb, ub, rfl⟩
  have mem := List.mem_of_getElem? hi
  obtain ⟨h1, h2⟩ := hb t mem
  simp! only [tD, ↓zeN, zat _ h1, zat _ h2]
  refine (zj5 (g t.2.1) (d t.1 + t.2.2)).mono ?_
  rintro _ rfl
  simp! only [h2, zh5 _ _ h2, zk1]
  refine ⟨upf g t.2.1 (some (mx (g t.2.1) (d t.1 + t.2.2))), _, _, _, fun t' ht' => ?_, fun v x hx => ?_, rfl⟩
  ·rw [zjp hi, List.mem_append, List.mem_singleton] at ht'
   by_cases e : t'.2.1 = t.2.1
   ·rw [e, za2]
    refine ⟨_, rfl, ?_⟩
    rcases ht' with h | rfl
    ·obtain ⟨x, hx, hx'⟩ := lb t' h
     rw [e] at hx
     exact Int.le_trans hx' (zkE _ hx)
    ·exact mx_ge _ _
   ·rw [zaD _ _ e]
    rcases ht' with h | rfl
    ·exact lb t' h
    ·exact absurd rfl e
  ·by_cases e : v = t.2.1
   ·subst e
    rw [za2] at hx
    cases hx
    rcases mx_is (g t.2.1) (d t.1 + t.2.2) with h | h
    ·rw [h]; exact .sum mem
    ·exact ub _ _ h
   ·rw [zaD _ _ e] at hx
    exact ub v x hx
 ·rintro _ ⟨g, a4, a5, a6, lb, ub, rfl⟩
  rw [List.take_of_length_le (Nat.le_refl _)] at lb
  exact hQ g a4 a5 a6 lb ub
theorem stL_get {s : Sp} (h : (stL b c)[i]? = some s) : (i < c /\ s = (b, i, true)) \/ (c <= i /\ i < 2 * c /\ s = (b, 2 * c - 1 - i, false)) := by
 unfold stL at h
 by_cases z : i < c
 ·rw [List.getElem?_append_left (by simp; lia), List.getElem?_map, List.getElem?_range z] at h
  exact .inl ⟨z, (Option.some.inj h).symm⟩
 ·rw [List.getElem?_append_right (by simp; lia), List.getElem?_map] at h
  simp only [List.length_map, List.length_range] at h
  by_cases y : i - c < c
  ·rw [List.getElem?_range y] at h
   have := (Option.some.inj h).symm
   exact .inr ⟨by lia, by lia, by rw [this]; show (b, c - 1 - (i - c), false) = _; rw [show c - 1 - (i - c) = 2 * c - 1 - i by lia]⟩
  ·rw [List.getElem?_eq_none (by simp; lia)] at h
   cases h
structure Pg (n : Nat) (L G : Nat -> Int) (S P : List Tt) (d : Nat -> Int) (g0 : Nat -> Option Int) (i : Nat) (g : Nat -> Option Int) : Prop where
 so : ∀ v, v <= n -> v <= i -> ∃ x, g v = some x
 old : ∀ v x, g0 v = some x -> ∃ y, g v = some y /\ x <= y
 up : ∀ p x, p < n -> p < i -> g p = some x -> ∃ y, g (p + 1) = some y /\ x + L p <= y
 dn : ∀ q x, q < n -> 2 * n <= i + q -> g (q + 1) = some x -> ∃ y, g q = some y /\ x - G q <= y
 rc : ∀ v x, g v = some x -> Rc S P d v x
section
variable {k m n : Nat} {T L G d : Nat -> Int} {S : List Tt} {g0 g : Nat -> Option Int} {i : Nat}
noncomputable abbrev plP (k n : Nat) (T L G : Nat -> Int) : List Tt := (stL false n).map (spw k T L G)
theorem mem_pl {t : Tt} : t ∈ plP k n T L G ↔ ∃ p, p < n /\ (t = (p, p + 1, L p) \/ t = (p + 1, p, - G p)) := by
 unfold plP
 rw [List.mem_map]
 constructor
 ·rintro ⟨⟨b, i, u⟩, hs, rfl⟩
  obtain ⟨rfl, h⟩ := mem_stL.mp hs
  refine ⟨i, h, ?_⟩
  cases u
  ·exact .inr rfl
  ·exact .inl rfl
 ·rintro ⟨p, hp, rfl | rfl⟩
  ·exact ⟨(false, p, true), mem_stL.mpr ⟨rfl, hp⟩, rfl⟩
  ·exact ⟨(false, p, false), mem_stL.mpr ⟨rfl, hp⟩, rfl⟩
theorem Pg.goUp (b : Pg n L G S (plP k n T L G) d g0 i g) (hi : i < n) {x0 : Int} (h0 : g i = some x0) : Pg n L G S (plP k n T L G) d g0 (i + 1) (upf g (i + 1) (some (mx (g (i + 1)) (x0 + L i)))) where
 so := fun v h1 h2 => by
  by_cases e : v = i + 1
  ·exact ⟨_, by rw [e, za2]⟩
  ·rw [zaD _ _ e]; exact b.so v h1 (by lia)
 old := fun v x h => by
  obtain ⟨y, h1, h2⟩ := b.old v x h
  by_cases e : v = i + 1
  ·subst e
   exact ⟨_, za2 _ _ _, Int.le_trans h2 (zkE _ h1)⟩
  ·rw [zaD _ _ e]; exact ⟨y, h1, h2⟩
 up := fun p x h1 h2 h3 => by
  rw [zaD _ _ (show p ≠ i + 1 by lia)] at h3
  by_cases e : p = i
  ·subst e
   rw [h0] at h3
   cases h3
   exact ⟨_, za2 _ _ _, mx_ge _ _⟩
  ·rw [zaD _ _ (by lia)]; exact b.up p x h1 (by lia) h3
 dn := fun q x h1 h2 => by lia
 rc := fun v x h => by
  by_cases e : v = i + 1
  ·subst e
   rw [za2] at h
   cases h
   rcases mx_is (g (i + 1)) (x0 + L i) with h | h
   ·rw [h]
    exact Rc.place (t := (i, i + 1, L i)) (b.rc i x0 h0) (mem_pl.mpr ⟨i, hi, .inl rfl⟩)
   ·exact b.rc _ _ h
  ·rw [zaD _ _ e] at h; exact b.rc v x h
theorem Pg.goDn (le : ∀ p, p < n -> L p <= G p) (b : Pg n L G S (plP k n T L G) d g0 i g) (h1 : n <= i) (h2 : i < 2 * n) {x0 : Int} (h0 : g (2 * n - 1 - i + 1) = some x0) : Pg n L G S (plP k n T L G) d g0 (i + 1) (upf g (2 * n - 1 - i) (some (mx (g (2 * n - 1 - i)) (x0 + - G (2 * n - 1 - i))))) := by
 obtain ⟨q, hq⟩ : ∃ q, 2 * n - 1 - i = q := ⟨_, rfl⟩
 rw [hq] at h0 ⊢
 have qn : q < n := by lia
 exact {
  so := fun v h1 h2 => by
   by_cases e : v = q
   ·exact ⟨_, by rw [e, za2]⟩
   ·rw [zaD _ _ e]; exact b.so v h1 (by lia)
  old := fun v x h => by
   obtain ⟨y, h1, h2⟩ := b.old v x h
   by_cases e : v = q
   ·subst e
    exact ⟨_, za2 _ _ _, Int.le_trans h2 (zkE _ h1)⟩
   ·rw [zaD _ _ e]; exact ⟨y, h1, h2⟩
  up := fun p x h1 h2 h3 => by
   by_cases e : p = q
   ·subst e
    rw [za2] at h3
    cases h3
    rw [zaD _ _ (by lia)]
    refine ⟨x0, h0, ?_⟩
    rcases mx_is (g p) (x0 + - G p) with h | h
    ·rw [h]; have := le p qn; lia
    ·obtain ⟨y, h4, h5⟩ := b.up p _ h1 (by lia) h
     rw [h0] at h4
     cases h4
     exact h5
   ·rw [zaD _ _ e] at h3
    obtain ⟨y, h4, h5⟩ := b.up p x h1 (by lia) h3
    by_cases e2 : p + 1 = q
    ·rw [e2, za2]
     rw [e2] at h4
     exact ⟨_, rfl, Int.le_trans h5 (zkE _ h4)⟩
    ·rw [zaD _ _ e2]; exact ⟨y, h4, h5⟩
  dn := fun p x h1 h2 h3 => by
   rw [zaD _ _ (show p + 1 ≠ q by lia)] at h3
   by_cases e : p = q
   ·subst e
    rw [h0] at h3
    cases h3
    refine ⟨_, za2 _ _ _, ?_⟩
    have := mx_ge (g p) (x0 + - G p)
    lia
   ·rw [zaD _ _ e]; exact b.dn p x h1 (by lia) h3
  rc := fun v x h => by
   by_cases e : v = q
   ·subst e
    rw [za2] at h
    cases h
    rcases mx_is (g v) (x0 + - G v) with h | h
    ·rw [h]
     exact Rc.place (t := (v + 1, v, - G v)) (b.rc _ x0 h0) (mem_pl.mpr ⟨v, qn, .inr rfl⟩)
    ·exact b.rc _ _ h
   ·rw [zaD _ _ e] at h; exact b.rc v x h }
theorem zkj (le : ∀ p, p < n -> L p <= G p) (b0 : Pg n L G S (plP k n T L G) d g0 0 g0) (a0 a2 a4 a5 a6 : Sl) 
  (hQ : ∀ g a4 a5 a6, Pg n L G S (plP k n T L G) d g0 (2 * n) g -> Q (.next, [a0, .val (.lst ((plP k n T L G).map tD)), a2, .own (gL (n + 1) g), a4, a5, a6])) :
  Ok (zcL [a0, .val (.lst ((plP k n T L G).map tD)), a2, .own (gL (n + 1) g0), a4, a5, a6]) Q := by
 simp! only [↓zcL]
 refine zku (enc := tD) (l := plP k n T L G) (fun i ρ => ∃ g a4 a5 a6, Pg n L G S (plP k n T L G) d g0 i g /\ ρ = [a0, .val (.lst ((plP k n T L G).map tD)), a2, .own (gL (n + 1) g), a4, a5, a6]) ⟨g0, _, _, _, b0, rfl⟩ ?_ ?_
 ·rintro i t _ hi ⟨g, a4, a5, a6, b, rfl⟩
  unfold plP at hi
  rw [List.getElem?_map] at hi
  obtain ⟨s, hs, rfl⟩ := Option.map_eq_some_iff.mp hi
  rcases stL_get hs with ⟨h1, rfl⟩ | ⟨h1, h2, rfl⟩
  ·obtain ⟨x0, h0⟩ := b.so i (by lia) (Nat.le_refl _)
   simp! only [spw, tD, ↓zcv, zat _ (show i < n + 1 by lia), zat _ (show i + 1 < n + 1 by lia), h0, dO_s]
   refine (zj5 (g (i + 1)) (x0 + L i)).mono ?_
   rintro _ rfl
   simp! only [show i + 1 < n + 1 by lia, zh5 _ _ (show i + 1 < n + 1 by lia), zk1]
   exact ⟨_, _, _, _, b.goUp h1 h0, rfl⟩
  ·have e1 : 2 * n - 1 - i + 1 < n + 1 := by lia
   have e2 : 2 * n - 1 - i < n + 1 := by lia
   obtain ⟨x0, h0⟩ := b.so (2 * n - 1 - i + 1) (by lia) (by lia)
   simp! only [spw, tD, ↓zcv, zat _ e1, zat _ e2, h0, dO_s]
   refine (zj5 (g (2 * n - 1 - i)) (x0 + - G (2 * n - 1 - i))).mono ?_
   rintro _ rfl
   simp! only [e2, zh5 _ _ e2, zk1]
   exact ⟨_, _, _, _, b.goDn le h1 h2 h0, rfl⟩
 ·rintro _ ⟨g, a4, a5, a6, b, rfl⟩
  have e : (plP k n T L G).length = 2 * n := by unfold plP; rw [List.length_map, zgp]
  rw [e] at b
  exact hQ g a4 a5 a6 b
noncomputable abbrev suP (k m : Nat) (T L G : Nat -> Int) : List Tt := (stL true m).map (spw k T L G)
theorem mem_su {t : Tt} : t ∈ suP k m T L G ↔ ∃ i, i < m /\ (t = (i, i + k, T i) \/ t = (i + k, i, - T i)) := by
 unfold suP
 rw [List.mem_map]
 constructor
 ·rintro ⟨⟨b, i, u⟩, hs, rfl⟩
  obtain ⟨rfl, h⟩ := mem_stL.mp hs
  refine ⟨i, h, ?_⟩
  cases u
  ·exact .inr rfl
  ·exact .inl rfl
 ·rintro ⟨p, hp, rfl | rfl⟩
  ·exact ⟨(true, p, true), mem_stL.mpr ⟨rfl, hp⟩, rfl⟩
  ·exact ⟨(true, p, false), mem_stL.mpr ⟨rfl, hp⟩, rfl⟩
structure Lay (k m n : Nat) (T L G d g : Nat -> Int) : Prop where
 up : ∀ i, i < m -> d i + T i <= g (i + k)
 dn : ∀ i, i < m -> d (i + k) - T i <= g i
 lo : ∀ p, p < n -> g p + L p <= g (p + 1)
 hi : ∀ p, p < n -> g (p + 1) - G p <= g p
 rc : ∀ v, v <= n -> Rc (suP k m T L G) (plP k n T L G) d v (g v)
theorem zld (hn : n + 1 = m + k) (m1 : 1 <= m) (n9 : n <= 900) (le : ∀ p, p < n -> L p <= G p) :
  Ok (zb1 [.lst ((suP k m T L G).map tD), .lst ((plP k n T L G).map tD), .lst (wI (n + 1) d)]) fun x => ∃ g, Lay k m n T L G d g /\ x = .own (wI (n + 1) g) := by
 obtain ⟨N, hN⟩ : ∃ N, N = n + 1 := ⟨_, rfl⟩
 rw [<- hN]
 simp! only [↓zb1, ↓zey, zkU]
 rw [hN]
 refine ⟨⟨zaK (by lia) (by lia), by lia⟩, ?_⟩
 refine zmW (P := plP k n T L G) (fun t ht => ?_) _ _ _ _ fun g0 a4 a5 a6 lb ub => ?_
 ·obtain ⟨i, hi, rfl | rfl⟩ := mem_su.mp ht <;> exact ⟨by (try dsimp only); lia, by (try dsimp only); lia⟩
 ·simp! only []
  refine zkj le ⟨fun v _ h2 => ?_, fun v x h => ⟨x, h, Int.le_refl _⟩, fun p x _ h => by lia, fun q x h1 h2 => by lia, ub⟩ _ _ _ _ _ fun g a4 a5 a6 b => ?_
  ·obtain ⟨x, hx, _⟩ := lb (0 + k, 0, - T 0) (mem_su.mpr ⟨0, by lia, .inr rfl⟩)
   exact ⟨x, by rw [show v = 0 by lia]; exact hx⟩
  ·have dX : ∀ v, v <= n -> g v = some ((g v).getD 0) := fun v hv => by
    obtain ⟨x, hx⟩ := b.so v hv (by lia)
    rw [hx]; rfl
   simp! only []
   refine ⟨fun v => (g v).getD 0, ⟨fun i hi => ?_, fun i hi => ?_, fun p hp => ?_, fun p hp => ?_, fun v hv => ?_⟩, ?_⟩
   ·obtain ⟨x, h1, h2⟩ := lb (i, i + k, T i) (mem_su.mpr ⟨i, hi, .inl rfl⟩)
    obtain ⟨y, h3, h4⟩ := b.old _ x h1
    (try dsimp only at h2 h3)
    rw [h3]
    show _ <= y
    lia
   ·obtain ⟨x, h1, h2⟩ := lb (i + k, i, - T i) (mem_su.mpr ⟨i, hi, .inr rfl⟩)
    obtain ⟨y, h3, h4⟩ := b.old _ x h1
    (try dsimp only at h2 h3)
    rw [h3]
    show _ <= y
    lia
   ·obtain ⟨y, h1, h2⟩ := b.up p _ hp (by lia) (dX p (by lia))
    rw [h1]
    exact h2
   ·obtain ⟨y, h1, h2⟩ := b.dn p _ hp (by lia) (dX (p + 1) (by lia))
    rw [h1]
    exact h2
   ·exact b.rc v _ (dX v hv)
   ·congr 1
    exact zf4 fun v hv => by rw [dX v (by lia)]; rfl
end
structure Feas (k m n : Nat) (T L G : Nat -> Int) (F : Int) (X : Nat -> Int) : Prop where
 up : ∀ i, i < m -> X i + T i - F <= X (i + k)
 dn : ∀ i, i < m -> X (i + k) - T i - F <= X i
 lo : ∀ p, p < n -> X p + L p <= X (p + 1)
 hi : ∀ p, p < n -> X (p + 1) - G p <= X p
theorem max_ex (f : Nat -> Int) : ∀ N, 1 <= N -> ∃ j, 1 <= j /\ j <= N /\ ∀ i, 1 <= i -> i <= N -> f i <= f j
 | 0, h => by lia
 | 1, _ => ⟨1, by lia, by lia, fun i h1 h2 => by rw [show i = 1 by lia]; exact Int.le_refl _⟩
 | N + 2, _ => by
  obtain ⟨j, h1, h2, h3⟩ := max_ex f (N + 1) (by lia)
  by_cases e : f j <= f (N + 2)
  ·exact ⟨N + 2, by lia, by lia, fun i h4 h5 => by
    by_cases z : i = N + 2
    ·rw [z]; exact Int.le_refl _
    ·exact Int.le_trans (h3 i h4 (by lia)) e⟩
  ·exact ⟨j, h1, by lia, fun i h4 h5 => by
    by_cases z : i = N + 2
    ·rw [z]; lia
    ·exact h3 i h4 (by lia)⟩
section
variable {k m n N : Nat} {T L G : Nat -> Int} {D : Nat -> Nat -> Int} {F : Int}
theorem feas_ex (N1 : 1 <= N) (ly : ∀ t, t < N -> Lay k m n T L G (D t) (D (t + 1))) (hn : n + 1 = m + k) (h : ∀ v, v <= n -> ∃ j, j < N /\ D N v - D j v <= F * ((N : Int) - j)) : ∃ X, Feas k m n T L G F X := by
 have ex : ∀ v, ∃ x : Int, (∃ j : Nat, 1 <= j /\ j <= N /\ x = D j v - F * j) /\ ∀ j : Nat, 1 <= j -> j <= N -> D j v - F * j <= x := fun v => by
  obtain ⟨j, h1, h2, h3⟩ := max_ex (fun j => D j v - F * j) N N1
  exact ⟨_, ⟨j, h1, h2, rfl⟩, h3⟩
 refine ⟨fun v => Classical.choose (ex v), ?_⟩
 have is := fun v => (Classical.choose_spec (ex v)).1
 have ge := fun v => (Classical.choose_spec (ex v)).2
 have eq1 : ∀ j : Nat, F * ((j + 1 : Nat) : Int) = F * j + F := fun j => by push_cast; rw [Int.mul_add, Int.mul_one]
 have lt : ∀ v, v <= n -> ∃ j : Nat, j < N /\ Classical.choose (ex v) <= D j v - F * j := fun v hv => by
  obtain ⟨j, h1, h2, h3⟩ := is v
  by_cases e : j < N
  ·exact ⟨j, e, by lia⟩
  ·have : j = N := by lia
   subst this
   obtain ⟨i, h4, h5⟩ := h v hv
   rw [Int.mul_sub] at h5
   exact ⟨i, h4, by lia⟩
 refine ⟨fun i hi => ?_, fun i hi => ?_, fun p hp => ?_, fun p hp => ?_⟩
 ·obtain ⟨j, h1, h2⟩ := lt i (by lia)
  have h3 := (ly j h1).up i hi
  have h4 := ge (i + k) (j + 1) (by lia) (by lia)
  rw [eq1] at h4
  (try dsimp only)
  lia
 ·obtain ⟨j, h1, h2⟩ := lt (i + k) (by lia)
  have h3 := (ly j h1).dn i hi
  have h4 := ge i (j + 1) (by lia) (by lia)
  rw [eq1] at h4
  (try dsimp only)
  lia
 ·obtain ⟨j, h1, h2, h3⟩ := is p
  obtain ⟨j', rfl⟩ : ∃ j', j = j' + 1 := ⟨j - 1, by lia⟩
  have h4 := (ly j' (by lia)).lo p hp
  have h5 := ge (p + 1) (j' + 1) (by lia) h2
  (try dsimp only)
  lia
 ·obtain ⟨j, h1, h2, h3⟩ := is (p + 1)
  obtain ⟨j', rfl⟩ : ∃ j', j = j' + 1 := ⟨j - 1, by lia⟩
  have h4 := (ly j' (by lia)).hi p hp
  have h5 := ge p (j' + 1) (by lia) h2
  (try dsimp only)
  lia
theorem rc_edge {X d : Nat -> Int} (hn : n + 1 = m + k) (ly : ∀ t, t < N -> Lay k m n T L G (D t) (D (t + 1))) (f : Feas k m n T L G F X) (r : Rc (suP k m T L G) (plP k n T L G) d v x) :
  ∃ (a : Nat) (w : Int), a <= n /\ x = d a + w /\ X a + w - F <= X v /\ ∀ s, s < N -> D s a + w <= D (s + 1) v := by
 induction r with
 | sum ht =>
  obtain ⟨i, hi, rfl | rfl⟩ := mem_su.mp ht
  ·exact ⟨i, T i, by lia, rfl, f.up i hi, fun s hs => (ly s hs).up i hi⟩
  ·exact ⟨i + k, - T i, by lia, rfl, by have := f.dn i hi; (try dsimp only); lia, fun s hs => by have := (ly s hs).dn i hi; (try dsimp only); lia⟩
 | place _ ht ih =>
  obtain ⟨a, w, h1, h2, h3, h4⟩ := ih
  obtain ⟨p, hp, rfl | rfl⟩ := mem_pl.mp ht
  ·refine ⟨a, w + L p, h1, by (try dsimp only); lia, ?_, fun s hs => ?_⟩
   ·have := f.lo p hp; (try dsimp only at h3 ⊢); lia
   ·have := (ly s hs).lo p hp; have := h4 s hs; (try dsimp only at this ⊢); lia
  ·refine ⟨a, w + - G p, h1, by (try dsimp only); omega, ?_, fun s hs => ?_⟩
   ·have := f.hi p hp; (try dsimp only at h3 ⊢); omega
   ·have := (ly s hs).hi p hp; have := h4 s hs; (try dsimp only at this ⊢); omega
theorem no_feas (hn : n + 1 = m + k) (hN : N = n + 1) (ly : ∀ t, t < N -> Lay k m n T L G (D t) (D (t + 1))) (hv : v <= n) (h : ∀ j, j < N -> F * ((N : Int) - j) < D N v - D j v) : ¬ Feas k m n T L G F X := fun f => by
 have ex : ∀ (t u : Nat), ∃ (a : Nat) (w : Int), t < N -> u <= n -> a <= n /\ D (t + 1) u = D t a + w /\ X a + w - F <= X u /\ ∀ s, s < N -> D s a + w <= D (s + 1) u := fun t u => by
  by_cases h1 : t < N /\ u <= n
  ·obtain ⟨a, w, h2⟩ := rc_edge hn ly f ((ly t h1.1).rc u h1.2)
   exact ⟨a, w, fun _ _ => h2⟩
  ·exact ⟨0, 0, fun h2 h3 => absurd ⟨h2, h3⟩ h1⟩
 let A : Nat -> Nat -> Nat := fun t u => Classical.choose (ex t u)
 have exA : ∀ t u, ∃ w : Int, t < N -> u <= n -> A t u <= n /\ D (t + 1) u = D t (A t u) + w /\ X (A t u) + w - F <= X u /\ ∀ s, s < N -> D s (A t u) + w <= D (s + 1) u := fun t u => Classical.choose_spec (ex t u)
 let W : Nat -> Nat -> Int := fun t u => Classical.choose (exA t u)
 have sp : ∀ t u, t < N -> u <= n -> A t u <= n /\ D (t + 1) u = D t (A t u) + W t u /\ X (A t u) + W t u - F <= X u /\ ∀ s, s < N -> D s (A t u) + W t u <= D (s + 1) u := fun t u => Classical.choose_spec (exA t u)
 let U : Nat -> Nat := fun j => Nat.rec v (fun j u => A (N - 1 - j) u) j
 have U0 : U 0 = v := rfl
 have U1 : ∀ j, U (j + 1) = A (N - 1 - j) (U j) := fun j => rfl
 have Un : ∀ j, j <= N -> U j <= n := fun j => by
  induction j with
  | zero => exact fun _ => hv
  | succ j ih => exact fun hj => by rw [U1]; exact (sp (N - 1 - j) (U j) (by omega) (ih (by omega))).1
 have st : ∀ j, j < N -> D (N - j) (U j) = D (N - (j + 1)) (U (j + 1)) + W (N - 1 - j) (U j) /\ X (U (j + 1)) + W (N - 1 - j) (U j) - F <= X (U j) /\ ∀ s, s < N -> D s (U (j + 1)) + W (N - 1 - j) (U j) <= D (s + 1) (U j) := fun j hj => by
  have := sp (N - 1 - j) (U j) (by omega) (Un j (by omega))
  rw [show N - 1 - j + 1 = N - j by omega] at this
  rw [U1, show N - (j + 1) = N - 1 - j by omega]
  exact this.2
 obtain ⟨i, j, hij, hj, e⟩ := pigeon (n := N) (f := U) fun i hi => by have := Un i hi; omega
 have c1 : ∀ c, i + c <= N -> D (N - i) (U i) - D (N - (i + c)) (U (i + c)) - F * (c : Nat) <= X (U i) - X (U (i + c)) := fun c => by
  induction c with
  | zero => intro _; simp
  | succ c ih =>
   intro hc
   have h1 := ih (by omega)
   have h2 := st (i + c) (by omega)
   have h3 : F * ((c + 1 : Nat) : Int) = F * (c : Nat) + F := by push_cast; rw [Int.mul_add, Int.mul_one]
   rw [h3, show i + (c + 1) = i + c + 1 by omega]
   omega
 have h1 := c1 (j - i) (by omega)
 rw [show i + (j - i) = j by omega, <- e] at h1
 have c2 : ∀ c, c <= i -> D (N - j) (U j) + D (N - (i - c)) (U (i - c)) - D (N - i) (U i) <= D (N - j + c) (U (i - c)) := fun c => by
  induction c with
  | zero => intro _; rw [Nat.sub_zero, Nat.add_zero, e]; omega
  | succ c ih =>
   intro hc
   have h1 := ih (by omega)
   have h2 := st (i - (c + 1)) (by omega)
   rw [show i - (c + 1) + 1 = i - c by omega] at h2
   have h3 := h2.2.2 (N - j + c) (by omega)
   rw [show N - j + (c + 1) = N - j + c + 1 by omega]
   omega
 have h2 := c2 i (Nat.le_refl _)
 rw [Nat.sub_self, U0, Nat.sub_zero, <- e] at h2
 have h3 := h (N - j + i) (by omega)
 have h4 : ((N : Int) - ((N - j + i : Nat) : Int)) = ((j - i : Nat) : Int) := by omega
 rw [h4] at h3
 omega
end
theorem zlI {a b : Int} (h : 0 < b) : (-(a / b)) * b >= -a /\ (-(a / b) - 1) * b < -a := by
 have h1 := Int.mul_ediv_add_emod a b
 have h2 := Int.emod_nonneg a (show b ≠ 0 by lia)
 have h3 := Int.emod_lt_of_pos a h
 have h4 : (-(a / b)) * b = -(b * (a / b)) := by rw [Int.neg_mul, Int.mul_comm]
 have h5 : (-(a / b) - 1) * b = -(b * (a / b)) - b := by rw [Int.sub_mul, h4, Int.one_mul]
 lia
section
variable {k m n N : Nat} {T L G : Nat -> Int} {E : Nat -> Nat -> Int} {F : Int}
noncomputable abbrev layD (c N : Nat) (E : Nat -> Nat -> Int) : List D := wL c fun t => .lst (wI N (E t))
theorem mean_ok (N1 : 1 <= N) (N9 : N <= 900) (hv : v < N) : Ok (zbm [.lst (layD (N + 1) N E), .int v]) fun x => ∃ y : Int, (∃ j, j < N /\ E N v - E j v <= y * ((N : Int) - j)) /\ (∀ j, j < N -> (y - 1) * ((N : Int) - j) < E N v - E j v) /\ x = .val (.int y) := by
 have e1 : ((N + 1 : Nat) : Int) - 1 = (N : Int) := by lia
 simp! only [↓zbm, ↓zeD, e1, ↓zeB]
 refine ⟨zaK (by lia) (by lia), by lia, zaJ (fun ρ => ∃ z, ρ = [.val (.lst (layD (N + 1) N E)), .val (.int v), .val (.int N), z]) (fun j => .int (-((E j v - E N v) / ((N : Int) - j)))) ⟨_, rfl⟩ ?_ ?_⟩
 ·rintro j _ hj ⟨z, rfl⟩
  simp! only [↓zeM, zat _ (show j < N + 1 by lia), zat _ hv, zmO]
  exact ⟨zho (by lia) (by lia), _, rfl⟩
 ·rintro _ ⟨z, rfl⟩
  obtain ⟨y, e, ⟨i, hi, h1⟩, h2⟩ := min_w (fun j => -((E j v - E N v) / ((N : Int) - j))) (c := N) (by lia)
  have e : zj4 (fun i j => decide (i < j)) _ = _ := e
  simp! only [e]
  refine ⟨y, ⟨i, hi, ?_⟩, fun j hj => ?_, rfl⟩
  ·have := (zlI (a := E i v - E N v) (b := (N : Int) - i) (by lia)).1
   rw [h1] at this
   lia
  ·have h3 := h2 j hj
   have h4 := (zlI (a := E j v - E N v) (b := (N : Int) - j) (by lia)).2
   have h5 : (y - 1) * ((N : Int) - j) <= (-((E j v - E N v) / ((N : Int) - j)) - 1) * ((N : Int) - j) := Int.mul_le_mul_of_nonneg_right (by lia) (by lia)
   lia
theorem far_ok (hn : n + 1 = m + k) (m1 : 1 <= m) (n9 : n <= 800) (le : ∀ p, p < n -> L p <= G p) :
  Ok (zcT [zaW k m n T L G]) fun x => ∃ F : Int, (∃ X, Feas k m n T L G F X) /\ (∀ X, ¬ Feas k m n T L G (F - 1) X) /\ x = .val (.int F) := by
 obtain ⟨N, hN⟩ : ∃ N, N = n + 1 := ⟨_, rfl⟩
 have e1 : (n : Int) + 1 = (N : Int) := by omega
 simp! only [↓zcT, ↓zfN]
 refine (zg6 true (by omega) (by omega)).mono ?_
 rintro _ rfl
 simp! only []
 refine (zg6 false (by omega) (by omega)).mono ?_
 rintro _ rfl
 simp! only [e1, zkU, cnt, if_true, Bool.false_eq_true, if_false, ↓zfu]
 refine ⟨⟨⟨by omega, by omega⟩, by omega⟩, zaK (by omega) (by omega), zbQ (fun i ρ => ∃ (E : Nat -> Nat -> Int) (z : Sl), (∀ t, t < i -> Lay k m n T L G (E t) (E (t + 1))) /\ ρ = [.val (zaW k m n T L G), .val (.lst ((suP k m T L G).map tD)), .val (.lst ((plP k n T L G).map tD)), .val (.int N), .own (layD (i + 1) N E), z]) ⟨fun _ _ => 0, _, fun t h => by omega, rfl⟩ ?_ ?_⟩
 ·rintro i _ hi ⟨E, z, ly, rfl⟩
  simp! only [↓zfa, zmO]
  rw [hN]
  refine (zld hn m1 (by omega) le).mono ?_
  rintro _ ⟨g, lg, rfl⟩
  simp! only []
  refine ⟨by omega, upf E (i + 1) g, .val (.int i), fun t ht => ?_, ?_⟩
  ·by_cases e : t = i
   ·subst e
    rw [zaD _ _ (by omega), za2]; exact lg
   ·rw [zaD _ _ (by omega), zaD _ _ (by omega)]; exact ly t (by omega)
  ·have e : layD (i + 1 + 1) (n + 1) (upf E (i + 1) g) = layD (i + 1) (n + 1) E ++ [.lst (wI (n + 1) g)] := by
    rw [show layD (i + 1 + 1) (n + 1) (upf E (i + 1) g) = _ from zd1 _ _, za2]
    congr 1
    exact zf4 fun t ht => by rw [zaD _ _ (by omega)]
   rw [e]
 ·rintro _ ⟨E, z, ly, rfl⟩
  simp! only [↓zfA]
  have ex : ∀ v, ∃ y : Int, v < N -> (∃ j, j < N /\ E N v - E j v <= y * ((N : Int) - j)) /\ (∀ j, j < N -> (y - 1) * ((N : Int) - j) < E N v - E j v) /\ zbm [.lst (layD (N + 1) N E), .int v] = some (.val (.int y)) := fun v => by
   by_cases hv : v < N
   ·obtain ⟨_, e, y, h1, h2, rfl⟩ := mean_ok (E := E) (by omega) (by omega) hv
    exact ⟨y, fun _ => ⟨h1, h2, e⟩⟩
   ·exact ⟨0, fun h => absurd h hv⟩
  let Y : Nat -> Int := fun v => Classical.choose (ex v)
  have hY : ∀ v, v < N -> (∃ j, j < N /\ E N v - E j v <= Y v * ((N : Int) - j)) /\ (∀ j, j < N -> (Y v - 1) * ((N : Int) - j) < E N v - E j v) /\ zbm [.lst (layD (N + 1) N E), .int v] = some (.val (.int (Y v))) := fun v => Classical.choose_spec (ex v)
  refine ⟨zaK (by omega) (by omega), by omega, zaJ (fun ρ => ∃ z, ρ = [.val (.lst (layD (N + 1) N E)), z]) (fun v => .int (Y v)) ⟨_, rfl⟩ ?_ ?_⟩
  ·rintro v _ hv ⟨z, rfl⟩
   simp! only [↓zfe, (hY v hv).2.2]
   exact ⟨_, rfl⟩
  ·rintro _ ⟨z, rfl⟩
   obtain ⟨F, e, ⟨i, hi, h1⟩, h2⟩ := max_w Y (c := N) (by omega)
   have e : zj4 (fun i j => decide (i > j)) _ = _ := e
   simp! only [e]
   refine ⟨F, feas_ex (N := N) (D := E) (by omega) ly hn fun v hv => ?_, fun X => no_feas (N := N) (D := E) hn hN ly (v := i) (by omega) fun j hj => ?_, rfl⟩
   ·obtain ⟨j, hj, h3⟩ := (hY v (by omega)).1
    refine ⟨j, hj, Int.le_trans h3 (Int.mul_le_mul_of_nonneg_right (h2 v (by omega)) (by omega))⟩
   ·have := (hY i hi).2.1 j hj
    rw [h1] at this
    exact this
end
section
variable {J : Type} [DecidableEq J]
theorem lk_map (g : J -> D) (x : J) : ∀ ks : List J, lkD ks (ks.map g) x = if x ∈ ks then some (g x) else none
 | [] => rfl
 | q :: ks => by
  rw [List.map_cons, lkD, lk_map g x ks]
  by_cases e : q = x
  ·subst e; simp
  ·have e2 : x ≠ q := fun z => e z.symm
   simp [e, e2]
noncomputable def pkJ (x : J) (ks : List J) : List J := if x ∈ ks then ks else ks ++ [x]
theorem pt_map (g : J -> D) (x : J) (d : D) (ks : List J) : ptD ks (ks.map g) x d = (pkJ x ks, (pkJ x ks).map fun y => if y = x then d else g y) := by
 unfold ptD pkJ
 by_cases h : x ∈ ks
 ·rw [if_pos (List.contains_iff_mem.mpr h), if_pos h]
  congr 1
  clear h
  induction ks with
  | nil => rfl
  | cons q ks ih =>
   rw [List.map_cons, List.map_cons, List.zipWith_cons_cons, ih]
 ·rw [if_neg (fun c => h (List.contains_iff_mem.mp c)), if_neg h]
  congr 1
  rw [List.map_append]
  congr 1
  ·apply List.map_congr_left
   intro y hy
   have : y ≠ x := fun z => h (z ▸ hy)
   simp [this]
  ·simp
theorem pk_mem {x y : J} {ks : List J} : y ∈ pkJ x ks ↔ y ∈ ks \/ y = x := by
 unfold pkJ
 by_cases q : x ∈ ks
 ·rw [if_pos q]
  exact ⟨.inl, fun h => h.elim id fun e => e ▸ q⟩
 ·rw [if_neg q]
  simp
end
section
variable {k m n : Nat} {T L G : Nat -> Int} {F : Int}
noncomputable def tie (k : Nat) (T L G : Nat -> Int) (F : Int) (s : Sp) : Tt := ((spw k T L G s).1, (spw k T L G s).2.1, if s.1 then F - (spw k T L G s).2.2 else - (spw k T L G s).2.2)
noncomputable abbrev allS (m n : Nat) : List Sp := stL false n ++ stL true m
noncomputable abbrev farT (k m n : Nat) (T L G : Nat -> Int) (F : Int) : List Tt := (allS m n).map (tie k T L G F)
theorem mem_all {s : Sp} : s ∈ allS m n ↔ s.2.1 < cnt m n s.1 := by
 rw [List.mem_append, mem_stL, mem_stL]
 obtain ⟨b, i, u⟩ := s
 cases b <;> simp [cnt]
theorem zmJ (m9 : m <= 1000) (n9 : n <= 1000) : Ok (zbS [zaW k m n T L G, .int F]) fun x => x = .val (.lst ((farT k m n T L G F).map tD)) := by
 simp! only [↓zbS, ↓zgD, ↓zf5]
 refine (zg6 false m9 n9).mono ?_
 rintro _ rfl
 have l1 := zgp false n
 have l2 := zgp true m
 simp! only [cnt, Bool.false_eq_true, if_false]
 refine ⟨by lia, ?_⟩
 rw [List.map_map]
 refine ziz (enc := tD ∘ spw k T L G) (l := stL false n) (fun ρ => ∃ a b c, ρ = [a, b, c]) (fun s => tD (tie k T L G F s)) ⟨_, _, _, rfl⟩ ?_ ?_
 ·rintro s _ hs ⟨a, b, c, rfl⟩
  obtain ⟨e, h⟩ := mem_stL.mp hs
  simp! only [Function.comp, tD, ↓zgh, tie, e, Bool.false_eq_true, if_false]
  exact ⟨_, _, _, rfl⟩
 rintro _ ⟨a, b, c, rfl⟩
 simp! only [↓zgc]
 refine (zg6 true m9 n9).mono ?_
 rintro _ rfl
 simp! only [cnt, if_true]
 refine ⟨by lia, ?_⟩
 rw [List.map_map]
 refine ziz (enc := tD ∘ spw k T L G) (l := stL true m) (fun ρ => ∃ a b c, ρ = [.val (.int F), a, b, c]) (fun s => tD (tie k T L G F s)) ⟨_, _, _, rfl⟩ ?_ ?_
 ·rintro s _ hs ⟨a, b, c, rfl⟩
  obtain ⟨e, h⟩ := mem_stL.mp hs
  simp! only [Function.comp, tD, ↓zfS, tie, e, if_true]
  exact ⟨_, _, _, rfl⟩
 rintro _ ⟨a, b, c, rfl⟩
 simp! only []
 refine ⟨by lia, ?_⟩
 unfold farT allS
 rw [List.map_append, List.map_append, List.map_map, List.map_map]
 rfl
theorem feas_tie (f : Feas k m n T L G F X) {s : Sp} (h : s.2.1 < cnt m n s.1) : X (tie k T L G F s).1 <= X (tie k T L G F s).2.1 + (tie k T L G F s).2.2 := by
 obtain ⟨b, i, u⟩ := s
 cases b <;> cases u <;> simp only [cnt, if_true, Bool.false_eq_true, if_false] at h <;> simp only [tie, spw, if_true, Bool.false_eq_true, if_false]
 ·have := f.hi i h; lia
 ·have := f.lo i h; lia
 ·have := f.dn i h; lia
 ·have := f.up i h; lia
theorem zks (h : ∀ t, t ∈ farT k m n T L G F -> X t.1 <= X t.2.1 + t.2.2) : Feas k m n T L G F X := by
 have h2 : ∀ s : Sp, s.2.1 < cnt m n s.1 -> X (tie k T L G F s).1 <= X (tie k T L G F s).2.1 + (tie k T L G F s).2.2 := fun s hs => h _ (List.mem_map_of_mem (mem_all.mpr hs))
 refine ⟨fun i hi => ?_, fun i hi => ?_, fun p hp => ?_, fun p hp => ?_⟩
 ·have := h2 (true, i, true) hi; simp only [tie, spw, if_true] at this; lia
 ·have := h2 (true, i, false) hi; simp only [tie, spw, if_true] at this; lia
 ·have := h2 (false, p, true) hp; simp only [tie, spw, Bool.false_eq_true, if_false] at this; lia
 ·have := h2 (false, p, false) hp; simp only [tie, spw, Bool.false_eq_true, if_false] at this; lia
theorem far_bd (hn : n + 1 = m + k) (k1 : 1 <= k) {t : Tt} (ht : t ∈ farT k m n T L G F) : t.1 < n + 1 /\ t.2.1 < n + 1 /\ t.1 ≠ t.2.1 := by
 obtain ⟨s, hs, rfl⟩ := List.mem_map.mp ht
 have h := mem_all.mp hs
 obtain ⟨b, i, u⟩ := s
 cases b <;> cases u <;> simp only [cnt, if_true, Bool.false_eq_true, if_false] at h <;> simp only [tie, spw] <;> lia
theorem far_ch (hp : p < n) : ∃ a, (p + 1, p, a) ∈ farT k m n T L G F := ⟨_, List.mem_map.mpr ⟨(false, p, false), mem_all.mpr hp, rfl⟩⟩
theorem row_ok (hn : n + 1 = m + k) (k1 : 1 <= k) (n9 : n <= 800) (f : ∃ X, Feas k m n T L G F X) : Ok (zbs [.lst ((farT k m n T L G F).map tD), .int n]) fun x => ∃ X, Feas k m n T L G F X /\ x = .val (.tup (wI n fun p => X (p + 1) - X p)) := by
 obtain ⟨X, f⟩ := f
 refine (cuts_ok (n := n) (ts := farT k m n T L G F) (by lia) (fun t ht => far_bd hn k1 ht) (fun c v w home _ tt => ?_) (fun p hp => far_ch hp)).mono ?_
 ·have key : ∀ c, (∀ i, i < c -> (v i, v (i + 1), w i) ∈ farT k m n T L G F) -> X (v 0) - X (v c) <= sumR c w := fun c => by
   induction c with
   | zero => intro _; show X (v 0) - X (v 0) <= 0; lia
   | succ c ih =>
    intro h
    have h1 := ih fun i hi => h i (by lia)
    obtain ⟨s, hs, e⟩ := List.mem_map.mp (h c (by lia))
    have h2 := feas_tie (F := F) f (mem_all.mp hs)
    rw [e] at h2
    show _ <= sumR c w + w c
    (try dsimp only at h2)
    lia
  have := key c tt
  rw [home] at this
  lia
 ·rintro _ ⟨X, h, rfl⟩
  exact ⟨X, zks h, rfl⟩
end
structure Way (k m n : Nat) (T L G : Nat -> Int) (F : Int) (c : Nat) (st : Nat -> Sp) : Prop where
 pos : 1 <= c
 c9 : c <= 1000
 ok : ∀ i, i < c -> (st i).2.1 < cnt m n (st i).1
 nx : ∀ i, i < c -> (spw k T L G (st i)).2.1 = (spw k T L G (st (if i + 1 = c then 0 else i + 1))).1
 neg : F * sumR c (fun i => if (st i).1 then 1 else 0) < sumR c fun i => (spw k T L G (st i)).2.2
noncomputable def dec (k : Nat) (a b : Nat) : Sp := if b = a + 1 then (false, a, true) else if a = b + 1 then (false, b, false) else if b = a + k then (true, a, true) else (true, b, false)
theorem zmA {T L G : Nat -> Int} (k2 : 2 <= k) (s : Sp) : dec k (spw k T L G s).1 (spw k T L G s).2.1 = s := by
 obtain ⟨b, i, u⟩ := s
 cases b <;> cases u
 ·show dec k (i + 1) i = _
  unfold dec; rw [if_neg (by lia), if_pos rfl]
 ·show dec k i (i + 1) = _
  unfold dec; rw [if_pos rfl]
 ·show dec k (i + k) i = _
  unfold dec; rw [if_neg (by lia), if_neg (by lia), if_neg (by lia)]
 ·show dec k i (i + k) = _
  unfold dec; rw [if_neg (by lia), if_neg (by lia), if_pos rfl]
noncomputable def kyG (k : Nat) (r : List Int) : D := sD (dec k (r.getD 0 0).toNat (r.getD 1 0).toNat)
noncomputable abbrev kyS (k : Nat) (T L G : Nat -> Int) (s : Sp) : List Int := [((spw k T L G s).1 : Int), ((spw k T L G s).2.1 : Int)]
theorem kyG_s {T L G : Nat -> Int} (k2 : 2 <= k) (s : Sp) : kyG k (kyS k T L G s) = sD s := by
 show sD (dec k (spw k T L G s).1 (spw k T L G s).2.1) = sD s
 rw [zmA k2]
section
variable {k m n : Nat} {T L G : Nat -> Int} {F : Int}
theorem key2 (a b : Int) : keyT (.tup [.int a, .int b]) = some [a, b] := rfl
theorem cut2 (a b c : D) : cutD [a, b, c] none (some 2) = [a, b] := zbi [a, b, c] 2
theorem zmo (k2 : 2 <= k) (m9 : m <= 1000) (n9 : n <= 1000) (a1 a2 a3 : Sl) 
  (hQ : ∀ ks a5, (∀ s, s ∈ allS m n -> kyS k T L G s ∈ ks) -> Q (.next, [.val (zaW k m n T L G), a1, a2, a3, .tre (.dit ks (ks.map (kyG k))), a5])) :
  Ok (zcH [.val (zaW k m n T L G), a1, a2, a3, .tre (.dit [] []), .emp]) Q := by
 simp! only [↓zcH]
 refine (zia false m9 n9).mono ?_
 rintro _ rfl
 simp! only []
 refine (zia true m9 n9).mono ?_
 rintro _ rfl
 have l1 := zgp false n
 have l2 := zgp true m
 simp! only [cnt, Bool.false_eq_true, if_false, if_true]
 refine ⟨by lia, ?_⟩
 rw [<- List.map_append]
 refine zku (enc := sD) (l := allS m n) (fun i ρ => ∃ ks a5, ks.length <= i /\ (∀ s, s ∈ (allS m n).take i -> kyS k T L G s ∈ ks) /\ ρ = [.val (zaW k m n T L G), a1, a2, a3, .tre (.dit ks (ks.map (kyG k))), a5]) ⟨[], _, by simp, by simp, rfl⟩ ?_ ?_
 ·rintro i s _ hi ⟨ks, a5, kl, hk, rfl⟩
  have mem := List.mem_of_getElem? hi
  have il : i < (allS m n).length := by
   rcases Nat.lt_or_ge i (allS m n).length with h | h
   ·exact h
   ·rw [List.getElem?_eq_none h] at hi; cases hi
  rw [List.length_append, l1, l2] at il
  simp! only [↓zeO]
  refine (zj1 s (mem_all.mp mem)).mono ?_
  rintro _ rfl
  have e1 := pt_map (kyG k) (kyS k T L G s) (sD s) ks
  have e2 : (fun y => if y = kyS k T L G s then sD s else kyG k y) = kyG k := by
   funext y
   by_cases e : y = kyS k T L G s
   ·rw [if_pos e, e, kyG_s k2]
   ·rw [if_neg e]
  rw [e2] at e1
  simp! only [tD, cut2, key2, e1]
  refine ⟨by lia, pkJ (kyS k T L G s) ks, _, ?_, fun s' hs' => ?_, rfl⟩
  ·unfold pkJ; split
   ·lia
   ·simp; lia
  ·rw [zjp hi, List.mem_append, List.mem_singleton] at hs'
   rw [pk_mem]
   rcases hs' with h | rfl
   ·exact .inl (hk s' h)
   ·exact .inr rfl
 ·rintro _ ⟨ks, a5, kl, hk, rfl⟩
  rw [List.take_of_length_le (Nat.le_refl _)] at hk
  exact hQ ks a5 hk
end
section
variable {k m n : Nat} {T L G : Nat -> Int} {F : Int} {ts : List Tt}
theorem pot_ex (hb : ∀ t, t ∈ ts -> t.1 < n + 1 /\ t.2.1 < n + 1 /\ t.1 ≠ t.2.1) (ch : ∀ p, p < n -> ∃ a, (p + 1, p, a) ∈ ts)
  (b : BI ts.length (fun q => (tAt ts q).1) (fun q => (tAt ts q).2.1) (fun q => (tAt ts q).2.2) 0 (n + 1) 0 d u us) (h : ∀ v, us v <= n * ts.length) : ∃ X : Nat -> Int, ∀ t, t ∈ ts -> X t.1 <= X t.2.1 + t.2.2 := by
 have kt : ∀ t, t ∈ ts -> ∀ y, d t.2.1 = some y -> ∃ x, d t.1 = some x /\ x <= y + t.2.2 := fun t ht => by
  obtain ⟨q, hq, rfl⟩ := List.getElem_of_mem ht
  have := b.kept (t := n) h hq
  unfold Kept at this
  have e : tAt ts q = ts[q] := by unfold tAt; rw [List.getD_eq_getElem?_getD, List.getElem?_eq_getElem hq]; rfl
  (try dsimp only at this)
  rw [e] at this
  exact this
 have dv : ∀ v, v <= n -> ∃ x, d v = some x := fun v => by
  induction v with
  | zero => exact fun _ => b.st
  | succ v ih =>
   intro hv
   obtain ⟨x, hx⟩ := ih (by lia)
   obtain ⟨a, ha⟩ := ch v (by lia)
   obtain ⟨y, hy, _⟩ := kt _ ha x hx
   exact ⟨y, hy⟩
 refine ⟨fun v => (d v).getD 0, fun t ht => ?_⟩
 obtain ⟨h1, h2, _⟩ := hb t ht
 obtain ⟨y, hy⟩ := dv t.2.1 (by lia)
 obtain ⟨x, hx, hxy⟩ := kt t ht y hy
 (try dsimp only)
 rw [hx, hy]
 exact hxy
theorem turn_w (c1 : 1 <= c) (f : Nat -> Int) (h : f c = f 0) : cutD (wI c f) (some 1) none ++ cutD (wI c f) none (some 1) = wI c fun i => f (i + 1) := by
 obtain ⟨e, rfl⟩ : ∃ e, c = e + 1 := ⟨c - 1, by lia⟩
 rw [show cutD (wI (e + 1) f) (some 1) none = (wI (e + 1) f).drop 1 from zbJ _ 1, show cutD (wI (e + 1) f) none (some 1) = (wI (e + 1) f).take 1 from zbi _ 1]
 rw [show wI (e + 1) (fun i => f (i + 1)) = (wI e fun i => f (i + 1)) ++ [.int (f (e + 1))] from zd1 _ _, h]
 have s : wI (e + 1) f = .int (f 0) :: wI e fun i => f (i + 1) := by simp [wL, List.range_succ_eq_map, Function.comp_def]
 rw [s]
 rfl
theorem zmx (hn : n + 1 = m + k) (k2 : 2 <= k) (n9 : n <= 300) (nf : ∀ X, ¬ Feas k m n T L G F X) : Ok (zb2 [zaW k m n T L G, .int F]) fun x => ∃ c st, Way k m n T L G F c st /\ x = .own (wL c fun i => sD (st i)) := by
 have e1 : (n : Int) + 1 = ((n + 1 : Nat) : Int) := by lia
 have hb : ∀ t, t ∈ farT k m n T L G F -> t.1 < n + 1 /\ t.2.1 < n + 1 /\ t.1 ≠ t.2.1 := fun t ht => far_bd hn (by lia) ht
 have at_ : ∀ q, q < (farT k m n T L G F).length -> tAt (farT k m n T L G F) q ∈ farT k m n T L G F := fun q h => zmb h
 simp! only [↓zb2, ↓zer]
 refine (zmJ (by lia) (by lia)).mono ?_
 rintro _ rfl
 obtain ⟨ts, hts⟩ : ∃ ts, ts = farT k m n T L G F := ⟨_, rfl⟩
 rw [<- hts] at hb at_ ⊢
 simp! only [ties_w, e1]
 refine (zi2 (s := 0) (by lia) (by lia) (by lia) (fun q hq => (hb _ (at_ q hq)).1) (fun q hq => (hb _ (at_ q hq)).2.1) (fun q hq => (hb _ (at_ q hq)).2.2)).mono ?_
 rintro _ ⟨d, u, f, ⟨us, b, hf⟩, rfl⟩
 rcases hf with ⟨_, h⟩ | ⟨l, rfl, h⟩
 ·obtain ⟨X, hX⟩ := pot_ex hb (fun p hp => by rw [hts]; exact far_ch hp) b h
  rw [hts] at hX
  exact absurd (zks hX) (nf X)
 simp! only [uO]
 refine (loop_ok b h n9 (fun q hq => (hb _ (at_ q hq)).1) (fun q hq => (hb _ (at_ q hq)).2.1) (fun q hq => (hb _ (at_ q hq)).2.2)).mono ?_
 rintro _ ⟨c, qs, cn, R, rfl⟩
 simp! only []
 refine zmo k2 (by lia) (by lia) _ _ _ fun ks a5 hk => ?_
 have c1 := R.pos
 obtain ⟨V, hV⟩ : ∃ V : Nat -> Nat, V = fun i => back u (back u l (n + 1)) i := ⟨_, rfl⟩
 have home : V c = V 0 := by rw [hV]; exact R.home
 have tie_ : ∀ i, i < c -> ∃ s : Sp, s ∈ allS m n /\ (spw k T L G s).1 = V i /\ (spw k T L G s).2.1 = V (i + 1) /\ (tAt ts (qs i)).2.2 = (tie k T L G F s).2.2 := fun i hi => by
  obtain ⟨h1, h2, h3⟩ := R.tie i hi
  have h4 := at_ _ h1
  rw [hts] at h4
  obtain ⟨s, hs, e⟩ := List.mem_map.mp h4
  rw [<- hts] at e
  (try dsimp only at h2 h3)
  rw [<- e] at h2 h3 ⊢
  exact ⟨s, hs, by rw [hV]; exact h2, by rw [hV]; exact h3, rfl⟩
 have st_ : ∀ i, i < c -> dec k (V i) (V (i + 1)) ∈ allS m n /\ (spw k T L G (dec k (V i) (V (i + 1)))).1 = V i /\ (spw k T L G (dec k (V i) (V (i + 1)))).2.1 = V (i + 1) /\ (tAt ts (qs i)).2.2 = (tie k T L G F (dec k (V i) (V (i + 1)))).2.2 := fun i hi => by
  obtain ⟨s, h1, h2, h3, h4⟩ := tie_ i hi
  have : dec k (V i) (V (i + 1)) = s := by rw [<- h2, <- h3, zmA k2]
  rw [this]
  exact ⟨h1, h2, h3, h4⟩
 have ew : (wI c fun i => ((back u (back u l (n + 1)) i : Nat) : Int)) = wI c fun i => (V i : Int) := by rw [hV]
 rw [ew]
 have et := turn_w c1 (fun i => (V i : Int)) (by rw [home])
 simp! only [et, ↓zeh, zgy]
 refine ⟨by rw [<- List.length_append, et, zaS]; lia, by lia, zaJ (fun ρ => ∃ z, ρ = [.val (.dit ks (ks.map (kyG k))), z]) (fun i => sD (dec k (V i) (V (i + 1)))) ⟨_, rfl⟩ ?_ ?_⟩
 ·rintro i _ hi ⟨z, rfl⟩
  obtain ⟨h1, h2, h3, _⟩ := st_ i hi
  have mem := hk _ h1
  rw [show kyS k T L G (dec k (V i) (V (i + 1))) = [(V i : Int), (V (i + 1) : Int)] by unfold kyS; rw [h2, h3]] at mem
  simp! only [↓zeq, key2, lk_map, if_pos mem]
  exact ⟨rfl, _, rfl⟩
 ·rintro _ ⟨z, rfl⟩
  simp! only []
  refine ⟨c, fun i => dec k (V i) (V (i + 1)), ⟨c1, by lia, fun i hi => mem_all.mp (st_ i hi).1, fun i hi => ?_, ?_⟩, rfl⟩
  ·(try dsimp only)
   rw [(st_ i hi).2.2.1]
   by_cases e : i + 1 = c
   ·rw [if_pos e, e, home]; exact (st_ 0 (by lia)).2.1.symm
   ·rw [if_neg e]; exact (st_ (i + 1) (by lia)).2.1.symm
  ·have h1 := R.neg
   have h2 : (sumR c fun i => (tAt ts (qs i)).2.2) = F * (sumR c fun i => if (dec k (V i) (V (i + 1))).1 then 1 else 0) - sumR c fun i => (spw k T L G (dec k (V i) (V (i + 1)))).2.2 := by
    rw [<- zkv, <- zkp]
    refine zh2 fun i hi => ?_
    rw [(st_ i hi).2.2.2]
    unfold tie
    (try dsimp only)
    split
    ·rw [Int.mul_one]
    ·rw [Int.mul_zero]; lia
   (try dsimp only at h1 ⊢)
   lia
inductive OffC (k m n : Nat) (T L G : Nat -> Int) (F : Int) : D -> Prop
 | no : OffC k m n T L G F .non
 | way {c : Nat} {st : Nat -> Sp} : Way k m n T L G (F - 1) c st -> OffC k m n T L G F (.lst (wL c fun i => sD (st i)))
theorem off_ok (hn : n + 1 = m + k) (k2 : 2 <= k) (m1 : 1 <= m) (n9 : n <= 300) (le : ∀ p, p < n -> L p <= G p) :
  Ok (zdI [zaW k m n T L G]) fun x => ∃ (F : Int) (X : Nat -> Int) (w : D), OffC k m n T L G F w /\ x = .val (.tup [.int F, .tup (wI n fun p => X (p + 1) - X p), w]) := by
 simp! only [↓zdI, ↓zgx]
 refine (far_ok hn m1 (by lia) le).mono ?_
 rintro _ ⟨F, f, nf, rfl⟩
 simp! only []
 refine (zmJ (by lia) (by lia)).mono ?_
 rintro _ rfl
 simp! only []
 refine (row_ok hn (by lia) (by lia) f).mono ?_
 rintro _ ⟨X, fX, rfl⟩
 simp! only []
 refine ⟨fun z => ?_, fun z => ?_⟩
 ·exact ⟨F, X, _, .no, rfl⟩
 refine (zmx hn k2 n9 nf).mono ?_
 rintro _ ⟨c, st, w, rfl⟩
 simp! only []
 exact ⟨F, X, _, .way w, rfl⟩
end
theorem zmu (x : Int) : abs1 x = absI x := rfl
noncomputable abbrev sqD (t : Bool) (n : Nat) (r : Nat -> Int) : D := if t then .tup (wI n r) else .lst (wI n r)
theorem sqD_sq (t : Bool) (n : Nat) (r : Nat -> Int) : Sq (sqD t n r) n r := by cases t <;> first | exact Sq.lst n r | exact Sq.tup n r
section
variable {k m n : Nat} {T L G s r : Nat -> Int}
theorem zhq (t : Bool) (hk : k <= n) (hn : n <= 900) : Ok (zbp [sqD t n r, .int k]) fun x => x = .val (.tup (wI (n + 1 - k) (win k r))) := by
 have hl : ((n : Int) - (k : Int) + 1).toNat = n + 1 - k := by lia
 have main : ∀ d, (d = .lst (wI n r) \/ d = .tup (wI n r)) -> Ok (zbp [d, .int k]) fun x => x = .val (.tup (wI (n + 1 - k) (win k r))) := fun d hd => by
  have loop : ∀ (Q : Fl × R -> Prop), (∀ s, Q (.next, [.val d, .val (.int k), .own (wI (n + 1 - k) (win k r)), s])) -> Ok (forM (fun d ρ => (gN 3 d ρ).bind fun ρ' => zdk ρ') (wL (n + 1 - k) fun i => .int (i : Nat)) [.val d, .val (.int k), .own [], .emp]) Q := fun Q hQ => by
   refine zbQ (fun i ρ => ∃ s, ρ = [.val d, .val (.int k), .own (wI i (win k r)), s]) ⟨_, rfl⟩ ?_ ?_
   ·rintro i _ hi ⟨s, rfl⟩
    simp! only [↓zdk, ↓zfw]
    refine ⟨zaK (by lia) (by lia), by lia, zaJ (fun ρ => ∃ s, ρ = [.val d, .val (.int i), s]) (fun j => .int (r (i + j))) ⟨_, rfl⟩ ?_ ?_⟩
    ·rintro j _ hj ⟨s, rfl⟩
     have e : ((i : Int) + (j : Int)) = ((i + j : Nat) : Int) := by lia
     rcases hd with rfl | rfl <;>
     ·simp! only [↓zft, e, zat _ (show i + j < n by lia)]
      exact ⟨_, rfl⟩
    ·rintro _ ⟨s, rfl⟩
     simp! only [ziA, zgf]
     exact ⟨by lia, _, by rw [show wI (i + 1) (win k r) = _ from zd1 _ _]; rfl⟩
   ·rintro _ ⟨s, rfl⟩
    exact hQ s
  rcases hd with rfl | rfl <;>
  ·simp! only [↓zbp, ↓zfB, ↓zeZ, hl]
   refine ⟨zaK (by lia) (by lia), loop _ fun s => ?_⟩
   simp! only []
 cases t
 ·exact main _ (.inl rfl)
 ·exact main _ (.inr rfl)
end
section
variable {k m n : Nat} {T L G r : Nat -> Int} {F : Int}
noncomputable def gap (k : Nat) (T r : Nat -> Int) (i : Nat) : Int := absI (win k r i - T i)
noncomputable def Near (k m : Nat) (T r : Nat -> Int) (F : Int) : Prop := ∀ i, i < m -> gap k T r i <= F
variable {c : Nat} {st : Nat -> Sp} {F0 : Int}
noncomputable abbrev zje (k : Nat) (T L G : Nat -> Int) (c : Nat) (st : Nat -> Sp) : Int := sumR c fun i => (spw k T L G (st i)).2.2
noncomputable abbrev ziw (c : Nat) (st : Nat -> Sp) : Int := sumR c fun i => if (st i).1 then 1 else 0
end
section
variable {k m n : Nat} {T L G r : Nat -> Int} {F F0 : Int} {c : Nat} {st : Nat -> Sp}
theorem ziu (t : Bool) (n9 : n <= 900) :
  Ok (zbK [sqD t n' r, .tup (wI n L), .tup (wI n G)]) fun x => ∃ b, x = .val (.bl b) /\ (b = true ↔ n' = n /\ ∀ p, p < n -> L p <= r p /\ r p <= G p) := by
 have loop : ∀ (d : D), (d = .lst (wI n r) \/ d = .tup (wI n r)) -> ∀ (Q : List D × R -> Prop), (∀ ρ, Q (wL n (fun p => .bl (decide (L p <= r p) && decide (r p <= G p))), ρ)) -> Ok (zcV (zhb (gN 3) zbh zcc) (wL n fun i => .int (i : Nat)) [.val (.tup (wI n L)), .val d, .val (.tup (wI n G)), .emp]) Q := fun d hd Q hQ => by
  refine zaJ (fun ρ => ∃ s, ρ = [.val (.tup (wI n L)), .val d, .val (.tup (wI n G)), s]) (fun p => .bl (decide (L p <= r p) && decide (r p <= G p))) ⟨_, rfl⟩ ?_ fun ρ _ => hQ ρ
  rintro p _ hp ⟨s, rfl⟩
  rcases hd with rfl | rfl <;>
  ·simp! only [↓zcc, zat _ hp]
   refine ⟨fun h => ⟨by simp [h], _, rfl⟩, fun h => ⟨?_, _, rfl⟩⟩
   rw [decide_eq_false (by lia)]; rfl
 cases t <;>
 ·simp! only [↓zbK, ↓zdW, sqD, Bool.false_eq_true, if_false, if_true]
  refine ⟨fun h => ⟨false, rfl, by simp; lia⟩, fun h => ?_⟩
  have e : n' = n := by lia
  subst e
  simp! only [↓zef, ↓zed]
  refine ⟨zaK (by lia) (by lia), by lia, loop _ (by first | exact .inl rfl | exact .inr rfl) _ fun ρ => ?_⟩
  simp! only [zdR]
  refine ⟨_, rfl, ?_⟩
  rw [all_w]
  simp
theorem ends_ok (s : Sp) (h : s.2.1 < cnt m n s.1) : Ok (zbe [zaW k m n T L G, .tup [.str (kS s.1), .int (s.2.1 : Nat), .bl s.2.2]]) fun x => x = .val (tD (spw k T L G s)) := by
 obtain ⟨b, i, u⟩ := s
 cases b <;> cases u <;>
 ·simp only [cnt, if_true, Bool.false_eq_true, if_false] at h
  simp! only [↓zbe, ↓zcd, zji, zat _ h, ↓zcK, spw, tD]
  simp
end
noncomputable def Pot (ds : List D) : Prop := ∃ p : Int, ds = [.int p]
theorem zaw (h : Pot ds) {m : Int} (h0 : 0 < m) (h1 : m < 2 ^ 250) : Ok (zal ds [.int m]) fun r => ∃ (i : Nat) (ds' : List D), (i : Int) < m /\ Pot ds' /\ r = (.val (.int i), ds') := by
 obtain ⟨p, rfl⟩ := h
 simp! only [↓zal, ↓zfD]
 have m0 := Int.emod_nonneg p (Int.ne_of_gt h0)
 refine ⟨h0, zml h0 h1, (p % m).toNat, [.int (p / m)], ?_, ⟨_, rfl⟩, ?_⟩
 ·have := Int.emod_lt_of_pos p h0; lia
 ·rw [show (((p % m).toNat : Nat) : Int) = p % m by lia]
theorem deal_ok (ns : List Int) (k : Nat) (hk : k < 64) : Ok (zcB [.scr ns, .int k]) fun r => ∃ ds, Pot ds /\ r = .own ds := by
 have tail : ∀ (c b : Int), 0 <= b -> b < 4294967296 -> Ok (zdu [.val (.scr ns), .val (.int k), .val (.int c), .val (.int b), .val (.int 0), .emp]) fun p => ∃ (a : Int) (s3 s5 : Sl), p = (.next, [.val (.scr ns), .val (.int k), .val (.int c), s3, .val (.int a), s5]) := fun c b h0 h1 => by
  simp! only [↓zdu]
  refine ⟨rfl, zbQ (fun _ ρ => ∃ (a b : Int) (s5 : Sl), 0 <= b /\ b < 4294967296 /\ ρ = [.val (.scr ns), .val (.int k), .val (.int c), .val (.int b), .val (.int a), s5]) ⟨0, _, .emp, h0, h1, rfl⟩ ?_ ?_⟩
  ·rintro i _ hi ⟨a, b, s5, b0, b1, rfl⟩
   simp! only [↓zfb]
   have e1 : 0 <= (b * 48271 + 12345) % 2147483647 := Int.emod_nonneg _ (by decide)
   have e2 : (b * 48271 + 12345) % 2147483647 < 2147483647 := Int.emod_lt_of_pos _ (by decide)
   exact ⟨zcJ (by lia), zhm (by decide), zcJ (by lia), by decide +kernel, _, _, _, e1, by lia, rfl⟩
  ·rintro _ ⟨a, b, s5, _, _, rfl⟩
   exact ⟨_, _, _, rfl⟩
 have last : ∀ c : Int, Ok (zdx [.val (.scr ns), .val (.int k), .val (.int c), .emp, .emp, .emp]) fun p => ∃ ds a, Pot ds /\ p = (.ret (.own ds), a) := fun c => by
  simp! only [↓zdx, ↓zfd]
  refine ⟨fun _ => ⟨_, _, ⟨_, rfl⟩, rfl⟩, fun _ => ⟨zcJ (by decide), ?_⟩⟩
  refine (tail c _ (by lia) (by lia)).mono ?_
  rintro _ ⟨a, s3, s5, rfl⟩
  simp! only []
  exact ⟨_, _, ⟨_, rfl⟩, rfl⟩
 simp! only [↓zcB, ↓zfP]
 refine ⟨fun h => ?_, fun h => ?_⟩
 ·rw [List.getElem?_eq_getElem (show k < ns.length by lia)]
  simp! only []
  refine ⟨by decide +kernel, by decide +kernel, by decide +kernel, (last _).mono ?_⟩
  rintro _ ⟨d, a, h, rfl⟩
  simp! only []
  exact ⟨_, h, rfl⟩
 ·refine (last _).mono ?_
  rintro _ ⟨d, a, h, rfl⟩
  simp! only []
  exact ⟨_, h, rfl⟩
structure LineOk (k s n : Nat) (L G : Nat -> Int) : Prop where
 k2 : 2 <= k
 k5 : k <= 5
 kn : k <= n
 n24 : n <= 24
 s : n + 1 = s + k
 le : ∀ p, p < n -> L p <= G p
 far : ∀ p, p < n -> G p - L p < 2 ^ 240
theorem zjE {t c a b : Int} (h0 : 0 <= t) (h1 : t <= a) (g0 : 0 <= c) (g1 : c <= b) (ha : 0 <= a) : 0 <= t * c /\ t * c <= a * b :=
 ⟨Int.mul_nonneg h0 g0, Int.mul_le_mul h1 g1 g0 ha⟩
noncomputable def Sc (n : Nat) (c : Nat -> Int) : Prop := ∀ p, p < n -> 0 <= c p /\ c p <= 1000000000000000000000000000000000000000000000000000000000
theorem lp_bend (h : Pot ds) (s n t : Nat) (hs : 0 < s) (hsn : s <= n) (hn : n <= 24) (ht : t <= 24) (S sc : Nat -> Int) (a1 a2 a3 a4 a5 a7 a8 a9 a11 a12 : Sl) 
  (hQ : ∀ (ds' : List D) (S : Nat -> Int) (a11 a12 : Sl), Pot ds' -> Q (.next, [.par ds', a1, a2, a3, a4, a5, .val (.lst (wI n sc)), a7, a8, a9, .own (wI s S), a11, a12])) :
  Ok (forM (fun d ρ => (gN 11 d ρ).bind fun ρ' => zdA ρ') (wL t fun i => .int (i : Nat)) [.par ds, a1, a2, a3, a4, a5, .val (.lst (wI n sc)), a7, a8, a9, .own (wI s S), a11, a12]) Q := by
 refine zbQ (fun i ρ => ∃ (ds' : List D) (S : Nat -> Int) (a11 a12 : Sl), Pot ds' /\ ρ = [.par ds', a1, a2, a3, a4, a5, .val (.lst (wI n sc)), a7, a8, a9, .own (wI s S), a11, a12]) ⟨ds, S, _, _, h, rfl⟩ ?_ ?_
 ·rintro i _ hi ⟨d1, S, a11, a12, h1, rfl⟩
  simp! only [↓zdA]
  refine (zaw h1 (m := (s : Int)) (by lia) (by lia)).mono ?_
  rintro _ ⟨at', d2, hat, h2, rfl⟩
  simp! only [zat _ (show at' < s by lia)]
  refine (zaw h2 (m := 9) (by lia) (by lia)).mono ?_
  rintro _ ⟨x, d3, hx, h3, rfl⟩
  simp! only [zat _ (show at' < n by lia)]
  refine (zaw h3 (m := 2) (by lia) (by lia)).mono ?_
  rintro _ ⟨y, d4, hy, h4, rfl⟩
  have hy' : ∃ z : Int, [D.int 1, D.int (sc at')][y]? = some (.int z) := by
   have : y = 0 \/ y = 1 := by lia
   rcases this with rfl | rfl <;> exact ⟨_, rfl⟩
  obtain ⟨z, ez⟩ := hy'
  simp! only [ez, zkY _ _ (show at' < s by lia), show at' < s by lia]
  exact ⟨zcJ (by lia), d4, _, _, _, h4, rfl⟩
 ·rintro _ ⟨d1, S, a11, a12, h1, rfl⟩
  exact hQ d1 S a11 a12 h1
theorem zjM (h : Pot ds) (k most wide n : Nat) (k2 : 2 <= k) (k5 : k <= 5) (kn : k <= n) (n24 : n <= 24) (w1 : 1 <= wide) (w2 : wide <= 5) (great : Int) (sc : Nat -> Int) (hsc : Sc n sc) (hQ : ∀ (s : Nat) (S L G : Nat -> Int) (ds' : List D) (a : List Sl), Pot ds' -> LineOk k s n L G -> Q (.ret (.val (zaW k s n S L G)), .par ds' :: a)) :
  Ok (zdy [.par ds, .val (.int k), .val (.int most), .val (.int wide), .val (.int n), .val (.int great), .val (.lst (wI n sc)), .emp, .emp, .emp, .emp, .emp, .emp]) Q := by
 simp! only [↓zdy, ↓zfi]
 refine ⟨by lia, zel (fun i acc ρ => ∃ (f : Nat -> Int) (ds' : List D) (s : Sl), Pot ds' /\ acc = wI i f /\ ρ = [.par ds', s]) ⟨fun _ => 0, ds, .emp, h, rfl, rfl⟩ ?_ ?_⟩
 ·rintro i _ _ hi ⟨f, d1, s, h1, rfl, rfl⟩
  simp! only [↓ze3]
  refine (zaw h1 (m := 9) (by lia) (by lia)).mono ?_
  rintro _ ⟨t, d2, ht, h2, rfl⟩
  simp! only []
  exact ⟨zhm (by lia), _, d2, _, h2, zeR i f _, rfl⟩
 rintro _ _ ⟨R, d1, s, h1, rfl, rfl⟩
 simp! only [↓zfk, zgy]
 refine ⟨by lia, zel (fun i acc ρ => ∃ (f : Nat -> Int) (ds' : List D) (s s' : Sl), Pot ds' /\ (∀ j, j < i -> f j <= R j /\ R j - f j <= 4 * 1000000000000000000000000000000000000000000000000000000000) /\ acc = wI i f /\ ρ = [.par ds', .val (.int wide), s, s']) ⟨fun _ => 0, d1, .emp, .emp, h1, fun _ h => by lia, rfl, rfl⟩ ?_ ?_⟩
 ·rintro i _ _ hi ⟨f, d2, s, s', h2, b, rfl, rfl⟩
  simp! only [↓zff]
  refine (zaw h2 (m := (wide : Int)) (by lia) (by lia)).mono ?_
  rintro _ ⟨t, d3, ht, h3, rfl⟩
  simp! only []
  refine ⟨zcJ (by lia), _, d3, _, _, h3, ?_, zeR i f _, rfl⟩
  intro j hj
  split
  ·rename_i hji; exact b j hji
  ·have e : j = i := by lia
   subst e
   have := zjE (t := (t : Int)) (a := 4) (by lia) (by lia) (hsc j (by lia)).1 (hsc j (by lia)).2 (by lia)
   lia
 rintro _ _ ⟨L, d2, s, s', h2, bL, rfl, rfl⟩
 simp! only [↓ze8, zgy]
 refine ⟨by lia, zel (fun i acc ρ => ∃ (f : Nat -> Int) (ds' : List D) (s s' : Sl), Pot ds' /\ (∀ j, j < i -> R j <= f j /\ f j - R j <= 4 * 1000000000000000000000000000000000000000000000000000000000) /\ acc = wI i f /\ ρ = [.par ds', .val (.int wide), s, s']) ⟨fun _ => 0, d2, .emp, .emp, h2, fun _ h => by lia, rfl, rfl⟩ ?_ ?_⟩
 ·rintro i _ _ hi ⟨f, d3, s, s', h3, b, rfl, rfl⟩
  simp! only [↓ze9]
  refine (zaw h3 (m := (wide : Int)) (by lia) (by lia)).mono ?_
  rintro _ ⟨t, d4, ht, h4, rfl⟩
  simp! only []
  refine ⟨zcJ (by lia), _, d4, _, _, h4, ?_, zeR i f _, rfl⟩
  intro j hj
  split
  ·rename_i hji; exact b j hji
  ·have e : j = i := by lia
   subst e
   have := zjE (t := (t : Int)) (a := 4) (by lia) (by lia) (hsc j (by lia)).1 (hsc j (by lia)).2 (by lia)
   lia
 rintro _ _ ⟨G, d3, s, s', h3, bG, rfl, rfl⟩
 simp! only []
 refine (zhq false (r := R) (by lia) (by lia)).mono ?_
 rintro _ rfl
 simp! only [↓ze4]
 refine (zaw h3 (m := 4) (by lia) (by lia)).mono ?_
 rintro _ ⟨w, d4, hw, h4, rfl⟩
 have hw' : ∃ t : Nat, t <= 24 /\ [D.int 0, D.int 1, D.int 3, D.int ((n + 1 - k : Nat) : Int)][w]? = some (.int t) := by
  have : w = 0 \/ w = 1 \/ w = 2 \/ w = 3 := by lia
  rcases this with rfl | rfl | rfl | rfl
  ·exact ⟨0, by lia, rfl⟩
  ·exact ⟨1, by lia, rfl⟩
  ·exact ⟨3, by lia, rfl⟩
  ·exact ⟨n + 1 - k, by lia, rfl⟩
 obtain ⟨t, ht, et⟩ := hw'
 simp! only [et]
 refine ⟨zaK (by lia) (by lia), lp_bend h4 (n + 1 - k) n t (by lia) (by lia) (by lia) ht _ _ _ _ _ _ _ _ _ _ _ _ ?_⟩
 intro d5 S a11 a12 h5
 simp! only []
 refine hQ (n + 1 - k) S L G d5 _ h5 ⟨k2, k5, by lia, by lia, by lia, fun p hp => ?_, fun p hp => ?_⟩
 ·have := bL p hp; have := bG p hp; lia
 ·have := bL p hp; have := bG p hp; lia
theorem line_ok (h : Pot ds) (k most wide : Nat) (k2 : 2 <= k) (k5 : k <= 5) (q1 : k <= most) (q2 : most <= 24) (w1 : 1 <= wide) (w2 : wide <= 5) :
  Ok (zcC ds [.int k, .int most, .int wide]) fun r => ∃ (s n : Nat) (S L G : Nat -> Int) (ds' : List D), Pot ds' /\ LineOk k s n L G /\ r = (.val (zaW k s n S L G), ds') := by
 simp! only [↓zcC, ↓zfM]
 refine (zaw h (m := (most : Int) - k + 1) (by lia) (by lia)).mono ?_
 rintro _ ⟨x, d1, hx, h1, rfl⟩
 simp! only []
 refine (zaw h1 (m := 4) (by lia) (by lia)).mono ?_
 rintro _ ⟨y, d2, hy, h2, rfl⟩
 have hy' : ∃ z : Int, (0 <= z /\ z <= 1000000000000000000000000000000000000000000000000000000000) /\ [D.int 1, D.int 1, D.int 1, D.int 1000000000000000000000000000000000000000000000000000000000][y]? = some (.int z) := by
  have : y = 0 \/ y = 1 \/ y = 2 \/ y = 3 := by lia
  rcases this with rfl | rfl | rfl | rfl <;> exact ⟨_, by decide, rfl⟩
 obtain ⟨great, hg, eg⟩ := hy'
 rw [show (k : Int) + (x : Int) = ((k + x : Nat) : Int) by lia]
 generalize hnn : k + x = n
 simp! only [eg, zkU]
 refine ⟨by lia, ?_⟩
 refine (zaw h2 (m := 4) (by lia) (by lia)).mono ?_
 rintro _ ⟨c, d3, hc, h3, rfl⟩
 simp! only []
 refine ⟨fun hz => ?_, fun hz => ?_⟩
 ·simp! only [↓zfc]
  refine ⟨zaK (by lia) (by lia), by lia, zel (fun i acc ρ => ∃ (f : Nat -> Int) (ds' : List D) (s : Sl), Pot ds' /\ Sc i f /\ acc = wI i f /\ ρ = [.val (.int great), .par ds', s]) ⟨fun _ => 0, d3, .emp, h3, fun _ h => by lia, rfl, rfl⟩ ?_ ?_⟩
  ·rintro i _ _ hi ⟨f, d4, s, h4, b, rfl, rfl⟩
   simp! only [↓zfm]
   refine (zaw h4 (m := 4) (by lia) (by lia)).mono ?_
   rintro _ ⟨t, d5, ht, h5, rfl⟩
   have ht' : ∃ z : Int, (0 <= z /\ z <= 1000000000000000000000000000000000000000000000000000000000) /\ [D.int 1, D.int 1000, D.int 1000000000000000000000000000000, D.int great][t]? = some (.int z) := by
    have : t = 0 \/ t = 1 \/ t = 2 \/ t = 3 := by lia
    rcases this with rfl | rfl | rfl | rfl
    ·exact ⟨_, by decide, rfl⟩
    ·exact ⟨_, by decide, rfl⟩
    ·exact ⟨_, by decide, rfl⟩
    ·exact ⟨_, hg, rfl⟩
   obtain ⟨z, hz, ez⟩ := ht'
   simp! only [ez]
   refine ⟨_, d5, _, h5, fun j hj => ?_, zeR i f _, rfl⟩
   split
   ·rename_i hji; exact b j hji
   ·exact hz
  rintro _ _ ⟨sc, d4, s, h4, b, rfl, rfl⟩
  simp! only []
  refine zjM h4 k most wide n k2 k5 (by lia) (by lia) w1 w2 great sc b fun s S L G d5 a h5 ok => ?_
  simp! only []
  exact ⟨s, n, S, L, G, d5, h5, ok, rfl⟩
 ·refine zjM h3 k most wide n k2 k5 (by lia) (by lia) w1 w2 great (fun _ => great) (fun _ _ => hg) fun s S L G d5 a h5 ok => ?_
  simp! only []
  exact ⟨s, n, S, L, G, d5, h5, ok, rfl⟩
theorem zlj (h : Pot ds) {S L G : Nat -> Int} (ok : LineOk k s n L G) :
  Ok (zbn ds [zaW k s n S L G]) fun r => ∃ (S L G : Nat -> Int) (ds' : List D), Pot ds' /\ LineOk k s n L G /\ r = (.val (zaW k s n S L G), ds') := by
 obtain ⟨k2, k5, kn, n24, hs, -, -⟩ := ok
 simp! only [↓zbn, ↓zcO, zaW]
 refine (zaw h (m := 2) (by lia) (by lia)).mono ?_
 rintro _ ⟨x, d1, hx, h1, rfl⟩
 have hx' : ∃ z : Int, (z = 9 \/ z = -9) /\ [D.int 9, D.int (-9)][x]? = some (.int z) := by
  have : x = 0 \/ x = 1 := by lia
  rcases this with rfl | rfl
  ·exact ⟨_, .inl rfl, rfl⟩
  ·exact ⟨_, .inr rfl, rfl⟩
 obtain ⟨z, hz, ez⟩ := hx'
 simp! only [ez, ↓zcX]
 refine ⟨zcJ (by lia), zbQ (fun i ρ => ∃ (ds' : List D) (S' : Nat -> Int) (s8 : Sl), Pot ds' /\ ρ = [.par ds', .val (zaW k s n S L G), .val (.int k), .val (.tup (wI s S)), .val (.tup (wI n L)), .val (.tup (wI n G)), .val (.int (z * 100000000000000000000000000000000000000000000000000000000000)), .own (wI i S'), s8]) ⟨d1, fun _ => 0, _, h1, rfl⟩ ?_ ?_⟩
 ·rintro i _ hi ⟨d2, S', s8, h2, rfl⟩
  simp! only [↓zc2]
  refine (zaw h2 (m := 3) (by lia) (by lia)).mono ?_
  rintro _ ⟨y, d3, hy, h3, rfl⟩
  have hy' : ∃ w : Int, w.natAbs < 10 /\ [D.int 0, D.int 9, D.int (-9)][y]? = some (.int w) := by
   have : y = 0 \/ y = 1 \/ y = 2 := by lia
   rcases this with rfl | rfl | rfl <;> exact ⟨_, by decide, rfl⟩
  obtain ⟨w, hw, ew⟩ := hy'
  simp! only [ew, zeR]
  exact ⟨zcJ (by lia), by lia, d3, _, _, h3, rfl⟩
 rintro _ ⟨d2, S', s8, h2, rfl⟩
 simp! only [↓zcZ]
 refine ⟨by lia, zaJ (fun ρ => ∃ s, ρ = [s]) (fun i => .int (L i % 1000000000)) ⟨_, rfl⟩ ?_ ?_⟩
 ·rintro i _ hi ⟨s, rfl⟩
  simp! only [↓zdf]
  exact ⟨_, rfl⟩
 rintro _ ⟨_, rfl⟩
 simp! only [↓zc5]
 refine ⟨by lia, zel (fun i acc ρ => ∃ (f : Nat -> Int) (ds' : List D) (s : Sl), Pot ds' /\ (∀ j, j < i -> L j % 1000000000 <= f j /\ f j <= L j % 1000000000 + 9) /\ acc = wI i f /\ ρ = [.par ds', s]) ⟨fun _ => 0, d2, .emp, h2, fun _ h => by lia, rfl, rfl⟩ ?_ ?_⟩
 ·rintro i _ _ hi ⟨f, d3, s, h3, b, rfl, rfl⟩
  simp! only [↓zc6]
  refine (zaw h3 (m := 9) (by lia) (by lia)).mono ?_
  rintro _ ⟨t, d4, ht, h4, rfl⟩
  simp! only []
  refine ⟨_, d4, _, h4, fun j hj => ?_, zeR i f _, rfl⟩
  split
  ·rename_i hji; exact b j hji
  ·have e : j = i := by lia
   subst e; lia
 rintro _ _ ⟨G', d3, s', h3, b, rfl, rfl⟩
 simp! only [↓zc4, ↓zdb]
 generalize z * 100000000000000000000000000000000000000000000000000000000000 = far
 refine ⟨by lia, zaJ (fun ρ => ∃ s, ρ = [.val (.int far), s]) (fun i => .int (far + L i % 1000000000)) ⟨_, rfl⟩ ?_ ?_⟩
 ·rintro i _ hi ⟨s, rfl⟩
  simp! only [↓zc3]
  exact ⟨_, rfl⟩
 rintro _ ⟨_, rfl⟩
 simp! only []
 refine ⟨by lia, zaJ (fun ρ => ∃ s, ρ = [.val (.int far), s]) (fun i => .int (far + G' i)) ⟨_, rfl⟩ ?_ ?_⟩
 ·rintro i _ hi ⟨s, rfl⟩
  simp! only [↓zc0]
  exact ⟨_, rfl⟩
 rintro _ ⟨_, rfl⟩
 simp! only []
 refine ⟨_, _, _, d3, h3, ⟨k2, k5, kn, n24, hs, fun p hp => ?_, fun p hp => ?_⟩, rfl⟩
 ·have := b p hp; lia
 ·have := b p hp; lia
theorem zj3 (h : Pot ds) :
  Ok (zbk ds []) fun r => ∃ (k s n : Nat) (S L G : Nat -> Int) (ds' : List D), Pot ds' /\ LineOk k s n L G /\ r = (.val (zaW k s n S L G), ds') := by
 simp! only [↓zbk, ↓zcE]
 refine (zaw h (m := 4) (by lia) (by lia)).mono ?_
 rintro _ ⟨x, d1, hx, h1, rfl⟩
 simp! only []
 refine (zaw h1 (m := 6) (by lia) (by lia)).mono ?_
 rintro _ ⟨y, d2, hy, h2, rfl⟩
 have hy' : ∃ w : Nat, 12 <= w /\ w <= 24 /\ [D.int 12, D.int 24][y / 5]? = some (.int w) := by
  have : y / 5 = 0 \/ y / 5 = 1 := by lia
  rcases this with e | e <;> rw [e]
  ·exact ⟨12, by lia, by lia, rfl⟩
  ·exact ⟨24, by lia, by lia, rfl⟩
 obtain ⟨w, hw, hw', ew⟩ := hy'
 have ey : (y : Int) / 5 = ((y / 5 : Nat) : Int) := by lia
 simp! only [ey, ew]
 refine ⟨zho (by lia) (by lia), ?_⟩
 refine (zaw h2 (m := 5) (by lia) (by lia)).mono ?_
 rintro _ ⟨v, d3, hv, h3, rfl⟩
 rw [show (2 : Int) + (x : Int) = ((2 + x : Nat) : Int) by lia]
 simp! only []
 rw [show (1 : Int) + (v : Int) = ((1 + v : Nat) : Int) by lia]
 refine (line_ok h3 (2 + x) w (1 + v) (by lia) (by lia) (by lia) (by lia) (by lia) (by lia)).mono ?_
 rintro _ ⟨s, n, S, L, G, d4, h4, ok, rfl⟩
 simp! only []
 refine (zaw h4 (m := 8) (by lia) (by lia)).mono ?_
 rintro _ ⟨u, d5, hu, h5, rfl⟩
 simp! only []
 refine ⟨fun _ => ?_, fun _ => ?_⟩
 ·refine (zlj h5 ok).mono ?_
  rintro _ ⟨S, L, G, d6, h6, ok, rfl⟩
  simp! only [↓zbL]
  exact ⟨_, _, _, _, _, _, _, h6, ok, rfl⟩
 ·simp! only [↓zbL]
  exact ⟨_, _, _, _, _, _, _, h5, ok, rfl⟩
noncomputable def kN : Nat -> Str
 | 0 => "sum"
 | 1 => "place"
 | _ => "cut"
noncomputable abbrev Gs := Nat × Int × Bool
noncomputable def gD (s : Gs) : D := .tup [.str (kN s.1), .int s.2.1, .bl s.2.2]
noncomputable def gS (s : Sp) : Gs := (if s.1 then 0 else 1, ((s.2.1 : Nat) : Int), s.2.2)
theorem gD_s (s : Sp) : gD (gS s) = sD s := by obtain ⟨b, i, u⟩ := s; cases b <;> rfl
noncomputable def wD : Option (List Gs) -> D
 | none => .non
 | some l => .lst (l.map gD)
noncomputable def toD (F : Int) (n : Nat) (r : Nat -> Int) (w : Option (List Gs)) : D := .tup [.int F, .tup (wI n r), wD w]
theorem zhA (h : Pot ds) (t : Bool) (xs : List D) : Ok (zbq ds [if t then .tup xs else .lst xs]) fun r => ∃ (u : Bool) (ds' : List D), Pot ds' /\ r = (.val (if u then .tup xs else .lst xs), ds') := by
 cases t <;>
 ·simp! only [↓zbq, ↓zdS]
  refine (zaw h (m := 2) (by lia) (by lia)).mono ?_
  rintro _ ⟨x, d1, hx, h1, rfl⟩
  have : x = 0 \/ x = 1 := by lia
  rcases this with rfl | rfl <;> simp! only []
  ·exact ⟨false, d1, h1, rfl⟩
  ·exact ⟨true, d1, h1, rfl⟩
theorem zfI (h : Pot ds) {k m n : Nat} {T L G : Nat -> Int} (n1 : 1 <= n) (n9 : n <= 900) : Ok (zaZ ds [zaW k m n T L G]) fun r => ∃ (s : Gs) (ds' : List D), Pot ds' /\ r = (.val (gD s), ds') := by
 simp! only [↓zaZ, ↓zcQ]
 refine (zaw h (m := 9) (by lia) (by lia)).mono ?_
 rintro _ ⟨x, d1, hx, h1, rfl⟩
 have hk : ∃ q, atI [D.str "sum", D.str "place", D.str "cut"] (min2 2 ((x : Int) / 4)) = some (.str (kN q)) := by
  have : x / 4 = 0 \/ x / 4 = 1 \/ x / 4 = 2 := by lia
  rcases this with e | e | e
  ·exact ⟨0, by rw [show (x : Int) / 4 = 0 by lia]; rfl⟩
  ·exact ⟨1, by rw [show (x : Int) / 4 = 1 by lia]; rfl⟩
  ·exact ⟨2, by rw [show (x : Int) / 4 = 2 by lia]; rfl⟩
 obtain ⟨q, hk⟩ := hk
 simp! only [hk]
 refine ⟨by decide, (zaw h1 (m := n) (by lia) (by lia)).mono ?_⟩
 rintro _ ⟨y, d2, hy, h2, rfl⟩
 simp! only []
 refine (zaw h2 (m := 8) (by lia) (by lia)).mono ?_
 rintro _ ⟨z, d3, hz, h3, rfl⟩
 have ha : ∃ v : Int, atI [D.int (y : Nat), D.int (m : Nat), D.int (n : Nat), D.int (-1)] (max2 0 ((z : Int) - 4)) = some (.int v) := by
  unfold max2
  have : z <= 4 \/ z = 5 \/ z = 6 \/ z = 7 := by lia
  rcases this with e | rfl | rfl | rfl
  ·exact ⟨_, by rw [if_neg (by lia)]; rfl⟩
  all_goals exact ⟨_, rfl⟩
 obtain ⟨v, ha⟩ := ha
 simp! only [ha]
 refine (zaw h3 (m := 2) (by lia) (by lia)).mono ?_
 rintro _ ⟨u, d4, hu, h4, rfl⟩
 simp! only []
 exact ⟨(q, v, _), d4, h4, rfl⟩
theorem pl_gD (s : Gs) : Pl 1 (gD s) := pl_tup fun d hd => by
 simp only [List.mem_cons, List.not_mem_nil, or_false] at hd
 rcases hd with rfl | rfl | rfl <;> exact ⟨rfl, Nat.zero_le _⟩
theorem pl_way (l : List Gs) : Pl 2 (.lst (l.map gD)) := zm0 fun d hd => by
 obtain ⟨s, _, rfl⟩ := List.mem_map.mp hd
 exact pl_gD s
theorem eq_nil (l : List Gs) : dEq (.lst (l.map gD)) (.lst []) = some (.bl l.isEmpty) := by
 have h := pl_way l
 have e : eqB (.lst (l.map gD)) (.lst []) = l.isEmpty := by cases l <;> rfl
 unfold dEq
 rw [if_pos (by simp [h.1, Nat.le_trans h.2 (by decide : 2 <= 50)]; rfl), e]
noncomputable def gA (l : List Gs) (i : Nat) : Gs := l.getD i (0, 0, true)
theorem zmk (h : i < l.length) : (l.map gD)[i]? = some (gD (gA l i)) := by
 rw [List.getElem?_map, List.getElem?_eq_getElem h]
 unfold gA
 rw [List.getD_eq_getElem?_getD, List.getElem?_eq_getElem h]; rfl
theorem way_w (l : List Gs) : l.map gD = wL l.length fun i => gD (gA l i) := by
 apply List.ext_getElem?
 intro i
 by_cases h : i < l.length
 ·rw [zmk h, zat _ h]
 ·rw [List.getElem?_eq_none (by simp; lia), List.getElem?_eq_none (by rw [zaS]; lia)]
noncomputable def gF (s : Gs) : Gs := (s.1, s.2.1, !s.2.2)
section
variable {ds : List D} {k m n : Nat} {T L G : Nat -> Int}
noncomputable def WayR (l : List Gs) (r : Sl × List D) : Prop := ∃ (l' : List Gs) (ds' : List D), Pot ds' /\ l'.length <= l.length + 200 /\ (r = (.val (.lst (l'.map gD)), ds') \/ r = (.own (l'.map gD), ds'))
theorem zeo {l l' : List Gs} (h : Pot ds') (hl : l'.length <= l.length + 200) (e : xs = l'.map gD) (ρ : R) : ∃ (r : Sl × List D) (ρ' : R), WayR l r /\ ((.ret (.val (.lst xs)), .par ds' :: ρ) : Fl × R) = (.ret r.1, .par r.2 :: ρ') :=
 ⟨(.val (.lst xs), ds'), ρ, ⟨l', ds', h, hl, .inl (by rw [e])⟩, rfl⟩
theorem way_rest (h : Pot ds) (l : List Gs) (c9 : l.length <= 2000) (n1 : 1 <= n) (n9 : n <= 900) (w : D) (a7 a8 a9 : Sl) (turn : Nat) (ht : turn < 8) :
  Ok (sSeq (sSet 5 (zau zal 0 (zad (m2 dAdd (zbY 3) (eC (.int 1))) aNil)))
  (sSeq (sIf (tOrM (tTru (m2 dEq (eVar 4) (eC (.int 0)))) (tTru (m2 dEq (eCut (eVar 3) (zbt (eVar 5)) pNo) (eFz (oLst aNil)))))
  (sRet (m2 dAdd (m2 dAdd (eCut (eVar 3) pNo (zbt (eVar 5))) (eFz (oLst (zad (zau zaZ 0 (zad (eVar 1) aNil)) aNil)))) (eCut (eVar 3) (zbt (eVar 5)) pNo)))
  zbg)
  zbI) [.par ds, .val (zaW k m n T L G), .val w, .val (.lst (l.map gD)), .val (.int turn), .emp, a7, a8, a9]) fun a => ∃ (r : Sl × List D) (ρ : R), WayR l r /\ a = (.ret r.1, .par r.2 :: ρ) := by
 simp! only []
 refine (zaw h (m := (l.length : Int) + 1) (by lia) (by lia)).mono ?_
 rintro _ ⟨x, d1, hx, h1, rfl⟩
 simp! only [zbi, zbJ, <- List.map_take, <- List.map_drop, eq_nil]
 refine ⟨fun _ => ?_, fun t0 => ⟨fun ie => ?_, fun ie => ?_⟩⟩
 ·refine (zfI h1 n1 n9).mono ?_
  rintro _ ⟨s, d2, h2, rfl⟩
  simp! only [zbi, zbJ, <- List.map_take, <- List.map_drop, List.length_take, List.length_drop]
  exact ⟨by lia, by lia, zeo h2 (l' := l.take x ++ [s] ++ l.drop x) (by simp; lia) (by simp) _⟩
 ·refine (zfI h1 n1 n9).mono ?_
  rintro _ ⟨s, d2, h2, rfl⟩
  simp! only [zbi, zbJ, <- List.map_take, <- List.map_drop, List.length_take, List.length_drop]
  exact ⟨by lia, by lia, zeo h2 (l' := l.take x ++ [s] ++ l.drop x) (by simp; lia) (by simp) _⟩
 have xl : x < l.length := by
  cases h : decide (x < l.length) with
  | true => exact of_decide_eq_true h
  | false => rw [List.drop_of_length_le (by have := of_decide_eq_false h; lia)] at ie; cases ie
 simp! only [↓zbI, zbi, zbJ, show ((x : Nat) : Int) + 1 = ((x + 1 : Nat) : Int) from rfl, <- List.map_take, <- List.map_drop, List.length_take, List.length_drop]
 refine ⟨fun _ => ?_, fun t1 => ?_⟩
 ·exact ⟨by lia, zeo h1 (l' := l.take x ++ l.drop (x + 1)) (by simp; lia) (by simp) _⟩
 simp! only [↓zdd, zbi, zbJ, <- List.map_take, <- List.map_drop, List.length_take, List.length_drop]
 refine ⟨fun _ => ?_, fun t2 => ?_⟩
 ·exact ⟨by lia, zeo h1 (l' := l.drop x ++ l.take x) (by simp; lia) (by simp) _⟩
 simp! only [↓zc1]
 refine ⟨fun _ => ?_, fun t3 => ?_⟩
 ·simp! only [↓zcY, <- List.map_reverse]
  rw [way_w l.reverse]
  refine ⟨by simp; lia, zaJ (fun ρ => ∃ b0 b1 b2, ρ = [b0, b1, b2]) (fun i => gD (gF (gA l.reverse i))) ⟨_, _, _, rfl⟩ ?_ ?_⟩
  ·rintro i _ hi ⟨b0, b1, b2, rfl⟩
   simp! only [↓zc9, gD]
   exact ⟨rfl, _, _, _, rfl⟩
  ·rintro _ ⟨b0, b1, b2, rfl⟩
   simp! only []
   refine ⟨(.own _, d1), _, ⟨l.reverse.map gF, d1, h1, by simp, .inr ?_⟩, rfl⟩
   rw [show l.reverse.map gF = (List.range l.reverse.length).map fun i => gF (gA l.reverse i) from ?_, List.map_map]
   ·rfl
   ·apply List.ext_getElem?
    intro i
    by_cases h : i < l.reverse.length
    ·rw [List.getElem?_map, List.getElem?_map, List.getElem?_range h, List.getElem?_eq_getElem h]
     unfold gA
     rw [Option.map_some, Option.map_some, List.getD_eq_getElem?_getD, List.getElem?_eq_getElem h]; rfl
    ·rw [List.getElem?_eq_none (by simp at h ⊢; lia), List.getElem?_eq_none (by simp at h ⊢; lia)]
 have hgx : (l.map gD)[x]? = some (.tup [.str (kN (gA l x).1), .int (gA l x).2.1, .bl (gA l x).2.2]) := zmk xl
 simp! only [↓zdh, hgx]
 refine ⟨fun _ => ?_, fun t4 => ?_⟩
 ·refine (zaw h1 (m := 2) (by lia) (by lia)).mono ?_
  rintro _ ⟨y, d2, hy, h2, rfl⟩
  simp! only [zbi, zbJ, show ((x : Nat) : Int) + 1 = ((x + 1 : Nat) : Int) from rfl, <- List.map_take, <- List.map_drop, List.length_take, List.length_drop]
  exact ⟨zcJ (by decide), by lia, by lia, zeo h2 (l' := l.take x ++ [((gA l x).1, (gA l x).2.1 + 1 - 2 * (y : Int), (gA l x).2.2)] ++ l.drop (x + 1)) (by simp; lia) (by simp [gD]) _⟩
 simp! only [↓zdg, hgx]
 refine ⟨fun _ => ?_, fun t5 => ?_⟩
 ·simp! only [zbi, zbJ, <- List.map_take, <- List.map_drop, List.length_take, List.length_drop]
  exact ⟨by lia, by lia, zeo h1 (l' := l.take x ++ [gA l x, gF (gA l x)] ++ l.drop x) (by simp; lia) (by simp [gD, gF]) _⟩
 simp! only [↓zc7]
 refine ⟨fun _ => ?_, fun t6 => ?_⟩
 ·rw [show (200 : Int) = ((200 : Nat) : Int) from rfl, zbi]
  exact ⟨by lia, zeo h1 (l' := (l ++ l).take 200) (by simp; lia) (by simp) _⟩
 simp! only [↓zc8, zbi, zbJ, <- List.map_take, <- List.map_drop]
 refine (zfI h1 n1 n9).mono ?_
 rintro _ ⟨s, d2, h2, rfl⟩
 simp! only [zbi, zbJ, show ((x : Nat) : Int) + 1 = ((x + 1 : Nat) : Int) from rfl, <- List.map_take, <- List.map_drop, List.length_take, List.length_drop]
 exact ⟨by lia, by lia, zeo h2 (l' := l.take x ++ [s] ++ l.drop (x + 1)) (by simp; lia) (by simp) _⟩
theorem zjY (h : Pot ds) (w : Option (List Gs)) (c9 : (w.getD []).length <= 2000) (n1 : 1 <= n) (n9 : n <= 900) : Ok (za9 ds [zaW k m n T L G, wD w]) (WayR (w.getD [])) := by
 have e : eFz (oC zaN (zad (eOrW (eVar 2) (eFz (oLst aNil))) aNil)) [.par ds, .val (zaW k m n T L G), .val (wD w), .emp, .emp, .emp, .emp, .emp, .emp] = some (.lst ((w.getD []).map gD), [.par ds, .val (zaW k m n T L G), .val (wD w), .emp, .emp, .emp, .emp, .emp, .emp]) := by
  cases w with
  | none => rfl
  | some l => cases l <;> rfl
 simp! only [↓za9]
 unfold zcw
 rw [zkg, zlA, e]
 simp only [ok_bind, ok_some, ok_map, zhg]
 rw [zkg]
 simp! only []
 refine (zaw h (m := 8) (by lia) (by lia)).mono ?_
 rintro _ ⟨x, d1, hx, h1, rfl⟩
 simp only [ok_some, zhg, List.set_cons_succ, List.set_cons_zero]
 refine (way_rest h1 (w.getD []) c9 n1 n9 (wD w) .emp .emp .emp x (by lia)).mono ?_
 rintro _ ⟨r, ρ, hr, rfl⟩
 simp! only []
 exact hr
end
section
variable {ds : List D} {k m n : Nat} {T L G : Nat -> Int}
theorem inner_ok (h : Pot ds) (ok : LineOk k m n L G) : Ok (zbf ds [zaW k m n T L G]) fun r => ∃ (r' : Nat -> Int) (ds' : List D), Pot ds' /\ r = (.own (wI n r'), ds') := by
 have n24 := ok.n24
 simp! only [↓zbf, ↓zcf, ↓zcP, zaW, zgy]
 refine zbQ (fun i ρ => ∃ (ds' : List D) (r' : Nat -> Int) (a3 a4 : Sl), Pot ds' /\ ρ = [.par ds', .val (zaW k m n T L G), .own (wI i r'), a3, a4]) ⟨ds, fun _ => 0, _, _, h, rfl⟩ ?_ ?_
 ·rintro i _ hi ⟨d1, r', a3, a4, h1, rfl⟩
  have e1 := ok.le i hi
  have e2 := ok.far i hi
  simp! only [↓zcA]
  refine (zaw h1 (m := G i - L i + 1) (by lia) (by lia)).mono ?_
  rintro _ ⟨x, d2, hx, h2, rfl⟩
  simp! only []
  refine (zaw h2 (m := 3) (by lia) (by lia)).mono ?_
  rintro _ ⟨y, d3, hy, h3, rfl⟩
  have hy' : ∃ w : Int, [D.int (L i), D.int (G i), D.int (L i + (x : Int))][y]? = some (.int w) := by
   have : y = 0 \/ y = 1 \/ y = 2 := by lia
   rcases this with rfl | rfl | rfl <;> exact ⟨_, rfl⟩
  obtain ⟨w, ew⟩ := hy'
  simp! only [ew, zeR]
  exact ⟨by lia, d3, _, _, _, h3, rfl⟩
 rintro _ ⟨d1, r', a3, a4, h1, rfl⟩
 simp! only []
 exact ⟨r', d1, h1, rfl⟩
theorem zlF (bb : Nat -> Bool) : ∀ l : List Nat, l.filterMap (fun i => if bb i then some (D.int ((i : Nat) : Int)) else none) = (l.filter bb).map fun i => D.int ((i : Nat) : Int)
 | [] => rfl
 | i :: l => by
  cases h : bb i <;> simp [List.filterMap_cons, List.filter_cons, h, zlF bb l]
theorem inT (j : Int) (ns : List Int) : dIn (.int j) (.tup (ns.map .int)) = some (.bl (ns.contains j)) := inL j ns
theorem zg8 (n : Nat) (f : Nat -> Int) (a b : Option Int) : ∃ ns : List Int, ns.length <= n /\ cutD (wI n f) a b = ns.map D.int := by
 unfold cutD
 rw [zmm]
 refine ⟨_, ?_, by rw [<- List.map_drop, <- List.map_take]⟩
 simp only [List.length_take, List.length_drop, List.length_map, List.length_range]
 lia
theorem pair_ok (h : Pot ds) (ok : LineOk k m n L G) (n1 : 1 <= n') (n2 : n' <= n + 1) : Ok (za8 ds [zaW k m n T L G, .tup (wI n' r)]) fun x => ∃ (r' : Nat -> Int) (ds' : List D), Pot ds' /\ x = (.own (wI n' r'), ds') := by
 have n24 := ok.n24
 have hb : ∀ i : Nat, ∃ b, dIn (.int (r i)) (.tup (cutD (wI n L) (some ((i : Nat) : Int)) (some (((i : Nat) : Int) + 1)) ++ cutD (wI n G) (some ((i : Nat) : Int)) (some (((i : Nat) : Int) + 1)))) = some (.bl b) := fun i => by
  obtain ⟨a, _, ea⟩ := zg8 n L (some ((i : Nat) : Int)) (some (((i : Nat) : Int) + 1))
  obtain ⟨b, _, eb⟩ := zg8 n G (some ((i : Nat) : Int)) (some (((i : Nat) : Int) + 1))
  rw [ea, eb, <- List.map_append]
  exact ⟨_, inT ..⟩
 obtain ⟨bb, hbb⟩ := Classical.axiomOfChoice hb
 simp! only [↓za8, ↓zbW, ↓zcp]
 refine ⟨zaK (by lia) (by lia), by lia, zjd (fun ρ => ∃ a, ρ = [.val (.tup (wI n' r)), .val (zaW k m n T L G), a]) (fun i => if bb i then some (.int (i : Nat)) else none) ⟨_, rfl⟩ ?_ ?_⟩
 ·rintro i _ hi ⟨a, rfl⟩
  simp! only [↓zcq, zaW, zat _ hi]
  obtain ⟨a, la, ea⟩ := zg8 n L (some ((i : Nat) : Int)) (some (((i : Nat) : Int) + 1))
  obtain ⟨b, lb, eb⟩ := zg8 n G (some ((i : Nat) : Int)) (some (((i : Nat) : Int) + 1))
  refine ⟨by rw [ea, eb, List.length_map, List.length_map]; lia, ?_⟩
  rw [hbb i]
  simp! only [↓zch]
  exact ⟨fun z => ⟨by rw [if_pos z], _, rfl⟩, fun z => ⟨by rw [z]; rfl, _, rfl⟩⟩
 rintro _ ⟨a, rfl⟩
 rw [zlF]
 generalize hI : (List.range n').filter bb = js
 have jl : ∀ j ∈ js, j < n' := fun j hj => by rw [<- hI] at hj; exact List.mem_range.mp (List.mem_filter.mp hj).1
 have jn : js.length <= n' := by rw [<- hI]; exact Nat.le_trans (List.length_filter_le _ _) (by simp)
 have hc : ∃ ks : List Nat, 1 <= ks.length /\ ks.length <= n' + 1 /\ (∀ j ∈ ks, j < n') /\ cutD (js.map (fun i => D.int ((i : Nat) : Int)) ++ [D.int 0]) none (some (max2 1 (js.length : Int))) = ks.map fun i => D.int ((i : Nat) : Int) := by
  refine ⟨(js ++ [0]).take (max 1 js.length), by simp; lia, by simp; lia, fun j hj => ?_, ?_⟩
  ·have := List.mem_of_mem_take hj
   rcases List.mem_append.mp this with z | z
   ·exact jl j z
   ·have : j = 0 := by simpa using z
    lia
  ·rw [show max2 1 (js.length : Int) = ((max 1 js.length : Nat) : Int) by unfold max2; split <;> lia, zbi, List.map_take, List.map_append]; rfl
 obtain ⟨ks, k1, k2, kl, hc⟩ := hc
 simp! only [hc]
 refine ⟨by lia, (zaw h (m := (ks.length : Int)) (by lia) (by lia)).mono ?_⟩
 rintro _ ⟨x, d1, hx, h1, rfl⟩
 have xl : x < ks.length := by lia
 have hg : (ks.map fun i => D.int ((i : Nat) : Int))[x]? = some (.int ((ks[x] : Nat) : Int)) := by rw [List.getElem?_map, List.getElem?_eq_getElem xl]; rfl
 have at1 : ks[x] < n' := kl _ (List.getElem_mem xl)
 generalize ks[x] = at' at hg at1
 simp! only [hg, zaW]
 refine (zaw h1 (m := 2) (by lia) (by lia)).mono ?_
 rintro _ ⟨y, d2, hy, h2, rfl⟩
 have he : ∃ z : Int, (wI n L ++ [D.int 0])[at']? = some (.int z) := by
  by_cases q : at' < n
  ·rw [List.getElem?_append_left (by rw [zaS]; exact q), zat _ q]; exact ⟨_, rfl⟩
  ·rw [List.getElem?_append_right (by rw [zaS]; lia), zaS, show at' - n = 0 by lia]; exact ⟨_, rfl⟩
 obtain ⟨z, he⟩ := he
 have hcut : cutD (wI n' r) (some ((at' : Nat) : Int)) (some (((at' : Nat) : Int) + 1)) = wL 1 fun i => .int (r (at' + i)) := cut_w (b := 1) _ (by lia)
 simp! only [he, zat _ at1, ↓zci, hcut]
 refine ⟨zcJ (by decide), zhm (by lia), by lia, zcJ (by decide), ?_⟩
 generalize hmo : (1 - 2 * if r at' = z then (1 : Int) else 0) = more
 refine zaJ (fun ρ => ∃ a, ρ = [.val (.int more), a]) (fun i => .int (r (at' + i) + more)) ⟨_, rfl⟩ ?_ ?_
 ·rintro i _ hi ⟨a, rfl⟩
  simp! only [↓zcj]
  exact ⟨_, rfl⟩
 rintro _ ⟨a, rfl⟩
 have hset : List.take at' (wI n' r) ++ wL 1 (fun i => D.int (r (at' + i) + more)) ++ List.drop (at' + 1) (wI n' r) = wI n' fun j => if j = at' then r at' + more else r j := by
  rw [<- zkY _ _ at1, List.set_eq_take_append_cons_drop, if_pos (by rw [zaS]; exact at1)]
  simp [wL]
 simp! only [show ((at' : Nat) : Int) + 1 = ((at' + 1 : Nat) : Int) from rfl, Int.toNat_natCast, hset]
 generalize hot : ((at' : Nat) : Int) + (k : Int) * (1 - 2 * (y : Int)) = ot
 refine ⟨⟨⟨⟨by lia, by lia⟩, by lia⟩, by lia⟩, fun z0 => ⟨fun z1 => ?_, fun z1 => ?_⟩, fun z0 => ?_⟩
 ·obtain ⟨o, rfl⟩ := Int.eq_ofNat_of_zero_le z0
  have o1 : o < n' := by lia
  simp! only [zat _ o1, zkY _ _ o1, ↓za5]
  exact ⟨o1, _, d2, h2, rfl⟩
 ·simp! only [↓za5]
  exact ⟨_, d2, h2, rfl⟩
 ·simp! only [↓za5]
  exact ⟨_, d2, h2, rfl⟩
end
section
variable {ds : List D} {k m n : Nat} {T L G : Nat -> Int}
noncomputable def Told (n j : Nat) (d : D) : Prop := ∃ (F : Int) (n' : Nat) (r : Nat -> Int) (w : Option (List Gs)), n <= n' + j /\ n' <= n + j /\ (w.getD []).length <= 1000 + 200 * j /\ d = toD F n' r w
theorem zkz (n : Nat) (f : Nat -> D) : cutD (wL (n + 1) f) none (some (-1)) = wL n f := by
 unfold cutD
 have e : HT.sIx (wL (n + 1) f).length (wL (n + 1) f).length (some (-1)) = n := by
  rw [zaS]
  show (if (-1 : Int) < 0 then (-1 + ((n + 1 : Nat) : Int)).toNat else min (-1 : Int).toNat (n + 1)) = n
  rw [if_pos (by decide)]; lia
 rw [e, HT.zii, List.drop_zero, Nat.sub_zero, zd1, List.take_append_of_le_length (by rw [zaS]; lia), List.take_of_length_le (by rw [zaS]; lia)]
theorem bent_ok (h : Pot ds) (ok : LineOk k m n L G) (j1 : j <= 1) {d : D} (ht : Told n j d) : Ok (zcW ds [zaW k m n T L G, d]) fun x => ∃ (d' : D) (ds' : List D), Pot ds' /\ Told n (j + 1) d' /\ x = (.val d', ds') := by
 have n24 := ok.n24
 have k2 := ok.k2
 have kn := ok.kn
 obtain ⟨F, n', r, w, a1, a2, c9, rfl⟩ := ht
 have n1 : 1 <= n' := by lia
 simp! only [↓zcW, ↓zfO, toD]
 refine (zaw h (m := 6) (by lia) (by lia)).mono ?_
 rintro _ ⟨x, d1, hx, h1, rfl⟩
 have : x = 0 \/ x = 1 \/ x = 2 \/ x = 3 \/ x = 4 \/ x = 5 := by lia
 have c1 : ((1 : Nat) : Int) = 1 := rfl
 have c2 : ((2 : Nat) : Int) = 2 := rfl
 have c3 : ((3 : Nat) : Int) = 3 := rfl
 have c4 : ((4 : Nat) : Int) = 4 := rfl
 have c5 : ((5 : Nat) : Int) = 5 := rfl
 have wy : ∀ (x : Int) (d1 : List D), Pot d1 -> (x = 4 \/ x = 5) -> Ok (za9 d1 [zaW k m n T L G, wD w]) (WayR (w.getD [])) := fun x d1 h1 _ => zjY h1 w (by lia) (by lia) (by lia)
 rcases this with rfl | rfl | rfl | rfl | rfl | rfl
 ·simp! only [Int.natCast_zero, ↓zaC, ↓zaF, ↓zaE, ↓zaA, ↓zaB]
  refine (zaw h1 (m := 4) (by lia) (by lia)).mono ?_
  rintro _ ⟨y, d2, hy, h2, rfl⟩
  have hy' : ∃ v : Int, [D.int 1, D.int (-1), D.int (-F - 1), D.int 100000000000000000000000000000000000000000000000000000000000][y]? = some (.int v) := by
   have : y = 0 \/ y = 1 \/ y = 2 \/ y = 3 := by lia
   rcases this with rfl | rfl | rfl | rfl <;> exact ⟨_, rfl⟩
  obtain ⟨v, ev⟩ := hy'
  simp! only [ev, Int.natCast_zero, ↓zaC, ↓zaF, ↓zaE, ↓zaA, ↓zaB]
  exact ⟨_, d2, h2, ⟨F + v, n', r, w, by lia, by lia, by lia, rfl⟩, rfl⟩
 ·simp! only [c1, ↓zaC, ↓zaF, ↓zaE, ↓zaA, ↓zaB]
  refine (inner_ok h1 ok).mono ?_
  rintro _ ⟨r', d2, h2, rfl⟩
  simp! only [c1, ↓zaC, ↓zaF, ↓zaE, ↓zaA, ↓zaB]
  exact ⟨_, d2, h2, ⟨F, n, r', w, by lia, by lia, by lia, rfl⟩, rfl⟩
 ·simp! only [c2, ↓zaC, ↓zaF, ↓zaE, ↓zaA, ↓zaB]
  refine (zaw h1 (m := n') (by lia) (by lia)).mono ?_
  rintro _ ⟨y, d2, hy, h2, rfl⟩
  have y1 : y < n' := by lia
  simp! only [zat _ y1]
  refine (zaw h2 (m := 3) (by lia) (by lia)).mono ?_
  rintro _ ⟨u, d3, hu, h3, rfl⟩
  have hu' : ∃ v : Int, [D.int 1, D.int (-1), D.int 100000000000000000000000000000000000000000000000000000000000][u]? = some (.int v) := by
   have : u = 0 \/ u = 1 \/ u = 2 := by lia
   rcases this with rfl | rfl | rfl <;> exact ⟨_, rfl⟩
  obtain ⟨v, ev⟩ := hu'
  simp! only [ev, zkY _ _ y1, c2, ↓zaC, ↓zaF, ↓zaE, ↓zaA, ↓zaB]
  exact ⟨y1, _, d3, h3, ⟨F, n', _, w, by lia, by lia, by lia, rfl⟩, rfl⟩
 ·simp! only [c3, ↓zaC, ↓zaF, ↓zaE, ↓zaA, ↓zaB]
  refine (pair_ok h1 ok n1 (by lia)).mono ?_
  rintro _ ⟨r', d2, h2, rfl⟩
  obtain ⟨q, rfl⟩ : ∃ q, n' = q + 1 := ⟨n' - 1, by lia⟩
  simp! only [zkz]
  refine ⟨by lia, (zaw h2 (m := 4) (by lia) (by lia)).mono ?_⟩
  rintro _ ⟨u, d3, hu, h3, rfl⟩
  have : u = 0 \/ u = 1 \/ u = 2 \/ u = 3 := by lia
  rcases this with rfl | rfl | rfl | rfl <;> simp! only [zeR, c3, ↓zaC, ↓zaF, ↓zaE, ↓zaA, ↓zaB]
  ·rw [zkz]; exact ⟨_, d3, h3, ⟨F, q, r, w, by lia, by lia, by lia, rfl⟩, rfl⟩
  ·exact ⟨_, d3, h3, ⟨F, q + 1 + 1, _, w, by lia, by lia, by lia, rfl⟩, rfl⟩
  ·exact ⟨_, d3, h3, ⟨F, q + 1, r', w, by lia, by lia, by lia, rfl⟩, rfl⟩
  ·exact ⟨_, d3, h3, ⟨F, q + 1, r', w, by lia, by lia, by lia, rfl⟩, rfl⟩
 all_goals
  simp! only [c4, c5, ↓zaC, ↓zaF, ↓zaE, ↓zaA, ↓zaB]
  refine (wy 4 d1 h1 (.inl rfl)).mono ?_
  rintro _ ⟨l, d2, h2, hl, rfl | rfl⟩ <;>
  ·simp! only []
   refine (zaw h2 (m := 8) (by lia) (by lia)).mono ?_
   rintro _ ⟨u, d3, hu, h3, rfl⟩
   simp! only [↓zaC, ↓zaF, ↓zaE, ↓zaA, ↓zaB]
   refine ⟨fun _ => ?_, fun _ => ?_⟩
   ·exact ⟨_, d3, h3, ⟨F, n', r, none, by lia, by lia, by simp, rfl⟩, rfl⟩
   ·exact ⟨_, d3, h3, ⟨F, n', r, some l, by lia, by lia, by show l.length <= _; lia, rfl⟩, rfl⟩
end
section
variable {k m n : Nat} {T L G : Nat -> Int} {F : Int}
noncomputable def Vld (m n : Nat) (s : Gs) : Prop := s.1 < 2 /\ 0 <= s.2.1 /\ s.2.1 < ((cnt m n (decide (s.1 = 0)) : Nat) : Int)
instance (m n : Nat) (s : Gs) : Decidable (Vld m n s) := by unfold Vld; infer_instance
noncomputable def toS (s : Gs) : Sp := (decide (s.1 = 0), s.2.1.toNat, s.2.2)
theorem Vld.sD {s : Gs} (v : Vld m n s) : gD s = sD (toS s) := by
 obtain ⟨a, i, u⟩ := s
 obtain ⟨h1, h2, h3⟩ := v
 have h1 : a < 2 := h1
 have h2 : 0 <= i := h2
 have : a = 0 \/ a = 1 := by lia
 rcases this with rfl | rfl
 ·show D.tup [.str "sum", .int i, .bl u] = .tup [.str "sum", .int ((i.toNat : Nat) : Int), .bl u]
  rw [Int.toNat_of_nonneg h2]
 ·show D.tup [.str "place", .int i, .bl u] = .tup [.str "place", .int ((i.toNat : Nat) : Int), .bl u]
  rw [Int.toNat_of_nonneg h2]
theorem Vld.lt {s : Gs} (v : Vld m n s) : (toS s).2.1 < cnt m n (toS s).1 := by
 obtain ⟨h1, h2, h3⟩ := v
 show s.2.1.toNat < _
 have : (toS s).1 = decide (s.1 = 0) := rfl
 rw [this]; lia
theorem zlp (s : Gs) : Ok (zez [zaW k m n T L G, gD s]) fun x => ∃ b, x = .val (.bl b) /\ (b = true ↔ Vld m n s) := by
 obtain ⟨a, i, u⟩ := s
 simp! only [↓zez, ↓zhk, gD]
 have : a = 0 \/ a = 1 \/ 2 <= a := by lia
 rcases this with rfl | rfl | h
 ·rw [show dIn (.str (kN 0)) (.tup [.str "sum", .str "place"]) = some (.bl true) from rfl]
  simp! only []
  refine ⟨fun h0 => (zj0 true).mono ?_, fun h0 => ⟨false, rfl, by simp [Vld]; lia⟩⟩
  rintro _ rfl
  simp! only []
  exact ⟨_, rfl, by simp [Vld]; lia⟩
 ·rw [show dIn (.str (kN 1)) (.tup [.str "sum", .str "place"]) = some (.bl true) from rfl]
  simp! only []
  refine ⟨fun h0 => (zj0 false).mono ?_, fun h0 => ⟨false, rfl, by simp [Vld]; lia⟩⟩
  rintro _ rfl
  simp! only []
  exact ⟨_, rfl, by simp [Vld]; lia⟩
 ·obtain ⟨b, rfl⟩ : ∃ b, a = b + 2 := ⟨a - 2, by lia⟩
  rw [show dIn (.str (kN (b + 2))) (.tup [.str "sum", .str "place"]) = some (.bl false) from rfl]
  simp! only []
  exact ⟨false, rfl, by simp [Vld]; lia⟩
theorem zl4 (c1 : 1 <= c) (f : Nat -> D) : cutD (wL c f) (some 1) none ++ cutD (wL c f) none (some 1) = wL c fun i => f (if i + 1 = c then 0 else i + 1) := by
 rw [show (1 : Int) = ((1 : Nat) : Int) from rfl, zbJ, zbi]
 apply List.ext_getElem?
 intro i
 by_cases h : i + 1 < c
 ·rw [List.getElem?_append_left (by rw [List.length_drop, zaS]; lia), List.getElem?_drop, zat _ (show 1 + i < c by lia), zat _ (by lia), if_neg (by lia), Nat.add_comm]
 ·rw [List.getElem?_append_right (by rw [List.length_drop, zaS]; lia), List.length_drop, zaS]
  by_cases e : i + 1 = c
  ·rw [show i - (c - 1) = 0 by lia, List.getElem?_take_of_lt (by lia), zat _ (by lia), zat _ (by lia), if_pos e]
  ·rw [List.getElem?_eq_none (by rw [List.length_take, zaS]; lia), List.getElem?_eq_none (by rw [zaS]; lia)]
theorem dEq_wl (s : Nat) (a b : Nat -> Int) : ∃ t, dEq (.lst (wI s a)) (.lst (wI s b)) = some (.bl t) /\ (t = true ↔ ∀ i, i < s -> a i = b i) := by
 have p1 : Pl 1 (.lst (wI s a)) := zm0 (pl_w fun c => pl_int 0 _)
 have p2 : Pl 1 (.lst (wI s b)) := zm0 (pl_w fun c => pl_int 0 _)
 refine ⟨eqW s a b, ?_, ?_⟩
 ·unfold dEq
  rw [p1.1, p2.1, decide_eq_true (Nat.le_trans p1.2 (by decide : 1 <= 50))]
  simp only [Bool.and_self, if_true, eqB]
  rw [zmm, zmm, zkS]; rfl
 ·unfold eqW
  rw [beq_iff_eq]
  constructor
  ·intro h i hi
   have := congrArg (fun l => l[i]?) h
   simpa [hi] using this
  ·intro h
   exact List.map_congr_left fun i hi => h i (List.mem_range.mp hi)
noncomputable def Clo (k : Nat) (T L G : Nat -> Int) (c : Nat) (st : Nat -> Sp) : Prop := ∀ i, i < c -> (spw k T L G (st i)).2.1 = (spw k T L G (st (if i + 1 = c then 0 else i + 1))).1
noncomputable def WayT (k m n : Nat) (T L G : Nat -> Int) (F : Int) (l : List Gs) : Prop := l ≠ [] /\ (∀ i, i < l.length -> Vld m n (gA l i)) /\ Clo k T L G l.length (fun i => toS (gA l i)) /\ (F - 1) * ziw l.length (fun i => toS (gA l i)) < zje k T L G l.length (fun i => toS (gA l i))
theorem zl9 {st : Nat -> Sp} (c1 : 1 <= c) (c9 : c <= 3000) : Ok (zcG [.lst (wL c fun i => tD (spw k T L G (st i)))]) fun x => ∃ b, x = .val (.bl b) /\ (b = true ↔ Clo k T L G c st) := by
 simp! only [↓zcG, ↓zfC, ↓zfh]
 refine ⟨by lia, zaJ (fun ρ => ∃ a b d, ρ = [a, b, d]) (fun i => .int ((spw k T L G (st i)).2.1 : Nat)) ⟨_, _, _, rfl⟩ ?_ ?_⟩
 ·rintro i _ hi ⟨a, b, d, rfl⟩
  simp! only [↓ze1, tD]
  exact ⟨_, _, _, rfl⟩
 rintro _ ⟨a, b, d, rfl⟩
 simp! only [↓zfn, zl4 c1]
 have hl : (cutD (wL c fun i => tD (spw k T L G (st i))) (some 1) none).length + (cutD (wL c fun i => tD (spw k T L G (st i))) none (some 1)).length = c := by
  rw [<- List.length_append, zl4 c1, zaS]
 refine ⟨by lia, by lia, zaJ (fun ρ => ∃ a b d, ρ = [a, b, d]) (fun i => .int ((spw k T L G (st (if i + 1 = c then 0 else i + 1))).1 : Nat)) ⟨_, _, _, rfl⟩ ?_ ?_⟩
 ·rintro i _ hi ⟨a, b, d, rfl⟩
  simp! only [↓zfo, tD]
  exact ⟨_, _, _, rfl⟩
 rintro _ ⟨a, b, d, rfl⟩
 obtain ⟨z, ez, hz⟩ := dEq_wl c (fun i => ((spw k T L G (st i)).2.1 : Nat)) (fun i => ((spw k T L G (st (if i + 1 = c then 0 else i + 1))).1 : Nat))
 simp! only [ez]
 refine ⟨z, rfl, hz.trans ?_⟩
 exact forall_congr' fun i => imp_congr Iff.rfl (by lia)
theorem sq_it (t : Bool) (xs : List D) : zaN [if t then .tup xs else .lst xs] = some xs := by cases t <;> rfl
theorem cnt_fm (p : Nat -> Bool) (g : Nat -> D) : ∀ c, (((List.range c).filterMap fun i => if p i then some (g i) else none).length : Int) = sumR c fun i => if p i then 1 else 0
 | 0 => rfl
 | c + 1 => by
  have ih := cnt_fm p g c
  rw [List.range_succ, List.filterMap_append, List.length_append]
  show _ = sumR c (fun i => if p i then 1 else 0) + if p c then 1 else 0
  cases h : p c <;> simp [h] <;> lia
theorem zjB (t : Bool) (l : List Gs) (c9 : l.length <= 2000) : Ok (zcN [zaW k m n T L G, .int F, if t then .tup (l.map gD) else .lst (l.map gD)]) fun x => ∃ b, x = .val (.bl b) /\ (b = true ↔ WayT k m n T L G F l) := by
 have ek := way_w l
 generalize hc : l.length = c at ek c9
 generalize hst : (fun i => gA l i) = st
 have hA : ∀ i, gA l i = st i := fun i => by rw [<- hst]
 have e2 : l.map gD = wL c fun i => gD (st i) := by rw [ek]; simp only [hA]
 rw [e2]
 have wt : WayT k m n T L G F l ↔ c ≠ 0 /\ (∀ i, i < c -> Vld m n (st i)) /\ Clo k T L G c (fun i => toS (st i)) /\ (F - 1) * ziw c (fun i => toS (st i)) < zje k T L G c (fun i => toS (st i)) := by
  unfold WayT
  rw [hc]
  simp only [hA]
  refine and_congr ?_ Iff.rfl
  rw [<- hc]; simp
 have lp1 : ∀ (Q : List D × R -> Prop), (∀ ρ, Q (wL c fun i => .bl (decide (Vld m n (st i))), ρ)) -> Ok (zcV (zhb (gN 1) zbh zdm) (wL c fun i => gD (st i)) [.val (zaW k m n T L G), .emp]) Q := fun Q hQ => by
  refine zaJ (fun ρ => ∃ a, ρ = [.val (zaW k m n T L G), a]) (fun i => .bl (decide (Vld m n (st i)))) ⟨_, rfl⟩ ?_ fun ρ _ => hQ ρ
  rintro i _ hi ⟨a, rfl⟩
  simp! only [↓zdm]
  refine (zlp (st i)).mono ?_
  rintro _ ⟨b, rfl, hb⟩
  simp! only []
  refine ⟨?_, _, rfl⟩
  rw [show b = decide (Vld m n (st i)) from Bool.eq_iff_iff.mpr (hb.trans (by simp))]
 have rest : ∀ (d : D), (d = .lst (wL c fun i => gD (st i)) \/ d = .tup (wL c fun i => gD (st i))) -> 1 <= c -> (∀ i, i < c -> Vld m n (st i)) -> ∀ (a3 a4 a5 : Sl), Ok (zds [.val (zaW k m n T L G), .val (.int F), .val d, a3, a4, a5]) fun a => ∃ b ρ, a = (.ret (.val (.bl b)), ρ) /\ (b = true ↔ Clo k T L G c (fun i => toS (st i)) /\ (F - 1) * ziw c (fun i => toS (st i)) < zje k T L G c (fun i => toS (st i))) := by
  intro d hd c1 vl a3 a4 a5
  have lp2 : ∀ (Q : List D × R -> Prop), (∀ ρ, Q (wL c fun i => tD (spw k T L G (toS (st i))), ρ)) -> Ok (zcV (zhb (gN 1) zbh zdq) (wL c fun i => gD (st i)) [.val (zaW k m n T L G), .emp]) Q := fun Q hQ => by
   refine zaJ (fun ρ => ∃ a, ρ = [.val (zaW k m n T L G), a]) (fun i => tD (spw k T L G (toS (st i)))) ⟨_, rfl⟩ ?_ fun ρ _ => hQ ρ
   rintro i _ hi ⟨a, rfl⟩
   simp! only [↓zdq]
   rw [(vl i hi).sD]
   refine (zj1 (toS (st i)) (vl i hi).lt).mono ?_
   rintro _ rfl
   simp! only []
   exact ⟨_, rfl⟩
  have lp4 : ∀ (Q : List D × R -> Prop), (∀ (xs : List D) ρ, xs.length <= c -> (xs.length : Int) = ziw c (fun i => toS (st i)) -> Q (xs, ρ)) -> Ok (zcV (zhb (gN 0) zdp zdl) (wL c fun i => gD (st i)) [.emp]) Q := fun Q hQ => by
   refine zjd (fun ρ => ∃ a, ρ = [a]) (fun i => if (toS (st i)).1 then some (gD (st i)) else none) ⟨_, rfl⟩ ?_ fun ρ _ => hQ _ ρ (Nat.le_trans (List.length_filterMap_le _ _) (by simp)) (cnt_fm (fun i => (toS (st i)).1) (fun i => gD (st i)) c)
   rintro i _ hi ⟨a, rfl⟩
   rw [(vl i hi).sD]
   simp! only [↓zdp, sD, zji, ↓zdl]
   exact ⟨fun z => ⟨by rw [if_pos z], _, rfl⟩, fun z => ⟨by rw [z]; rfl, _, rfl⟩⟩
  rcases hd with rfl | rfl <;>
  ·simp! only [↓zds, ↓zfs]
   refine ⟨by lia, lp2 _ fun ρ => ?_⟩
   simp! only [↓zfy]
   refine ⟨by lia, zaJ (fun ρ => ∃ a b d, ρ = [a, b, d]) (fun i => .int (spw k T L G (toS (st i))).2.2) ⟨_, _, _, rfl⟩ ?_ ?_⟩
   ·rintro i _ hi ⟨a, b, d, rfl⟩
    simp! only [↓zfr, tD]
    exact ⟨_, _, _, rfl⟩
   rintro _ ⟨a, b, d, rfl⟩
   simp! only [ziA, zgf, ↓zfz]
   refine ⟨by lia, lp4 _ fun xs ρ hxl hx => ?_⟩
   simp! only []
   refine (zl9 c1 (by lia)).mono ?_
   rintro _ ⟨z, rfl, hz⟩
   simp! only []
   refine ⟨fun e => ⟨zhm (by lia), _, _, rfl, ?_⟩, fun e => ⟨false, _, rfl, ?_⟩⟩
   ·rw [decide_eq_true_eq, hx]
    exact ⟨fun h => ⟨hz.mp e, h⟩, fun h => h.2⟩
   ·exact ⟨fun h => (by cases h), fun h => by rw [hz.mpr h.1] at e; cases e⟩
 cases t <;>
 ·simp! only [↓zcN, ↓zfE, ↓ze5]
  refine ⟨fun z => ⟨false, rfl, by rw [wt]; simp; lia⟩, fun z => ⟨by lia, lp1 _ fun ρ => ?_⟩⟩
  simp! only [zdR]
  refine ⟨fun z2 => ⟨false, rfl, ?_⟩, fun z2 => ?_⟩
  ·rw [wt]
   refine ⟨fun h => (by cases h), fun h => ?_⟩
   rw [show (List.map (fun i => decide (Vld m n (st i))) (List.range c)).all id = true by simp; exact h.2.1] at z2
   cases z2
  ·have vl : ∀ i, i < c -> Vld m n (st i) := by simpa using z2
   refine (rest _ (by first | exact .inl rfl | exact .inr rfl) (by lia) vl _ _ _).mono ?_
   rintro _ ⟨b, ρ', rfl, hb⟩
   simp! only []
   exact ⟨b, rfl, hb.trans (by rw [wt]; exact ⟨fun h => ⟨by lia, vl, h⟩, fun h => h.2.2⟩)⟩
end
section
variable {k m n : Nat} {T L G r : Nat -> Int} {F : Int}
theorem clo_prev {st : Nat -> Sp} : Clo k T L G (e + 1) st ↔ ∀ i, i < e + 1 -> (spw k T L G (st (if i = 0 then e else i - 1))).2.1 = (spw k T L G (st i)).1 := by
 constructor
 ·intro h i hi
  by_cases z : i = 0
  ·subst z
   have := h e (by lia)
   rwa [if_pos rfl] at this
  ·have := h (i - 1) (by lia)
   rw [if_neg z]
   rwa [if_neg (by lia), show i - 1 + 1 = i by lia] at this
 ·intro h i hi
  by_cases z : i + 1 = e + 1
  ·obtain rfl : i = e := by lia
   rw [if_pos rfl]
   have := h 0 (by lia)
   rwa [if_pos rfl] at this
  ·rw [if_neg z]
   have := h (i + 1) (by lia)
   rwa [if_neg (by lia), show i + 1 - 1 = i by lia] at this
theorem zlU (a b : Nat) : (((a : Nat) : Int) == ((b : Nat) : Int)) = decide (a = b) := Bool.eq_iff_iff.mpr (by rw [beq_iff_eq, decide_eq_true_eq]; lia)
theorem zk8 (l : List Gs) (c9 : l.length <= 2000) : Ok (zbN [zaW k m n T L G, .lst (l.map gD), .int F]) fun x => ∃ b, x = .val (.bl b) /\ (b = true ↔ WayT k m n T L G F l) := by
 have ek := way_w l
 generalize hc : l.length = c at ek c9
 generalize hst : (fun i => gA l i) = st
 have hA : ∀ i, gA l i = st i := fun i => by rw [<- hst]
 have e2 : l.map gD = wL c fun i => gD (st i) := by rw [ek]; simp only [hA]
 rw [e2]
 have wt : WayT k m n T L G F l ↔ c ≠ 0 /\ (∀ i, i < c -> Vld m n (st i)) /\ Clo k T L G c (fun i => toS (st i)) /\ (F - 1) * ziw c (fun i => toS (st i)) < zje k T L G c (fun i => toS (st i)) := by
  unfold WayT
  rw [hc]
  simp only [hA]
  refine and_congr ?_ Iff.rfl
  rw [<- hc]; simp
 simp! only [↓zbN, ↓zd0]
 refine ⟨fun z => ⟨false, rfl, by rw [wt]; simp; lia⟩, fun z => ?_⟩
 simp! only [↓zd6, ↓zd8]
 refine zbQ (fun i ρ => (∀ j, j < i -> Vld m n (st j)) /\ ∃ a5 a6 a7 a8 a9 a10, ρ = [.val (zaW k m n T L G), .val (.lst (wL c fun i => gD (st i))), .val (.int F), .val (.int (zje k T L G i (fun i => toS (st i)) - (F - 1) * ziw i (fun i => toS (st i)))), .own (wL i fun j => .tup [.int ((spw k T L G (toS (st j))).1 : Nat), .int ((spw k T L G (toS (st j))).2.1 : Nat)]), a5, a6, a7, a8, a9, a10, .emp]) ⟨fun j hj => by lia, .emp, .emp, .emp, .emp, .emp, .emp, by simp [sumR, wL]⟩ ?_ ?_
 ·rintro i _ hi ⟨vl, a5, a6, a7, a8, a9, a10, rfl⟩
  by_cases v : Vld m n (st i)
  ·have hok := v.lt
   have h0 : ¬ ((toS (st i)).2.1 : Int) < 0 := by lia
   rw [v.sD]
   simp! only [sD, ↓zb8, kS_notIn, kS_place]
   have ha : atI [D.tup (wI m T), D.tup (wI n L)] (if (!(toS (st i)).1) = true then 1 else 0) = some (if (toS (st i)).1 then .tup (wI m T) else .tup (wI n L)) := by cases (toS (st i)).1 <;> rfl
   have hb : dLen [if (toS (st i)).1 then D.tup (wI m T) else .tup (wI n L)] = some (.int (cnt m n (toS (st i)).1 : Nat)) := by cases (toS (st i)).1 <;> simp [zmN, zaS, cnt]
   refine ⟨fun h => absurd h h0, fun _ => ?_⟩
   simp! only [ha, hb]
   refine ⟨fun h => by lia, fun _ => ?_⟩
   simp! only [↓zd5]
   refine (ends_ok (toS (st i)) hok).mono ?_
   rintro _ rfl
   simp! only [tD, zji]
   have e1 : zje k T L G (i + 1) (fun i => toS (st i)) - (F - 1) * ziw (i + 1) (fun i => toS (st i)) = zje k T L G i (fun i => toS (st i)) - (F - 1) * ziw i (fun i => toS (st i)) + (spw k T L G (toS (st i))).2.2 - (F - 1) * (if (toS (st i)).1 = true then 1 else 0) := by
    show zje k T L G i (fun i => toS (st i)) + (spw k T L G (toS (st i))).2.2 - (F - 1) * (ziw i (fun i => toS (st i)) + (if (toS (st i)).1 = true then 1 else 0)) = _
    rw [Int.mul_add]; lia
   rw [e1, zd1]
   refine ⟨zhm (by split <;> decide), by lia, fun j hj => ?_, _, _, _, _, _, _, rfl⟩
   rcases Nat.lt_or_eq_of_le (Nat.le_of_lt_succ hj) with q | q
   ·exact vl j q
   ·rw [q]; exact v
  ·have no : ∀ {x : Sl}, x = .val (.bl false) -> ∃ b, x = .val (.bl b) /\ (b = true ↔ WayT k m n T L G F l) := fun h => ⟨false, h, fun h => (by cases h), fun h => absurd ((wt.mp h).2.1 i hi) v⟩
   unfold Vld at v
   generalize st i = s at v
   obtain ⟨a, at', u⟩ := s
   simp only at v
   simp! only [gD, ↓zb8]
   have : a = 0 \/ a = 1 \/ 2 <= a := by lia
   rcases this with rfl | rfl | h
   ·rw [show zhY (.str (kN 0)) (.tup [.str "sum", .str "place"]) = some (.bl false) from rfl]
    simp! only [show (kN 0 == ("place" : Str)) = false by decide +kernel]
    refine ⟨fun _ => no rfl, fun h0 => ?_⟩
    refine ⟨fun _ => no rfl, fun h1 => absurd ⟨by lia, by lia, ?_⟩ v⟩
    rw [decide_eq_true rfl]; exact h1
   ·rw [show zhY (.str (kN 1)) (.tup [.str "sum", .str "place"]) = some (.bl false) from rfl]
    simp! only [show (kN 1 == ("place" : Str)) = true by decide +kernel]
    refine ⟨fun _ => no rfl, fun h0 => ?_⟩
    refine ⟨fun _ => no rfl, fun h1 => absurd ⟨by lia, by lia, ?_⟩ v⟩
    rw [decide_eq_false (by lia)]; exact h1
   ·obtain ⟨b, rfl⟩ : ∃ b, a = b + 2 := ⟨a - 2, by lia⟩
    rw [show zhY (.str (kN (b + 2))) (.tup [.str "sum", .str "place"]) = some (.bl true) from rfl]
    simp! only []
    exact no rfl
 ·rintro _ ⟨vl, a5, a6, a7, a8, a9, a10, rfl⟩
  obtain ⟨e, rfl⟩ : ∃ e, c = e + 1 := ⟨c - 1, by lia⟩
  simp! only [↓zeb]
  refine ⟨zaK (by lia) (by lia), by lia, zaJ (fun ρ => ∃ z, ρ = [.par (wL (e + 1) fun j => .tup [.int ((spw k T L G (toS (st j))).1 : Nat), .int ((spw k T L G (toS (st j))).2.1 : Nat)]), z]) (fun i => .bl (decide ((spw k T L G (toS (st (if i = 0 then e else i - 1)))).2.1 = (spw k T L G (toS (st i))).1))) ⟨_, rfl⟩ ?_ ?_⟩
  ·rintro i _ hi ⟨z, rfl⟩
   by_cases e0 : i = 0
   ·subst e0
    simp! only [↓zce, Int.natCast_zero, Int.zero_sub, zmO, zat _ hi, beq_self_eq_true]
    exact ⟨by rw [zlU] <;> rfl, _, rfl⟩
   ·obtain ⟨j, rfl⟩ : ∃ j, i = j + 1 := ⟨i - 1, by lia⟩
    simp! only [↓zce, show ((j + 1 : Nat) : Int) - 1 = (j : Int) by lia, zat _ hi, zat _ (show j < e + 1 by lia), beq_self_eq_true]
    exact ⟨by rw [zlU] <;> rfl, _, rfl⟩
  ·rintro _ ⟨z, rfl⟩
   simp! only [zdR]
   have wt' : (List.map (fun i => decide ((spw k T L G (toS (st (if i = 0 then e else i - 1)))).2.1 = (spw k T L G (toS (st i))).1)) (List.range (e + 1))).all id = true ↔ Clo k T L G (e + 1) fun i => toS (st i) := by
    rw [clo_prev]; simp
   refine ⟨fun h => ⟨_, rfl, ?_⟩, fun h => ⟨false, rfl, fun h => (by cases h), fun w => ?_⟩⟩
   ·rw [wt, decide_eq_true_eq]
    exact ⟨fun q => ⟨by omega, vl, wt'.mp h, by omega⟩, fun q => by have := q.2.2.2; omega⟩
   ·rw [wt'.mpr (wt.mp w).2.2.1] at h; cases h
end
theorem zjI (t : Bool) {n k : Nat} (hk : k <= n) (hn : n <= 900) : Ok (zbT [sqD t n r, .int k]) fun x => x = .val (.tup (wI (n + 1 - k) (win k r))) := by
 have main : ∀ d, (d = .tup (wI n r) \/ d = .lst (wI n r)) -> Ok (zbT [d, .int k]) fun x => x = .val (.tup (wI (n + 1 - k) (win k r))) := by
  intro d hd
  have loop : ∀ (Q : List D × R -> Prop), (∀ ρ, Q (wI (n + 1 - k) (win k r), ρ)) -> Ok (zcV (zhb (gN 2) zbh zdo) (wL (n + 1 - k) fun i => .int (i : Nat)) [.val d, .val (.int k), .emp]) Q := fun Q hQ => by
   refine zaJ (fun ρ => ∃ s, ρ = [.val d, .val (.int k), s]) (fun i => .int (win k r i)) ⟨_, rfl⟩ ?_ ?_
   ·rintro i _ hi ⟨s, rfl⟩
    have hc := cut_w (n := n) (a := i) (b := k) (fun j => .int (r j)) (by lia)
    rcases hd with rfl | rfl <;> simp! only [↓zdo, hc, ziA, zgf] <;> exact ⟨rfl, _, rfl⟩
   ·intro ρ _
    exact hQ ρ
  have hl : ((n : Int) - (k : Int) + 1).toNat = n + 1 - k := by lia
  rcases hd with rfl | rfl <;>
  ·simp! only [↓zbT, ↓zfH, ↓ze6, hl]
   refine ⟨zaK (by lia) (by lia), by lia, loop _ fun ρ => ?_⟩
   simp! only []
 cases t
 ·exact main _ (.inr rfl)
 ·exact main _ (.inl rfl)
theorem zh7 {d1 d2 d3 : D} (h1 : Sq d1 m r) (h2 : Sq d2 n L) (h3 : Sq d3 n G) (hn : n <= 1000) :
  Ok (zb5 [d1, d2, d3]) fun x => ∃ b, x = .val (.bl b) /\ (b = true ↔ m = n /\ ∀ p, p < n -> L p <= r p /\ r p <= G p) := by
 simp! only [↓zb5, ↓zeL, h1.ln, h2.ln]
 refine ⟨fun h => ⟨false, rfl, by simp; lia⟩, fun h => ?_⟩
 have e : m = n := by lia
 subst e
 simp! only [↓zen, ↓zeI, h1.it, h2.it, h3.it]
 refine ⟨by lia, zaJ (fun ρ => ∃ a b c, ρ = [a, b, c]) (fun p => .bl (decide (L p <= r p) && decide (r p <= G p))) ⟨_, _, _, rfl⟩ ?_ ?_⟩
 ·rintro p _ hp ⟨a, b, c, rfl⟩
  simp! only [↓zeG]
  refine ⟨fun h => ⟨by simp [h], _, _, _, rfl⟩, fun h => ⟨?_, _, _, _, rfl⟩⟩
  rw [decide_eq_false (by lia)]; rfl
 ·rintro _ ⟨a, b, c, rfl⟩
  simp! only [zdR]
  refine ⟨_, rfl, ?_⟩
  rw [all_w]
  simp
section
variable {k m n : Nat} {T L G r : Nat -> Int} {F : Int} {n' : Nat}
noncomputable def Jd (k m n : Nat) (T L G : Nat -> Int) (F : Int) (n' : Nat) (r : Nat -> Int) (w : Option (List Gs)) : Prop := (n' = n /\ ∀ p, p < n -> L p <= r p /\ r p <= G p) /\ Near k m T r F /\ match w with
 | none => F = 0
 | some l => F ≠ 0 /\ WayT k m n T L G F l
theorem near_ok (t : Bool) (hn : n + 1 = m + k) (kn : k <= n) (n9 : n <= 800) : Ok (zdP [zaW k m n T L G, .int F, sqD t n' r]) fun x => ∃ b, x = .val (.bl b) /\ (b = true ↔ (n' = n /\ ∀ p, p < n -> L p <= r p /\ r p <= G p) /\ Near k m T r F) := by
 simp! only [↓zdP, ↓zgt]
 refine (zh7 (sqD_sq t n' r) (Sq.tup n L) (Sq.tup n G) (by lia)).mono ?_
 rintro _ ⟨b, rfl, hb⟩
 simp! only []
 refine ⟨fun z => ⟨false, rfl, fun h => (by cases h), fun h => ?_⟩, fun z => ?_⟩
 ·rw [hb.mpr h.1] at z; cases z
 have hb' := hb.mp (by cases b <;> simp_all)
 obtain rfl : n' = n := hb'.1
 simp! only [↓zf1, ↓zfZ]
 refine (zjI t kn (by lia)).mono ?_
 rintro _ rfl
 rw [show n' + 1 - k = m by lia]
 simp! only [zgy]
 refine ⟨by lia, zaJ (fun ρ => ∃ a b, ρ = [.val (.int F), a, b]) (fun i => .bl (decide (gap k T r i <= F))) ⟨_, _, rfl⟩ ?_ ?_⟩
 ·rintro i _ hi ⟨a, b, rfl⟩
  simp! only [↓zf9, zmu]
  exact ⟨rfl, _, _, rfl⟩
 ·rintro _ ⟨a, b, rfl⟩
  simp! only [zdR]
  refine ⟨_, rfl, ?_⟩
  rw [all_w]
  exact ⟨fun h => ⟨hb'.2, fun i hi => of_decide_eq_true (h i hi)⟩, fun h i hi => decide_eq_true (h.2 i hi)⟩
noncomputable def wQ (u : Bool) : Option (List Gs) -> D
 | none => .non
 | some l => if u then .tup (l.map gD) else .lst (l.map gD)
theorem zgQ (t u : Bool) (hn : n + 1 = m + k) (kn : k <= n) (n9 : n <= 800) (w : Option (List Gs)) (c9 : (w.getD []).length <= 2000) : Ok (zcM [zaW k m n T L G, .tup [.int F, sqD t n' r, wQ u w]]) fun x => ∃ b, x = .val (.bl b) /\ (b = true ↔ Jd k m n T L G F n' r w) := by
 simp! only [↓zcM, ↓zfF]
 refine (near_ok t hn kn n9).mono ?_
 rintro _ ⟨b, rfl, hb⟩
 simp! only []
 refine ⟨fun z => ⟨false, rfl, fun h => (by cases h), fun h => ?_⟩, fun z => ?_⟩
 ·rw [hb.mpr ⟨h.1, h.2.1⟩] at z; cases z
 have hb' := hb.mp (by cases b <;> simp_all)
 simp! only [↓zfj]
 cases w with
 | none =>
  simp! only [wQ]
  have y : F = 0 -> ∃ b, Sl.val (D.bl true) = Sl.val (D.bl b) /\ (b = true ↔ Jd k m n T L G F n' r none) := fun h => ⟨true, rfl, fun _ => ⟨hb'.1, hb'.2, h⟩, fun _ => rfl⟩
  have no : ¬F = 0 -> ∃ b, Sl.val (D.bl false) = Sl.val (D.bl b) /\ (b = true ↔ Jd k m n T L G F n' r none) := fun h => ⟨false, rfl, fun q => (by cases q), fun q => absurd q.2.2 h⟩
  exact ⟨fun _ => ⟨y, no⟩, fun _ => ⟨y, no⟩⟩
 | some l =>
  have hs : isN (if u = true then D.tup (l.map gD) else D.lst (l.map gD)) = false := by cases u <;> rfl
  simp! only [wQ, hs]
  have no : F = 0 -> ∃ b, Sl.val (D.bl false) = Sl.val (D.bl b) /\ (b = true ↔ Jd k m n T L G F n' r (some l)) := fun h => ⟨false, rfl, fun q => (by cases q), fun q => absurd h q.2.2.1⟩
  refine ⟨fun z => ⟨fun _ => no z, fun _ => no z⟩, fun z => ?_⟩
  simp! only [↓zfp]
  refine (zjB u l c9).mono ?_
  rintro _ ⟨b, rfl, hw⟩
  simp! only []
  exact ⟨b, rfl, hw.trans ⟨fun h => ⟨hb'.1, hb'.2, z, h⟩, fun h => h.2.2.2⟩⟩
theorem zlq (hn : n + 1 = m + k) (kn : k <= n) (n9 : n <= 800) (w : Option (List Gs)) (c9 : (w.getD []).length <= 2000) : Ok (zbd [zaW k m n T L G, .int F, .tup (wI n' r), wD w]) fun x => ∃ b, x = .val (.bl b) /\ (b = true ↔ Jd k m n T L G F n' r w) := by
 simp! only [↓zbd, ↓zcg]
 refine (ziu (r := r) true (by lia)).mono ?_
 rintro _ ⟨b, rfl, hb⟩
 simp! only []
 refine ⟨fun z => ⟨false, rfl, fun h => (by cases h), fun h => ?_⟩, fun z => ?_⟩
 ·rw [hb.mpr h.1] at z; cases z
 have hb' := hb.mp (by cases b <;> simp_all)
 obtain rfl : n' = n := hb'.1
 simp! only [↓zcR, ↓zcI]
 refine (zhq true kn (by lia)).mono ?_
 rintro _ rfl
 rw [show n' + 1 - k = m by lia]
 simp! only [zgy]
 refine ⟨by lia, zaJ (fun ρ => ∃ a b, ρ = [.val (.int F), a, b]) (fun i => .bl (decide (F < gap k T r i))) ⟨_, _, rfl⟩ ?_ ?_⟩
 ·rintro i _ hi ⟨a, b, rfl⟩
  simp! only [↓zcy, zmu]
  exact ⟨rfl, _, _, rfl⟩
 rintro _ ⟨a, b, rfl⟩
 simp! only [zdR]
 have ha : (List.map (fun i => decide (F < gap k T r i)) (List.range m)).any id = false ↔ Near k m T r F := by
  unfold Near
  simp
 refine ⟨fun z => ⟨false, rfl, fun h => (by cases h), fun h => ?_⟩, fun z => ?_⟩
 ·rw [ha.mpr h.2.1] at z; cases z
 have hb' := And.intro hb' (ha.mp z)
 simp! only [↓zcF]
 cases w with
 | none =>
  simp! only [wD]
  have y : F = 0 -> ∃ b, Sl.val (D.bl true) = Sl.val (D.bl b) /\ (b = true ↔ Jd k m n' T L G F n' r none) := fun h => ⟨true, rfl, fun _ => ⟨hb'.1, hb'.2, h⟩, fun _ => rfl⟩
  have no : ¬F = 0 -> ∃ b, Sl.val (D.bl false) = Sl.val (D.bl b) /\ (b = true ↔ Jd k m n' T L G F n' r none) := fun h => ⟨false, rfl, fun q => (by cases q), fun q => absurd q.2.2 h⟩
  exact ⟨fun _ => ⟨y, no⟩, fun _ => ⟨y, no⟩⟩
 | some l =>
  simp! only [wD]
  have no : F = 0 -> ∃ b, Sl.val (D.bl false) = Sl.val (D.bl b) /\ (b = true ↔ Jd k m n' T L G F n' r (some l)) := fun h => ⟨false, rfl, fun q => (by cases q), fun q => absurd h q.2.2.1⟩
  refine ⟨fun z => ⟨fun _ => no z, fun _ => no z⟩, fun z => ?_⟩
  simp! only [↓zcx]
  refine (zk8 l c9).mono ?_
  rintro _ ⟨b, rfl, hw⟩
  simp! only []
  exact ⟨b, rfl, hw.trans ⟨fun h => ⟨hb'.1, hb'.2, z, h⟩, fun h => h.2.2.2⟩⟩
end
theorem off_told {T L G : Nat -> Int} {w : D} (h : OffC k m n T L G F w) : ∃ v, (v.getD []).length <= 1000 /\ w = wD v := by
 cases h with
 | no => exact ⟨none, by simp, rfl⟩
 | @way c st wy =>
  refine ⟨some ((List.range c).map fun i => gS (st i)), by simpa using wy.c9, ?_⟩
  show D.lst _ = D.lst _
  rw [List.map_map]
  congr 1
  refine List.map_congr_left fun i _ => ?_
  exact (gD_s (st i)).symm
theorem math (ns : List Int) (hl : ns.length <= 63) : zi4 [.scr ns] = some (.val (.bl true)) := by
 have : Ok (zi4 [.scr ns]) fun x => x = .val (.bl true) := by
  have hm : ∃ m : Nat, m <= 4 /\ max2 2 (min2 (ns.length : Int) 4) = (m : Int) := by
   unfold max2 min2
   exact ⟨(if (if (4 : Int) < (ns.length : Int) then 4 else (ns.length : Int)) > 2 then (if (4 : Int) < (ns.length : Int) then 4 else (ns.length : Int)) else 2).toNat, by split <;> split <;> lia, by split <;> split <;> lia⟩
  obtain ⟨M, hM, eM⟩ := hm
  simp! only [↓zi4, ↓m_law, ↓zkL, eM]
  refine ⟨zaK (by lia) (by lia), zbQ (fun i ρ => ∃ s1 s2 s3 s4 s5 s6 s7 s8 s9, ρ = [.val (.scr ns), s1, s2, s3, s4, s5, s6, s7, s8, s9]) ⟨_, _, _, _, _, _, _, _, _, rfl⟩ ?_ ?_⟩
  ·rintro i _ hi ⟨s1, s2, s3, s4, s5, s6, s7, s8, s9, rfl⟩
   simp! only [↓zkq]
   refine (deal_ok ns i (by lia)).mono ?_
   rintro _ ⟨d1, h1, rfl⟩
   simp! only []
   refine (zj3 h1).mono ?_
   rintro _ ⟨k, m, n, T, L, G, d2, h2, ok, rfl⟩
   have n24 := ok.n24
   have k2 := ok.k2
   have kn := ok.kn
   have hn := ok.s
   simp! only []
   refine (off_ok (T := T) hn k2 (by lia) (by lia) ok.le).mono ?_
   rintro _ ⟨F, X, w, hw, rfl⟩
   obtain ⟨v, v9, rfl⟩ := off_told hw
   have t0 : Told n 0 (.tup [.int F, .tup (wI n fun p => X (p + 1) - X p), wD v]) := ⟨F, n, _, v, by lia, by lia, by lia, rfl⟩
   generalize D.tup [.int F, .tup (wI n fun p => X (p + 1) - X p), wD v] = first at t0
   simp! only [↓zkr]
   refine ⟨by decide, zbQ (fun j ρ => ∃ d s5 s6 s7 s8 s9, Pot d /\ ρ = [.val (.scr ns), .val (.int i), .own d, .val (zaW k m n T L G), .val first, s5, s6, s7, s8, s9]) ⟨d2, _, _, _, _, _, h2, rfl⟩ ?_ ?_⟩
   ·rintro j _ hj ⟨d3, s5, s6, s7, s8, s9, h3, rfl⟩
    simp! only [↓zkH, ↓zkZ]
    refine (zaw h3 (m := 2) (by lia) (by lia)).mono ?_
    rintro _ ⟨x, d4, hx, h4, rfl⟩
    have hb : ∃ q : Nat, q <= 2 /\ min2 (j : Int) (1 + (x : Int)) = (q : Int) := by
     unfold min2
     exact ⟨(if 1 + (x : Int) < (j : Int) then 1 + (x : Int) else (j : Int)).toNat, by split <;> lia, by split <;> lia⟩
    obtain ⟨q, q2, eq⟩ := hb
    simp! only [eq]
    refine ⟨zaK (by lia) (by lia), zbQ (fun b ρ => ∃ d t s7, Pot d /\ Told n b t /\ ρ = [.val (.scr ns), .val (.int i), .own d, .val (zaW k m n T L G), .val first, .val (.int j), .val t, s7, s8, s9]) ⟨d4, first, _, h4, t0, rfl⟩ ?_ ?_⟩
    ·rintro b _ hb ⟨d5, t, s7, h5, ht, rfl⟩
     simp! only [↓zk4]
     refine (bent_ok h5 ok (by lia) ht).mono ?_
     rintro _ ⟨t', d6, h6, ht', rfl⟩
     simp! only []
     exact ⟨d6, t', _, h6, ht', rfl⟩
    rintro _ ⟨d5, t, s7, h5, ⟨F, n', r, w, a1, a2, c9, rfl⟩, rfl⟩
    have pb : ∀ {b b' : Bool} {P : Prop}, (b = true ↔ P) -> (b' = true ↔ P) -> dNe (.bl b) (.bl b') = some (.bl false) := fun h1 h2 => by
     rw [Bool.eq_iff_iff.mpr (h1.trans h2.symm)]
     exact (show Pl 0 (.bl _) from ⟨rfl, Nat.zero_le _⟩).ne (by decide)
    have jd := zlq (T := T) (L := L) (G := G) (F := F) (n' := n') (r := r) hn kn (by lia) w (by lia)
    obtain ⟨_, ej, b', rfl, hj⟩ := jd
    simp! only [toD]
    cases w with
    | none =>
     simp! only [wD, ↓zio]
     refine (zhA h5 true (wI n' r)).mono ?_
     rintro _ ⟨u, d6, h6, rfl⟩
     simp! only []
     refine (zgQ (T := T) (L := L) (G := G) u false hn kn (by lia) none (by simp)).mono ?_
     rintro _ ⟨b, rfl, hb⟩
     simp only [wD] at ej
     simp! only [ej, pb hb hj, ↓zh9]
     refine ⟨by decide, fun h => absurd h (by decide), fun _ => ?_⟩
     exact ⟨d6, _, _, _, _, _, h6, rfl⟩
    | some l =>
     have pw := pl_way l
     simp! only [wD]
     refine (zhA h5 false (l.map gD)).mono ?_
     rintro _ ⟨v, d6, h6, rfl⟩
     simp! only [↓zio]
     refine (zhA h6 true (wI n' r)).mono ?_
     rintro _ ⟨u, d7, h7, rfl⟩
     simp! only []
     refine (zgQ (T := T) (L := L) (G := G) u v hn kn (by lia) (some l) (by lia)).mono ?_
     rintro _ ⟨b, rfl, hb⟩
     simp only [wD] at ej
     simp! only [ej, pb hb hj, ↓zh9]
     refine ⟨by decide, fun h => absurd h (by decide), fun _ => ?_⟩
     have hs : isN (if v = true then D.tup (l.map gD) else D.lst (l.map gD)) = false := by cases v <;> rfl
     simp! only [hs, sq_it, pw.ne (by decide)]
     exact ⟨d7, _, _, _, _, _, h7, rfl⟩
   ·rintro _ ⟨d3, s5, s6, s7, s8, s9, h3, rfl⟩
    simp! only []
    exact ⟨_, _, _, _, _, _, _, _, _, rfl⟩
  ·rintro _ ⟨s1, s2, s3, s4, s5, s6, s7, s8, s9, rfl⟩
   simp! only []
 obtain ⟨x, e, rfl⟩ := this
 exact e
end Prf
noncomputable def PySem.W.Fast.tw17017953725153000692 : Nat := 0
noncomputable def PySem.W.Fast.tw2052837696122285949 : Nat := 0
noncomputable def PySem.W.Fast.tw17415549787799202619 : Nat := 0
noncomputable def PySem.W.Fast.tw15009062163137326453 : Nat := 0
noncomputable def PySem.W.Fast.tw12664071016592458248 : Nat := 0
noncomputable def PySem.W.Fast.tw15680064941112599921 : Nat := 0
noncomputable def PySem.W.Fast.tw6416437366049372780 : Nat := 0
noncomputable def PySem.W.Fast.tw3101247650500827474 : Nat := 0
noncomputable def PySem.W.Fast.tw14683020409063063067 : Nat := 0
noncomputable def PySem.W.Fast.tw17909332559417381688 : Nat := 0
noncomputable def PySem.W.Fast.tw10781443105457086312 : Nat := 0
noncomputable def PySem.W.Fast.tw12393255877223455030 : Nat := 0
noncomputable def PySem.W.Fast.tw15257579143983123679 : Nat := 0
noncomputable def PySem.W.Fast.tw13197610689046604906 : Nat := 0
noncomputable def PySem.W.Fast.tw11947179136152866143 : Nat := 0
noncomputable def PySem.W.Fast.tw12630980553324361173 : Nat := 0
noncomputable def PySem.W.Fast.tw16319465176676058591 : Nat := 0
noncomputable def PySem.W.Fast.tw9075046968603629967 : Nat := 0
noncomputable def PySem.W.Fast.tw2076567673330419806 : Nat := 0
noncomputable def PySem.W.Fast.tw3263226613887696056 : Nat := 0
noncomputable def PySem.W.Fast.tw5984785646478465476 : Nat := 0
noncomputable def PySem.W.Fast.tw4764688558770745864 : Nat := 0
noncomputable def PySem.W.Fast.tw6021645669991187263 : Nat := 0
noncomputable def PySem.W.Fast.tw12268869895539527884 : Nat := 0
noncomputable def PySem.W.Fast.tw7728250589417771969 : Nat := 0
noncomputable def PySem.W.Fast.tw10385222259134254427 : Nat := 0
noncomputable def PySem.W.Fast.tw17164473437115363506 : Nat := 0
noncomputable def PySem.W.Fast.tw12770226431188866564 : Nat := 0
noncomputable def PySem.W.Fast.tw18297465294515424783 : Nat := 0
noncomputable def PySem.W.Fast.tw11202005959708379007 : Nat := 0
noncomputable def PySem.W.Fast.tw2364472432443752283 : Nat := 0
noncomputable def PySem.W.Fast.tw5604908352343720907 : Nat := 0
noncomputable def PySem.W.Fast.tw8844119392086747638 : Nat := 0
noncomputable def PySem.W.Fast.tw3764799474197341773 : Nat := 0
noncomputable def PySem.W.Fast.tw15218678746266297326 : Nat := 0
noncomputable def PySem.W.Fast.tw12147504286914460565 : Nat := 0
noncomputable def PySem.W.Fast.tw11157343875644573325 : Nat := 0
noncomputable def PySem.W.Fast.tw8868151260790118631 : Nat := 0
noncomputable def PySem.W.Fast.tw4775085299977239789 : Nat := 0
noncomputable def PySem.W.Fast.tw11171329671044853108 : Nat := 0
noncomputable def PySem.W.Fast.tw12203975262678531909 : Nat := 0
noncomputable def PySem.W.Fast.tw15443006496455567183 : Nat := 0
noncomputable def PySem.W.Fast.tw4249262479769707847 : Nat := 0
noncomputable def PySem.W.Fast.tw6113248714385933081 : Nat := 0
noncomputable def PySem.W.Fast.tw2122075590731720863 : Nat := 0
noncomputable def PySem.W.Fast.tw10054204625415356403 : Nat := 0
noncomputable def PySem.W.Fast.tw5735822442375393562 : Nat := 0
noncomputable def PySem.W.Fast.tw15595106500436194152 : Nat := 0
noncomputable def PySem.W.Fast.tw17373545206670080882 : Nat := 0
noncomputable def PySem.W.Fast.tw1155906520752028001 : Nat := 0
noncomputable def PySem.W.Fast.tw823063038443688811 : Nat := 0
noncomputable def PySem.W.Fast.tw15638607882224412784 : Nat := 0
noncomputable def PySem.W.Fast.tw11258330802179877196 : Nat := 0
noncomputable def PySem.W.Fast.tw3767847285210673865 : Nat := 0
noncomputable def PySem.W.Fast.tw11697928723950313995 : Nat := 0
noncomputable def PySem.W.Fast.tw771073321987142826 : Nat := 0
noncomputable def PySem.W.Fast.tw406493647571926239 : Nat := 0
noncomputable def PySem.W.Fast.tw875540935454827204 : Nat := 0
noncomputable def PySem.W.Fast.tw18273967892990319751 : Nat := 0
noncomputable def PySem.W.Fast.tw17424102820925034344 : Nat := 0
noncomputable def PySem.W.Fast.tw15328472303073588925 : Nat := 0
noncomputable def PySem.W.Fast.tw3042722524686070048 : Nat := 0
noncomputable def PySem.W.Fast.tw1740771111863201137 : Nat := 0
noncomputable def PySem.W.Fast.tw8426975762318032265 : Nat := 0
noncomputable def PySem.W.Fast.tw3170901716608485668 : Nat := 0
noncomputable def PySem.W.Fast.tw521729725607894696 : Nat := 0
noncomputable def PySem.W.Fast.tw6339717964336610698 : Nat := 0
noncomputable def PySem.W.Fast.tw632175013117327808 : Nat := 0
noncomputable def PySem.W.Fast.tw11464798538914962928 : Nat := 0
noncomputable def PySem.W.Fast.tw11717854051732252557 : Nat := 0
noncomputable def PySem.W.Fast.tw9960912805705116541 : Nat := 0
noncomputable def PySem.W.Fast.tw6147580103266268950 : Nat := 0
noncomputable def PySem.W.Fast.tw7510376538999392110 : Nat := 0
noncomputable def PySem.W.Fast.tw2109578460535966586 : Nat := 0
noncomputable def PySem.W.Fast.tw11371644079769184703 : Nat := 0
noncomputable def PySem.W.Fast.tw16594836130984958960 : Nat := 0
noncomputable def PySem.W.Fast.tw18418889986553859841 : Nat := 0
noncomputable def PySem.W.Fast.tw4110754238417399723 : Nat := 0
noncomputable def PySem.W.Fast.tw12369272259028415156 : Nat := 0
noncomputable def PySem.W.Fast.tw1990727711536063244 : Nat := 0
noncomputable def PySem.W.Fast.tw8310295420266564743 : Nat := 0
noncomputable def PySem.W.Fast.tw10429894103163028450 : Nat := 0
noncomputable def PySem.W.Fast.tw11427675328676669973 : Nat := 0
noncomputable def PySem.W.Fast.tw14065720514856692325 : Nat := 0
noncomputable def PySem.W.Fast.tw2775968587958882380 : Nat := 0
noncomputable def PySem.W.Fast.tw4476488717481520133 : Nat := 0
noncomputable def PySem.W.Fast.tw18222363184071050490 : Nat := 0
noncomputable def PySem.W.Fast.tw3074378004336622606 : Nat := 0
noncomputable def PySem.W.Fast.tw9229279236702725075 : Nat := 0
noncomputable def PySem.W.Fast.tw12614699028513981276 : Nat := 0
noncomputable def PySem.W.Fast.tw12591026380259621893 : Nat := 0
noncomputable def PySem.W.Fast.tw10893882407054400608 : Nat := 0
noncomputable def PySem.W.Fast.tw6173795709121488590 : Nat := 0
noncomputable def PySem.W.Fast.tw4446393704159284995 : Nat := 0
noncomputable def PySem.W.Fast.tw5913266811571663766 : Nat := 0
noncomputable def PySem.W.Fast.tw4543393782772518731 : Nat := 0
noncomputable def PySem.W.Fast.tw7636969066514523265 : Nat := 0
noncomputable def PySem.W.Fast.tw5903647990311603383 : Nat := 0
noncomputable def PySem.W.Fast.tw5808425704558622180 : Nat := 0
noncomputable def PySem.W.Fast.tw15764079255518011963 : Nat := 0
noncomputable def PySem.W.Fast.tw6423027769267763133 : Nat := 0
noncomputable def PySem.W.Fast.tw12595051187783032490 : Nat := 0
noncomputable def PySem.W.Fast.tw5625468033804012994 : Nat := 0
noncomputable def PySem.W.Fast.tw1942175792903345752 : Nat := 0
noncomputable def PySem.W.Fast.tw10431069532867176163 : Nat := 0
noncomputable def PySem.W.Fast.tw4227359765796912152 : Nat := 0
noncomputable def PySem.W.Fast.tw3461129703985367627 : Nat := 0
noncomputable def PySem.W.Fast.tw549093641999321926 : Nat := 0
noncomputable def PySem.W.Fast.tw1473127573241411438 : Nat := 0
noncomputable def PySem.W.Fast.tw16354944385732072525 : Nat := 0
noncomputable def PySem.W.Fast.tw16381633909863552269 : Nat := 0
noncomputable def PySem.W.Fast.tw132509626327163503 : Nat := 0
noncomputable def PySem.W.Fast.tw13522285160262584781 : Nat := 0
noncomputable def PySem.W.Fast.tw17997102500220879969 : Nat := 0
noncomputable def PySem.W.Fast.tw16300822806811776422 : Nat := 0
noncomputable def PySem.W.Fast.tw15152341530510827739 : Nat := 0
noncomputable def PySem.W.Fast.tw360815160658183787 : Nat := 0
noncomputable def PySem.W.Fast.tw11787187900580134236 : Nat := 0
noncomputable def PySem.W.Fast.tw1651825697765478090 : Nat := 0
noncomputable def PySem.W.Fast.tw1512230271161314421 : Nat := 0
noncomputable def PySem.W.Fast.tw12552448089434882800 : Nat := 0
noncomputable def PySem.W.Fast.tw5009320075898332048 : Nat := 0
noncomputable def PySem.W.Fast.tw12041177689734195437 : Nat := 0
noncomputable def PySem.W.Fast.tw8725853209402002776 : Nat := 0
noncomputable def PySem.W.Fast.tw5638174254126446601 : Nat := 0
noncomputable def PySem.W.Fast.tw13763699813885433331 : Nat := 0
noncomputable def PySem.W.Fast.tw16030305478589464199 : Nat := 0
noncomputable def PySem.W.Fast.tw15646692649572273998 : Nat := 0
noncomputable def PySem.W.Fast.tw3634978990291988609 : Nat := 0
noncomputable def PySem.W.Fast.tw12343727075987252007 : Nat := 0
noncomputable def PySem.W.Fast.tw3693369372028897414 : Nat := 0
noncomputable def PySem.W.Fast.tw17277513144416001389 : Nat := 0
noncomputable def PySem.W.Fast.tw4532182456823512349 : Nat := 0
noncomputable def PySem.W.Fast.tw16749556262079880408 : Nat := 0
noncomputable def PySem.W.Fast.tw15841842512333747698 : Nat := 0
noncomputable def PySem.W.Fast.tw5104219892070267280 : Nat := 0
noncomputable def PySem.W.Fast.tw15474173668993071788 : Nat := 0
noncomputable def PySem.W.Fast.tw13685038761784406380 : Nat := 0
noncomputable def PySem.W.Fast.tw5678868822399678647 : Nat := 0
noncomputable def PySem.W.Fast.tw16033731763052316313 : Nat := 0
noncomputable def PySem.W.Fast.tw7453174968193854440 : Nat := 0
noncomputable def PySem.W.Fast.tw1845257967983802189 : Nat := 0
open PyProof.Rows PySem PySem.W
set_option maxRecDepth 100000 in
set_option maxHeartbeats 0 in
theorem PySem.Challenge.cw_tellsum_k73_far_rows_judged_holds : PySem.Challenge.rw_tellsum_k73_far_rows_judged.Holds := by
  w_on; o_law; k_head; (case hw => w_witness2)
  k_fill
  refine Prf.walk (l := PySem.Challenge.rw_tellsum_k73_far_rows_judged) rfl rfl Prf.math (fun w h Y => W.kIn_of Y) ?F
  case F =>
    intro w mg fa h KX G hmg
    refine' Prf.all_mk KX G hmg ?h1 ?h2 ?h3 ?h4 ?h5 ?h6 ?h7 ?h8 ?h9 ?h10 ?h11 ?h12 ?h13 ?h14 ?h15 ?h16 ?h17 ?h18 ?h19 ?h20 ?h21 ?h22 ?h23 ?h24 ?h25 ?h26 ?h27 ?h28 ?h29 ?h30 ?h31 ?h32 ?h33 ?h34 ?h35 ?h36 ?h37 ?h38 ?z0 ?z1 ?z2 ?z3 ?z4 ?z5 ?z6 ?z7 ?z8 ?z9 ?z10 ?z11 ?z12 ?z13 ?z14
    (case h1 | h2 | h3 | h4 | h5 | h6 | h7 | h8 | h9 | h10 | h11 | h12 | h13 | h14 | h15 | h16 | h17 | h18 | h19 | h20 | h21 | h22 | h23 | h24 | h25 | h26 | h27 | h28 | h29 | h30 | h31 | h32 | h33 | h34 | h35 | h36 | h37 | h38 =>
      refine' M.FnAt.mk ?a ?l ?c ?k
      (case a => k_is)
      (case l => k_is)
      (case c => k_is)
      (case k => k_is))
    (case z0 | z1 | z2 | z3 | z4 | z5 | z6 | z7 | z8 | z9 | z10 | z11 | z12 | z13 | z14 => k_is)
end
