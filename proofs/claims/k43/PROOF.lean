import PyProof.Rows.All
import Wide.All
import OpenK.AllK
import Wide.FinOn
import Lean
import PyProof.EqAt
import PyProof.EqKinds
import PyProof.TupleCall
import PyProof.Rows.Range3
import PyProof.ZipIter
import PyProof.Draws
import PyProof.EnumMake
import PyProof.Rows.FactsTup
import PyProof.LayNew
import PyProof.Rows.SeqMore2
import PyProof.Rows.RuleIs
import KE.KRevIter
import PyProof.P3In
import PySem.Challenge.RW_tellsum_k43_ranges_told
set_option Elab.async false
set_option linter.all false
set_option bootstrap.genMatcherCode false
set_option compiler.extract_closed false
set_option maxRecDepth 100000
noncomputable section
namespace L2
open PyProof.Rows PySem PySem.Spec
variable {xs vs : List V} {us its : List Value} {x qual : Str} {u cd : Value} {H : Hp} {a b it dx : Addr} {o : Obj} {w : World} {h base : Heap} {g' : Array GenState} {t' i j k n : Nat} {d' : Drawn} {ch fp : List Addr} {e c tg : Expr} {pins' pins pl : List (Addr × Obj)} {N ps : List Str} {A : Around} {E : Value -> Shared -> Prop} {v : V} {Q : Unit -> Shared -> Prop} {X : Cx} {t : TSet} {s s' : Shared} {pos : Pos} {σ : St} {K : W.Frag} {f : Value -> Value -> Sem Value} {tc : TT} {es : List Expr} {te : TE} {g : Int -> Int -> Int} {tget : V -> V -> Hp -> VK -> Prop} {op op' : CmpOp} {body : List Stmt} {tb : TS} {p : Addr × Obj} {r : V -> Hp -> VK -> Prop} {C : Int -> Int -> Prop} {mA mg : Str -> Option Value} {fd : FuncData} {kindOf : Str -> Option NameKind} {sc scope : Scope} {CX : CXT} {outer : List Env} {params : Arguments}
abbrev Key := Sum Int Str
def keyIs : Key -> Value -> Bool
 | .inl k, v => Value.isInt k v
 | .inr x, v => Value.isStrOf x v
def keyH (w : World) : Key -> Int
 | .inl k => hashInt k
 | .inr x => hashStr w x
theorem zbb : ∀ {k : Key} {v : Value}, keyIs k v = true -> (∃ i t, k = Sum.inl i /\ v = Value.int i t) \/ (∃ x t, k = Sum.inr x /\ v = Value.str x t)
 | .inl i, v, h => by
  obtain ⟨t, e⟩ := Value.isInt_shape (k := i) (v := v) h
  exact .inl ⟨i, t, rfl, e⟩
 | .inr x, v, h => by
  obtain ⟨t, e⟩ := Value.isStrOf_shape (x := x) (v := v) h
  exact .inr ⟨x, t, rfl, e⟩
theorem key_ll (a b : Int) : decide ((Sum.inl a : Key) = Sum.inl b) = (a == b) := by
 by_cases e : a = b
 ·subst e; simp
 ·have h : ¬ (Sum.inl a : Key) = Sum.inl b := fun q => e (Sum.inl.inj q)
  rw [decide_eq_false h]
  exact (beq_eq_false_iff_ne.mpr e).symm
theorem key_rr (a b : Str) : decide ((Sum.inr a : Key) = Sum.inr b) = decide (a = b) := by
 by_cases e : a = b
 ·subst e; simp
 ·have h : ¬ (Sum.inr a : Key) = Sum.inr b := fun q => e (Sum.inr.inj q)
  rw [decide_eq_false h, decide_eq_false e]
theorem key_lr (a : Int) (b : Str) : decide ((Sum.inl a : Key) = Sum.inr b) = false := decide_eq_false (fun q => nomatch q)
theorem key_rl (a : Str) (b : Int) : decide ((Sum.inr a : Key) = Sum.inl b) = false := decide_eq_false (fun q => nomatch q)
def zjP (prog : Program) (w : World) : PySem.KeyKind prog w Key where
 is := keyIs
 hash := keyH w
 inj := fun v a b ha hb => by
  rcases zbb ha with ⟨i, t, rfl, rfl⟩ | ⟨x, t, rfl, rfl⟩
  ·rcases zbb hb with ⟨j, u, rfl, e⟩ | ⟨y, u, rfl, e⟩
   ·injection e with e1 _; rw [e1]
   ·exact nomatch e
  ·rcases zbb hb with ⟨j, u, rfl, e⟩ | ⟨y, u, rfl, e⟩
   ·exact nomatch e
   ·injection e with e1 _; rw [e1]
 byValue := fun k v h => by
  rcases zbb h with ⟨i, t, rfl, rfl⟩ | ⟨x, t, rfl, rfl⟩ <;> rfl
 pyHash := fun hv h => by
  rcases zbb hv with ⟨i, t, rfl, rfl⟩ | ⟨x, t, rfl, rfl⟩
  ·exact wpAny_pyHash_int h
  ·exact wpAny_pyHash_str h
 eqBool := fun hu hv h => by
  rcases zbb hu with ⟨i, t, rfl, rfl⟩ | ⟨x, t, rfl, rfl⟩
  ·rcases zbb hv with ⟨j, u, rfl, rfl⟩ | ⟨y, u, rfl, rfl⟩
   ·rw [key_ll] at h; exact wpAny_eqBool_int h
   ·rw [key_lr] at h; exact SeqAt.EqAt.int_str i t y u _ _ _ _ h
  ·rcases zbb hv with ⟨j, u, rfl, rfl⟩ | ⟨y, u, rfl, rfl⟩
   ·rw [key_rl] at h; exact SeqAt.EqAt.str_int x t j u _ _ _ _ h
   ·rw [key_rr] at h; exact wpAny_eqBool_str h
 «strs» := fun k x t v h => by
  rcases zbb h with ⟨i, u, rfl, e⟩ | ⟨y, u, rfl, e⟩
  ·exact nomatch e
  ·injection e with e1 _
   subst e1
   cases v <;> rfl
inductive V where
 | non | bl (b : Bool) | int (i : Int) | str (x : Str) | byt (b : Array UInt8) | flt (b : UInt64) | ref (a : Addr) | ty (n : String)
 deriving DecidableEq
def RelV : V -> Value -> Prop
 | .non, u => u = Value.none
 | .bl b, u => u = Value.bool b
 | .int i, u => ∃ t, u = Value.int i t
 | .str x, u => ∃ t, u = Value.str x t
 | .byt b, u => ∃ t, u = Value.bytes b t
 | .flt b, u => ∃ t, u = Value.float b t
 | .ref a, u => u = Value.ref a
 | .ty n, u => u = Value.type n
abbrev Vals : List V -> List Value -> Prop := Paired RelV
theorem Vals.length (r : Vals xs us) : xs.length = us.length := Paired.length r
theorem Vals.get : ∀ {xs : List V} {us : List Value} {i : Nat} {x : V}, Vals xs us -> xs[i]? = some x -> ∃ u, us[i]? = some u /\ RelV x u
 | _, _, _, _, .nil, e => by simp at e
 | _, _, 0, _, .cons r _, e => by simp at e; subst e; exact ⟨_, rfl, r⟩
 | _, _, i + 1, x, .cons _ t, e => by
  obtain ⟨u, h1, h2⟩ := Vals.get (i := i) (x := x) t (by simpa using e)
  exact ⟨u, by simpa using h1, h2⟩
theorem Vals.set {x : V} (r : RelV x u) : ∀ {xs : List V} {us : List Value} (i : Nat), Vals xs us -> Vals (xs.set i x) (us.set i u)
 | _, _, _, .nil => .nil
 | _, _, 0, .cons _ t => .cons r t
 | _, _, i + 1, .cons q t => .cons q (Vals.set r i t)
theorem Vals.append : ∀ {xs ys : List V} {us ws : List Value}, Vals xs us -> Vals ys ws -> Vals (xs ++ ys) (us ++ ws)
 | _, _, _, _, .nil, s => s
 | _, _, _, _, .cons r t, s => .cons r (Vals.append t s)
theorem Vals.take : ∀ {xs : List V} {us : List Value} (n : Nat), Vals xs us -> Vals (xs.take n) (us.take n)
 | _, _, 0, _ => .nil
 | _, _, _ + 1, .nil => .nil
 | _, _, n + 1, .cons r t => .cons r (Vals.take n t)
theorem Vals.drop : ∀ {xs : List V} {us : List Value} (n : Nat), Vals xs us -> Vals (xs.drop n) (us.drop n)
 | _, _, 0, r => r
 | _, _, _ + 1, .nil => .nil
 | _, _, n + 1, .cons _ t => Vals.drop n t
def RelO : Option V -> Option Value -> Prop
 | some v, some u => RelV v u
 | none, none => True
 | _, _ => False
def KV {κ : Type} : List (κ × V) -> List (κ × Value) -> Prop := Paired fun (p : κ × V) (q : κ × Value) => p.1 = q.1 /\ RelV p.2 q.2
def kV : Key -> V
 | .inl i => .int i
 | .inr x => .str x
inductive HO where
 /-- a list -/
 | lst (xs : List V)
 /-- a tuple (never changes) -/
 | tup (xs : List V)
 /-- a dict whose keys are ints and texts; one whose keys are tuples of ints and texts (the empty one is both) -/
 | dK (kvs : List (Key × V)) | dT (kvs : List (List Key × V))
 /-- a set of ints: its members, its size -/
 | set (S : Int -> Bool) (n : Nat)
 /-- an instance of the class at C, its dict at dx, its attributes -/
 | ins (C dx : Addr) (fs : List (Str × V))
 /-- the dict of the instance at x -/
 | own (x : Addr)
 /-- the dict of an exception -/
 | xd (fs : List (Str × V))
 /-- a bound method, f of x -/
 | met (f x : Addr)
 /-- a range object lo, lo + 1, .. below hi -/
 | rng (lo hi : Int)
 /-- a thing that is known to the object (the script; a dict while a loop walks it): read, never written while it is so -/
 | frz (o : Obj) (u : HO)
 /-- a code object's table -/
 | tbl (ps : Array Value)
 /-- any other thing, by what is true of its one object (a def of one's own: SetO a S n := HO.ext fun h => ..) -/
 | ext (φ : Heap -> Prop)
abbrev Hp := Addr -> Option HO
def upd (H : Hp) (a : Addr) (o : HO) : Hp := fun b => if b = a then some o else H b
theorem zas {o : HO} : upd H a o a = some o := by unfold upd; rw [if_pos rfl]
theorem zap {o : HO} (h : b ≠ a) : upd H a o b = H b := by unfold upd; rw [if_neg h]
theorem zav {o : HO} (h : H a = some o) (h' : H b = none) : a ≠ b := by
 intro e; subst e; rw [h] at h'; cases h'
section
variable (P : Program) (w : World)
def ObjOk (H : Hp) (h : Heap) (a : Addr) : HO -> Prop
 | .lst xs => xs.length <= sizeLine /\ ∃ (its : List Value) (n : Nat), Vals xs its /\ h.get? a = some { cls := .type "list", data := .seq its.toArray n }
 | .tup xs => xs.length <= sizeLine /\ ∃ its : List Value, Vals xs its /\ IsTup h a its.toArray
 | .dK kvs => kvs.length <= sizeLine /\ (a == sysModules) = false /\ ∃ vs, KV kvs vs /\ h.DictOf (zjP P w) a vs
 | .dT kvs => kvs.length <= sizeLine /\ (a == sysModules) = false /\ ∃ xs : List (List Key × Addr × Value),
   Paired (fun (p : List Key × V) (q : List Key × Addr × Value) => p.1 = q.1 /\ H q.2.1 = some (.tup (p.1.map kV)) /\ RelV p.2 q.2.2) kvs xs /\
   ∃ o es ep, h.get? a = some o /\ o.ExactDict /\ o.data = .dict es ep /\ es.toList = xs.map (entryOfKey (tupleKind (zjP P w))) /\ (xs.map (·.1)).Nodup
 | .set S n => h.SetOf (intKind P w) a S n
 | .ins C dx fs => H dx = some (.own a) /\ fs.length <= 1000 /\ dx ≠ a /\ h.get? a = some (W.instObj C dx) /\
   ∃ mA, h.Ns1 dx mA /\ (∀ f, RelO (fs.lookup f) (mA f)) /\ PySem.Within mA (fs.map (·.1))
 | .own _ => ∃ o, h.get? a = some o
 | .xd fs => ∃ mA, h.Ns1 a mA /\ ∀ f, RelO (fs.lookup f) (mA f)
 | .rng lo hi => ∃ t u v, h.get? a = some { cls := .type "range", data := .fields #[.int lo t, .int hi u, .int 1 v] }
 | .frz o u => h.get? a = some o /\ ObjOk H h a u
 | .tbl ps => h.get? a = some { cls := .none, data := .fields ps }
 | .met f x => h.get? a = some (W.methodObj (.ref f) (.ref x))
 | .ext φ => φ h /\ (∃ o, h.get? a = some o) /\ ∀ h1 h2 : Heap, φ h1 -> (∀ o, h1.get? a = some o -> h2.get? a = some o) -> φ h2
def HOk (H : Hp) (h : Heap) : Prop := ∀ a o, H a = some o -> ObjOk P w H h a o
end
section
variable {P : Program} {w : World} {H H' : Hp} {h h' : Heap} {a : Addr} {o : HO}
theorem ObjOk.lt (x : ObjOk P w H h a o) : a < h.objs.size := by
 cases o with
 | lst xs => obtain ⟨_, _, _, _, e⟩ := x; exact Heap.lt_size e
 | tup xs => obtain ⟨_, _, _, p⟩ := x; exact p.lt
 | dK kvs => obtain ⟨_, _, _, _, o, _, _, e, _⟩ := x; exact Heap.lt_size e
 | dT kvs => obtain ⟨_, _, _, _, o, _, _, e, _⟩ := x; exact Heap.lt_size e
 | set S n => obtain ⟨o, _, _, _, e, _⟩ := x; exact Heap.lt_size e
 | ins C dx fs => obtain ⟨_, _, _, e, _⟩ := x; exact Heap.lt_size e
 | own y => obtain ⟨_, e⟩ := x; exact Heap.lt_size e
 | xd fs => obtain ⟨_, ⟨_, _, _, e, _⟩, _⟩ := x; exact Heap.lt_size e
 | rng lo hi => obtain ⟨_, _, _, e⟩ := x; exact Heap.lt_size e
 | frz ob u => obtain ⟨e, _⟩ := x; exact Heap.lt_size e
 | tbl ps => exact Heap.lt_size (show h.get? a = some _ from x)
 | met f y => exact Heap.lt_size (show h.get? a = some _ from x)
 | ext φ => obtain ⟨_, ⟨_, e⟩, _⟩ := x; exact Heap.lt_size e
theorem Paired.mapP {α β : Type} {F G : α -> β -> Prop} : ∀ {l₁ : List α} {l₂ : List β}, Paired F l₁ l₂ -> (∀ a b, F a b -> G a b) -> Paired G l₁ l₂
 | _, _, .nil, _ => .nil
 | _, _, .cons r t, f => .cons (f _ _ r) (Paired.mapP t f)
theorem ObjOk.stay (x : ObjOk P w H h a o) (k : ∀ b u, (b = a \/ H b = some (.own a)) -> h.get? b = some u -> h'.get? b = some u)
  (ho : ∀ b, H b = some (.own a) -> H' b = some (.own a)) (ht : ∀ b xs, H b = some (.tup xs) -> H' b = some (.tup xs)) : ObjOk P w H' h' a o := by
 induction o with
 | lst xs => obtain ⟨z, its, n, r, e⟩ := x; exact ⟨z, its, n, r, k _ _ (.inl rfl) e⟩
 | tup xs => obtain ⟨z, its, r, ob, e, c⟩ := x; exact ⟨z, its, r, ob, k _ _ (.inl rfl) e, c⟩
 | dK kvs => obtain ⟨z, y, vs, r, ob, es, ep, e, c⟩ := x; exact ⟨z, y, vs, r, ob, es, ep, k _ _ (.inl rfl) e, c⟩
 | dT kvs =>
  obtain ⟨z, y, xs, r, ob, es, ep, e, c⟩ := x
  exact ⟨z, y, xs, Paired.mapP r fun p q z => ⟨z.1, ht _ _ z.2.1, z.2.2⟩, ob, es, ep, k _ _ (.inl rfl) e, c⟩
 | set S n => obtain ⟨ob, es, ep, t, e, c⟩ := x; exact ⟨ob, es, ep, t, k _ _ (.inl rfl) e, c⟩
 | ins C dx fs =>
  obtain ⟨d, z, ne, e, mA, ⟨od, es, ep, e2, c⟩, r⟩ := x
  exact ⟨ho _ d, z, ne, k _ _ (.inl rfl) e, mA, ⟨od, es, ep, k _ _ (.inr d) e2, c⟩, r⟩
 | own y => obtain ⟨ob, e⟩ := x; exact ⟨ob, k _ _ (.inl rfl) e⟩
 | xd fs => obtain ⟨mA, ⟨od, es, ep, e, c⟩, r⟩ := x; exact ⟨mA, ⟨od, es, ep, k _ _ (.inl rfl) e, c⟩, r⟩
 | rng lo hi => obtain ⟨t, u, v, e⟩ := x; exact ⟨t, u, v, k _ _ (.inl rfl) e⟩
 | frz ob u ih => obtain ⟨e, q⟩ := x; exact ⟨k _ _ (.inl rfl) e, ih q⟩
 | tbl ps =>
  have e : h.get? a = some { cls := .none, data := .fields ps } := x
  show h'.get? a = some { cls := .none, data := .fields ps }
  exact k a _ (.inl rfl) e
 | met f y =>
  have e : h.get? a = some (W.methodObj (.ref f) (.ref y)) := x
  show h'.get? a = some (W.methodObj (.ref f) (.ref y))
  exact k a _ (.inl rfl) e
 | ext φ => obtain ⟨p, ⟨o, e⟩, st⟩ := x; exact ⟨st _ _ p fun o q => k _ _ (.inl rfl) q, ⟨o, k _ _ (.inl rfl) e⟩, st⟩
theorem HOk.lt (x : HOk P w H h) (e : H a = some o) : a < h.objs.size := (x a o e).lt
theorem HOk.fresh (x : HOk P w H h) (e : h.objs.size <= a) : H a = none := by
 cases q : H a with
 | none => rfl
 | some u => exact absurd (Nat.lt_of_lt_of_le (x.lt q) e) (Nat.lt_irrefl _)
theorem HOk.kept (x : HOk P w H h) (k : ∀ b u, h.get? b = some u -> h'.get? b = some u) : HOk P w H h' := fun a o e =>
 (x a o e).stay (fun b u _ q => k b u q) (fun _ q => q) fun _ _ q => q
theorem HOk.laid (x : HOk P w H h) (k : ∀ b u, h.get? b = some u -> h'.get? b = some u) (hp : h.objs.size <= a) (new : ObjOk P w (upd H a o) h' a o) : HOk P w (upd H a o) h' := fun b u e => by
 have hn := x.fresh hp
 by_cases hb : b = a
 ·subst hb; rw [zas] at e; cases e; exact new
 ·rw [zap hb] at e
  exact (x b u e).stay (fun c v _ q => k c v q) (fun c q => by rw [zap (zav q hn)]; exact q) fun c xs q => by rw [zap (zav q hn)]; exact q
end
def Rd (H : Hp) (a : Addr) (u : HO) : Prop := H a = some u \/ ∃ o, H a = some (.frz o u)
theorem Rd.ok {P : Program} {u : HO} (r : Rd H a u) (x : HOk P w H h) : ObjOk P w H h a u := by
 rcases r with r | ⟨o, r⟩
 ·exact x a u r
 ·obtain ⟨_, q⟩ := x a _ r
  exact q
def Mut : Option HO -> Prop
 | some (.lst _) => True
 | some (.dK _) => True
 | some (.dT _) => True
 | some (.set _ _) => True
 | some (.ins _ _ _) => True
 | some (.ext _) => True
 | _ => False
section
variable {P : Program} {w : World} {H : Hp} {h h' : Heap} {x e : Addr} {o' : HO}
theorem HOk.write (ok : HOk P w H h) (mu : Mut (H x)) (he : e = x \/ H e = some (.own x)) (k : ∀ b u, b ≠ e -> h.get? b = some u -> h'.get? b = some u) (heo : ∃ u, h'.get? e = some u)
  (new : ObjOk P w (upd H x o') h' x o') : HOk P w (upd H x o') h' := fun b u q => by
 have nown : ∀ c y, H c = some (.own y) -> c ≠ x := fun c y r z => by subst z; rw [r] at mu; exact mu
 have ntup : ∀ c xs, H c = some (.tup xs) -> c ≠ x := fun c xs r z => by subst z; rw [r] at mu; exact mu
 by_cases hb : b = x
 ·subst hb; rw [zas] at q; cases q; exact new
 ·rw [zap hb] at q
  by_cases hbe : b = e
  ·have q' : H b = some (.own x) := by
    rcases he with z | z
    ·exact absurd (hbe.trans z) hb
    ·rw [hbe]; exact z
   rw [q] at q'; cases q'
   obtain ⟨v, hv⟩ := heo
   exact ⟨v, by rw [hbe]; exact hv⟩
  ·refine (ok b u q).stay (fun c v hc r => k c v ?_ r) (fun c r => by rw [zap (nown c b r)]; exact r) fun c xs r => by rw [zap (ntup c xs r)]; exact r
   rcases hc with rfl | hc
   ·exact hbe
   ·rintro rfl
    rcases he with z | z
    ·exact nown c b hc z
    ·rw [hc] at z; cases z; exact hb rfl
end
structure Un (fs ex : List Addr) (H H' : Hp) (h h' : Heap) : Prop where
 keep : ∀ b o, h.get? b = some o -> H b = none -> b ∉ fs -> b ∉ ex -> h'.get? b = some o
 slot : ∀ b o, h.get? b = some o -> H b = none -> b ∈ fs -> b ∉ ex -> ∃ sl, h'.get? b = some { o with slots := sl }
 free : ∀ b o, h.get? b = some o -> H b = none -> b ∉ ex -> H' b = none
 there : ∀ b o, h.get? b = some o -> b ∉ ex -> ∃ o', h'.get? b = some o'
 tups : ∀ b xs, H b = some (.tup xs) -> H' b = some (.tup xs)
 frzs : ∀ b o u, H b = some (.frz o u) -> H' b = some (.frz o u)
 tbls : ∀ b ps, H b = some (.tbl ps) -> ∃ more, H' b = some (.tbl (ps ++ more))
section
variable {fs fs' ex ex' : List Addr} {H H1 H2 : Hp} {h h1 h2 h' : Heap} {a x e : Addr} {o : HO}
theorem Un.any (u : Un fs ex H H1 h h1) {ob : Obj} (q : h.get? b = some ob) (n : H b = none) (hx : b ∉ ex) : ∃ sl, h1.get? b = some { ob with slots := sl } := by
 by_cases hb : b ∈ fs
 ·exact u.slot b ob q n hb hx
 ·exact ⟨ob.slots, u.keep b ob q n hb hx⟩
theorem Un.kept (k : ∀ b u, h.get? b = some u -> h'.get? b = some u) : Un fs ex H H h h' :=
 ⟨fun b ob q _ _ _ => k b ob q, fun b ob q _ _ _ => ⟨ob.slots, k b ob q⟩, fun _ _ _ n _ => n, fun b ob q _ => ⟨ob, k b ob q⟩, fun _ _ q => q, fun _ _ _ q => q, fun _ ps q => ⟨#[], by rw [q]; simp⟩⟩
theorem Un.refl : Un fs ex H H h h := Un.kept fun _ _ q => q
theorem Un.laid (k : ∀ b u, h.get? b = some u -> h'.get? b = some u) (hp : h.objs.size <= a) (hn : H a = none) : Un fs ex H (upd H a o) h h' where
 keep := fun b u q _ _ _ => k b u q
 slot := fun b u q _ _ _ => ⟨u.slots, k b u q⟩
 free := fun b u q n _ => by rw [zap (Nat.ne_of_lt (Nat.lt_of_lt_of_le (Heap.lt_size q) hp))]; exact n
 there := fun b u q _ => ⟨u, k b u q⟩
 tups := fun b xs q => by rw [zap (zav q hn)]; exact q
 frzs := fun b u xs q => by rw [zap (zav q hn)]; exact q
 tbls := fun b ps q => ⟨#[], by rw [zap (zav q hn), q]; simp⟩
theorem Un.write (mu : Mut (H x)) (he : e = x \/ H e = some (.own x)) (k : ∀ b u, b ≠ e -> h.get? b = some u -> h'.get? b = some u) (heo : ∃ u, h'.get? e = some u) : Un fs ex H (upd H x o) h h' := by
 have hx : ∀ b, H b = none -> b ≠ x := fun b n z => by subst z; rw [n] at mu; exact mu
 have hb : ∀ b, H b = none -> b ≠ e := fun b n z => by
  subst z
  rcases he with r | r
  ·exact hx b n r
  ·rw [n] at r; cases r
 have hm : ∀ b u, H b = some u -> ¬ Mut (some u) -> b ≠ x := fun b u q nm z => by subst z; rw [q] at mu; exact nm mu
 refine ⟨fun b u q n _ _ => k b u (hb b n) q, fun b u q n _ _ => ⟨u.slots, k b u (hb b n) q⟩, fun b u q n _ => by rw [zap (hx b n)]; exact n, fun b u q _ => ?_,
  fun b xs q => by rw [zap (hm b _ q fun z => z)]; exact q, fun b u xs q => by rw [zap (hm b _ q fun z => z)]; exact q, fun b ps q => ⟨#[], by rw [zap (hm b _ q fun z => z), q]; simp⟩⟩
 by_cases hbe : b = e
 ·subst hbe; exact heo
 ·exact ⟨u, k b u hbe q⟩
end
def trk (h : Heap) (H : Hp) : List Addr := (List.range h.objs.size).filter fun a => (H a).isSome
def hidT (h : Heap) (H : Hp) : Heap := W.hideAll h (trk h H)
theorem zl7 (h : Heap) (H : Hp) : (hidT h H).objs.size = h.objs.size := W.hideAll_size _ _
theorem hidT_get (e : h.get? b = some o) (n : H b = none) : (hidT h H).get? b = some o :=
 W.hideAll_get _ e fun hm => by
  have q : (H b).isSome = true := (List.mem_filter.mp hm).2
  rw [n] at q; simp at q
theorem of_hidT (e : (hidT h H).get? b = some o) : h.get? b = some o /\ H b = none := by
 have e' : h.get? b = some o := W.of_hideAll (trk h H) e
 refine ⟨e', ?_⟩
 cases q : H b with
 | none => rfl
 | some x =>
  have hm : b ∈ trk h H := List.mem_filter.mpr ⟨List.mem_range.mpr (Heap.lt_size e'), by simp [q]⟩
  have z : (hidT h H).get? b = none := W.hideAll_none (trk h H) hm
  rw [z] at e; cases e
def allNews (g h : Heap) (L : Addr) : List (Addr × Obj) := (List.range h.objs.size).filterMap fun a => if a = L \/ (g.get? a).isSome = true then none else (h.get? a).map fun o => (a, o)
def rest (g h : Heap) (L d : Addr) : List (Addr × Obj) := (allNews g h L).filter fun p => decide (p.1 ≠ d)
structure Mod (K : W.Frag) (mg : Str -> Option Value) (base : Heap) : Prop where
 kin : K.In base
 glob : base.Ns mainGlobals mg
 blt : ∃ mb, base.Ns builtinsNs mb /\ ∀ x : Str, x ≠ "__name__" -> mb x = bootBuiltins x
 nolimit : base.NoLimit
structure Cx where
 prog : Program
 w : World
 K : W.Frag
 mg : Str -> Option Value
 base : Heap
 A : Around
 N : List Str
 s₀ : Shared
 H₀ : Hp
 env : Env
 outer : List Env
 stack : List Env
 ex : List Addr
 fn : Str -> Bool
 calm : Bool
 pn : List (Addr × Obj)
 xe : Value -> Shared -> Prop
def frs (l : List Env) : List Addr := l.filterMap (·.frame)
abbrev Cx.fs (X : Cx) : List Addr := frs X.outer
def Vis (sc : Scope) (x : Str) : Prop := sc.names.lookup x = some .local \/ sc.names.lookup x = some .cell \/ sc.names.lookup x = some .free
def Loc (sc : Scope) (x : Str) : Prop := sc.names.lookup x = some .local \/ sc.names.lookup x = some .cell
def Look (env : Env) (h : Heap) (m : Str -> Option Value) (x : Str) (u : Value) : Prop :=
 (env.kindOf x = some .local /\ m x = some u) \/ ((env.kindOf x = some .cell \/ env.kindOf x = some .free) /\ ∃ c, env.cells.lookup x = some c /\ h.IsCell c (some u))
structure Cx.Ok (X : Cx) : Prop where
 mod : Mod X.K X.mg X.base
 kind : X.env.scope.kind = .function
 glob : X.env.globals = mainGlobals
 blt : X.env.builtins = builtinsNs
 above : X.s₀.heap.objs.size <= X.env.locals
 inj : ∀ x y c, X.env.cells.lookup x = some c -> X.env.cells.lookup y = some c -> x = y
 has : ∀ x, (X.env.kindOf x = some .cell \/ X.env.kindOf x = some .free) -> ∃ c, X.env.cells.lookup x = some c
 cab : ∀ x c, X.fn x = true -> X.env.cells.lookup x = some c -> X.s₀.heap.objs.size <= c
 hd : X.calm = true -> X.A.handled = none
 frames : X.A.frames = some X.stack
 stk : X.stack = X.outer \/ (X.stack = X.env :: X.outer /\ X.env.frame = some X.env.locals)
 exf : ∀ b ∈ X.ex, b ≠ X.env.locals /\ ∀ x c, X.env.cells.lookup x = some c -> c ≠ b
 bs : ∀ b o, X.base.get? b = some o -> X.s₀.heap.get? b = some o /\ X.H₀ b = none
 bsz : X.base.objs.size <= X.s₀.heap.objs.size
 noex : ∀ b o, X.base.get? b = some o -> b ∉ X.ex
 exfs : ∀ b ∈ X.ex, b ∉ X.fs
 funs : X.s₀.heap.FunFrames X.base X.outer
 frf : ∀ b ∈ X.fs, X.H₀ b = none
structure Inv (X : Cx) (pins : List (Addr × Obj)) (σ : List (Option V)) (H : Hp) (s : Shared) : Prop where
 ok : X.Ok
 os : s.os = X.s₀.os
 bare : AllBare s.gens
 base : Un X.fs X.ex X.H₀ H X.s₀.heap s.heap
 loc : ∃ m, s.heap.Ns X.env.locals m /\ ∀ (i : Nat) (x : Str) (v : V), X.N[i]? = some x -> σ[i]? = some (some v) -> Vis X.env.scope x -> ∃ u, RelV v u /\ Look X.env s.heap m x u
 cell : ∀ x c, X.env.cells.lookup x = some c -> ∃ v, s.heap.IsCell c v
 free : H X.env.locals = none
 freeC : ∀ x c, X.env.cells.lookup x = some c -> H c = none
 pin : ∀ p ∈ X.pn ++ pins, s.heap.get? p.1 = some p.2 /\ H p.1 = none /\ p.1 ≠ X.env.locals /\ p.1 ∉ X.fs /\ ∀ v, p.2.data ≠ .cell v
 hok : HOk X.prog X.w H s.heap
 len : σ.length = X.N.length
section
variable {X : Cx} {pins : List (Addr × Obj)} {σ : List (Option V)} {H H' : Hp} {s : Shared} {h' : Heap}
theorem Cx.Ok.nofr (ok : X.Ok) (e : X.base.get? b = some o) : b ∉ X.fs := fun hb => by
 have := (ok.funs.mem hb).1
 rw [e] at this; cases this
theorem Inv.bs (I : Inv X pins σ H s) : ∀ b o, X.base.get? b = some o -> s.heap.get? b = some o /\ H b = none := fun b o e =>
 ⟨I.base.keep b o (I.ok.bs b o e).1 (I.ok.bs b o e).2 (I.ok.nofr e) (I.ok.noex b o e), I.base.free b o (I.ok.bs b o e).1 (I.ok.bs b o e).2 (I.ok.noex b o e)⟩
theorem Inv.bk (I : Inv X pins σ H s) : ∀ b o, X.base.get? b = some o -> s.heap.get? b = some o := fun b o e => (I.bs b o e).1
theorem Inv.mod (I : Inv X pins σ H s) : Mod X.K X.mg X.base := I.ok.mod
theorem Inv.kIn (I : Inv X pins σ H s) : X.K.In s.heap := I.ok.mod.kin.keeps I.bk
theorem Inv.lt (I : Inv X pins σ H s) : X.env.locals < s.heap.objs.size := let ⟨_, hn, _⟩ := I.loc; hn.lt
theorem Inv.sz (I : Inv X pins σ H s) : X.s₀.heap.objs.size <= s.heap.objs.size := Nat.le_trans I.ok.above (Nat.le_of_lt I.lt)
theorem Inv.nofs (I : Inv X pins σ H s) (h : s.heap.objs.size <= a) : a ∉ X.fs := fun hb => by
 obtain ⟨_, o, ho, _⟩ := I.ok.funs.mem hb
 exact absurd (Nat.lt_of_lt_of_le (Heap.lt_size ho) (Nat.le_trans I.sz h)) (Nat.lt_irrefl _)
theorem Inv.cne (I : Inv X pins σ H s) : ∀ x c, X.env.cells.lookup x = some c -> c ≠ X.env.locals := fun x c e z => by
 obtain ⟨v, o, ho, hd⟩ := I.cell x c e
 obtain ⟨m, ⟨o', es, ep, ho', hd', _⟩, _⟩ := I.loc
 rw [z, ho'] at ho; cases ho; rw [hd'] at hd; cases hd
theorem Inv.funs (I : Inv X pins σ H s) : s.heap.FunFrames X.base X.outer := by
 have all : ∀ (l : List Env), (∀ b ∈ frs l, b ∈ X.fs) -> X.s₀.heap.FunFrames X.base l -> s.heap.FunFrames X.base l := by
  intro l
  induction l with
  | nil => intro _ _; trivial
  | cons env r ih =>
   intro hs hl
   obtain ⟨hk, ⟨L, o, hf, hn, ho, hd⟩, hr⟩ := hl
   have hL : L ∈ X.fs := hs L (by unfold frs; rw [List.filterMap_cons, hf]; exact List.mem_cons_self)
   obtain ⟨sl, e⟩ := I.base.slot L o ho (I.ok.frf L hL) hL fun z => I.ok.exfs L z hL
   exact ⟨hk, ⟨L, _, hf, hn, e, hd⟩, ih (fun b hb => hs b (by unfold frs; rw [List.filterMap_cons, hf]; exact List.mem_cons_of_mem _ hb)) hr⟩
 exact all X.outer (fun _ hb => hb) I.ok.funs
theorem Inv.stack (I : Inv X pins σ H s) : s.heap.FunFrames X.base X.stack := by
 rcases I.ok.stk with e | ⟨e, hf⟩
 ·rw [e]; exact I.funs
 ·rw [e]
  obtain ⟨m, hn, _⟩ := I.loc
  refine .cons (by rw [I.ok.kind]; decide) hf hn ?_ I.funs
  exact Heap.get?_none_of_le (Nat.le_trans I.ok.bsz I.ok.above)
theorem Inv.stkSub (I : Inv X pins σ H s) : ∀ b ∈ frs X.stack, b ∈ X.env.locals :: X.fs := fun b hb => by
 rcases I.ok.stk with e | ⟨e, hf⟩
 ·rw [e] at hb; exact List.mem_cons_of_mem _ hb
 ·rw [e] at hb
  unfold frs at hb
  rw [List.filterMap_cons, hf] at hb
  exact hb
theorem Inv.stkFree (I : Inv X pins σ H s) : ∀ b ∈ frs X.stack, H b = none := fun b hb => by
 rcases List.mem_cons.mp (I.stkSub b hb) with e | hb
 ·rw [e]; exact I.free
 ·obtain ⟨_, o, ho, _⟩ := I.ok.funs.mem hb
  exact I.base.free b o ho (I.ok.frf b hb) fun z => I.ok.exfs b z hb
theorem Inv.step (I : Inv X pins σ H s)
  (hch : ∀ b ∈ ch, (b ∈ X.ex \/ X.s₀.heap.objs.size <= b) /\ b ≠ X.env.locals /\ (∀ x c, X.env.cells.lookup x = some c -> c ≠ b) /\ ∀ p ∈ X.pn ++ pins, p.1 ≠ b)
  (keep : ∀ b o, b ≠ X.env.locals -> b ∉ X.fs -> b ∉ ch -> s.heap.get? b = some o -> H b = none -> h'.get? b = some o)
  (slot : ∀ b o, b ≠ X.env.locals -> b ∈ X.fs -> b ∉ ch -> s.heap.get? b = some o -> H b = none -> ∃ sl, h'.get? b = some { o with slots := sl }) (free : ∀ b o, b ∉ ch -> s.heap.get? b = some o -> H b = none -> H' b = none)
  (there : ∀ b o, b ∉ ch -> s.heap.get? b = some o -> ∃ o', h'.get? b = some o')
  (tups : ∀ b xs, H b = some (.tup xs) -> H' b = some (.tup xs)) (frzs : ∀ b o u, H b = some (.frz o u) -> H' b = some (.frz o u)) (tbls : ∀ b ps, H b = some (.tbl ps) -> ∃ more, H' b = some (.tbl (ps ++ more)))
  (ns : ∀ m, s.heap.Ns X.env.locals m -> h'.Ns X.env.locals m) (hok : HOk X.prog X.w H' h') (hg : AllBare g') :
  Inv X pins σ H' { s with heap := h', gens := g', drawn := d', toks := t' } := by
 have neL : ∀ b o, X.s₀.heap.get? b = some o -> b ≠ X.env.locals := fun b o e => Nat.ne_of_lt (Nat.lt_of_lt_of_le (Heap.lt_size e) I.ok.above)
 have neC : ∀ b o, X.s₀.heap.get? b = some o -> b ∉ X.ex -> b ∉ ch := fun b o e hx hb => by
  rcases (hch b hb).1 with z | z
  ·exact hx z
  ·exact absurd (Nat.lt_of_lt_of_le (Heap.lt_size e) z) (Nat.lt_irrefl _)
 have cellK : ∀ x c, X.env.cells.lookup x = some c -> ∀ v, s.heap.IsCell c v -> h'.IsCell c v := fun x c e v ⟨o, ho, hd⟩ => by
  have nch : c ∉ ch := fun z => (hch c z).2.2.1 x c e rfl
  by_cases hc : c ∈ X.fs
  ·obtain ⟨sl, q⟩ := slot c o (I.cne x c e) hc nch ho (I.freeC x c e)
   exact ⟨_, q, hd⟩
  ·exact ⟨o, keep c o (I.cne x c e) hc nch ho (I.freeC x c e), hd⟩
 refine ⟨I.ok, I.os, hg, ⟨fun b o e n hb hx => ?_, fun b o e n hb hx => ?_, fun b o e n hx => ?_, fun b o e hx => ?_, fun b xs e => tups b xs (I.base.tups b xs e), fun b o xs e => frzs b o xs (I.base.frzs b o xs e), fun b ps e => ?_⟩, ?_, fun x c e => ?_, ?_, fun x c e => ?_, fun p hp => ?_, hok, I.len⟩
 ·exact keep b o (neL b o e) hb (neC b o e hx) (I.base.keep b o e n hb hx) (I.base.free b o e n hx)
 ·obtain ⟨sl, e1⟩ := I.base.slot b o e n hb hx
  obtain ⟨sl', e2⟩ := slot b _ (neL b o e) hb (neC b o e hx) e1 (I.base.free b o e n hx)
  exact ⟨sl', e2⟩
 ·obtain ⟨o', e1⟩ := I.base.there b o e hx
  exact free b o' (neC b o e hx) e1 (I.base.free b o e n hx)
 ·obtain ⟨o', e1⟩ := I.base.there b o e hx
  exact there b o' (neC b o e hx) e1
 ·obtain ⟨m1, e1⟩ := I.base.tbls b ps e
  obtain ⟨m2, e2⟩ := tbls b _ e1
  exact ⟨m1 ++ m2, by rw [e2, Array.append_assoc]⟩
 ·obtain ⟨m, hn, hl⟩ := I.loc
  refine ⟨m, ns m hn, fun i x v e1 e2 e3 => ?_⟩
  obtain ⟨u, r, l⟩ := hl i x v e1 e2 e3
  refine ⟨u, r, ?_⟩
  rcases l with l | ⟨k, c, e, z⟩
  ·exact .inl l
  ·exact .inr ⟨k, c, e, cellK x c e _ z⟩
 ·obtain ⟨v, z⟩ := I.cell x c e
  exact ⟨v, cellK x c e v z⟩
 ·obtain ⟨m, ⟨o, _, _, ho, _⟩, _⟩ := I.loc
  exact free _ o (fun z => (hch _ z).2.1 rfl) ho I.free
 ·obtain ⟨v, o, ho, hd⟩ := I.cell x c e
  exact free c o (fun z => (hch c z).2.2.1 x c e rfl) ho (I.freeC x c e)
 ·obtain ⟨e, n, ne, nf, d⟩ := I.pin p hp
  have nch : p.1 ∉ ch := fun z => (hch p.1 z).2.2.2 p hp rfl
  exact ⟨keep p.1 p.2 ne nf nch e n, free p.1 p.2 nch e n, ne, nf, d⟩
theorem Inv.un (I : Inv X pins σ H s) (u : Un X.fs [] H H' s.heap h') (hok : HOk X.prog X.w H' h') : Inv X pins σ H' { s with heap := h', toks := t' } := by
  obtain ⟨m, ⟨o, es, ep, ho, r⟩, _⟩ := id I.loc
  obtain ⟨sl, hL⟩ := u.any ho I.free (by simp)
  exact I.step (g' := s.gens) (d' := s.drawn) (ch := []) (fun _ z => nomatch z) (fun b o _ hb _ e n => u.keep b o e n hb (by simp)) (fun b o _ hb _ e n => u.slot b o e n hb (by simp)) (fun b o _ e n => u.free b o e n (by simp)) (fun b o _ e => u.there b o e (by simp)) u.tups u.frzs u.tbls (fun m' hm => by
    obtain ⟨o', es', ep', ho', r'⟩ := hm
    rw [ho] at ho'; cases ho'
    exact ⟨_, es', ep', hL, r'⟩) hok I.bare
theorem Inv.call {ch : List Addr} (I : Inv X pins σ H s) (u : Un (frs X.stack) ch H H' s.heap h') (hok : HOk X.prog X.w H' h') (hg : AllBare g')
  (hch : ∀ b ∈ ch, (b ∈ X.ex \/ X.s₀.heap.objs.size <= b) /\ b ≠ X.env.locals /\ (∀ x c, X.env.cells.lookup x = some c -> c ≠ b) /\ ∀ p ∈ X.pn ++ pins, p.1 ≠ b) :
  Inv X pins σ H' { s with heap := h', gens := g', drawn := d', toks := t' } := by
 obtain ⟨m, ⟨o, es, ep, ho, r⟩, _⟩ := id I.loc
 obtain ⟨sl, hL⟩ := u.any ho I.free fun z => (hch _ z).2.1 rfl
 exact I.step (ch := ch) hch (fun b o hL hb hc e n => u.keep b o e n (fun z => (List.mem_cons.mp (I.stkSub b z)).elim hL hb) hc) (fun b o _ _ hc e n => u.any e n hc) (fun b o hc e n => u.free b o e n hc) (fun b o hc e => u.there b o e hc) u.tups u.frzs u.tbls (fun m' hm => by
  obtain ⟨o', es', ep', ho', r'⟩ := hm
  rw [ho] at ho'; cases ho'
  exact ⟨_, es', ep', hL, r'⟩) hok hg
theorem Inv.turned (I : Inv X pins σ H s) (k : ∀ b o, b ≠ it -> s.heap.get? b = some o -> h'.get? b = some o) (hn : H it = none) (hL : it ≠ X.env.locals)
  (h1 : it ∈ X.ex \/ X.s₀.heap.objs.size <= it) (h2 : ∀ x c, X.env.cells.lookup x = some c -> c ≠ it) (h3 : ∀ p ∈ X.pn ++ pins, p.1 ≠ it) : Inv X pins σ H { s with heap := h', toks := t' } := by
 have nit : ∀ b u, H b = some u -> b ≠ it := fun b u e z => by rw [z, hn] at e; cases e
 refine I.step (g' := s.gens) (d' := s.drawn) (ch := [it]) (fun b hb => ?_) (fun b o _ _ hc e _ => k b o (fun z => hc (by simp [z])) e) (fun b o _ _ hc e _ => ⟨o.slots, k b o (fun z => hc (by simp [z])) e⟩) (fun _ _ _ _ n => n)
  (fun b o hc e => ⟨o, k b o (fun z => hc (by simp [z])) e⟩) (fun _ _ e => e) (fun _ _ _ e => e) (fun b ps e => ⟨#[], by rw [e]; simp⟩) (fun m hm => ?_) (fun b u e => ?_) I.bare
 ·have e : b = it := by simpa using hb
  subst e
  exact ⟨h1, hL, h2, h3⟩
 ·obtain ⟨o, es, ep, ho, r⟩ := hm
  exact ⟨o, es, ep, k _ o (Ne.symm hL) ho, r⟩
 ·refine (I.hok b u e).stay (fun c v hc q => k c v ?_ q) (fun _ q => q) fun _ _ q => q
  rcases hc with z | z
  ·rw [z]; exact nit b u e
  ·exact nit c _ z
theorem Inv.tok (I : Inv X pins σ H s) (t : Nat) : Inv X pins σ H { s with toks := t } := I.un (h' := s.heap) (t' := t) Un.refl I.hok
theorem Inv.kept (I : Inv X pins σ H s) (k : ∀ b u, s.heap.get? b = some u -> h'.get? b = some u) : Inv X pins σ H { s with heap := h', toks := t' } := I.un (Un.kept k) (I.hok.kept k)
theorem Inv.laid {o : HO} (I : Inv X pins σ H s) (k : ∀ b u, s.heap.get? b = some u -> h'.get? b = some u) (hp : s.heap.objs.size <= a) (new : ObjOk X.prog X.w (upd H a o) h' a o) :
  Inv X pins σ (upd H a o) { s with heap := h', toks := t' } := I.un (Un.laid k hp (I.hok.fresh hp)) (I.hok.laid k hp new)
theorem Inv.write {x e : Addr} {o : HO} (I : Inv X pins σ H s) (mu : Mut (H x)) (he : e = x \/ H e = some (.own x)) (k : ∀ b u, b ≠ e -> s.heap.get? b = some u -> h'.get? b = some u) (heo : ∃ u, h'.get? e = some u)
  (new : ObjOk X.prog X.w (upd H x o) h' x o) : Inv X pins σ (upd H x o) { s with heap := h', toks := t' } := I.un (Un.write mu he k heo) (I.hok.write mu he k heo new)
theorem Inv.pins_of (I : Inv X pins σ H s) (h : ∀ p ∈ pins', s.heap.get? p.1 = some p.2 /\ H p.1 = none /\ p.1 ≠ X.env.locals /\ p.1 ∉ X.fs /\ ∀ v, p.2.data ≠ .cell v) : Inv X pins' σ H s :=
 ⟨I.ok, I.os, I.bare, I.base, I.loc, I.cell, I.free, I.freeC, fun p hp => (List.mem_append.mp hp).elim (fun z => I.pin p (List.mem_append_left _ z)) (h p), I.hok, I.len⟩
theorem zjX (hN : N.Nodup) (a : N[i]? = some x) (b : N[j]? = some x) : i = j := by
 obtain ⟨h1, e1⟩ := List.getElem?_eq_some_iff.mp a
 obtain ⟨h2, e2⟩ := List.getElem?_eq_some_iff.mp b
 exact (List.getElem_inj hN).mp (e1.trans e2.symm)
theorem zle {M : Model} (I : Inv X pins σ H s) (hN : X.N.Nodup) (hi : X.N[i]? = some x) (hx : Loc X.env.scope x) (r : RelV v u)
    (h : ∀ s', Inv X pins (σ.set i (some v)) H s' -> (∃ a, Heap.SameBut a s.heap s'.heap /\ (a = X.env.locals \/ X.env.cells.lookup x = some a)) -> Q () s') (hf : X.fn x = true \/ X.env.scope.names.lookup x = some .local := by first | exact .inl rfl | exact .inr rfl | assumption) : wpAny M A (storeName X.env x u) Q E s := by
  obtain ⟨m, hn, hl⟩ := id I.loc
  have hcls : (X.env.scope.kind == .class || (X.env.scope.kind == .module && X.env.locals != X.env.globals)) = false := by rw [I.ok.kind]; rfl
  have hiσ : i < σ.length := by rw [I.len]; exact (List.getElem?_eq_some_iff.mp hi).1
  have cne := I.cne
  have tracked : ∀ {a : Addr} {h' : Heap}, (∃ o, s.heap.get? a = some o /\ H a = none) -> Heap.SameBut a s.heap h' -> HOk X.prog X.w H h' := fun {a h'} ha hs b ob e => by
    obtain ⟨_, _, hfree⟩ := ha
    refine (I.hok b ob e).stay (fun c w' hc q => (hs.2 c ?_).trans q) (fun _ q => q) fun _ _ q => q
    rintro rfl
    rcases hc with rfl | hc
    . rw [hfree] at e; cases e
    . rw [hfree] at hc; cases hc
  rcases hx with hk | hk
  . refine wpAny_storeName_local hk hn (fun h' hn' hs => ?_) hcls
    obtain ⟨oL, _, _, hoL, _⟩ := id hn
    refine h _ ⟨I.ok, I.os, I.bare, ⟨fun b o e n hb hx => ?_, fun b o e n hb hx => ?_, I.base.free, fun b o e hx => ?_, I.base.tups, I.base.frzs, I.base.tbls⟩, ⟨_, hn', fun j y v' e1 e2 e3 => ?_⟩, fun y c e => ?_, I.free, I.freeC, fun p hp => ?_, tracked ⟨oL, hoL, I.free⟩ hs, by simpa using I.len⟩ ⟨_, hs, .inl rfl⟩
    . exact (hs.2 b (Nat.ne_of_lt (Nat.lt_of_lt_of_le (Heap.lt_size e) I.ok.above))).trans (I.base.keep b o e n hb hx)
    . obtain ⟨sl, e1⟩ := I.base.slot b o e n hb hx
      exact ⟨sl, (hs.2 b (Nat.ne_of_lt (Nat.lt_of_lt_of_le (Heap.lt_size e) I.ok.above))).trans e1⟩
    . obtain ⟨o', e1⟩ := I.base.there b o e hx
      exact ⟨o', (hs.2 b (Nat.ne_of_lt (Nat.lt_of_lt_of_le (Heap.lt_size e) I.ok.above))).trans e1⟩
    . by_cases hj : j = i
      . subst hj
        rw [hi] at e1; cases e1
        rw [List.getElem?_set_self hiσ] at e2
        cases e2
        exact ⟨u, r, .inl ⟨hk, by simp⟩⟩
      . rw [List.getElem?_set_ne (Ne.symm hj)] at e2
        obtain ⟨u', r', q⟩ := hl j y v' e1 e2 e3
        refine ⟨u', r', ?_⟩
        rcases q with ⟨k, e⟩ | ⟨k, c, e, z⟩
        . refine .inl ⟨k, ?_⟩
          have : y ≠ x := fun e => hj (zjX hN e1 (e ▸ hi))
          simp [this, e]
        . exact .inr ⟨k, c, e, z.sameBut hs (cne y c e)⟩
    . obtain ⟨w', z⟩ := I.cell y c e
      exact ⟨w', z.sameBut hs (cne y c e)⟩
    . obtain ⟨e, n, ne, nf, d⟩ := I.pin p hp
      exact ⟨(hs.2 p.1 ne).trans e, n, ne, nf, d⟩
  . have hfn : X.fn x = true := by
      rcases hf with z | z
      . exact z
      . rw [z] at hk; cases hk
    obtain ⟨c, hc⟩ := I.ok.has x (.inl hk)
    obtain ⟨w', z⟩ := I.cell x c hc
    refine wpAny_storeName_cell I.ok.kind hk hc z (fun h' hc' hs => ?_)
    obtain ⟨oc, hoc, hocd⟩ := id z
    refine h { s with heap := h' } ⟨I.ok, I.os, I.bare, ⟨fun b o e n hb hx => ?_, fun b o e n hb hx => ?_, I.base.free, fun b o e hx => ?_, I.base.tups, I.base.frzs, I.base.tbls⟩, ⟨m, hn.sameBut hs (Ne.symm (cne x c hc)), fun j y v' e1 e2 e3 => ?_⟩, fun y c' e => ?_, I.free, I.freeC, fun p hp => ?_, tracked ⟨oc, hoc, I.freeC x c hc⟩ hs, by simpa using I.len⟩ ⟨c, hs, .inr hc⟩
    . exact (hs.2 b (Nat.ne_of_lt (Nat.lt_of_lt_of_le (Heap.lt_size e) (I.ok.cab x c hfn hc)))).trans (I.base.keep b o e n hb hx)
    . obtain ⟨sl, e1⟩ := I.base.slot b o e n hb hx
      exact ⟨sl, (hs.2 b (Nat.ne_of_lt (Nat.lt_of_lt_of_le (Heap.lt_size e) (I.ok.cab x c hfn hc)))).trans e1⟩
    . obtain ⟨o', e1⟩ := I.base.there b o e hx
      exact ⟨o', (hs.2 b (Nat.ne_of_lt (Nat.lt_of_lt_of_le (Heap.lt_size e) (I.ok.cab x c hfn hc)))).trans e1⟩
    . by_cases hj : j = i
      . subst hj
        rw [hi] at e1; cases e1
        rw [List.getElem?_set_self hiσ] at e2
        cases e2
        exact ⟨u, r, .inr ⟨.inl hk, c, hc, hc'⟩⟩
      . rw [List.getElem?_set_ne (Ne.symm hj)] at e2
        obtain ⟨u', r', q⟩ := hl j y v' e1 e2 e3
        refine ⟨u', r', ?_⟩
        rcases q with q | ⟨k, c', e, z'⟩
        . exact .inl q
        . refine .inr ⟨k, c', e, z'.sameBut hs ?_⟩
          rintro rfl
          exact hj (zjX hN e1 (I.ok.inj _ _ _ e hc ▸ hi))
    . by_cases hcc : c' = c
      . subst hcc; exact ⟨_, hc'⟩
      . obtain ⟨w2, z2⟩ := I.cell y c' e
        exact ⟨w2, z2.sameBut hs hcc⟩
    . obtain ⟨e, n, ne, nf, d⟩ := I.pin p hp
      refine ⟨(hs.2 p.1 ?_).trans e, n, ne, nf, d⟩
      intro q
      rw [q, hoc] at e
      have q' : oc = p.2 := Option.some.inj e
      exact d w' (by rw [<- q']; exact hocd)
theorem zjU {M : Model} (I : Inv X pins σ H s) (hN : X.N.Nodup) (hi : X.N[i]? = some x) (hx : Loc X.env.scope x) (r : RelV v u)
  (h : ∀ s', Inv X pins (σ.set i (some v)) H s' -> Q () s') (hf : X.fn x = true \/ X.env.scope.names.lookup x = some .local := by first | exact .inl rfl | exact .inr rfl | assumption) : wpAny M A (storeName X.env x u) Q E s :=
 zle I hN hi hx r (fun s' I' _ => h s' I') hf
end
abbrev XK := Value -> Option Addr -> Hp -> Prop
abbrev St := List (Option V)
abbrev VK := V -> Hp -> Prop
abbrev TE := St -> Hp -> VK -> Prop
abbrev TT := St -> Hp -> (Bool -> Hp -> Prop) -> Prop
abbrev TA := St -> Hp -> (List V -> Hp -> Prop) -> Prop
structure Ends where
 nx : St -> Hp -> Prop
 rt : VK
 bk : St -> Hp -> Prop := fun _ _ => False
 ct : St -> Hp -> Prop := fun _ _ => False
abbrev TS := Ends -> St -> Hp -> Prop
def EP (X : Cx) (pins : List (Addr × Obj)) (σ : St) (Q : VK) (u : Value) (s' : Shared) : Prop := ∃ v H', Inv X pins σ H' s' /\ RelV v u /\ Q v H'
def TP (X : Cx) (pins : List (Addr × Obj)) (σ : St) (Q : Bool -> Hp -> Prop) (b : Bool) (s' : Shared) : Prop := ∃ H', Inv X pins σ H' s' /\ Q b H'
def AP (X : Cx) (pins : List (Addr × Obj)) (σ : St) (Q : List V -> Hp -> Prop) (us : List Value) (s' : Shared) : Prop := ∃ vs H', Inv X pins σ H' s' /\ Vals vs us /\ Q vs H'
def SP (X : Cx) (pins : List (Addr × Obj)) (D : Ends) (f : Flow) (s' : Shared) : Prop :=
 match f with
 | .next => ∃ σ' H', Inv X pins σ' H' s' /\ D.nx σ' H'
 | .brk => ∃ σ' H', Inv X pins σ' H' s' /\ D.bk σ' H'
 | .cont => ∃ σ' H', Inv X pins σ' H' s' /\ D.ct σ' H'
 | .ret u => ∃ v σ' H', Inv X pins σ' H' s' /\ RelV v u /\ D.rt v H'
def PE (X : Cx) (e : Expr) (t : TE) : Prop :=
 ∀ (pins : List (Addr × Obj)) (s : Shared) (σ : St) (H : Hp) (Q : VK), Inv X pins σ H s -> t σ H Q -> wpAny (model X.prog X.w) X.A (eval e X.env) (EP X pins σ Q) X.xe s
def PT (X : Cx) (e : Expr) (t : TT) : Prop :=
 ∀ (pins : List (Addr × Obj)) (s : Shared) (σ : St) (H : Hp) (Q : Bool -> Hp -> Prop), Inv X pins σ H s -> t σ H Q -> wpAny (model X.prog X.w) X.A (isTrue e X.env (eval e X.env)) (TP X pins σ Q) X.xe s
def PW (X : Cx) (e : Expr) (t : TT) : Prop :=
 ∀ (whole : Sem Value) (pins : List (Addr × Obj)) (s : Shared) (σ : St) (H : Hp) (Q : Bool -> Hp -> Prop), Inv X pins σ H s -> t σ H Q -> wpAny (model X.prog X.w) X.A (isTrue e X.env whole) (TP X pins σ Q) X.xe s
theorem PW.pt {t : TT} (h : PW X e t) : PT X e t := h _
def PA (X : Cx) (es : List Expr) (t : TA) : Prop :=
 ∀ (pos : Pos) (pins : List (Addr × Obj)) (s : Shared) (σ : St) (H : Hp) (Q : List V -> Hp -> Prop), Inv X pins σ H s -> t σ H Q -> wpAny (model X.prog X.w) X.A (spliced (backTo pos (starEach es X.env))) (AP X pins σ Q) X.xe s
def PS (X : Cx) (st : Stmt) (t : TS) : Prop :=
 ∀ (pins : List (Addr × Obj)) (s : Shared) (σ : St) (H : Hp) (D : Ends), Inv X pins σ H s -> t D σ H -> wpAny (model X.prog X.w) X.A (exec st X.env) (SP X pins D) X.xe s
def PSs (X : Cx) (st : List Stmt) (t : TS) : Prop :=
 ∀ (pins : List (Addr × Obj)) (s : Shared) (σ : St) (H : Hp) (D : Ends), Inv X pins σ H s -> t D σ H -> wpAny (model X.prog X.w) X.A (execs st X.env) (SP X pins D) X.xe s
theorem thn {α : Type} {t : Sem α} {Q Q' : α -> Shared -> Prop} {M : Model} (h : wpAny M A t Q E s) (hQ : ∀ a s, Q a s -> Q' a s) : wpAny M A t Q' E s := wpAny_mono h hQ fun _ _ x => x
section
variable {X : Cx}
def tVar (i : Nat) : TE := fun σ H Q => ∃ v, σ[i]? = some (some v) /\ Q v H
def tC (v : V) : TE := fun _ H Q => Q v H
theorem zbj (hN : X.N[i]? = some x) (hv : Vis X.env.scope x) (hd : (x == ("__debug__" : Str)) = false := by decide) (hcd : (x == ("__classdict__" : Str)) = false := by decide) : PE X (.Name x pos) (tVar i) := by
 intro pins s σ H Q I h
 obtain ⟨v, e, h⟩ := h
 obtain ⟨m, hn, hl⟩ := I.loc
 obtain ⟨u, r, l⟩ := hl i x v hN e hv
 have fin : EP X pins σ Q u s := ⟨v, H, I, r, h⟩
 rcases l with ⟨hk, hm⟩ | ⟨hk, c, hc, hcell⟩
 ·exact wpAny_Name (wpAny_loadName_local I.ok.kind hk hn hm fin) hd
 ·rcases hk with hk | hk
  ·exact wpAny_Name (wpAny_loadName_cell I.ok.kind hk hc hcell fin) hd
  ·exact wpAny_Name (wpAny_loadName_free I.ok.kind hk hc hcell fin hcd) hd
theorem zlU {i j pos} : PE X (.Constant (.int i) j pos) (tC (.int i)) := fun _ _ _ H _ I h => wpAny_Constant_int ⟨.int i, H, I.tok _, ⟨_, rfl⟩, h⟩
theorem pe_bl {b j pos} : PE X (.Constant (.bool b) j pos) (tC (.bl b)) := fun _ _ _ H _ I h => Constant_bool ⟨.bl b, H, I, rfl, h⟩
theorem pe_non {j pos} : PE X (.Constant .none j pos) (tC .non) := fun _ _ _ H _ I h => Constant_none ⟨.non, H, I, rfl, h⟩
theorem pe_str {x j pos} : PE X (.Constant (.str x) j pos) (tC (.str x)) := fun _ _ _ H _ I h => Calls.Constant_str ⟨.str x, H, I.tok _, ⟨_, rfl⟩, h⟩
def Gl (X : Cx) (x : Str) : Prop := X.env.kindOf x = some .globalImplicit
theorem ld_glob {Q : Value -> Shared -> Prop} (I : Inv X pins σ H s) (hg : Gl X x) (hm : X.mg x = some u) (h : Q u s)
  (hd : (x == ("__debug__" : Str)) = false := by decide) : wpAny (model X.prog X.w) X.A (eval (.Name x pos) X.env) Q E s :=
 Calls.Name_function_global I.ok.kind hg (Calls.loadGlobal_global (by rw [I.ok.glob]; exact I.mod.glob.keeps I.bk) hm h) hd
theorem zhV {Q : Value -> Shared -> Prop} (I : Inv X pins σ H s) (hg : Gl X x) (hm : X.mg x = none) (hv : bootBuiltins x = some u) (h : Q u s)
  (hn : x ≠ "__name__" := by decide) (hd : (x == ("__debug__" : Str)) = false := by decide) : wpAny (model X.prog X.w) X.A (eval (.Name x pos) X.env) Q E s := by
 obtain ⟨mb, h1, h2⟩ := I.mod.blt
 exact Calls.Name_function_global I.ok.kind hg (Calls.loadGlobal_builtin (by rw [I.ok.glob]; exact I.mod.glob.keeps I.bk) hm (by rw [I.ok.blt]; exact h1.keeps I.bk) ((h2 x hn).trans hv) h) hd
theorem pe_bltn (hg : Gl X x) (hm : X.mg x = none) (hv : bootBuiltins x = some u) (r : RelV v u) (hn : x ≠ "__name__" := by decide) (hd : (x == ("__debug__" : Str)) = false := by decide) : PE X (.Name x pos) (tC v) :=
 fun _ _ _ H _ I h => zhV I hg hm hv ⟨v, H, I, r, h⟩ hn hd
variable {a b : Expr} {ta tb : TE} {pos : Pos}
variable {tA tB' : TT} {rest : List Expr}
def tAnd (t u : TT) : TT := fun σ H Q => t σ H fun c H1 => if c = true then u σ H1 Q else Q false H1
def tOr (t u : TT) : TT := fun σ H Q => t σ H fun c H1 => if c = true then Q true H1 else u σ H1 Q
def tNot (t : TT) : TT := fun σ H Q => t σ H fun c H1 => Q (!c) H1
theorem pw_and1 (ha : PT X a tA) : PW X (.BoolOp .And [a] pos) tA := by
 intro wh pins s σ H Q I h
 refine isTrue_and (thn (ha pins s σ H Q I h) fun c s1 e => ?_)
 cases c with
 | true => exact isTrue_and_nil e
 | false => exact e
theorem pw_or1 (ha : PT X a tA) : PW X (.BoolOp .Or [a] pos) tA := by
 intro wh pins s σ H Q I h
 refine isTrue_or (thn (ha pins s σ H Q I h) fun c s1 e => ?_)
 cases c with
 | false => exact isTrue_or_nil e
 | true => exact e
theorem pw_and (ha : PT X a tA) (hb : PW X (.BoolOp .And (b :: rest) pos) tB') : PW X (.BoolOp .And (a :: b :: rest) pos) (tAnd tA tB') := by
 intro wh pins s σ H Q I h
 refine isTrue_and (thn (ha pins s σ H _ I h) fun c s1 ⟨H1, I1, q1⟩ => ?_)
 cases c with
 | true => exact hb wh pins s1 σ H1 Q I1 q1
 | false => exact ⟨H1, I1, q1⟩
theorem pw_or (ha : PT X a tA) (hb : PW X (.BoolOp .Or (b :: rest) pos) tB') : PW X (.BoolOp .Or (a :: b :: rest) pos) (tOr tA tB') := by
 intro wh pins s σ H Q I h
 refine isTrue_or (thn (ha pins s σ H _ I h) fun c s1 ⟨H1, I1, q1⟩ => ?_)
 cases c with
 | true => exact ⟨H1, I1, q1⟩
 | false => exact hb wh pins s1 σ H1 Q I1 q1
theorem pt_not (ha : PT X a tA) : PT X (.UnaryOp .Not a pos) (tNot tA) := by
 intro pins s σ H Q I h
 exact isTrue_not (ha pins s σ H (fun c H1 => Q (!c) H1) I h)
def tAndV (ta tb : TE) : TE := fun σ H Q => ta σ H fun x H1 => ∃ c, x = .bl c /\ if c = true then tb σ H1 Q else Q (.bl false) H1
def tNotV (ta : TE) : TE := fun σ H Q => ta σ H fun x H1 => ∃ c, x = .bl c /\ Q (.bl (!c)) H1
theorem pe_one {op} {t : TE} (h : PE X a t) : PE X (.BoolOp op [a] pos) t := fun pins s σ H Q I hw => BoolOp_one (h pins s σ H Q I hw)
theorem pe_and (ha : PE X a ta) (hb : PE X (.BoolOp .And (b :: rest) pos) tb) : PE X (.BoolOp .And (a :: b :: rest) pos) (tAndV ta tb) := by
 intro pins s σ H Q I h
 refine BoolOp_and (thn (ha pins s σ H _ I h) fun v s1 ⟨x, H1, I1, r1, q1⟩ => ?_)
 obtain ⟨c, rfl, q1⟩ := q1
 cases r1
 refine wpAny_truthy_bool ?_
 cases c with
 | true => exact hb pins s1 σ H1 Q I1 q1
 | false => exact ⟨.bl false, H1, I1, rfl, q1⟩
theorem pe_not (ha : PE X a ta) : PE X (.UnaryOp .Not a pos) (tNotV ta) := by
 intro pins s σ H Q I h
 refine UnaryOp_ (thn (ha pins s σ H _ I h) fun v s1 ⟨x, H1, I1, r1, q1⟩ => ?_)
 obtain ⟨c, rfl, q1⟩ := q1
 cases r1
 exact not_of (wpAny_truthy_bool ⟨.bl (!c), H1, I1, rfl, q1⟩)
def tIf (t : TT) (ta tb : TE) : TE := fun σ H Q => t σ H fun c H1 => if c = true then ta σ H1 Q else tb σ H1 Q
theorem pe_ifExp (hc : PT X c tA) (ha : PE X a ta) (hb : PE X b tb) : PE X (.IfExp c a b pos) (tIf tA ta tb) := by
 intro pins s σ H Q I h
 refine wpAny_IfExp (thn (hc pins s σ H _ I h) fun d s1 ⟨H1, I1, q1⟩ => ?_)
 cases d with
 | true => exact ha pins s1 σ H1 Q I1 q1
 | false => exact hb pins s1 σ H1 Q I1 q1
end
def SqL (K : W.Frag) (H : Hp) (a : Addr) (xs : List V) : Prop :=
 Rd H a (.lst xs) \/
  ∃ (o : Obj) (its : Array Value) (n : Nat), K.lookup a = some o /\ o.cls = .type "list" /\ o.dict = none /\ o.data = .seq its n /\ its.size <= sizeLine /\ Vals xs its.toList
def SqT (K : W.Frag) (H : Hp) (a : Addr) (xs : List V) : Prop :=
 Rd H a (.tup xs) \/
  ∃ (o : Obj) (its : Array Value) (n : Nat), K.lookup a = some o /\ o.cls = .type "tuple" /\ o.data = .seq its n /\ its.size <= sizeLine /\ Vals xs its.toList
def absV : Value -> Option V
 | .none => some .non
 | .bool b => some (.bl b)
 | .int i _ => some (.int i)
 | .str x _ => some (.str x)
 | .bytes b _ => some (.byt b)
 | .float b _ => some (.flt b)
 | .ref a => some (.ref a)
 | .type n => some (.ty n)
 | _ => none
theorem RelV.abs {x : V} (r : RelV x u) : absV u = some x := by
 cases x with
 | non => cases r; rfl
 | bl _ => cases r; rfl
 | int _ => obtain ⟨t, rfl⟩ := r; rfl
 | str _ => obtain ⟨t, rfl⟩ := r; rfl
 | byt _ => obtain ⟨t, rfl⟩ := r; rfl
 | flt _ => obtain ⟨t, rfl⟩ := r; rfl
 | ref _ => cases r; rfl
 | ty _ => cases r; rfl
theorem RelV.inj {x y : V} (r : RelV x u) (q : RelV y u) : x = y := Option.some.inj (r.abs.symm.trans q.abs)
theorem Vals.inj : ∀ {xs ys : List V} {us : List Value}, Vals xs us -> Vals ys us -> xs = ys
 | _, _, _, .nil, .nil => rfl
 | _, _, _, .cons r t, .cons r' t' => by rw [r.inj r', Vals.inj t t']
section
variable {X : Cx} {pins : List (Addr × Obj)} {σ : St} {H : Hp} {s : Shared} {a : Addr} {xs ys : List V}
theorem SqL.of (h : H a = some (.lst xs)) : SqL K H a xs := .inl (.inl h)
theorem SqT.of (h : H a = some (.tup xs)) : SqT K H a xs := .inl (.inl h)
theorem Inv.list (I : Inv X pins σ H s) (h : SqL X.K H a xs) : ∃ its : List Value, Vals xs its /\ PlainL s.heap a its.toArray /\ xs.length <= sizeLine := by
 rcases h with h | ⟨o, its, n, hk, hc, hd, hs, hz, r⟩
 ·obtain ⟨z, its, n, r, e⟩ := h.ok I.hok
  exact ⟨its, r, ⟨_, n, e, rfl, rfl, rfl⟩, z⟩
 ·refine ⟨its.toList, r, ⟨o, n, I.kIn a o hk, hc, hd, by simpa using hs⟩, ?_⟩
  have e := r.length
  simp only [Array.length_toList] at e
  omega
theorem Inv.tuple (I : Inv X pins σ H s) (h : SqT X.K H a xs) : ∃ its : List Value, Vals xs its /\ IsTup s.heap a its.toArray /\ xs.length <= sizeLine := by
 rcases h with h | ⟨o, its, n, hk, hc, hs, hz, r⟩
 ·obtain ⟨z, its, r, p⟩ := h.ok I.hok
  exact ⟨its, r, p, z⟩
 ·refine ⟨its.toList, r, ⟨o, I.kIn a o hk, hc, n, by simpa using hs⟩, ?_⟩
  have e := r.length
  simp only [Array.length_toList] at e
  omega
theorem Inv.list_inj (I : Inv X pins σ H s) (h : SqL X.K H a xs) (h' : SqL X.K H a ys) : xs = ys := by
 obtain ⟨its, r, ⟨o, n, e, _, _, d⟩, _⟩ := I.list h
 obtain ⟨its', r', ⟨o', n', e', _, _, d'⟩, _⟩ := I.list h'
 rw [e] at e'; cases e'
 rw [d] at d'
 injection d' with d1 _
 have : its = its' := by simpa using congrArg Array.toList d1
 subst this
 exact r.inj r'
theorem Inv.tuple_inj (I : Inv X pins σ H s) (h : SqT X.K H a xs) (h' : SqT X.K H a ys) : xs = ys := by
 obtain ⟨its, r, ⟨o, e, _, n, d⟩, _⟩ := I.tuple h
 obtain ⟨its', r', ⟨o', e', _, n', d'⟩, _⟩ := I.tuple h'
 rw [e] at e'; cases e'
 rw [d] at d'
 injection d' with d1 _
 have : its = its' := by simpa using congrArg Array.toList d1
 subst this
 exact r.inj r'
end
abbrev Cx.wish (X : Cx) (E : Value -> Shared -> Prop) : Cx := { X with xe := E }
abbrev Cx.nox (X : Cx) : Cx := X.wish fun _ _ => False
theorem Cx.Ok.wish (ok : X.Ok) (E : Value -> Shared -> Prop) : (X.wish E).Ok :=
 ⟨ok.mod, ok.kind, ok.glob, ok.blt, ok.above, ok.inj, ok.has, ok.cab, ok.hd, ok.frames, ok.stk, ok.exf, ok.bs, ok.bsz, ok.noex, ok.exfs, ok.funs, ok.frf⟩
theorem Cx.Ok.unwish (ok : (X.wish E).Ok) : X.Ok :=
 ⟨ok.mod, ok.kind, ok.glob, ok.blt, ok.above, ok.inj, ok.has, ok.cab, ok.hd, ok.frames, ok.stk, ok.exf, ok.bs, ok.bsz, ok.noex, ok.exfs, ok.funs, ok.frf⟩
section
variable {X : Cx} {pins : List (Addr × Obj)} {σ : St} {H : Hp} {s : Shared} {E : Value -> Shared -> Prop}
theorem Inv.wish (I : Inv X pins σ H s) (E : Value -> Shared -> Prop) : Inv (X.wish E) pins σ H s := ⟨I.ok.wish E, I.os, I.bare, I.base, I.loc, I.cell, I.free, I.freeC, I.pin, I.hok, I.len⟩
theorem Inv.unwish (I : Inv (X.wish E) pins σ H s) : Inv X pins σ H s := ⟨I.ok.unwish, I.os, I.bare, I.base, I.loc, I.cell, I.free, I.freeC, I.pin, I.hok, I.len⟩
theorem SP.unwish {D : Ends} {f : Flow} (h : SP (X.wish E) pins D f s') : SP X pins D f s' := by
 cases f with
 | next => obtain ⟨σ', H', I, q⟩ := h; exact ⟨σ', H', I.unwish, q⟩
 | brk => obtain ⟨σ', H', I, q⟩ := h; exact ⟨σ', H', I.unwish, q⟩
 | cont => obtain ⟨σ', H', I, q⟩ := h; exact ⟨σ', H', I.unwish, q⟩
 | ret u => obtain ⟨v, σ', H', I, r, q⟩ := h; exact ⟨v, σ', H', I.unwish, r, q⟩
theorem PSs.nox {st : List Stmt} {t : TS} (h : PSs X.nox st t) : PSs X st t := fun pins s σ H D I hw =>
 wpAny_mono (h pins s σ H D (I.wish _) hw) (fun _ _ q => q.unwish) fun _ _ z => False.elim z
end
section
variable {X : Cx} {st : Stmt} {rest : List Stmt} {t u : TS} {e : Expr} {te : TE} {pos : Pos}
def tNext : TS := fun D σ H => D.nx σ H
def tSeq (t u : TS) : TS := fun D σ H => t { D with nx := u D } σ H
theorem pss_nil : PSs X [] tNext := fun _ _ σ H _ I h => wpAny_execs_nil ⟨σ, H, I, h⟩
theorem ziH (h1 : PS X st t) (h2 : PSs X rest u) : PSs X (st :: rest) (tSeq t u) := by
 intro pins s σ H D I h
 refine wpAny_execs_cons (thn (h1 pins s σ H { D with nx := u D } I h) fun f s1 q => ?_)
 cases f with
 | next =>
  obtain ⟨σ', H', I', q⟩ := q
  exact h2 pins s1 σ' H' D I' q
 | ret v => exact q
 | brk => exact q
 | cont => exact q
theorem pss_one (h1 : PS X st t) : PSs X [st] t := by
 intro pins s σ H D I h
 refine wpAny_execs_cons (thn (h1 pins s σ H D I h) fun f s1 q => ?_)
 cases f with
 | next => exact wpAny_execs_nil q
 | ret v => exact q
 | brk => exact q
 | cont => exact q
theorem Inv.quiet (I : Inv X pins σ H s) : interactive X.env = false := by simp [interactive, I.ok.kind]
def tDrop (te : TE) : TS := fun D σ H => te σ H fun _ H1 => D.nx σ H1
theorem zh6 (he : PE X e te) (hs : swapsWith e none pos.line X.env = pure false := by rfl) : PS X (.Expr e pos) (tDrop te) := by
 intro pins s σ H D I h
 exact wpAny_Expr_any (thn (he pins s σ H _ I h) fun v s1 ⟨x, H1, I1, r1, q1⟩ => ⟨σ, H1, I1, q1⟩) I.quiet hs
def tRet (te : TE) : TS := fun D σ H => te σ H D.rt
theorem zke (he : PE X e te) : PS X (.Return (some e) pos) (tRet te) := by
 intro pins s σ H D I h
 exact wpAny_Return_some (thn (he pins s σ H _ I h) fun v s1 ⟨x, H1, I1, r1, q1⟩ => ⟨x, σ, H1, I1, r1, q1⟩)
def tIfS (c : TT) (t u : TS) : TS := fun D σ H => c σ H fun b H1 => if b = true then t D σ H1 else u D σ H1
theorem ps_if {a b : List Stmt} (hc : PT X c tc) (ha : PSs X a t) (hb : PSs X b u) : PS X (.If c a b pos) (tIfS tc t u) := by
 intro pins s σ H D I h
 refine wpAny_If (thn (hc pins s σ H _ I h) fun d s1 ⟨H1, I1, q1⟩ => ?_)
 cases d with
 | true => exact ha pins s1 σ H1 D I1 q1
 | false => exact hb pins s1 σ H1 D I1 q1
def tNever : TS := fun _ _ _ => False
theorem ps_never : PS X st tNever := fun _ _ _ _ _ _ h => h.elim
end
abbrev TG := V -> St -> Hp -> (St -> Hp -> Prop) -> Prop
abbrev TGs := List V -> St -> Hp -> (St -> Hp -> Prop) -> Prop
def PG (X : Cx) (target : Expr) (t : TG) : Prop :=
 ∀ (pins : List (Addr × Obj)) (s : Shared) (σ : St) (H : Hp) (v : V) (u : Value) (Q : St -> Hp -> Prop), Inv X pins σ H s -> RelV v u -> t v σ H Q ->
  wpAny (model X.prog X.w) X.A (assign target X.env u) (fun _ s' => ∃ σ' H', Inv X pins σ' H' s' /\ Q σ' H') X.xe s
def PGs (X : Cx) (ts : List Expr) (t : TGs) : Prop :=
 ∀ (pins : List (Addr × Obj)) (s : Shared) (σ : St) (H : Hp) (vs : List V) (us : List Value) (Q : St -> Hp -> Prop), Inv X pins σ H s -> Vals vs us -> t vs σ H Q ->
  wpAny (model X.prog X.w) X.A (assignInOrder ((assignEach ts X.env).map (·.2)) us) (fun _ s' => ∃ σ' H', Inv X pins σ' H' s' /\ Q σ' H') X.xe s
abbrev TSet := V -> V -> V -> Hp -> (Hp -> Prop) -> Prop
def PSet (X : Cx) (t : TSet) : Prop :=
 ∀ (pins : List (Addr × Obj)) (s : Shared) (σ : St) (H : Hp) (o i v : V) (ov iv u : Value) (Q : Hp -> Prop), Inv X pins σ H s -> RelV o ov -> RelV i iv -> RelV v u -> t o i v H Q ->
  wpAny (model X.prog X.w) X.A (setItem ov iv u) (fun _ s' => ∃ H', Inv X pins σ H' s' /\ Q H') X.xe s
abbrev TIp := V -> V -> Hp -> VK -> Prop
def PIp (X : Cx) (op : Operator) (t : TIp) : Prop :=
 ∀ (pins : List (Addr × Obj)) (s : Shared) (σ : St) (H : Hp) (x y : V) (v u : Value) (Q : VK), Inv X pins σ H s -> RelV x v -> RelV y u -> t x y H Q ->
  wpAny (model X.prog X.w) X.A (inplaceOp op v u) (EP X pins σ Q) X.xe s
section
variable {X : Cx} {pos : Pos}
def gName (i : Nat) : TG := fun v σ H Q => Q (σ.set i (some v)) H
theorem zjM (hN : X.N.Nodup) (hi : X.N[i]? = some x) (hx : Loc X.env.scope x) (hf : X.fn x = true \/ X.env.scope.names.lookup x = some .local := by first | exact .inl rfl | exact .inr rfl | assumption) : PG X (.Name x pos) (gName i) := by
  intro pins s σ H v u Q I r h
  exact wpAny_assign_Name (zjU I hN hi hx r (fun s' I' => ⟨_, H, I', h⟩) hf)
def gNil : TGs := fun vs σ H Q => vs = [] /\ Q σ H
def gCons (t : TG) (u : TGs) : TGs := fun vs σ H Q => ∃ v r, vs = v :: r /\ t v σ H fun σ' H' => u r σ' H' Q
theorem zl3 : PGs X [] gNil := by
 intro pins s σ H vs us Q I r h
 obtain ⟨e, h⟩ := h
 subst e
 cases r
 exact assignInOrder_nil ⟨σ, H, I, h⟩
theorem zkm {t : TG} {u : TGs} (h1 : PG X e t) (h2 : PGs X es u)
  (hs : (assignEach (e :: es) X.env).map (·.2) = assign e X.env :: (assignEach es X.env).map (·.2) := by rfl) : PGs X (e :: es) (gCons t u) := by
 intro pins s σ H vs us Q I r h
 obtain ⟨v, vr, e1, h⟩ := h
 subst e1
 cases r with
 | cons r rr =>
  rw [hs]
  refine assignInOrder_cons (thn (h1 pins s σ H _ _ _ I r h) fun _ s1 ⟨σ1, H1, I1, q1⟩ => ?_)
  exact h2 pins s1 σ1 H1 _ _ Q I1 rr q1
def gTup (K : W.Frag) (n : Nat) (t : TGs) : TG := fun v σ H Q => ∃ a xs, v = .ref a /\ SqT K H a xs /\ xs.length = n /\ t xs σ H Q
theorem pg_tup {t : TGs} (hc : X.calm = true) (h : PGs X es t)
  (hn : (assignEach es X.env).length = n := by rfl) (hst : (assignEach es X.env).findIdx? (·.1) = none := by rfl) : PG X (.Tuple es k pos) (gTup X.K n t) := by
 intro pins s σ H v u Q I r hw
 obtain ⟨a, xs, e1, hq, hl, hw⟩ := hw
 subst e1
 cases r
 obtain ⟨its, rv, ht, hz⟩ := I.tuple hq
 refine assign_Tuple_tuple (I.ok.hd hc) ht (by simp [hn, <- hl, rv.length]) hst fun h' hx => ?_
 have I1 : Inv X pins σ H { s with heap := h' } := I.kept (t' := s.toks) fun b o e => hx b o (Nat.ne_of_lt (Heap.lt_size e)) e
 exact h pins _ σ H xs _ Q I1 (by simpa using rv) hw
def gSub (to ti : TE) (t : TSet) : TG := fun v σ H Q => to σ H fun o H1 => ti σ H1 fun i H2 => t o i v H2 fun H3 => Q σ H3
theorem zmn {o i : Expr} {to ti : TE} (ho : PE X o to) (hi : PE X i ti) (hs : PSet X t)
    (ha : ∀ v, assign (.Subscript o i pos) X.env v = (do
      let ov <- holding [v] (eval o X.env)
      let iv <- holding [v, ov] (eval i X.env)
      standAt pos
      holding [v, ov, iv] (setItem ov iv v)
      release [v, ov, iv] []) := by intro _; rfl) : PG X (.Subscript o i pos) (gSub to ti t) := by
  intro pins s σ H v u Q I r h
  rw [ha]
  refine wpAny_bind (wpAny_holding (thn (ho pins s σ H _ I h) fun ov s1 ⟨x, H1, I1, r1, q1⟩ => ?_))
  refine wpAny_bind (wpAny_holding (thn (hi pins s1 σ H1 _ I1 q1) fun iv s2 ⟨y, H2, I2, r2, q2⟩ => ?_))
  refine wpAny_bind (wpAny_standAt (wpAny_bind (wpAny_holding (thn (hs pins s2 σ H2 x y v ov iv u _ I2 r1 r2 r q2) fun _ s3 ⟨H3, I3, q3⟩ => ?_))))
  exact wpAny_release ⟨σ, H3, I3, q3⟩
def tAsg (te : TE) (g : TG) : TS := fun D σ H => te σ H fun x H1 => g x σ H1 D.nx
theorem zjh {g : TG} (he : PE X e te) (hg : PG X tg g) (hs : swapsWithSole [tg] e pos.line X.env = pure false := by rfl) (hw : swappedStores [tg] e X.env = pure none := by rfl)
  (h1 : (assignEach [tg] X.env).map (·.2) = [assign tg X.env] := by rfl) : PS X (.Assign [tg] e pos) (tAsg te g) := by
 intro pins s σ H D I h
 refine wpAny_Assign_stores (thn (he pins s σ H _ I h) fun v s1 ⟨x, H1, I1, r1, q1⟩ => ?_) hs hw
 rw [h1]
 exact thn (hg pins s1 σ H1 x v _ I1 r1 q1) fun _ s2 q => q
theorem zkj {pos' : Pos} (hN : X.N.Nodup) (hi : X.N[i]? = some x) (hx : Loc X.env.scope x) (he : PE X e te) (hs : swapsWith e (some (.Name x pos')) pos.line X.env = pure false := by rfl) (hf : X.fn x = true \/ X.env.scope.names.lookup x = some .local := by first | exact .inl rfl | exact .inr rfl | assumption) :
  PS X (.Assign [.Name x pos'] e pos) (tAsg te (gName i)) := by
 intro pins s σ H D I h
 refine wpAny_Assign_Name (thn (he pins s σ H _ I h) fun v s1 ⟨y, H1, I1, r1, q1⟩ => ?_) hs
 exact zjU I1 hN hi hx r1 (fun s2 I2 => ⟨_, H1, I2, q1⟩) hf
def tAugS (to ti te : TE) (tget : V -> V -> Hp -> VK -> Prop) (tip : TIp) (tset : TSet) : TS := fun D σ H => to σ H fun o H1 => ti σ H1 fun i H2 => tget o i H2 fun x H3 => te σ H3 fun y H4 => tip x y H4 fun z H5 => tset o i z H5 fun H6 => D.nx σ H6
def PGet (X : Cx) (t : V -> V -> Hp -> VK -> Prop) : Prop :=
 ∀ (pins : List (Addr × Obj)) (s : Shared) (σ : St) (H : Hp) (o i : V) (ov iv : Value) (Q : VK), Inv X pins σ H s -> RelV o ov -> RelV i iv -> t o i H Q ->
  wpAny (model X.prog X.w) X.A (getItem ov iv) (EP X pins σ Q) X.xe s
theorem ps_augS {o i e : Expr} {to ti te : TE} {tip : TIp} {tset : TSet} {op : Operator} {tpos : Pos} (ho : PE X o to) (hi : PE X i ti) (hg : PGet X tget) (he : PE X e te) (hp : PIp X op tip) (hs : PSet X tset)
  (ha : ∀ ov iv new, augStore i ov iv new = (do holding [new, ov, iv] (setItem ov iv new); release [new, ov, iv] []; pure .next) := by intros; rfl) : PS X (.AugAssign (.Subscript o i tpos) op e pos) (tAugS to ti te tget tip tset) := by
 intro pins s σ H D I h
 refine wpAny_AugAssign_SubscriptAny (thn (ho pins s σ H _ I h) fun ov s1 ⟨x1, H1, I1, r1, q1⟩ => ?_) ha
 refine thn (hi pins s1 σ H1 _ I1 q1) fun iv s2 ⟨x2, H2, I2, r2, q2⟩ => ?_
 refine thn (hg pins s2 σ H2 x1 x2 ov iv _ I2 r1 r2 q2) fun old s3 ⟨x3, H3, I3, r3, q3⟩ => ?_
 refine thn (he pins s3 σ H3 _ I3 q3) fun v s4 ⟨x4, H4, I4, r4, q4⟩ => ?_
 refine thn (hp pins s4 σ H4 x3 x4 old v _ I4 r3 r4 q4) fun new s5 ⟨x5, H5, I5, r5, q5⟩ => ?_
 exact thn (hs pins s5 σ H5 x1 x2 x5 ov iv new _ I5 r1 r2 r5 q5) fun _ s6 ⟨H6, I6, q6⟩ => ⟨σ, H6, I6, q6⟩
def ipI (f : Int -> Int -> Int) : TIp := fun x y H Q => ∃ i j, x = .int i /\ y = .int j /\ Q (.int (f i j)) H
theorem ip_add : PIp X .Add (ipI fun i j => i + j) := by
 intro pins s σ H x y v u Q I r1 r2 h
 obtain ⟨i, j, e1, e2, q⟩ := h
 subst e1; subst e2
 obtain ⟨t, rfl⟩ := r1
 obtain ⟨t', rfl⟩ := r2
 exact iadd_int ⟨.int _, H, I.tok _, ⟨_, rfl⟩, q⟩
end
section
variable {X : Cx} {pos : Pos}
def tWhile (c : TT) (tb : TS) : TS := fun D σ H => ∃ W : Nat -> St -> Hp -> Prop, (∃ m, W m σ H) /\ ∀ m σ H, W m σ H ->
 c σ H fun b H1 => if b = true then ∃ N : St -> Hp -> Prop, (∀ σ' H', N σ' H' -> ∃ m', m' < m /\ W m' σ' H') /\ tb { D with nx := N, ct := N, bk := D.nx } σ H1 else D.nx σ H1
theorem ps_while (hp : PassesOwn (model X.prog X.w) X.A X.env X.xe) (hc : PT X c tc) (hb : PSs X body tb) : PS X (.While c body [] pos) (tWhile tc tb) := by
 intro pins s σ H D I h
 obtain ⟨W, ⟨m0, w0⟩, turn⟩ := h
 refine wpAny_While (codeAny_whileLoop (fun n s' => ∃ σ' H', Inv X pins σ' H' s' /\ W n σ' H') ?_ m0 ⟨σ, H, I, w0⟩)
 rintro n s1 ⟨σ1, H1, I1, w1⟩
 refine wpAny_passesOwn hp (thn (hc pins s1 σ1 H1 _ I1 (turn n σ1 H1 w1)) fun b s2 ⟨H2, I2, q2⟩ => ?_)
 cases b with
 | true =>
  obtain ⟨N, hN, q2⟩ := q2
  rw [if_pos rfl]
  refine wpAny_passesOwn hp (thn (hb pins s2 σ1 H2 _ I2 q2) fun f s3 q3 => ?_)
  cases f with
  | next =>
   obtain ⟨σ3, H3, I3, n3⟩ := q3
   obtain ⟨m', hm, w3⟩ := hN σ3 H3 n3
   exact ⟨m', hm, σ3, H3, I3, w3⟩
  | cont =>
   obtain ⟨σ3, H3, I3, n3⟩ := q3
   obtain ⟨m', hm, w3⟩ := hN σ3 H3 n3
   exact ⟨m', hm, σ3, H3, I3, w3⟩
  | brk => exact q3
  | ret v => exact q3
 | false =>
  rw [if_neg Bool.false_ne_true]
  exact wpAny_execs_nil ⟨σ1, H2, I2, q2⟩
end
structure It where
 go : Nat -> Hp -> Prop
 yld : Nat -> Hp -> V -> Hp -> Prop
 stop : Nat -> Hp -> Prop
def FpOk (X : Cx) (pins : List (Addr × Obj)) (H : Hp) (b : Addr) : Prop :=
 H b = none /\ b ≠ X.env.locals /\ b ∉ X.fs /\ (b ∈ X.ex \/ X.s₀.heap.objs.size <= b) /\ (∀ x c, X.env.cells.lookup x = some c -> c ≠ b) /\ ∀ p ∈ X.pn ++ pins, p.1 ≠ b
theorem Inv.fpOk {H H' : Hp} (I : Inv X pins σ H s) (hb : s.heap.objs.size <= b) (hn : H' b = none) : FpOk X pins H' b := by
 refine ⟨hn, Nat.ne_of_gt (Nat.lt_of_lt_of_le I.lt hb), I.nofs hb, .inr (Nat.le_trans I.sz hb), fun x c e z => ?_, fun p hp z => ?_⟩
 ·obtain ⟨v, q⟩ := I.cell x c e
  exact absurd (Nat.lt_of_lt_of_le q.lt (by rw [z]; exact hb)) (Nat.lt_irrefl _)
 ·exact absurd (Nat.lt_of_lt_of_le (Heap.lt_size (I.pin p hp).1) (by rw [z]; exact hb)) (Nat.lt_irrefl _)
structure Turn (P : Program) (w : World) (K : W.Frag) (tg : Expr) (J : It) (fp : List Addr) (it : Addr) (tn : Nat -> Heap -> Prop) : Prop where
 mem : it ∈ fp
 obj : ∀ i h, tn i h -> ∀ b ∈ fp, ∃ o, h.get? b = some o /\ ∀ v, o.data ≠ .cell v
 keep : ∀ i h h', tn i h -> (∀ b ∈ fp, ∀ o, h.get? b = some o -> h'.get? b = some o) -> tn i h'
 item : ∀ (X : Cx), X.prog = P -> X.w = w -> X.K = K -> X.calm = true -> ∀ (i : Nat) (pins : List (Addr × Obj)) (s : Shared) (σ : St) (H : Hp) (E : Value -> Shared -> Prop), Inv X pins σ H s -> (∀ b ∈ fp, FpOk X pins H b) -> tn i s.heap -> J.go i H ->
  wpAny (model P w) X.A (pyNext (.ref it)) (fun r s1 => ∃ u, r = some u /\
   wpAny (model P w) X.A (letOwnedTupleGo tg (.ref it) u) (fun _ s2 => ∃ x H', Inv X pins σ H' s2 /\ RelV x u /\ J.yld i H x H' /\ tn (i + 1) s2.heap /\ ∀ b ∈ fp, H' b = none) E s1) E s
 done : ∀ (X : Cx), X.prog = P -> X.w = w -> X.K = K -> X.calm = true -> ∀ (i : Nat) (pins : List (Addr × Obj)) (s : Shared) (σ : St) (H : Hp) (E : Value -> Shared -> Prop), Inv X pins σ H s -> (∀ b ∈ fp, FpOk X pins H b) -> tn i s.heap -> J.stop i H ->
  wpAny (model P w) X.A (pyNext (.ref it)) (fun r s1 => r = none /\ Inv X pins σ H s1) E s
 self : ∀ (A : Around) (i : Nat) (s : Shared) (Q : Value -> Shared -> Prop) (E : Value -> Shared -> Prop), tn i s.heap -> Q (.ref it) s -> wpAny (model P w) A (pyIter (.ref it)) Q E s
abbrev TI := St -> Hp -> (It -> Hp -> Prop) -> Prop
def PIE (X : Cx) (pins : List (Addr × Obj)) (σ : St) (tg : Expr) (R : It -> Hp -> Prop) (itv : Value) (s2 : Shared) : Prop :=
 ∃ (it : Addr) (fp : List Addr) (tn : Nat -> Heap -> Prop) (J : It) (H' : Hp), itv = .ref it /\ Inv X pins σ H' s2 /\ Turn X.prog X.w X.K tg J fp it tn /\ tn 0 s2.heap /\ (∀ b ∈ fp, FpOk X pins H' b) /\ R J H'
def PI (X : Cx) (tg iter : Expr) (wi : TI) : Prop :=
 ∀ (pins : List (Addr × Obj)) (s : Shared) (σ : St) (H : Hp) (R : It -> Hp -> Prop), Inv X pins σ H s -> wi σ H R ->
  wpAny (model X.prog X.w) X.A (eval iter X.env) (fun v s1 => wpAny (model X.prog X.w) X.A (pyIter v) (PIE X pins σ tg R) X.xe s1) X.xe s
theorem go_of {M : Model} {n : String} {vs : Array Value} (ho : s.heap.get? it = some o) (hc : o.cls = .type n) (hd : o.data = .fields vs)
    (hn : ["enumerate", "zip", "dict_itemiterator", "dict_reverseitemiterator", "odict_iterator", "itertools.zip_longest", "itertools.pairwise"].contains n = false) (hQ : Q () s) : wpAny M A (letOwnedTupleGo tg (.ref it) u) Q E s := by
  unfold letOwnedTupleGo
  cases tg <;> first
    | exact wpAny_pure hQ
    | (cases u <;> first
        | exact wpAny_pure hQ
        | (refine wpAny_bind (wpAny_load ho ?_)
           rw [hc, hd]
           show wpAny M A (if (["enumerate", "zip", "dict_itemiterator", "dict_reverseitemiterator", "odict_iterator", "itertools.zip_longest", "itertools.pairwise"].contains n && vs[0]? == some (rawInt _)) = true then _ else _) Q E s
           rw [if_neg (by intro h; rw [hn, Bool.false_and] at h; cases h)]
           exact wpAny_pure hQ))
def Itl (K : W.Frag) (a : Addr) : It :=
 ⟨fun i H => ∃ xs x, SqL K H a xs /\ xs[i]? = some x, fun i H x H' => H' = H /\ ∀ xs, SqL K H a xs -> xs[i]? = some x, fun i H => ∃ xs, SqL K H a xs /\ xs.length <= i⟩
def Itt (K : W.Frag) (a : Addr) : It :=
 ⟨fun i H => ∃ xs x, SqT K H a xs /\ xs[i]? = some x, fun i H x H' => H' = H /\ ∀ xs, SqT K H a xs -> xs[i]? = some x, fun i H => ∃ xs, SqT K H a xs /\ xs.length <= i⟩
def Itr (lo : Int) (n : Nat) : It := ⟨fun i _ => i < n, fun i H x H' => H' = H /\ x = .int (lo + i), fun i _ => n <= i⟩
theorem zlh {P : Program} (a it : Addr) : Turn P w K tg (Itl K a) [it] it (fun i h => h.IsListIter it a i) where
 mem := by simp
 obj := fun i h st b hb => by
  have e : b = it := by simpa using hb
  subst e
  obtain ⟨o, e, c, d⟩ := st
  exact ⟨o, e, fun v z => by rw [d] at z; cases z⟩
 keep := fun i h h' st k => st.at fun o e => k it (by simp) o e
 item := by
  intro X hP hw hK hc i pins s σ H E I hf st hg
  subst hP hw hK
  obtain ⟨xs, x, hq, hx⟩ := hg
  obtain ⟨its, rv, p, hz⟩ := I.list hq
  obtain ⟨u, hu, ru⟩ := rv.get hx
  obtain ⟨f0, f1, f2, f3, f4, f5⟩ := hf it (by simp)
  refine wpAny_pyNext_list_item st p.isList (x := u) (by simpa using hu) fun h' st' sb => ?_
  have I1 : Inv X pins σ H { s with heap := h' } := I.turned (t' := s.toks) (fun b o hb e => (sb.2 b hb).trans e) f0 f1 f3 f4 f5
  obtain ⟨o, e, c, d⟩ := id st'
  exact ⟨u, rfl, go_of (s := { s with heap := h' }) e c d (by decide) ⟨x, H, I1, ru, ⟨rfl, fun ys hy => by rw [I.list_inj hy hq]; exact hx⟩, st', fun b hb => (hf b hb).1⟩⟩
 done := by
  intro X hP hw hK hc i pins s σ H E I hf st hg
  subst hP hw hK
  obtain ⟨xs, hq, hx⟩ := hg
  obtain ⟨its, rv, p, hz⟩ := I.list hq
  obtain ⟨f0, f1, f2, f3, f4, f5⟩ := hf it (by simp)
  have hl := rv.length
  exact wpAny_pyNext_list_end (I.ok.hd hc) st p.isList (by simp; omega) fun h' eb => ⟨rfl, I.turned (t' := s.toks) (fun b o hb e => eb b o hb e) f0 f1 f3 f4 f5⟩
 self := fun _ _ _ _ _ st h => wpAny_pyIter_listiter st h
theorem zk1 {P : Program} (a it : Addr) : Turn P w K tg (Itt K a) [it] it (fun i h => h.IsTupleIter it a i) where
 mem := by simp
 obj := fun i h st b hb => by
  have e : b = it := by simpa using hb
  subst e
  obtain ⟨o, e, c, d⟩ := st
  exact ⟨o, e, fun v z => by rw [d] at z; cases z⟩
 keep := fun i h h' st k => st.at fun o e => k it (by simp) o e
 item := by
  intro X hP hw hK hc i pins s σ H E I hf st hg
  subst hP hw hK
  obtain ⟨xs, x, hq, hx⟩ := hg
  obtain ⟨its, rv, p, hz⟩ := I.tuple hq
  obtain ⟨u, hu, ru⟩ := rv.get hx
  obtain ⟨f0, f1, f2, f3, f4, f5⟩ := hf it (by simp)
  refine wpAny_pyNext_tuple_item st (show s.heap.IsTuple a its.toArray from p) (x := u) (by simpa using hu) fun h' st' sb => ?_
  have I1 : Inv X pins σ H { s with heap := h' } := I.turned (t' := s.toks) (fun b o hb e => (sb.2 b hb).trans e) f0 f1 f3 f4 f5
  obtain ⟨o, e, c, d⟩ := id st'
  exact ⟨u, rfl, go_of (s := { s with heap := h' }) e c d (by decide) ⟨x, H, I1, ru, ⟨rfl, fun ys hy => by rw [I.tuple_inj hy hq]; exact hx⟩, st', fun b hb => (hf b hb).1⟩⟩
 done := by
  intro X hP hw hK hc i pins s σ H E I hf st hg
  subst hP hw hK
  obtain ⟨xs, hq, hx⟩ := hg
  obtain ⟨its, rv, p, hz⟩ := I.tuple hq
  obtain ⟨f0, f1, f2, f3, f4, f5⟩ := hf it (by simp)
  have hl := rv.length
  exact wpAny_pyNext_tuple_end (I.ok.hd hc) st (show s.heap.IsTuple a its.toArray from p) (by simp; omega) fun h' eb => ⟨rfl, I.turned (t' := s.toks) (fun b o hb e => eb b o hb e) f0 f1 f3 f4 f5⟩
 self := fun _ _ _ _ _ st h => wpAny_pyIter_tupleiter st h
theorem zk7 {P : Program} {w : World} (it : Addr) (lo : Int) (n : Nat) : Turn P w K tg (Itr lo n) [it] it (fun i h => IsRangeIter h it (lo + (i : Nat) * 1) ((n : Int) - (i : Nat)) 1) where
 mem := by simp
 obj := fun i h st b hb => by
  have e : b = it := by simpa using hb
  subst e
  exact ⟨_, st, fun v z => by
   have z' : Data.fields _ = Data.cell v := z
   cases z'⟩
 keep := fun i h h' st k => k it (by simp) _ st
 item := by
  intro X hP hw hK hc i pins s σ H E I hf st hg
  subst hP hw hK
  obtain ⟨f0, f1, f2, f3, f4, f5⟩ := hf it (by simp)
  have W := Walks.range (prog := X.prog) (w := X.w) (I.ok.hd hc) it lo 1 n
  refine W.item i s _ _ hg st fun v h' tk hv st' kk => ?_
  obtain ⟨t, rfl⟩ := hv
  have I1 : Inv X pins σ H { s with heap := h', toks := tk } := I.turned (fun b o hb e => kk b o (by simpa using hb) e) f0 f1 f3 f4 f5
  refine ⟨_, rfl, go_of (s := { s with heap := h', toks := tk }) (n := "range_iterator") st' rfl rfl (by decide) ⟨.int (lo + i), H, I1, ⟨t, ?_⟩, ⟨rfl, rfl⟩, st', fun b hb => (hf b hb).1⟩⟩
  rw [Int.mul_one]
 done := by
  intro X hP hw hK hc i pins s σ H E I hf st hg
  subst hP hw hK
  obtain ⟨f0, f1, f2, f3, f4, f5⟩ := hf it (by simp)
  exact wpAny_pyNext_range_end (I.ok.hd hc) st (by have : n <= i := hg; omega) fun h' eb => ⟨rfl, I.turned (t' := s.toks) (fun b o hb e => eb b o hb e) f0 f1 f3 f4 f5⟩
 self := fun _ _ _ _ _ st h => wpAny_pyIter_rangeiter st h
section
variable {X : Cx} {tg : Expr}
theorem range_it {R : It -> Hp -> Prop} {lo hi : Int} {t u v : Tok} {tk : Nat} (I : Inv X pins σ H s) (h1 : -(2 ^ 62) <= lo) (h2 : lo < 2 ^ 62) (h3 : -(2 ^ 62) <= hi) (h4 : hi < 2 ^ 62)
  (q : R (Itr lo (hi - lo).toNat) H) : wpAny (model X.prog X.w) X.A (pyIter (.ref s.heap.objs.size)) (PIE X pins σ tg R) E { s with heap := s.heap.push { cls := .type "range", data := .fields #[.int lo t, .int hi u, .int 1 v] }, toks := tk } := by
 refine wpAny_pyIter_range (IsRange.new ..) (small_one h1 h2 h3 h4) ?_
 have I1 : Inv X pins σ H { s with heap := s.heap.push { cls := .type "range", data := .fields #[.int lo t, .int hi u, .int 1 v] }, toks := tk } := I.kept fun b o e => Heap.get?_push_of_some _ e
 refine ⟨(s.heap.push { cls := .type "range", data := .fields #[.int lo t, .int hi u, .int 1 v] }).objs.size, [(s.heap.push { cls := .type "range", data := .fields #[.int lo t, .int hi u, .int 1 v] }).objs.size], _, _, H, rfl,
  I1.kept (t' := tk) fun b o e => Heap.get?_push_of_some _ e, zk7 _ lo (hi - lo).toNat, ?_, fun b hb => ?_, q⟩
 ·have e1 : lo + ((0 : Nat) : Int) * 1 = lo := by simp
  have e2 : (((hi - lo).toNat : Nat) : Int) - ((0 : Nat) : Int) = Builtin.Range.rangeSize lo hi 1 := by rw [rangeSize_one]; split <;> omega
  show IsRangeIter _ _ (lo + ((0 : Nat) : Int) * 1) ((((hi - lo).toNat : Nat) : Int) - ((0 : Nat) : Int)) 1
  rw [e1, e2]
  exact Heap.get?_push_size _ rfl
 ·have e : b = (s.heap.push { cls := .type "range", data := .fields #[.int lo t, .int hi u, .int 1 v] }).objs.size := by simpa using hb
  subst e
  exact I1.fpOk (Nat.le_refl _) (I1.hok.fresh (Nat.le_refl _))
def iRng1 (ta : TA) : TI := fun σ H R => ta σ H fun vs H1 => ∃ j : Int, vs = [.int j] /\ -(2 ^ 62) <= j /\ j < 2 ^ 62 /\ R (Itr 0 j.toNat) H1
theorem zlu {a : Expr} {ta : TA} {p pos : Pos} (hg : Gl X "range") (hm : X.mg "range" = none) (ha : PA X [a] ta) (hs : starEach [a] X.env = [(false, eval a X.env)] := by rfl) : PI X tg (.Call (.Name "range" p) [a] [] pos) (iRng1 ta) := by
 intro pins s σ H R I h
 refine Call_ (zhV I hg hm boot_range (PyProof.Rows.callWith_type1 (thn (ha pos pins s σ H _ I h) fun us s1 ⟨vs, H1, I1, r1, q1⟩ => ?_) hs rfl))
 obtain ⟨j, e, q1, q2, q⟩ := q1
 subst e
 cases r1 with
 | cons r rr =>
  cases rr
  obtain ⟨t, rfl⟩ := r
  exact call_range_1 (range_it I1 (by omega) (by omega) q1 q2 (by simpa using q))
def tFor (wi : TI) (g : TG) (tb : TS) : TS := fun D σ H => wi σ H fun J H1 => ∃ W : Nat -> Nat -> St -> Hp -> Prop, (∃ m, W 0 m σ H1) /\ ∀ i m σ H, W i m σ H ->
 (J.stop i H /\ D.nx σ H) \/ (J.go i H /\ ∃ N : St -> Hp -> Prop, (∀ σ' H', N σ' H' -> ∃ m', m' < m /\ W (i + 1) m' σ' H') /\ ∀ x H', J.yld i H x H' -> g x σ H' fun σ2 H2 => tb { D with nx := N, ct := N, bk := D.nx } σ2 H2)
def zjp (fp : List Addr) (h : Heap) : List (Addr × Obj) := fp.filterMap fun b => (h.get? b).map fun o => (b, o)
theorem zfg (hb : b ∈ fp) (e : h.get? b = some o) : (b, o) ∈ zjp fp h := List.mem_filterMap.mpr ⟨b, hb, by rw [e]; rfl⟩
theorem zlI (hp : p ∈ zjp fp h) : p.1 ∈ fp /\ h.get? p.1 = some p.2 := by
 obtain ⟨b, hb, e⟩ := List.mem_filterMap.mp hp
 cases q : h.get? b with
 | none => rw [q] at e; cases e
 | some o =>
  rw [q] at e
  have e' : (b, o) = p := Option.some.inj e
  subst e'
  exact ⟨hb, q⟩
theorem Inv.pinned (I : Inv X pins σ H s) (hf : ∀ b ∈ fp, FpOk X pins H b) (ho : ∀ b ∈ fp, ∃ o, s.heap.get? b = some o /\ ∀ v, o.data ≠ .cell v) : Inv X (pins ++ zjp fp s.heap) σ H s :=
 I.pins_of fun p hp => (List.mem_append.mp hp).elim (fun z => I.pin p (List.mem_append_right _ z)) fun z => by
  obtain ⟨hb, e⟩ := zlI z
  obtain ⟨f0, f1, f2, _⟩ := hf p.1 hb
  obtain ⟨o, e', d⟩ := ho p.1 hb
  rw [e] at e'; cases e'
  exact ⟨e, f0, f1, f2, d⟩
theorem Inv.unpinned (I : Inv X (pins ++ pl) σ H s) : Inv X pins σ H s := I.pins_of fun p hp => I.pin p (List.mem_append_right _ (List.mem_append_left _ hp))
theorem ps_for {iter : Expr} {wi : TI} {g : TG} (hp : PassesOwn (model X.prog X.w) X.A X.env X.xe) (hc : X.calm = true) (hi : PI X tg iter wi) (hg : PG X tg g) (hb : PSs X body tb)
    (hs : ∀ x, foldedSetIterable iter X.env x = pure x := by intro _; rfl) : PS X (.For tg iter body [] pos) (tFor wi g tb) := by
  intro pins s σ H D I h
  refine wpAny_For (thn (hi pins s σ H _ I h) fun v s1 h1 => thn h1 fun itv s2 h2 => ?_) hs
  obtain ⟨it, fp, tn, J, H2, e, I2, T, st2, f2, W, ⟨m0, w0⟩, turn⟩ := h2
  subst e
  have stat : ∀ {H' : Hp}, (∀ b ∈ fp, H' b = none) -> ∀ b ∈ fp, FpOk X pins H' b := fun hn b hb => ⟨hn b hb, (f2 b hb).2⟩
  refine codeAny_forLoop_any (fun n s' => ∃ i σ' H', Inv X pins σ' H' s' /\ tn i s'.heap /\ (∀ b ∈ fp, H' b = none) /\ W i n σ' H') ?_ m0 ⟨0, σ, H2, I2, st2, fun b hb => (f2 b hb).1, w0⟩
  rintro n s3 ⟨i, σ3, H3, I3, st3, fr3, w3⟩
  rcases turn i n σ3 H3 w3 with ⟨stop, qn⟩ | ⟨go, N, hN, step⟩
  . refine wpAny_passesOwn hp (thn (T.done X rfl rfl rfl hc i pins s3 σ3 H3 X.xe I3 (stat fr3) st3 stop) fun r s4 ⟨hr, I4⟩ => ?_)
    subst hr
    exact wpAny_execs_nil ⟨σ3, H3, I4, qn⟩
  . refine wpAny_passesOwn hp (thn (T.item X rfl rfl rfl hc i pins s3 σ3 H3 X.xe I3 (stat fr3) st3 go) fun r s4 ⟨u, hr, h4⟩ => ?_)
    subst hr
    refine wpAny_passesOwn hp (thn h4 fun _ s5 ⟨x, H5, I5, r5, y5, st5, fr5⟩ => ?_)
    have I5' := I5.pinned (stat fr5) (T.obj _ _ st5)
    refine wpAny_passesOwn hp (thn (hg _ s5 σ3 H5 x u _ I5' r5 (step x H5 y5)) fun _ s6 ⟨σ6, H6, I6, q6⟩ => ?_)
    refine wpAny_passesOwn hp (thn (hb _ s6 σ6 H6 _ I6 q6) fun f s7 q7 => ?_)
    have again : ∀ {σ7 : St} {H7 : Hp}, Inv X (pins ++ zjp fp s5.heap) σ7 H7 s7 -> N σ7 H7 -> ∃ m, m < n /\ ∃ i σ' H', Inv X pins σ' H' s7 /\ tn i s7.heap /\ (∀ b ∈ fp, H' b = none) /\ W i m σ' H' := fun {σ7 H7} I7 n7 => by
      obtain ⟨m', hm, w7⟩ := hN σ7 H7 n7
      refine ⟨m', hm, i + 1, σ7, H7, I7.unpinned, T.keep _ _ _ st5 fun b hb o e => (I7.pin (b, o) (List.mem_append_right _ (List.mem_append_right _ (zfg hb e)))).1, fun b hb => ?_, w7⟩
      obtain ⟨o, e, d⟩ := T.obj _ _ st5 b hb
      exact (I7.pin (b, o) (List.mem_append_right _ (List.mem_append_right _ (zfg hb e)))).2.1
    cases f with
    | next => obtain ⟨σ7, H7, I7, n7⟩ := q7; exact again I7 n7
    | cont => obtain ⟨σ7, H7, I7, n7⟩ := q7; exact again I7 n7
    | brk => obtain ⟨σ7, H7, I7, q7⟩ := q7; exact ⟨σ7, H7, I7.unpinned, q7⟩
    | ret v => obtain ⟨x7, σ7, H7, I7, r7, q7⟩ := q7; exact ⟨x7, σ7, H7, I7.unpinned, r7, q7⟩
end
abbrev R2 := V -> V -> Hp -> VK -> Prop
def OpR (X : Cx) (f : Value -> Value -> Sem Value) (r : R2) : Prop :=
 ∀ (pins : List (Addr × Obj)) (s : Shared) (σ : St) (H : Hp) (x y : V) (v u : Value) (Q : VK), Inv X pins σ H s -> RelV x v -> RelV y u -> r x y H Q ->
  wpAny (model X.prog X.w) X.A (f v u) (EP X pins σ Q) X.xe s
def UnR (X : Cx) (f : Value -> Sem Value) (r : V -> Hp -> VK -> Prop) : Prop :=
 ∀ (pins : List (Addr × Obj)) (s : Shared) (σ : St) (H : Hp) (x : V) (v : Value) (Q : VK), Inv X pins σ H s -> RelV x v -> r x H Q ->
  wpAny (model X.prog X.w) X.A (f v) (EP X pins σ Q) X.xe s
def zfn (X : Cx) (f : Value) (r : List V -> Hp -> VK -> Prop) : Prop :=
 ∀ (pins : List (Addr × Obj)) (s : Shared) (σ : St) (H : Hp) (xs : List V) (us : List Value) (Q : VK), Inv X pins σ H s -> Vals xs us -> r xs H Q ->
  wpAny (model X.prog X.w) X.A (call f us) (EP X pins σ Q) X.xe s
def TruR (X : Cx) (r : V -> Hp -> (Bool -> Hp -> Prop) -> Prop) : Prop :=
 ∀ (pins : List (Addr × Obj)) (s : Shared) (σ : St) (H : Hp) (x : V) (v : Value) (Q : Bool -> Hp -> Prop), Inv X pins σ H s -> RelV x v -> r x H Q ->
  wpAny (model X.prog X.w) X.A (truthy v) (TP X pins σ Q) X.xe s
def tOp (r : R2) (ta tb : TE) : TE := fun σ H Q => ta σ H fun x H1 => tb σ H1 fun y H2 => r x y H2 Q
def tUn (r : V -> Hp -> VK -> Prop) (ta : TE) : TE := fun σ H Q => ta σ H fun x H1 => r x H1 Q
def rI (C : Int -> Int -> Prop) (g : Int -> Int -> V) : R2 := fun x y H Q => ∃ i j, x = .int i /\ y = .int j /\ C i j /\ Q (g i j) H
def rI0 (g : Int -> Int -> V) : R2 := fun x y H Q => ∃ i j, x = .int i /\ y = .int j /\ Q (g i j) H
def rU (g : Int -> V) : V -> Hp -> VK -> Prop := fun x H Q => ∃ i, x = .int i /\ Q (g i) H
section
variable {X : Cx} {a b c : Expr} {ta tb tc : TE} {pos : Pos}
theorem binT (ha : PE X a ta) (hb : PE X b tb) {R : V -> V -> Hp -> Prop} (I : Inv X pins σ H s)
  (h : ta σ H fun x H1 => tb σ H1 fun y H2 => R x y H2) {Q : Value -> Shared -> Prop} {f : Value -> Value -> Sem Value}
  (hf : ∀ v u s2 x y H2, Inv X pins σ H2 s2 -> RelV x v -> RelV y u -> R x y H2 -> wpAny (model X.prog X.w) X.A (f v u) Q X.xe s2) :
  wpAny (model X.prog X.w) X.A (eval a X.env) (fun v s₁ => wpAny (model X.prog X.w) X.A (eval b X.env) (fun u s₂ => wpAny (model X.prog X.w) X.A (f v u) Q X.xe s₂) X.xe s₁) X.xe s := by
 refine thn (ha pins s σ H _ I h) fun v s1 ⟨x, H1, I1, r1, q1⟩ => ?_
 refine thn (hb pins s1 σ H1 _ I1 q1) fun u s2 ⟨y, H2, I2, r2, q2⟩ => ?_
 exact hf v u s2 x y H2 I2 r1 r2 q2
theorem pe_op {op : Operator} {r : R2} (ho : OpR X (binaryOp op) r) (ha : PE X a ta) (hb : PE X b tb) : PE X (.BinOp a op b pos) (tOp r ta tb) := by
 intro pins s σ H Q I h
 exact wpAny_BinOp (binT ha hb I h fun v u s2 x y H2 I2 rx ry q => ho pins s2 σ H2 x y v u Q I2 rx ry q)
theorem pe_un {op : UnaryOp} (ho : UnR X (unaryOp op) r) (ha : PE X a ta) : PE X (.UnaryOp op a pos) (tUn r ta) := by
 intro pins s σ H Q I h
 exact UnaryOp_ (thn (ha pins s σ H _ I h) fun v s1 ⟨x, H1, I1, r1, q1⟩ => ho pins s1 σ H1 x v Q I1 r1 q1)
theorem opI 
  (rule : ∀ (i j : Int) (t u : Tok) (s : Shared) (Q : Value -> Shared -> Prop) (E : Value -> Shared -> Prop), C i j -> Q (.int (g i j) s.toks) { s with toks := s.toks + 1 } -> wpAny (model X.prog X.w) X.A (f (.int i t) (.int j u)) Q E s) :
  OpR X f (rI C fun i j => .int (g i j)) := by
 intro pins s σ H x y v u Q I rx ry h
 obtain ⟨i, j, rfl, rfl, hc, q⟩ := h
 obtain ⟨t, rfl⟩ := rx
 obtain ⟨t', rfl⟩ := ry
 exact rule i j t t' s _ _ hc ⟨.int (g i j), H, I.tok _, ⟨_, rfl⟩, q⟩
theorem opI0 
  (rule : ∀ (i j : Int) (t u : Tok) (s : Shared) (Q : Value -> Shared -> Prop) (E : Value -> Shared -> Prop), Q (.int (g i j) s.toks) { s with toks := s.toks + 1 } -> wpAny (model X.prog X.w) X.A (f (.int i t) (.int j u)) Q E s) :
  OpR X f (rI0 fun i j => .int (g i j)) := by
 intro pins s σ H x y v u Q I rx ry h
 obtain ⟨i, j, rfl, rfl, q⟩ := h
 obtain ⟨t, rfl⟩ := rx
 obtain ⟨t', rfl⟩ := ry
 exact rule i j t t' s _ _ ⟨.int (g i j), H, I.tok _, ⟨_, rfl⟩, q⟩
theorem opB0 {g : Int -> Int -> Bool}
  (rule : ∀ (i j : Int) (t u : Tok) (s : Shared) (Q : Value -> Shared -> Prop) (E : Value -> Shared -> Prop), Q (.bool (g i j)) s -> wpAny (model X.prog X.w) X.A (f (.int i t) (.int j u)) Q E s) :
  OpR X f (rI0 fun i j => .bl (g i j)) := by
 intro pins s σ H x y v u Q I rx ry h
 obtain ⟨i, j, rfl, rfl, q⟩ := h
 obtain ⟨t, rfl⟩ := rx
 obtain ⟨t', rfl⟩ := ry
 exact rule i j t t' s _ _ ⟨.bl (g i j), H, I, rfl, q⟩
def CPow (i j : Int) : Prop := 0 <= j /\ j <= 1000000 /\ i.natAbs < 2 ^ 64
theorem op_add : OpR X (binaryOp .Add) (rI0 fun i j => .int (i + j)) := opI0 fun _ _ _ _ _ _ _ q => add_int q
theorem op_sub : OpR X (binaryOp .Sub) (rI0 fun i j => .int (i - j)) := opI0 fun _ _ _ _ _ _ _ q => sub_int q
theorem op_mod : OpR X (binaryOp .Mod) (rI (fun _ j => 0 < j) fun i j => .int (i % j)) := opI fun i j _ _ _ _ _ hc q => by
 have h1 : (0 : Int) < j := hc
 exact mod_int' (by omega) (by rw [Int.fmod_eq_emod_of_nonneg i (by omega)]; exact q)
theorem op_pow : OpR X (binaryOp .Pow) (rI CPow fun i j => .int (i ^ j.toNat)) := opI fun _ _ _ _ _ _ _ hc q => pow_int_small hc.1 hc.2.1 hc.2.2 q
theorem unI {f : Value -> Sem Value} {g : Int -> Int}
  (rule : ∀ (i : Int) (t : Tok) (s : Shared) (Q : Value -> Shared -> Prop) (E : Value -> Shared -> Prop), Q (.int (g i) s.toks) { s with toks := s.toks + 1 } -> wpAny (model X.prog X.w) X.A (f (.int i t)) Q E s) :
  UnR X f (rU fun i => .int (g i)) := by
 intro pins s σ H x v Q I rx h
 obtain ⟨i, rfl, q⟩ := h
 obtain ⟨t, rfl⟩ := rx
 exact rule i t s _ _ ⟨.int (g i), H, I.tok _, ⟨_, rfl⟩, q⟩
theorem un_neg : UnR X (unaryOp .USub) (rU fun i => .int (-i)) := unI fun _ _ _ _ _ q => neg_int q
end
section
variable {X : Cx} {a b c : Expr} {ta tb tc : TE} {pos : Pos}
theorem fin_bl {Q : VK} {k k' : Bool} (I : Inv X pins σ H s) (q : Q (.bl k) H) (e : k = k') : EP X pins σ Q (.bool k') s := by
 subst e
 exact ⟨.bl k, H, I, rfl, q⟩
theorem op_lt : OpR X (compareOp .Lt) (rI0 fun i j => .bl (decide (i < j))) := opB0 fun _ _ _ _ _ _ _ q => lt_int q
theorem op_le : OpR X (compareOp .LtE) (rI0 fun i j => .bl (decide (i <= j))) := opB0 fun _ _ _ _ _ _ _ q => le_int q
theorem op_gt : OpR X (compareOp .Gt) (rI0 fun i j => .bl (decide (j < i))) := opB0 fun _ _ _ _ _ _ _ q => gt_int q
theorem op_ge : OpR X (compareOp .GtE) (rI0 fun i j => .bl (decide (j <= i))) := opB0 fun _ _ _ _ _ _ _ q => ge_int q
theorem op_isN : OpR X (compareOp .Is) (fun x y H Q => y = .non /\ Q (.bl (decide (x = .non))) H) := by
 intro pins s σ H x y v u Q I rx ry h
 obtain ⟨rfl, q⟩ := h
 cases ry
 refine is_none_gen (fin_bl I q ?_)
 cases x <;> first
  | (cases rx; rfl)
  | (obtain ⟨t, rfl⟩ := rx; rfl)
theorem op_notN : OpR X (compareOp .IsNot) (fun x y H Q => y = .non /\ Q (.bl (!decide (x = .non))) H) := by
 intro pins s σ H x y v u Q I rx ry h
 obtain ⟨rfl, q⟩ := h
 cases ry
 refine isnot_none_gen (fin_bl I q ?_)
 cases x <;> first
  | (cases rx; rfl)
  | (obtain ⟨t, rfl⟩ := rx; rfl)
theorem OpR.or {r r' : R2} (h : OpR X f r) (h' : OpR X f r') : OpR X f (fun x y H Q => r x y H Q \/ r' x y H Q) := by
 intro pins s σ H x y v u Q I rx ry q
 rcases q with q | q
 ·exact h pins s σ H x y v u Q I rx ry q
 ·exact h' pins s σ H x y v u Q I rx ry q
theorem zhb (b : Expr) (h : op ≠ .In := by decide) (h2 : op ≠ .NotIn := by decide) : behindInMarks op b = false := by
 have e1 : (op == CmpOp.In) = false := by cases op <;> first | rfl | exact absurd rfl h
 have e2 : (op == CmpOp.NotIn) = false := by cases op <;> first | rfl | exact absurd rfl h2
 cases b <;> simp [behindInMarks, e1, e2]
theorem pe_cmpR {r : R2} (ho : OpR X (compareOp op) r) (ha : PE X a ta) (hb : PE X b tb) (hm : behindInMarks op b = false) : PE X (.Compare a [op] [b] pos) (tOp r ta tb) := by
 intro pins s σ H Q I h
 exact wpAny_Compare1 (binT ha hb I h fun v u s2 x y H2 I2 rx ry q => ho pins s2 σ H2 x y v u Q I2 rx ry q) hm
def tTest (t : TE) : TT := fun σ H Q => t σ H fun x H' => ∃ k, x = .bl k /\ Q k H'
theorem pt_cmpR {r : R2} (ho : OpR X (compareOp op) r) (ha : PE X a ta) (hb : PE X b tb) (hm : behindInMarks op b = false) : PT X (.Compare a [op] [b] pos) (tTest (tOp r ta tb)) := by
 intro pins s σ H Q I h
 refine wpAny_isTrue_Compare1 (thn (ha pins s σ H _ I h) fun v s1 ⟨x, H1, I1, r1, q1⟩ => thn (hb pins s1 σ H1 _ I1 q1) fun u s2 ⟨y, H2, I2, r2, q2⟩ =>
  thn (ho pins s2 σ H2 x y v u _ I2 r1 r2 q2) fun c s3 ⟨z, H3, I3, r3, k, e, q3⟩ => ?_) hm
 subst e
 cases r3
 exact wpAny_truthy_bool ⟨H3, I3, q3⟩
def zmw (r r' : R2) (ta tb tc : TE) : TE := fun σ H Q => ta σ H fun x H1 => tb σ H1 fun y H2 => r x y H2 fun z H3 => ∃ k, z = .bl k /\
 (if k = true then tc σ H3 fun w' H4 => r' y w' H4 Q else Q (.bl false) H3)
theorem pe_chain {r r' : R2} (ho : OpR X (compareOp op) r) (ho' : OpR X (compareOp op') r') (ha : PE X a ta) (hb : PE X b tb) (hc : PE X c tc)
  (hm : lastMarks [op, op'] [b, c] = false := by with_unfolding_all rfl) : PE X (.Compare a [op, op'] [b, c] pos) (zmw r r' ta tb tc) := by
 intro pins s σ H Q I h
 refine Compare_chain (thn (ha pins s σ H _ I h) fun v s1 ⟨x, H1, I1, r1, q1⟩ => chain_link (thn (hb pins s1 σ H1 _ I1 q1) fun u s2 ⟨y, H2, I2, r2, q2⟩ =>
  thn (ho pins s2 σ H2 x y v u _ I2 r1 r2 q2) fun d s3 ⟨z, H3, I3, r3, k, e, q3⟩ => ?_)) hm
 subst e
 cases r3
 refine wpAny_truthy_bool ?_
 cases k with
 | false => exact ite_ff ⟨.bl false, H3, I3, rfl, q3⟩
 | true => exact ite_tt (chain_last (thn (hc pins s3 σ H3 _ I3 q3) fun w' s4 ⟨z', H4, I4, r4, q4⟩ => ho' pins s4 σ H4 y z' u w' Q I4 r2 r4 q4))
theorem pt_chain {r r' : R2} (ho : OpR X (compareOp op) r) (ho' : OpR X (compareOp op') r') (ha : PE X a ta) (hb : PE X b tb) (hc : PE X c tc)
  (hm : lastMarks [op, op'] [b, c] = false := by with_unfolding_all rfl) : PT X (.Compare a [op, op'] [b, c] pos) (tTest (zmw r r' ta tb tc)) := by
 intro pins s σ H Q I h
 refine isTrue_chain (thn (ha pins s σ H _ I h) fun v s1 ⟨x, H1, I1, r1, q1⟩ => test_link (thn (hb pins s1 σ H1 _ I1 q1) fun u s2 ⟨y, H2, I2, r2, q2⟩ =>
  thn (ho pins s2 σ H2 x y v u _ I2 r1 r2 q2) fun d s3 ⟨z, H3, I3, r3, k, e, q3⟩ => ?_)) hm
 subst e
 cases r3
 refine wpAny_truthy_bool ?_
 cases k with
 | false =>
  obtain ⟨k', e', q'⟩ := q3
  cases e'
  exact ite_ff ⟨H3, I3, q'⟩
 | true =>
  refine ite_tt (test_last (thn (hc pins s3 σ H3 _ I3 q3) fun w' s4 ⟨z', H4, I4, r4, q4⟩ => thn (ho' pins s4 σ H4 y z' u w' _ I4 r2 r4 q4) fun d' s5 ⟨z2, H5, I5, r5, k2, e2, q5⟩ => ?_))
  subst e2
  cases r5
  exact wpAny_truthy_bool ⟨H5, I5, q5⟩
def TruV (K : W.Frag) (x : V) (H : Hp) (k : Bool) : Prop :=
 match x with
 | .non => k = false
 | .bl b => k = b
 | .int i => k = (i != 0)
 | .str y => y.length <= sizeLine /\ k = ((y.length : Int) != 0)
 | .byt y => y.size <= sizeLine /\ k = ((y.size : Int) != 0)
 | .ref p => (∃ xs, SqL K H p xs /\ k = !xs.isEmpty) \/ (∃ xs, SqT K H p xs /\ k = !xs.isEmpty) \/ ∃ kvs, H p = some (.dK kvs) /\ k = !kvs.isEmpty
 | _ => False
theorem zkV {κ : Type} {kvs : List (κ × V)} {vs : List (κ × Value)} (r : KV kvs vs) : (!vs.isEmpty) = !kvs.isEmpty := by
 cases r <;> rfl
theorem zhM (r : Vals xs its) : (!its.toArray.isEmpty) = !xs.isEmpty := by
 cases r <;> simp
theorem zhq : (sizeLine : Nat) < 2 ^ 63 := by rw [sizeLine_eq]; decide
theorem tru_ok : TruR X (fun x H Q => ∃ k, TruV X.K x H k /\ Q k H) := by
 intro pins s σ H x v Q I rx h
 obtain ⟨k, e, q⟩ := h
 have hl := zhq
 have hs : sizeLine = 16777216 := sizeLine_eq
 cases x with
 | non =>
  cases rx
  have e' : k = false := e
  subst e'
  exact truthy_none ⟨H, I, q⟩
 | bl b =>
  cases rx
  have e' : k = b := e
  subst e'
  exact wpAny_truthy_bool ⟨H, I, q⟩
 | int i =>
  obtain ⟨t, rfl⟩ := rx
  have e' : k = (i != 0) := e
  subst e'
  exact PySem.P.truthy_int ⟨H, I, q⟩
 | str y =>
  obtain ⟨t, rfl⟩ := rx
  obtain ⟨hy, e'⟩ : y.length <= sizeLine /\ k = ((y.length : Int) != 0) := e
  subst e'
  exact PySem.P.truthy_str (by omega) ⟨H, I.tok _, q⟩
 | byt y =>
  obtain ⟨t, rfl⟩ := rx
  obtain ⟨hy, e'⟩ : y.size <= sizeLine /\ k = ((y.size : Int) != 0) := e
  subst e'
  exact W.truthy_bytes (by omega) ⟨H, I.tok _, q⟩
 | ref p =>
  cases rx
  have e' : (∃ xs, SqL X.K H p xs /\ k = !xs.isEmpty) \/ (∃ xs, SqT X.K H p xs /\ k = !xs.isEmpty) \/ ∃ kvs, H p = some (.dK kvs) /\ k = !kvs.isEmpty := e
  rcases e' with ⟨xs, hx, e'⟩ | ⟨xs, hx, e'⟩ | ⟨kvs, hx, e'⟩
  ·subst e'
   obtain ⟨its, r, pl, hz⟩ := I.list hx
   have hlen := r.length
   exact wpAny_truthy_list pl.isList (by simp only [List.size_toArray]; omega) ⟨H, I.tok _, by rw [zhM r]; exact q⟩
  ·subst e'
   obtain ⟨its, r, pl, hz⟩ := I.tuple hx
   have hlen := r.length
   exact truthy_tuple pl (by simp only [List.size_toArray]; omega) ⟨H, I.tok _, by rw [zhM r]; exact q⟩
  ·subst e'
   obtain ⟨hz, hS, vs, r, m⟩ : kvs.length <= sizeLine /\ (p == sysModules) = false /\ ∃ vs, KV kvs vs /\ s.heap.DictOf (zjP X.prog X.w) p vs := I.hok p _ hx
   have hlen : kvs.length = vs.length := Paired.length r
   exact wpAny_truthy_dict hS m (by omega) ⟨H, I.tok _, by rw [zkV r]; exact q⟩
 | _ => exact (show False from e).elim
theorem pt_truth (ha : PE X a ta) (he : ∀ whole, isTrue a X.env whole = (do let v <- whole; standAt a.pos; holding [v] (truthy v))) :
  PT X a (fun σ H Q => ta σ H fun x H' => ∃ k, TruV X.K x H' k /\ Q k H') := by
 intro pins s σ H Q I h
 exact isTrue_plain (thn (ha pins s σ H _ I h) fun v s1 ⟨x, H1, I1, r1, q1⟩ => tru_ok pins s1 σ H1 x v Q I1 r1 q1) (he _)
theorem zk3 : OpR X (binaryOp .Add) (fun x y H Q => ∃ i j, x = .str i /\ y = .str j /\ i.length + j.length <= sizeLine /\ Q (.str (i ++ j)) H) := by
 intro pins s σ H x y v u Q I rx ry h
 obtain ⟨i, j, rfl, rfl, hz, q⟩ := h
 obtain ⟨t, rfl⟩ := rx
 obtain ⟨t', rfl⟩ := ry
 exact add_str (fun t' tk => ⟨.str (i ++ j), H, I.tok _, ⟨_, rfl⟩, q⟩) hz
theorem zia {x : V} (r : Vals [x] us) : ∃ u, us = [u] /\ RelV x u := by
 cases r with
 | cons r1 r2 => cases r2; exact ⟨_, rfl, r1⟩
theorem vals2 {x y : V} (r : Vals [x, y] us) : ∃ u w', us = [u, w'] /\ RelV x u /\ RelV y w' := by
 cases r with
 | cons r1 r2 =>
  cases r2 with
  | cons r3 r4 => cases r4; exact ⟨_, _, rfl, r1, r3⟩
theorem zl5 (hc : X.calm = true) : zfn X (.builtin "max") (fun xs H Q => ∃ i j, xs = [.int i, .int j] /\ Q (.int (if j > i then j else i)) H) := by
 intro pins s σ H xs us Q I r h
 obtain ⟨i, j, rfl, q⟩ := h
 obtain ⟨u, w', rfl, ⟨t, rfl⟩, ⟨t', rfl⟩⟩ := vals2 r
 refine max_two_ints (I.ok.hd hc) fun h' tk k => ⟨_, H, I.kept k, ?_, q⟩
 by_cases hj : j > i
 ·rw [if_pos hj, if_pos hj]; exact ⟨_, rfl⟩
 ·rw [if_neg hj, if_neg hj]; exact ⟨_, rfl⟩
theorem zli (hc : X.calm = true) : zfn X (.builtin "min") (fun xs H Q => ∃ i j, xs = [.int i, .int j] /\ Q (.int (if j < i then j else i)) H) := by
 intro pins s σ H xs us Q I r h
 obtain ⟨i, j, rfl, q⟩ := h
 obtain ⟨u, w', rfl, ⟨t, rfl⟩, ⟨t', rfl⟩⟩ := vals2 r
 refine min_two_ints (I.ok.hd hc) fun h' tk k => ⟨_, H, I.kept k, ?_, q⟩
 by_cases hj : j < i
 ·rw [if_pos hj, if_pos hj]; exact ⟨_, rfl⟩
 ·rw [if_neg hj, if_neg hj]; exact ⟨_, rfl⟩
end
structure ObjM (h : Heap) (x dx C : Addr) (mA : Str -> Option Value) : Prop where
 obj : h.get? x = some (W.instObj C dx)
 ns : h.Ns1 dx mA
 ne : dx ≠ x
theorem zlt (n : h.Ns1 dx mA) : ∃ od, h.get? dx = some od /\ ∀ name, W.lookIn name od = some (mA name) := by
 obtain ⟨o, es, ep, ho, hd, hk, _, hm⟩ := n
 refine ⟨o, ho, fun name => ?_⟩
 have e := hm name
 unfold nsFind findBy at e
 rw [<- Array.find?_toList] at e
 unfold W.lookIn
 rw [hd]
 dsimp only
 split
 ·rename_i y q
  rw [q] at e
  exact congrArg some e
 ·rename_i q
  rw [q] at e
  have a : es.toList.any (·.refKey) = false := by
   rw [List.any_eq_false]
   intro y hy
   obtain ⟨z, t, hkey⟩ := hk y (Array.mem_toList_iff.mp hy)
   simp [DictEntry.refKey, hkey]
  have a' : ¬ es.toList.any (·.refKey) = true := by rw [a]; exact Bool.false_ne_true
  rw [if_neg a']
  exact congrArg some e
theorem ObjM.look {x dx C : Addr} (I : ObjM h x dx C mA) : ∃ od, W.InstAt h x (W.instObj C dx) C (some od) /\ ∀ name, W.lookIn name od = some (mA name) :=
 let ⟨od, ho, hl⟩ := zlt I.ns
 ⟨od, ⟨I.obj, rfl, rfl, ho⟩, hl⟩
section
variable {P : Program} {w : World} {H H' : Hp} {h h' : Heap} {a C dx : Addr} {fs fs' : List (Str × V)}
theorem ins_get (hok : HOk P w H h) (e : H a = some (.ins C dx fs)) : ∃ mA, ObjM h a dx C mA /\ (∀ f, RelO (fs.lookup f) (mA f)) /\ PySem.Within mA (fs.map (·.1)) /\ fs.length <= 1000 /\ H dx = some (.own a) := by
 obtain ⟨d, z, ne, ob, mA, n, r, q⟩ := (show ObjOk P w H h a (.ins C dx fs) from hok a _ e)
 exact ⟨mA, ⟨ob, n, ne⟩, r, q, z, d⟩
end
structure Cls (K : W.Frag) (C : Addr) : Prop where
 pg : W.plainGet K C Str.empty = true
 hd : W.hasDictIn K C = true
 po : W.plainOver K C = true
 sa : W.findIn K (.ref C) "__setattr__" = some (some (.builtin "object.__setattr__"))
theorem Cls.get {C : Addr} (c : Cls K C) (f : Str) : W.plainGet K C f = true := c.pg
section
variable {X : Cx} {pins : List (Addr × Obj)} {σ : St} {H : Hp} {s : Shared} {A : Around} {E : Value -> Shared -> Prop} {Q : Value -> Shared -> Prop} {c : Value} {b : Bool}
inductive TyOf (K : W.Frag) (H : Hp) : V -> Value -> Prop where
 | non : TyOf K H .non (.type "NoneType")
 | bl (x : Bool) : TyOf K H (.bl x) (.type "bool")
 | int (i : Int) : TyOf K H (.int i) (.type "int")
 | str (x : Str) : TyOf K H (.str x) (.type "str")
 | flt (x : UInt64) : TyOf K H (.flt x) (.type "float")
 | lst {a : Addr} {xs : List V} (e : H a = some (.lst xs)) : TyOf K H (.ref a) (.type "list")
 | frz {a : Addr} {o : Obj} {xs : List V} (e : H a = some (.frz o (.lst xs))) : TyOf K H (.ref a) (.type "list")
 | tup {a : Addr} {xs : List V} (e : H a = some (.tup xs)) : TyOf K H (.ref a) (.type "tuple")
 | dK {a : Addr} {kvs : List (Key × V)} (e : H a = some (.dK kvs)) : TyOf K H (.ref a) (.type "dict")
 | dT {a : Addr} {kvs : List (List Key × V)} (e : H a = some (.dT kvs)) : TyOf K H (.ref a) (.type "dict")
 | ins {a C dx : Addr} {fs : List (Str × V)} (e : H a = some (.ins C dx fs)) (cl : Cls K C) (ha : W.findIn K (.ref C) "__class__" = some (some (.builtin "object.__class__")))
   (hn : W.specialIn K (.builtin "object.__class__") "__get__" = some (some (.builtin "getset_descriptor.__get__"))) (htk : W.takesIn K (.builtin "object.__class__") = some true)
   (hm : W.mroIn K C (.type "object") = some true) : TyOf K H (.ref a) (.ref C)
theorem zlZ {x : V} {u t : Value} (I : Inv X pins σ H s) (rx : RelV x u) (ty : TyOf X.K H x t) (e : W.kitOne X.K t c = some b) (h : ∀ tk, Q (.bool b) { s with toks := tk }) :
  wpAny (model X.prog X.w) A (call (.builtin "isinstance") [u, c]) Q E s := by
 cases ty with
 | non => cases (show u = Value.none from rx); exact W.kia_one W.kitx_none I.kIn True.intro e (fun z => nomatch z) h
 | bl y => cases (show u = Value.bool y from rx); exact W.kia_one W.kitx_bool I.kIn True.intro e (fun z => nomatch z) h
 | int i => obtain ⟨t, q⟩ := (show ∃ t, u = Value.int i t from rx); cases q; exact W.kia_one W.kitx_int I.kIn True.intro e (fun z => nomatch z) h
 | str y => obtain ⟨t, q⟩ := (show ∃ t, u = Value.str y t from rx); cases q; exact W.kia_one W.kitx_str I.kIn True.intro e (fun z => nomatch z) h
 | flt y => obtain ⟨t, q⟩ := (show ∃ t, u = Value.float y t from rx); cases q; exact W.kia_one W.kitx_float I.kIn True.intro e (fun z => nomatch z) h
 | @lst a xs ea =>
  cases (show u = Value.ref a from rx)
  obtain ⟨_, _, n, _, h1⟩ := (show ObjOk X.prog X.w H s.heap a (.lst xs) from I.hok a _ ea)
  exact W.kia_one W.kitx_list I.kIn ⟨_, h1, rfl⟩ e (fun z => nomatch z) h
 | @frz a ob xs ea =>
  cases (show u = Value.ref a from rx)
  obtain ⟨_, _, _, n, _, h1⟩ := (show ObjOk X.prog X.w H s.heap a (.frz ob (.lst xs)) from I.hok a _ ea)
  exact W.kia_one W.kitx_list I.kIn ⟨_, h1, rfl⟩ e (fun z => nomatch z) h
 | @tup a xs ea =>
  cases (show u = Value.ref a from rx)
  obtain ⟨_, _, _, p⟩ := (show ObjOk X.prog X.w H s.heap a (.tup xs) from I.hok a _ ea)
  obtain ⟨o, h1, h2, _⟩ := p
  exact W.kia_one W.kitx_tuple I.kIn ⟨o, h1, h2⟩ e (fun z => nomatch z) h
 | @dK a kvs ea =>
  cases (show u = Value.ref a from rx)
  obtain ⟨_, _, vs, _, p⟩ := (show ObjOk X.prog X.w H s.heap a (.dK kvs) from I.hok a _ ea)
  obtain ⟨o, es, ep, h1, h2, _⟩ := p
  exact W.kia_one W.kitx_dict I.kIn ⟨o, h1, h2.1⟩ e (fun z => nomatch z) h
 | @dT a kvs ea =>
  cases (show u = Value.ref a from rx)
  obtain ⟨_, _, xs, _, o, es, ep, h1, h2, _⟩ := (show ObjOk X.prog X.w H s.heap a (.dT kvs) from I.hok a _ ea)
  exact W.kia_one W.kitx_dict I.kIn ⟨o, h1, h2.1⟩ e (fun z => nomatch z) h
 | @ins a C dx fs ea cl ha hn htk hm =>
  cases (show u = Value.ref a from rx)
  obtain ⟨mA, O, _⟩ := ins_get I.hok ea
  obtain ⟨od, J, _⟩ := O.look
  exact W.kia_one (W.kitx_own (cl.get _) cl.hd ha hn htk hm) I.kIn J e (fun z => nomatch z) h
end
structure Room (k : Nat) (A : Around) : Prop where
 hd : A.handled = none
 dp : A.depth + 3 * k + 5 < recursionLimit
 un : A.units + 16 * k + 200 < cLine
 gd : A.guards = some []
theorem Room.mono (r : Room k A) (h : j <= k) : Room j A := ⟨r.hd, by have := r.dp; omega, by have := r.un; omega, r.gd⟩
theorem Room.deeper (r : Room (k + 1) A) (env : Env) : Room k (A.deeper env) :=
 ⟨r.hd, by have := r.dp; show A.depth + 1 + 3 * k + 5 < _; omega, by have := r.un; show A.units + 3 + 16 * k + 200 < _; omega, r.gd⟩
theorem Room.depth (r : Room k A) : A.depth < recursionLimit := by have := r.dp; omega
theorem Room.units (r : Room k A) : A.units + 64 < cLine := by have := r.un; omega
def tNil : TA := fun _ H Q => Q [] H
def tCons (ta : TE) (tr : TA) : TA := fun σ H Q => ta σ H fun x H1 => tr σ H1 fun xs H2 => Q (x :: xs) H2
section
variable {X : Cx} {e : Expr} {es : List Expr} {te : TE} {t : TA} {pos : Pos}
theorem zdA : PA X [] tNil := fun _ _ _ _ H Q I h => Calls.spliced_nil ⟨[], H, I, .nil, h⟩
theorem zbi (ha : PE X e te) (hr : PA X es t) (hs : starEach (e :: es) X.env = (false, eval e X.env) :: starEach es X.env := by rfl) : PA X (e :: es) (tCons te t) := by
 intro pos pins s σ H Q I h
 rw [hs]
 show wpAny _ _ (spliced ((false, eval e X.env) :: backTo pos (starEach es X.env))) _ _ s
 refine Calls.spliced_cons (thn (ha pins s σ H _ I h) fun u s1 ⟨x, H1, I1, r1, q1⟩ => ?_)
 exact thn (hr pos pins s1 σ H1 _ I1 q1) fun us s2 ⟨xs, H2, I2, r2, q2⟩ => ⟨x :: xs, H2, I2, .cons r1 r2, q2⟩
def tTup (t : TA) : TE := fun σ H Q => t σ H fun xs H1 => xs.length <= sizeLine /\ ∀ p, H1 p = none -> Q (.ref p) (upd H1 p (.tup xs))
def tLst (t : TA) : TE := fun σ H Q => t σ H fun xs H1 => xs.length <= sizeLine /\ ∀ p, H1 p = none -> Q (.ref p) (upd H1 p (.lst xs))
theorem pe_tup {x1} (h : PA X es t) : PE X (.Tuple es x1 pos) (tTup t) := by
 intro pins s σ H Q I hq
 refine wpAny_Tuple_spliced (thn (h pos pins s σ H _ I hq) fun us s1 ⟨xs, H1, I1, r, z, q⟩ => ⟨by rw [<- r.length]; exact z, ?_⟩)
 have hf : H1 s1.heap.objs.size = none := I1.hok.fresh (Nat.le_refl _)
 refine ⟨.ref s1.heap.objs.size, upd H1 s1.heap.objs.size (.tup xs), I1.laid (t' := s1.toks) (fun b u e => Heap.get?_push_of_some _ e) (Nat.le_refl _) ?_, rfl, q _ hf⟩
 exact ⟨z, us, r, ⟨_, Heap.get?_push_size _ rfl, rfl, _, rfl⟩⟩
theorem zl4 (h : PA X es t) : PE X (.List es pos) (tLst t) := by
 intro pins s σ H Q I hq
 refine wpAny_List_spliced (thn (h pos pins s σ H _ I hq) fun us s1 ⟨xs, H1, I1, r, z, q⟩ => ⟨by rw [<- r.length]; exact z, ?_⟩)
 have hf : H1 s1.heap.objs.size = none := I1.hok.fresh (Nat.le_refl _)
 refine ⟨.ref s1.heap.objs.size, upd H1 s1.heap.objs.size (.lst xs), I1.laid (t' := s1.toks) (fun b u e => Heap.get?_push_of_some _ e) (Nat.le_refl _) ?_, rfl, q _ hf⟩
 exact ⟨z, us, 0, r, Heap.get?_push_size _ rfl⟩
end
abbrev Sp := List V -> Hp -> VK -> XK -> Prop
abbrev CXT := List Env -> Hp -> Shared -> XK -> Value -> Shared -> Prop
structure Env0 (P : Program) (w : World) (K : W.Frag) (mg : Str -> Option Value) (base : Heap) (A : Around) (outer : List Env) (s : Shared) (H : Hp) : Prop where
 frames : A.frames = some outer
 mod : Mod K mg base
 bs : ∀ b o, base.get? b = some o -> s.heap.get? b = some o /\ H b = none
 bsz : base.objs.size <= s.heap.objs.size
 funs : s.heap.FunFrames base outer
 frf : ∀ b ∈ frs outer, H b = none
 hok : HOk P w H s.heap
 bare : AllBare s.gens
def CE (outer : List Env) (P : Program) (w : World) (H : Hp) (s : Shared) (Q : VK) (u : Value) (s' : Shared) : Prop :=
 ∃ v H', s'.os = s.os /\ AllBare s'.gens /\ Un (frs outer) [] H H' s.heap s'.heap /\ HOk P w H' s'.heap /\ RelV v u /\ Q v H'
def CR (CX : CXT) (outer : List Env) (P : Program) (w : World) (H : Hp) (s : Shared) (Q : VK) (E : XK) (r : Result) (s' : Shared) : Prop :=
 match r with
 | .ok (.ret u) => CE outer P w H s Q u s'
 | .ok _ => False
 | .error e => CX outer H s E e s'
structure FnOk (P : Program) (w : World) (K : W.Frag) (mg : Str -> Option Value) (base : Heap) (CX : CXT) (k : Nat) (f : Addr) (fd : FuncData) (ps : List Str) (sp : Sp) : Prop where
 len : ∀ vs H Q E, sp vs H Q E -> vs.length = ps.length
 run : ∀ (A : Around) (outer : List Env) (s : Shared) (H : Hp) (args : Args) (us : List Value) (vs : List V) (Q : VK) (E : XK), Room k A -> Env0 P w K mg base A outer s H -> BindsTo s fd args (ps.zip us) -> Vals vs us -> sp vs H Q E ->
  codeAny (model P w) A (.call (.ref f) args) (CR CX outer P w H s Q E) s
section
variable {X : Cx} {pins : List (Addr × Obj)} {σ : St} {H : Hp} {s s' : Shared}
theorem Inv.env0 (I : Inv X pins σ H s) : Env0 X.prog X.w X.K X.mg X.base X.A X.stack s H :=
 ⟨I.ok.frames, I.ok.mod, I.bs, Nat.le_trans I.ok.bsz I.sz, I.stack, I.stkFree, I.hok, I.bare⟩
theorem Inv.after {Q : VK} (I : Inv X pins σ H s) (h : CE X.stack X.prog X.w H s Q u s') : EP X pins σ Q u s' := by
 obtain ⟨v, H', os, bare, un, hok, r, q⟩ := h
 obtain ⟨hh, g, d, t, os'⟩ := s'
 obtain rfl : os' = s.os := os
 exact ⟨v, H', I.call (h' := hh) (g' := g) (d' := d) (t' := t) (ch := []) un hok bare (fun b z => absurd z (by simp)), r, q⟩
end
def tCall (sp : Sp) (dvs : List V) (E : XK) (t : TA) : TE := fun σ H Q => t σ H fun vs H1 => sp (vs ++ dvs) H1 Q E
def Binds (K : W.Frag) (fd : FuncData) (ps : List Str) (ds : List Value) : Prop :=
 ∀ (s : Shared) (us : List Value), K.In s.heap -> (us ++ ds).length = ps.length -> BindsTo s fd ⟨us, []⟩ (ps.zip (us ++ ds))
theorem Binds.all (h : ∀ us : List Value, us.length = ps.length -> bindArgs fd ⟨us, []⟩ = pure (ps.zip us)) : Binds K fd ps [] := fun s us _ hl => by
 rw [List.append_nil] at hl ⊢
 exact .of_eq (h us hl)
def zlT (CX : CXT) (X : Cx) (E : XK) : Prop := ∀ (pins : List (Addr × Obj)) (σ : St) (H : Hp) (s : Shared) (e : Value) (s' : Shared), Inv X pins σ H s -> CX X.stack H s E e s' -> X.xe e s'
section
variable {X : Cx} {CX : CXT} {k : Nat} {f C : Addr} {fd : FuncData} {ps : List Str} {sp : Sp} {dvs : List V} {ds : List Value} {E : XK} {x m : Str} {p pos apos : Pos} {e o : Expr} {es : List Expr} {ta : TE} {t : TA}
theorem run_fn {Q : VK} (F : FnOk X.prog X.w X.K X.mg X.base CX k f fd ps sp) (hr : Room k X.A) (hb : Binds X.K fd ps ds) (hd : Vals dvs ds) (hx : zlT CX X E)
  (I : Inv X pins σ H s) (r : Vals vs us) (h : sp (vs ++ dvs) H Q E) : wpAny (model X.prog X.w) X.A (call (.ref f) us) (EP X pins σ Q) X.xe s := by
 have r2 : Vals (vs ++ dvs) (us ++ ds) := r.append hd
 have hl : (us ++ ds).length = ps.length := by rw [<- r2.length]; exact F.len _ _ _ _ h
 refine wpAny_call (codeAny_mono (F.run X.A X.stack s H ⟨us, []⟩ (us ++ ds) (vs ++ dvs) Q E hr I.env0 (hb s us I.kIn hl) r2 h) fun r s' hq => ?_)
 cases r with
 | error e => exact hx pins σ H s e s' I hq
 | ok fl =>
  cases fl with
  | ret u => exact I.after hq
  | next => exact False.elim hq
  | brk => exact False.elim hq
  | cont => exact False.elim hq
theorem zhy (F : FnOk X.prog X.w X.K X.mg X.base CX k f fd ps sp) (hr : Room k X.A) (hg : Gl X x) (hm : X.mg x = some (.ref f)) (hk : W.keepIn X.K (.ref f) = true) (hb : Binds X.K fd ps ds) (hd : Vals dvs ds) (hx : zlT CX X E)
  (ha : PA X (e :: es) t) (hdb : (x == ("__debug__" : Str)) = false := by decide) (he : starEach (e :: es) X.env = (false, eval e X.env) :: starEach es X.env := by rfl) (hpl : (backTo pos (starEach es X.env)).any (·.1) = false := by rfl) :
  PE X (.Call (.Name x p) (e :: es) [] pos) (tCall sp dvs E t) := by
 intro pins s σ H Q I h
 refine wpAny_Call_Name_kw (ld_glob I hg hm ?_ hdb)
 refine W.callWith_K (h₀ := X.base) I.ok.mod.kin hk (thn (ha pos pins s σ H _ I h) fun us s1 ⟨vs, H1, I1, r, q⟩ => ⟨I1.kIn, ?_⟩) he hpl
 exact run_fn F hr hb hd hx I1 r q
end
structure FnScope (N P : List Str) (sc : Scope) : Prop where
 kind : sc.kind = .function
 co : sc.isCoroutine = false
 gen : sc.isGenerator = false
 nd : N.Nodup
 pre : N.take P.length = P
 par : ∀ x ∈ P, sc.names.lookup x = some .local \/ sc.names.lookup x = some .cell
 nofree : ∀ y ∈ sc.names, y.2 ≠ .free
theorem zjm : ∀ {binds : List (Str × Value)} {m : Str -> Option Value}, (∀ v, (x, v) ∉ binds) -> bindL kindOf binds m x = m x
 | [], _, _ => rfl
 | (n, v) :: r, m, h => by
  unfold bindL
  rw [zjm fun w hw => h w (List.mem_cons_of_mem _ hw)]
  split
  ·have : x ≠ n := by rintro rfl; exact h v List.mem_cons_self
   simp [this]
  ·rfl
theorem ziT : ∀ {binds : List (Str × Value)} {m : Str -> Option Value}, (∀ v, (x, v) ∉ binds) -> bindC kindOf binds m x = m x
 | [], _, _ => rfl
 | (n, v) :: r, m, h => by
  unfold bindC
  rw [ziT fun w hw => h w (List.mem_cons_of_mem _ hw)]
  split
  ·rfl
  ·have : x ≠ n := by rintro rfl; exact h v List.mem_cons_self
   simp [this]
theorem zjk {v : Value} : ∀ {P : List Str} {vs : List Value} {i : Nat} {m : Str -> Option Value}, P.Nodup -> P[i]? = some x -> vs[i]? = some v -> kindOf x = some .local ->
  bindL kindOf (P.zip vs) m x = some v
 | [], _, _, _, _, h, _, _ => by simp at h
 | _ :: _, [], _, _, _, _, h, _ => by simp at h
 | p :: P, w :: vs, 0, m, nd, h1, h2, hk => by
  simp at h1 h2; subst h1; subst h2
  show bindL kindOf ((p, w) :: P.zip vs) m p = _
  unfold bindL
  rw [zjm fun v hv => (List.nodup_cons.mp nd).1 (List.of_mem_zip hv).1, if_pos hk]
  simp
 | p :: P, w :: vs, i + 1, m, nd, h1, h2, hk => by
  show bindL kindOf ((p, w) :: P.zip vs) m x = _
  unfold bindL
  exact zjk (i := i) (List.nodup_cons.mp nd).2 (by simpa using h1) (by simpa using h2) hk
theorem zjo {v : Value} : ∀ {P : List Str} {vs : List Value} {i : Nat} {m : Str -> Option Value}, P.Nodup -> P[i]? = some x -> vs[i]? = some v -> kindOf x ≠ some .local ->
  bindC kindOf (P.zip vs) m x = some v
 | [], _, _, _, _, h, _, _ => by simp at h
 | _ :: _, [], _, _, _, _, h, _ => by simp at h
 | p :: P, w :: vs, 0, m, nd, h1, h2, hk => by
  simp at h1 h2; subst h1; subst h2
  show bindC kindOf ((p, w) :: P.zip vs) m p = _
  unfold bindC
  rw [ziT fun v hv => (List.nodup_cons.mp nd).1 (List.of_mem_zip hv).1, if_neg hk]
  simp
 | p :: P, w :: vs, i + 1, m, nd, h1, h2, hk => by
  show bindC kindOf ((p, w) :: P.zip vs) m x = _
  unfold bindC
  exact zjo (i := i) (List.nodup_cons.mp nd).2 (by simpa using h1) (by simpa using h2) hk
def start (N : List Str) (vs : List V) : St := vs.map some ++ List.replicate (N.length - vs.length) none
def cxOf (CX : CXT) (P : Program) (w : World) (K : W.Frag) (mg : Str -> Option Value) (base : Heap) (N : List Str) (qual : Str) (scope : Scope) (f : Addr) (cd : Value) (A : Around) (outer : List Env) (s : Shared) (H : Hp) (E : XK) : Cx where
 prog := P
 w := w
 K := K
 mg := mg
 base := base
 A := A.deeper (envOfC qual scope s.heap.objs.size f cd)
 N := N
 s₀ := s
 H₀ := H
 env := envOfC qual scope s.heap.objs.size f cd
 outer := outer
 stack := envOfC qual scope s.heap.objs.size f cd :: outer
 ex := []
 calm := true
 fn := fun _ => true
 pn := []
 xe := fun e s' => wpAny (model P w) (A.deeper (envOfC qual scope s.heap.objs.size f cd)) (leaving (envOfC qual scope s.heap.objs.size f cd) e) (fun _ s'' => CX outer H s E e s'') (fun e' s'' => CX outer H s E e' s'') s'
theorem zkd (h : sc.names.lookup x = some .cell) : ∃ c, (cellsFrom n sc.names []).lookup x = some c := by
 have q := W.cellsFrom_some sc.names n [] (.inl h)
 exact Option.isSome_iff_exists.mp q
theorem zlY {P : Program} {f : Addr} {s s1 : Shared} {E : XK} 
  (S : FnScope N ps scope) (hd : A.handled = none) (e0 : Env0 P w K mg base A outer s H) (hl : vs.length = ps.length) (r : Vals vs us)
  (x : InCallC s s.heap.objs.size (bindL (envOfC qual scope s.heap.objs.size f cd).kindOf (ps.zip us) fun _ => none) (cellsFrom (s.heap.objs.size + 1) scope.names []) (bindC (envOfC qual scope s.heap.objs.size f cd).kindOf (ps.zip us) fun _ => none) s1) :
  Inv (cxOf CX P w K mg base N qual scope f cd A outer s H E) [] (start N vs) H s1 := by
 have hpl : ps.length <= N.length := by have := congrArg List.length S.pre; rw [List.length_take] at this; omega
 obtain ⟨h1, tk, rfl, hk⟩ := x.done
 have noA : ∀ b : Addr, b ∉ (cxOf CX P w K mg base N qual scope f cd A outer s H E).ex := fun b z => absurd (show b ∈ ([] : List Addr) from z) (by simp)
 refine ⟨⟨e0.mod, S.kind, rfl, rfl, Nat.le_refl _, fun y z c h1 h2 => ?_, fun y hy => ?_, fun y c _ h => ?_, fun _ => hd, Around.frames_deeper e0.frames, .inr ⟨rfl, rfl⟩, fun b z => absurd z (noA b), e0.bs, e0.bsz, fun b _ _ => noA b, fun b z => absurd z (noA b), e0.funs, e0.frf⟩,
  rfl, e0.bare, Un.kept hk, ⟨_, x.toInCall.ns, fun i y v h1 h2 h3 => ?_⟩, fun y c h => ⟨_, x.cell y c h⟩, e0.hok.fresh (Nat.le_refl _), fun y c h => ?_, fun p hp => absurd (show p ∈ ([] : List (Addr × Obj)) from hp) (by simp), e0.hok.kept hk, ?_⟩
 ·exact name_of_addr x.apart (PySem.mem_of_lookup h1) (PySem.mem_of_lookup h2)
 ·have hy : scope.names.lookup y = some .cell \/ scope.names.lookup y = some .free := hy
  rcases hy with hy | hy
  ·exact zkd hy
  ·exact absurd rfl (S.nofree _ (PySem.mem_of_lookup hy))
 ·exact Nat.le_of_lt (x.above y c (PySem.mem_of_lookup h))
 ·have hi : i < vs.length := by
   unfold start at h2
   by_cases hi : i < vs.length
   ·exact hi
   ·rw [List.getElem?_append_right (by simpa using hi)] at h2
    rw [List.getElem?_replicate] at h2
    split at h2 <;> cases h2
  have ha : vs[i]? = some v := by
   unfold start at h2
   rw [List.getElem?_append_left (by simpa using hi), List.getElem?_map] at h2
   cases e : vs[i]? with
   | none => rw [e] at h2; cases h2
   | some a => rw [e] at h2; cases h2; rfl
  obtain ⟨u, hu, rv⟩ := r.get ha
  have hp : ps[i]? = some y := by
   rw [<- S.pre, List.getElem?_take_of_lt (by omega)]; exact h1
  have ndP : ps.Nodup := by rw [<- S.pre]; exact S.nd.sublist (List.take_sublist _ _)
  refine ⟨u, rv, ?_⟩
  rcases S.par y (List.mem_of_getElem? hp) with k | k
  ·exact .inl ⟨k, zjk ndP hp hu k⟩
  ·obtain ⟨c, e⟩ := zkd (n := s.heap.objs.size + 1) k
   refine .inr ⟨.inl k, c, e, ?_⟩
   have q := x.cell y c e
   rw [zjo ndP hp hu (by show scope.names.lookup y ≠ _; rw [k]; decide)] at q
   exact q
 ·exact e0.hok.fresh (Nat.le_of_lt (x.above y c (PySem.mem_of_lookup h)))
 ·unfold start
  show _ = N.length
  rw [List.length_append, List.length_map, List.length_replicate]
  omega
theorem fn_of {P : Program} {f : Addr} {name qual : Str} {dV kV doc pm cdv ct oc : Value} {an od : Option Addr}
  {osl : Array (Option Value)} {N ps : List Str} {sp : Sp} (lk : K.lookup f = some ⟨oc, od, .func (W.fnOf name qual params body scope dV kV doc pm an cdv ct), osl⟩) (hcd : W.codeIn K cdv qual = true) (S : FnScope N ps scope)
  (len : ∀ vs H Q E, sp vs H Q E -> vs.length = ps.length)
  (hbody : ∀ (A : Around) (outer : List Env) (s : Shared) (H : Hp) (vs : List V) (Q : VK) (E : XK), Room k (A.deeper (envOfC qual scope s.heap.objs.size f cdv)) -> sp vs H Q E ->
   ∃ t, PSs (cxOf CX P w K mg base N qual scope f cdv A outer s H E) body t /\ t { nx := fun _ H' => Q .non H', rt := Q } (start N vs) H) :
  FnOk P w K mg base CX (k + 1) f (W.fnOf name qual params body scope dV kV doc pm an cdv ct) ps sp := by
 refine ⟨len, fun A outer s H args us vs Q E hr e0 hb r hsp => ?_⟩
 have hl := len _ _ _ _ hsp
 have KX : K.In s.heap := e0.mod.kin.keeps fun b o e => (e0.bs b o e).1
 have lim : s.heap.NoLimit := e0.mod.nolimit.keeps fun b o e => (e0.bs b o e).1
 have hkind : ∀ y ∈ ps.zip us, scope.names.lookup y.1 = some .local \/ (scope.names.lookup y.1 = some .cell /\ ((cellsFrom (s.heap.objs.size + 1) scope.names []).lookup y.1).isSome = true) := fun ⟨n, v⟩ hy => by
  rcases S.par n (List.of_mem_zip hy).1 with q | q
  ·exact .inl q
  ·exact .inr ⟨q, W.cellsFrom_some _ _ _ (.inl q)⟩
 refine codeAny_call_function hr.depth (KX _ _ lk) rfl S.co S.gen rfl (W.codeRec_of KX hcd) (hb _ _ _ _ ?_)
 refine wpAny_newFunctionEnv_cells S.kind hkind fun env he s1 x => ?_
 subst he
 refine ⟨lim.keeps x.toInCall.keep, codeAny_func ?_⟩
 obtain ⟨t, ht, hq⟩ := hbody A outer s H vs Q E (hr.deeper _) hsp
 have I : Inv (cxOf CX P w K mg base N qual scope f cdv A outer s H E) [] (start N vs) H s1 := zlY S hr.hd e0 hl r x
 refine wpAny_mono (ht [] s1 (start N vs) H _ I hq) (fun fl s' hs => ?_) fun e s' hs => hs
 have fin : ∀ {σ' : St} {H' : Hp} {v : V} {u : Value}, Inv (cxOf CX P w K mg base N qual scope f cdv A outer s H E) [] σ' H' s' -> RelV v u -> Q v H' -> CE outer P w H s Q u s' :=
  fun {σ' H' v u} J rv q => ⟨v, H', J.os, J.bare, J.base, J.hok, rv, q⟩
 cases fl with
 | ret u =>
  obtain ⟨v, σ', H', J, rv, q⟩ := hs
  exact fin J rv q
 | next =>
  obtain ⟨σ', H', J, q⟩ := hs
  exact fin (v := V.non) (u := Value.none) J rfl q
 | brk =>
  obtain ⟨_, _, _, q⟩ := hs
  exact False.elim q
 | cont =>
  obtain ⟨_, _, _, q⟩ := hs
  exact False.elim q
section
variable {X : Cx} {x : Str} {p pos : Pos} {e : Expr} {es : List Expr} {t : TA} {id T : String} {r : List V -> Hp -> VK -> Prop}
def tCB (r : List V -> Hp -> VK -> Prop) (t : TA) : TE := fun σ H Q => t σ H fun vs H1 => r vs H1 Q
theorem zf6 (hc : zfn X (.builtin id) r) (hg : Gl X x) (hm : X.mg x = none) (hv : bootBuiltins x = some (.builtin id)) (ha : PA X (e :: es) t) (hn : x ≠ "__name__" := by decide) (hdb : (x == ("__debug__" : Str)) = false := by decide)
  (he : starEach (e :: es) X.env = (false, eval e X.env) :: starEach es X.env := by rfl) (hpl : (backTo pos (starEach es X.env)).any (·.1) = false := by rfl) : PE X (.Call (.Name x p) (e :: es) [] pos) (tCB r t) := by
 intro pins s σ H Q I h
 refine wpAny_Call_Name_kw (zhV I hg hm hv ?_ hn hdb)
 exact PyProof.Rows.callWith_builtin1 (thn (ha pos pins s σ H _ I h) fun us s1 ⟨vs, H1, I1, r1, q1⟩ => hc pins s1 σ H1 vs us Q I1 r1 q1) he hpl
theorem zf0 (hc : zfn X (.type T) r) (hg : Gl X x) (hm : X.mg x = none) (hv : bootBuiltins x = some (.type T)) (ha : PA X (e :: es) t) (hn : x ≠ "__name__" := by decide) (hdb : (x == ("__debug__" : Str)) = false := by decide)
  (he : starEach (e :: es) X.env = (false, eval e X.env) :: starEach es X.env := by rfl) (hpl : (backTo pos (starEach es X.env)).any (·.1) = false := by rfl) : PE X (.Call (.Name x p) (e :: es) [] pos) (tCB r t) := by
 intro pins s σ H Q I h
 refine wpAny_Call_Name_kw (zhV I hg hm hv ?_ hn hdb)
 exact PyProof.Rows.callWith_type1 (thn (ha pos pins s σ H _ I h) fun us s1 ⟨vs, H1, I1, r1, q1⟩ => hc pins s1 σ H1 vs us Q I1 r1 q1) he hpl
end
end L2
namespace HT
open PyProof.Rows PySem
section
variable {prog : Program} {w : World} {A : Around} {E : Value -> Shared -> Prop} {s : Shared}
theorem cat_tup {t b : Addr} {vs ws : List Value} {Q : Value -> Shared -> Prop} (ht : IsTup s.heap t vs.toArray) (hb : IsTup s.heap b ws.toArray) (hv : vs ≠ [])
  (h1 : ws = [] -> Q (.ref t) s) (h2 : ws ≠ [] -> Q (.ref s.heap.objs.size) { s with heap := s.heap.push { cls := .type "tuple", data := .seq (vs ++ ws).toArray } })
  (hsz : vs.length + ws.length <= sizeLine) : wpAny (model prog w) A (binaryOp .Add (.ref t) (.ref b)) Q E s := by
 obtain ⟨⟨cls, dd, data, sl⟩, ho, hc, n, hd⟩ := id ht
 obtain ⟨⟨cls2, dd2, data2, sl2⟩, ho2, hc2, n2, hd2⟩ := id hb
 simp only at hc hd hc2 hd2
 subst hc hd hc2 hd2
 have e : vs.toArray ++ ws.toArray = (vs ++ ws).toArray := by simp
 by_cases hw : ws = []
 ·exact concat_meets ⟨_, ho, rfl⟩ ⟨_, ho2, rfl⟩ noFill_tuple_add seq_tuple_add PySem.F.slot_tuple_add PySem.F.entry_tuple_add (PySem.F.args_tuple_add_2 _ _)
   (tuple_addW1 t b vs.toArray ws.toArray n n2 dd dd2 sl sl2 (by simpa using hv) (by simp [hw])) ⟨ho, ho2, h1 hw⟩
 ·refine concat_meets ⟨_, ho, rfl⟩ ⟨_, ho2, rfl⟩ noFill_tuple_add seq_tuple_add PySem.F.slot_tuple_add PySem.F.entry_tuple_add (PySem.F.args_tuple_add_2 _ _)
   (tuple_addW2 t b vs.toArray ws.toArray n n2 dd dd2 sl sl2 (by simpa using hv) (by simpa using hw) (by rw [List.size_toArray, List.size_toArray]; exact hsz)) ⟨ho, ho2, ?_⟩
  rw [e]
  exact h2 hw
def sIx (n d : Nat) : Option Int -> Nat
 | none => d
 | some v => if v < 0 then (v + (n : Int)).toNat else min v.toNat n
theorem zj5 (n d : Nat) : sIx n d none = d := rfl
theorem zih (n d k : Nat) : sIx n d (some (k : Int)) = min k n := by
 show (if (k : Int) < 0 then ((k : Int) + (n : Int)).toNat else min (k : Int).toNat n) = min k n
 rw [if_neg (by omega), Int.toNat_natCast]
theorem sIx_le (n d : Nat) (hd : d <= n) (o : Option Int) : sIx n d o <= n := by
 cases o with
 | none => exact hd
 | some v =>
  show (if v < 0 then (v + (n : Int)).toNat else min v.toNat n) <= n
  by_cases hv : v < 0
  ·rw [if_pos hv]; omega
  ·rw [if_neg hv]; exact Nat.min_le_right _ _
theorem zl9 (v : Int) (n d : Nat) : (if v < 0 then max (v + (n : Int)) 0 else min v (n : Int)) = ((sIx n d (some v) : Nat) : Int) := by
 show (if v < 0 then max (v + (n : Int)) 0 else min v (n : Int)) = (((if v < 0 then (v + (n : Int)).toNat else min v.toNat n) : Nat) : Int)
 by_cases hv : v < 0
 ·simp only [if_pos hv]; omega
 ·simp only [if_neg hv]; omega
theorem zkS (lo hi : Option Int) (n : Nat) : Builtin.Slice.sliceAdjust lo hi 1 (n : Int) = (((sIx n 0 lo : Nat) : Int), ((sIx n n hi : Nat) : Int)) := by
 have h1 : ¬ ((1 : Int) < 0) := by omega
 unfold Builtin.Slice.sliceAdjust
 simp only [h1, if_false]
 refine Prod.ext ?_ ?_
 ·cases lo with
  | none => rfl
  | some v => exact zl9 v n 0
 ·cases hi with
  | none => rfl
  | some v => exact zl9 v n n
theorem zkP (i j : Nat) : Builtin.Slice.slicePlaces (i : Int) (j : Int) 1 = j - i := by
 unfold Builtin.Slice.slicePlaces
 have h1 : (1 : Int) > 0 := by omega
 simp only [h1, if_true, Int.ediv_one]
 split <;> omega
theorem zhZ {v : Value} {o : Option Int} {Q : Option Int -> Shared -> Prop} (p : IsPart v o) (h : Q o s) : wpAny (model prog w) A (Builtin.Slice.slicePartIndex v) Q E s := by
 cases p with
 | none => exact slicePart_none h
 | int i t => exact slicePart_int h
theorem zdY {sl : Addr} {vl vu : Value} {lo hi : Option Int} {n : Nat} {Q : Int × Int × Nat -> Shared -> Prop} (hs : s.heap.IsSliceOf sl vl vu .none) (pl : IsPart vl lo) (pu : IsPart vu hi)
  (h : Q (((sIx n 0 lo : Nat) : Int), 1, sIx n n hi - sIx n 0 lo) s) : wpAny (model prog w) A (Builtin.Slice.sliceApplied (.ref sl) (pure (n : Int))) Q E s := by
 obtain ⟨os, hos, hcs, hds⟩ := id hs
 unfold Builtin.Slice.sliceApplied Builtin.Slice.sliceFields
 refine wpAny_bind (wpAny_bind (wpAny_field hos hds (x := vl) rfl (wpAny_bind (wpAny_field hos hds (x := vu) rfl (wpAny_bind (wpAny_field hos hds (x := .none) rfl (wpAny_pure ?_)))))))
 refine wpAny_bind (slicePart_none ?_)
 show wpAny _ _ (if ((1 : Int) == 0) = true then _ else _) _ _ s
 rw [if_neg (by decide)]
 refine wpAny_bind (zhZ pl (wpAny_bind (zhZ pu (wpAny_bind (wpAny_pure ?_)))))
 show wpAny _ _ (match Builtin.Slice.sliceAdjust lo hi 1 (n : Int) with | (lo, hi) => pure (lo, (1 : Int), Builtin.Slice.slicePlaces lo hi 1)) _ _ s
 rw [zkS lo hi n]
 show wpAny _ _ (pure (((sIx n 0 lo : Nat) : Int), (1 : Int), Builtin.Slice.slicePlaces ((sIx n 0 lo : Nat) : Int) ((sIx n n hi : Nat) : Int) 1)) _ _ s
 rw [zkP]
 exact wpAny_pure h
theorem pick_gen (xs : Array Value) (i k : Nat) : ((List.range k).filterMap fun (m : Nat) => xs[((i : Int) + (m : Int) * 1).toNat]?).toArray = ((xs.toList.drop i).take k).toArray := by
 have e : (fun (m : Nat) => xs[((i : Int) + (m : Int) * 1).toNat]?) = fun m => xs[i + m]? := by
  funext m
  have : ((i : Int) + (m : Int) * 1).toNat = i + m := by omega
  rw [this]
 rw [e]
 have := pick_run xs i k
 rw [List.filterMap_map] at this
 have e2 : ((fun x => xs[x]?) ∘ fun x => i + x) = fun m => xs[i + m]? := rfl
 rw [e2] at this
 rw [this]
theorem zgx {t sl : Addr} {items : Array Value} {vl vu : Value} {lo hi : Option Int} {Q : Value -> Shared -> Prop} (ht : IsTup s.heap t items) (hs : s.heap.IsSliceOf sl vl vu .none) (pl : IsPart vl lo) (pu : IsPart vu hi)
  (hw : ¬ (sIx items.size 0 lo = 0 /\ sIx items.size items.size hi = items.size))
  (h : Q (.ref s.heap.objs.size) { s with heap := s.heap.push { cls := .type "tuple", data := .seq ((items.toList.drop (sIx items.size 0 lo)).take (sIx items.size items.size hi - sIx items.size 0 lo)).toArray } })
  (hsz : items.size <= sizeLine) : wpAny (model prog w) A (getItem (.ref t) (.ref sl)) Q E s := by
 have htake : sizeOk (.seq ((items.toList.drop (sIx items.size 0 lo)).take (sIx items.size items.size hi - sIx items.size 0 lo)).toArray) := by
  show ((items.toList.drop (sIx items.size 0 lo)).take (sIx items.size items.size hi - sIx items.size 0 lo)).toArray.size <= sizeLine
  rw [List.size_toArray, List.length_take, List.length_drop, Array.length_toList]
  omega
 have hj : sIx items.size items.size hi <= items.size := sIx_le _ _ (Nat.le_refl _) hi
 obtain ⟨os, hos, hcs, hds⟩ := id hs
 have hTs : s.TypeIs (.ref sl) "slice" := ⟨os, hos, hcs⟩
 unfold getItem
 try with_reducible refine wpAny_holding ?_
 first | refine wpAny_bind (wpAny_pure ?_) | skip
 refine wpAny_bind (wpAny_sequenceKey ht.typeIs (by decide) ?_)
 refine wpAny_bind (wpAny_callSpecial?_slot (name := Str.ofString "__getitem__") ht.typeIs PyProof.Rows.slot_tuple_getitem
  (wpAny_call_entry PyProof.Rows.slot_tuple_getitem ht.typeIs entry_tuple_getitem ?_ (args_tuple_getitem _ _)))
 show wpAny _ _ (Builtin.Tuple.tupleItemsOf (.ref t) >>= _) _ _ s
 refine wpAny_bind (tupleItemsOf_ ht ?_)
 refine wpAny_bind (wpAny_typeOf hTs ?_)
 rw [if_pos (by decide)]
 refine wpAny_bind (zdY hs pl pu ?_)
 have hno : ¬ ((((sIx items.size 0 lo : Nat) : Int) == 0 && (1 : Int) == 1 && (sIx items.size items.size hi - sIx items.size 0 lo) == items.size) = true) := by
  intro q
  rw [Bool.and_eq_true, Bool.and_eq_true] at q
  have q1 : ((sIx items.size 0 lo : Nat) : Int) = 0 := eq_of_beq q.1.1
  have q2 : sIx items.size items.size hi - sIx items.size 0 lo = items.size := eq_of_beq q.2
  exact hw ⟨by omega, by omega⟩
 show wpAny _ _ (if (((sIx items.size 0 lo : Nat) : Int) == 0 && (1 : Int) == 1 && (sIx items.size items.size hi - sIx items.size 0 lo) == items.size) = true then _ else _) _ _ s
 rw [if_neg hno, pick_gen]
 first
  | exact wpAny_bind (m := Builtin.Tuple.tupleExact _) (wpAny_newObj_type (wpAny_pure ⟨_, rfl, wpAny_pure h⟩) htake)
  | exact wpAny_bind (m := Builtin.Tuple.tupleExact _) (wpAny_newObj_type (wpAny_bind (wpAny_pure (wpAny_pure ⟨_, rfl, wpAny_pure h⟩))) htake)
  | exact wpAny_bind (wpAny_bind (m := Builtin.Tuple.tupleExact _) (wpAny_newObj_type (wpAny_pure (wpAny_pure ⟨_, rfl, wpAny_pure h⟩)) htake))
  | exact wpAny_bind (wpAny_bind (m := Builtin.Tuple.tupleExact _) (wpAny_newObj_type (wpAny_pure ⟨_, rfl, wpAny_pure h⟩) htake))
end
end HT
namespace L2
open PyProof.Rows PySem PySem.Spec
variable {r r' : V -> Option Int -> Option Int -> Hp -> VK -> Prop} {xs : List V} {us its its' : List Value} {n j t' : Nat} {i : Int} {pins : List (Addr × Obj)} {σ : St} {H : Hp} {s : Shared} {p : Addr} {f : Array Value -> Array Value} {A : Around} {y x : V} {u v : Value}
abbrev TO := St -> Hp -> (Option Int -> Hp -> Prop) -> Prop
def PO (X : Cx) (e : Option Expr) (t : TO) : Prop :=
 ∀ (pins : List (Addr × Obj)) (s : Shared) (σ : St) (H : Hp) (Q : Option Int -> Hp -> Prop), Inv X pins σ H s -> t σ H Q ->
  wpAny (model X.prog X.w) X.A (evalPart e X.env) (fun u s' => ∃ o H', Inv X pins σ H' s' /\ IsPart u o /\ Q o H') X.xe s
def tNoPart : TO := fun _ H Q => Q none H
def tPart (t : TE) : TO := fun σ H Q => t σ H fun x H1 => ∃ i, x = .int i /\ Q (some i) H1
section
variable {X : Cx} {e : Expr} {te : TE} {lo hi : Option Expr} {tl th : TO} {pos p2 : Pos}
theorem po_none : PO X none tNoPart := by
 intro pins s σ H Q I h
 rw [evalPart_none]
 exact wpAny_pure ⟨none, H, I, .none, h⟩
theorem po_some (h : PE X e te) : PO X (some e) (tPart te) := by
 intro pins s σ H Q I hw
 rw [evalPart_some]
 refine thn (h pins s σ H _ I hw) fun u s1 ⟨x, H1, I1, r1, q1⟩ => ?_
 obtain ⟨i, rfl, q⟩ := q1
 obtain ⟨t, rfl⟩ := r1
 exact ⟨some i, H1, I1, .int i t, q⟩
def SlR (X : Cx) (r : V -> Option Int -> Option Int -> Hp -> VK -> Prop) : Prop :=
 ∀ (pins : List (Addr × Obj)) (s : Shared) (σ : St) (H : Hp) (x : V) (v vl vu : Value) (lo hi : Option Int) (sl : Addr) (Q : VK), Inv X pins σ H s -> RelV x v -> s.heap.IsSliceOf sl vl vu .none -> IsPart vl lo -> IsPart vu hi -> r x lo hi H Q ->
  ∃ T id, typeLookup (.type T) "__getitem__" = pure (some (.builtin id)) /\ s.TypeIs v T /\ wpAny (model X.prog X.w) X.A (getItem v (.ref sl)) (EP X pins σ Q) X.xe s
theorem SlR.or (h : SlR X r) (h' : SlR X r') : SlR X (fun x lo hi H Q => r x lo hi H Q \/ r' x lo hi H Q) := by
 intro pins s σ H x v vl vu lo hi sl Q I rx hs pl pu q
 rcases q with q | q
 ·exact h pins s σ H x v vl vu lo hi sl Q I rx hs pl pu q
 ·exact h' pins s σ H x v vl vu lo hi sl Q I rx hs pl pu q
def tSl (r : V -> Option Int -> Option Int -> Hp -> VK -> Prop) (te : TE) (tl th : TO) : TE := fun σ H Q => te σ H fun x H1 => tl σ H1 fun l H2 => th σ H2 fun u H3 => r x l u H3 Q
theorem pe_slice (hr : SlR X r) (he : PE X e te) (hl : PO X lo tl) (hu : PO X hi th) : PE X (.Subscript e (.Slice lo hi none p2) pos) (tSl r te tl th) := by
 intro pins s σ H Q I h
 refine Subscript_ (thn (he pins s σ H _ I h) fun v s1 ⟨x, H1, I1, r1, q1⟩ => ?_)
 refine wpAny_Slice (thn (hl pins s1 σ H1 _ I1 q1) fun vl s2 ⟨l, H2, I2, pl, q2⟩ => thn (hu pins s2 σ H2 _ I2 q2) fun vu s3 ⟨u, H3, I3, pu, q3⟩ => ?_)
 rw [evalPart_none]
 refine wpAny_pure ?_
 have I4 : Inv X pins σ H3 { s3 with heap := s3.heap.push { cls := .type "slice", data := .fields #[vl, vu, .none] } } := I3.kept (t' := s3.toks) fun b ob q => Heap.get?_push_of_some _ q
 obtain ⟨T, id, hT, ht, hg⟩ := hr pins { s3 with heap := s3.heap.push { cls := .type "slice", data := .fields #[vl, vu, .none] } } σ H3 x v vl vu l u s3.heap.objs.size Q I4 r1 (Heap.IsSliceOf.new ..) pl pu q3
 show wpAny (model X.prog X.w) X.A (subscriptTail e (.Slice lo hi none p2) v (.ref s3.heap.objs.size)) (EP X pins σ Q) X.xe { s3 with heap := s3.heap.push { cls := .type "slice", data := .fields #[vl, vu, .none] } }
 exact tail_any (ops := [.ref s3.heap.objs.size, v]) ht hT hg (by with_unfolding_all rfl)
def cutV (xs : List V) (lo hi : Option Int) : List V := (xs.drop (HT.sIx xs.length 0 lo)).take (HT.sIx xs.length xs.length hi - HT.sIx xs.length 0 lo)
theorem zg8 (xs : List V) (lo hi : Option Int) : (cutV xs lo hi).length <= xs.length := by
 unfold cutV
 rw [List.length_take, List.length_drop]
 omega
def rSlT (K : W.Frag) : V -> Option Int -> Option Int -> Hp -> VK -> Prop := fun x lo hi H Q => ∃ a xs, x = .ref a /\ SqT K H a xs /\
 ¬ (HT.sIx xs.length 0 lo = 0 /\ HT.sIx xs.length xs.length hi = xs.length) /\ ∀ p, H p = none -> Q (.ref p) (upd H p (.tup (cutV xs lo hi)))
theorem sl_tup : SlR X (rSlT X.K) := by
 intro pins s σ H x v vl vu lo hi sl Q I rx hs pl pu h
 obtain ⟨a, xs, rfl, hx, hw, q⟩ := h
 cases rx
 obtain ⟨its, r, ht, hz⟩ := I.tuple hx
 have hlen : its.toArray.size = xs.length := by rw [List.size_toArray]; exact r.length.symm
 refine ⟨"tuple", _, PyProof.Rows.slot_tuple_getitem.lookup, ht.typeIs, ?_⟩
 refine HT.zgx ht hs pl pu (by rw [hlen]; exact hw) ?_ (by rw [hlen]; exact hz)
 rw [hlen]
 refine ⟨.ref s.heap.objs.size, _, I.laid (t' := s.toks) (o := .tup (cutV xs lo hi)) (fun b ob q => Heap.get?_push_of_some _ q) (Nat.le_refl _) ?_, rfl, q _ (I.hok.fresh (Nat.le_refl _))⟩
 exact ⟨Nat.le_trans (zg8 xs lo hi) hz, _, (r.drop (HT.sIx xs.length 0 lo)).take (HT.sIx xs.length xs.length hi - HT.sIx xs.length 0 lo), IsTup.new _ _⟩
def rCatT (K : W.Frag) : R2 := fun x y H Q => ∃ a b xs ys, x = .ref a /\ y = .ref b /\ SqT K H a xs /\ SqT K H b ys /\ xs ≠ [] /\ xs.length + ys.length <= sizeLine /\
 (ys = [] -> Q (.ref a) H) /\ (ys ≠ [] -> ∀ p, H p = none -> Q (.ref p) (upd H p (.tup (xs ++ ys))))
theorem Vals.nil_iff (r : Vals xs us) : us = [] ↔ xs = [] := by
 cases r with
 | nil => simp
 | cons _ _ => simp
theorem op_catT : OpR X (binaryOp .Add) (rCatT X.K) := by
 intro pins s σ H x y v u Q I rx ry h
 obtain ⟨a, b, xs, ys, rfl, rfl, ha, hb, hx, hz, q1, q2⟩ := h
 cases rx
 cases ry
 obtain ⟨its, r1, p1, _⟩ := I.tuple ha
 obtain ⟨its2, r2, p2, _⟩ := I.tuple hb
 refine HT.cat_tup p1 p2 (fun z => hx (r1.nil_iff.mp z)) (fun z => ⟨.ref a, H, I, rfl, q1 (r2.nil_iff.mp z)⟩) (fun z => ?_) (by rw [<- r1.length, <- r2.length]; exact hz)
 refine ⟨.ref s.heap.objs.size, _, I.laid (t' := s.toks) (o := .tup (xs ++ ys)) (fun b ob q => Heap.get?_push_of_some _ q) (Nat.le_refl _) ?_, rfl, q2 (fun w => z (r2.nil_iff.mpr w)) _ (I.hok.fresh (Nat.le_refl _))⟩
 exact ⟨by rw [List.length_append]; exact hz, _, r1.append r2, IsTup.new _ _⟩
end
def ixN (n : Nat) (i : Int) : Option Nat := if 0 <= i then (if i < n then some i.toNat else none) else if -(n : Int) <= i then some (i + n).toNat else none
def atI {α : Type} (xs : List α) (i : Int) : Option α := (ixN xs.length i).bind fun j => xs[j]?
theorem zms {n : Nat} (h : ixN n i = some j) : seqIndex? i n = some j /\ j < n /\ -(n : Int) <= i /\ i < n := by
 unfold ixN at h
 by_cases h0 : 0 <= i
 ·rw [if_pos h0] at h
  by_cases h1 : i < n
  ·rw [if_pos h1] at h
   have e : i.toNat = j := Option.some.inj h
   exact ⟨by rw [seqIndex_of h0 h1, e], by omega, by omega, h1⟩
  ·rw [if_neg h1] at h; cases h
 ·rw [if_neg h0] at h
  by_cases h1 : -(n : Int) <= i
  ·rw [if_pos h1] at h
   have e : (i + n).toNat = j := Option.some.inj h
   exact ⟨by rw [seqIndex_neg (by omega) h1, e], by omega, h1, by omega⟩
  ·rw [if_neg h1] at h; cases h
theorem zis {α : Type} {xs : List α} {v : α} (h : atI xs i = some v) : ∃ j, seqIndex? i xs.length = some j /\ xs[j]? = some v /\ j < xs.length /\ -(xs.length : Int) <= i /\ i < xs.length := by
 unfold atI at h
 cases e : ixN xs.length i with
 | none => rw [e] at h; cases h
 | some j =>
  rw [e] at h
  obtain ⟨h1, h2, h3, h4⟩ := zms e
  exact ⟨j, h1, h, h2, h3, h4⟩
theorem zkk {α : Type} (xs : List α) (v : α) : atI (xs ++ [v]) (-1) = some v := by
 have hl : (xs ++ [v]).length = xs.length + 1 := by simp
 have e : ixN (xs ++ [v]).length (-1) = some xs.length := by
  unfold ixN
  rw [hl, if_neg (by decide), if_pos (by omega)]
  congr 1
  omega
 unfold atI
 rw [e]
 show (xs ++ [v])[xs.length]? = some v
 simp
def zb7 (b : Expr) : Prop := ∀ o i, subscripted b false o i = operate [o, i] (getItem o i)
def IxR (X : Cx) (r : R2) : Prop :=
 ∀ (value slice : Expr) (pins : List (Addr × Obj)) (s : Shared) (σ : St) (H : Hp) (x y : V) (v u : Value) (Q : VK), Inv X pins σ H s -> RelV x v -> RelV y u -> r x y H Q ->
  subscripted slice false v u = operate [v, u] (getItem v u) -> wpAny (model X.prog X.w) X.A (subscriptTail value slice v u) (EP X pins σ Q) X.xe s
def MtR (X : Cx) (id : String) (r : V -> List V -> Hp -> VK -> Prop) : Prop :=
 ∀ (pins : List (Addr × Obj)) (s : Shared) (σ : St) (H : Hp) (x : V) (xs : List V) (v : Value) (us : List Value) (Q : VK), Inv X pins σ H s -> RelV x v -> Vals xs us -> r x xs H Q ->
  wpAny (model X.prog X.w) X.A (call (.builtin id) (v :: us)) (EP X pins σ Q) X.xe s
section
variable {X : Cx} {a b : Expr} {ta tb : TE} {pos : Pos}
theorem IxR.or {r r' : R2} (h : IxR X r) (h' : IxR X r') : IxR X (fun x y H Q => r x y H Q \/ r' x y H Q) := by
 intro value slice pins s σ H x y v u Q I rx ry q hs
 rcases q with q | q
 ·exact h value slice pins s σ H x y v u Q I rx ry q hs
 ·exact h' value slice pins s σ H x y v u Q I rx ry q hs
theorem zil {r : R2} (hr : IxR X r) (ha : PE X a ta) (hb : PE X b tb) (hs : zb7 b) : PE X (.Subscript a b pos) (tOp r ta tb) := by
 intro pins s σ H Q I h
 exact Subscript_ (binT ha hb I h fun v u s2 x y H2 I2 rx ry q => hr a b pins s2 σ H2 x y v u Q I2 rx ry q (hs _ _))
def rIxL (K : W.Frag) : R2 := fun x y H Q => ∃ p xs i v, x = .ref p /\ y = .int i /\ SqL K H p xs /\ atI xs i = some v /\ Q v H
def rIxT (K : W.Frag) : R2 := fun x y H Q => ∃ p xs i v, x = .ref p /\ y = .int i /\ SqT K H p xs /\ atI xs i = some v /\ Q v H
def rIxS : R2 := fun x y H Q => ∃ z i c, x = .str z /\ y = .int i /\ z.length <= sizeLine /\ atI z.cps.toList i = some c /\ Q (.str ⟨#[c]⟩) H
theorem ix_list : IxR X (rIxL X.K) := by
 intro value slice pins s σ H x y v u Q I rx ry h hs
 obtain ⟨p, xs, i, z, rfl, rfl, hq, he, q⟩ := h
 cases rx
 obtain ⟨t, rfl⟩ := ry
 obtain ⟨its, r, pl, hz⟩ := I.list hq
 obtain ⟨j, h1, h2, h3, h4, h5⟩ := zis he
 obtain ⟨w, ew, rw'⟩ := r.get h2
 have hl := r.length
 have hn := zhq
 have fin : EP X pins σ Q w s := ⟨z, H, I, rw', q⟩
 by_cases h0 : 0 <= i
 ·have hj : i.toNat = j := by
   rw [seqIndex_of h0 h5] at h1
   exact Option.some.inj h1
  exact item_listR pl.isList h0 (by omega) (by rw [hj]; simpa using ew) fin hs
 ·have hj : (i + (its.toArray.size : Int)).toNat = j := by
   rw [seqIndex_neg (by omega) h4] at h1
   rw [List.size_toArray, <- hl]
   exact Option.some.inj h1
  exact subscriptTail_builtinR (x := w) pl.isList.typeIs slot_list_getitem.lookup
   (wpAny_getItem_list_neg (Q := fun r s' => r = w /\ EP X pins σ Q r s') pl.isList (by omega) (by rw [List.size_toArray] <;> omega) (by omega) (by rw [hj]; simpa using ew) ⟨rfl, fin⟩) hs
theorem ix_tup : IxR X (rIxT X.K) := by
 intro value slice pins s σ H x y v u Q I rx ry h hs
 obtain ⟨p, xs, i, z, rfl, rfl, hq, he, q⟩ := h
 cases rx
 obtain ⟨t, rfl⟩ := ry
 obtain ⟨its, r, pl, hz⟩ := I.tuple hq
 obtain ⟨j, h1, h2, h3, h4, h5⟩ := zis he
 obtain ⟨w, ew, rw'⟩ := r.get h2
 have hl := r.length
 have hn := zhq
 have fin : EP X pins σ Q w s := ⟨z, H, I, rw', q⟩
 exact subscriptTail_builtinR (x := w) pl.typeIs slot_tuple_getitem.lookup
  (getItem_tuple (j := j) (Q := fun r s' => r = w /\ EP X pins σ Q r s') pl (by omega) (by omega) (by rw [List.size_toArray, <- hl]; exact h1) (by simpa using ew) ⟨rfl, fin⟩) hs
theorem ix_str : IxR X rIxS := by
 intro value slice pins s σ H x y v u Q I rx ry h hs
 obtain ⟨z, i, c, rfl, rfl, hz, he, q⟩ := h
 obtain ⟨t, rfl⟩ := rx
 obtain ⟨t', rfl⟩ := ry
 obtain ⟨j, h1, h2, h3, h4, h5⟩ := zis he
 have hl : z.cps.toList.length = z.length := by simp [Str.length]
 rw [hl] at h1 h4 h5
 have hn := zhq
 exact tail_any (typeIs_str s z t) slot_str_getitem.lookup (getItem_str (c := c) (by
  have e1 : decide (i < -(2 ^ 63 : Int)) = false := decide_eq_false (by omega)
  have e2 : decide (i >= 2 ^ 63) = false := decide_eq_false (by omega)
  rw [e1, e2, Bool.or_false]) (by rw [h1]; simpa using h2) ⟨.str ⟨#[c]⟩, H, I.tok _, ⟨_, rfl⟩, q⟩) hs
def rIx (K : W.Frag) : R2 := fun x y H Q => rIxL K x y H Q \/ rIxT K x y H Q \/ rIxS x y H Q
theorem ix_seq : IxR X (rIx X.K) := ix_list.or (ix_tup.or ix_str)
theorem zkL (its : List Value) (n j : Nat) (u : Value) : Obj.mapSeq (·.setIfInBounds j u) { cls := .type "list", data := .seq its.toArray n } = { cls := .type "list", data := .seq (its.set j u).toArray n } := by
 simp [Obj.mapSeq]
theorem Inv.lst (I : Inv X pins σ H s) (h : H p = some (.lst xs)) :
  ∃ (its : List Value) (n : Nat), Vals xs its /\ s.heap.get? p = some { cls := .type "list", data := .seq its.toArray n } /\ xs.length <= sizeLine := by
 obtain ⟨z, its, n, r, e⟩ := I.hok p _ h
 exact ⟨its, n, r, e, z⟩
theorem Inv.lstUpd {xs ys : List V} {n n' : Nat} {f : Obj -> Obj} (I : Inv X pins σ H s) (h : H p = some (.lst xs))
  (ho : s.heap.get? p = some { cls := .type "list", data := .seq its.toArray n }) (hf : f { cls := .type "list", data := .seq its.toArray n } = { cls := .type "list", data := .seq its'.toArray n' }) (r : Vals ys its') (hz : ys.length <= sizeLine) (t : Nat) :
  Inv X pins σ (upd H p (.lst ys)) { s with heap := s.heap.update p f, toks := t } := by
 have e : (s.heap.update p f).get? p = some { cls := .type "list", data := .seq its'.toArray n' } := by
  rw [Heap.get?_update_self f ho (by rw [hf] <;> rfl), hf]
 refine I.write (x := p) (e := p) (by rw [h]; trivial) (.inl rfl) (fun b u hb q => (Heap.get?_update_other _ _ (Ne.symm hb)).trans q) ⟨_, e⟩ ?_
 exact ⟨hz, its', n', r, e⟩
def rSetL : V -> V -> V -> Hp -> (Hp -> Prop) -> Prop := fun o i v H Q => ∃ p xs k j, o = .ref p /\ i = .int k /\ H p = some (.lst xs) /\ ixN xs.length k = some j /\ Q (upd H p (.lst (xs.set j v)))
theorem zg1 : PSet X rSetL := by
 intro pins s σ H o i v ov iv u Q I ro ri rv h
 obtain ⟨p, xs, k, j, rfl, rfl, hp, hj, q⟩ := h
 cases ro
 obtain ⟨t, rfl⟩ := ri
 obtain ⟨its, n, r, ho, hz⟩ := I.lst hp
 obtain ⟨h1, h2, h3, h4⟩ := zms hj
 have hl := r.length
 have hn := zhq
 have I' : Inv X pins σ (upd H p (.lst (xs.set j v))) { s with heap := s.heap.update p (Obj.mapSeq (·.setIfInBounds j u)) } :=
  I.lstUpd hp ho (zkL its n j u) (r.set rv j) (by rw [List.length_set]; exact hz) s.toks
 by_cases h0 : 0 <= k
 ·have hk : k.toNat = j := by
   rw [seqIndex_of h0 h4] at h1
   exact Option.some.inj h1
  exact W.ki_setAt ho h0 (by omega) (by rw [List.size_toArray, <- hl]; exact h4) (by rw [hk]; exact ⟨_, I', q⟩)
 ·have hk : (k + (its.toArray.size : Int)).toNat = j := by
   rw [seqIndex_neg (by omega) h3] at h1
   rw [List.size_toArray, <- hl]
   exact Option.some.inj h1
  exact W.ki_setBack ho (by omega) (by rw [List.size_toArray, <- hl]; exact h3) (by omega) (by rw [hk]; exact ⟨_, I', q⟩)
theorem ziP (lo hi : Option Int) (n : Nat) : (sliceBounds lo hi none n).1 = ((HT.sIx n 0 lo : Nat) : Int) /\ (sliceBounds lo hi none n).2.1 = ((HT.sIx n n hi : Nat) : Int) /\ (sliceBounds lo hi none n).2.2 = 1 := by
 refine ⟨?_, ?_, rfl⟩
 ·cases lo with
  | none => simp [sliceBounds, HT.sIx]
  | some i =>
   simp only [sliceBounds, HT.sIx, Option.getD_none, show (1 : Int) > 0 by decide, if_true]
   by_cases h : i < 0
   ·simp only [h, if_true] <;> omega
   ·simp only [h, if_false] <;> omega
 ·cases hi with
  | none => simp [sliceBounds, HT.sIx]
  | some i =>
   simp only [sliceBounds, HT.sIx, Option.getD_none, show (1 : Int) > 0 by decide, if_true]
   by_cases h : i < 0
   ·simp only [h, if_true] <;> omega
   ·simp only [h, if_false] <;> omega
theorem zim (its : List Value) (lo hi : Option Int) : slicePick its.toArray lo hi none = ((its.drop (HT.sIx its.length 0 lo)).take (HT.sIx its.length its.length hi - HT.sIx its.length 0 lo)).toArray := by
 obtain ⟨h1, h2, h3⟩ := ziP lo hi its.toArray.size
 unfold slicePick
 rw [h1, h2, h3]
 simp only [sliceRange_one, pick_run, List.size_toArray] <;> rfl
def rSlL (K : W.Frag) : V -> Option Int -> Option Int -> Hp -> VK -> Prop := fun x lo hi H Q => ∃ a xs, x = .ref a /\ SqL K H a xs /\ ∀ p, H p = none -> Q (.ref p) (upd H p (.lst (cutV xs lo hi)))
theorem sl_list : SlR X (rSlL X.K) := by
 intro pins s σ H x v vl vu lo hi sl Q I rx hs pl pu h
 obtain ⟨a, xs, rfl, hx, q⟩ := h
 cases rx
 obtain ⟨its, r, ht, hz⟩ := I.list hx
 have hlen := r.length
 refine ⟨"list", _, slot_list_getitem.lookup, ht.isList.typeIs, ?_⟩
 refine wpAny_getItem_list_slice ht.isList hs pl pu .none (by simp) ?_ (by rw [List.size_toArray] <;> omega)
 rw [zim, <- hlen]
 refine ⟨.ref s.heap.objs.size, _, I.laid (t' := s.toks) (o := .lst (cutV xs lo hi)) (fun b ob q => Heap.get?_push_of_some _ q) (Nat.le_refl _) ?_, rfl, q _ (I.hok.fresh (Nat.le_refl _))⟩
 exact ⟨Nat.le_trans (zg8 xs lo hi) hz, _, 0, (r.drop (HT.sIx xs.length 0 lo)).take (HT.sIx xs.length xs.length hi - HT.sIx xs.length 0 lo), Heap.get?_push_size _ rfl⟩
def zhA : V -> Bool
 | .non => true
 | .bl _ => true
 | .int _ => true
 | .str _ => true
 | _ => false
def eqV : V -> V -> Bool
 | .non, .non => true
 | .bl a, .bl b => a == b
 | .bl a, .int b => (if a then 1 else 0) == b
 | .int a, .bl b => a == (if b then 1 else 0)
 | .int a, .int b => a == b
 | .str a, .str b => a == b
 | _, _ => false
theorem eqAt_V (ry : RelV y u) (rx : RelV x v) (fy : zhA y = true) (fx : zhA x = true) : SeqAt.EqAt A s u v (eqV y x) := by
 cases y with
 | non =>
  cases ry
  cases x with
  | non => cases rx; exact SeqAt.EqAt.same _
  | bl b => cases rx; exact SeqAt.EqAt.none_bool b
  | int b => obtain ⟨t, rfl⟩ := rx; exact SeqAt.EqAt.none_int b t
  | str b => obtain ⟨t, rfl⟩ := rx; exact SeqAt.EqAt.none_str b t
  | _ => exact absurd (show false = true from fx) Bool.false_ne_true
 | bl a =>
  cases ry
  cases x with
  | non => cases rx; exact SeqAt.EqAt.bool_none a
  | bl b => cases rx; exact SeqAt.EqAt.bool_bool a b
  | int b => obtain ⟨t, rfl⟩ := rx; exact SeqAt.EqAt.bool_int a b t
  | str b => obtain ⟨t, rfl⟩ := rx; exact SeqAt.EqAt.bool_str a b t
  | _ => exact absurd (show false = true from fx) Bool.false_ne_true
 | int a =>
  obtain ⟨t', rfl⟩ := ry
  cases x with
  | non => cases rx; exact SeqAt.EqAt.int_none a t'
  | bl b => cases rx; exact SeqAt.EqAt.int_bool a t' b
  | int b => obtain ⟨t, rfl⟩ := rx; exact SeqAt.EqAt.int_int a t' b t
  | str b => obtain ⟨t, rfl⟩ := rx; exact SeqAt.EqAt.int_str a t' b t
  | _ => exact absurd (show false = true from fx) Bool.false_ne_true
 | str a =>
  obtain ⟨t', rfl⟩ := ry
  cases x with
  | non => cases rx; exact SeqAt.EqAt.str_none a t'
  | bl b => cases rx; exact SeqAt.EqAt.str_bool a t' b
  | int b => obtain ⟨t, rfl⟩ := rx; exact SeqAt.EqAt.str_int a t' b t
  | str b => obtain ⟨t, rfl⟩ := rx; exact SeqAt.EqAt.str_str a t' b t
  | _ => exact absurd (show false = true from fx) Bool.false_ne_true
 | _ => exact absurd (show false = true from fy) Bool.false_ne_true
def eqU (x : V) (u : Value) : Bool := match u with
 | .none => eqV .non x
 | .bool b => eqV (.bl b) x
 | .int i _ => eqV (.int i) x
 | .str z _ => eqV (.str z) x
 | _ => false
theorem eqU_of (r : RelV y u) (f : zhA y = true) : eqU x u = eqV y x := by
 cases y with
 | non => cases r; rfl
 | bl b => cases r; rfl
 | int i => obtain ⟨t, rfl⟩ := r; rfl
 | str z => obtain ⟨t, rfl⟩ := r; rfl
 | _ => exact absurd (show false = true from f) Bool.false_ne_true
theorem zjR : ∀ {xs : List V} {us : List Value}, Vals xs us -> xs.all zhA = true -> us.any (eqU x) = xs.any fun y => eqV y x
 | _, _, .nil, _ => rfl
 | y :: xs, u :: us, .cons r t, f => by
  rw [List.all_cons, Bool.and_eq_true] at f
  rw [List.any_cons, List.any_cons, eqU_of r f.1, zjR t f.2]
theorem zit (rx : RelV x v) (fx : zhA x = true) : ∀ {xs : List V} {us : List Value}, Vals xs us -> xs.all zhA = true -> ∀ u ∈ us, SeqAt.EqAt A s u v (eqU x u)
 | _, _, .nil, _ => fun u hu => by cases hu
 | y :: xs, u :: us, .cons r t, f => fun u' hu => by
  rw [List.all_cons, Bool.and_eq_true] at f
  rcases List.mem_cons.mp hu with rfl | hu
  ·rw [eqU_of r f.1]; exact eqAt_V r rx f.1 fx
  ·exact zit rx fx t f.2 u' hu
def inV (x : V) (xs : List V) : Bool := xs.any fun y => eqV y x
def rIn (K : W.Frag) (neg : Bool) : R2 := fun x y H Q => ∃ p xs, y = .ref p /\ (SqL K H p xs \/ SqT K H p xs) /\ zhA x = true /\ xs.all zhA = true /\ Q (.bl (if neg then !inV x xs else inV x xs)) H
theorem zmf : OpR X (compareOp .In) (rIn X.K false) := by
 intro pins s σ H x y v u Q I rx ry h
 obtain ⟨p, xs, rfl, hq, fx, fs, q⟩ := h
 cases ry
 rcases hq with hq | hq
 ·obtain ⟨its, r, pl, hz⟩ := I.list hq
  refine SeqAt.in_listAt (eqU x) pl.isList (fun w hw => zit rx fx r fs w (by simpa using hw)) ⟨.bl _, H, I, rfl, ?_⟩
  rw [show its.toArray.any (eqU x) = its.any (eqU x) by simp, zjR r fs]
  exact q
 ·obtain ⟨its, r, pl, hz⟩ := I.tuple hq
  refine SeqAt.in_tupleAt (eqU x) pl (fun w hw => zit rx fx r fs w (by simpa using hw)) ⟨.bl _, H, I, rfl, ?_⟩
  rw [show its.toArray.any (eqU x) = its.any (eqU x) by simp, zjR r fs]
  exact q
theorem zc2 : zfn X (.builtin "len") (fun xs H Q => ∃ p ys, xs = [.ref p] /\ (SqL X.K H p ys \/ SqT X.K H p ys) /\ Q (.int ys.length) H) := by
 intro pins s σ H xs us Q I r h
 obtain ⟨p, ys, rfl, hq, q⟩ := h
 obtain ⟨u, rfl, rx⟩ := zia r
 cases rx
 have hn := zhq
 rcases hq with hq | hq
 ·obtain ⟨its, r', pl, hz⟩ := I.list hq
  have hlen := r'.length
  exact Calls.call_len_list pl.isList (by simp only [List.size_toArray] <;> omega) ⟨.int ys.length, H, I.tok _, ⟨s.toks + 1, by rw [List.size_toArray, hlen]⟩, q⟩
 ·obtain ⟨its, r', pl, hz⟩ := I.tuple hq
  have hlen := r'.length
  exact len_tuple pl (by simp only [List.size_toArray] <;> omega) ⟨.int ys.length, H, I.tok _, ⟨s.toks + 1, by rw [List.size_toArray, hlen]⟩, q⟩
theorem zi8 : zfn X (.type "list") (fun xs H Q => ∃ p ys, xs = [.ref p] /\ (SqL X.K H p ys \/ SqT X.K H p ys) /\ ∀ l, H l = none -> Q (.ref l) (upd H l (.lst ys))) := by
 intro pins s σ H xs us Q I r h
 obtain ⟨p, ys, rfl, hq, q⟩ := h
 obtain ⟨u, rfl, rx⟩ := zia r
 cases rx
 have fin : ∀ (its : List Value), Vals ys its -> ys.length <= sizeLine -> ∀ (h' : Heap) (c' : Nat), (∀ b o', s.heap.get? b = some o' -> h'.get? b = some o') ->
   h'.get? s.heap.objs.size = some { cls := .type "list", dict := none, data := .seq its.toArray c', slots := #[] } -> EP X pins σ Q (.ref s.heap.objs.size) { s with heap := h' } := fun its r' hz h' c' kp e =>
  ⟨.ref s.heap.objs.size, _, I.laid (t' := s.toks) kp (Nat.le_refl _) (show ObjOk X.prog X.w _ h' _ (.lst ys) from ⟨hz, its, c', r', e⟩), rfl, q _ (I.hok.fresh (Nat.le_refl _))⟩
 rcases hq with hq | hq
 ·obtain ⟨its, r', pl, hz⟩ := I.list hq
  have hlen := r'.length
  obtain ⟨o, ho, hc, n, hd⟩ := pl.isList
  exact call_list_seq p (.inl rfl) ho hc hd (fun h' c' kp e => fin its r' hz h' c' kp e) (by simp only [List.size_toArray] <;> omega)
 ·obtain ⟨its, r', pl, hz⟩ := I.tuple hq
  have hlen := r'.length
  obtain ⟨o, ho, hc, n, hd⟩ := pl
  exact call_list_seq p (.inr rfl) ho hc hd (fun h' c' kp e => fin its r' hz h' c' kp e) (by simp only [List.size_toArray] <;> omega)
theorem zh8 : zfn X (.type "tuple") (fun xs H Q => ∃ p ys, xs = [.ref p] /\ ((SqL X.K H p ys /\ ∀ l, H l = none -> Q (.ref l) (upd H l (.tup ys))) \/ (SqT X.K H p ys /\ Q (.ref p) H))) := by
 intro pins s σ H xs us Q I r h
 obtain ⟨p, ys, rfl, h⟩ := h
 obtain ⟨u, rfl, rx⟩ := zia r
 cases rx
 rcases h with ⟨hq, q⟩ | ⟨hq, q⟩
 ·obtain ⟨its, r', pl, hz⟩ := I.list hq
  have hlen := r'.length
  refine call_tuple_list pl.isList (fun h' kp => ?_) (by simp only [List.size_toArray] <;> omega)
  have I1 : Inv X pins σ H { s with heap := h' } := I.kept (t' := s.toks) kp
  have I2 : Inv X pins σ (upd H h'.objs.size (.tup ys)) { s with heap := h'.push { cls := .type "tuple", data := .seq its.toArray } } :=
   I1.laid (t' := s.toks) (fun b o e => Heap.get?_push_of_some _ e) (Nat.le_refl _) (show ObjOk X.prog X.w _ _ _ (.tup ys) from ⟨hz, its, r', IsTup.new _ _⟩)
  exact ⟨.ref h'.objs.size, _, I2, rfl, q _ (I1.hok.fresh (Nat.le_refl _))⟩
 ·obtain ⟨its, r', pl, hz⟩ := I.tuple hq
  exact call_tuple_same pl ⟨.ref p, H, I, rfl, q⟩
def tyV (K : W.Frag) (T : String) (x : V) (H : Hp) : Prop := match x with
 | .str _ => T = "str"
 | .int _ => T = "int"
 | .ref p => (T = "list" /\ ∃ xs, SqL K H p xs) \/ (T = "tuple" /\ ∃ o, K.lookup p = some o /\ o.cls = .type "tuple" /\ o.dict = none) \/
   (T = "dict" /\ ((∃ kvs, H p = some (.dK kvs)) \/ ∃ kvs, H p = some (.dT kvs))) \/ (T = "set" /\ ∃ S n, H p = some (.set S n))
 | _ => False
theorem tyV_is {T : String} (I : Inv X pins σ H s) (r : RelV x v) (ty : tyV X.K T x H) :
  s.TypeIs v T /\ ∀ a, v = .ref a -> ∃ ob, s.heap.get? a = some ob /\ ob.dict = none := by
 cases x with
 | str z =>
  obtain ⟨t, rfl⟩ := r
  cases (show T = "str" from ty)
  exact ⟨typeIs_str s z t, fun _ e => nomatch e⟩
 | int i =>
  obtain ⟨t, rfl⟩ := r
  cases (show T = "int" from ty)
  exact ⟨typeIs_int s i t, fun _ e => nomatch e⟩
 | ref p =>
  cases r
  rcases ty with ⟨rfl, xs, hq⟩ | ⟨rfl, o, hk, hc, hd⟩ | ⟨rfl, hk⟩ | ⟨rfl, S, n, hk⟩
  ·obtain ⟨its, _, pl, _⟩ := I.list hq
   refine ⟨pl.isList.typeIs, fun a e => ?_⟩
   cases e
   obtain ⟨o, n, e, c, hd, _⟩ := pl
   exact ⟨o, e, hd⟩
  ·refine ⟨⟨o, I.kIn p o hk, hc⟩, fun a e => ?_⟩
   cases e
   exact ⟨o, I.kIn _ o hk, hd⟩
  ·have z : ∃ o, s.heap.get? p = some o /\ o.ExactDict := by
    rcases hk with ⟨kvs, hk⟩ | ⟨kvs, hk⟩
    ·obtain ⟨_, _, _, _, o, _, _, e, ex, _⟩ := I.hok p _ hk
     exact ⟨o, e, ex⟩
    ·obtain ⟨_, _, _, _, o, _, _, e, ex, _⟩ := I.hok p _ hk
     exact ⟨o, e, ex⟩
   obtain ⟨o, e, ex⟩ := z
   refine ⟨⟨o, e, ex.1⟩, fun a e2 => ?_⟩
   cases e2
   exact ⟨o, e, ex.2.1⟩
  ·obtain ⟨o, _, _, _, e, ex, _⟩ := I.hok p _ hk
   refine ⟨⟨o, e, ex.1⟩, fun a e2 => ?_⟩
   cases e2
   exact ⟨o, e, ex.2.1⟩
 | _ => exact False.elim ty
def tBM (K : W.Frag) (T : String) (r : V -> List V -> Hp -> VK -> Prop) (to : TE) (t : TA) : TE := fun σ H Q => to σ H fun x H1 => tyV K T x H1 /\ t σ H1 fun xs H2 => r x xs H2 Q
variable {o e : Expr} {es : List Expr} {to : TE} {t : TA} {name : Str} {apos cpos : Pos} {T id : String} {r : V -> List V -> Hp -> VK -> Prop}
theorem pe_bm (pa : PlainAttrs T) (slot : Slot T name id) (hty : typeOf (.builtin id) = pure (.type "method_descriptor")) (hm : MtR X id r) (ho : PE X o to) (ha : PA X (e :: es) t)
  (hbase : attributeBase o name X.env (eval o X.env) = eval o X.env := by rfl)
  (hfew : ((backTo cpos (starEach (e :: es) X.env)).all (fun x => !x.1) && (backToKw cpos (keywordEach [] X.env)).all (fun x => x.1.isSome)
   && decide ((e :: es).length + ([] : List Keyword).length + (if ([] : List Keyword).isEmpty then 0 else 1) < 30)) = true := by rfl)
  (hline : (apos.endLine == cpos.line) = true := by rfl) (hs : starEach (e :: es) X.env = (false, eval e X.env) :: starEach es X.env := by rfl) (hplain : (backTo cpos (starEach es X.env)).any (·.1) = false := by rfl) :
  PE X (.Call (.Attribute o name apos) (e :: es) [] cpos) (tBM X.K T r to t) := by
 intro pins s σ H Q I h
 refine wpAny_Call_method_late hbase hfew hline rfl (thn (ho pins s σ H _ I h) fun v s1 ⟨x, H1, I1, r1, ty, q1⟩ => ?_)
 obtain ⟨h1, h2⟩ := tyV_is I1 r1 ty
 refine ⟨T, id, pa, slot, hty, h1, h2, ?_⟩
 have hA := ha cpos pins s1 σ H1 _ I1 q1
 rw [hs] at hA ⊢
 refine Calls.callWith_builtin (by show (false || (backTo cpos (starEach es X.env)).any (·.1)) = false; rw [hplain] <;> rfl) (Calls.evalArgs_plain ?_)
 exact thn hA fun us s2 ⟨vs, H2, I2, r2, q2⟩ => hm pins s2 σ H2 x vs v us Q I2 r1 r2 q2
end
def MtM (X : Cx) (id : String) (r : V -> List V -> Hp -> VK -> Prop) : Prop :=
 ∀ (pins : List (Addr × Obj)) (s : Shared) (σ : St) (H : Hp) (x : V) (xs : List V) (v : Value) (us : List Value) (Q : VK), Inv X pins σ H s -> RelV x v -> Vals xs us -> r x xs H Q ->
  wpAny (model X.prog X.w) X.A (call (.builtin id) (v :: us)) (EP X pins σ Q) X.xe s
theorem Vals.one : ∀ {x : V} {us : List Value}, Vals [x] us -> ∃ u, us = [u] /\ RelV x u
 | _, _, .cons r .nil => ⟨_, rfl, r⟩
theorem Vals.eraseIdx : ∀ {xs : List V} {us : List Value} (i : Nat), Vals xs us -> Vals (xs.eraseIdx i) (us.eraseIdx i)
 | _, _, _, .nil => .nil
 | _, _, 0, .cons _ t => t
 | _, _, i + 1, .cons r t => .cons r (Vals.eraseIdx i t)
theorem Vals.rep (h : Vals xs us) : ∀ k : Nat, Vals (List.replicate k xs).flatten (List.replicate k us).flatten
 | 0 => .nil
 | k + 1 => by
  rw [List.replicate_succ, List.replicate_succ, List.flatten_cons, List.flatten_cons]
  exact Vals.append h (Vals.rep h k)
theorem ziV {α : Type} : ∀ (l : List α) (i : Nat), (l.eraseIdx i).length <= l.length
 | [], _ => Nat.le_refl _
 | _ :: _, 0 => Nat.le_succ _
 | _ :: r, i + 1 => Nat.succ_le_succ (ziV r i)
theorem zjq (its : List Value) : ∀ (k : Nat) (acc : List Value),
  List.foldl (fun x1 x2 => x1 ++ x2) acc.toArray (List.replicate k its.toArray) = (acc ++ (List.replicate k its).flatten).toArray
 | 0, acc => by simp
 | k + 1, acc => by
  have e : acc.toArray ++ its.toArray = (acc ++ its).toArray := by simp
  have e2 : (acc ++ its) ++ (List.replicate k its).flatten = acc ++ (List.replicate (k + 1) its).flatten := by
   rw [List.replicate_succ, List.flatten_cons, List.append_assoc]
  rw [<- e2, <- zjq its k (acc ++ its), <- e, List.replicate_succ, List.foldl_cons]
section
variable {X : Cx} {pins : List (Addr × Obj)} {σ : St} {H : Hp} {s : Shared} {l b : Addr} {xs ys zs : List V}
theorem Inv.lset (I : Inv X pins σ H s) (hH : H l = some (.lst xs))
  (e : s.heap.get? l = some { cls := .type "list", data := .seq its.toArray n }) (hf : f its.toArray = its'.toArray) (hv : Vals ys its') (hz : ys.length <= sizeLine) :
  Inv X pins σ (upd H l (.lst ys)) { s with heap := s.heap.update l (Obj.mapSeq f), toks := t' } := by
 have q := PySem.IsL.update e f
 rw [hf] at q
 refine I.write (x := l) (e := l) (by rw [hH]; exact trivial) (.inl rfl) (fun b' u hb hu => (Heap.get?_update_other s.heap (Obj.mapSeq f) (Ne.symm hb)).trans hu) ⟨_, q⟩ ?_
 exact ⟨hz, its', _, hv, q⟩
theorem Inv.lnew (I : Inv X pins σ H s) (hv : Vals ys its) (hz : ys.length <= sizeLine) :
  Inv X pins σ (upd H s.heap.objs.size (.lst ys)) { s with heap := s.heap.push { cls := .type "list", data := .seq its.toArray }, toks := t' } :=
 I.laid (fun _ _ q => Heap.get?_push_of_some _ q) (Nat.le_refl _) ⟨hz, its, 0, hv, Heap.get?_push_size _ rfl⟩
theorem Inv.fresh (I : Inv X pins σ H s) : H s.heap.objs.size = none := I.hok.fresh (Nat.le_refl _)
theorem Inv.lstM (I : Inv X pins σ H s) (hH : H l = some (.lst xs)) : xs.length <= sizeLine /\ ∃ (its : List Value) (n : Nat), Vals xs its /\ xs.length = its.length /\ s.heap.get? l = some { cls := .type "list", data := .seq its.toArray n } := by
 obtain ⟨z, its, n, r, e⟩ := I.hok l _ hH
 exact ⟨z, its, n, r, r.length, e⟩
theorem zj6 (h : n <= sizeLine) : Builtin.List.listTooLong n = false := by
 unfold Builtin.List.listTooLong
 exact decide_eq_false (by omega)
end
section
variable {X : Cx}
def rAppend : V -> List V -> Hp -> VK -> Prop := fun x vs H Q => ∃ l xs y, x = .ref l /\ vs = [y] /\ H l = some (.lst xs) /\ xs.length < sizeLine /\ Q .non (upd H l (.lst (xs ++ [y])))
theorem zhd : MtM X "list.append" rAppend := by
 intro pins s σ H x vs v us Q I rx rv h
 obtain ⟨l, xs, y, rfl, rfl, hH, hz, q⟩ := h
 cases rx
 obtain ⟨u, rfl, ru⟩ := rv.one
 obtain ⟨z, its, n, r, hl, e⟩ := I.lstM hH
 refine call_meets F.slot_list_append ⟨_, e, rfl⟩ F.entry_list_append (F.args_list_append_2 _ _) (PySem.list_append l its.toArray n u (by rw [List.size_toArray]; omega)) ⟨e, ?_⟩
 refine ⟨.non, _, I.lset (its' := its ++ [u]) hH e (by simp) (r.append (.cons ru .nil)) ?_, rfl, q⟩
 rw [List.length_append, List.length_singleton]
 omega
def rExtend : V -> List V -> Hp -> VK -> Prop := fun x vs H Q => ∃ l b xs zs, x = .ref l /\ vs = [.ref b] /\ H l = some (.lst xs) /\ H b = some (.lst zs) /\ xs.length + zs.length <= sizeLine /\ Q .non (upd H l (.lst (xs ++ zs)))
theorem zk8 : MtM X "list.extend" rExtend := by
 intro pins s σ H x vs v us Q I rx rv h
 obtain ⟨l, b, xs, zs, rfl, rfl, hH, hB, hz, q⟩ := h
 cases rx
 obtain ⟨u, rfl, ru⟩ := rv.one
 cases ru
 obtain ⟨z, its, n, r, hl, e⟩ := I.lstM hH
 obtain ⟨z2, its2, n2, r2, hl2, e2⟩ := I.lstM hB
 have hsz : its.toArray.size + its2.toArray.size <= sizeLine := by rw [List.size_toArray, List.size_toArray]; omega
 have hlong : ¬ (!its.toArray.isEmpty && Builtin.List.listTooLong (its.toArray.size + its2.toArray.size)) = true := by
  rw [zj6 hsz, Bool.and_false]
  exact Bool.false_ne_true
 refine call_meets F.slot_list_extend ⟨_, e, rfl⟩ F.entry_list_extend (F.args_list_extend_2 _ _)
  (AutoSeq1.list_extend_list_list_0 l its.toArray n b its2.toArray n2 hlong (by rw [List.size_toArray]; omega) (by omega)) ⟨e, e2, ?_⟩
 refine ⟨.non, _, I.lset (its' := its ++ its2) hH e (by simp) (r.append r2) ?_, rfl, q⟩
 rw [List.length_append]
 omega
def rPopAt : V -> List V -> Hp -> VK -> Prop := fun x vs H Q => ∃ l xs i k y, x = .ref l /\ vs = [.int i] /\ H l = some (.lst xs) /\ -(2 ^ 63) <= i /\ i < 2 ^ 63 /\ seqIndex? i xs.length = some k /\ xs[k]? = some y /\ Q y (upd H l (.lst (xs.eraseIdx k)))
theorem mt_popAt : MtM X "list.pop" rPopAt := by
 intro pins s σ H x vs v us Q I rx rv h
 obtain ⟨l, xs, i, k, y, rfl, rfl, hH, h1, h2, hk, hy, q⟩ := h
 cases rx
 obtain ⟨u, rfl, ru⟩ := rv.one
 obtain ⟨t, rfl⟩ := ru
 obtain ⟨z, its, n, r, hl, e⟩ := I.lstM hH
 obtain ⟨w, hw, rw'⟩ := r.get hy
 refine call_meets F.slot_list_pop ⟨_, e, rfl⟩ F.entry_list_pop (F.args_list_pop_2 _ _)
  (MeetsSeq.list_pop_at l its.toArray n i t k w (fitsIndex_both h1 h2) (by rw [List.size_toArray, <- hl]; exact hk) (by rw [<- Array.getElem?_toList]; exact hw) (by rw [List.size_toArray]; omega)) ⟨e, ?_⟩
 refine ⟨y, _, I.lset (its' := its.eraseIdx k) hH e ?_ (r.eraseIdx k) ?_, rw', q⟩
 ·show its.toArray.eraseIdxIfInBounds k = (its.eraseIdx k).toArray
  rw [List.eraseIdxIfInBounds_toArray]
 ·have := ziV xs k
  omega
def rCat : R2 := fun x y H Q => ∃ l b xs zs, x = .ref l /\ y = .ref b /\ H l = some (.lst xs) /\ H b = some (.lst zs) /\ xs.length + zs.length <= sizeLine /\ ∀ p, H p = none -> Q (.ref p) (upd H p (.lst (xs ++ zs)))
theorem op_cat : OpR X (binaryOp .Add) rCat := by
 intro pins s σ H x y v u Q I rx ry h
 obtain ⟨l, b, xs, zs, rfl, rfl, hH, hB, hz, q⟩ := h
 cases rx
 cases ry
 obtain ⟨z, its, n, r, hl, e⟩ := I.lstM hH
 obtain ⟨z2, its2, n2, r2, hl2, e2⟩ := I.lstM hB
 refine PySem.P.add_list e e2 ?_ (by rw [List.size_toArray, List.size_toArray]; omega)
 have ea : its.toArray ++ its2.toArray = (its ++ its2).toArray := by simp
 rw [ea]
 exact ⟨.ref _, _, I.lnew (t' := s.toks) (r.append r2) (by rw [List.length_append]; omega), rfl, q _ I.fresh⟩
def rRep : R2 := fun x y H Q => ∃ l k xs, x = .ref l /\ y = .int k /\ H l = some (.lst xs) /\ -(2 ^ 63) <= k /\ k < 2 ^ 63 /\ xs.length * k.toNat <= sizeLine /\
 ∀ p, H p = none -> Q (.ref p) (upd H p (.lst (List.replicate k.toNat xs).flatten))
theorem len_rep {α : Type} (xs : List α) (k : Nat) : (List.replicate k xs).flatten.length = k * xs.length := by
 induction k with
 | zero => simp
 | succ k ih => rw [List.replicate_succ, List.flatten_cons, List.length_append, ih, Nat.succ_mul, Nat.add_comm]
theorem op_rep : OpR X (binaryOp .Mult) rRep := by
 intro pins s σ H x y v u Q I rx ry h
 obtain ⟨l, k, xs, rfl, rfl, hH, h1, h2, hz, q⟩ := h
 cases rx
 obtain ⟨t, rfl⟩ := ry
 obtain ⟨z, its, n, r, hl, e⟩ := I.lstM hH
 have hlen : its.toArray.size * k.toNat <= sizeLine := by rw [List.size_toArray, <- hl]; exact hz
 have hcap : ¬ its.toArray.size * k.toNat > (2 ^ 63 - 1) / 8 := by
  have : (sizeLine : Nat) <= (2 ^ 63 - 1) / 8 := by decide
  omega
 have hfit : ¬ (!Builtin.List.listFitsIndex k) = true := by
  rw [fitsIndex_both h1 h2]
  exact Bool.false_ne_true
 have hlong : ¬ Builtin.List.listTooLong (its.toArray.size * k.toNat) = true := by
  rw [zj6 hlen]
  exact Bool.false_ne_true
 have hnew : List.foldl (fun x1 x2 => x1 ++ x2) #[] (List.replicate (if its.toArray.isEmpty = true then 0 else k.toNat) its.toArray) = (List.replicate k.toNat its).flatten.toArray := by
  have f0 : ∀ m : Nat, List.foldl (fun x1 x2 => x1 ++ x2) #[] (List.replicate m its.toArray) = (List.replicate m its).flatten.toArray := fun m => by
   have := zjq its m []
   rw [List.nil_append] at this
   exact this
  rw [f0]
  cases its with
  | nil => simp
  | cons a r' => rw [if_neg (by simp)]
 refine wpAny_binaryOp_repeat_ref (T := "list") (U := "int") (by decide) ⟨_, e, rfl⟩ (fun s' => typeIs_int s' k t) noFill_list_mul F.fills_int_mul F.slot_int_rmul repeat_list F.slot_int_index.lookup
  (call_meets F.slot_int_rmul (typeIs_int s k t) F.entry_int_rmul (F.args_int_rmul_2 _ _) (int___rmul___int_list k t l its.toArray n)
   ⟨e, rfl, ⟨_, e, rfl⟩, call_meets F.slot_list_mul ⟨_, e, rfl⟩ F.entry_list_mul (F.args_list_mul_2 _ _) (AutoListH.list___mul___list_int_3 l its.toArray n k t hfit hcap hlong) ⟨e, ?_⟩⟩)
 rw [hnew]
 exact ⟨.ref _, _, I.lnew (t' := s.toks) (r.rep k.toNat) (by rw [len_rep, Nat.mul_comm]; exact hz), rfl, q _ I.fresh⟩
end
end L2
namespace Att
open PyProof.Rows PySem PySem.Calls PySem.W
theorem zg7 {P : Params} {h : Heap} : ∀ (ns : List Int) (vs : List Value), WellAll P h vs (ns.map WData.int) -> IntsAre vs ns := by
 intro ns
 induction ns with
 | nil =>
  intro vs w
  rw [List.map_nil] at w
  cases w
  exact .nil
 | cons n ns ih =>
  intro vs w
  rw [List.map_cons] at w
  cases w with
  | cons a b =>
   cases a
   exact .cons _ _ (ih _ b)
theorem zlJ {l : OpenLaw} {n : Nat} (hn : l.most = some n) {P : Params} {h : Heap} {args : List WData} {vals : List Value}
  (hpre : l.row.toRowW.claim.pre args = true) (hwl : WellAll P h vals args) :
  ∃ a vs ns, vals = [Value.ref a] /\ args = [WData.list (ns.map WData.int)] /\ h.get? a = some { cls := .type "list", data := .seq vs.toArray } /\ IntsAre vs ns /\ ns.length <= n := by
 have hsh : WShape.hasAll [] args [.list .int] = true := (pre_splitW hpre).1
 have hc : l.pre.holds [] { args := args } = true := (pre_splitW hpre).2
 obtain ⟨d, r, rfl, h1, h2⟩ := hasAllW_cons hsh
 obtain rfl := hasAllW_nil h2
 obtain ⟨xs, rfl, h3⟩ := hasW_list h1
 obtain ⟨ns, rfl⟩ := items_int h3
 have hlen : ns.length <= n := by
  unfold OpenLaw.pre at hc
  have h4 : (WTm.not (.lt (.lit (.int (n : Int))) (.len (.arg 0)))).holds [] { args := [.list (ns.map .int)] } = true := by
   have h4 := (holds_andW hc).1
   rw [hn] at h4
   exact h4
  have h5 := condW_of h4 (w_not (w_lt w_lit (w_len_list (w_arg rfl))))
  rw [List.length_map] at h5
  refine Nat.le_of_not_lt fun q => ?_
  have q' : (n : Int) < ((ns.length : Nat) : Int) := by omega
  first
   | (rw [decide_eq_true q'] at h5; exact absurd h5 (by decide))
   | (simp at h5; omega)
 cases hwl with
 | cons w1 w2 =>
  cases w2
  cases w1 with
  | list ho hall => exact ⟨_, _, ns, rfl, rfl, ho, zg7 ns _ hall, hlen⟩
theorem zl6 (l : OpenLaw) (args : List WData) : l.row.toRowW.claim.post args (.bool true) args = true :=
 postW_of (r := l.row.toRowW) (X := (true == true))
  (show WShape.has [] (.bool true) .bool = true by first | rfl | decide | simp [WShape.has, WShape.arms, WShape.armsAll])
  (show (WTm.eq .res (.lit (.bool true))).value [] { args := args, res := some (.bool true), after := args } = some (.bool (true == true)) from w_eq_bool (w_res rfl) w_lit) rfl
theorem attach_call {l : OpenLaw} {n : Nat} {q : Program} {loose : List Str} {XP : (Str -> Option Value) -> Heap -> Prop} {YP : World -> Heap -> Prop} {d : DefRec}
  (hn : l.most = some n) (hdf : d.params.defaults = [])
  (call : ∀ (w : World) (s₀ s₁ : Shared) (mg mb : Str -> Option Value) (fa : Addr) (o : Obj) (pm cd doc : Value) (a : Addr) (vs : List Value) (ns : List Int),
   Ground q loose [] XP w s₀ mg mb s₁.heap -> YP w s₁.heap ->
   s₁.heap.get? fa = some o -> o.data = .func (docDef d.name d.params d.body d.scope pm cd doc) -> s₁.heap.CodeRec cd d.name -> mg d.name = some (.ref fa) ->
   s₁.heap.get? a = some { cls := .type "list", data := .seq vs.toArray } -> IntsAre vs ns -> ns.length <= n -> s₁.gens = #[] ->
   codeAny (model l.prog w) callerA (.call (.ref fa) ⟨[.ref a], []⟩) (fun r s' => r = .ok (.ret (.bool true)) /\ OldK s₁.heap s'.heap /\ s'.os = s₁.os /\ AllBare s'.gens) s₁) :
  WalkO q loose XP YP l.row.toRowW d [] (fun f vs => PySem.call f vs) := by
 intro w s₀ s₁ mg mb G Y fa o pm cd doc dV kV ho hd hcd hD hmg hg args vals as hpre hlay hrd hwl hlo
 obtain rfl : dV = .none := Dflts.none hD hdf
 obtain rfl : kV = .none := Dflts.noKw hD
 obtain ⟨a, vs, ns, rfl, rfl, hobj, hints, hlen⟩ := zlJ hn hpre hwl
 refine enter_call (codeAny_mono (call w s₀ s₁ mg mb fa o pm cd doc a vs ns G Y ho (fd_plain hd) hcd hmg hobj hints hlen hg) fun r s' hq => ?_)
 obtain ⟨rfl, h2, h3, h4⟩ := hq
 exact ⟨.inl ⟨.bool true, .bool true, [], rfl, fun _ => rfl, .bool true, zl6 l _, fun _ => ⟨List.Pairwise.nil, fun _ hm => (nomatch hm)⟩⟩, h2, h3, h4⟩
end Att
namespace L2
open PyProof.Rows PySem PySem.Spec
theorem zjf : ∀ {vs : List Value} {ns : List Int}, IntsAre vs ns -> Vals (ns.map V.int) vs
 | _, _, .nil => .nil
 | _, _, .cons n t h => .cons ⟨t, rfl⟩ (zjf h)
def Only (H : Hp) : Prop := ∀ b, H b = none \/ ∃ o xs, H b = some (.frz o (.lst xs))
theorem law_call {P : Program} {w : World} {K : W.Frag} {mg mb : Str -> Option Value} {CX : CXT} {k : Nat} {fa a : Addr} {fd : FuncData} {x : Str} {sp : Sp} {s₁ : Shared} {vs : List Value} {ns : List Int}
  (KX : K.In s₁.heap) (hns : s₁.heap.Ns mainGlobals mg) (hb : s₁.heap.Ns builtinsNs mb) (hbb : ∀ x : Str, x ≠ "__name__" -> mb x = bootBuiltins x) (hlim : s₁.heap.NoLimit) (hg : s₁.gens = #[])
  (ha : s₁.heap.get? a = some { cls := .type "list", data := .seq vs.toArray }) (hi : IntsAre vs ns) (hl : ns.length <= sizeLine) (hr : Room k callerA)
  (F : ∀ base : Heap, K.In base -> base.Ns mainGlobals mg -> FnOk P w K mg base CX k fa fd [x] sp) (hbind : ∀ (s : Shared) (u : Value), BindsTo s fd ⟨[u], []⟩ [(x, u)])
  (hsp : ∀ H : Hp, Only H -> SqL K H a (ns.map V.int) -> sp [.ref a] H (fun v _ => v = .bl true) fun _ _ _ => False)
  (hCX : ∀ H e s', CX [] H s₁ (fun _ _ _ => False) e s' -> False) :
  codeAny (model P w) callerA (.call (.ref fa) ⟨[.ref a], []⟩) (fun r s' => r = .ok (.ret (.bool true)) /\ OldK s₁.heap s'.heap /\ s'.os = s₁.os /\ AllBare s'.gens) s₁ := by
 have rv := zjf hi
 have lenV := hi.length
 have core : ∀ H : Hp, Only H -> SqL K H a (ns.map V.int) -> HOk P w H s₁.heap -> (∀ b, H b ≠ none -> b = a) -> (H a ≠ none -> K.lookup a = none) ->
   codeAny (model P w) callerA (.call (.ref fa) ⟨[.ref a], []⟩) (fun r s' => r = .ok (.ret (.bool true)) /\ OldK s₁.heap s'.heap /\ s'.os = s₁.os /\ AllBare s'.gens) s₁ := by
  intro H hO hS hok hA hK
  have base_of : ∀ {b : Addr} {o : Obj}, s₁.heap.get? b = some o -> H b = none -> (hidT s₁.heap H).get? b = some o := fun e n => hidT_get e n
  have noA : ∀ {b : Addr} {o : Obj} {es : Array DictEntry} {ep : Nat}, s₁.heap.get? b = some o -> o.data = .dict es ep -> H b = none := fun {b o es ep} e d => by
   cases q : H b with
   | none => rfl
   | some u =>
    have e' : b = a := hA b (by rw [q]; simp)
    subst e'
    rw [ha] at e; cases e
    have d' : Data.seq vs.toArray _ = Data.dict es ep := d
    cases d'
  have nsK : ∀ {b : Addr} {m : Str -> Option Value}, s₁.heap.Ns b m -> (hidT s₁.heap H).Ns b m := fun {b m} ⟨o, es, ep, e, d, r⟩ => ⟨o, es, ep, base_of e (noA e d), d, r⟩
  have hKb : K.In (hidT s₁.heap H) := fun b o e => base_of (KX b o e) (by
   cases q : H b with
   | none => rfl
   | some u =>
    have e' : b = a := hA b (by rw [q]; simp)
    subst e'
    rw [hK (by rw [q]; simp)] at e; cases e)
  have hM : Mod K mg (hidT s₁.heap H) := ⟨hKb, nsK hns, ⟨mb, nsK hb, hbb⟩, let ⟨mc, h1, h2⟩ := hlim; ⟨mc, nsK h1, h2⟩⟩
  have e0 : Env0 P w K mg (hidT s₁.heap H) callerA [] s₁ H := ⟨rfl, hM, fun b o e => of_hidT e, Nat.le_of_eq (zl7 _ _), trivial, fun b hb => absurd (show b ∈ ([] : List Addr) from hb) (by simp), hok, .of_eq hg⟩
  refine codeAny_mono ((F _ hKb (nsK hns)).run callerA [] s₁ H ⟨[.ref a], []⟩ [.ref a] [.ref a] _ _ hr e0 (hbind s₁ (.ref a)) (.cons rfl .nil) (hsp H hO hS)) fun r s' h => ?_
  cases r with
  | error e => exact (hCX H e s' h).elim
  | ok fl =>
   cases fl with
   | next => exact False.elim h
   | brk => exact False.elim h
   | cont => exact False.elim h
   | ret u =>
    obtain ⟨v, H', os, bare, un, hok', r', q⟩ := h
    have q' : v = .bl true := q
    subst q'
    obtain rfl : u = Value.bool true := r'
    refine ⟨rfl, OldK.of_keep fun b o e => ?_, os, bare⟩
    cases q : H b with
    | none => exact un.keep b o e q (by intro z; exact absurd (show b ∈ ([] : List Addr) from z) (by simp)) (by simp)
    | some u =>
     rcases hO b with z | ⟨ob, xs, z⟩
     ·rw [q] at z; cases z
     ·have z2 := un.frzs b ob _ z
      obtain ⟨e1, _⟩ := hok b _ z
      obtain ⟨e2, _⟩ := hok' b _ z2
      rw [e] at e1; cases e1
      exact e2
 cases hk : K.lookup a with
 | some o =>
  have e := KX a o hk
  rw [ha] at e
  cases e
  refine core (fun _ => none) (fun _ => .inl rfl) (.inr ⟨_, vs.toArray, _, hk, rfl, rfl, rfl, by rw [List.size_toArray, lenV]; exact hl, by simpa using rv⟩) (fun b u z => by have z' : (none : Option HO) = some u := z; cases z') (fun b z => absurd rfl z) fun z => absurd rfl z
 | none =>
  refine core (fun b => if b = a then some (.frz { cls := .type "list", data := .seq vs.toArray } (.lst (ns.map V.int))) else none) (fun b => ?_) (.inl (.inr ⟨{ cls := .type "list", data := .seq vs.toArray }, if_pos rfl⟩)) (fun b u z => ?_) (fun b z => ?_) fun _ => hk
  ·by_cases hb : b = a
   ·exact .inr ⟨_, _, if_pos hb⟩
   ·exact .inl (if_neg hb)
  ·by_cases hb : b = a
   ·have z' := (if_pos hb).symm.trans z
    cases z'
    subst hb
    exact ⟨ha, by rw [List.length_map]; exact hl, vs, _, rv, ha⟩
   ·have z' := (if_neg hb).symm.trans z
    cases z'
  ·by_cases hb : b = a
   ·exact hb
   ·exact absurd (if_neg hb) z
theorem walk_of {l : W.OpenLaw} {n k : Nat} {q : Program} {loose : List Str} {XP : (Str -> Option Value) -> Heap -> Prop} {YP : World -> Heap -> Prop} {d : DefRec} {K : Params -> W.Frag} {CX : World -> CXT} {sp : World -> Sp} {x : Str}
  (hn : l.most = some n) (hn2 : n <= sizeLine) (hdf : d.params.defaults = []) (hr : Room k callerA)
  (hY : ∀ (w : World) (h : Heap), YP w h -> (K w.params).In h)
  (F : ∀ (w : World) (mg : Str -> Option Value) (fa : Addr) (h : Heap), (K w.params).In h -> h.Ns mainGlobals mg -> mg d.name = some (.ref fa) ->
   ∃ fd : FuncData, (∀ (s : Shared) (u : Value), BindsTo s fd ⟨[u], []⟩ [(x, u)]) /\
    ∀ base : Heap, (K w.params).In base -> base.Ns mainGlobals mg -> FnOk l.prog w (K w.params) mg base (CX w) k fa fd [x] (sp w))
  (hsp : ∀ (w : World) (H : Hp) (a : Addr) (ns : List Int), ns.length <= n -> Only H -> SqL (K w.params) H a (ns.map V.int) -> sp w [.ref a] H (fun v _ => v = .bl true) fun _ _ _ => False)
  (hCX : ∀ (w : World) (H : Hp) (s : Shared) (e : Value) (s' : Shared), CX w [] H s (fun _ _ _ => False) e s' -> False) :
  W.WalkO q loose XP YP l.row.toRowW d [] (fun f vs => PySem.call f vs) := by
 refine Att.attach_call hn hdf fun w s₀ s₁ mg mb fa o pm cd doc a vs ns G Y ho hd hcd hmg hobj hints hlen hg => ?_
 have KX := hY w _ Y
 obtain ⟨fd, hb, hF⟩ := F w mg fa _ KX G.T.g hmg
 exact law_call KX G.T.g G.T.b G.T.builtins G.T.nolimit hg hobj hints (Nat.le_trans hlen hn2) hr hF hb (fun H hO hS => hsp w H a ns hlen hO hS) fun H e s' => hCX w H s₁ e s'
def zey (s : Stmt) : Arguments := match s with
 | .FunctionDef _ a _ _ _ _ _ _ _ _ => a
 | _ => { posonlyargs := [], args := [], vararg := none, kwonlyargs := [], kw_defaults := [], kwarg := none, defaults := [] }
def zbW (s : Stmt) : List Stmt := match s with
 | .FunctionDef _ _ b _ _ _ _ _ _ _ => b
 | _ => []
def zaJ (s : Stmt) : Scope := match s with
 | .FunctionDef _ _ _ _ _ _ sc _ _ _ => sc
 | _ => { kind := .function, names := [], isGenerator := false, isCoroutine := false }
abbrev CX0 : CXT := fun _ _ _ _ _ _ => False
abbrev E0 : XK := fun _ _ _ => False
theorem zmp {X : Cx} : zlT CX0 X E0 := fun _ _ _ _ _ _ _ h => h.elim
structure Fun (K : W.Frag) (x qual : Str) (st : Stmt) (f : Addr) (fd : FuncData) : Prop where
 ex : ∃ (oc : Value) (od : Option Addr) (kV doc pm : Value) (an : Option Addr) (cdv ct : Value) (osl : Array (Option Value)),
  fd = W.fnOf x qual (zey st) (zbW st) (zaJ st) .none kV doc pm an cdv ct /\ K.lookup f = some ⟨oc, od, .func fd, osl⟩ /\ W.codeIn K cdv qual = true
 kp : W.keepIn K (.ref f) = true
section
variable {P : Program} {w : World} {K : W.Frag} {mg : Str -> Option Value} {base : Heap}
theorem Fun.ok {x qual : Str} {st : Stmt} {f : Addr} {fd : FuncData} {N ps : List Str} {k : Nat} {sp : Sp} (F : Fun K x qual st f fd) (S : FnScope N ps (zaJ st)) (len : ∀ vs H Q E, sp vs H Q E -> vs.length = ps.length)
  (hbody : ∀ (cdv : Value) (A : Around) (outer : List Env) (s : Shared) (H : Hp) (vs : List V) (Q : VK) (E : XK), Room k (A.deeper (envOfC qual (zaJ st) s.heap.objs.size f cdv)) -> sp vs H Q E ->
   ∃ t, PSs (cxOf CX0 P w K mg base N qual (zaJ st) f cdv A outer s H E).nox (zbW st) t /\ t { nx := fun _ H' => Q .non H', rt := Q } (start N vs) H) : FnOk P w K mg base CX0 (k + 1) f fd ps sp := by
 obtain ⟨oc, od, kV, doc, pm, an, cdv, ct, osl, rfl, lk, hcd⟩ := F.ex
 refine fn_of lk hcd S len fun A outer s H vs Q E hr hsp => ?_
 obtain ⟨t, h, q⟩ := hbody cdv A outer s H vs Q E hr hsp
 exact ⟨t, h.nox, q⟩
theorem Fun.binds {x qual : Str} {st : Stmt} {f : Addr} {fd : FuncData} {ps : List Str} (F : Fun K x qual st f fd)
  (h : ∀ (kV doc pm : Value) (an : Option Addr) (cdv ct : Value) (us : List Value), us.length = ps.length -> bindArgs (W.fnOf x qual (zey st) (zbW st) (zaJ st) .none kV doc pm an cdv ct) ⟨us, []⟩ = pure (ps.zip us)) : Binds K fd ps [] := by
 obtain ⟨oc, od, kV, doc, pm, an, cdv, ct, osl, rfl, lk, hcd⟩ := F.ex
 exact .all (h kV doc pm an cdv ct)
theorem fun_mk {x qual : Str} {st : Stmt} {f : Addr} {oc : Value} {od an : Option Addr} {osl : Array (Option Value)} {kV doc pm cdv ct : Value} (l : K.lookup f = some ⟨oc, od, .func (W.fnOf x qual (zey st) (zbW st) (zaJ st) .none kV doc pm an cdv ct), osl⟩)
  (c : W.codeIn K cdv qual = true) (k : W.keepIn K (.ref f) = true) : Fun K x qual st f (W.fnOf x qual (zey st) (zbW st) (zaJ st) .none kV doc pm an cdv ct) := ⟨⟨oc, od, kV, doc, pm, an, cdv, ct, osl, rfl, l, c⟩, k⟩
end
def Same (H H' : Hp) : Prop := ∀ b o, H b = some o -> H' b = some o
theorem Same.seq {K : W.Frag} {H H' : Hp} {a : Addr} {xs : List V} (e : Same H H') (h : SqL K H a xs) : SqL K H' a xs := by
 rcases h with (h | ⟨o, h⟩) | h
 ·exact .inl (.inl (e _ _ h))
 ·exact .inl (.inr ⟨o, e _ _ h⟩)
 ·exact .inr h
end L2
namespace M
open L2 PySem
variable {G G' H : Hp} {a p l : Addr} {o : Obj} {xs ys : List V} {ks : List (List Int)} {A A' : List Addr} {K : W.Frag} {x v : V} {d : D} {ds es : List D} {i : Nat} {c : Ch} {t : T} {ov : Option (Option V)} {s : Sl} {ρ ρ' : R} {e : Expr} {b : Bool} {f : D -> D -> Option D} {ma : ME} {op : Operator} {r : V -> Hp -> VK -> Prop} {g : D -> Option D}
inductive D where
 | non | bl (b : Bool) | int (i : Int) | str (x : Str) | lst (ds : List D) | tup (ds : List D) | scr (ns : List Int) | exc (c : Str) | dic (ks : List Int) (ds : List D) | dit (ks : List (List Int)) (ds : List D)
def ExcIs (a C : Addr) (h : Heap) : Prop := ∃ o, h.get? a = some o /\ o.cls = .ref C
def kI (n : Int) : Key := Sum.inl n
def kn (a : Addr) (o : Obj) : HO := .ext (fun h => h.get? a = some o)
def hI : Key -> Int
 | .inl k => hashInt k
 | .inr _ => 0
def DtN (o : Obj) (xs : List (List Key × Addr × Value)) : Prop := o.ExactDict /\ (∃ es ep, o.data = .dict es ep /\ es.toList = xs.map fun x => ⟨reduceHash (Builtin.Tuple.tupleHashOf (x.1.map hI)), .ref x.2.1, x.2.2⟩) /\ (xs.map (·.1)).Nodup
structure DtI (G : Hp) (a : Addr) (o : Obj) (xs : List (List Key × Addr × Value)) (ks : List (List Int)) (ys : List (List Key × V)) : Prop where
 sys : (a == sysModules) = false
 dn : DtN o xs
 len : ys.length <= sizeLine
 key : ys.map (·.1) = ks.map (·.map kI)
 kt : Paired (fun (p : List Key × V) (q : List Key × Addr × Value) => p.1 = q.1 /\ G q.2.1 = some (.tup (p.1.map kV)) /\ RelV p.2 q.2.2) ys xs
mutual
def RepD (K : W.Frag) (G : Hp) (v : V) : D -> Prop
 | .non => v = .non
 | .bl b => v = .bl b
 | .int i => v = .int i
 | .str x => v = .str x
 | .lst ds => ∃ a xs, v = .ref a /\ G a = some (.lst xs) /\ RepL K G xs ds
 | .tup ds => ∃ a xs, v = .ref a /\ G a = some (.tup xs) /\ RepL K G xs ds
 | .scr ns => ∃ a, v = .ref a /\ SqL K G a (ns.map V.int)
 | .exc c => ∃ a C, v = .ref a /\ W.nsIn K mainGlobals c = some (some (.ref C)) /\ G a = some (.ext (ExcIs a C))
 | .dic ks ds => ∃ a ys, v = .ref a /\ Rd G a (.dK ys) /\ ys.map (·.1) = ks.map kI /\ RepL K G (ys.map (·.2)) ds
 | .dit ks ds => ∃ a ys o xs, v = .ref a /\ G a = some (kn a o) /\ DtI G a o xs ks ys /\ RepL K G (ys.map (·.2)) ds
def RepL (K : W.Frag) (G : Hp) (xs : List V) : List D -> Prop
 | [] => xs = []
 | d :: ds => ∃ x ys, xs = x :: ys /\ RepD K G x d /\ RepL K G ys ds
end
def Fz (G H : Hp) : Prop := ∀ a o, G a = some o -> H a = some o
theorem DtI.mono {xs : List (List Key × Addr × Value)} {ys : List (List Key × V)} (d : DtI G a o xs ks ys) (h : Fz G G') : DtI G' a o xs ks ys := { d with kt := Paired.mapP d.kt fun _ _ z => ⟨z.1, h _ _ z.2.1, z.2.2⟩ }
theorem Fz.refl (G : Hp) : Fz G G := fun _ _ h => h
theorem Fz.trans {A B C : Hp} (h : Fz A B) (k : Fz B C) : Fz A C := fun a o e => k a o (h a o e)
theorem Fz.free (h : Fz G H) (e : H p = none) : G p = none := by
 cases q : G p with
 | none => rfl
 | some o => rw [h p o q] at e; cases e
theorem Fz.new (e : G p = none) (o : HO) : Fz G (upd G p o) := fun a u q => by
 rw [zap (zav q e)]; exact q
theorem Fz.upd2 (h : Fz G H) (p : Addr) (o : HO) : Fz (upd G p o) (upd H p o) := fun a u q => by
 by_cases e : a = p
 ·subst e; rw [zas] at q ⊢; exact q
 ·rw [zap e] at q ⊢; exact h a u q
theorem Fz.right (h : Fz G H) (e : G p = none) (o : HO) : Fz G (upd H p o) := fun a u q => by
 rw [zap (zav q e)]; exact h a u q
theorem Fz.sql {G H : Hp} (h : Fz G H) (q : SqL K G a xs) : SqL K H a xs := Same.seq (H := G) (H' := H) h q
mutual
theorem RepD.mono (h : Fz G G') : ∀ {v : V} {d : D}, RepD K G v d -> RepD K G' v d
 | _, .non, e => e
 | _, .bl _, e => e
 | _, .int _, e => e
 | _, .str _, e => e
 | _, .lst _, ⟨a, xs, e, q, r⟩ => ⟨a, xs, e, h a _ q, RepL.mono h r⟩
 | _, .tup _, ⟨a, xs, e, q, r⟩ => ⟨a, xs, e, h a _ q, RepL.mono h r⟩
 | _, .scr _, ⟨a, e, q⟩ => ⟨a, e, h.sql q⟩
 | _, .exc _, ⟨a, C, e, n, q⟩ => ⟨a, C, e, n, h a _ q⟩
 | _, .dic _ _, ⟨a, ys, e, q, f, r⟩ => ⟨a, ys, e, q.imp (h a _) fun ⟨o, z⟩ => ⟨o, h a _ z⟩, f, RepL.mono h r⟩
 | _, .dit _ _, ⟨a, ys, o, xs, e, q, f, r⟩ => ⟨a, ys, o, xs, e, h a _ q, f.mono h, RepL.mono h r⟩
theorem RepL.mono (h : Fz G G') : ∀ {xs : List V} {ds : List D}, RepL K G xs ds -> RepL K G' xs ds
 | _, [], e => e
 | _, _ :: _, ⟨x, ys, e, q, r⟩ => ⟨x, ys, e, RepD.mono h q, RepL.mono h r⟩
end
section
variable {K : W.Frag} {G : Hp}
theorem RepL.nil : RepL K G [] [] := rfl
theorem RepL.cons {x : V} {d : D} (h : RepD K G x d) (t : RepL K G xs ds) : RepL K G (x :: xs) (d :: ds) := ⟨x, xs, rfl, h, t⟩
theorem RepL.length : ∀ {xs : List V} {ds : List D}, RepL K G xs ds -> xs.length = ds.length
 | _, [], e => by cases e; rfl
 | _, _ :: _, ⟨x, ys, e, _, r⟩ => by subst e; rw [List.length_cons, List.length_cons, RepL.length r]
theorem RepL.get : ∀ {xs : List V} {ds : List D} {i : Nat} {d : D}, RepL K G xs ds -> ds[i]? = some d -> ∃ x, xs[i]? = some x /\ RepD K G x d
 | _, [], _, _, _, h => by simp at h
 | _, _ :: _, 0, _, ⟨x, ys, e, q, r⟩, h => by subst e; simp at h; subst h; exact ⟨x, rfl, q⟩
 | _, _ :: _, i + 1, _, ⟨x, ys, e, q, r⟩, h => by
  subst e
  obtain ⟨y, h1, h2⟩ := RepL.get (i := i) r (by simpa using h)
  exact ⟨y, by simpa using h1, h2⟩
theorem RepL.append : ∀ {xs ys : List V} {ds es : List D}, RepL K G xs ds -> RepL K G ys es -> RepL K G (xs ++ ys) (ds ++ es)
 | _, _, [], _, e, r => by cases e; exact r
 | _, _, _ :: _, _, ⟨x, zs, e, q, r⟩, s => by subst e; exact ⟨x, zs ++ _, rfl, q, RepL.append r s⟩
theorem RepL.snoc (h : RepL K G xs ds) (q : RepD K G x d) : RepL K G (xs ++ [x]) (ds ++ [d]) := h.append (.cons q .nil)
theorem RepL.take : ∀ {xs : List V} {ds : List D} (n : Nat), RepL K G xs ds -> RepL K G (xs.take n) (ds.take n)
 | _, _, 0, _ => by simp; exact .nil
 | _, [], n + 1, e => by cases e; exact .nil
 | _, _ :: _, n + 1, ⟨x, zs, e, q, r⟩ => by subst e; exact ⟨x, zs.take n, rfl, q, RepL.take n r⟩
theorem RepL.drop : ∀ {xs : List V} {ds : List D} (n : Nat), RepL K G xs ds -> RepL K G (xs.drop n) (ds.drop n)
 | _, _, 0, r => by simpa using r
 | _, [], n + 1, e => by cases e; exact .nil
 | _, _ :: _, n + 1, ⟨x, zs, e, q, r⟩ => by subst e; exact RepL.drop n r
theorem RepL.set : ∀ {xs : List V} {ds : List D} (i : Nat) {x : V} {d : D}, RepL K G xs ds -> RepD K G x d -> RepL K G (xs.set i x) (ds.set i d)
 | _, [], _, _, _, e, _ => by cases e; exact .nil
 | _, _ :: _, 0, _, _, ⟨x, zs, e, q, r⟩, h => by subst e; exact ⟨_, zs, rfl, h, r⟩
 | _, _ :: _, i + 1, _, _, ⟨x, zs, e, q, r⟩, h => by subst e; exact ⟨x, _, rfl, q, RepL.set i r h⟩
theorem RepL.rep (h : RepL K G xs ds) : ∀ k : Nat, RepL K G (List.replicate k xs).flatten (List.replicate k ds).flatten
 | 0 => .nil
 | k + 1 => by rw [List.replicate_succ, List.replicate_succ, List.flatten_cons, List.flatten_cons]; exact h.append (RepL.rep h k)
theorem RepL.ints : ∀ (ns : List Int), RepL K G (ns.map V.int) (ns.map D.int)
 | [] => .nil
 | n :: ns => ⟨.int n, ns.map V.int, rfl, rfl, RepL.ints ns⟩
theorem RepL.ints_eq : ∀ {ns : List Int} {xs : List V}, RepL K G xs (ns.map D.int) -> xs = ns.map V.int
 | [], _, e => e
 | n :: ns, _, ⟨x, ys, e, q, r⟩ => by subst e; cases (show x = V.int n from q); rw [RepL.ints_eq r]; rfl
theorem RepL.at {i : Int} (h : RepL K G xs ds) (e : atI ds i = some d) : ∃ x, atI xs i = some x /\ RepD K G x d := by
 unfold atI at e ⊢
 rw [h.length]
 cases q : ixN ds.length i with
 | none => rw [q] at e; cases e
 | some j => rw [q] at e; exact h.get e
end
inductive Ch where
 | d (x : D) | l (xs : List D) | t (xss : List (List D))
inductive T where
 | lst (cs : List Ch) | tup (cs : List Ch) | ins (c : Str) (fs : List (Str × Ch)) | dic (ks : List Int) (ds : List D) | dit (ks : List (List Int)) (ds : List D)
inductive Sl where
 | emp | val (d : D) | own (ds : List D) | par (ds : List D) | two (ds es : List D) | tre (t : T) | ptr (t : T)
abbrev R := List Sl
def Sl.items : Sl -> Option (List D)
 | .own ds => some ds
 | .par ds => some ds
 | _ => none
structure Bs where
 G : Hp
 H : Hp
 O : List (Nat × Addr)
def RepTb (K : W.Frag) (G H : Hp) : List V -> List (List D) -> List Addr -> Prop
 | [], [], A => A = []
 | x :: xs, ds :: dss, A => ∃ r ys A2, x = .ref r /\ H r = some (.lst ys) /\ RepL K G ys ds /\ RepTb K G H xs dss A2 /\ A = r :: A2
 | _, _, _ => False
def RepC (K : W.Frag) (G H : Hp) (x : V) : Ch -> List Addr -> Prop
 | .d y, A => RepD K G x y /\ A = []
 | .l ds, A => ∃ l xs, x = .ref l /\ H l = some (.lst xs) /\ RepL K G xs ds /\ A = [l]
 | .t xss, A => ∃ p xs A', x = .ref p /\ H p = some (.lst xs) /\ RepTb K G H xs xss A' /\ A = p :: A'
def RepCs (K : W.Frag) (G H : Hp) : List V -> List Ch -> List Addr -> Prop
 | [], [], A => A = []
 | x :: xs, c :: cs, A => ∃ A1 A2, RepC K G H x c A1 /\ RepCs K G H xs cs A2 /\ A = A1 ++ A2
 | _, _, _ => False
def RepT (K : W.Frag) (G H : Hp) (v : V) : T -> List Addr -> Prop
 | .lst cs, A => ∃ p xs A', v = .ref p /\ H p = some (.lst xs) /\ RepCs K G H xs cs A' /\ A = p :: A'
 | .tup cs, A => ∃ p xs A', v = .ref p /\ H p = some (.tup xs) /\ RepCs K G H xs cs A' /\ A = p :: A'
 | .ins c fs, A => ∃ p C dx vs A', v = .ref p /\ W.nsIn K mainGlobals c = some (some (.ref C)) /\ H p = some (.ins C dx vs) /\ H dx = some (.own p) /\ vs.map (·.1) = fs.map (·.1) /\ RepCs K G H (vs.map (·.2)) (fs.map (·.2)) A' /\ A = p :: dx :: A'
 | .dic ks ds, A => ∃ p ys, v = .ref p /\ H p = some (.dK ys) /\ ys.map (·.1) = ks.map kI /\ RepL K G (ys.map (·.2)) ds /\ A = [p]
 | .dit ks ds, A => ∃ p ys o xs, v = .ref p /\ H p = some (kn p o) /\ DtI G p o xs ks ys /\ RepL K G (ys.map (·.2)) ds /\ A = [p]
section
variable {K : W.Frag} {G G' H H' : Hp}
theorem RepTb.move : ∀ {xs : List V} {dss : List (List D)} {A : List Addr}, RepTb K G H xs dss A -> Fz G G' -> (∀ a ∈ A, H' a = H a) -> RepTb K G' H' xs dss A
 | [], [], _, h, _, _ => h
 | x :: xs, ds :: dss, A, ⟨r, ys, A2, e1, e2, e3, e4, e5⟩, hg, hh => ⟨r, ys, A2, e1, by rw [hh r (by rw [e5]; simp)]; exact e2, e3.mono hg, e4.move hg fun a m => hh a (by rw [e5]; simp [m]), e5⟩
 | [], _ :: _, _, h, _, _ => h.elim
 | _ :: _, [], _, h, _, _ => h.elim
theorem RepTb.det : ∀ {xs : List V} {dss : List (List D)} {A A' : List Addr}, RepTb K G H xs dss A -> RepTb K G' H' xs dss A' -> A = A'
 | [], [], _, _, h, h' => by rw [show _ = [] from h, show _ = [] from h']
 | x :: xs, ds :: dss, _, _, ⟨r, ys, A2, e1, _, _, e4, e5⟩, ⟨r', ys', A2', e1', _, _, e4', e5'⟩ => by
  rw [e1] at e1'; cases e1'
  rw [e5, e5', e4.det e4']
 | [], _ :: _, _, _, h, _ => h.elim
 | _ :: _, [], _, _, h, _ => h.elim
theorem RepTb.here : ∀ {xs : List V} {dss : List (List D)} {A : List Addr}, RepTb K G H xs dss A -> ∀ {a : Addr}, a ∈ A -> ∃ xs, H a = some (.lst xs)
 | [], [], _, h, a, m => by rw [show _ = [] from h] at m; cases m
 | x :: xs, ds :: dss, _, ⟨r, ys, A2, e1, e2, _, e4, e5⟩, a, m => by
  rw [e5] at m
  rcases List.mem_cons.mp m with rfl | m
  ·exact ⟨ys, e2⟩
  ·exact e4.here m
 | [], _ :: _, _, h, _, _ => h.elim
 | _ :: _, [], _, h, _, _ => h.elim
theorem RepC.move (h : RepC K G H x c A) (hg : Fz G G') (hh : ∀ a ∈ A, H' a = H a) : RepC K G' H' x c A := by
 cases c with
 | d y => exact ⟨h.1.mono hg, h.2⟩
 | l ds => obtain ⟨l, xs, e, q, r, rfl⟩ := h; exact ⟨l, xs, e, by rw [hh l (by simp)]; exact q, r.mono hg, rfl⟩
 | t xss => obtain ⟨p, xs, A', e, q, r, rfl⟩ := h; exact ⟨p, xs, A', e, by rw [hh p (by simp)]; exact q, r.move hg fun a m => hh a (by simp [m]), rfl⟩
theorem RepCs.move : ∀ {xs : List V} {cs : List Ch} {A : List Addr}, RepCs K G H xs cs A -> Fz G G' -> (∀ a ∈ A, H' a = H a) -> RepCs K G' H' xs cs A
 | [], [], _, h, _, _ => h
 | x :: xs, c :: cs, A, ⟨A1, A2, h1, h2, e⟩, hg, hh => ⟨A1, A2, h1.move hg fun a m => hh a (by rw [e]; exact List.mem_append_left _ m), h2.move hg fun a m => hh a (by rw [e]; exact List.mem_append_right _ m), e⟩
 | [], _ :: _, _, h, _, _ => h.elim
 | _ :: _, [], _, h, _, _ => h.elim
theorem RepT.move (h : RepT K G H v t A) (hg : Fz G G') (hh : ∀ a ∈ A, H' a = H a) : RepT K G' H' v t A := by
 cases t with
 | lst cs => obtain ⟨p, xs, A', e, q, r, rfl⟩ := h; exact ⟨p, xs, A', e, by rw [hh p (by simp)]; exact q, r.move hg fun a m => hh a (by simp [m]), rfl⟩
 | tup cs => obtain ⟨p, xs, A', e, q, r, rfl⟩ := h; exact ⟨p, xs, A', e, by rw [hh p (by simp)]; exact q, r.move hg fun a m => hh a (by simp [m]), rfl⟩
 | ins c fs => obtain ⟨p, C, dx, vs, A', e, n, q, q2, f, r, rfl⟩ := h; exact ⟨p, C, dx, vs, A', e, n, by rw [hh p (by simp)]; exact q, by rw [hh dx (by simp)]; exact q2, f, r.move hg fun a m => hh a (by simp [m]), rfl⟩
 | dic ks ds => obtain ⟨p, ys, e, q, f, r, rfl⟩ := h; exact ⟨p, ys, e, by rw [hh p (by simp)]; exact q, f, r.mono hg, rfl⟩
 | dit ks ds => obtain ⟨p, ys, o, xs, e, q, f, r, rfl⟩ := h; exact ⟨p, ys, o, xs, e, by rw [hh p (by simp)]; exact q, f.mono hg, r.mono hg, rfl⟩
theorem RepC.det (h : RepC K G H x c A) (h' : RepC K G' H' x c A') (hh : ∀ a ∈ A, H' a = H a) : A = A' := by
 cases c with
 | d y => rw [h.2, h'.2]
 | l ds => obtain ⟨l, xs, e, _, _, rfl⟩ := h; obtain ⟨l', xs', e', _, _, rfl⟩ := h'; rw [e] at e'; cases e'; rfl
 | t xss =>
  obtain ⟨p, xs, B, e, q, r, rfl⟩ := h; obtain ⟨p', xs', B', e', q', r', rfl⟩ := h'
  rw [e] at e'; cases e'
  rw [hh p (by simp), q] at q'; cases q'
  rw [r.det r']
theorem RepCs.det : ∀ {xs : List V} {cs : List Ch} {A A' : List Addr}, RepCs K G H xs cs A -> RepCs K G' H' xs cs A' -> (∀ a ∈ A, H' a = H a) -> A = A'
 | [], [], _, _, h, h', _ => by rw [show _ = [] from h, show _ = [] from h']
 | x :: xs, c :: cs, _, _, ⟨A1, A2, h1, h2, e⟩, ⟨B1, B2, k1, k2, e'⟩, hh => by rw [e, e', h1.det k1 fun a m => hh a (by rw [e]; exact List.mem_append_left _ m), h2.det k2 fun a m => hh a (by rw [e]; exact List.mem_append_right _ m)]
 | [], _ :: _, _, _, h, _, _ => h.elim
 | _ :: _, [], _, _, h, _, _ => h.elim
theorem RepT.det (h : RepT K G H v t A) (h' : RepT K G' H' v t A') (hh : ∀ a ∈ A, H' a = H a) : A = A' := by
 cases t with
 | lst cs =>
  obtain ⟨p, xs, B, e, q, r, rfl⟩ := h; obtain ⟨p', xs', B', e', q', r', rfl⟩ := h'
  rw [e] at e'; cases e'
  rw [hh p (by simp), q] at q'; cases q'
  rw [r.det r' fun a m => hh a (by simp [m])]
 | tup cs =>
  obtain ⟨p, xs, B, e, q, r, rfl⟩ := h; obtain ⟨p', xs', B', e', q', r', rfl⟩ := h'
  rw [e] at e'; cases e'
  rw [hh p (by simp), q] at q'; cases q'
  rw [r.det r' fun a m => hh a (by simp [m])]
 | ins c fs =>
  obtain ⟨p, C, dx, vs, B, e, n, q, q2, f, r, rfl⟩ := h; obtain ⟨p', C', dx', vs', B', e', n', q', q2', f', r', rfl⟩ := h'
  rw [e] at e'; cases e'
  rw [hh p (by simp), q] at q'; cases q'
  rw [r.det r' fun a m => hh a (by simp [m])]
 | dic ks ds => obtain ⟨p, ys, e, q, f, r, rfl⟩ := h; obtain ⟨p', ys', e', q', f', r', rfl⟩ := h'; rw [e] at e'; cases e'; rfl
 | dit ks ds => obtain ⟨p, ys, o, xs, e, q, f, r, rfl⟩ := h; obtain ⟨p', ys', o', xs', e', q', f', r', rfl⟩ := h'; rw [e] at e'; cases e'; rfl
theorem RepC.here (h : RepC K G H x c A) (m : a ∈ A) : ∃ xs, H a = some (.lst xs) := by
 cases c with
 | d y => rw [h.2] at m; cases m
 | l ds => obtain ⟨l, xs, _, q, _, rfl⟩ := h; simp at m; subst m; exact ⟨xs, q⟩
 | t xss =>
  obtain ⟨p, xs, A', _, q, r, rfl⟩ := h
  rcases List.mem_cons.mp m with rfl | m
  ·exact ⟨xs, q⟩
  ·exact r.here m
theorem RepCs.here : ∀ {xs : List V} {cs : List Ch} {A : List Addr}, RepCs K G H xs cs A -> ∀ {a : Addr}, a ∈ A -> ∃ xs, H a = some (.lst xs)
 | [], [], _, h, a, m => by rw [show _ = [] from h] at m; cases m
 | x :: xs, c :: cs, _, ⟨A1, A2, h1, h2, e⟩, a, m => by
  rw [e] at m
  rcases List.mem_append.mp m with m | m
  ·exact h1.here m
  ·exact h2.here m
 | [], _ :: _, _, h, _, _ => h.elim
 | _ :: _, [], _, h, _, _ => h.elim
theorem RepT.here (h : RepT K G H v t A) (m : a ∈ A) : H a ≠ none := by
 cases t with
 | lst cs =>
  obtain ⟨p, xs, B, e, q, r, rfl⟩ := h
  rcases List.mem_cons.mp m with rfl | m
  ·rw [q]; simp
  ·obtain ⟨ys, z⟩ := r.here m; rw [z]; simp
 | tup cs =>
  obtain ⟨p, xs, B, e, q, r, rfl⟩ := h
  rcases List.mem_cons.mp m with rfl | m
  ·rw [q]; simp
  ·obtain ⟨ys, z⟩ := r.here m; rw [z]; simp
 | ins c fs =>
  obtain ⟨p, C, dx, vs, B, e, n, q, q2, f, r, rfl⟩ := h
  rcases List.mem_cons.mp m with rfl | m
  ·rw [q]; simp
  rcases List.mem_cons.mp m with rfl | m
  ·rw [q2]; simp
  ·obtain ⟨ys, z⟩ := r.here m; rw [z]; simp
 | dic ks ds => obtain ⟨p, ys, e, q, f, r, rfl⟩ := h; simp at m; subst m; rw [q]; simp
 | dit ks ds => obtain ⟨p, ys, o, xs, e, q, f, r, rfl⟩ := h; simp at m; subst m; rw [q]; simp
end
def SlotOk (K : W.Frag) (B : Bs) (G H : Hp) (i : Nat) (ov : Option (Option V)) : Sl -> Prop
 | .emp => True
 | .two _ _ => True
 | .val d => ∃ v, ov = some (some v) /\ RepD K G v d
 | .own ds => ∃ l xs, ov = some (some (.ref l)) /\ G l = none /\ H l = some (.lst xs) /\ RepL K G xs ds /\ B.H l = none
 | .par ds => ∃ l xs, ov = some (some (.ref l)) /\ G l = none /\ H l = some (.lst xs) /\ RepL K G xs ds /\ (i, l) ∈ B.O
 | .tre t => ∃ v A, ov = some (some v) /\ RepT K G H v t A /\ A.Nodup /\ ∀ a ∈ A, G a = none /\ B.H a = none
 | .ptr t => ∃ v A, ov = some (some v) /\ RepT K G H v t A /\ A.Nodup /\ ∀ a ∈ A, G a = none /\ (B.H a = none \/ (i, a) ∈ B.O)
def Wr (ρ : R) (i : Nat) : Prop := ∃ s ds, ρ[i]? = some s /\ s.items = some ds
def OwS (K : W.Frag) (G H : Hp) (ov : Option (Option V)) (a : Addr) : Sl -> Prop
 | .own _ => ov = some (some (.ref a))
 | .par _ => ov = some (some (.ref a))
 | .tre t => ∃ v A, ov = some (some v) /\ RepT K G H v t A /\ a ∈ A
 | .ptr t => ∃ v A, ov = some (some v) /\ RepT K G H v t A /\ a ∈ A
 | _ => False
def Nw (K : W.Frag) (G H : Hp) (σ : St) (ρ : R) (a : Addr) : Prop := ∀ (i : Nat) (s : Sl), ρ[i]? = some s -> ¬ OwS K G H σ[i]? a s
structure SI (K : W.Frag) (B : Bs) (G H : Hp) (σ : St) (ρ : R) : Prop where
 fz : Fz G H
 g0 : Fz B.G G
 new : ∀ b o, G b = some o -> B.G b ≠ none \/ B.H b = none
 keep : ∀ b o, B.H b = some o -> (∀ i, (i, b) ∉ B.O) -> H b = some o
 there : ∀ b, H b = none -> B.H b = none
 len : σ.length = ρ.length
 ob : ∀ i b, (i, b) ∈ B.O -> B.H b ≠ none
 slot : ∀ i s, ρ[i]? = some s -> SlotOk K B G H i σ[i]? s
 dis : ∀ (i j : Nat) (s t : Sl) (a : Addr), i ≠ j -> ρ[i]? = some s -> ρ[j]? = some t -> OwS K G H σ[i]? a s -> ¬ OwS K G H σ[j]? a t
section
variable {K : W.Frag} {B : Bs} {G G' H H' : Hp} {σ : St} {ρ : R}
theorem SlotOk.own (h : SlotOk K B G H i ov s) (w : OwS K G H ov a s) : G a = none /\ H a ≠ none /\ (B.H a = none \/ (i, a) ∈ B.O) := by
 cases s with
 | emp => exact w.elim
 | two _ _ => exact w.elim
 | val d => exact w.elim
 | own ds => obtain ⟨l, xs, e, g, k, r, n⟩ := h; rw [show ov = _ from w] at e; cases e; exact ⟨g, by rw [k]; simp, .inl n⟩
 | par ds => obtain ⟨l, xs, e, g, k, r, n⟩ := h; rw [show ov = _ from w] at e; cases e; exact ⟨g, by rw [k]; simp, .inr n⟩
 | tre t =>
  obtain ⟨v, A, e, r, nd, f⟩ := h
  obtain ⟨v', A', e', r', m⟩ := w
  rw [e] at e'; cases e'
  rw [<- r.det r' fun _ _ => rfl] at m
  exact ⟨(f a m).1, r.here m, .inl (f a m).2⟩
 | ptr t =>
  obtain ⟨v, A, e, r, nd, f⟩ := h
  obtain ⟨v', A', e', r', m⟩ := w
  rw [e] at e'; cases e'
  rw [<- r.det r' fun _ _ => rfl] at m
  exact ⟨(f a m).1, r.here m, (f a m).2⟩
theorem SlotOk.mono (h : SlotOk K B G H i ov s) (hg : Fz G G') (hw : ∀ a, OwS K G H ov a s -> G a = none -> H a ≠ none -> G' a = none /\ H' a = H a) : SlotOk K B G' H' i ov s := by
 have ow := fun a (w : OwS K G H ov a s) => h.own w
 cases s with
 | emp => trivial
 | two _ _ => trivial
 | val d => obtain ⟨v, e, r⟩ := h; exact ⟨v, e, r.mono hg⟩
 | own ds =>
  obtain ⟨l, xs, e, g, k, r, n⟩ := h
  obtain ⟨h1, h2⟩ := hw l e g (by rw [k]; simp)
  exact ⟨l, xs, e, h1, h2.trans k, r.mono hg, n⟩
 | par ds =>
  obtain ⟨l, xs, e, g, k, r, n⟩ := h
  obtain ⟨h1, h2⟩ := hw l e g (by rw [k]; simp)
  exact ⟨l, xs, e, h1, h2.trans k, r.mono hg, n⟩
 | tre t =>
  obtain ⟨v, A, e, r, nd, f⟩ := h
  have w := fun a m => hw a ⟨v, A, e, r, m⟩ (f a m).1 (r.here m)
  exact ⟨v, A, e, r.move hg fun a m => (w a m).2, nd, fun a m => ⟨(w a m).1, (f a m).2⟩⟩
 | ptr t =>
  obtain ⟨v, A, e, r, nd, f⟩ := h
  have w := fun a m => hw a ⟨v, A, e, r, m⟩ (f a m).1 (r.here m)
  exact ⟨v, A, e, r.move hg fun a m => (w a m).2, nd, fun a m => ⟨(w a m).1, (f a m).2⟩⟩
theorem SlotOk.back (h : SlotOk K B G H i ov s) (hw : ∀ a, OwS K G H ov a s -> G a = none -> H a ≠ none -> G' a = none /\ H' a = H a) (w : OwS K G' H' ov a s) : OwS K G H ov a s := by
 cases s with
 | emp => exact w
 | two _ _ => exact w
 | val d => exact w
 | own ds => exact w
 | par ds => exact w
 | tre t =>
  obtain ⟨v, A, e, r, nd, f⟩ := h
  obtain ⟨v', A', e', r', m⟩ := w
  rw [e] at e'; cases e'
  have q := r.det r' fun a m => (hw a ⟨v, A, e, r, m⟩ (f a m).1 (r.here m)).2
  subst q
  exact ⟨v, A, e, r, m⟩
 | ptr t =>
  obtain ⟨v, A, e, r, nd, f⟩ := h
  obtain ⟨v', A', e', r', m⟩ := w
  rw [e] at e'; cases e'
  have q := r.det r' fun a m => (hw a ⟨v, A, e, r, m⟩ (f a m).1 (r.here m)).2
  subst q
  exact ⟨v, A, e, r, m⟩
theorem SI.move (I : SI K B G H σ ρ) (fz : Fz G' H') (fg : Fz G G') (new : ∀ b o, G' b = some o -> B.G b ≠ none \/ B.H b = none) (keep : ∀ b o, B.H b = some o -> (∀ i, (i, b) ∉ B.O) -> H' b = some o) (there : ∀ b, H' b = none -> B.H b = none)
  (ow : ∀ (i : Nat) (s : Sl) (a : Addr), ρ[i]? = some s -> OwS K G H σ[i]? a s -> G a = none -> H a ≠ none -> G' a = none /\ H' a = H a) : SI K B G' H' σ ρ where
 fz := fz
 g0 := I.g0.trans fg
 new := new
 keep := keep
 there := there
 len := I.len
 ob := I.ob
 slot := fun i s e => (I.slot i s e).mono fg fun a w g h => ow i s a e w g h
 dis := fun i j s t a n e1 e2 w1 w2 => I.dis i j s t a n e1 e2 ((I.slot i s e1).back (fun a w g h => ow i s a e1 w g h) w1) ((I.slot j t e2).back (fun a w g h => ow j t a e2 w g h) w2)
theorem SI.chg (I : SI K B G H σ ρ) {ov : Option V} {s' : Sl} (fz : Fz G' H') (fg : Fz G G') (new : ∀ b o, G' b = some o -> B.G b ≠ none \/ B.H b = none) (keep : ∀ b o, B.H b = some o -> (∀ i, (i, b) ∉ B.O) -> H' b = some o) (there : ∀ b, H' b = none -> B.H b = none)
  (ow : ∀ (j : Nat) (s : Sl) (a : Addr), j ≠ i -> ρ[j]? = some s -> OwS K G H σ[j]? a s -> G a = none -> H a ≠ none -> G' a = none /\ H' a = H a /\ ¬ OwS K G' H' (some ov) a s') (sl : SlotOk K B G' H' i (some ov) s') : SI K B G' H' (σ.set i ov) (ρ.set i s') := by
 have atI : ∀ {s}, (ρ.set i s')[i]? = some s -> s = s' /\ (σ.set i ov)[i]? = some ov := fun {s} e => by
  rw [List.getElem?_set, if_pos rfl] at e ⊢
  split at e
  ·rename_i h; cases e; rw [if_pos (by rw [I.len]; exact h)]; exact ⟨rfl, rfl⟩
  ·cases e
 have atJ : ∀ {j s}, j ≠ i -> (ρ.set i s')[j]? = some s -> ρ[j]? = some s /\ (σ.set i ov)[j]? = σ[j]? := fun {j s} n e => by
  rw [List.getElem?_set_ne (Ne.symm n)] at e ⊢
  exact ⟨e, rfl⟩
 refine ⟨fz, I.g0.trans fg, new, keep, there, by rw [List.length_set, List.length_set]; exact I.len, I.ob, fun j s e => ?_, fun j k s t a n e1 e2 w1 w2 => ?_⟩
 ·by_cases z : j = i
  ·subst z; obtain ⟨rfl, q⟩ := atI e; rw [q]; exact sl
  ·obtain ⟨e1, q⟩ := atJ z e
   rw [q]
   exact (I.slot j s e1).mono fg fun a w g h => ⟨(ow j s a z e1 w g h).1, (ow j s a z e1 w g h).2.1⟩
 ·have one : ∀ j s, j ≠ i -> (ρ.set i s')[j]? = some s -> OwS K G' H' (σ.set i ov)[j]? a s -> ρ[j]? = some s /\ OwS K G H σ[j]? a s := fun j s z e w => by
   obtain ⟨e1, q⟩ := atJ z e
   rw [q] at w
   exact ⟨e1, (I.slot j s e1).back (fun a w g h => ⟨(ow j s a z e1 w g h).1, (ow j s a z e1 w g h).2.1⟩) w⟩
  by_cases z1 : j = i
  ·subst z1
   obtain ⟨rfl, q1⟩ := atI e1
   obtain ⟨f2, w2⟩ := one k t (Ne.symm n) e2 w2
   obtain ⟨o1, o2, _⟩ := (I.slot k t f2).own w2
   rw [q1] at w1
   exact (ow k t a (Ne.symm n) f2 w2 o1 o2).2.2 w1
  ·have p1 := one j s z1 e1 w1
   by_cases z2 : k = i
   ·subst z2
    obtain ⟨rfl, q2⟩ := atI e2
    obtain ⟨o1, o2, _⟩ := (I.slot j s p1.1).own p1.2
    rw [q2] at w2
    exact (ow j s a z1 p1.1 p1.2 o1 o2).2.2 w2
   ·have p2 := one k t z2 e2 w2
    exact I.dis j k s t a n p1.1 p2.1 p1.2 p2.2
theorem SI.nw (I : SI K B G H σ ρ) (hp : H p = none) : Nw K G H σ ρ p := fun i s e w => ((I.slot i s e).own w).2.1 hp
theorem SI.nw_move (I : SI K B G H σ ρ) (n : Nw K G H σ ρ p) (ow : ∀ (i : Nat) (s : Sl) (a : Addr), ρ[i]? = some s -> OwS K G H σ[i]? a s -> G a = none -> H a ≠ none -> G' a = none /\ H' a = H a) : Nw K G' H' σ ρ p :=
 fun i s e w => n i s e ((I.slot i s e).back (fun a w g h => ow i s a e w g h) w)
theorem SI.allocF (I : SI K B G H σ ρ) (hp : H p = none) (o : HO) : SI K B (upd G p o) (upd H p o) σ ρ :=
 I.move (I.fz.upd2 p o) (Fz.new (I.fz.free hp) o) (fun b u e => by
  by_cases q : b = p
  ·subst q; exact .inr (I.there b hp)
  ·rw [zap q] at e; exact I.new b u e) (fun b u e n => by
  have q := I.keep b u e n
  rw [zap (zav q hp)]; exact q) (fun b e => by
  by_cases q : b = p
  ·subst q; rw [zas] at e; cases e
  ·rw [zap q] at e; exact I.there b e) (fun i s a _ _ g h => by
  have q : a ≠ p := fun z => h (by rw [z]; exact hp)
  rw [zap q, zap q]; exact ⟨g, rfl⟩)
theorem SI.allocO (I : SI K B G H σ ρ) (hp : H p = none) (o : HO) : SI K B G (upd H p o) σ ρ :=
 I.move (I.fz.right (I.fz.free hp) o) (Fz.refl G) I.new (fun b u e n => by
  have q := I.keep b u e n
  rw [zap (zav q hp)]; exact q) (fun b e => by
  by_cases q : b = p
  ·subst q; rw [zas] at e; cases e
  ·rw [zap q] at e; exact I.there b e) (fun i s a _ _ g h => by
  have q : a ≠ p := fun z => h (by rw [z]; exact hp)
  rw [zap q]; exact ⟨g, rfl⟩)
theorem SI.frz (I : SI K B G H σ ρ) {o : HO} (hl : H l = some o) (hB : B.H l = none) (hn : Nw K G H σ ρ l) (hg : G l = none) : SI K B (upd G l o) H σ ρ :=
 I.move (fun a u q => by
  by_cases e : a = l
  ·subst e; rw [zas] at q; cases q; exact hl
  ·rw [zap e] at q; exact I.fz a u q) (Fz.new hg o) (fun b u e => by
  by_cases q : b = l
  ·subst q; exact .inr hB
  ·rw [zap q] at e; exact I.new b u e) I.keep I.there (fun i s a e w g _ => by
  refine ⟨?_, rfl⟩
  rw [zap (fun z => ?_)]
  ·exact g
  ·subst z; exact hn i s e w)
theorem SI.set (I : SI K B G H σ ρ) (h : RepD K G v d) : SI K B G H (σ.set i (some v)) (ρ.set i (.val d)) :=
 I.chg I.fz (Fz.refl G) I.new I.keep I.there (fun _ _ _ _ _ _ g _ => ⟨g, rfl, id⟩) ⟨v, rfl, h⟩
theorem SI.setO (I : SI K B G H σ ρ) (hg : G l = none) (hl : H l = some (.lst xs)) (h : RepL K G xs ds) (hB : B.H l = none) (hn : Nw K G H σ ρ l) :
  SI K B G H (σ.set i (some (.ref l))) (ρ.set i (.own ds)) :=
 I.chg I.fz (Fz.refl G) I.new I.keep I.there (fun j s a _ e w g _ => ⟨g, rfl, fun z => by cases (show some (some (V.ref l)) = some (some (.ref a)) from z); exact hn j s e w⟩) ⟨l, xs, rfl, hg, hl, h, hB⟩
theorem SI.wr (I : SI K B G H σ ρ) (e : ρ[i]? = some s) (q : s.items = some ds) : ∃ l xs, σ[i]? = some (some (.ref l)) /\ G l = none /\ H l = some (.lst xs) /\ RepL K G xs ds := by
 have h := I.slot i s e
 cases s with
 | emp => cases q
 | two _ _ => cases q
 | val d => cases q
 | tre _ => cases q
 | ptr _ => cases q
 | own es => cases q; obtain ⟨l, xs, h1, h2, h3, h4, _⟩ := h; exact ⟨l, xs, h1, h2, h3, h4⟩
 | par es => cases q; obtain ⟨l, xs, h1, h2, h3, h4, _⟩ := h; exact ⟨l, xs, h1, h2, h3, h4⟩
def Sl.put (s : Sl) (ds : List D) : Sl := match s with
 | .own _ => .own ds
 | .par _ => .par ds
 | s => s
theorem zaE (q : s.items = some ds) : OwS K G H ov a s ↔ ov = some (some (.ref a)) := by
 cases s with
 | own _ => exact Iff.rfl
 | par _ => exact Iff.rfl
 | _ => cases q
theorem zds (q : s.items = some ds) (es : List D) : (s.put es).items = some es := by
 cases s with
 | own _ => rfl
 | par _ => rfl
 | _ => cases q
theorem zhS {α : Type} {l : List α} {x : α} (e : l[i]? = some x) : l.set i x = l := by
 obtain ⟨h, rfl⟩ := List.getElem?_eq_some_iff.mp e
 exact List.set_getElem_self h
theorem SI.chgW (I : SI K B G H σ ρ) {i : Nat} (e : ρ[i]? = some s) (q : s.items = some ds) (hl : σ[i]? = some (some (.ref l))) (fz : Fz G' H') (fg : Fz G G') (nw : ∀ b o, G' b = some o -> G b ≠ none \/ H b = none)
  (kp : ∀ b o, b ≠ l -> H b = some o -> H' b = some o) (gl : G' l = none) (hl' : H' l = some (.lst ys)) (r : RepL K G' ys es) : SI K B G' H' σ (ρ.set i (s.put es)) := by
 obtain ⟨l', xs, e1, e2, e3, e4⟩ := I.wr e q
 rw [hl] at e1; cases e1
 have sl := I.slot i s e
 have nb : ∀ b o, B.H b = some o -> (∀ i, (i, b) ∉ B.O) -> b ≠ l := fun b o h1 h2 z => by
  subst z
  rcases (sl.own ((zaE q).mpr hl)).2.2 with z | z
  ·rw [h1] at z; cases z
  ·exact h2 i z
 have h := I.chg (i := i) (ov := some (.ref l)) (s' := s.put es) (G' := G') (H' := H') fz fg (fun b o k => ?_) (fun b o k1 k2 => kp b o (nb b o k1 k2) (I.keep b o k1 k2)) (fun b k => ?_) (fun j t a z ej w g ha => ?_) ?_
 ·rwa [zhS hl] at h
 ·rcases nw b o k with h | h
  ·cases q2 : G b with
   | none => exact absurd q2 h
   | some u => exact I.new b u q2
  ·exact .inr (I.there b h)
 ·refine I.there b ?_
  cases q2 : H b with
  | none => rfl
  | some u =>
   by_cases z : b = l
   ·subst z; rw [hl'] at k; cases k
   ·rw [kp b u z q2] at k; cases k
 ·have na : a ≠ l := fun w' => by subst w'; exact I.dis j i t s a z ej e w ((zaE q).mpr hl)
  obtain ⟨u, hu⟩ := Option.ne_none_iff_exists'.mp ha
  refine ⟨?_, (kp a u na hu).trans hu.symm, fun z => na ?_⟩
  ·cases q2 : G' a with
   | none => rfl
   | some u =>
    rcases nw a u q2 with z | z
    ·exact absurd g z
    ·exact absurd z ha
  ·cases (zaE (zds q es)).mp z; rfl
 ·cases s with
  | own es' => obtain ⟨l', xs', k1, k2, k3, k4, k5⟩ := sl; rw [hl] at k1; cases k1; exact ⟨_, ys, rfl, gl, hl', r, k5⟩
  | par es' => obtain ⟨l', xs', k1, k2, k3, k4, k5⟩ := sl; rw [hl] at k1; cases k1; exact ⟨_, ys, rfl, gl, hl', r, k5⟩
  | _ => cases q
theorem SI.write (I : SI K B G H σ ρ) (e : ρ[i]? = some s) (q : s.items = some ds) (hl : σ[i]? = some (some (.ref l))) (h : RepL K G ys es) :
  SI K B G (upd H l (.lst ys)) σ (ρ.set i (s.put es)) := by
 obtain ⟨l', xs, e1, e2, e3, e4⟩ := I.wr e q
 rw [hl] at e1; cases e1
 exact I.chgW e q hl (I.fz.right e2 _) (Fz.refl G) (fun b o k => .inl (by rw [k]; simp)) (fun b o z k => by rw [zap z]; exact k) e2 zas h
theorem SI.freeze (I : SI K B G H σ ρ) {i : Nat} (e : ρ[i]? = some (.own ds)) : ∃ l xs, σ[i]? = some (some (.ref l)) /\ Fz G (upd G l (.lst xs)) /\ RepD K (upd G l (.lst xs)) (.ref l) (.lst ds) /\
  SI K B (upd G l (.lst xs)) H σ (ρ.set i (.val (.lst ds))) := by
 obtain ⟨l, xs, h1, h2, h3, h4, h5⟩ := I.slot i _ e
 have fz := Fz.new h2 (.lst xs)
 have rep : RepD K (upd G l (.lst xs)) (.ref l) (.lst ds) := ⟨l, xs, rfl, zas, h4.mono fz⟩
 refine ⟨l, xs, h1, fz, rep, ?_⟩
 have h := I.chg (i := i) (ov := some (.ref l)) (s' := .val (.lst ds)) (G' := upd G l (.lst xs)) (H' := H) (fun a u q => ?_) fz (fun b u q => ?_) I.keep I.there (fun j t a z ej w g _ => ⟨?_, rfl, id⟩) ⟨.ref l, rfl, rep⟩
 ·rwa [zhS h1] at h
 ·by_cases z : a = l
  ·subst z; rw [zas] at q; cases q; exact h3
  ·rw [zap z] at q; exact I.fz a u q
 ·by_cases z : b = l
  ·subst z; exact .inr h5
  ·rw [zap z] at q; exact I.new b u q
 ·rw [zap (fun q => by subst q; exact I.dis j i t _ a z ej e w h1)]; exact g
end
abbrev ME := R -> Option (D × R)
abbrev MO := R -> Option (List D × R)
abbrev MT := R -> Option (Bool × R)
abbrev MA := R -> Option (List D × R)
def SE (X : Cx) (e : Expr) (m : ME) : Prop :=
 ∃ t, PE X e t /\ ∀ B G H σ ρ d ρ' (Q : VK), SI X.K B G H σ ρ -> m ρ = some (d, ρ') -> (∀ G' H' v, SI X.K B G' H' σ ρ' -> Fz G G' -> RepD X.K G' v d -> Q v H') -> t σ H Q
def SO (X : Cx) (e : Expr) (m : MO) : Prop :=
 ∃ t, PE X e t /\ ∀ B G H σ ρ ds ρ' (Q : VK), SI X.K B G H σ ρ -> m ρ = some (ds, ρ') ->
  (∀ G' H' l xs, SI X.K B G' H' σ ρ' -> Fz G G' -> G' l = none -> H' l = some (.lst xs) -> RepL X.K G' xs ds -> B.H l = none -> Nw X.K G' H' σ ρ' l -> Q (.ref l) H') -> t σ H Q
def STt (X : Cx) (e : Expr) (m : MT) : Prop :=
 ∃ t, PT X e t /\ ∀ B G H σ ρ d ρ' (Q : Bool -> Hp -> Prop), SI X.K B G H σ ρ -> m ρ = some (d, ρ') -> (∀ G' H', SI X.K B G' H' σ ρ' -> Fz G G' -> Q d H') -> t σ H Q
def SA (X : Cx) (es : List Expr) (m : MA) : Prop :=
 ∃ t, PA X es t /\ ∀ B G H σ ρ ds ρ' (Q : List V -> Hp -> Prop), SI X.K B G H σ ρ -> m ρ = some (ds, ρ') -> (∀ G' H' vs, SI X.K B G' H' σ ρ' -> Fz G G' -> RepL X.K G' vs ds -> Q vs H') -> t σ H Q
theorem zhT {B : Bs} {σ : St} (I : SI K B G H σ ρ) (hg : G l = none) (hl : H l = some (.lst xs)) (h : RepL K G xs ds) (hB : B.H l = none) (hn : Nw K G H σ ρ l) :
  SI K B (upd G l (.lst xs)) H σ ρ /\ Fz G (upd G l (.lst xs)) /\ RepD K (upd G l (.lst xs)) (.ref l) (.lst ds) :=
 ⟨I.frz hl hB hn hg, Fz.new hg _, ⟨l, xs, rfl, zas, h.mono (Fz.new hg _)⟩⟩
def eFz (m : MO) : ME := fun ρ => (m ρ).map fun p => (.lst p.1, p.2)
theorem SO.se {X : Cx} {m : MO} (h : SO X e m) : SE X e (eFz m) := by
 obtain ⟨t, p, s⟩ := h
 refine ⟨t, p, fun B G H σ ρ d ρ' Q I hm k => ?_⟩
 unfold eFz at hm
 cases q : m ρ with
 | none => rw [q] at hm; cases hm
 | some r =>
  obtain ⟨ds, ρ1⟩ := r
  rw [q] at hm
  cases hm
  refine s B G H σ ρ ds _ Q I q fun G' H' l xs I' fz hg hl hr hB hn => ?_
  obtain ⟨I2, f2, r2⟩ := zhT I' hg hl hr hB hn
  exact k _ _ _ I2 (fz.trans f2) r2
def eC (d : D) : ME := fun ρ => some (d, ρ)
def eVar (i : Nat) : ME := fun ρ => match ρ[i]? with
 | some (.val d) => some (d, ρ)
 | some (.own ds) => some (.lst ds, ρ.set i (.val (.lst ds)))
 | _ => none
section
variable {X : Cx} {pos : Pos}
theorem zab (i : Nat) {x : Str} (hN : X.N[i]? = some x := by rfl) (hv : Vis X.env.scope x := by first | exact Or.inl rfl | exact Or.inr (Or.inl rfl) | exact Or.inr (Or.inr rfl)) (hd : (x == ("__debug__" : Str)) = false := by decide)
  (hcd : (x == ("__classdict__" : Str)) = false := by decide) : SE X (.Name x pos) (eVar i) := by
 refine ⟨_, zbj hN hv hd hcd, fun B G H σ ρ d ρ' Q I hm k => ?_⟩
 unfold eVar at hm
 cases e : ρ[i]? with
 | none => rw [e] at hm; cases hm
 | some s =>
  rw [e] at hm
  cases s with
  | emp => cases hm
  | two _ _ => cases hm
  | tre _ => cases hm
  | ptr _ => cases hm
  | par ds => cases hm
  | val d' =>
   cases hm
   obtain ⟨v, h1, h2⟩ := I.slot i _ e
   exact ⟨v, h1, k G H v I (Fz.refl G) h2⟩
  | own ds =>
   cases hm
   obtain ⟨l, xs, h1, f, r, I'⟩ := I.freeze e
   exact ⟨.ref l, h1, k _ H _ I' f r⟩
theorem zah {i : Int} {j} : SE X (.Constant (.int i) j pos) (eC (.int i)) := ⟨_, zlU, fun B G H σ ρ d ρ' Q I hm k => by cases hm; exact k G H _ I (Fz.refl G) rfl⟩
theorem zhC {j} : SE X (.Constant (.bool b) j pos) (eC (.bl b)) := ⟨_, pe_bl, fun B G H σ ρ d ρ' Q I hm k => by cases hm; exact k G H _ I (Fz.refl G) rfl⟩
theorem zg5 {j} : SE X (.Constant .none j pos) (eC .non) := ⟨_, pe_non, fun B G H σ ρ d ρ' Q I hm k => by cases hm; exact k G H _ I (Fz.refl G) rfl⟩
theorem zlD {x : Str} {j} : SE X (.Constant (.str x) j pos) (eC (.str x)) := ⟨_, pe_str, fun B G H σ ρ d ρ' Q I hm k => by cases hm; exact k G H _ I (Fz.refl G) rfl⟩
end
def aNil : MA := fun ρ => some ([], ρ)
def zag (m : ME) (r : MA) : MA := fun ρ => (m ρ).bind fun p => (r p.2).map fun q => (p.1 :: q.1, q.2)
section
variable {X : Cx} {e : Expr} {es : List Expr} {m : ME} {r : MA}
theorem zaf : SA X [] aNil := ⟨_, zdA, fun B G H σ ρ ds ρ' Q I hm k => by cases hm; exact k G H [] I (Fz.refl G) .nil⟩
theorem zaa (h : SE X e m) (hr : SA X es r) (hs : starEach (e :: es) X.env = (false, eval e X.env) :: starEach es X.env := by rfl) : SA X (e :: es) (zag m r) := by
 obtain ⟨t, p, s⟩ := h
 obtain ⟨u, q, z⟩ := hr
 refine ⟨_, zbi p q hs, fun B G H σ ρ ds ρ' Q I hm k => ?_⟩
 unfold zag at hm
 cases e1 : m ρ with
 | none => rw [e1] at hm; cases hm
 | some a =>
  obtain ⟨d, ρ1⟩ := a
  rw [e1] at hm
  cases e2 : r ρ1 with
  | none => simp [e2] at hm
  | some b =>
   obtain ⟨es', ρ2⟩ := b
   simp only [Option.bind_some, e2, Option.map_some, Option.some.injEq, Prod.mk.injEq] at hm
   obtain ⟨rfl, rfl⟩ := hm
   exact s B G H σ ρ d ρ1 _ I e1 fun G1 H1 v I1 f1 r1 => z B G1 H1 σ ρ1 es' ρ2 _ I1 e2 fun G2 H2 vs I2 f2 r2 => k G2 H2 (v :: vs) I2 (f1.trans f2) (.cons (r1.mono f2) r2)
end
def V2 (X : Cx) (r : R2) (f : D -> D -> Option D) : Prop := ∀ B G H σ ρ x y a b d (Q : VK), SI X.K B G H σ ρ -> RepD X.K G x a -> RepD X.K G y b -> f a b = some d -> (∀ G' H' v, SI X.K B G' H' σ ρ -> Fz G G' -> RepD X.K G' v d -> Q v H') -> r x y H Q
def V1 (X : Cx) (r : V -> Hp -> VK -> Prop) (f : D -> Option D) : Prop := ∀ B G H σ ρ x a d (Q : VK), SI X.K B G H σ ρ -> RepD X.K G x a -> f a = some d -> (∀ G' H' v, SI X.K B G' H' σ ρ -> Fz G G' -> RepD X.K G' v d -> Q v H') -> r x H Q
def VC (X : Cx) (r : List V -> Hp -> VK -> Prop) (f : List D -> Option D) : Prop := ∀ B G H σ ρ xs ds d (Q : VK), SI X.K B G H σ ρ -> RepL X.K G xs ds -> f ds = some d -> (∀ G' H' v, SI X.K B G' H' σ ρ -> Fz G G' -> RepD X.K G' v d -> Q v H') -> r xs H Q
def m2 (f : D -> D -> Option D) (ma mb : ME) : ME := fun ρ => (ma ρ).bind fun p => (mb p.2).bind fun q => (f p.1 q.1).map fun d => (d, q.2)
def m1 (f : D -> Option D) (ma : ME) : ME := fun ρ => (ma ρ).bind fun p => (f p.1).map fun d => (d, p.2)
def mC (f : List D -> Option D) (ma : MA) : ME := fun ρ => (ma ρ).bind fun p => (f p.1).map fun d => (d, p.2)
theorem m2_inv {ma mb : ME} (h : m2 f ma mb ρ = some (d, ρ')) : ∃ a ρ1 b, ma ρ = some (a, ρ1) /\ mb ρ1 = some (b, ρ') /\ f a b = some d := by
 unfold m2 at h
 cases e1 : ma ρ with
 | none => rw [e1] at h; cases h
 | some p =>
  obtain ⟨a, ρ1⟩ := p
  rw [e1] at h
  cases e2 : mb ρ1 with
  | none => simp [e2] at h
  | some q =>
   obtain ⟨b, ρ2⟩ := q
   simp only [Option.bind_some, e2] at h
   cases e3 : f a b with
   | none => rw [e3] at h; cases h
   | some c => rw [e3] at h; cases h; exact ⟨a, ρ1, b, rfl, e2, e3⟩
theorem m1_inv {f : D -> Option D} (h : m1 f ma ρ = some (d, ρ')) : ∃ a, ma ρ = some (a, ρ') /\ f a = some d := by
 unfold m1 at h
 cases e1 : ma ρ with
 | none => rw [e1] at h; cases h
 | some p =>
  obtain ⟨a, ρ1⟩ := p
  rw [e1] at h
  simp only [Option.bind_some] at h
  cases e3 : f a with
  | none => rw [e3] at h; cases h
  | some c => rw [e3] at h; cases h; exact ⟨a, rfl, e3⟩
theorem mC_inv {f : List D -> Option D} {ma : MA} (h : mC f ma ρ = some (d, ρ')) : ∃ a, ma ρ = some (a, ρ') /\ f a = some d := by
 unfold mC at h
 cases e1 : ma ρ with
 | none => rw [e1] at h; cases h
 | some p =>
  obtain ⟨a, ρ1⟩ := p
  rw [e1] at h
  simp only [Option.bind_some] at h
  cases e3 : f a with
  | none => rw [e3] at h; cases h
  | some c => rw [e3] at h; cases h; exact ⟨a, rfl, e3⟩
section
variable {X : Cx} {a b : Expr} {ma mb : ME} {pos : Pos} {f : D -> D -> Option D}
theorem zkC {r : R2} {ta tb : TE} (hv : V2 X r f)
  (sa : ∀ B G H σ ρ d ρ' (Q : VK), SI X.K B G H σ ρ -> ma ρ = some (d, ρ') -> (∀ G' H' v, SI X.K B G' H' σ ρ' -> Fz G G' -> RepD X.K G' v d -> Q v H') -> ta σ H Q)
  (sb : ∀ B G H σ ρ d ρ' (Q : VK), SI X.K B G H σ ρ -> mb ρ = some (d, ρ') -> (∀ G' H' v, SI X.K B G' H' σ ρ' -> Fz G G' -> RepD X.K G' v d -> Q v H') -> tb σ H Q) :
  ∀ B G H σ ρ d ρ' (Q : VK), SI X.K B G H σ ρ -> m2 f ma mb ρ = some (d, ρ') -> (∀ G' H' v, SI X.K B G' H' σ ρ' -> Fz G G' -> RepD X.K G' v d -> Q v H') -> tOp r ta tb σ H Q := by
 intro B G H σ ρ d ρ' Q I hm k
 obtain ⟨x, ρ1, y, e1, e2, e3⟩ := m2_inv hm
 exact sa B G H σ ρ x ρ1 _ I e1 fun G1 H1 v I1 f1 r1 => sb B G1 H1 σ ρ1 y ρ' _ I1 e2 fun G2 H2 u I2 f2 r2 =>
  hv B G2 H2 σ ρ' v u x y d Q I2 (r1.mono f2) r2 e3 fun G3 H3 z I3 f3 r3 => k G3 H3 z I3 (f1.trans (f2.trans f3)) r3
theorem zk4 {r : R2} (ho : OpR X (binaryOp op) r) (hv : V2 X r f) (ha : SE X a ma) (hb : SE X b mb) : SE X (.BinOp a op b pos) (m2 f ma mb) := by
 obtain ⟨ta, pa, sa⟩ := ha
 obtain ⟨tb, pb, sb⟩ := hb
 exact ⟨_, pe_op ho pa pb, zkC hv sa sb⟩
theorem se_cmp {op : CmpOp} {r : R2} (ho : OpR X (compareOp op) r) (hv : V2 X r f) (ha : SE X a ma) (hb : SE X b mb) (hm : behindInMarks op b = false) : SE X (.Compare a [op] [b] pos) (m2 f ma mb) := by
 obtain ⟨ta, pa, sa⟩ := ha
 obtain ⟨tb, pb, sb⟩ := hb
 exact ⟨_, pe_cmpR ho pa pb hm, zkC hv sa sb⟩
theorem se_un {op : UnaryOp} (ho : UnR X (unaryOp op) r) (hv : V1 X r g) (ha : SE X a ma) : SE X (.UnaryOp op a pos) (m1 g ma) := by
 obtain ⟨ta, pa, sa⟩ := ha
 refine ⟨_, pe_un ho pa, fun B G H σ ρ d ρ' Q I hm k => ?_⟩
 obtain ⟨x, e1, e2⟩ := m1_inv hm
 exact sa B G H σ ρ x ρ' _ I e1 fun G1 H1 v I1 f1 r1 => hv B G1 H1 σ ρ' v x d Q I1 r1 e2 fun G2 H2 z I2 f2 r2 => k G2 H2 z I2 (f1.trans f2) r2
theorem se_ix {r : R2} (hr : IxR X r) (hv : V2 X r f) (ha : SE X a ma) (hb : SE X b mb) (hs : zb7 b) : SE X (.Subscript a b pos) (m2 f ma mb) := by
 obtain ⟨ta, pa, sa⟩ := ha
 obtain ⟨tb, pb, sb⟩ := hb
 exact ⟨_, zil hr pa pb hs, zkC hv sa sb⟩
end
section
variable {X : Cx} {x : Str} {p pos : Pos} {e : Expr} {es : List Expr} {ma : MA} {id T : String} {r : List V -> Hp -> VK -> Prop} {f : List D -> Option D}
theorem soundC {t : TA} (hv : VC X r f) (sa : ∀ B G H σ ρ ds ρ' (Q : List V -> Hp -> Prop), SI X.K B G H σ ρ -> ma ρ = some (ds, ρ') -> (∀ G' H' vs, SI X.K B G' H' σ ρ' -> Fz G G' -> RepL X.K G' vs ds -> Q vs H') -> t σ H Q) :
  ∀ B G H σ ρ d ρ' (Q : VK), SI X.K B G H σ ρ -> mC f ma ρ = some (d, ρ') -> (∀ G' H' v, SI X.K B G' H' σ ρ' -> Fz G G' -> RepD X.K G' v d -> Q v H') -> tCB r t σ H Q := by
 intro B G H σ ρ d ρ' Q I hm k
 obtain ⟨ds, e1, e2⟩ := mC_inv hm
 exact sa B G H σ ρ ds ρ' _ I e1 fun G1 H1 vs I1 f1 r1 => hv B G1 H1 σ ρ' vs ds d Q I1 r1 e2 fun G2 H2 z I2 f2 r2 => k G2 H2 z I2 (f1.trans f2) r2
theorem zdU (hc : zfn X (.builtin id) r) (hv : VC X r f) (hb : bootBuiltins x = some (.builtin id)) (hm : X.mg x = none) (ha : SA X (e :: es) ma) (hg : Gl X x := by rfl) (hn : x ≠ "__name__" := by decide) (hdb : (x == ("__debug__" : Str)) = false := by decide)
  (he : starEach (e :: es) X.env = (false, eval e X.env) :: starEach es X.env := by rfl) (hpl : (backTo pos (starEach es X.env)).any (·.1) = false := by rfl) : SE X (.Call (.Name x p) (e :: es) [] pos) (mC f ma) := by
 obtain ⟨t, pa, sa⟩ := ha
 exact ⟨_, zf6 hc hg hm hb pa hn hdb he hpl, soundC hv sa⟩
theorem zlv (hc : zfn X (.type T) r) (hv : VC X r f) (hb : bootBuiltins x = some (.type T)) (hm : X.mg x = none) (ha : SA X (e :: es) ma) (hg : Gl X x := by rfl) (hn : x ≠ "__name__" := by decide) (hdb : (x == ("__debug__" : Str)) = false := by decide)
  (he : starEach (e :: es) X.env = (false, eval e X.env) :: starEach es X.env := by rfl) (hpl : (backTo pos (starEach es X.env)).any (·.1) = false := by rfl) : SE X (.Call (.Name x p) (e :: es) [] pos) (mC f ma) := by
 obtain ⟨t, pa, sa⟩ := ha
 exact ⟨_, zf0 hc hg hm hb pa hn hdb he hpl, soundC hv sa⟩
end
end M
namespace M
open L2 PySem PySem.Spec
open PyProof.Rows hiding St
variable {v : V} {ds cs out : List D} {p c l : Addr} {xs vs ys : List V} {X : Cx} {C : Int -> Int -> Prop} {g : D -> R -> Option R} {a b e : Expr} {ma : MA} {pos pos' : Pos} {k i j n t : Nat} {mb : ME} {K : W.Frag} {G H H' G' : Hp} {us its : List Value} {u : Value} {d : D} {B : Bs} {σ σc : St} {ρ ρ' : R} {s : Sl} {x qual : Str} {Q E : Value -> Shared -> Prop} {f : D -> D -> Option D} {op op' : CmpOp} {m : MS} {mc : MT} {es ifs : List Expr} {h : List D -> R -> Option R} {body : List Stmt} {N ps : List Str} {fd : FuncData} {env : Env} {scope : Scope} {A : Around} {cl : List (Str × Addr)} {h' : Heap} {prog : Program} {w : World} {use : Option (Value -> Sem Unit)} {ov : Option (Option V)} {cap : List Nat} {wi : TI} {tg' : Addr -> Shared -> Hp -> List Addr -> TG} {tt : Addr -> Shared -> Hp -> List Addr -> TT} {te : Addr -> Shared -> Hp -> List Addr -> TE} {ns : List Int}
section
variable {X : Cx} {K : W.Frag} {B : Bs} {G H : Hp} {σ : St} {ρ : R}
theorem SI.lst (I : SI K B G H σ ρ) (h : RepD K G v (.lst ds)) : ∃ a xs, v = .ref a /\ H a = some (.lst xs) /\ RepL K G xs ds := by
 obtain ⟨a, xs, e, q, r⟩ := h
 exact ⟨a, xs, e, I.fz a _ q, r⟩
theorem SI.tup (I : SI K B G H σ ρ) (h : RepD K G v (.tup ds)) : ∃ a xs, v = .ref a /\ H a = some (.tup xs) /\ RepL K G xs ds := by
 obtain ⟨a, xs, e, q, r⟩ := h
 exact ⟨a, xs, e, I.fz a _ q, r⟩
theorem SI.newT (I : SI K B G H σ ρ) (hp : H p = none) (h : RepL K G xs ds) : SI K B (upd G p (.tup xs)) (upd H p (.tup xs)) σ ρ /\ Fz G (upd G p (.tup xs)) /\ RepD K (upd G p (.tup xs)) (.ref p) (.tup ds) :=
 ⟨I.allocF hp _, Fz.new (I.fz.free hp) _, ⟨p, xs, rfl, zas, h.mono (Fz.new (I.fz.free hp) _)⟩⟩
theorem SI.newL (I : SI K B G H σ ρ) (hp : H p = none) (h : RepL K G xs ds) : SI K B (upd G p (.lst xs)) (upd H p (.lst xs)) σ ρ /\ Fz G (upd G p (.lst xs)) /\ RepD K (upd G p (.lst xs)) (.ref p) (.lst ds) :=
 ⟨I.allocF hp _, Fz.new (I.fz.free hp) _, ⟨p, xs, rfl, zas, h.mono (Fz.new (I.fz.free hp) _)⟩⟩
end
def dI2 (c : Int -> Int -> Bool) (g : Int -> Int -> D) : D -> D -> Option D
 | .int i, .int j => if c i j then some (g i j) else none
 | _, _ => none
theorem zmc {c : Int -> Int -> Bool} {g : Int -> Int -> Int} (hc : ∀ i j, c i j = true -> C i j) : V2 X (rI C fun i j => .int (g i j)) (dI2 c fun i j => .int (g i j)) := by
 intro B G H σ ρ x y a b d Q I ra rb hf k
 cases a <;> cases b <;> simp only [dI2] at hf <;> try cases hf
 rename_i i j
 split at hf
 ·rename_i h
  cases hf
  exact ⟨i, j, ra, rb, hc i j h, k G H _ I (Fz.refl G) rfl⟩
 ·cases hf
theorem v2_int0 {g : Int -> Int -> Int} : V2 X (rI0 fun i j => .int (g i j)) (dI2 (fun _ _ => true) fun i j => .int (g i j)) := by
 intro B G H σ ρ x y a b d Q I ra rb hf k
 cases a <;> cases b <;> simp only [dI2] at hf <;> try cases hf
 rename_i i j
 exact ⟨i, j, ra, rb, k G H _ I (Fz.refl G) rfl⟩
theorem zfJ {g : Int -> Int -> Bool} : V2 X (rI0 fun i j => .bl (g i j)) (dI2 (fun _ _ => true) fun i j => .bl (g i j)) := by
 intro B G H σ ρ x y a b d Q I ra rb hf k
 cases a <;> cases b <;> simp only [dI2] at hf <;> try cases hf
 rename_i i j
 exact ⟨i, j, ra, rb, k G H _ I (Fz.refl G) rfl⟩
def dSub : D -> D -> Option D := dI2 (fun _ _ => true) fun i j => .int (i - j)
def divOk (j : Int) : Bool := decide (0 < j) && decide (j.natAbs.log2 < 9000)
theorem op_fdivW : OpR X (binaryOp .FloorDiv) (rI (fun _ j => 0 < j /\ j.natAbs.log2 < 9000) fun i j => .int (i / j)) := opI fun i j _ _ _ _ _ hc q => by
 have h1 : (0 : Int) < j := hc.1
 exact PyProof.Rows.floordiv_int (by omega) (by rw [Int.fdiv_eq_ediv_of_nonneg i (by omega)]; exact q) (.inl (PyProof.noPylong_of_log2 hc.2))
def dDiv : D -> D -> Option D := dI2 (fun _ j => divOk j) fun i j => .int (i / j)
def dMod : D -> D -> Option D := dI2 (fun _ j => decide (0 < j)) fun i j => .int (i % j)
def dPow : D -> D -> Option D := dI2 (fun i j => decide (0 <= j) && decide (j <= 1000000) && decide (i.natAbs < 2 ^ 64)) fun i j => .int (i ^ j.toNat)
def dLt : D -> D -> Option D := dI2 (fun _ _ => true) fun i j => .bl (decide (i < j))
def dLe : D -> D -> Option D := dI2 (fun _ _ => true) fun i j => .bl (decide (i <= j))
def dGt : D -> D -> Option D := dI2 (fun _ _ => true) fun i j => .bl (decide (j < i))
def dGe : D -> D -> Option D := dI2 (fun _ _ => true) fun i j => .bl (decide (j <= i))
section
variable {X : Cx} {a b : Expr} {ma mb : ME} {pos : Pos}
theorem za3 (ha : SE X a ma) (hb : SE X b mb) : SE X (.BinOp a .Sub b pos) (m2 dSub ma mb) := zk4 op_sub v2_int0 ha hb
theorem se_div (ha : SE X a ma) (hb : SE X b mb) : SE X (.BinOp a .FloorDiv b pos) (m2 dDiv ma mb) := zk4 op_fdivW (zmc fun i j h => by simpa [divOk] using h) ha hb
theorem zgK (ha : SE X a ma) (hb : SE X b mb) : SE X (.BinOp a .Mod b pos) (m2 dMod ma mb) := zk4 op_mod (zmc fun i j h => by simpa using h) ha hb
theorem zgM (ha : SE X a ma) (hb : SE X b mb) : SE X (.BinOp a .Pow b pos) (m2 dPow ma mb) := zk4 op_pow (zmc fun i j h => by simp only [Bool.and_eq_true, decide_eq_true_eq] at h; exact ⟨h.1.1, h.1.2, h.2⟩) ha hb
theorem se_ge (ha : SE X a ma) (hb : SE X b mb) : SE X (.Compare a [.GtE] [b] pos) (m2 dGe ma mb) := se_cmp op_ge zfJ ha hb (zhb _)
end
def dNeg : D -> Option D
 | .int i => some (.int (-i))
 | _ => none
theorem zgP {ma : ME} (ha : SE X a ma) : SE X (.UnaryOp .USub a pos) (m1 dNeg ma) :=
 se_un un_neg (fun B G H σ ρ x a d Q I ra hf k => by
  cases a <;> simp only [dNeg] at hf <;> try cases hf
  exact ⟨_, ra, k G H _ I (Fz.refl G) rfl⟩) ha
def zh5 (i j : Int) : Bool := (decide (i.natAbs < 2 ^ 64) || decide (j.natAbs < 2 ^ 64)) || (decide (i.natAbs < 2 ^ 4000) && decide (j.natAbs < 2 ^ 4000))
def dMul : D -> D -> Option D
 | .int i, .int j => if zh5 i j then some (.int (i * j)) else none
 | .lst ds, .int k => if decide (-1000000 <= k) && decide (k <= 1000000) && decide (ds.length * k.toNat <= 1000000) then some (.lst (List.replicate k.toNat ds).flatten) else none
 | _, _ => none
theorem zhR {k : Int} (h : k.natAbs < 2 ^ 4000) : Builtin.Int.intBits k <= 4000 := by
 unfold Builtin.Int.intBits
 split
 ·exact Nat.zero_le _
 ·have : k.natAbs.log2 < 4000 := by
   rcases Nat.eq_zero_or_pos k.natAbs with h0 | hp
   ·rw [h0]; decide
   ·exact (Nat.log2_lt (Nat.ne_of_gt hp)).mpr h
  omega
theorem mulOk_ok {i j : Int} (h : zh5 i j = true) : IntMulOk i j := by
 unfold zh5 at h
 simp only [Bool.or_eq_true, Bool.and_eq_true, decide_eq_true_eq] at h
 rcases h with (h | h) | ⟨h1, h2⟩
 ·exact .of_left (intBits_le_64 (by omega) (by omega))
 ·exact .of_right (intBits_le_64 (by omega) (by omega))
 ·have b1 := zhR h1
  have b2 := zhR h2
  unfold IntMulOk
  intro z
  simp only [Bool.and_eq_true] at z
  have z2 := z.2
  unfold Builtin.Int.intTooBig at z2
  revert z2
  generalize Builtin.Int.intBits i = p at *
  generalize Builtin.Int.intBits j = q at *
  intro z2
  have z3 := of_decide_eq_true z2
  have hb := bitsLine_eq
  omega
theorem op_mulG : OpR X (binaryOp .Mult) (rI IntMulOk fun i j => .int (i * j)) := opI fun _ _ _ _ _ _ _ hc q => mul_int q hc
theorem zbz {ma mb : ME} (ha : SE X a ma) (hb : SE X b mb) : SE X (.BinOp a .Mult b pos) (m2 dMul ma mb) := by
 refine zk4 (op_mulG.or op_rep) (fun B G H σ ρ x y a b d Q I ra rb hf k => ?_) ha hb
 cases a <;> cases b <;> simp only [dMul] at hf <;> try cases hf
 ·rename_i i j
  split at hf
  ·rename_i h
   cases hf
   exact .inl ⟨i, j, ra, rb, mulOk_ok h, k G H _ I (Fz.refl G) rfl⟩
  ·cases hf
 ·rename_i ds j
  split at hf
  ·rename_i h
   cases hf
   simp only [Bool.and_eq_true, decide_eq_true_eq] at h
   obtain ⟨a, xs, rfl, ha, r⟩ := I.lst ra
   have hl := r.length
   refine .inr ⟨a, j, xs, rfl, rb, ha, by omega, by omega, by rw [hl, sizeLine_eq]; omega, fun p hp => ?_⟩
   obtain ⟨I2, f2, r2⟩ := I.newL hp (r.rep j.toNat)
   exact k _ _ _ I2 f2 r2
  ·cases hf
def dAdd : D -> D -> Option D
 | .int i, .int j => some (.int (i + j))
 | .tup a, .tup b => if a.length + b.length <= 16777216 then some (.tup (a ++ b)) else none
 | .lst a, .lst b => if a.length + b.length <= 16777216 then some (.lst (a ++ b)) else none
 | .str a, .str b => if a.length + b.length <= 16777216 then some (.str (a ++ b)) else none
 | _, _ => none
theorem op_catT0 : OpR X (binaryOp .Add) (fun x y H Q => ∃ a b ys, x = .ref a /\ y = .ref b /\ SqT X.K H a [] /\ SqT X.K H b ys /\ Q (.ref b) H) := by
 intro pins s σ H x y v u Q I rx ry h
 obtain ⟨a, b, ys, rfl, rfl, ha, hb, q⟩ := h
 cases rx
 cases ry
 obtain ⟨its, r1, p1, _⟩ := I.tuple ha
 obtain ⟨its2, r2, p2, _⟩ := I.tuple hb
 obtain rfl : its = [] := by cases r1; rfl
 obtain ⟨⟨cls, dd, data, sl⟩, ho, hc, n, hd⟩ := id p1
 obtain ⟨⟨cls2, dd2, data2, sl2⟩, ho2, hc2, n2, hd2⟩ := id p2
 simp only at hc hd hc2 hd2
 subst hc hd hc2 hd2
 exact concat_meets ⟨_, ho, rfl⟩ ⟨_, ho2, rfl⟩ noFill_tuple_add seq_tuple_add PySem.F.slot_tuple_add PySem.F.entry_tuple_add (PySem.F.args_tuple_add_2 _ _)
   (tuple_addW0 a b _ _ n n2 dd dd2 sl sl2 (by simp)) ⟨ho, ho2, ⟨.ref b, H, I, rfl, q⟩⟩
theorem zaK {ma mb : ME} (ha : SE X a ma) (hb : SE X b mb) : SE X (.BinOp a .Add b pos) (m2 dAdd ma mb) := by
 refine zk4 (op_add.or (op_catT.or (op_catT0.or (op_cat.or zk3)))) (fun B G H σ ρ x y a b d Q I ra rb hf k => ?_) ha hb
 cases a <;> cases b <;> simp only [dAdd] at hf <;> try cases hf
 ·exact .inl ⟨_, _, ra, rb, k G H _ I (Fz.refl G) rfl⟩
 ·rename_i i j
  split at hf
  ·rename_i h
   cases hf
   exact .inr (.inr (.inr (.inr ⟨i, j, ra, rb, by rw [sizeLine_eq]; exact h, k G H _ I (Fz.refl G) rfl⟩)))
  ·cases hf
 ·rename_i as bs
  split at hf
  ·rename_i h
   cases hf
   obtain ⟨a, xs, rfl, ha, r⟩ := I.lst ra
   obtain ⟨b, ys, rfl, hb, r2⟩ := I.lst rb
   refine .inr (.inr (.inr (.inl ⟨a, b, xs, ys, rfl, rfl, ha, hb, by rw [r.length, r2.length, sizeLine_eq]; exact h, fun p hp => ?_⟩)))
   obtain ⟨I2, f2, r2⟩ := I.newL hp (r.append r2)
   exact k _ _ _ I2 f2 r2
  ·cases hf
 ·rename_i as bs
  split at hf
  ·rename_i h
   cases hf
   obtain ⟨a, xs, rfl, ha, r⟩ := I.tup ra
   obtain ⟨b, ys, rfl, hb, r2⟩ := I.tup rb
   by_cases z : xs = []
   ·subst z
    have z' : as = [] := List.eq_nil_of_length_eq_zero r.length.symm
    subst z'
    exact .inr (.inr (.inl ⟨a, b, ys, rfl, rfl, SqT.of ha, SqT.of hb, k G H _ I (Fz.refl G) rb⟩))
   ·refine .inr (.inl ⟨a, b, xs, ys, rfl, rfl, SqT.of ha, SqT.of hb, z, by rw [r.length, r2.length, sizeLine_eq]; exact h, fun w => ?_, fun w p hp => ?_⟩)
    ·subst w
     have w' : bs = [] := List.eq_nil_of_length_eq_zero r2.length.symm
     subst w'
     rw [List.append_nil] at k
     exact k G H _ I (Fz.refl G) ra
    ·obtain ⟨I2, f2, r2⟩ := I.newT hp (r.append r2)
     exact k _ _ _ I2 f2 r2
  ·cases hf
mutual
def noS : D -> Bool
 | .scr _ => false
 | .exc _ => false
 | .dic _ _ => false
 | .dit _ _ => false
 | .lst ds => noSL ds
 | .tup ds => noSL ds
 | _ => true
def noSL : List D -> Bool
 | [] => true
 | d :: ds => noS d && noSL ds
end
mutual
def eqB : D -> D -> Bool
 | .non, .non => true
 | .bl a, .bl b => a == b
 | .int a, .int b => a == b
 | .str a, .str b => a == b
 | .bl a, .int b => (if a then 1 else 0) == b
 | .int a, .bl b => a == (if b then 1 else 0)
 | .lst a, .lst b => eqBL a b
 | .tup a, .tup b => eqBL a b
 | _, _ => false
def eqBL : List D -> List D -> Bool
 | [], [] => true
 | a :: as, b :: bs => eqB a b && eqBL as bs
 | _, _ => false
end
theorem zf7 : ∀ {as bs : List D}, as.length ≠ bs.length -> eqBL as bs = false
 | [], [], h => absurd rfl h
 | [], _ :: _, _ => rfl
 | _ :: _, [], _ => rfl
 | a :: as, b :: bs, h => by
  have := zf7 (as := as) (bs := bs) (fun e => h (by simp [e]))
  simp [eqBL, this]
mutual
theorem zic : ∀ d, noS d = true -> eqB d d = true
 | .non, _ => rfl
 | .bl b, _ => by simp [eqB]
 | .int b, _ => by simp [eqB]
 | .str b, _ => by simp [eqB]
 | .lst ds, h => by simp only [noS] at h; simp only [eqB]; exact zhw ds h
 | .tup ds, h => by simp only [noS] at h; simp only [eqB]; exact zhw ds h
 | .scr _, h => by simp [noS] at h
 | .exc _, h => by simp [noS] at h
 | (.dic _ _), h => by simp [noS] at h
 | (.dit _ _), h => by simp [noS] at h
theorem zhw : ∀ ds, noSL ds = true -> eqBL ds ds = true
 | [], _ => rfl
 | d :: ds, h => by
  simp only [noSL, Bool.and_eq_true] at h
  simp only [eqBL, Bool.and_eq_true]
  exact ⟨zic d h.1, zhw ds h.2⟩
end
mutual
def depth : D -> Nat
 | .lst ds => zfx ds + 1
 | .tup ds => zfx ds + 1
 | _ => 0
def zfx : List D -> Nat
 | [] => 0
 | d :: ds => max (depth d) (zfx ds)
end
theorem zgC : ∀ {l : List D} {i : Nat} {d : D}, l[i]? = some d -> depth d <= zfx l
 | [], _, _, h => by simp at h
 | c :: l, 0, d, h => by simp at h; subst h; simp only [zfx]; omega
 | c :: l, i + 1, d, h => by
  have := zgC (l := l) (i := i) (d := d) (by simpa using h)
  simp only [zfx]; omega
theorem zf4 : ∀ {l : List D} {i : Nat} {d : D}, l[i]? = some d -> noSL l = true -> noS d = true
 | [], _, _, h, _ => by simp at h
 | c :: l, 0, d, h, z => by simp at h; subst h; simp only [noSL, Bool.and_eq_true] at z; exact z.1
 | c :: l, i + 1, d, h, z => by simp only [noSL, Bool.and_eq_true] at z; exact zf4 (l := l) (i := i) (by simpa using h) z.2
mutual
theorem RepD.inj : ∀ {a b : D} {x : V}, noS a = true -> noS b = true -> RepD K G x a -> RepD K G x b -> a = b
 | .non, b, x, _, nb, ra, rb => by
  cases (show x = V.non from ra)
  cases b <;> simp_all [RepD, noS]
 | .bl c, b, x, _, nb, ra, rb => by
  cases (show x = V.bl c from ra)
  cases b <;> simp_all [RepD, noS]
 | .int c, b, x, _, nb, ra, rb => by
  cases (show x = V.int c from ra)
  cases b <;> simp_all [RepD, noS]
 | .str c, b, x, _, nb, ra, rb => by
  cases (show x = V.str c from ra)
  cases b <;> simp_all [RepD, noS]
 | .lst ds, b, x, na, nb, ra, rb => by
  obtain ⟨p, xs, rfl, q, r⟩ := ra
  cases b with
  | lst es =>
   obtain ⟨p2, ys, e, q2, r2⟩ := rb
   cases e
   rw [q] at q2
   cases q2
   simp only [noS] at na nb
   rw [RepL.inj na nb r r2]
  | tup es =>
   obtain ⟨p2, ys, e, q2, r2⟩ := rb
   cases e
   rw [q] at q2
   cases q2
  | scr _ => simp [noS] at nb
  | exc _ => simp [noS] at nb
  | dic _ _ => simp [noS] at nb
  | dit _ _ => simp [noS] at nb
  | non => simp [RepD] at rb
  | bl _ => simp [RepD] at rb
  | int _ => simp [RepD] at rb
  | str _ => simp [RepD] at rb
 | .tup ds, b, x, na, nb, ra, rb => by
  obtain ⟨p, xs, rfl, q, r⟩ := ra
  cases b with
  | tup es =>
   obtain ⟨p2, ys, e, q2, r2⟩ := rb
   cases e
   rw [q] at q2
   cases q2
   simp only [noS] at na nb
   rw [RepL.inj na nb r r2]
  | lst es =>
   obtain ⟨p2, ys, e, q2, r2⟩ := rb
   cases e
   rw [q] at q2
   cases q2
  | scr _ => simp [noS] at nb
  | exc _ => simp [noS] at nb
  | dic _ _ => simp [noS] at nb
  | dit _ _ => simp [noS] at nb
  | non => simp [RepD] at rb
  | bl _ => simp [RepD] at rb
  | int _ => simp [RepD] at rb
  | str _ => simp [RepD] at rb
 | .scr _, _, _, na, _, _, _ => by simp [noS] at na
 | .exc _, _, _, na, _, _, _ => by simp [noS] at na
 | (.dic _ _), _, _, na, _, _, _ => by simp [noS] at na
 | (.dit _ _), _, _, na, _, _, _ => by simp [noS] at na
theorem RepL.inj : ∀ {as bs : List D} {xs : List V}, noSL as = true -> noSL bs = true -> RepL K G xs as -> RepL K G xs bs -> as = bs
 | [], [], _, _, _, _, _ => rfl
 | [], _ :: _, xs, _, _, e, h => by
  obtain ⟨_, _, e2, _⟩ := h
  cases (show xs = [] from e)
  cases e2
 | _ :: _, [], xs, _, _, h, e => by
  obtain ⟨_, _, e2, _⟩ := h
  cases (show xs = [] from e)
  cases e2
 | a :: as, b :: bs, xs, na, nb, h, h2 => by
  obtain ⟨x, ys, e, q, r⟩ := h
  obtain ⟨x2, ys2, e2, q2, r2⟩ := h2
  subst e
  cases e2
  simp only [noSL, Bool.and_eq_true] at na nb
  rw [RepD.inj na.1 nb.1 q q2, RepL.inj na.2 nb.2 r r2]
end
def eqJ (ds es : List D) (j : Nat) : Bool := match ds[j]?, es[j]? with
 | some a, some b => eqB a b
 | _, _ => false
theorem zdG : ∀ (as bs : List D), as.length = bs.length -> (List.range as.length).all (eqJ as bs) = eqBL as bs
 | [], [], _ => by simp [eqBL]
 | a :: as, b :: bs, h => by
  have ih := zdG as bs (by simpa using h)
  rw [List.length_cons, List.range_succ_eq_map, List.all_cons, List.all_map]
  simp only [eqBL, <- ih]
  congr 1
 | [], _ :: _, h => by simp at h
 | _ :: _, [], h => by simp at h
section
variable {X : Cx} {pins : List (Addr × Obj)} {σ : St} {H G : Hp} {s : Shared}
theorem zig (r : Vals xs us) (h : RepL X.K G xs ds) (e : us[j]? = some u) : ∃ x d, ds[j]? = some d /\ RelV x u /\ RepD X.K G x d := by
 have hl := r.length
 have hl2 := h.length
 have hj : j < us.length := (List.getElem?_eq_some_iff.mp e).1
 have ej : ds[j]? = some ds[j] := List.getElem?_eq_getElem (by omega)
 obtain ⟨x, q1, q2⟩ := h.get ej
 obtain ⟨u', h1, h2⟩ := r.get q1
 have : u' = u := by rw [h1] at e; exact Option.some.inj e
 subst this
 exact ⟨x, _, ej, h2, q2⟩
theorem eqAt_D (I : Inv X pins σ H s) (fz : Fz G H) : ∀ (n : Nat) (A : Around) (a b : D) (x y : V) (u v : Value), depth a <= n -> noS a = true -> noS b = true -> A.units + n + 1 < cLine -> RepD X.K G x a -> RepD X.K G y b -> RelV x u -> RelV y v ->
  SeqAt.EqAt A s u v (eqB a b) /\ SeqAt.RcAt A s u v (eqB a b) := by
 intro n
 induction n with
 | zero =>
  intro A a b x y u v hd na nb hu ra rb rx ry
  have hu' : A.units < cLine := by omega
  cases a with
  | non =>
   cases (show x = V.non from ra); cases (show u = Value.none from rx)
   cases b with
   | non => cases (show y = V.non from rb); cases (show v = Value.none from ry); exact ⟨.same _, .none_none⟩
   | bl c => cases (show y = V.bl c from rb); cases (show v = Value.bool c from ry); exact ⟨.none_bool _, .none_bool _⟩
   | int c => cases (show y = V.int c from rb); obtain ⟨t, rfl⟩ := ry; exact ⟨.none_int _ _, .none_int _ _⟩
   | str c => cases (show y = V.str c from rb); obtain ⟨t, rfl⟩ := ry; exact ⟨.none_str _ _, .none_str _ _⟩
   | lst ds =>
    obtain ⟨p, xs, rfl, q, r⟩ := rb
    cases (show v = Value.ref p from ry)
    obtain ⟨its, rv, pl, hz⟩ := I.list (SqL.of (fz _ _ q))
    exact ⟨.none_list pl.isList hu', .none_list pl.isList hu'⟩
   | tup ds =>
    obtain ⟨p, xs, rfl, q, r⟩ := rb
    cases (show v = Value.ref p from ry)
    obtain ⟨its, rv, pl, hz⟩ := I.tuple (SqT.of (fz _ _ q))
    exact ⟨.none_tuple pl hu', .none_tuple pl hu'⟩
   | scr _ => simp [noS] at nb
   | exc _ => simp [noS] at nb
   | dic _ _ => simp [noS] at nb
   | dit _ _ => simp [noS] at nb
  | bl c0 =>
   cases (show x = V.bl c0 from ra); cases (show u = Value.bool c0 from rx)
   cases b with
   | non => cases (show y = V.non from rb); cases (show v = Value.none from ry); exact ⟨.bool_none _, .bool_none _⟩
   | bl c => cases (show y = V.bl c from rb); cases (show v = Value.bool c from ry); exact ⟨.bool_bool _ _, .bool_bool _ _⟩
   | int c => cases (show y = V.int c from rb); obtain ⟨t, rfl⟩ := ry; exact ⟨.bool_int _ _ _, .bool_int _ _ _⟩
   | str c => cases (show y = V.str c from rb); obtain ⟨t, rfl⟩ := ry; exact ⟨.bool_str _ _ _, .bool_str _ _ _⟩
   | lst ds =>
    obtain ⟨p, xs, rfl, q, r⟩ := rb
    cases (show v = Value.ref p from ry)
    obtain ⟨its, rv, pl, hz⟩ := I.list (SqL.of (fz _ _ q))
    exact ⟨.bool_list _ pl.isList hu', .bool_list _ pl.isList hu'⟩
   | tup ds =>
    obtain ⟨p, xs, rfl, q, r⟩ := rb
    cases (show v = Value.ref p from ry)
    obtain ⟨its, rv, pl, hz⟩ := I.tuple (SqT.of (fz _ _ q))
    exact ⟨.bool_tuple _ pl hu', .bool_tuple _ pl hu'⟩
   | scr _ => simp [noS] at nb
   | exc _ => simp [noS] at nb
   | dic _ _ => simp [noS] at nb
   | dit _ _ => simp [noS] at nb
  | int c0 =>
   cases (show x = V.int c0 from ra); obtain ⟨t0, rfl⟩ := rx
   cases b with
   | non => cases (show y = V.non from rb); cases (show v = Value.none from ry); exact ⟨.int_none _ _, .int_none _ _⟩
   | bl c => cases (show y = V.bl c from rb); cases (show v = Value.bool c from ry); exact ⟨.int_bool _ _ _, .int_bool _ _ _⟩
   | int c => cases (show y = V.int c from rb); obtain ⟨t, rfl⟩ := ry; exact ⟨.int_int _ _ _ _, .int_int _ _ _ _⟩
   | str c => cases (show y = V.str c from rb); obtain ⟨t, rfl⟩ := ry; exact ⟨.int_str _ _ _ _, .int_str _ _ _ _⟩
   | lst ds =>
    obtain ⟨p, xs, rfl, q, r⟩ := rb
    cases (show v = Value.ref p from ry)
    obtain ⟨its, rv, pl, hz⟩ := I.list (SqL.of (fz _ _ q))
    exact ⟨.int_list _ _ pl.isList hu', .int_list _ _ pl.isList hu'⟩
   | tup ds =>
    obtain ⟨p, xs, rfl, q, r⟩ := rb
    cases (show v = Value.ref p from ry)
    obtain ⟨its, rv, pl, hz⟩ := I.tuple (SqT.of (fz _ _ q))
    exact ⟨.int_tuple _ _ pl hu', .int_tuple _ _ pl hu'⟩
   | scr _ => simp [noS] at nb
   | exc _ => simp [noS] at nb
   | dic _ _ => simp [noS] at nb
   | dit _ _ => simp [noS] at nb
  | str c0 =>
   cases (show x = V.str c0 from ra); obtain ⟨t0, rfl⟩ := rx
   cases b with
   | non => cases (show y = V.non from rb); cases (show v = Value.none from ry); exact ⟨.str_none _ _, .str_none _ _⟩
   | bl c => cases (show y = V.bl c from rb); cases (show v = Value.bool c from ry); exact ⟨.str_bool _ _ _, .str_bool _ _ _⟩
   | int c => cases (show y = V.int c from rb); obtain ⟨t, rfl⟩ := ry; exact ⟨.str_int _ _ _ _, .str_int _ _ _ _⟩
   | str c => cases (show y = V.str c from rb); obtain ⟨t, rfl⟩ := ry; exact ⟨.str_str _ _ _ _, .str_str _ _ _ _⟩
   | lst ds =>
    obtain ⟨p, xs, rfl, q, r⟩ := rb
    cases (show v = Value.ref p from ry)
    obtain ⟨its, rv, pl, hz⟩ := I.list (SqL.of (fz _ _ q))
    exact ⟨.str_list _ _ pl.isList hu', .str_list _ _ pl.isList hu'⟩
   | tup ds =>
    obtain ⟨p, xs, rfl, q, r⟩ := rb
    cases (show v = Value.ref p from ry)
    obtain ⟨its, rv, pl, hz⟩ := I.tuple (SqT.of (fz _ _ q))
    exact ⟨.str_tuple _ _ pl hu', .str_tuple _ _ pl hu'⟩
   | scr _ => simp [noS] at nb
   | exc _ => simp [noS] at nb
   | dic _ _ => simp [noS] at nb
   | dit _ _ => simp [noS] at nb
  | lst ds => simp [depth] at hd
  | tup ds => simp [depth] at hd
  | scr _ => simp [noS] at na
  | exc _ => simp [noS] at na
  | dic _ _ => simp [noS] at na
  | dit _ _ => simp [noS] at na
 | succ n ih =>
  intro A a b x y u v hd na nb hu ra rb rx ry
  have hu' : A.units < cLine := by omega
  have items : ∀ (ds es : List D) (xs ys : List V) (its its2 : List Value), zfx ds <= n -> noSL ds = true -> noSL es = true -> RepL X.K G xs ds -> RepL X.K G ys es -> Vals xs its -> Vals ys its2 ->
    ∀ j (h1 : j < its.toArray.size) (h2 : j < its2.toArray.size), SeqAt.EqAt A.in1 s its.toArray[j] its2.toArray[j] (eqJ ds es j) := by
   intro ds es xs ys its its2 hd nd ne r r2 rv rv2 j h1 h2
   simp only [List.size_toArray] at h1 h2
   obtain ⟨x1, d1, e1, k1, m1⟩ := zig rv r (j := j) (u := its[j]) (List.getElem?_eq_getElem h1)
   obtain ⟨x2, d2, e2, k2, m2⟩ := zig rv2 r2 (j := j) (u := its2[j]) (List.getElem?_eq_getElem h2)
   have e : eqJ ds es j = eqB d1 d2 := by unfold eqJ; rw [e1, e2]
   rw [e]
   have := zgC e1
   simpa using (ih A.in1 d1 d2 x1 x2 _ _ (by omega) (zf4 e1 nd) (zf4 e2 ne) (by show A.units + 1 + n + 1 < cLine; omega) m1 m2 k1 k2).1
  cases a with
  | scr _ => simp [noS] at na
  | exc _ => simp [noS] at na
  | dic _ _ => simp [noS] at na
  | dit _ _ => simp [noS] at na
  | non => exact ih A .non b x y u v (Nat.zero_le _) na nb (by omega) ra rb rx ry
  | bl c => exact ih A (.bl c) b x y u v (Nat.zero_le _) na nb (by omega) ra rb rx ry
  | int c => exact ih A (.int c) b x y u v (Nat.zero_le _) na nb (by omega) ra rb rx ry
  | str c => exact ih A (.str c) b x y u v (Nat.zero_le _) na nb (by omega) ra rb rx ry
  | lst ds =>
   have ra0 := ra
   obtain ⟨p, xs, rfl, q, r⟩ := ra
   cases (show u = Value.ref p from rx)
   obtain ⟨its, rv, pl, hz⟩ := I.list (SqL.of (fz _ _ q))
   cases b with
   | non => cases (show y = V.non from rb); cases (show v = Value.none from ry); exact ⟨.list_none pl.isList hu', .list_none pl.isList hu'⟩
   | bl c => cases (show y = V.bl c from rb); cases (show v = Value.bool c from ry); exact ⟨.list_bool _ pl.isList hu', .list_bool _ pl.isList hu'⟩
   | int c => cases (show y = V.int c from rb); obtain ⟨t, rfl⟩ := ry; exact ⟨.list_int _ _ pl.isList hu', .list_int _ _ pl.isList hu'⟩
   | str c => cases (show y = V.str c from rb); obtain ⟨t, rfl⟩ := ry; exact ⟨.list_str _ _ pl.isList hu', .list_str _ _ pl.isList hu'⟩
   | scr _ => simp [noS] at nb
   | exc _ => simp [noS] at nb
   | dic _ _ => simp [noS] at nb
   | dit _ _ => simp [noS] at nb
   | tup es =>
    obtain ⟨p2, ys, rfl, q2, r2⟩ := rb
    cases (show v = Value.ref p2 from ry)
    obtain ⟨its2, rv2, pl2, hz2⟩ := I.tuple (SqT.of (fz _ _ q2))
    exact ⟨.list_tuple pl.isList pl2 hu', .list_tuple pl.isList pl2 hu'⟩
   | lst es =>
    have rb0 := rb
    obtain ⟨p2, ys, rfl, q2, r2⟩ := rb
    cases (show v = Value.ref p2 from ry)
    obtain ⟨its2, rv2, pl2, hz2⟩ := I.list (SqL.of (fz _ _ q2))
    simp only [depth] at hd
    have l1 := rv.length; have l2 := r.length; have l3 := rv2.length; have l4 := r2.length
    have rc : SeqAt.RcAt A s (.ref p) (.ref p2) (eqBL ds es) := by
     by_cases hl : ds.length = es.length
     ·have z := SeqAt.RcAt.lists (A := A) (s := s) (e := eqJ ds es) pl.isList pl2.isList (by simp only [List.size_toArray]; omega) hu' (items ds es xs ys its its2 (by omega) (by simpa only [noS] using na) (by simpa only [noS] using nb) r r2 rv rv2)
      rw [List.size_toArray, <- l1, l2, zdG ds es hl] at z
      exact z
     ·rw [zf7 hl]
      refine .lists_lengths pl.isList pl2.isList ?_ hu'
      simp only [List.size_toArray, bne_iff_ne, ne_eq]
      omega
    refine ⟨?_, by simp only [eqB]; exact rc⟩
    by_cases hp : p = p2
    ·subst hp
     have e := RepD.inj na nb ra0 rb0
     cases e
     rw [zic _ na]
     exact .same _
    ·simp only [eqB]
     exact .of_refs hp rc
  | tup ds =>
   have ra0 := ra
   obtain ⟨p, xs, rfl, q, r⟩ := ra
   cases (show u = Value.ref p from rx)
   obtain ⟨its, rv, pl, hz⟩ := I.tuple (SqT.of (fz _ _ q))
   cases b with
   | non => cases (show y = V.non from rb); cases (show v = Value.none from ry); exact ⟨.tuple_none pl hu', .tuple_none pl hu'⟩
   | bl c => cases (show y = V.bl c from rb); cases (show v = Value.bool c from ry); exact ⟨.tuple_bool _ pl hu', .tuple_bool _ pl hu'⟩
   | int c => cases (show y = V.int c from rb); obtain ⟨t, rfl⟩ := ry; exact ⟨.tuple_int _ _ pl hu', .tuple_int _ _ pl hu'⟩
   | str c => cases (show y = V.str c from rb); obtain ⟨t, rfl⟩ := ry; exact ⟨.tuple_str _ _ pl hu', .tuple_str _ _ pl hu'⟩
   | scr _ => simp [noS] at nb
   | exc _ => simp [noS] at nb
   | dic _ _ => simp [noS] at nb
   | dit _ _ => simp [noS] at nb
   | lst es =>
    obtain ⟨p2, ys, rfl, q2, r2⟩ := rb
    cases (show v = Value.ref p2 from ry)
    obtain ⟨its2, rv2, pl2, hz2⟩ := I.list (SqL.of (fz _ _ q2))
    exact ⟨.tuple_list pl pl2.isList hu', .tuple_list pl pl2.isList hu'⟩
   | tup es =>
    have rb0 := rb
    obtain ⟨p2, ys, rfl, q2, r2⟩ := rb
    cases (show v = Value.ref p2 from ry)
    obtain ⟨its2, rv2, pl2, hz2⟩ := I.tuple (SqT.of (fz _ _ q2))
    simp only [depth] at hd
    have l1 := rv.length; have l2 := r.length; have l3 := rv2.length; have l4 := r2.length
    have rc : SeqAt.RcAt A s (.ref p) (.ref p2) (eqBL ds es) := by
     have z := SeqAt.RcAt.tuples (A := A) (s := s) (e := eqJ ds es) pl pl2 hu' (items ds es xs ys its its2 (by omega) (by simpa only [noS] using na) (by simpa only [noS] using nb) r r2 rv rv2)
     simp only [List.size_toArray] at z
     by_cases hl : ds.length = es.length
     ·have e1 : min its.length its2.length = ds.length := by omega
      have e2 : (its.length == its2.length) = true := by simp; omega
      rw [e1, e2, Bool.and_true, zdG ds es hl] at z
      exact z
     ·have e2 : (its.length == its2.length) = false := by simp; omega
      rw [e2, Bool.and_false] at z
      rw [zf7 hl]
      exact z
    refine ⟨?_, by simp only [eqB]; exact rc⟩
    by_cases hp : p = p2
    ·subst hp
     have e := RepD.inj na nb ra0 rb0
     cases e
     rw [zic _ na]
     exact .same _
    ·simp only [eqB]
     exact .of_refs hp rc
end
def dEq (a b : D) : Option D := if noS a && noS b && decide (depth a <= 50) then some (.bl (eqB a b)) else none
def dNe (a b : D) : Option D := if noS a && noS b && decide (depth a <= 50) then some (.bl (!eqB a b)) else none
def rEqD (K : W.Frag) (c : Bool -> Bool) : R2 := fun x y H Q => ∃ G a b, Fz G H /\ RepD K G x a /\ RepD K G y b /\ noS a = true /\ noS b = true /\ depth a <= 50 /\ Q (.bl (c (eqB a b))) H
theorem op_eqD (hu : X.A.units + 64 < cLine) : OpR X (compareOp .Eq) (rEqD X.K id) := by
 intro pins s σ H x y v u Q I rx ry h
 obtain ⟨G, a, b, fz, ra, rb, na, nb, hd, q⟩ := h
 exact (eqAt_D I fz 50 X.A a b x y v u hd na nb (by omega) ra rb rx ry).2 _ _ _ _ ⟨.bl _, H, I, rfl, q⟩
theorem se_eq {ma mb : ME} (hu : X.A.units + 64 < cLine) (ha : SE X a ma) (hb : SE X b mb) : SE X (.Compare a [.Eq] [b] pos) (m2 dEq ma mb) := by
 refine se_cmp (op_eqD hu) (fun B G H σ ρ x y a b d Q I ra rb hf k => ?_) ha hb (zhb _)
 unfold dEq at hf
 split at hf
 ·rename_i h
  simp only [Bool.and_eq_true, decide_eq_true_eq] at h
  cases hf
  exact ⟨G, a, b, I.fz, ra, rb, h.1.1, h.1.2, h.2, k G H _ I (Fz.refl G) rfl⟩
 ·cases hf
section
variable {X : Cx} {pins : List (Addr × Obj)} {σ : St} {H G : Hp} {s : Shared}
theorem neAt_D (I : Inv X pins σ H s) (fz : Fz G H) (A : Around) (a b : D) (x y : V) (u v : Value) (hd : depth a <= 50) (na : noS a = true) (nb : noS b = true) (hu : A.units + 64 < cLine) (ra : RepD X.K G x a) (rb : RepD X.K G y b) (rx : RelV x u) (ry : RelV y v) :
  SeqAt.RcNeAt A s u v (!eqB a b) := by
 have hu' : A.units < cLine := by omega
 have items : ∀ (ds es : List D) (xs ys : List V) (its its2 : List Value), zfx ds <= 49 -> noSL ds = true -> noSL es = true -> RepL X.K G xs ds -> RepL X.K G ys es -> Vals xs its -> Vals ys its2 ->
   ∀ j (h1 : j < its.toArray.size) (h2 : j < its2.toArray.size), SeqAt.EqAt A.in1 s its.toArray[j] its2.toArray[j] (eqJ ds es j) := by
  intro ds es xs ys its its2 hd nd ne r r2 rv rv2 j h1 h2
  simp only [List.size_toArray] at h1 h2
  obtain ⟨x1, d1, e1, k1, m1⟩ := zig rv r (j := j) (u := its[j]) (List.getElem?_eq_getElem h1)
  obtain ⟨x2, d2, e2, k2, m2⟩ := zig rv2 r2 (j := j) (u := its2[j]) (List.getElem?_eq_getElem h2)
  have e : eqJ ds es j = eqB d1 d2 := by unfold eqJ; rw [e1, e2]
  rw [e]
  have := zgC e1
  simpa using (eqAt_D I fz 49 A.in1 d1 d2 x1 x2 _ _ (by omega) (zf4 e1 nd) (zf4 e2 ne) (by show A.units + 1 + 49 + 1 < cLine; omega) m1 m2 k1 k2).1
 cases a with
 | scr _ => simp [noS] at na
 | exc _ => simp [noS] at na
 | dic _ _ => simp [noS] at na
 | dit _ _ => simp [noS] at na
 | non =>
  cases (show x = V.non from ra); cases (show u = Value.none from rx)
  cases b with
  | non => cases (show y = V.non from rb); cases (show v = Value.none from ry); exact .none_none
  | bl c => cases (show y = V.bl c from rb); cases (show v = Value.bool c from ry); exact .none_bool _
  | int c => cases (show y = V.int c from rb); obtain ⟨t, rfl⟩ := ry; exact .none_int _ _
  | str c => cases (show y = V.str c from rb); obtain ⟨t, rfl⟩ := ry; exact .none_str _ _
  | lst ds =>
   obtain ⟨p, xs, rfl, q, r⟩ := rb
   cases (show v = Value.ref p from ry)
   obtain ⟨its, rv, pl, hz⟩ := I.list (SqL.of (fz _ _ q))
   exact .none_list pl.isList hu'
  | tup ds =>
   obtain ⟨p, xs, rfl, q, r⟩ := rb
   cases (show v = Value.ref p from ry)
   obtain ⟨its, rv, pl, hz⟩ := I.tuple (SqT.of (fz _ _ q))
   exact .none_tuple pl hu'
  | scr _ => simp [noS] at nb
  | exc _ => simp [noS] at nb
  | dic _ _ => simp [noS] at nb
  | dit _ _ => simp [noS] at nb
 | bl c0 =>
  cases (show x = V.bl c0 from ra); cases (show u = Value.bool c0 from rx)
  cases b with
  | non => cases (show y = V.non from rb); cases (show v = Value.none from ry); exact .bool_none _
  | bl c => cases (show y = V.bl c from rb); cases (show v = Value.bool c from ry); exact .bool_bool _ _
  | int c => cases (show y = V.int c from rb); obtain ⟨t, rfl⟩ := ry; exact .bool_int _ _ _
  | str c => cases (show y = V.str c from rb); obtain ⟨t, rfl⟩ := ry; exact .bool_str _ _ _
  | lst ds =>
   obtain ⟨p, xs, rfl, q, r⟩ := rb
   cases (show v = Value.ref p from ry)
   obtain ⟨its, rv, pl, hz⟩ := I.list (SqL.of (fz _ _ q))
   exact .bool_list _ pl.isList hu'
  | tup ds =>
   obtain ⟨p, xs, rfl, q, r⟩ := rb
   cases (show v = Value.ref p from ry)
   obtain ⟨its, rv, pl, hz⟩ := I.tuple (SqT.of (fz _ _ q))
   exact .bool_tuple _ pl hu'
  | scr _ => simp [noS] at nb
  | exc _ => simp [noS] at nb
  | dic _ _ => simp [noS] at nb
  | dit _ _ => simp [noS] at nb
 | int c0 =>
  cases (show x = V.int c0 from ra); obtain ⟨t0, rfl⟩ := rx
  cases b with
  | non => cases (show y = V.non from rb); cases (show v = Value.none from ry); exact .int_none _ _
  | bl c => cases (show y = V.bl c from rb); cases (show v = Value.bool c from ry); exact .int_bool _ _ _
  | int c => cases (show y = V.int c from rb); obtain ⟨t, rfl⟩ := ry; exact .int_int _ _ _ _
  | str c => cases (show y = V.str c from rb); obtain ⟨t, rfl⟩ := ry; exact .int_str _ _ _ _
  | lst ds =>
   obtain ⟨p, xs, rfl, q, r⟩ := rb
   cases (show v = Value.ref p from ry)
   obtain ⟨its, rv, pl, hz⟩ := I.list (SqL.of (fz _ _ q))
   exact .int_list _ _ pl.isList hu'
  | tup ds =>
   obtain ⟨p, xs, rfl, q, r⟩ := rb
   cases (show v = Value.ref p from ry)
   obtain ⟨its, rv, pl, hz⟩ := I.tuple (SqT.of (fz _ _ q))
   exact .int_tuple _ _ pl hu'
  | scr _ => simp [noS] at nb
  | exc _ => simp [noS] at nb
  | dic _ _ => simp [noS] at nb
  | dit _ _ => simp [noS] at nb
 | str c0 =>
  cases (show x = V.str c0 from ra); obtain ⟨t0, rfl⟩ := rx
  cases b with
  | non => cases (show y = V.non from rb); cases (show v = Value.none from ry); exact .str_none _ _
  | bl c => cases (show y = V.bl c from rb); cases (show v = Value.bool c from ry); exact .str_bool _ _ _
  | int c => cases (show y = V.int c from rb); obtain ⟨t, rfl⟩ := ry; exact .str_int _ _ _ _
  | str c => cases (show y = V.str c from rb); obtain ⟨t, rfl⟩ := ry; exact .str_str _ _ _ _
  | lst ds =>
   obtain ⟨p, xs, rfl, q, r⟩ := rb
   cases (show v = Value.ref p from ry)
   obtain ⟨its, rv, pl, hz⟩ := I.list (SqL.of (fz _ _ q))
   exact .str_list _ _ pl.isList hu'
  | tup ds =>
   obtain ⟨p, xs, rfl, q, r⟩ := rb
   cases (show v = Value.ref p from ry)
   obtain ⟨its, rv, pl, hz⟩ := I.tuple (SqT.of (fz _ _ q))
   exact .str_tuple _ _ pl hu'
  | scr _ => simp [noS] at nb
  | exc _ => simp [noS] at nb
  | dic _ _ => simp [noS] at nb
  | dit _ _ => simp [noS] at nb
 | lst ds =>
  obtain ⟨p, xs, rfl, q, r⟩ := ra
  cases (show u = Value.ref p from rx)
  obtain ⟨its, rv, pl, hz⟩ := I.list (SqL.of (fz _ _ q))
  cases b with
  | non => cases (show y = V.non from rb); cases (show v = Value.none from ry); exact .list_none pl.isList hu'
  | bl c => cases (show y = V.bl c from rb); cases (show v = Value.bool c from ry); exact .list_bool _ pl.isList hu'
  | int c => cases (show y = V.int c from rb); obtain ⟨t, rfl⟩ := ry; exact .list_int _ _ pl.isList hu'
  | str c => cases (show y = V.str c from rb); obtain ⟨t, rfl⟩ := ry; exact .list_str _ _ pl.isList hu'
  | scr _ => simp [noS] at nb
  | exc _ => simp [noS] at nb
  | dic _ _ => simp [noS] at nb
  | dit _ _ => simp [noS] at nb
  | tup es =>
   obtain ⟨p2, ys, rfl, q2, r2⟩ := rb
   cases (show v = Value.ref p2 from ry)
   obtain ⟨its2, rv2, pl2, hz2⟩ := I.tuple (SqT.of (fz _ _ q2))
   exact .list_tuple pl.isList pl2 hu'
  | lst es =>
   obtain ⟨p2, ys, rfl, q2, r2⟩ := rb
   cases (show v = Value.ref p2 from ry)
   obtain ⟨its2, rv2, pl2, hz2⟩ := I.list (SqL.of (fz _ _ q2))
   simp only [depth] at hd
   have l1 := rv.length; have l2 := r.length; have l3 := rv2.length; have l4 := r2.length
   simp only [eqB]
   by_cases hl : ds.length = es.length
   ·have z := SeqAt.RcNeAt.lists (A := A) (s := s) (e := eqJ ds es) pl.isList pl2.isList (by simp only [List.size_toArray]; omega) hu' (items ds es xs ys its its2 (by omega) (by simpa only [noS] using na) (by simpa only [noS] using nb) r r2 rv rv2)
    rw [List.size_toArray, <- l1, l2, zdG ds es hl] at z
    exact z
   ·rw [zf7 hl]
    refine .lists_lengths pl.isList pl2.isList ?_ hu'
    simp only [List.size_toArray, bne_iff_ne, ne_eq]
    omega
 | tup ds =>
  obtain ⟨p, xs, rfl, q, r⟩ := ra
  cases (show u = Value.ref p from rx)
  obtain ⟨its, rv, pl, hz⟩ := I.tuple (SqT.of (fz _ _ q))
  cases b with
  | non => cases (show y = V.non from rb); cases (show v = Value.none from ry); exact .tuple_none pl hu'
  | bl c => cases (show y = V.bl c from rb); cases (show v = Value.bool c from ry); exact .tuple_bool _ pl hu'
  | int c => cases (show y = V.int c from rb); obtain ⟨t, rfl⟩ := ry; exact .tuple_int _ _ pl hu'
  | str c => cases (show y = V.str c from rb); obtain ⟨t, rfl⟩ := ry; exact .tuple_str _ _ pl hu'
  | scr _ => simp [noS] at nb
  | exc _ => simp [noS] at nb
  | dic _ _ => simp [noS] at nb
  | dit _ _ => simp [noS] at nb
  | lst es =>
   obtain ⟨p2, ys, rfl, q2, r2⟩ := rb
   cases (show v = Value.ref p2 from ry)
   obtain ⟨its2, rv2, pl2, hz2⟩ := I.list (SqL.of (fz _ _ q2))
   exact .tuple_list pl pl2.isList hu'
  | tup es =>
   obtain ⟨p2, ys, rfl, q2, r2⟩ := rb
   cases (show v = Value.ref p2 from ry)
   obtain ⟨its2, rv2, pl2, hz2⟩ := I.tuple (SqT.of (fz _ _ q2))
   simp only [depth] at hd
   have l1 := rv.length; have l2 := r.length; have l3 := rv2.length; have l4 := r2.length
   have z := SeqAt.RcNeAt.tuples (A := A) (s := s) (e := eqJ ds es) pl pl2 hu' (items ds es xs ys its its2 (by omega) (by simpa only [noS] using na) (by simpa only [noS] using nb) r r2 rv rv2)
   simp only [List.size_toArray] at z
   simp only [eqB]
   by_cases hl : ds.length = es.length
   ·have e1 : min its.length its2.length = ds.length := by omega
    have e2 : (its.length == its2.length) = true := by simp; omega
    rw [e1, e2, Bool.and_true, zdG ds es hl] at z
    exact z
   ·have e2 : (its.length == its2.length) = false := by simp; omega
    rw [e2, Bool.and_false] at z
    rw [zf7 hl]
    exact z
end
theorem op_neD (hu : X.A.units + 64 < cLine) : OpR X (compareOp .NotEq) (rEqD X.K not) := by
 intro pins s σ H x y v u Q I rx ry h
 obtain ⟨G, a, b, fz, ra, rb, na, nb, hd, q⟩ := h
 exact neAt_D I fz X.A a b x y v u hd na nb hu ra rb rx ry _ _ _ _ ⟨.bl _, H, I, rfl, q⟩
theorem v2_ne : V2 X (rEqD X.K not) dNe := by
 intro B G H σ ρ x y a b d Q I ra rb hf k
 unfold dNe at hf
 split at hf
 ·rename_i h
  simp only [Bool.and_eq_true, decide_eq_true_eq] at h
  cases hf
  exact ⟨G, a, b, I.fz, ra, rb, h.1.1, h.1.2, h.2, k G H _ I (Fz.refl G) rfl⟩
 ·cases hf
theorem v2_eq : V2 X (rEqD X.K id) dEq := by
 intro B G H σ ρ x y a b d Q I ra rb hf k
 unfold dEq at hf
 split at hf
 ·rename_i h
  simp only [Bool.and_eq_true, decide_eq_true_eq] at h
  cases hf
  exact ⟨G, a, b, I.fz, ra, rb, h.1.1, h.1.2, h.2, k G H _ I (Fz.refl G) rfl⟩
 ·cases hf
def dIx : D -> D -> Option D
 | .lst ds, .int i => atI ds i
 | .tup ds, .int i => atI ds i
 | .scr ns, .int i => (atI ns i).map .int
 | _, _ => none
theorem atI_map {α β : Type} (f : α -> β) {xs : List α} {i : Int} {v : α} (h : atI xs i = some v) : atI (xs.map f) i = some (f v) := by
 unfold atI at h ⊢
 rw [List.length_map]
 cases q : ixN xs.length i with
 | none => rw [q] at h; cases h
 | some j =>
  rw [q] at h
  show (xs.map f)[j]? = _
  rw [List.getElem?_map, show xs[j]? = some v from h]
  rfl
def ReadD (K : W.Frag) (G H : Hp) (v : V) : D -> Prop
 | .lst ds => ∃ a xs, v = .ref a /\ H a = some (.lst xs) /\ RepL K G xs ds
 | d => RepD K G v d
theorem ReadD.of (fz : Fz G H) (h : RepD K G v d) : ReadD K G H v d := by
 cases d with
 | lst ds => obtain ⟨a, xs, e, q, r⟩ := h; exact ⟨a, xs, e, fz a _ q, r⟩
 | _ => exact h
def Sl.read : Sl -> Option D
 | .emp => none
 | .two _ _ => none
 | .tre _ => none
 | .ptr _ => none
 | .val d => some d
 | .own ds => some (.lst ds)
 | .par ds => some (.lst ds)
def hasV (ρ : R) (j : Nat) : Bool := match ρ[j]? with
 | some (.val _) => true
 | some (.own _) => true
 | some (.par _) => true
 | _ => false
theorem SI.has (I : SI K B G H σ ρ) (h : hasV ρ j = true) : ∃ v, σ[j]? = some (some v) := by
 unfold hasV at h
 cases e : ρ[j]? with
 | none => rw [e] at h; cases h
 | some s =>
  rw [e] at h
  have q := I.slot j s e
  cases s with
  | emp => cases h
  | two _ _ => cases h
  | tre _ => cases h
  | ptr _ => cases h
  | val d => obtain ⟨v, e, _⟩ := q; exact ⟨v, e⟩
  | own d => obtain ⟨l, _, e, _⟩ := q; exact ⟨_, e⟩
  | par d => obtain ⟨l, _, e, _⟩ := q; exact ⟨_, e⟩
theorem SI.read (I : SI K B G H σ ρ) (hv : σ[j]? = some (some v)) (e : ρ[j]? = some s) (q : s.read = some d) : ReadD K G H v d := by
 have h := I.slot j s e
 cases s with
 | emp => cases q
 | two _ _ => cases q
 | tre _ => cases q
 | ptr _ => cases q
 | val d' =>
  cases q
  obtain ⟨w, e1, r⟩ := h
  rw [hv] at e1; cases e1
  exact .of I.fz r
 | own ds =>
  cases q
  obtain ⟨l, xs, e1, _, h3, h4, _⟩ := h
  rw [hv] at e1; cases e1
  exact ⟨l, xs, rfl, h3, h4⟩
 | par ds =>
  cases q
  obtain ⟨l, xs, e1, _, h3, h4, _⟩ := h
  rw [hv] at e1; cases e1
  exact ⟨l, xs, rfl, h3, h4⟩
theorem zlH {x y : V} {a b d : D} {Q : VK} (I : SI K B G H σ ρ) (ra : ReadD K G H x a) (rb : RepD K G y b) (hf : dIx a b = some d) (k : ∀ v, RepD K G v d -> Q v H) : rIx K x y H Q := by
 cases a <;> cases b <;> simp only [dIx] at hf <;> try cases hf
 ·rename_i ds i
  obtain ⟨p, xs, rfl, hp, r⟩ := ra
  obtain ⟨v, e, q⟩ := r.at hf
  exact .inl ⟨p, xs, i, v, rfl, rb, SqL.of hp, e, k _ q⟩
 ·rename_i ds i
  obtain ⟨p, xs, rfl, hp, r⟩ := I.tup ra
  obtain ⟨v, e, q⟩ := r.at hf
  exact .inr (.inl ⟨p, xs, i, v, rfl, rb, SqT.of hp, e, k _ q⟩)
 ·rename_i ns i
  obtain ⟨p, rfl, hp⟩ := ra
  cases e : atI ns i with
  | none => rw [e] at hf; cases hf
  | some n =>
   rw [e] at hf
   cases hf
   exact .inl ⟨p, _, i, .int n, rfl, rb, I.fz.sql hp, atI_map V.int e, k _ rfl⟩
theorem v2_ix : V2 X (rIx X.K) dIx := fun B G H σ ρ x y a b d Q I ra rb hf k => zlH I (.of I.fz ra) rb hf fun v q => k G H v I (Fz.refl G) q
theorem zay {ma mb : ME} (ha : SE X a ma) (hb : SE X b mb) (hs : zb7 b := by exact fun _ _ => rfl) : SE X (.Subscript a b pos) (m2 dIx ma mb) := se_ix ix_seq v2_ix ha hb hs
def eIxV (j : Nat) (mi : ME) : ME := fun ρ => if hasV ρ j then (mi ρ).bind fun p => (p.2[j]?.bind Sl.read).bind fun d => (dIx d p.1).map fun e => (e, p.2) else none
theorem zai (j : Nat) (hb : SE X b mb) (hN : X.N[j]? = some x := by rfl) (hv : Vis X.env.scope x := by first | exact Or.inl rfl | exact Or.inr (Or.inl rfl) | exact Or.inr (Or.inr rfl)) (hd : (x == ("__debug__" : Str)) = false := by decide)
    (hcd : (x == ("__classdict__" : Str)) = false := by decide) (hs : zb7 b := by exact fun _ _ => rfl) : SE X (.Subscript (.Name x pos') b pos) (eIxV j mb) := by
  obtain ⟨tb, pb, sb⟩ := hb
  refine ⟨_, zil ix_seq (zbj hN hv hd hcd) pb hs, fun B G H σ ρ d ρ' Q I hm k => ?_⟩
  unfold eIxV at hm
  split at hm
  . rename_i hh
    obtain ⟨v, ev⟩ := I.has hh
    cases e1 : mb ρ with
    | none => rw [e1] at hm; cases hm
    | some q =>
      obtain ⟨i, ρ1⟩ := q
      rw [e1] at hm
      simp only [Option.bind_some] at hm
      cases e2 : ρ1[j]? with
      | none => rw [e2] at hm; cases hm
      | some s =>
        rw [e2] at hm
        simp only [Option.bind_some] at hm
        cases e3 : s.read with
        | none => rw [e3] at hm; cases hm
        | some a =>
          rw [e3] at hm
          simp only [Option.bind_some] at hm
          cases e4 : dIx a i with
          | none => rw [e4] at hm; cases hm
          | some c =>
            rw [e4] at hm
            cases hm
            exact ⟨v, ev, sb B G H σ ρ i ρ' _ I e1 fun G1 H1 y I1 f1 r1 => zlH I1 (I1.read ev e2 e3) r1 e4 fun w q => k G1 H1 w I1 f1 q⟩
  . cases hm
def dLen : List D -> Option D
 | [.lst ds] => some (.int ds.length)
 | [.tup ds] => some (.int ds.length)
 | [.scr ns] => some (.int ns.length)
 | _ => none
theorem zkt {x : V} {a d : D} {Q : VK} (I : SI K B G H σ ρ) (ra : ReadD K G H x a) (hf : dLen [a] = some d) (k : ∀ v, RepD K G v d -> Q v H) :
  ∃ p ys, [x] = [V.ref p] /\ (SqL K H p ys \/ SqT K H p ys) /\ Q (.int ys.length) H := by
 cases a <;> simp only [dLen] at hf <;> try cases hf
 ·obtain ⟨p, xs, rfl, hp, r⟩ := ra
  exact ⟨p, xs, rfl, .inl (SqL.of hp), by rw [r.length]; exact k _ rfl⟩
 ·obtain ⟨p, xs, rfl, hp, r⟩ := I.tup ra
  exact ⟨p, xs, rfl, .inr (SqT.of hp), by rw [r.length]; exact k _ rfl⟩
 ·obtain ⟨p, rfl, hp⟩ := ra
  exact ⟨p, _, rfl, .inl (I.fz.sql hp), by rw [List.length_map]; exact k _ rfl⟩
theorem RepL.one (h : RepL K G xs [d]) : ∃ x, xs = [x] /\ RepD K G x d := by
 obtain ⟨x, ys, e, q, r⟩ := h
 cases (show ys = [] from r)
 exact ⟨x, e, q⟩
theorem RepL.two {a b : D} (h : RepL K G xs [a, b]) : ∃ x y, xs = [x, y] /\ RepD K G x a /\ RepD K G y b := by
 obtain ⟨x, ys, e, q, r⟩ := h
 obtain ⟨y, e2, q2⟩ := r.one
 subst e2
 exact ⟨x, y, e, q, q2⟩
theorem dLen_one (h : dLen ds = some d) : ∃ a, ds = [a] := by
 match ds, h with
 | [a], _ => exact ⟨a, rfl⟩
 | [], h => cases h
 | _ :: _ :: _, h => simp [dLen] at h
theorem vc_len : VC X (fun xs H Q => ∃ p ys, xs = [.ref p] /\ (SqL X.K H p ys \/ SqT X.K H p ys) /\ Q (.int ys.length) H) dLen := by
 intro B G H σ ρ xs ds d Q I r hf k
 obtain ⟨a, rfl⟩ := dLen_one hf
 obtain ⟨x, rfl, ra⟩ := r.one
 exact zkt I (.of I.fz ra) hf fun v q => k G H v I (Fz.refl G) q
theorem zbP {p pos : Pos} (ml : X.mg "len" = none) (ha : SA X [e] ma) (hg : Gl X "len" := by rfl) (he : starEach [e] X.env = (false, eval e X.env) :: starEach [] X.env := by rfl) : SE X (.Call (.Name "len" p) [e] [] pos) (mC dLen ma) :=
 zdU zc2 vc_len PySem.boot_len ml ha hg (by decide) (by decide) he rfl
def zdS (j : Nat) : ME := fun ρ => (ρ[j]?.bind Sl.read).bind fun d => (dLen [d]).map fun e => (e, ρ)
theorem zbs {p pos pos' : Pos} (j : Nat) (ml : X.mg "len" = none) (hN : X.N[j]? = some x := by rfl) (hv : Vis X.env.scope x := by first | exact Or.inl rfl | exact Or.inr (Or.inl rfl) | exact Or.inr (Or.inr rfl)) (hd : (x == ("__debug__" : Str)) = false := by decide)
  (hcd : (x == ("__classdict__" : Str)) = false := by decide) (hg : Gl X "len" := by rfl) (he : starEach [.Name x pos'] X.env = (false, eval (.Name x pos') X.env) :: starEach [] X.env := by rfl) : SE X (.Call (.Name "len" p) [.Name x pos'] [] pos) (zdS j) := by
 refine ⟨_, zf6 zc2 hg ml PySem.boot_len (zbi (zbj hN hv hd hcd) zdA he) (by decide) (by decide) he rfl, fun B G H σ ρ d ρ' Q I hm k => ?_⟩
 unfold zdS at hm
 cases e2 : ρ[j]? with
 | none => rw [e2] at hm; cases hm
 | some s =>
  rw [e2] at hm
  simp only [Option.bind_some] at hm
  cases e3 : s.read with
  | none => rw [e3] at hm; cases hm
  | some a =>
   rw [e3] at hm
   simp only [Option.bind_some] at hm
   cases e4 : dLen [a] with
   | none => rw [e4] at hm; cases hm
   | some c =>
    rw [e4] at hm
    cases hm
    have hh : hasV ρ j = true := by
     unfold hasV
     rw [e2]
     cases s <;> first | rfl | cases e3
    obtain ⟨v, ev⟩ := I.has hh
    exact ⟨v, ev, zkt I (I.read ev e2 e3) e4 fun w q => k G H w I (Fz.refl G) q⟩
def zcF : List D -> Option D
 | [.lst ds] => some (.tup ds)
 | [.tup ds] => some (.tup ds)
 | [.scr ns] => some (.tup (ns.map .int))
 | _ => none
theorem vc_tuple : VC X (fun xs H Q => ∃ p ys, xs = [.ref p] /\ ((SqL X.K H p ys /\ ∀ l, H l = none -> Q (.ref l) (upd H l (.tup ys))) \/ (SqT X.K H p ys /\ Q (.ref p) H))) zcF := by
 intro B G H σ ρ xs ds d Q I r hf k
 match ds, hf with
 | [a], hf =>
  obtain ⟨x, rfl, ra⟩ := r.one
  cases a <;> simp only [zcF] at hf <;> try cases hf
  ·obtain ⟨p, ys, rfl, hp, q⟩ := I.lst ra
   refine ⟨p, ys, rfl, .inl ⟨SqL.of hp, fun l hl => ?_⟩⟩
   obtain ⟨I2, f2, r2⟩ := I.newT hl q
   exact k _ _ _ I2 f2 r2
  ·obtain ⟨p, ys, e, hp, q⟩ := I.tup ra
   subst e
   exact ⟨p, ys, rfl, .inr ⟨SqT.of hp, k G H _ I (Fz.refl G) ra⟩⟩
  ·obtain ⟨p, rfl, hp⟩ := ra
   refine ⟨p, _, rfl, .inl ⟨I.fz.sql hp, fun l hl => ?_⟩⟩
   obtain ⟨I2, f2, r2⟩ := I.newT hl (RepL.ints _)
   exact k _ _ _ I2 f2 r2
 | [], hf => cases hf
 | _ :: _ :: _, hf => simp [zcF] at hf
theorem zdd {p pos : Pos} (ml : X.mg "tuple" = none) (ha : SA X [e] ma) (hg : Gl X "tuple" := by rfl) (he : starEach [e] X.env = (false, eval e X.env) :: starEach [] X.env := by rfl) (hb : bootBuiltins "tuple" = some (.type "tuple") := by decide +kernel) :
  SE X (.Call (.Name "tuple" p) [e] [] pos) (mC zcF ma) :=
 zlv zh8 vc_tuple hb ml ha hg (by decide) (by decide) he rfl
def za9 : List D -> Option (List D)
 | [.lst ds] => some ds
 | [.tup ds] => some ds
 | [.scr ns] => some (ns.map .int)
 | _ => none
def oC (f : List D -> Option (List D)) (ma : MA) : MO := fun ρ => (ma ρ).bind fun p => (f p.1).map fun d => (d, p.2)
theorem oC_inv {f : List D -> Option (List D)} {d : List D} (h : oC f ma ρ = some (d, ρ')) : ∃ a, ma ρ = some (a, ρ') /\ f a = some d := by
 unfold oC at h
 cases e1 : ma ρ with
 | none => rw [e1] at h; cases h
 | some p =>
  obtain ⟨a, ρ1⟩ := p
  rw [e1] at h
  simp only [Option.bind_some] at h
  cases e3 : f a with
  | none => rw [e3] at h; cases h
  | some c => rw [e3] at h; cases h; exact ⟨a, rfl, e3⟩
theorem SI.newO (I : SI K B G H σ ρ) (hp : H p = none) (xs : List V) : SI K B G (upd H p (.lst xs)) σ ρ /\ G p = none /\ (upd H p (.lst xs)) p = some (.lst xs) /\ B.H p = none /\ Nw K G (upd H p (.lst xs)) σ ρ p :=
 ⟨I.allocO hp _, I.fz.free hp, zas, I.there p hp, I.nw_move (I.nw hp) fun i s a _ _ g h => ⟨g, zap fun z => h (by rw [z]; exact hp)⟩⟩
theorem so_list {p pos : Pos} (ml : X.mg "list" = none) (ha : SA X [e] ma) (hg : Gl X "list" := by rfl) (he : starEach [e] X.env = (false, eval e X.env) :: starEach [] X.env := by rfl) (hb : bootBuiltins "list" = some (.type "list") := by decide +kernel) :
  SO X (.Call (.Name "list" p) [e] [] pos) (oC za9 ma) := by
 obtain ⟨t, pa, sa⟩ := ha
 refine ⟨_, zf0 zi8 hg ml hb pa (by decide) (by decide) he rfl, fun B G H σ ρ ds ρ' Q I hm k => ?_⟩
 obtain ⟨as, e1, e2⟩ := oC_inv hm
 refine sa B G H σ ρ as ρ' _ I e1 fun G1 H1 vs I1 f1 r1 => ?_
 match as, e2 with
 | [a], e2 =>
  obtain ⟨x, rfl, ra⟩ := r1.one
  have fin : ∀ (q : Addr) (ys : List V) (sq : SqL X.K H1 q ys \/ SqT X.K H1 q ys), x = .ref q -> RepL X.K G1 ys ds -> ∃ p ys, [x] = [V.ref p] /\ (SqL X.K H1 p ys \/ SqT X.K H1 p ys) /\ ∀ l, H1 l = none -> Q (.ref l) (upd H1 l (.lst ys)) := fun q ys sq ex r => by
   refine ⟨q, ys, by rw [ex], sq, fun l hl => ?_⟩
   obtain ⟨I2, g2, h2, b2, n2⟩ := I1.newO hl ys
   exact k G1 _ l ys I2 f1 g2 h2 r b2 n2
  cases a <;> simp only [za9] at e2 <;> try cases e2
  ·obtain ⟨p, ys, ex, hp, q⟩ := I1.lst ra
   exact fin p ys (.inl (SqL.of hp)) ex q
  ·obtain ⟨p, ys, ex, hp, q⟩ := I1.tup ra
   exact fin p ys (.inr (SqT.of hp)) ex q
  ·obtain ⟨p, ex, hp⟩ := ra
   exact fin p _ (.inl (I1.fz.sql hp)) ex (RepL.ints _)
 | [], e2 => cases e2
 | _ :: _ :: _, e2 => simp [za9] at e2
section
variable {X : Cx} {es : List Expr} {ma : MA} {pos : Pos}
def eTup (ma : MA) : ME := fun ρ => (ma ρ).bind fun p => if p.1.length <= 16777216 then some (.tup p.1, p.2) else none
theorem zaQ {x1} (h : SA X es ma) : SE X (.Tuple es x1 pos) (eTup ma) := by
 obtain ⟨t, pa, sa⟩ := h
 refine ⟨_, pe_tup pa, fun B G H σ ρ d ρ' Q I hm k => ?_⟩
 unfold eTup at hm
 cases e1 : ma ρ with
 | none => rw [e1] at hm; cases hm
 | some q =>
  obtain ⟨ds, ρ1⟩ := q
  rw [e1] at hm
  simp only [Option.bind_some] at hm
  split at hm
  ·rename_i hl
   cases hm
   refine sa B G H σ ρ ds ρ' _ I e1 fun G1 H1 vs I1 f1 r1 => ⟨by rw [r1.length, sizeLine_eq]; exact hl, fun p hp => ?_⟩
   obtain ⟨I2, f2, r2⟩ := I1.newT hp r1
   exact k _ _ _ I2 (f1.trans f2) r2
  ·cases hm
def oLst (ma : MA) : MO := fun ρ => (ma ρ).bind fun p => if p.1.length <= 16777216 then some (p.1, p.2) else none
theorem zbk (h : SA X es ma) : SO X (.List es pos) (oLst ma) := by
 obtain ⟨t, pa, sa⟩ := h
 refine ⟨_, zl4 pa, fun B G H σ ρ d ρ' Q I hm k => ?_⟩
 unfold oLst at hm
 cases e1 : ma ρ with
 | none => rw [e1] at hm; cases hm
 | some q =>
  obtain ⟨ds, ρ1⟩ := q
  rw [e1] at hm
  simp only [Option.bind_some] at hm
  split at hm
  ·rename_i hl
   cases hm
   refine sa B G H σ ρ _ ρ' _ I e1 fun G1 H1 vs I1 f1 r1 => ⟨by rw [r1.length, sizeLine_eq]; exact hl, fun p hp => ?_⟩
   obtain ⟨I2, g2, h2, b2, n2⟩ := I1.newO hp vs
   exact k G1 _ p vs I2 f1 g2 h2 r1 b2 n2
  ·cases hm
end
theorem zac {α β : Type} {o : Option α} {f : α -> Option β} {b : β} (h : o.bind f = some b) : ∃ a, o = some a /\ f a = some b := by
 cases o with
 | none => cases h
 | some a => exact ⟨a, rfl, h⟩
theorem zau {α β : Type} {o : Option α} {f : α -> β} {b : β} (h : o.map f = some b) : ∃ a, o = some a /\ f a = b := by
 cases o with
 | none => cases h
 | some a => cases h; exact ⟨a, rfl, rfl⟩
def dTru : D -> Option Bool
 | .bl b => some b
 | .int i => some (i != 0)
 | .non => some false
 | .lst ds => some (!ds.isEmpty)
 | .tup ds => some (!ds.isEmpty)
 | _ => none
def tTru (ma : ME) : MT := fun ρ => (ma ρ).bind fun p => (dTru p.1).map fun b => (b, p.2)
section
variable {X : Cx} {a b c : Expr} {ma mb mc : ME} {pos : Pos}
theorem zmz (h : RepL K G xs ds) : (!xs.isEmpty) = !ds.isEmpty := by
 have := h.length
 cases xs <;> cases ds <;> simp_all
theorem zcB (ha : SE X a ma) (he : ∀ whole, isTrue a X.env whole = (do let v <- whole; standAt a.pos; holding [v] (truthy v)) := by exact fun _ => rfl) : STt X a (tTru ma) := by
  obtain ⟨ta, pa, sa⟩ := ha
  refine ⟨_, pt_truth pa he, fun B G H σ ρ d ρ' Q I hm k => ?_⟩
  obtain ⟨⟨x, ρ1⟩, e1, e2⟩ := zac hm
  obtain ⟨t, e3, e4⟩ := zau e2
  obtain ⟨rfl, rfl⟩ := Prod.mk.inj e4
  refine sa B G H σ ρ x ρ1 _ I e1 fun G1 H1 v I1 f1 r1 => ⟨t, ?_, k G1 H1 I1 f1⟩
  cases x <;> simp only [dTru] at e3 <;> try cases e3
  . cases r1; exact rfl
  . cases r1; exact rfl
  . cases r1; exact rfl
  . obtain ⟨p, xs, rfl, hp, r⟩ := I1.lst r1
    exact .inl ⟨xs, SqL.of hp, (zmz r).symm⟩
  . obtain ⟨p, xs, rfl, hp, r⟩ := I1.tup r1
    exact .inr (.inl ⟨xs, SqT.of hp, (zmz r).symm⟩)
theorem zgG {r : R2} (ho : OpR X (compareOp op) r) (hv : V2 X r f) (hB : ∀ x y d, f x y = some d -> ∃ t, d = .bl t) (ha : SE X a ma) (hb : SE X b mb) (hm : behindInMarks op b = false) : STt X (.Compare a [op] [b] pos) (tTru (m2 f ma mb)) := by
 obtain ⟨ta, pa, sa⟩ := ha
 obtain ⟨tb, pb, sb⟩ := hb
 refine ⟨_, pt_cmpR ho pa pb hm, fun B G H σ ρ d ρ' Q I hm k => ?_⟩
 obtain ⟨⟨x, ρ1⟩, e1, e2⟩ := zac hm
 obtain ⟨t, e3, e4⟩ := zau e2
 obtain ⟨rfl, rfl⟩ := Prod.mk.inj e4
 obtain ⟨_, _, _, _, _, e5⟩ := m2_inv e1
 obtain ⟨t', rfl⟩ := hB _ _ _ e5
 obtain rfl : t' = t := Option.some.inj e3
 refine zkC hv sa sb B G H σ ρ (.bl t') ρ1 _ I e1 fun G1 H1 v I1 f1 r1 => ?_
 cases (show v = V.bl t' from r1)
 exact ⟨t', rfl, k G1 H1 I1 f1⟩
theorem zks {g : Int -> Int -> Bool} (x y d : D) (h : dI2 (fun _ _ => true) (fun i j => .bl (g i j)) x y = some d) : ∃ t, d = .bl t := by
 cases x <;> cases y <;> simp only [dI2] at h <;> try cases h
 exact ⟨_, rfl⟩
theorem bl_eq (x y d : D) (h : dEq x y = some d) : ∃ t, d = .bl t := by
 unfold dEq at h
 split at h
 ·cases h; exact ⟨_, rfl⟩
 ·cases h
theorem bl_ne (x y d : D) (h : dNe x y = some d) : ∃ t, d = .bl t := by
 unfold dNe at h
 split at h
 ·cases h; exact ⟨_, rfl⟩
 ·cases h
theorem st_lt (ha : SE X a ma) (hb : SE X b mb) : STt X (.Compare a [.Lt] [b] pos) (tTru (m2 dLt ma mb)) := zgG op_lt zfJ zks ha hb (zhb _)
theorem st_gt (ha : SE X a ma) (hb : SE X b mb) : STt X (.Compare a [.Gt] [b] pos) (tTru (m2 dGt ma mb)) := zgG op_gt zfJ zks ha hb (zhb _)
theorem st_ge (ha : SE X a ma) (hb : SE X b mb) : STt X (.Compare a [.GtE] [b] pos) (tTru (m2 dGe ma mb)) := zgG op_ge zfJ zks ha hb (zhb _)
theorem zjt (hu : X.A.units + 64 < cLine) (ha : SE X a ma) (hb : SE X b mb) : STt X (.Compare a [.Eq] [b] pos) (tTru (m2 dEq ma mb)) := zgG (op_eqD hu) v2_eq bl_eq ha hb (zhb _)
theorem zlk (hu : X.A.units + 64 < cLine) (ha : SE X a ma) (hb : SE X b mb) : STt X (.Compare a [.NotEq] [b] pos) (tTru (m2 dNe ma mb)) := zgG (op_neD hu) v2_ne bl_ne ha hb (zhb _)
end
def STw (X : Cx) (e : Expr) (m : MT) : Prop :=
 ∃ t, PW X e t /\ ∀ B G H σ ρ d ρ' (Q : Bool -> Hp -> Prop), SI X.K B G H σ ρ -> m ρ = some (d, ρ') -> (∀ G' H', SI X.K B G' H' σ ρ' -> Fz G G' -> Q d H') -> t σ H Q
theorem STw.st {m : MT} (h : STw X e m) : STt X e m := let ⟨t, p, s⟩ := h; ⟨t, p.pt, s⟩
def tAndM (a b : MT) : MT := fun ρ => (a ρ).bind fun p => if p.1 then b p.2 else some (false, p.2)
def tOrM (a b : MT) : MT := fun ρ => (a ρ).bind fun p => if p.1 then some (true, p.2) else b p.2
def zhv (a : MT) : MT := fun ρ => (a ρ).map fun p => (!p.1, p.2)
section
variable {X : Cx} {a b c : Expr} {ma mb : MT} {pos : Pos} {rest : List Expr}
theorem sw_and1 (h : STt X a ma) : STw X (.BoolOp .And [a] pos) ma := let ⟨t, p, s⟩ := h; ⟨t, pw_and1 p, s⟩
theorem zlC (h : STt X a ma) : STw X (.BoolOp .Or [a] pos) ma := let ⟨t, p, s⟩ := h; ⟨t, pw_or1 p, s⟩
theorem sw_and (ha : STt X a ma) (hb : STw X (.BoolOp .And (b :: rest) pos) mb) : STw X (.BoolOp .And (a :: b :: rest) pos) (tAndM ma mb) := by
 obtain ⟨ta, pa, sa⟩ := ha
 obtain ⟨tb, pb, sb⟩ := hb
 refine ⟨_, pw_and pa pb, fun B G H σ ρ d ρ' Q I hm k => ?_⟩
 obtain ⟨⟨x, ρ1⟩, e1, e2⟩ := zac hm
 refine sa B G H σ ρ x ρ1 _ I e1 fun G1 H1 I1 f1 => ?_
 cases x with
 | true => exact sb B G1 H1 σ ρ1 d ρ' Q I1 e2 fun G2 H2 I2 f2 => k G2 H2 I2 (f1.trans f2)
 | false => cases e2; exact k G1 H1 I1 f1
theorem sw_or (ha : STt X a ma) (hb : STw X (.BoolOp .Or (b :: rest) pos) mb) : STw X (.BoolOp .Or (a :: b :: rest) pos) (tOrM ma mb) := by
 obtain ⟨ta, pa, sa⟩ := ha
 obtain ⟨tb, pb, sb⟩ := hb
 refine ⟨_, pw_or pa pb, fun B G H σ ρ d ρ' Q I hm k => ?_⟩
 obtain ⟨⟨x, ρ1⟩, e1, e2⟩ := zac hm
 refine sa B G H σ ρ x ρ1 _ I e1 fun G1 H1 I1 f1 => ?_
 cases x with
 | false => exact sb B G1 H1 σ ρ1 d ρ' Q I1 e2 fun G2 H2 I2 f2 => k G2 H2 I2 (f1.trans f2)
 | true => cases e2; exact k G1 H1 I1 f1
theorem zgc (ha : STt X a ma) : STt X (.UnaryOp .Not a pos) (zhv ma) := by
 obtain ⟨ta, pa, sa⟩ := ha
 refine ⟨_, pt_not pa, fun B G H σ ρ d ρ' Q I hm k => ?_⟩
 obtain ⟨⟨x, ρ1⟩, e1, e2⟩ := zau hm
 cases e2
 exact sa B G H σ ρ x ρ1 _ I e1 fun G1 H1 I1 f1 => k G1 H1 I1 f1
end
def eAnd (a b : ME) : ME := fun ρ => (a ρ).bind fun p => match p.1 with
 | .bl true => b p.2
 | .bl false => some (.bl false, p.2)
 | _ => none
def eOr (a b : ME) : ME := fun ρ => (a ρ).bind fun p => match p.1 with
 | .bl true => some (.bl true, p.2)
 | .bl false => b p.2
 | _ => none
def dNot : D -> Option D
 | .bl b => some (.bl (!b))
 | _ => none
section
variable {X : Cx} {a b c : Expr} {ma mb : ME} {pos : Pos} {rest : List Expr} {op : BoolOp}
theorem zkD (h : SE X a ma) : SE X (.BoolOp op [a] pos) ma := let ⟨t, p, s⟩ := h; ⟨t, pe_one p, s⟩
theorem zkg (ha : SE X a ma) (hb : SE X (.BoolOp .And (b :: rest) pos) mb) : SE X (.BoolOp .And (a :: b :: rest) pos) (eAnd ma mb) := by
 obtain ⟨ta, pa, sa⟩ := ha
 obtain ⟨tb, pb, sb⟩ := hb
 refine ⟨_, pe_and pa pb, fun B G H σ ρ d ρ' Q I hm k => ?_⟩
 obtain ⟨⟨x, ρ1⟩, e1, e2⟩ := zac hm
 refine sa B G H σ ρ x ρ1 _ I e1 fun G1 H1 v I1 f1 r1 => ?_
 cases x <;> try cases e2
 rename_i y
 refine ⟨y, r1, ?_⟩
 cases y with
 | true => exact sb B G1 H1 σ ρ1 d ρ' Q I1 e2 fun G2 H2 v I2 f2 r2 => k G2 H2 v I2 (f1.trans f2) r2
 | false => cases e2; exact k G1 H1 _ I1 f1 rfl
theorem se_not (ha : SE X a ma) : SE X (.UnaryOp .Not a pos) (m1 dNot ma) := by
 obtain ⟨ta, pa, sa⟩ := ha
 refine ⟨_, pe_not pa, fun B G H σ ρ d ρ' Q I hm k => ?_⟩
 obtain ⟨x, e1, e2⟩ := m1_inv hm
 refine sa B G H σ ρ x ρ' _ I e1 fun G1 H1 v I1 f1 r1 => ?_
 cases x <;> simp only [dNot] at e2 <;> try cases e2
 exact ⟨_, r1, k G1 H1 _ I1 f1 rfl⟩
def eIf (c : MT) (a b : ME) : ME := fun ρ => (c ρ).bind fun p => if p.1 then a p.2 else b p.2
theorem zh3 (hc : STt X c mc) (ha : SE X a ma) (hb : SE X b mb) : SE X (.IfExp c a b pos) (eIf mc ma mb) := by
 obtain ⟨tc, pc, sc⟩ := hc
 obtain ⟨ta, pa, sa⟩ := ha
 obtain ⟨tb, pb, sb⟩ := hb
 refine ⟨_, pe_ifExp pc pa pb, fun B G H σ ρ d ρ' Q I hm k => ?_⟩
 obtain ⟨⟨x, ρ1⟩, e1, e2⟩ := zac hm
 refine sc B G H σ ρ x ρ1 _ I e1 fun G1 H1 I1 f1 => ?_
 cases x with
 | true => exact sa B G1 H1 σ ρ1 d ρ' Q I1 e2 fun G2 H2 v I2 f2 r2 => k G2 H2 v I2 (f1.trans f2) r2
 | false => exact sb B G1 H1 σ ρ1 d ρ' Q I1 e2 fun G2 H2 v I2 f2 r2 => k G2 H2 v I2 (f1.trans f2) r2
end
def zgV (f g : D -> D -> Option D) (a b c : ME) : ME := fun ρ => (a ρ).bind fun p => (b p.2).bind fun q => (f p.1 q.1).bind fun t => match t with
 | .bl true => (c q.2).bind fun r => (g q.1 r.1).map fun d => (d, r.2)
 | .bl false => some (.bl false, q.2)
 | _ => none
section
variable {X : Cx} {a b c : Expr} {ma mb mc : ME} {pos : Pos}
theorem zhg {r r' : R2} {f g : D -> D -> Option D} {ta tb tc : TE} (hv : V2 X r f) (hw : V2 X r' g)
  (sa : ∀ B G H σ ρ d ρ' (Q : VK), SI X.K B G H σ ρ -> ma ρ = some (d, ρ') -> (∀ G' H' v, SI X.K B G' H' σ ρ' -> Fz G G' -> RepD X.K G' v d -> Q v H') -> ta σ H Q)
  (sb : ∀ B G H σ ρ d ρ' (Q : VK), SI X.K B G H σ ρ -> mb ρ = some (d, ρ') -> (∀ G' H' v, SI X.K B G' H' σ ρ' -> Fz G G' -> RepD X.K G' v d -> Q v H') -> tb σ H Q)
  (sc : ∀ B G H σ ρ d ρ' (Q : VK), SI X.K B G H σ ρ -> mc ρ = some (d, ρ') -> (∀ G' H' v, SI X.K B G' H' σ ρ' -> Fz G G' -> RepD X.K G' v d -> Q v H') -> tc σ H Q) :
  ∀ B G H σ ρ d ρ' (Q : VK), SI X.K B G H σ ρ -> zgV f g ma mb mc ρ = some (d, ρ') -> (∀ G' H' v, SI X.K B G' H' σ ρ' -> Fz G G' -> RepD X.K G' v d -> Q v H') -> zmw r r' ta tb tc σ H Q := by
 intro B G H σ ρ d ρ' Q I hm k
 obtain ⟨⟨x, ρ1⟩, e1, h1⟩ := zac hm
 obtain ⟨⟨y, ρ2⟩, e2, h2⟩ := zac h1
 obtain ⟨t, e3, h3⟩ := zac h2
 refine sa B G H σ ρ x ρ1 _ I e1 fun G1 H1 v I1 f1 r1 => sb B G1 H1 σ ρ1 y ρ2 _ I1 e2 fun G2 H2 u I2 f2 r2 => hv B G2 H2 σ ρ2 v u x y t _ I2 (r1.mono f2) r2 e3 fun G3 H3 z I3 f3 r3 => ?_
 cases t <;> try cases h3
 rename_i t
 refine ⟨t, r3, ?_⟩
 cases t with
 | true =>
  obtain ⟨⟨w, ρ3⟩, e4, h4⟩ := zac h3
  obtain ⟨d', e5, e6⟩ := zau h4
  cases e6
  exact sc B G3 H3 σ ρ2 w ρ3 _ I3 e4 fun G4 H4 s I4 f4 r4 => hw B G4 H4 σ ρ3 u s y w d Q I4 (r2.mono (f3.trans f4)) r4 e5 fun G5 H5 z5 I5 f5 r5 => k G5 H5 z5 I5 (f1.trans (f2.trans (f3.trans (f4.trans f5)))) r5
 | false => cases h3; exact k G3 H3 _ I3 (f1.trans (f2.trans f3)) rfl
theorem zjY {r r' : R2} {f g : D -> D -> Option D} (ho : OpR X (compareOp op) r) (ho' : OpR X (compareOp op') r') (hv : V2 X r f) (hw : V2 X r' g) (ha : SE X a ma) (hb : SE X b mb) (hc : SE X c mc)
  (hm : lastMarks [op, op'] [b, c] = false := by with_unfolding_all rfl) : SE X (.Compare a [op, op'] [b, c] pos) (zgV f g ma mb mc) := by
 obtain ⟨ta, pa, sa⟩ := ha
 obtain ⟨tb, pb, sb⟩ := hb
 obtain ⟨tc, pc, sc⟩ := hc
 exact ⟨_, pe_chain ho ho' pa pb pc hm, zhg hv hw sa sb sc⟩
theorem st_chain {r r' : R2} {f g : D -> D -> Option D} (ho : OpR X (compareOp op) r) (ho' : OpR X (compareOp op') r') (hv : V2 X r f) (hw : V2 X r' g) (hB : ∀ x y d, g x y = some d -> ∃ t, d = .bl t) (ha : SE X a ma) (hb : SE X b mb) (hc : SE X c mc)
  (hm : lastMarks [op, op'] [b, c] = false := by with_unfolding_all rfl) : STt X (.Compare a [op, op'] [b, c] pos) (tTru (zgV f g ma mb mc)) := by
 obtain ⟨ta, pa, sa⟩ := ha
 obtain ⟨tb, pb, sb⟩ := hb
 obtain ⟨tc, pc, sc⟩ := hc
 refine ⟨_, pt_chain ho ho' pa pb pc hm, fun B G H σ ρ d ρ' Q I hm k => ?_⟩
 obtain ⟨⟨x, ρ1⟩, e1, e2⟩ := zac hm
 obtain ⟨t, e3, e4⟩ := zau e2
 obtain ⟨rfl, rfl⟩ := Prod.mk.inj e4
 have hx : ∃ t', x = .bl t' := by
  obtain ⟨⟨x', ρ1'⟩, _, h1⟩ := zac e1
  obtain ⟨⟨y', ρ2'⟩, _, h2⟩ := zac h1
  obtain ⟨t', et', h3⟩ := zac h2
  clear et'
  cases t' <;> try cases h3
  rename_i t'
  cases t' with
  | true =>
   obtain ⟨⟨w, ρ3⟩, e4, h4⟩ := zac h3
   obtain ⟨d', e5, e6⟩ := zau h4
   cases e6
   exact hB _ _ _ e5
  | false => cases h3; exact ⟨_, rfl⟩
 obtain ⟨t', rfl⟩ := hx
 obtain rfl : t' = t := Option.some.inj e3
 refine zhg hv hw sa sb sc B G H σ ρ (.bl t') ρ1 _ I e1 fun G1 H1 v I1 f1 r1 => ?_
 cases (show v = V.bl t' from r1)
 exact ⟨t', rfl, k G1 H1 I1 f1⟩
end
inductive Fl where
 | next | brk | cont | ret (r : Sl)
abbrev MS := R -> Option (Fl × R)
def ResOk (K : W.Frag) (B : Bs) (G H : Hp) (v : V) : Sl -> Prop
 | .val d => RepD K G v d
 | .own ds => ∃ l xs, v = .ref l /\ G l = none /\ H l = some (.lst xs) /\ RepL K G xs ds /\ B.H l = none
 | .tre t => ∃ A, RepT K G H v t A /\ A.Nodup /\ ∀ a ∈ A, G a = none /\ B.H a = none
 | .two ds es => ∃ t l xs m ys, v = .ref t /\ H t = some (.tup [.ref l, .ref m]) /\ l ≠ m /\ G l = none /\ H l = some (.lst xs) /\ RepL K G xs ds /\ B.H l = none /\ G m = none /\ H m = some (.lst ys) /\ RepL K G ys es /\ B.H m = none
 | _ => False
def Post (K : W.Frag) (B : Bs) (G : Hp) (E : Ends) (fl : Fl) (ρ' : R) : Prop := match fl with
 | .next => ∀ G' H' σ', SI K B G' H' σ' ρ' -> Fz G G' -> E.nx σ' H'
 | .brk => ∀ G' H' σ', SI K B G' H' σ' ρ' -> Fz G G' -> E.bk σ' H'
 | .cont => ∀ G' H' σ', SI K B G' H' σ' ρ' -> Fz G G' -> E.ct σ' H'
 | .ret r => ∀ G' H' σ' v, SI K B G' H' σ' ρ' -> Fz G G' -> ResOk K B G' H' v r -> E.rt v H'
theorem Post.mono {G G1 : Hp} {E : Ends} {fl : Fl} (h : Post K B G E fl ρ') (f : Fz G G1) : Post K B G1 E fl ρ' := by
 cases fl with
 | next => exact fun G' H' σ' I g => h G' H' σ' I (f.trans g)
 | brk => exact fun G' H' σ' I g => h G' H' σ' I (f.trans g)
 | cont => exact fun G' H' σ' I g => h G' H' σ' I (f.trans g)
 | ret r => exact fun G' H' σ' v I g => h G' H' σ' v I (f.trans g)
def SS (X : Cx) (st : Stmt) (m : MS) : Prop := ∃ t, PS X st t /\ ∀ B G H σ ρ fl ρ' (E : Ends), SI X.K B G H σ ρ -> m ρ = some (fl, ρ') -> Post X.K B G E fl ρ' -> t E σ H
def SSs (X : Cx) (st : List Stmt) (m : MS) : Prop := ∃ t, PSs X st t /\ ∀ B G H σ ρ fl ρ' (E : Ends), SI X.K B G H σ ρ -> m ρ = some (fl, ρ') -> Post X.K B G E fl ρ' -> t E σ H
def zcC : MS := fun ρ => some (.next, ρ)
def sSeq (a b : MS) : MS := fun ρ => (a ρ).bind fun p => match p.1 with
 | .next => b p.2
 | f => some (f, p.2)
section
variable {X : Cx} {st : Stmt} {rest : List Stmt} {m n : MS} {e : Expr} {me : ME} {pos : Pos}
theorem zaX : SSs X [] zcC := ⟨_, pss_nil, fun B G H σ ρ fl ρ' E I hm k => by cases hm; exact k G H σ I (Fz.refl G)⟩
theorem zak (h : SS X st m) : SSs X [st] m := let ⟨t, p, s⟩ := h; ⟨t, pss_one p, s⟩
theorem zae (h : SS X st m) (hr : SSs X rest n) : SSs X (st :: rest) (sSeq m n) := by
 obtain ⟨t, p, s⟩ := h
 obtain ⟨u, q, z⟩ := hr
 refine ⟨_, ziH p q, fun B G H σ ρ fl ρ' E I hm k => ?_⟩
 obtain ⟨⟨f, ρ1⟩, e1, e2⟩ := zac hm
 refine s B G H σ ρ f ρ1 _ I e1 ?_
 cases f with
 | next => exact fun G1 H1 σ1 I1 f1 => z B G1 H1 σ1 ρ1 fl ρ' E I1 e2 (k.mono f1)
 | brk => cases e2; exact k
 | cont => cases e2; exact k
 | ret r => cases e2; exact k
def sExpr (m : ME) : MS := fun ρ => (m ρ).map fun p => (.next, p.2)
theorem ss_expr (h : SE X e me) (hs : swapsWith e none pos.line X.env = pure false := by rfl) : SS X (.Expr e pos) (sExpr me) := by
 obtain ⟨t, p, s⟩ := h
 refine ⟨_, zh6 p hs, fun B G H σ ρ fl ρ' E I hm k => ?_⟩
 obtain ⟨⟨d, ρ1⟩, e1, e2⟩ := zau hm
 cases e2
 exact s B G H σ ρ d ρ1 _ I e1 fun G1 H1 v I1 f1 _ => k G1 H1 σ I1 f1
def sRet (m : ME) : MS := fun ρ => (m ρ).map fun p => (.ret (.val p.1), p.2)
theorem zaL (h : SE X e me) : SS X (.Return (some e) pos) (sRet me) := by
 obtain ⟨t, p, s⟩ := h
 refine ⟨_, zke p, fun B G H σ ρ fl ρ' E I hm k => ?_⟩
 obtain ⟨⟨d, ρ1⟩, e1, e2⟩ := zau hm
 cases e2
 exact s B G H σ ρ d ρ1 _ I e1 fun G1 H1 v I1 f1 r1 => k G1 H1 σ v I1 f1 r1
def zju (m : MO) : MS := fun ρ => (m ρ).map fun p => (.ret (.own p.1), p.2)
theorem zgD {mo : MO} (h : SO X e mo) : SS X (.Return (some e) pos) (zju mo) := by
 obtain ⟨t, p, s⟩ := h
 refine ⟨_, zke p, fun B G H σ ρ fl ρ' E I hm k => ?_⟩
 obtain ⟨⟨d, ρ1⟩, e1, e2⟩ := zau hm
 cases e2
 exact s B G H σ ρ d ρ1 _ I e1 fun G1 H1 l xs I1 f1 g1 h1 r1 b1 _ => k G1 H1 σ _ I1 f1 ⟨l, xs, rfl, g1, h1, r1, b1⟩
theorem SI.emp (I : SI K B G H σ ρ) (i : Nat) : SI K B G H σ (ρ.set i .emp) := by
 by_cases hi : i < ρ.length
 ·have hs : σ[i]? = some (σ[i]'(by rw [I.len]; exact hi)) := List.getElem?_eq_getElem _
  have h := I.chg (i := i) (ov := σ[i]'(by rw [I.len]; exact hi)) (s' := .emp) I.fz (Fz.refl G) I.new I.keep I.there (fun _ _ _ _ _ _ g _ => ⟨g, rfl, id⟩) trivial
  rwa [zhS hs] at h
 ·rw [List.set_eq_of_length_le (by omega)]; exact I
def zjc (i : Nat) : MS := fun ρ => match ρ[i]? with
 | some (.val d) => some (.ret (.val d), ρ)
 | some (.own ds) => some (.ret (.own ds), ρ.set i .emp)
 | _ => none
theorem zhj (i : Nat) (hN : X.N[i]? = some x := by rfl) (hv : Vis X.env.scope x := by first | exact Or.inl rfl | exact Or.inr (Or.inl rfl) | exact Or.inr (Or.inr rfl)) (hd : (x == ("__debug__" : Str)) = false := by decide)
  (hcd : (x == ("__classdict__" : Str)) = false := by decide) : SS X (.Return (some (.Name x pos')) pos) (zjc i) := by
 refine ⟨_, zke (zbj hN hv hd hcd), fun B G H σ ρ fl ρ' E I hm k => ?_⟩
 unfold zjc at hm
 cases e : ρ[i]? with
 | none => rw [e] at hm; cases hm
 | some s =>
  rw [e] at hm
  have h := I.slot i s e
  cases s with
  | emp => cases hm
  | two _ _ => cases hm
  | tre _ => cases hm
  | ptr _ => cases hm
  | par ds => cases hm
  | val d => cases hm; obtain ⟨v, h1, h2⟩ := h; exact ⟨v, h1, k G H σ v I (Fz.refl G) h2⟩
  | own ds =>
   cases hm
   obtain ⟨l, xs, h1, h2, h3, h4, h5⟩ := h
   exact ⟨.ref l, h1, k G H σ _ (I.emp i) (Fz.refl G) ⟨l, xs, rfl, h2, h3, h4, h5⟩⟩
def sIf (c : MT) (a b : MS) : MS := fun ρ => (c ρ).bind fun p => if p.1 then a p.2 else b p.2
theorem zdm {c : Expr} {a b : List Stmt} {ma mb : MS} (hc : STt X c mc) (ha : SSs X a ma) (hb : SSs X b mb) : SS X (.If c a b pos) (sIf mc ma mb) := by
 obtain ⟨tc, pc, sc⟩ := hc
 obtain ⟨ta, pa, sa⟩ := ha
 obtain ⟨tb, pb, sb⟩ := hb
 refine ⟨_, ps_if pc pa pb, fun B G H σ ρ fl ρ' E I hm k => ?_⟩
 obtain ⟨⟨x, ρ1⟩, e1, e2⟩ := zac hm
 refine sc B G H σ ρ x ρ1 _ I e1 fun G1 H1 I1 f1 => ?_
 cases x with
 | true => exact sa B G1 H1 σ ρ1 fl ρ' E I1 e2 (k.mono f1)
 | false => exact sb B G1 H1 σ ρ1 fl ρ' E I1 e2 (k.mono f1)
end
def SG (X : Cx) (tg : Expr) (g : D -> R -> Option R) : Prop := ∃ t, PG X tg t /\ ∀ B G H σ ρ v d ρ' (Q : St -> Hp -> Prop), SI X.K B G H σ ρ -> RepD X.K G v d -> g d ρ = some ρ' -> (∀ G' H' σ', SI X.K B G' H' σ' ρ' -> Fz G G' -> Q σ' H') -> t v σ H Q
def SGs (X : Cx) (tgs : List Expr) (g : List D -> R -> Option R) : Prop := ∃ t, PGs X tgs t /\ ∀ B G H σ ρ vs ds ρ' (Q : St -> Hp -> Prop), SI X.K B G H σ ρ -> RepL X.K G vs ds -> g ds ρ = some ρ' -> (∀ G' H' σ', SI X.K B G' H' σ' ρ' -> Fz G G' -> Q σ' H') -> t vs σ H Q
def gN (i : Nat) : D -> R -> Option R := fun d ρ => some (ρ.set i (.val d))
def zfm : List D -> R -> Option R := fun ds ρ => match ds with
 | [] => some ρ
 | _ => none
def zaN (g : D -> R -> Option R) (h : List D -> R -> Option R) : List D -> R -> Option R := fun ds ρ => match ds with
 | d :: ds => (g d ρ).bind fun ρ1 => h ds ρ1
 | [] => none
def gT (n : Nat) (g : List D -> R -> Option R) : D -> R -> Option R := fun d ρ => match d with
 | .tup ds => if ds.length = n then g ds ρ else none
 | _ => none
section
variable {X : Cx} {pos : Pos}
theorem zal (i : Nat) (hN : X.N.Nodup) (hi : X.N[i]? = some x := by rfl) (hx : Loc X.env.scope x := by first | exact Or.inl rfl | exact Or.inr rfl) (hf : X.fn x = true \/ X.env.scope.names.lookup x = some .local := by first | exact Or.inl rfl | exact Or.inr rfl) : SG X (.Name x pos) (gN i) :=
 ⟨_, zjM hN hi hx hf, fun B G H σ ρ v d ρ' Q I r hm k => by cases hm; exact k G H _ (I.set r) (Fz.refl G)⟩
theorem zbL : SGs X [] zfm := ⟨_, zl3, fun B G H σ ρ vs ds ρ' Q I r hm k => by
 cases ds with
 | nil => cases hm; exact ⟨r, k G H σ I (Fz.refl G)⟩
 | cons => cases hm⟩
theorem zaw {e : Expr} (h1 : SG X e g) (h2 : SGs X es h) (hs : (assignEach (e :: es) X.env).map (·.2) = assign e X.env :: (assignEach es X.env).map (·.2) := by rfl) : SGs X (e :: es) (zaN g h) := by
 obtain ⟨t, p, s⟩ := h1
 obtain ⟨u, q, z⟩ := h2
 refine ⟨_, zkm p q hs, fun B G H σ ρ vs ds ρ' Q I r hm k => ?_⟩
 cases ds with
 | nil => cases hm
 | cons d ds =>
  obtain ⟨x, ys, rfl, rx, ry⟩ := r
  obtain ⟨ρ1, e1, e2⟩ := zac hm
  exact ⟨x, ys, rfl, s B G H σ ρ x d ρ1 _ I rx e1 fun G1 H1 σ1 I1 f1 => z B G1 H1 σ1 ρ1 ys ds ρ' Q I1 (ry.mono f1) e2 fun G2 H2 σ2 I2 f2 => k G2 H2 σ2 I2 (f1.trans f2)⟩
theorem zc6 {g : List D -> R -> Option R} (hc : X.calm = true) (h : SGs X es g) (hn : (assignEach es X.env).length = n := by rfl) (hst : (assignEach es X.env).findIdx? (·.1) = none := by rfl) : SG X (.Tuple es k pos) (gT n g) := by
 obtain ⟨t, p, s⟩ := h
 refine ⟨_, pg_tup hc p hn hst, fun B G H σ ρ v d ρ' Q I r hm k => ?_⟩
 cases d <;> try cases hm
 rename_i ds
 simp only [gT] at hm
 split at hm
 ·rename_i hl
  obtain ⟨a, xs, e, ha, rx⟩ := I.tup r
  exact ⟨a, xs, e, SqT.of ha, by rw [rx.length]; exact hl, s B G H σ ρ xs ds ρ' Q I rx hm k⟩
 ·cases hm
variable {e tg : Expr} {me : ME} {mo : MO}
def sAsg (m : ME) (g : D -> R -> Option R) : MS := fun ρ => (m ρ).bind fun p => (g p.1 p.2).map fun ρ' => (.next, ρ')
theorem zj7 (he : SE X e me) (hg : SG X tg g) (hs : swapsWithSole [tg] e pos.line X.env = pure false := by rfl) (hw : swappedStores [tg] e X.env = pure none := by rfl)
  (h1 : (assignEach [tg] X.env).map (·.2) = [assign tg X.env] := by rfl) : SS X (.Assign [tg] e pos) (sAsg me g) := by
 obtain ⟨t, p, s⟩ := he
 obtain ⟨u, q, z⟩ := hg
 refine ⟨_, zjh p q hs hw h1, fun B G H σ ρ fl ρ' E I hm k => ?_⟩
 obtain ⟨⟨d, ρ1⟩, e1, h2⟩ := zac hm
 obtain ⟨ρ2, e2, e3⟩ := zau h2
 obtain ⟨rfl, rfl⟩ := Prod.mk.inj e3
 exact s B G H σ ρ d ρ1 _ I e1 fun G1 H1 v I1 f1 r1 => z B G1 H1 σ ρ1 v d ρ2 _ I1 r1 e2 fun G2 H2 σ2 I2 f2 => k G2 H2 σ2 I2 (f1.trans f2)
def sSet (i : Nat) (m : ME) : MS := fun ρ => (m ρ).map fun p => (.next, p.2.set i (.val p.1))
theorem zat (i : Nat) (he : SE X e me) (hN : X.N.Nodup) (hi : X.N[i]? = some x := by rfl) (hx : Loc X.env.scope x := by first | exact Or.inl rfl | exact Or.inr rfl) (hs : swapsWith e (some (.Name x pos')) pos.line X.env = pure false := by rfl)
    (hf : X.fn x = true \/ X.env.scope.names.lookup x = some .local := by first | exact Or.inl rfl | exact Or.inr rfl) : SS X (.Assign [.Name x pos'] e pos) (sSet i me) := by
  obtain ⟨t, p, s⟩ := he
  refine ⟨_, zkj hN hi hx p hs hf, fun B G H σ ρ fl ρ' E I hm k => ?_⟩
  obtain ⟨⟨d, ρ1⟩, e1, e3⟩ := zau hm
  cases e3
  exact s B G H σ ρ d ρ1 _ I e1 fun G1 H1 v I1 f1 r1 => k G1 H1 _ (I1.set r1) f1
def zd6 (i : Nat) (m : MO) : MS := fun ρ => (m ρ).map fun p => (.next, p.2.set i (.own p.1))
theorem zbM (i : Nat) (he : SO X e mo) (hN : X.N.Nodup) (hi : X.N[i]? = some x := by rfl) (hx : Loc X.env.scope x := by first | exact Or.inl rfl | exact Or.inr rfl) (hs : swapsWith e (some (.Name x pos')) pos.line X.env = pure false := by rfl)
    (hf : X.fn x = true \/ X.env.scope.names.lookup x = some .local := by first | exact Or.inl rfl | exact Or.inr rfl) : SS X (.Assign [.Name x pos'] e pos) (zd6 i mo) := by
  obtain ⟨t, p, s⟩ := he
  refine ⟨_, zkj hN hi hx p hs hf, fun B G H σ ρ fl ρ' E I hm k => ?_⟩
  obtain ⟨⟨d, ρ1⟩, e1, e3⟩ := zau hm
  cases e3
  exact s B G H σ ρ d ρ1 _ I e1 fun G1 H1 l xs I1 f1 g1 h1 r1 b1 n1 => k G1 H1 _ (I1.setO g1 h1 r1 b1 n1) f1
def sApp (i : Nat) (m : ME) : MS := fun ρ => if (ρ[i]?.bind Sl.items).isSome then (m ρ).bind fun p => p.2[i]?.bind fun s => s.items.bind fun ds => if ds.length < 16777216 then some (.next, p.2.set i (s.put (ds ++ [p.1]))) else none else none
theorem zfY (i : Nat) {pos' apos cpos : Pos} (he : SE X e me) (hN : X.N[i]? = some x := by rfl) (hv : Vis X.env.scope x := by first | exact Or.inl rfl | exact Or.inr (Or.inl rfl) | exact Or.inr (Or.inr rfl)) (hd : (x == ("__debug__" : Str)) = false := by decide)
  (hcd : (x == ("__classdict__" : Str)) = false := by decide)
  (hbase : attributeBase (.Name x pos') "append" X.env (eval (.Name x pos') X.env) = eval (.Name x pos') X.env := by rfl)
  (hfew : ((backTo cpos (starEach [e] X.env)).all (fun x => !x.1) && (backToKw cpos (keywordEach [] X.env)).all (fun x => x.1.isSome)
   && decide ([e].length + ([] : List Keyword).length + (if ([] : List Keyword).isEmpty then 0 else 1) < 30)) = true := by rfl)
  (hline : (apos.endLine == cpos.line) = true := by rfl) (hs : starEach [e] X.env = (false, eval e X.env) :: starEach [] X.env := by rfl) : SS X (.Expr (.Call (.Attribute (.Name x pos') "append" apos) [e] [] cpos) pos) (sApp i me) := by
 obtain ⟨t, p, s⟩ := he
 refine ⟨_, zh6 (pe_bm PySem.F.plainAttrs_list PySem.F.slot_list_append PySem.F.type_list_append zhd (zbj hN hv hd hcd) (zbi p zdA hs) hbase hfew hline hs rfl) (by rfl), fun B G H σ ρ fl ρ' E I hm k => ?_⟩
 unfold sApp at hm
 split at hm
 ·rename_i hso
  obtain ⟨ds0, hso⟩ := Option.isSome_iff_exists.mp hso
  obtain ⟨s0, e0, q0⟩ := zac hso
  obtain ⟨l, xs0, h1, h2, h3, h4⟩ := I.wr e0 q0
  obtain ⟨⟨d, ρ1⟩, e1, hm⟩ := zac hm
  obtain ⟨s1, e2, hm⟩ := zac hm
  obtain ⟨ds, e3, hm⟩ := zac hm
  split at hm
  ·rename_i hl
   cases hm
   refine ⟨.ref l, h1, .inl ⟨rfl, _, SqL.of h3⟩, s B G H σ ρ d ρ1 _ I e1 fun G1 H1 v I1 f1 r1 => ?_⟩
   obtain ⟨l', xs, k1, k2, k3, k4⟩ := I1.wr e2 e3
   rw [h1] at k1; cases k1
   refine ⟨l, xs, v, rfl, rfl, k3, by rw [k4.length, sizeLine_eq]; exact hl, ?_⟩
   exact k G1 _ σ (I1.write e2 e3 h1 (k4.snoc r1)) f1
  ·cases hm
 ·cases hm
def sPut (j : Nat) (mi me : ME) : MS := fun ρ => (me ρ).bind fun p => if hasV p.2 j then (mi p.2).bind fun q => match q.1 with
 | .int k => q.2[j]?.bind fun s => s.items.bind fun ds => (ixN ds.length k).bind fun n => some (.next, q.2.set j (s.put (ds.set n p.1)))
 | _ => none else none
theorem zkc (j : Nat) {i : Expr} {mi : ME} {pos' tpos : Pos} (he : SE X e me) (hi : SE X i mi) (hN : X.N[j]? = some x := by rfl) (hv : Vis X.env.scope x := by first | exact Or.inl rfl | exact Or.inr (Or.inl rfl) | exact Or.inr (Or.inr rfl)) (hd : (x == ("__debug__" : Str)) = false := by decide)
  (hcd : (x == ("__classdict__" : Str)) = false := by decide)
  (ha : ∀ v, assign (.Subscript (.Name x pos') i tpos) X.env v = (do
   let ov <- holding [v] (eval (.Name x pos') X.env)
   let iv <- holding [v, ov] (eval i X.env)
   standAt tpos
   holding [v, ov, iv] (setItem ov iv v)
   release [v, ov, iv] []) := by exact fun _ => rfl)
  (hs : swapsWithSole [.Subscript (.Name x pos') i tpos] e pos.line X.env = pure false := by rfl) (hw : swappedStores [.Subscript (.Name x pos') i tpos] e X.env = pure none := by rfl)
  (h1 : (assignEach [.Subscript (.Name x pos') i tpos] X.env).map (·.2) = [assign (.Subscript (.Name x pos') i tpos) X.env] := by rfl) : SS X (.Assign [.Subscript (.Name x pos') i tpos] e pos) (sPut j mi me) := by
 obtain ⟨t, p, s⟩ := he
 obtain ⟨u, q, z⟩ := hi
 refine ⟨_, zjh p (zmn (zbj hN hv hd hcd) q zg1 ha) hs hw h1, fun B G H σ ρ fl ρ' E I hm k => ?_⟩
 obtain ⟨⟨d, ρ1⟩, e1, hm⟩ := zac hm
 refine s B G H σ ρ d ρ1 _ I e1 fun G1 H1 v I1 f1 r1 => ?_
 split at hm
 ·rename_i hh
  obtain ⟨w, ew⟩ := I1.has hh
  obtain ⟨⟨kd, ρ2⟩, e2, hm⟩ := zac hm
  cases kd <;> try cases hm
  rename_i kk
  obtain ⟨s2, e3, hm⟩ := zac hm
  obtain ⟨ds, e4, hm⟩ := zac hm
  obtain ⟨n, e5, hm⟩ := zac hm
  cases hm
  refine ⟨w, ew, z B G1 H1 σ ρ1 (.int kk) ρ2 _ I1 e2 fun G2 H2 y I2 f2 r2 => ?_⟩
  obtain ⟨l, xs, k1, k2, k3, k4⟩ := I2.wr e3 e4
  rw [ew] at k1; cases k1
  refine ⟨l, xs, kk, n, rfl, r2, k3, by rw [k4.length]; exact e5, ?_⟩
  exact k G2 _ σ (I2.write e3 e4 ew (k4.set n (r1.mono f2))) (f1.trans f2)
 ·cases hm
end
structure Itm (K : W.Frag) (J : It) (G : Hp) (items : List D) : Prop where
 go : ∀ H i, Fz G H -> i < items.length -> J.go i H
 yld : ∀ H i x H', Fz G H -> J.yld i H x H' -> ∀ d, items[i]? = some d -> (H' = H /\ RepD K G x d) \/ ∃ p xs ds, H p = none /\ H' = upd H p (.tup xs) /\ x = .ref p /\ d = .tup ds /\ RepL K G xs ds
 stop : ∀ H i, Fz G H -> items.length <= i -> J.stop i H
def SIt (X : Cx) (tg it : Expr) (m : MA) : Prop := ∃ wi, PI X tg it wi /\ ∀ B G H σ ρ ds ρ' (Q : It -> Hp -> Prop), SI X.K B G H σ ρ -> m ρ = some (ds, ρ') -> (∀ J G' H', SI X.K B G' H' σ ρ' -> Fz G G' -> Itm X.K J G' ds -> Q J H') -> wi σ H Q
def forM (f : D -> R -> Option (Fl × R)) : List D -> R -> Option (Fl × R)
 | [], ρ => some (.next, ρ)
 | d :: ds, ρ => (f d ρ).bind fun p => match p.1 with
  | .next => forM f ds p.2
  | .cont => forM f ds p.2
  | .brk => some (.next, p.2)
  | .ret r => some (.ret r, p.2)
def sFor (mi : MA) (g : D -> R -> Option R) (mb : MS) : MS := fun ρ => (mi ρ).bind fun p => forM (fun d ρ => (g d ρ).bind fun ρ' => mb ρ') p.1 p.2
theorem SI.yld {x : V} (I : SI K B G H σ ρ)
  (h : (H' = H /\ RepD K G x d) \/ ∃ p xs ds, H p = none /\ H' = upd H p (.tup xs) /\ x = .ref p /\ d = .tup ds /\ RepL K G xs ds) : ∃ G', SI K B G' H' σ ρ /\ Fz G G' /\ RepD K G' x d := by
 rcases h with ⟨rfl, r⟩ | ⟨p, xs, ds, hp, rfl, rfl, rfl, r⟩
 ·exact ⟨G, I, Fz.refl G, r⟩
 ·obtain ⟨I2, f2, r2⟩ := I.newT hp r
  exact ⟨_, I2, f2, r2⟩
theorem zbh {tg it : Expr} {mi : MA} {mb : MS} (hp : PassesOwn (model X.prog X.w) X.A X.env X.xe) (hc : X.calm = true) (hi : SIt X tg it mi) (hg : SG X tg g) (hb : SSs X body mb)
    (hs : ∀ x, foldedSetIterable it X.env x = pure x := by exact fun _ => rfl) : SS X (.For tg it body [] pos) (sFor mi g mb) := by
  obtain ⟨wi, pi, si⟩ := hi
  obtain ⟨tg', pg, sg⟩ := hg
  obtain ⟨tb, pb, sb⟩ := hb
  refine ⟨_, ps_for hp hc pi pg pb hs, fun B G H σ ρ fl ρ' E I hm k => ?_⟩
  obtain ⟨⟨ds, ρ1⟩, e1, hm⟩ := zac hm
  refine si B G H σ ρ ds ρ1 _ I e1 fun J G1 H1 I1 f1 IT => ?_
  refine ⟨fun i m σ H => m = ds.length - i /\ i <= ds.length /\ ∃ G2 ρ2, SI X.K B G2 H σ ρ2 /\ Fz G1 G2 /\ forM (fun d ρ => (g d ρ).bind fun ρ' => mb ρ') (ds.drop i) ρ2 = some (fl, ρ'), ⟨ds.length, by simp, Nat.zero_le _, G1, ρ1, I1, Fz.refl _, by simpa using hm⟩, ?_⟩
  rintro i m σ2 H2 ⟨rfl, hi, G2, ρ2, I2, f2, e2⟩
  by_cases hlt : i < ds.length
  . rw [List.drop_eq_getElem_cons hlt] at e2
    simp only [forM] at e2
    obtain ⟨⟨f, ρ3⟩, e3, e4⟩ := zac e2
    obtain ⟨ρ2', e5, e6⟩ := zac e3
    have fz2 : Fz G1 H2 := f2.trans I2.fz
    refine .inr ⟨IT.go H2 i fz2 hlt, fun σ' H' => (∃ G3, SI X.K B G3 H' σ' ρ3 /\ Fz G1 G3) /\ (f = .next \/ f = .cont), ?_, fun x H' y => ?_⟩
    . rintro σ' H' ⟨⟨G3, I3, f3⟩, hf⟩
      refine ⟨ds.length - (i + 1), by omega, rfl, hlt, G3, ρ3, I3, f3, ?_⟩
      rcases hf with rfl | rfl <;> exact e4
    . have yy := IT.yld H2 i x H' fz2 y ds[i] (List.getElem?_eq_getElem hlt)
      have yy2 : (H' = H2 /\ RepD X.K G2 x ds[i]) \/ ∃ p xs es, H2 p = none /\ H' = upd H2 p (.tup xs) /\ x = .ref p /\ ds[i] = .tup es /\ RepL X.K G2 xs es := by
        rcases yy with ⟨a, b⟩ | ⟨p, xs, es, a, b, c, d, e⟩
        . exact .inl ⟨a, b.mono f2⟩
        . exact .inr ⟨p, xs, es, a, b, c, d, e.mono f2⟩
      obtain ⟨G3, I3, f3, r3⟩ := I2.yld yy2
      refine sg B G3 H' σ2 ρ2 x ds[i] ρ2' _ I3 r3 e5 fun G4 H4 σ4 I4 f4 => sb B G4 H4 σ4 ρ2' f ρ3 _ I4 e6 ?_
      have ff : Fz G1 G4 := f2.trans (f3.trans f4)
      cases f with
      | next => exact fun G5 H5 σ5 I5 f5 => ⟨⟨G5, I5, ff.trans f5⟩, .inl rfl⟩
      | cont => exact fun G5 H5 σ5 I5 f5 => ⟨⟨G5, I5, ff.trans f5⟩, .inr rfl⟩
      | brk => cases e4; exact fun G5 H5 σ5 I5 f5 => k G5 H5 σ5 I5 (f1.trans (ff.trans f5))
      | ret r => cases e4; exact fun G5 H5 σ5 v I5 f5 => k G5 H5 σ5 v I5 (f1.trans (ff.trans f5))
  . have e : i = ds.length := by omega
    subst e
    rw [List.drop_length] at e2
    cases e2
    exact .inl ⟨IT.stop H2 _ (f2.trans I2.fz) (Nat.le_refl _), k G2 H2 σ2 I2 (f1.trans f2)⟩
section
variable {X : Cx} {tg it : Expr} {me : ME}
def iSeq (m : ME) : MA := fun ρ => (m ρ).bind fun p => (za9 [p.1]).map fun ds => (ds, p.2)
theorem pi_or {l : Expr} {tl : TE} (hl : PE X l tl) : PI X tg l (fun σ H R => tl σ H fun x H1 => ∃ a, x = .ref a /\ (((∃ xs, SqL X.K H1 a xs) /\ R (Itl X.K a) H1) \/ ((∃ xs, SqT X.K H1 a xs) /\ R (Itt X.K a) H1))) := by
 intro pins s σ H R I h
 refine thn (hl pins s σ H _ I h) fun v s1 ⟨x, H1, I1, r1, q1⟩ => ?_
 obtain ⟨a, e, q⟩ := q1
 subst e
 cases r1
 rcases q with ⟨⟨xs, hq⟩, q⟩ | ⟨⟨xs, hq⟩, q⟩
 ·obtain ⟨its, rv, p, hz⟩ := I1.list hq
  refine wpAny_pyIter_list p.isList ?_
  refine ⟨s1.heap.objs.size, [s1.heap.objs.size], _, _, H1, rfl, I1.kept (t' := s1.toks) fun b o e => Heap.get?_push_of_some _ e, zlh a _, ⟨_, Heap.get?_push_size _ rfl, rfl, rfl⟩, fun b hb => ?_, q⟩
  have e : b = s1.heap.objs.size := by simpa using hb
  subst e
  exact I1.fpOk (Nat.le_refl _) (I1.hok.fresh (Nat.le_refl _))
 ·obtain ⟨its, rv, p, hz⟩ := I1.tuple hq
  refine wpAny_pyIter_tuple (show s1.heap.IsTuple a its.toArray from p) ?_
  refine ⟨s1.heap.objs.size, [s1.heap.objs.size], _, _, H1, rfl, I1.kept (t' := s1.toks) fun b o e => Heap.get?_push_of_some _ e, zk1 a _, ⟨_, Heap.get?_push_size _ rfl, rfl, rfl⟩, fun b hb => ?_, q⟩
  have e : b = s1.heap.objs.size := by simpa using hb
  subst e
  exact I1.fpOk (Nat.le_refl _) (I1.hok.fresh (Nat.le_refl _))
theorem zkx {a : Addr} (hg : SqL K G a xs) (r : RepL K G xs ds) : Itm K (Itl K a) G ds where
 go := fun H i f hi => by
  have hl := r.length
  exact ⟨xs, xs[i], f.sql hg, List.getElem?_eq_getElem (by omega)⟩
 yld := fun H i x H' f y d e => by
  obtain ⟨rfl, y⟩ := y
  have hx := y xs (f.sql hg)
  obtain ⟨x', h1, h2⟩ := r.get e
  rw [hx] at h1; cases h1
  exact .inl ⟨rfl, h2⟩
 stop := fun H i f hi => ⟨xs, f.sql hg, by rw [r.length]; exact hi⟩
theorem itm_tup {a : Addr} (hg : G a = some (.tup xs)) (r : RepL K G xs ds) : Itm K (Itt K a) G ds where
 go := fun H i f hi => by
  have hl := r.length
  exact ⟨xs, xs[i], SqT.of (f _ _ hg), List.getElem?_eq_getElem (by omega)⟩
 yld := fun H i x H' f y d e => by
  obtain ⟨rfl, y⟩ := y
  have hx := y xs (SqT.of (f _ _ hg))
  obtain ⟨x', h1, h2⟩ := r.get e
  rw [hx] at h1; cases h1
  exact .inl ⟨rfl, h2⟩
 stop := fun H i f hi => ⟨xs, SqT.of (f _ _ hg), by rw [r.length]; exact hi⟩
theorem zbf (h : SE X it me) : SIt X tg it (iSeq me) := by
 obtain ⟨t, p, s⟩ := h
 refine ⟨_, pi_or p, fun B G H σ ρ ds ρ' Q I hm k => ?_⟩
 obtain ⟨⟨d, ρ1⟩, e1, hm⟩ := zac hm
 obtain ⟨es, e2, e3⟩ := zau hm
 cases e3
 refine s B G H σ ρ d ρ1 _ I e1 fun G1 H1 v I1 f1 r1 => ?_
 cases d <;> simp only [za9] at e2 <;> try cases e2
 ·obtain ⟨a, xs, rfl, ha, r⟩ := r1
  exact ⟨a, rfl, .inl ⟨⟨xs, SqL.of (I1.fz _ _ ha)⟩, k _ G1 H1 I1 f1 (zkx (SqL.of ha) r)⟩⟩
 ·obtain ⟨a, xs, rfl, ha, r⟩ := r1
  exact ⟨a, rfl, .inr ⟨⟨xs, SqT.of (I1.fz _ _ ha)⟩, k _ G1 H1 I1 f1 (itm_tup ha r)⟩⟩
 ·obtain ⟨a, rfl, ha⟩ := r1
  exact ⟨a, rfl, .inl ⟨⟨_, I1.fz.sql ha⟩, k _ G1 H1 I1 f1 (zkx ha (RepL.ints _))⟩⟩
end
def zdc (lo : Int) (n : Nat) : List D := (List.range n).map fun (i : Nat) => D.int (lo + (i : Int))
theorem zmt (lo : Int) (n : Nat) : Itm K (Itr lo n) G (zdc lo n) where
 go := fun H i f hi => by show i < n; simpa [zdc] using hi
 yld := fun H i x H' f y d e => by
  obtain ⟨rfl, rfl⟩ := y
  unfold zdc at e
  rw [List.getElem?_map] at e
  cases q : (List.range n)[i]? with
  | none => rw [q] at e; cases e
  | some j =>
   rw [q] at e
   have hj : j = i := by
    have := List.getElem?_eq_some_iff.mp q
    obtain ⟨h1, h2⟩ := this
    simpa using h2.symm
   subst hj
   cases e
   exact .inl ⟨rfl, rfl⟩
 stop := fun H i f hi => by show n <= i; simpa [zdc] using hi
def zd4 (j : Int) : Bool := decide (-1000000000000 <= j) && decide (j <= 1000000000000)
theorem zeQ {j : Int} (h : zd4 j = true) : -(2 ^ 62) <= j /\ j < 2 ^ 62 := by
 unfold zd4 at h
 simp only [Bool.and_eq_true, decide_eq_true_eq] at h
 omega
def iR1 (ma : MA) : MA := fun ρ => (ma ρ).bind fun p => match p.1 with
 | [.int j] => if zd4 j then some (zdc 0 j.toNat, p.2) else none
 | _ => none
section
variable {X : Cx} {tg a b : Expr} {ma : MA} {p pos : Pos}
theorem zax (hm : X.mg "range" = none) (ha : SA X [a] ma) (hg : Gl X "range" := by rfl) (hs : starEach [a] X.env = [(false, eval a X.env)] := by rfl) : SIt X tg (.Call (.Name "range" p) [a] [] pos) (iR1 ma) := by
 obtain ⟨t, pa, sa⟩ := ha
 refine ⟨_, zlu hg hm pa hs, fun B G H σ ρ ds ρ' Q I hm k => ?_⟩
 obtain ⟨⟨es, ρ1⟩, e1, h2⟩ := zac hm
 dsimp only at h2
 refine sa B G H σ ρ es ρ1 _ I e1 fun G1 H1 vs I1 f1 r1 => ?_
 split at h2
 ·rename_i j
  split at h2
  ·rename_i hj
   cases h2
   obtain ⟨x, rfl, rx⟩ := r1.one
   cases (show x = V.int j from rx)
   exact ⟨j, rfl, (zeQ hj).1, (zeQ hj).2, k _ G1 H1 I1 f1 (zmt 0 _)⟩
  ·cases h2
 ·cases h2
end
def ResF (K : W.Frag) (G' H' H : Hp) (v : V) : Sl -> Prop
 | .val d => RepD K G' v d
 | .own ds => ∃ l xs, v = .ref l /\ G' l = none /\ H' l = some (.lst xs) /\ RepL K G' xs ds /\ H l = none
 | .tre t => ∃ A, RepT K G' H' v t A /\ A.Nodup /\ ∀ a ∈ A, G' a = none /\ H a = none
 | .two ds es => ∃ t l xs m ys, v = .ref t /\ H' t = some (.tup [.ref l, .ref m]) /\ l ≠ m /\ G' l = none /\ H' l = some (.lst xs) /\ RepL K G' xs ds /\ H l = none /\ G' m = none /\ H' m = some (.lst ys) /\ RepL K G' ys es /\ H m = none
 | _ => False
def spP (K : W.Frag) (n : Nat) (F : List D -> Option Sl) : Sp := fun vs H Q _ => ∃ G ds r, F ds = some r /\ ds.length = n /\ Fz G H /\ RepL K G vs ds /\
 ∀ G' H' v, Fz G G' -> Fz G' H' -> (∀ b o, G' b = some o -> G b ≠ none \/ H b = none) -> Fz H H' -> ResF K G' H' H v r -> Q v H'
def spM (K : W.Frag) (n : Nat) (F : List D -> List D -> Option (Sl × List D)) : Sp := fun vs H Q _ => ∃ G l xs cs ws ds r out, vs = .ref l :: ws /\ F cs ds = some (r, out) /\ ds.length + 1 = n /\ Fz G H /\ G l = none /\ H l = some (.lst xs) /\ RepL K G xs cs /\ RepL K G ws ds /\
 ∀ G' H' v ys, Fz G G' -> Fz G' H' -> (∀ b o, G' b = some o -> G b ≠ none \/ H b = none) -> (∀ b o, b ≠ l -> H b = some o -> H' b = some o) -> G' l = none -> H' l = some (.lst ys) -> RepL K G' ys out -> ResF K G' H' H v r -> Q v H'
def fP (N : Nat) (m : MS) : List D -> Option Sl := fun ds => (m (ds.map .val ++ List.replicate (N - ds.length) .emp)).bind fun p => match p.1 with
 | .ret r => some r
 | .next => some (.val .non)
 | _ => none
def fM (N : Nat) (m : MS) : List D -> List D -> Option (Sl × List D) := fun cs ds => (m (.par cs :: (ds.map .val ++ List.replicate (N - (ds.length + 1)) .emp))).bind fun p => match p.1, (p.2[0]? : Option Sl) with
 | Fl.ret r, some (Sl.par out) => some (r, out)
 | Fl.next, some (Sl.par out) => some (.val .non, out)
 | _, _ => none
theorem zho (h : vs.length <= N.length) : (L2.start N vs).length = N.length := by
 unfold L2.start
 rw [List.length_append, List.length_map, List.length_replicate]
 omega
theorem SI.start (fz : Fz G H) (r : RepL K G vs ds) (h : ds.length <= N.length) :
  SI K ⟨G, H, []⟩ G H (L2.start N vs) (ds.map .val ++ List.replicate (N.length - ds.length) .emp) where
 fz := fz
 g0 := Fz.refl G
 new := fun b o e => .inl (by show G b ≠ none; rw [e]; simp)
 keep := fun b o e _ => e
 there := fun b e => e
 ob := fun i b m => by cases m
 len := by rw [zho (by rw [r.length]; exact h), List.length_append, List.length_map, List.length_replicate]; omega
 slot := fun i s e => by
  by_cases hi : i < ds.length
  ·rw [List.getElem?_append_left (by simpa using hi), List.getElem?_map, List.getElem?_eq_getElem hi] at e
   cases e
   obtain ⟨x, h1, h2⟩ := r.get (List.getElem?_eq_getElem hi)
   refine ⟨x, ?_, h2⟩
   unfold L2.start
   rw [List.getElem?_append_left (by rw [List.length_map, r.length]; exact hi), List.getElem?_map, h1]
   rfl
  ·rw [List.getElem?_append_right (by simpa using hi), List.getElem?_replicate] at e
   split at e
   ·cases e; trivial
   ·cases e
 dis := fun i j s _ a _ e _ w => by
  exfalso
  by_cases hi : i < ds.length
  ·rw [List.getElem?_append_left (by simpa using hi), List.getElem?_map, List.getElem?_eq_getElem hi] at e
   cases e; exact w
  ·rw [List.getElem?_append_right (by simpa using hi), List.getElem?_replicate] at e
   split at e
   ·cases e; exact w
   ·cases e
theorem SI.startM (fz : Fz G H) (hg : G l = none) (hl : H l = some (.lst xs)) (rc : RepL K G xs cs) (r : RepL K G vs ds) (h : ds.length + 1 <= N.length) :
  SI K ⟨G, H, [(0, l)]⟩ G H (L2.start N (.ref l :: vs)) (.par cs :: (ds.map .val ++ List.replicate (N.length - (ds.length + 1)) .emp)) where
 fz := fz
 g0 := Fz.refl G
 new := fun b o e => .inl (by show G b ≠ none; rw [e]; simp)
 keep := fun b o e _ => e
 there := fun b e => e
 ob := fun i b m => by
  have : b = l := ((by simpa using m) : i = 0 /\ b = l).2
  subst this
  show H b ≠ none
  rw [hl]; simp
 len := by
  have := r.length
  rw [zho (by rw [List.length_cons, r.length]; exact h), List.length_cons, List.length_append, List.length_map, List.length_replicate]; omega
 slot := fun i s e => by
  cases i with
  | zero => simp at e; subst e; exact ⟨l, xs, rfl, hg, hl, rc, by simp⟩
  | succ i =>
   rw [List.getElem?_cons_succ] at e
   by_cases hi : i < ds.length
   ·rw [List.getElem?_append_left (by simpa using hi), List.getElem?_map, List.getElem?_eq_getElem hi] at e
    cases e
    obtain ⟨x, h1, h2⟩ := r.get (List.getElem?_eq_getElem hi)
    refine ⟨x, ?_, h2⟩
    unfold L2.start
    rw [List.map_cons, List.cons_append, List.getElem?_cons_succ, List.getElem?_append_left (by rw [List.length_map, r.length]; exact hi), List.getElem?_map, h1]
    rfl
   ·rw [List.getElem?_append_right (by simpa using hi), List.getElem?_replicate] at e
    split at e
    ·cases e; trivial
    ·cases e
 dis := fun i j s t a hij hi hj w1 w2 => by
  have z : ∀ (i : Nat) (s : Sl), (Sl.par cs :: (ds.map .val ++ List.replicate (N.length - (ds.length + 1)) .emp))[i]? = some s -> OwS K G H (L2.start N (.ref l :: vs))[i]? a s -> i = 0 := fun i s e q => by
   cases i with
   | zero => rfl
   | succ i =>
    exfalso
    rw [List.getElem?_cons_succ] at e
    by_cases hi : i < ds.length
    ·rw [List.getElem?_append_left (by simpa using hi), List.getElem?_map, List.getElem?_eq_getElem hi] at e
     cases e; exact q
    ·rw [List.getElem?_append_right (by simpa using hi), List.getElem?_replicate] at e
     split at e
     ·cases e; exact q
     ·cases e
  exact hij ((z i s hi w1).trans (z j t hj w2).symm)
section
variable {P : Program} {w : World} {K : W.Frag} {mg : Str -> Option Value} {base : Heap}
theorem fnP_ok {st : Stmt} {f : Addr} (F : Fun K x qual st f fd) (S : FnScope N ps (zaJ st)) (hn : ps.length = n) (hN : n <= N.length)
  (body : ∀ (cdv : Value) (A : Around) (outer : List Env) (s : Shared) (H : Hp) (E : XK), Room k (A.deeper (envOfC qual (zaJ st) s.heap.objs.size f cdv)) -> SSs (cxOf CX0 P w K mg base N qual (zaJ st) f cdv A outer s H E).nox (zbW st) m) :
  FnOk P w K mg base CX0 (k + 1) f fd ps (spP K n (fP N.length m)) := by
 refine F.ok S (fun vs H Q E h => ?_) (fun cdv A outer s H vs Q E hr h => ?_)
 ·obtain ⟨G, ds, r, _, h2, _, h4, _⟩ := h
  rw [h4.length, h2, hn]
 ·obtain ⟨G, ds, r, e1, h2, fz, h4, kk⟩ := h
  obtain ⟨t, pt, so⟩ := body cdv A outer s H E hr
  refine ⟨t, pt, ?_⟩
  obtain ⟨⟨fl, ρ'⟩, e2, e3⟩ := zac e1
  refine so ⟨G, H, []⟩ G H (L2.start N vs) _ fl ρ' _ (SI.start fz h4 (by omega)) e2 ?_
  have fin : ∀ G' H' σ' v, SI K ⟨G, H, []⟩ G' H' σ' ρ' -> Fz G G' -> ResF K G' H' H v r -> Q v H' := fun G' H' σ' v I f rr => kk G' H' v f I.fz I.new (fun b o e => I.keep b o e (by simp)) rr
  cases fl with
  | next => cases e3; exact fun G' H' σ' I f => fin G' H' σ' .non I f rfl
  | brk => cases e3
  | cont => cases e3
  | ret r' =>
   cases e3
   refine fun G' H' σ' v I f rr => fin G' H' σ' v I f ?_
   cases r with
   | val d => exact rr
   | own ds => exact rr
   | emp => exact rr
   | two _ _ => exact rr
   | tre _ => exact rr
   | ptr _ => exact rr
   | par ds => exact rr
theorem fnM_ok {st : Stmt} {f : Addr} (F : Fun K x qual st f fd) (S : FnScope N ps (zaJ st)) (hn : ps.length = n) (hN : n <= N.length)
  (body : ∀ (cdv : Value) (A : Around) (outer : List Env) (s : Shared) (H : Hp) (E : XK), Room k (A.deeper (envOfC qual (zaJ st) s.heap.objs.size f cdv)) -> SSs (cxOf CX0 P w K mg base N qual (zaJ st) f cdv A outer s H E).nox (zbW st) m) :
  FnOk P w K mg base CX0 (k + 1) f fd ps (spM K n (fM N.length m)) := by
 refine F.ok S (fun vs H Q E h => ?_) (fun cdv A outer s H vs Q E hr h => ?_)
 ·obtain ⟨G, l, xs, cs, ws, ds, r, out, rfl, _, h2, _, _, _, _, h4, _⟩ := h
  rw [List.length_cons, h4.length, h2, hn]
 ·obtain ⟨G, l, xs, cs, ws, ds, r, out, rfl, e1, h2, fz, hg, hl, rc, h4, kk⟩ := h
  obtain ⟨t, pt, so⟩ := body cdv A outer s H E hr
  refine ⟨t, pt, ?_⟩
  obtain ⟨⟨fl, ρ'⟩, e2, e3⟩ := zac e1
  refine so ⟨G, H, [(0, l)]⟩ G H _ _ fl ρ' _ (SI.startM fz hg hl rc h4 (by omega)) e2 ?_
  have fin : ∀ G' H' σ' v, ρ'[0]? = some (.par out) -> SI K ⟨G, H, [(0, l)]⟩ G' H' σ' ρ' -> Fz G G' -> ResF K G' H' H v r -> Q v H' := fun G' H' σ' v e0 I f rr => by
   obtain ⟨l', ys, k1, k2, k3, k4, k5⟩ := I.slot 0 _ e0
   have : l' = l := by simpa using k5
   subst this
   exact kk G' H' v ys f I.fz I.new (fun b o hb e => I.keep b o e (fun i hm => by simp at hm; exact hb hm.2)) k2 k3 k4 rr
  cases e0 : ρ'[0]? with
  | none => rw [e0] at e3; cases fl <;> cases e3
  | some s0 =>
   rw [e0] at e3
   cases s0 with
   | emp => cases fl <;> cases e3
   | two _ _ => cases fl <;> cases e3
   | tre _ => cases fl <;> cases e3
   | ptr _ => cases fl <;> cases e3
   | val d => cases fl <;> cases e3
   | own d => cases fl <;> cases e3
   | par o2 =>
    cases fl with
    | next => cases e3; exact fun G' H' σ' I f => fin G' H' σ' .non e0 I f rfl
    | brk => cases e3
    | cont => cases e3
    | ret r' =>
     cases e3
     refine fun G' H' σ' v I f rr => fin G' H' σ' v e0 I f ?_
     cases r with
     | val d => exact rr
     | own ds => exact rr
     | emp => exact rr
     | two _ _ => exact rr
     | tre _ => exact rr
     | ptr _ => exact rr
     | par ds => exact rr
end
structure FD (P : Program) (w : World) (K : W.Frag) (mg : Str -> Option Value) (base : Heap) (k : Nat) (x : Str) (sp : Sp) : Prop where
 ex : ∃ f fd ps, FnOk P w K mg base CX0 k f fd ps sp /\ mg x = some (.ref f) /\ W.keepIn K (.ref f) = true /\ Binds K fd ps []
theorem zlQ (nw : ∀ b o, G' b = some o -> G b ≠ none \/ H b = none) (kp : Fz H H') : ∀ (i : Nat) (s : Sl) (a : Addr), ρ[i]? = some s -> OwS K G H σ[i]? a s -> G a = none -> H a ≠ none -> G' a = none /\ H' a = H a := fun i s a _ _ g h => by
 obtain ⟨u, hu⟩ := Option.ne_none_iff_exists'.mp h
 refine ⟨?_, (kp a u hu).trans hu.symm⟩
 cases q : G' a with
 | none => rfl
 | some u =>
  rcases nw a u q with z | z
  ·exact absurd g z
  ·exact absurd z h
theorem SI.grow (I : SI K B G H σ ρ) (f : Fz G G') (fz : Fz G' H') (nw : ∀ b o, G' b = some o -> G b ≠ none \/ H b = none) (kp : Fz H H') : SI K B G' H' σ ρ :=
 I.move fz f (fun b o e => by
  rcases nw b o e with h | h
  ·cases q : G b with
   | none => exact absurd q h
   | some u => exact I.new b u q
  ·exact .inr (I.there b h)) (fun b o e n => kp b o (I.keep b o e n)) (fun b e => I.there b (kp.free e)) (zlQ nw kp)
theorem SI.own_ne (I : SI K B G H σ ρ) (hp : H p = none) (nw : ∀ b o, G' b = some o -> G b ≠ none \/ H b = none) (kp : Fz H H') : Nw K G' H' σ ρ p := I.nw_move (I.nw hp) (zlQ nw kp)
def zaU (F : List D -> Option Sl) (ma : MA) : ME := fun ρ => (ma ρ).bind fun p => (F p.1).bind fun r => match r with
 | .val d => some (d, p.2)
 | .own ds => some (.lst ds, p.2)
 | _ => none
def oCall (F : List D -> Option Sl) (ma : MA) : MO := fun ρ => (ma ρ).bind fun p => (F p.1).bind fun r => match r with
 | .own ds => some (ds, p.2)
 | _ => none
section
variable {X : Cx} {x : Str} {p pos : Pos} {e : Expr} {es : List Expr} {ma : MA} {k k' n : Nat} {F : List D -> Option Sl}
theorem zaq (fd : FD X.prog X.w X.K X.mg X.base k x (spP X.K n F)) (hr : Room k' X.A) (ha : SA X (e :: es) ma) (hn : (e :: es).length = n := by rfl) (hk : k <= k' := by decide) (hg : Gl X x := by rfl) (hdb : (x == ("__debug__" : Str)) = false := by decide)
  (he : starEach (e :: es) X.env = (false, eval e X.env) :: starEach es X.env := by rfl) (hpl : (backTo pos (starEach es X.env)).any (·.1) = false := by rfl) (hlen : ∀ ρ as ρ', ma ρ = some (as, ρ') -> as.length = n) : SE X (.Call (.Name x p) (e :: es) [] pos) (zaU F ma) := by
 obtain ⟨f, fdd, ps, G0, h1, h2, h3⟩ := fd.ex
 obtain ⟨t, pa, sa⟩ := ha
 refine ⟨_, zhy G0 (hr.mono hk) hg h1 h2 h3 .nil zmp pa hdb he hpl, fun B G H σ ρ d ρ' Q I hm kk => ?_⟩
 obtain ⟨⟨as, ρ1⟩, e1, hm⟩ := zac hm
 obtain ⟨r, e2, hm⟩ := zac hm
 refine sa B G H σ ρ as ρ1 _ I e1 fun G1 H1 vs I1 f1 r1 => ?_
 show spP X.K n F (vs ++ []) H1 Q E0
 rw [List.append_nil]
 refine ⟨G1, as, r, e2, hlen ρ as ρ1 e1, I1.fz, r1, fun G2 H2 v f2 fz2 nw kp rr => ?_⟩
 have I2 := I1.grow f2 fz2 nw kp
 cases r with
 | val d' => cases hm; exact kk G2 H2 v I2 (f1.trans f2) rr
 | own ds =>
  cases hm
  obtain ⟨l, xs, rfl, g3, h3, r3, b3⟩ := rr
  obtain ⟨I3, f3, r4⟩ := zhT I2 g3 h3 r3 (I1.there l b3) (I1.own_ne b3 nw kp)
  exact kk _ H2 _ I3 (f1.trans (f2.trans f3)) r4
 | emp => cases hm
 | two _ _ => cases hm
 | tre _ => cases hm
 | ptr _ => cases hm
 | par _ => cases hm
theorem so_call (fd : FD X.prog X.w X.K X.mg X.base k x (spP X.K n F)) (hr : Room k' X.A) (ha : SA X (e :: es) ma) (hn : (e :: es).length = n := by rfl) (hk : k <= k' := by decide) (hg : Gl X x := by rfl) (hdb : (x == ("__debug__" : Str)) = false := by decide)
  (he : starEach (e :: es) X.env = (false, eval e X.env) :: starEach es X.env := by rfl) (hpl : (backTo pos (starEach es X.env)).any (·.1) = false := by rfl) (hlen : ∀ ρ as ρ', ma ρ = some (as, ρ') -> as.length = n) : SO X (.Call (.Name x p) (e :: es) [] pos) (oCall F ma) := by
 obtain ⟨f, fdd, ps, G0, h1, h2, h3⟩ := fd.ex
 obtain ⟨t, pa, sa⟩ := ha
 refine ⟨_, zhy G0 (hr.mono hk) hg h1 h2 h3 .nil zmp pa hdb he hpl, fun B G H σ ρ d ρ' Q I hm kk => ?_⟩
 obtain ⟨⟨as, ρ1⟩, e1, hm⟩ := zac hm
 obtain ⟨r, e2, hm⟩ := zac hm
 refine sa B G H σ ρ as ρ1 _ I e1 fun G1 H1 vs I1 f1 r1 => ?_
 show spP X.K n F (vs ++ []) H1 Q E0
 rw [List.append_nil]
 refine ⟨G1, as, r, e2, hlen ρ as ρ1 e1, I1.fz, r1, fun G2 H2 v f2 fz2 nw kp rr => ?_⟩
 have I2 := I1.grow f2 fz2 nw kp
 cases r with
 | val d' => cases hm
 | own ds =>
  cases hm
  obtain ⟨l, xs, rfl, g3, h3, r3, b3⟩ := rr
  exact kk G2 H2 l xs I2 (f1.trans f2) g3 h3 r3 (I1.there l b3) (I1.own_ne b3 nw kp)
 | emp => cases hm
 | two _ _ => cases hm
 | tre _ => cases hm
 | ptr _ => cases hm
 | par _ => cases hm
end
def aLen (ma : MA) (n : Nat) : Prop := ∀ ρ as ρ', ma ρ = some (as, ρ') -> as.length = n
theorem zaj : aLen aNil 0 := fun ρ as ρ' h => by cases h; rfl
theorem zad {m : ME} {r : MA} (h : aLen r n) : aLen (zag m r) (n + 1) := fun ρ as ρ' e => by
 obtain ⟨⟨d, ρ1⟩, _, h2⟩ := zac e
 obtain ⟨⟨ds, ρ2⟩, e3, e4⟩ := zau h2
 cases e4
 rw [List.length_cons, h ρ1 ds ρ2 e3]
def za0 (F : List D -> List D -> Option (Sl × List D)) (j : Nat) (ma : MA) : ME := fun ρ => if (ρ[j]?.bind Sl.items).isSome then (ma ρ).bind fun p => p.2[j]?.bind fun s => s.items.bind fun cs => (F cs p.1).bind fun r => match r.1 with
 | .val d => some (d, p.2.set j (s.put r.2))
 | .own ds => some (.lst ds, p.2.set j (s.put r.2))
 | _ => none else none
theorem SI.growW (I : SI K B G H σ ρ) (e : ρ[j]? = some s) (q : s.items = some cs) (hl : σ[j]? = some (some (.ref l)))
  (f : Fz G G') (fz : Fz G' H') (nw : ∀ b o, G' b = some o -> G b ≠ none \/ H b = none) (kp : ∀ b o, b ≠ l -> H b = some o -> H' b = some o) (gl : G' l = none) (hl' : H' l = some (.lst ys)) (r : RepL K G' ys out) : SI K B G' H' σ (ρ.set j (s.put out)) :=
 I.chgW e q hl fz f nw kp gl hl' r
theorem SI.own_neW (I : SI K B G H σ ρ) (e : ρ[j]? = some s) (q : s.items = some cs) (hl : σ[j]? = some (some (.ref l))) (hp : H p = none)
  (nw : ∀ b o, G' b = some o -> G b ≠ none \/ H b = none) (kp : ∀ b o, b ≠ l -> H b = some o -> H' b = some o) : Nw K G' H' σ (ρ.set j (s.put out)) p := fun i t et w => by
 obtain ⟨l', xs, e1, e2, e3, e4⟩ := I.wr e q
 rw [hl] at e1; cases e1
 have hpl : p ≠ l := fun z => by rw [z, e3] at hp; cases hp
 by_cases z : i = j
 ·subst z
  rw [List.getElem?_set, if_pos rfl] at et
  split at et
  ·cases et
   have := (zaE (zds q out)).mp w
   rw [hl] at this
   exact hpl (V.ref.inj (Option.some.inj (Option.some.inj this))).symm
  ·cases et
 ·rw [List.getElem?_set_ne (Ne.symm z)] at et
  have sl := I.slot i t et
  refine (sl.own (sl.back (fun a w g h => ?_) w)).2.1 hp
  have na : a ≠ l := fun w' => by subst w'; exact I.dis i j t s a z et e w ((zaE q).mpr hl)
  obtain ⟨u, hu⟩ := Option.ne_none_iff_exists'.mp h
  refine ⟨?_, (kp a u na hu).trans hu.symm⟩
  cases q2 : G' a with
  | none => rfl
  | some u =>
   rcases nw a u q2 with z | z
   ·exact absurd g z
   ·exact absurd z h
section
variable {X : Cx} {x y : Str} {p py pos : Pos} {es : List Expr} {ma : MA} {k k' n : Nat} {F : List D -> List D -> Option (Sl × List D)}
theorem soundM {t : TA} {Q : VK} (sa : ∀ B G H σ ρ ds ρ' (Q : List V -> Hp -> Prop), SI X.K B G H σ ρ -> ma ρ = some (ds, ρ') -> (∀ G' H' vs, SI X.K B G' H' σ ρ' -> Fz G G' -> RepL X.K G' vs ds -> Q vs H') -> t σ H Q)
  (hlen : ∀ ρ as ρ', ma ρ = some (as, ρ') -> as.length + 1 = n) (I : SI X.K B G H σ ρ) {ds0 : List D} (h0 : ρ[j]?.bind Sl.items = some ds0) {as : List D} {ρ1 : R} (e1 : ma ρ = some (as, ρ1)) {s : Sl} (e2 : ρ1[j]? = some s) {cs : List D} (e3 : s.items = some cs)
  {r : Sl} {out : List D} (e4 : F cs as = some (r, out))
  (kk : ∀ G' H' v, SI X.K B G' H' σ (ρ1.set j (s.put out)) -> Fz G G' -> True -> (∃ H1, ResF X.K G' H' H1 v r /\ (∀ b, H1 b = none -> B.H b = none) /\ ∀ b, H1 b = none -> Nw X.K G' H' σ (ρ1.set j (s.put out)) b) -> Q v H') :
  tCall (spM X.K n F) [] E0 (tCons (tVar j) t) σ H Q := by
 obtain ⟨s0, k0, q0⟩ := zac h0
 obtain ⟨l, xs0, h1, h2, h3, h4⟩ := I.wr k0 q0
 refine ⟨.ref l, h1, sa B G H σ ρ as ρ1 _ I e1 fun G1 H1 vs I1 f1 r1 => ?_⟩
 show spM X.K n F ((.ref l :: vs) ++ []) H1 Q E0
 rw [List.append_nil]
 obtain ⟨l', xs, m1, m2, m3, m4⟩ := I1.wr e2 e3
 rw [h1] at m1; cases m1
 refine ⟨G1, l, xs, cs, vs, as, r, out, rfl, e4, hlen ρ as ρ1 e1, I1.fz, m2, m3, m4, r1, fun G2 H2 v ys f2 fz2 nw kp gl hl r2 rr => ?_⟩
 exact kk G2 H2 v (I1.growW e2 e3 h1 f2 fz2 nw kp gl hl r2) (f1.trans f2) trivial ⟨H1, rr, fun b hb => I1.there b hb, fun b hb => I1.own_neW e2 e3 h1 hb nw kp⟩
theorem zaB (j : Nat) (fd : FD X.prog X.w X.K X.mg X.base k x (spM X.K n F)) (hr : Room k' X.A) (ha : SA X es ma) (hlen : ∀ ρ as ρ', ma ρ = some (as, ρ') -> as.length + 1 = n) (hN : X.N[j]? = some y := by rfl) (hv : Vis X.env.scope y := by first | exact Or.inl rfl | exact Or.inr (Or.inl rfl) | exact Or.inr (Or.inr rfl)) (hd : (y == ("__debug__" : Str)) = false := by decide)
  (hcd : (y == ("__classdict__" : Str)) = false := by decide) (hk : k <= k' := by decide) (hg : Gl X x := by rfl) (hdb : (x == ("__debug__" : Str)) = false := by decide)
  (he : starEach (.Name y py :: es) X.env = (false, eval (.Name y py) X.env) :: starEach es X.env := by rfl) (hpl : (backTo pos (starEach es X.env)).any (·.1) = false := by rfl) : SE X (.Call (.Name x p) (.Name y py :: es) [] pos) (za0 F j ma) := by
 obtain ⟨f, fdd, ps, G0, h1, h2, h3⟩ := fd.ex
 obtain ⟨t, pa, sa⟩ := ha
 refine ⟨_, zhy G0 (hr.mono hk) hg h1 h2 h3 .nil zmp (zbi (zbj hN hv hd hcd) pa he) hdb he hpl, fun B G H σ ρ d ρ' Q I hm kk => ?_⟩
 unfold za0 at hm
 split at hm
 ·rename_i hso
  obtain ⟨ds0, hso⟩ := Option.isSome_iff_exists.mp hso
  obtain ⟨⟨as, ρ1⟩, e1, hm⟩ := zac hm
  obtain ⟨s, e2, hm⟩ := zac hm
  obtain ⟨cs, e3, hm⟩ := zac hm
  obtain ⟨⟨r, out⟩, e4, hm⟩ := zac hm
  refine soundM sa hlen I hso e1 e2 e3 e4 fun G' H' v I' f' _ ⟨H1, rr, bb, nn⟩ => ?_
  cases r with
  | val d' => cases hm; exact kk G' H' v I' f' rr
  | own ds =>
   cases hm
   obtain ⟨l, xs, rfl, g3, h3, r3, b3⟩ := rr
   obtain ⟨I3, f3, r4⟩ := zhT I' g3 h3 r3 (bb l b3) (nn l b3)
   exact kk _ H' _ I3 (f'.trans f3) r4
  | emp => cases hm
  | two _ _ => cases hm
  | tre _ => cases hm
  | ptr _ => cases hm
  | par _ => cases hm
 ·cases hm
end
def zeG (env : Env) (cs : List (Str × Addr)) (x : Str × NameKind) : List (Str × Addr) := if x.2 == .free then (x.1, (env.cells.lookup x.1).getD 0) :: cs else cs
def clOf (scope : Scope) (env : Env) : List (Str × Addr) := scope.names.foldl (zeG env) []
theorem zgO : ∀ (names : List (Str × NameKind)) (cs : List (Str × Addr)), (∀ y ∈ names, y.2 = .free -> ∃ c, env.cells.lookup y.1 = some c) ->
  (forIn names cs (fun x r => if x.2 == NameKind.free then do let a <- cellOf env x.1; pure (ForInStep.yield ((x.1, a) :: r)) else pure (ForInStep.yield r)) : Sem (List (Str × Addr))) = pure (names.foldl (zeG env) cs)
 | [], cs, _ => rfl
 | (n, k) :: r, cs, h => by
  have ih := fun cs' => zgO r cs' (fun y hy => h y (List.mem_cons_of_mem _ hy))
  rw [List.forIn_cons, List.foldl_cons]
  by_cases hk : (k == NameKind.free) = true
  ·obtain ⟨c, hc⟩ := h (n, k) List.mem_cons_self (by simpa using hk)
   have e : zeG env cs (n, k) = (n, c) :: cs := by unfold zeG; simp [hk, hc]
   rw [e, <- ih]
   simp only [hk, if_true]
   unfold cellOf
   simp only at hc
   rw [hc]
   rfl
  ·have e : zeG env cs (n, k) = cs := by unfold zeG; simp [hk]
   rw [e, <- ih]
   simp only [hk]
   rfl
theorem zkQ {env : Env} (h : ∀ y ∈ scope.names, y.2 = .free -> ∃ c, env.cells.lookup y.1 = some c) : closureFor scope env = pure (clOf scope env) := by
 unfold closureFor clOf
 have e := zgO (env := env) scope.names [] h
 simp only [bind_pure]
 exact e
theorem zdp : ∀ {names : List (Str × NameKind)} {cs : List (Str × Addr)}, (∀ y ∈ names, y.2 = .free -> ∃ c, env.cells.lookup y.1 = some c) -> (cs.lookup x = some c -> env.cells.lookup x = some c) ->
  (names.foldl (zeG env) cs).lookup x = some c -> env.cells.lookup x = some c
 | [], cs, _, h0, h => h0 h
 | (n, k) :: r, cs, hn, h0, h => by
  rw [List.foldl_cons] at h
  refine zdp (names := r) (fun y hy => hn y (List.mem_cons_of_mem _ hy)) ?_ h
  intro q
  unfold zeG at q
  split at q
  ·rename_i hk
   obtain ⟨c', hc⟩ := hn (n, k) List.mem_cons_self (by simpa using hk)
   rw [List.lookup_cons] at q
   simp only at hc
   by_cases z : (x == n) = true
   ·rw [z] at q
    have zz : x = n := by simpa using z
    subst zz
    simp only [hc, Option.getD_some] at q
    rw [hc]; exact q
   ·have z' : (x == n) = false := by simpa using z
    rw [z'] at q; exact h0 q
  ·exact h0 q
theorem zel : ∀ {names : List (Str × NameKind)} {cs : List (Str × Addr)}, ((x, NameKind.free) ∈ names \/ (cs.lookup x).isSome = true) -> ((names.foldl (zeG env) cs).lookup x).isSome = true
 | [], cs, h => by
  rcases h with h | h
  ·simp at h
  ·exact h
 | (n, k) :: r, cs, h => by
  rw [List.foldl_cons]
  refine zel (names := r) ?_
  rcases h with h | h
  ·rcases List.mem_cons.mp h with h | h
   ·cases h
    refine .inr ?_
    unfold zeG
    simp
   ·exact .inl h
  ·refine .inr ?_
   unfold zeG
   split
   ·rw [List.lookup_cons]
    by_cases z : (x == n) = true
    ·rw [z]; rfl
    ·have z' : (x == n) = false := by simpa using z
     rw [z']; exact h
   ·exact h
theorem zhp : ∀ {names : List (Str × NameKind)} {n : Nat} {acc : List (Str × Addr)}, (cellsFrom n names acc).lookup x = some c -> (n <= c /\ (x, NameKind.cell) ∈ names) \/ acc.lookup x = some c
 | [], n, acc, h => .inr h
 | (m, k) :: r, n, acc, h => by
  unfold cellsFrom at h
  split at h
  ·rename_i hk
   have hk' : k = .cell := by simpa using hk
   subst hk'
   rcases zhp h with ⟨h1, h2⟩ | h1
   ·exact .inl ⟨Nat.le_of_succ_le h1, List.mem_cons_of_mem _ h2⟩
   ·rw [List.lookup_cons] at h1
    cases q : x == m with
    | true =>
     rw [q] at h1
     cases h1
     rw [beq_iff_eq.mp q]
     exact .inl ⟨Nat.le_refl _, List.mem_cons_self⟩
    | false => rw [q] at h1; exact .inr h1
  ·rcases zhp h with ⟨h1, h2⟩ | h1
   ·exact .inl ⟨h1, List.mem_cons_of_mem _ h2⟩
   ·exact .inr h1
theorem zj3 : ∀ {names : List (Str × NameKind)} {n : Nat} {acc : List (Str × Addr)}, (x, NameKind.cell) ∉ names -> (cellsFrom n names acc).lookup x = acc.lookup x
 | [], n, acc, _ => rfl
 | (m, k) :: r, n, acc, h => by
  unfold cellsFrom
  split
  ·rename_i hk
   have hk' : k = .cell := by simpa using hk
   subst hk'
   rw [zj3 fun z => h (List.mem_cons_of_mem _ z), List.lookup_cons]
   cases q : x == m with
   | true => exact absurd (by rw [beq_iff_eq.mp q]; exact List.mem_cons_self) h
   | false => rfl
  ·exact zj3 fun z => h (List.mem_cons_of_mem _ z)
theorem zkp : ∀ {names : List (Str × NameKind)} {n : Nat} {acc : List (Str × Addr)}, (x, NameKind.cell) ∈ names -> ∃ c, (cellsFrom n names acc).lookup x = some c /\ n <= c
 | (m, k) :: r, n, acc, h => by
  unfold cellsFrom
  by_cases hr : (x, NameKind.cell) ∈ r
  ·split
   ·obtain ⟨c, h1, h2⟩ := zkp (n := n + 1) (acc := (m, n) :: acc) hr
    exact ⟨c, h1, Nat.le_of_succ_le h2⟩
   ·exact zkp hr
  ·rcases List.mem_cons.mp h with e | e
   ·cases e
    rw [if_pos (beq_self_eq_true _), zj3 hr, List.lookup_cons, beq_self_eq_true]
    exact ⟨n, rfl, Nat.le_refl _⟩
   ·exact absurd e hr
theorem zlM : ∀ {names : List (Str × NameKind)} {n : Nat} {acc : List (Str × Addr)}, (∀ x c, acc.lookup x = some c -> c < n) -> (∀ x y c, acc.lookup x = some c -> acc.lookup y = some c -> x = y) ->
  ∀ x y c, (cellsFrom n names acc).lookup x = some c -> (cellsFrom n names acc).lookup y = some c -> x = y
 | [], n, acc, _, hi => hi
 | (m, k) :: r, n, acc, hl, hi => by
  unfold cellsFrom
  split
  ·refine zlM (fun x c h => ?_) (fun x y c h1 h2 => ?_)
   ·rw [List.lookup_cons] at h
    cases q : x == m with
    | true => rw [q] at h; cases h; exact Nat.lt_succ_self _
    | false => rw [q] at h; exact Nat.lt_succ_of_lt (hl x c h)
   ·rw [List.lookup_cons] at h1 h2
    cases q : x == m with
    | true =>
     rw [q] at h1
     cases h1
     cases q2 : y == m with
     | true => rw [beq_iff_eq.mp q, beq_iff_eq.mp q2]
     | false => rw [q2] at h2; exact absurd (hl y n h2) (Nat.lt_irrefl _)
    | false =>
     rw [q] at h1
     cases q2 : y == m with
     | true => rw [q2] at h2; cases h2; exact absurd (hl x n h1) (Nat.lt_irrefl _)
     | false => rw [q2] at h2; exact hi x y c h1 h2
  ·exact zlM hl hi
theorem zjG : ∀ {names : List (Str × NameKind)} {h : Heap} {acc : List (Str × Addr)}, (∀ x c, acc.lookup x = some c -> ∃ v, h.IsCell c v) -> ∀ x c, (cellsFrom h.objs.size names acc).lookup x = some c -> ∃ v, (pushCells h names).IsCell c v
 | [], h, acc, ha => ha
 | (m, k) :: r, h, acc, ha => by
  unfold cellsFrom pushCells
  split
  ·intro x c e
   rw [<- Heap.size_push h { cls := .type "cell", data := .cell none }] at e
   refine zjG (fun y d q => ?_) x c e
   rw [List.lookup_cons] at q
   cases z : y == m with
   | true => rw [z] at q; cases q; exact ⟨none, _, Heap.get?_push_size _ rfl, rfl⟩
   | false =>
    rw [z] at q
    obtain ⟨v, hv⟩ := ha y d q
    exact ⟨v, hv.keeps fun b o e => Heap.get?_push_of_some _ e⟩
  ·exact zjG ha
theorem zjJ {M : Model} {s : Shared} {globals : Addr} {Q : Env -> Shared -> Prop}
  (hQ : ∀ h' : Heap, h'.Ns s.heap.objs.size (fun _ => none) -> (∀ a o, s.heap.get? a = some o -> h'.get? a = some o) ->
   ((∀ x c, cl.lookup x = some c -> ∃ v, s.heap.IsCell c v) -> ∀ x c, (cellsFrom (s.heap.objs.size + 1) scope.names cl).lookup x = some c -> ∃ v, h'.IsCell c v) ->
   Q (newEnv scope s.heap.objs.size globals (cellsFrom (s.heap.objs.size + 1) scope.names cl) qual none .none (some env) builtinsNs) { s with heap := h' }) :
  wpAny M A (newFunctionEnv scope globals cl [] qual none .none (some env)) Q E s := by
 simp only [newFunctionEnv, Option.isSome_some, if_true]
 refine wpAny_bind (wpAny_alloc ?_)
 refine wpAny_bind (wpAny_layCells _ (fun name kind cells => by cases hkc : kind == NameKind.cell <;> simp [hkc]) _ _ _ _ ?_)
 rw [show ({ s with heap := s.heap.push { cls := .type "dict", data := .dict #[] } } : Shared).heap.objs.size = s.heap.objs.size + 1 from Heap.size_push ..]
 refine wpAny_bind ?_
 rw [List.forIn_nil]
 refine wpAny_pure (wpAny_pure (hQ _ ((Heap.Ns.new s.heap (.type "dict")).keeps (pushCells_keeps _ _)) (fun a o e => pushCells_keeps _ _ a o (Heap.get?_push_of_some _ e)) fun hc x c e => ?_))
 rw [<- Heap.size_push s.heap { cls := .type "dict", data := .dict #[] }] at e
 refine zjG (fun y d q => ?_) x c e
 obtain ⟨v, hv⟩ := hc y d q
 exact ⟨v, hv.keeps fun b o e => Heap.get?_push_of_some _ e⟩
def clC (scope : Scope) (env : Env) (C : Addr) : List (Str × Addr) := cellsFrom (C + 1) scope.names (clOf scope env)
def ownC (scope : Scope) (x : Str) : Bool := match scope.names.lookup x with
 | some .cell => true
 | _ => false
def cxC (X : Cx) (N : List Str) (scope : Scope) (C : Addr) (s : Shared) (H : Hp) (fp : List Addr) : Cx :=
 { X with N := N, s₀ := s, H₀ := H, env := compEnvC scope (clC scope X.env C) C X.env, outer := X.stack, ex := fp, fn := ownC scope, pn := [], xe := fun _ _ => False }
structure BlkOk (X : Cx) (scope : Scope) : Prop where
 kind : scope.kind = .function
 uniq : ∀ y ∈ scope.names, scope.names.lookup y.1 = some y.2
 free : ∀ y ∈ scope.names, y.2 = .free -> X.env.kindOf y.1 = some .cell \/ X.env.kindOf y.1 = some .free
theorem zfi {α : Type} {v : α} : ∀ {l : List (Str × α)}, l.lookup x = some v -> (x, v) ∈ l
 | [], h => by simp at h
 | (n, w) :: r, h => by
  rw [List.lookup_cons] at h
  by_cases z : (x == n) = true
  ·rw [z] at h
   have zz : x = n := by simpa using z
   subst zz
   cases h
   exact List.mem_cons_self
  ·have z' : (x == n) = false := by simpa using z
   rw [z'] at h
   exact List.mem_cons_of_mem _ (zfi h)
theorem zdn {env : Env} {x : Str} : ∀ {names : List (Str × NameKind)}, (names.map fun (n, k) => if (k == NameKind.free && env.scope.kind == .function && env.kindOf n == some .cell) then (n, NameKind.cell) else (n, k)).lookup x =
  (names.lookup x).map fun k => if (k == NameKind.free && env.scope.kind == .function && env.kindOf x == some .cell) then NameKind.cell else k
 | [] => rfl
 | (n, k) :: r => by
  have ih := zdn (env := env) (x := x) (names := r)
  show List.lookup x ((if (k == NameKind.free && env.scope.kind == .function && env.kindOf n == some .cell) = true then (n, NameKind.cell) else (n, k)) :: _) = _
  cases hx : x == n with
  | true =>
   have zz : x = n := by simpa using hx
   by_cases hc : (k == NameKind.free && env.scope.kind == .function && env.kindOf n == some .cell) = true
   ·rw [if_pos hc]
    simp only [List.lookup_cons, hx, Option.map_some]
    rw [zz, if_pos hc]
   ·rw [if_neg hc]
    simp only [List.lookup_cons, hx, Option.map_some]
    rw [zz, if_neg hc]
  | false =>
   by_cases hc : (k == NameKind.free && env.scope.kind == .function && env.kindOf n == some .cell) = true
   ·rw [if_pos hc]; simp only [List.lookup_cons, hx]; exact ih
   ·rw [if_neg hc]; simp only [List.lookup_cons, hx]; exact ih
section
variable {X : Cx} {pins : List (Addr × Obj)} {σ : St} {H : Hp} {s : Shared} {scope : Scope} {N : List Str} {fp : List Addr} {C : Addr}
theorem zhx (I : Inv X pins σ H s) (b : BlkOk X scope) : ∀ y ∈ scope.names, y.2 = .free -> ∃ c, X.env.cells.lookup y.1 = some c := fun y hy hf => I.ok.has y.1 (b.free y hy hf)
theorem blk_vis (h : (relabel scope X.env).names.lookup x = some .cell \/ (relabel scope X.env).names.lookup x = some .free) : (x, NameKind.free) ∈ scope.names \/ (x, NameKind.cell) ∈ scope.names := by
 have e : (relabel scope X.env).names.lookup x = (scope.names.lookup x).map fun k => if (k == NameKind.free && X.env.scope.kind == .function && X.env.kindOf x == some .cell) then NameKind.cell else k := zdn
 rw [e] at h
 cases q : scope.names.lookup x with
 | none => rw [q] at h; simp at h
 | some k =>
  have hm := zfi q
  by_cases hk : k = .free
  ·subst hk; exact .inl hm
  ·rw [q] at h
   have hkf : (k == NameKind.free) = false := by simpa using hk
   simp only [Option.map_some, hkf, Bool.false_and, Bool.false_eq_true, if_false, Option.some.injEq] at h
   rcases h with h | h
   ·subst h; exact .inr hm
   ·exact absurd h hk
theorem zgm (I : Inv X pins σ H s) (b : BlkOk X scope) (h : (clOf scope X.env).lookup x = some c) : X.env.cells.lookup x = some c := zdp (zhx I b) (by simp) h
theorem zgw (I : Inv X pins σ H s) (b : BlkOk X scope) (h : (clC scope X.env C).lookup x = some c) : C < c \/ X.env.cells.lookup x = some c := by
 rcases zhp h with ⟨h1, _⟩ | h1
 ·exact .inl h1
 ·exact .inr (zgm I b h1)
theorem zkb (b : BlkOk X scope) (h : (x, NameKind.free) ∈ scope.names) : (clC scope X.env C).lookup x = (clOf scope X.env).lookup x := zj3 fun z => by
 have h1 := b.uniq _ h
 have h2 := b.uniq _ z
 simp only at h1 h2
 rw [h1] at h2
 cases h2
theorem blk_ok (I : Inv X pins σ H s) (b : BlkOk X scope) (hC : s.heap.objs.size <= C) (hf : ∀ b ∈ fp, FpOk X pins H b) (hfC : ∀ b ∈ fp, b < C) : (cxC X N scope C s H fp).Ok where
 mod := I.ok.mod
 kind := b.kind
 glob := I.ok.glob
 blt := I.ok.blt
 above := hC
 inj := zlM (fun x c h => by
  obtain ⟨v, hv⟩ := I.cell x c (zgm I b h)
  exact Nat.lt_succ_of_lt (Nat.lt_of_lt_of_le hv.lt hC)) fun x y c h1 h2 => I.ok.inj x y c (zgm I b h1) (zgm I b h2)
 has := fun x hx => by
  rcases blk_vis (x := x) hx with hm | hm
  ·show ∃ c, (clC scope X.env C).lookup x = some c
   rw [zkb b hm]
   exact Option.isSome_iff_exists.mp (zel (.inl hm))
  ·obtain ⟨c, h, _⟩ := zkp (n := C + 1) (acc := clOf scope X.env) hm
   exact ⟨c, h⟩
 cab := fun x c h e => by
  have h' : ownC scope x = true := h
  unfold ownC at h'
  split at h'
  ·rename_i q
   obtain ⟨c', h1, h2⟩ := zkp (n := C + 1) (acc := clOf scope X.env) (zfi q)
   have e' : some c' = some c := h1.symm.trans e
   cases e'
   exact Nat.le_trans hC (Nat.le_of_succ_le h2)
  ·cases h'
 hd := I.ok.hd
 frames := I.ok.frames
 stk := .inl rfl
 exf := fun a ha => ⟨Nat.ne_of_lt (hfC a ha), fun x c e z => by
  rcases zgw I b e with q | q
  ·exact Nat.lt_asymm q (z ▸ hfC a ha)
  ·exact (hf a ha).2.2.2.2.1 x c q z⟩
 bs := I.bs
 bsz := Nat.le_trans I.ok.bsz I.sz
 noex := fun a o e ha => by
  rcases (hf a ha).2.2.2.1 with z | z
  ·exact I.ok.noex a o e z
  ·exact absurd (Nat.lt_of_lt_of_le (Heap.lt_size e) (Nat.le_trans I.ok.bsz z)) (Nat.lt_irrefl _)
 exfs := fun a ha hs => by
  rcases List.mem_cons.mp (I.stkSub a hs) with z | z
  ·exact (hf a ha).2.1 z
  ·exact (hf a ha).2.2.1 z
 funs := I.stack
 frf := I.stkFree
theorem zlz {tk : Nat} (I : Inv X pins σ H s) (b : BlkOk X scope) (hf : ∀ b ∈ fp, FpOk X pins H b) (hfs : ∀ b ∈ fp, b < s.heap.objs.size)
  (hns : h'.Ns s.heap.objs.size (fun _ => none)) (hk : ∀ a o, s.heap.get? a = some o -> h'.get? a = some o) (hcl : ∀ x c, (clC scope X.env s.heap.objs.size).lookup x = some c -> ∃ v, h'.IsCell c v) (hl : σc.length = N.length)
  (hσ : ∀ (i : Nat) (x : Str) (v : V), N[i]? = some x -> σc[i]? = some (some v) -> (x, NameKind.free) ∈ scope.names /\ ∃ j : Nat, X.N[j]? = some x /\ σ[j]? = some (some v)) (hloc : ∀ (i : Nat) (x : Str) (v : V), N[i]? = some x -> σc[i]? = some (some v) -> ¬ (relabel scope X.env).names.lookup x = some .local) :
  Inv (cxC X N scope s.heap.objs.size s H fp) [] σc H { s with heap := h', toks := tk } := by
 have ok := blk_ok (N := N) I b (Nat.le_refl _) hf hfs
 refine ⟨ok, rfl, I.bare, Un.kept hk, ⟨_, hns, fun i x v h1 h2 h3 => ?_⟩, fun x c e => ?_, I.hok.fresh (Nat.le_refl _), fun x c e => ?_, fun p hp => absurd (show p ∈ ([] : List (Addr × Obj)) from hp) (by simp), I.hok.kept hk, hl⟩
 ·obtain ⟨hm, j, hj, hv⟩ := hσ i x v h1 h2
  have hkind := b.free _ hm rfl
  obtain ⟨m, hn, hloc'⟩ := I.loc
  have hvis : Vis X.env.scope x := by
   rcases hkind with z | z
   ·exact .inr (.inl z)
   ·exact .inr (.inr z)
  obtain ⟨u, ru, lk⟩ := hloc' j x v hj hv hvis
  refine ⟨u, ru, ?_⟩
  rcases lk with ⟨z, _⟩ | ⟨_, c, ec, hc⟩
  ·exfalso
   rcases hkind with w | w <;> simp only at w <;> rw [z] at w <;> cases w
  ·refine .inr ⟨?_, c, ?_, ?_⟩
   ·rcases h3 with z | z | z
    ·exact absurd z (hloc i x v h1 h2)
    ·exact .inl z
    ·exact .inr z
   ·have hs : ((clOf scope X.env).lookup x).isSome = true := zel (.inl hm)
    obtain ⟨c', ec'⟩ := Option.isSome_iff_exists.mp hs
    have := zdp (zhx I b) (by simp) ec'
    rw [ec] at this
    cases this
    exact (zkb b hm).trans ec'
   ·obtain ⟨o, ho, hd⟩ := hc
    exact ⟨o, hk _ _ ho, hd⟩
 ·exact hcl x c e
 ·rcases zgw I b e with q | q
  ·exact I.hok.fresh (Nat.le_of_lt q)
  ·exact I.freeC x c q
theorem zlX {h' : Heap} {s1 : Shared} (I : Inv X pins σ H s) (hf : ∀ b ∈ fp, FpOk X pins H b) (J : Inv (cxC X N scope s.heap.objs.size s H fp) [] σc H' s1) (hs : Heap.SameBut s.heap.objs.size s1.heap h') : Inv X pins σ H' { s1 with heap := h' } := by
 have kp : ∀ a o, a ≠ s.heap.objs.size -> s1.heap.get? a = some o -> h'.get? a = some o := fun a o ha e => hs.extBut a o ha e
 have free : H' s.heap.objs.size = none := J.free
 have ntr : ∀ a u, H' a = some u -> a ≠ s.heap.objs.size := fun a u e z => by rw [z, free] at e; cases e
 have lt : ∀ a o, s.heap.get? a = some o -> a ≠ s.heap.objs.size := fun a o e => Nat.ne_of_lt (Heap.lt_size e)
 have u : Un (frs X.stack) fp H H' s.heap s1.heap := J.base
 have u' : Un (frs X.stack) fp H H' s.heap h' := by
  refine ⟨fun a o e n hb hx => kp a o (lt a o e) (u.keep a o e n hb hx), fun a o e n hb hx => ?_, u.free, fun a o e hx => ?_, u.tups, u.frzs, u.tbls⟩
  ·obtain ⟨sl, q⟩ := u.slot a o e n hb hx
   exact ⟨sl, kp a _ (lt a o e) q⟩
  ·obtain ⟨o', q⟩ := u.there a o e hx
   exact ⟨o', kp a _ (lt a o e) q⟩
 have hok : HOk X.prog X.w H' h' := fun a o e => (J.hok a o e).stay (fun c v hc q => by
  refine kp c v ?_ q
  rcases hc with rfl | hc
  ·exact ntr _ _ e
  ·exact ntr _ _ hc) (fun _ q => q) fun _ _ q => q
 obtain ⟨hh, g, d, t, os'⟩ := s1
 have os : os' = s.os := J.os
 subst os
 have z := I.call (h' := h') (g' := g) (d' := d) (t' := t) (ch := fp) u' hok J.bare (fun a ha => ⟨(hf a ha).2.2.2.1, (hf a ha).2.1, (hf a ha).2.2.2.2.1, (hf a ha).2.2.2.2.2⟩)
 exact z
end
def PTs (X : Cx) (ifs : List Expr) (t : TT) : Prop := ∀ (pins : List (Addr × Obj)) (s : Shared) (σ : St) (H : Hp) (Q : Bool -> Hp -> Prop), Inv X pins σ H s -> t σ H Q ->
 wpAny (model X.prog X.w) X.A (forIn ifs true fun c r => if r = true then do let ok <- isTrue c X.env (eval c X.env); pure (ForInStep.yield ok) else pure (ForInStep.yield r)) (TP X pins σ Q) X.xe s
theorem pts_nil : PTs X [] (fun _ H Q => Q true H) := fun pins s σ H Q I h => wpAny_tests_nil ⟨H, I, h⟩
theorem zjA {R : Result -> Shared -> Prop} {s : Shared} {elt target iter : Expr} {it acc : Value} (I : Nat -> Shared -> Prop)
  (turn : ∀ n s, I n s -> wpAny (model prog w) A (pyNext it) (fun r s₁ => match r with
   | none => R (.ok .next) s₁
   | some v => wpAny (model prog w) A (letOwnedTupleGo target it v) (fun _ s₁' => wpAny (model prog w) A (assign target env v) (fun _ s₂ =>
     wpAny (model prog w) A (forIn ifs true fun c r => if r = true then do let ok <- isTrue c env (eval c env); pure (ForInStep.yield ok) else pure (ForInStep.yield r)) (fun ok s₃ =>
      if ok = true then wpAny (model prog w) A (eval elt env) (fun x s₄ =>
       wpAny (model prog w) A (call (.builtin "list.append") [acc, x]) (fun _ s₅ => ∃ m, m < n /\ I m s₅) (fun _ _ => False) s₄) (fun _ _ => False) s₃
      else ∃ m, m < n /\ I m s₃) (fun _ _ => False) s₂) (fun _ _ => False) s₁') (fun _ _ => False) s₁) (fun _ _ => False) s)
  (n : Nat) (h : I n s) : codeAny (model prog w) A (.compLoop (.ListComp elt [⟨target, iter, ifs, 0⟩] scope pos) 0 it acc env) R s := by
 refine codeAny_loop rfl I (fun n s hI => ?_) n h
 show wpAny _ A ((compTurn (.ListComp elt [⟨target, iter, ifs, 0⟩] scope pos) 0 it acc env).onRaise (fun x => do noteFrame x env; theTreesLotGoes x)) _ _ s
 refine wpAny_noted ?_
 rw [compTurn_list]
 have no : ∀ {E : Value -> Shared -> Prop}, ∀ x s', (fun (_ : Value) (_ : Shared) => False) x s' -> E x s' := fun _ _ z => z.elim
 refine wpAny_bind (wpAny_standAt (wpAny_bind (wpAny_mono (turn n s hI) (fun r s₁ h₁ => ?_) no)))
 cases r with
 | none => exact wpAny_pure h₁
 | some v =>
  refine wpAny_bind (wpAny_mono h₁ (fun _ s₁' h₁' => ?_) no)
  refine wpAny_bind (wpAny_mono h₁' (fun _ s₂ h₂ => wpAny_bind (wpAny_mono h₂ (fun ok s₃ h₃ => ?_) no)) no)
  cases ok with
  | false => exact wpAny_pure ⟨rfl, h₃⟩
  | true =>
   exact wpAny_bind (wpAny_bind (wpAny_mono h₃ (fun x s₄ h₄ => wpAny_bind (wpAny_mono h₄ (fun _ s₅ h₅ => wpAny_pure (wpAny_pure ⟨rfl, h₅⟩)) no)) no))
def tLC (σ0 : St -> St) (wi : TI) (g : Addr -> Shared -> Hp -> List Addr -> TG) (tt : Addr -> Shared -> Hp -> List Addr -> TT) (te : Addr -> Shared -> Hp -> List Addr -> TE) : TE := fun σ H Q => wi σ H fun J H1 => ∀ D, H1 D = none -> ∃ W : Nat -> Nat -> St -> Hp -> Prop, (∃ m, W 0 m (σ0 σ) (upd H1 D (.lst []))) /\ ∀ i m σ H, W i m σ H ->
 (J.stop i H /\ Q (.ref D) H) \/ (J.go i H /\ ∀ C s₀ H₀ fp x H', J.yld i H x H' -> g C s₀ H₀ fp x σ H' fun σ2 H2 => tt C s₀ H₀ fp σ2 H2 fun ok H3 => if ok = true then te C s₀ H₀ fp σ2 H3 fun v H4 => ∃ xs, H4 D = some (.lst xs) /\ xs.length < sizeLine /\ ∃ m', m' < m /\ W (i + 1) m' σ2 (upd H4 D (.lst (xs ++ [v])))
  else ∃ m', m' < m /\ W (i + 1) m' σ2 H3)
section
variable {X : Cx} {elt iter tg : Expr} {ifs : List Expr} {scope : Scope} {pos : Pos} {N : List Str} {σ0 : St -> St} {wi : TI} {g : Addr -> Shared -> Hp -> List Addr -> TG} {tt : Addr -> Shared -> Hp -> List Addr -> TT} {te : Addr -> Shared -> Hp -> List Addr -> TE}
structure Cap (X : Cx) (scope : Scope) (N : List Str) (σ0 : St -> St) : Prop where
 len : ∀ σ, (σ0 σ).length = N.length
 src : ∀ (σ : St) (i : Nat) (x : Str) (v : V), N[i]? = some x -> (σ0 σ)[i]? = some (some v) -> (x, NameKind.free) ∈ scope.names /\ ∃ j : Nat, X.N[j]? = some x /\ σ[j]? = some (some v)
 loc : ∀ (σ : St) (i : Nat) (x : Str) (v : V), N[i]? = some x -> (σ0 σ)[i]? = some (some v) -> ¬ (relabel scope X.env).names.lookup x = some .local
theorem zla {E : Value -> Shared -> Prop} (hc : X.calm = true) (b : BlkOk X scope) (cap : Cap X scope N σ0) (hi : PI X tg iter wi) (hg : ∀ C s H fp, PG (cxC X N scope C s H fp) tg (g C s H fp)) (ht : ∀ C s H fp, PTs (cxC X N scope C s H fp) ifs (tt C s H fp)) (he : ∀ C s H fp, PE (cxC X N scope C s H fp) elt (te C s H fp))
  {pins : List (Addr × Obj)} {s : Shared} {σ : St} {H : Hp} {Q : VK} (I : Inv X pins σ H s) (h : tLC σ0 wi g tt te σ H Q) {QQ : Value -> Shared -> Prop} {p0 : Pos}
  (hs : ∀ x, foldedSetIterable iter X.env x = pure x)
  (fin : match use with
   | none => ∀ u s', EP X pins σ Q u s' -> QQ u s'
   | some f => ∀ (D : Addr) (fp : List Addr) (C : Addr) (H1 H' : Hp) (σc : St) (s1 s' : Shared), Inv X pins σ H1 s1 -> (∀ b ∈ fp, FpOk X pins H1 b) -> C = s1.heap.objs.size -> Inv (cxC X N scope C s1 H1 fp) [] σc H' s' -> Q (.ref D) H' ->
     wpAny (model X.prog X.w) X.A (f (.ref D)) (fun _ s'' => ∃ m, s''.heap.Ns C m /\ ∀ h', Heap.SameBut C s''.heap h' -> QQ .none { s'' with heap := h' }) X.xe s') :
  wpAny (model X.prog X.w) X.A (comprehension (.ListComp elt [⟨tg, iter, ifs, 0⟩] scope pos) scope X.env p0 (newList []) false (eval iter X.env) use) QQ X.xe s := by
 refine wpAny_comprehension_free (cl := clOf scope X.env) (g := ⟨tg, iter, ifs, 0⟩) (gs := []) rfl hs (zkQ (zhx I b)) b.kind (fun x hx hl => hl ▸ b.uniq x hx) ?_
 refine thn (hi pins s σ H _ I h) fun v s1 h1 => thn h1 fun itv s2 h2 => ?_
 obtain ⟨it, fp, tn, J, H2, e, I2, T, st2, f2, h3⟩ := h2
 subst e
 refine wpAny_newObj_type ?_ (by show (0 : Nat) <= sizeLine; exact Nat.zero_le _)
 have hD : H2 s2.heap.objs.size = none := I2.fresh
 obtain ⟨W, ⟨m0, w0⟩, turn⟩ := h3 _ hD
 have I3 : Inv X pins σ (upd H2 s2.heap.objs.size (.lst [])) { s2 with heap := s2.heap.push { cls := .type "list", data := .seq ([] : List Value).toArray } } := I2.lnew (t' := s2.toks) .nil (Nat.zero_le _)
 have f3 : ∀ b ∈ fp, FpOk X pins (upd H2 s2.heap.objs.size (.lst [])) b := fun b hb => by
  obtain ⟨a1, a2⟩ := f2 b hb
  obtain ⟨o, ho, _⟩ := T.obj _ _ st2 b hb
  exact ⟨by rw [zap (Nat.ne_of_lt (Heap.lt_size ho))]; exact a1, a2⟩
 have st3 : tn 0 (s2.heap.push { cls := .type "list", data := .seq ([] : List Value).toArray }) := T.keep _ _ _ st2 fun b hb o e => Heap.get?_push_of_some _ e
 generalize hs3 : ({ s2 with heap := s2.heap.push { cls := .type "list", data := .seq ([] : List Value).toArray } } : Shared) = s3 at I3
 have hs3' : s3.heap = s2.heap.push { cls := .type "list", data := .seq ([] : List Value).toArray } := by rw [<- hs3]
 rw [<- hs3'] at st3
 have hfs : ∀ b ∈ fp, b < s3.heap.objs.size := fun b hb => by
  obtain ⟨o, ho, _⟩ := T.obj _ _ st3 b hb
  exact Heap.lt_size ho
 show wpAny _ _ (newFunctionEnv scope X.env.globals (clOf scope X.env) [] X.env.qual none .none (some X.env)) _ _ s3
 refine zjJ fun h' hns hk hcl => ?_
 have hcl := hcl fun x c e => I3.cell x c (zgm I3 b e)
 generalize hDD : s2.heap.objs.size = DD at *
 have B0 : Inv (cxC X N scope s3.heap.objs.size s3 (upd H2 DD (.lst [])) fp) [] (σ0 σ) (upd H2 DD (.lst [])) { s3 with heap := h' } :=
  zlz (tk := s3.toks) I3 b f3 hfs hns hk hcl (cap.len σ) (cap.src σ) (cap.loc σ)
 have stat : ∀ {H' : Hp}, (∀ b ∈ fp, H' b = none) -> ∀ b ∈ fp, FpOk (cxC X N scope s3.heap.objs.size s3 (upd H2 DD (.lst [])) fp) [] H' b := fun hn b' hb => by
  refine ⟨hn b' hb, Nat.ne_of_lt (hfs b' hb), fun z => ?_, .inl hb, fun x c e => ?_, fun p hp => absurd (show p ∈ ([] : List (Addr × Obj)) from hp) (by simp)⟩
  ·rcases List.mem_cons.mp (I3.stkSub b' z) with w | w
   ·exact (f3 b' hb).2.1 w
   ·exact (f3 b' hb).2.2.1 w
  ·intro z
   rcases zgw I3 b e with q | q
   ·exact Nat.lt_asymm q (z ▸ hfs b' hb)
   ·exact (f3 b' hb).2.2.2.2.1 x c q z
 have tn0 : tn 0 h' := T.keep _ _ _ st3 fun b' hb o e => hk b' o e
 have post : ∀ (s' : Shared) (σc : St) (H' : Hp), Inv (cxC X N scope s3.heap.objs.size s3 (upd H2 DD (.lst [])) fp) [] σc H' s' -> Q (.ref DD) H' -> compPost (model X.prog X.w) X.A X.xe use QQ (.ref DD) s3.heap.objs.size (.ok .next) s' := fun s' σc H' J' q => by
  cases use with
  | none =>
   obtain ⟨m, hn, _⟩ := J'.loc
   exact ⟨m, hn, fun h'' hs'' => fin _ _ ⟨.ref DD, H', zlX I3 f3 J' hs'', rfl, q⟩⟩
  | some f => exact fin DD fp _ _ H' σc s3 s' I3 f3 rfl J' q
 have loop : codeAny (model X.prog X.w) X.A (.compLoop (.ListComp elt [⟨tg, iter, ifs, 0⟩] scope pos) 0 (.ref it) (.ref DD) (compEnvC scope (clC scope X.env s3.heap.objs.size) s3.heap.objs.size X.env)) (compPost (model X.prog X.w) X.A X.xe use QQ (.ref DD) s3.heap.objs.size) { s3 with heap := h' } := by
  refine zjA (fun n s' => ∃ i σ' H', Inv (cxC X N scope s3.heap.objs.size s3 (upd H2 DD (.lst [])) fp) [] σ' H' s' /\ tn i s'.heap /\ (∀ b ∈ fp, H' b = none) /\ W i n σ' H') ?_ m0 ⟨0, σ0 σ, _, B0, tn0, fun b' hb => (f3 b' hb).1, w0⟩
  rintro n s5 ⟨i, σ5, H5, I5, st5, fr5, w5⟩
  rcases turn i n σ5 H5 w5 with ⟨stop, qn⟩ | ⟨go, step⟩
  ·refine thn (T.done (cxC X N scope s3.heap.objs.size s3 (upd H2 DD (.lst [])) fp) rfl rfl rfl hc i [] s5 σ5 H5 (fun _ _ => False) I5 (stat fr5) st5 stop) fun r s6 ⟨hr, I6⟩ => ?_
   subst hr
   exact post s6 σ5 H5 I6 qn
  ·refine thn (T.item (cxC X N scope s3.heap.objs.size s3 (upd H2 DD (.lst [])) fp) rfl rfl rfl hc i [] s5 σ5 H5 (fun _ _ => False) I5 (stat fr5) st5 go) fun r s6 ⟨u, hr, h6⟩ => ?_
   subst hr
   refine thn h6 fun _ s7 ⟨x, H7, I7, r7, y7, st7, fr7⟩ => ?_
   have I7' := I7.pinned (stat fr7) (T.obj _ _ st7)
   have again : ∀ {σ8 : St} {H8 : Hp} {s8 : Shared} {m' : Nat}, Inv (cxC X N scope s3.heap.objs.size s3 (upd H2 DD (.lst [])) fp) ([] ++ zjp fp s7.heap) σ8 H8 s8 -> m' < n -> W (i + 1) m' σ8 H8 ->
     ∃ m, m < n /\ ∃ i σ' H', Inv (cxC X N scope s3.heap.objs.size s3 (upd H2 DD (.lst [])) fp) [] σ' H' s8 /\ tn i s8.heap /\ (∀ b ∈ fp, H' b = none) /\ W i m σ' H' := fun {σ8 H8 s8 m'} I8 hm w8 => by
    refine ⟨m', hm, i + 1, σ8, H8, I8.unpinned, T.keep _ _ _ st7 fun b' hb o e => (I8.pin (b', o) (List.mem_append_right _ (List.mem_append_right _ (zfg hb e)))).1, fun b' hb => ?_, w8⟩
    obtain ⟨o, e, d⟩ := T.obj _ _ st7 b' hb
    exact (I8.pin (b', o) (List.mem_append_right _ (List.mem_append_right _ (zfg hb e)))).2.1
   refine thn (hg _ _ _ _ _ s7 σ5 H7 x u _ I7' r7 (step _ _ _ _ x H7 y7)) fun _ s8 ⟨σ8, H8, I8, q8⟩ => ?_
   refine thn (ht _ _ _ _ _ s8 σ8 H8 _ I8 q8) fun ok s9 ⟨H9, I9, q9⟩ => ?_
   cases ok with
   | false =>
    obtain ⟨m', hm, w9⟩ := q9
    exact again I9 hm w9
   | true =>
    refine thn (he _ _ _ _ _ s9 σ8 H9 _ I9 q9) fun u10 s10 ⟨v10, H10, I10, r10, xs, hx, hz, m', hm, w10⟩ => ?_
    refine thn (zhd _ s10 σ8 H10 (.ref DD) [v10] (.ref DD) [u10] (fun v H' => v = .non /\ H' = upd H10 DD (.lst (xs ++ [v10]))) I10 rfl (.cons r10 .nil) ⟨DD, xs, v10, rfl, rfl, hx, hz, rfl, rfl⟩) fun _ s11 ⟨_, H11, I11, _, _, e11⟩ => ?_
    subst e11
    exact again I11 hm w10
 exact codeAny_compStart_list loop (T.self _ _ _ _ _ tn0 loop)
theorem pe_lc (hc : X.calm = true) (b : BlkOk X scope) (cap : Cap X scope N σ0) (hi : PI X tg iter wi) (hg : ∀ C s H fp, PG (cxC X N scope C s H fp) tg (g C s H fp)) (ht : ∀ C s H fp, PTs (cxC X N scope C s H fp) ifs (tt C s H fp)) (he : ∀ C s H fp, PE (cxC X N scope C s H fp) elt (te C s H fp))
    (hs : ∀ x, foldedSetIterable iter X.env x = pure x := by exact fun _ => rfl) : PE X (.ListComp elt [⟨tg, iter, ifs, 0⟩] scope pos) (tLC σ0 wi g tt te) := by
  intro pins s σ H Q I h
  rw [eval_ListComp]
  exact zla (use := none) (E := X.xe) hc b cap hi hg ht he I h hs (fun u s' q => q)
end
def zcY (ρ : R) : Bool := ρ.all fun s => match s with
 | .own _ => false
 | .par _ => false
 | .tre _ => false
 | .ptr _ => false
 | _ => true
theorem ziI (h : zcY ρ = true) {a : Addr} (e : ρ[i]? = some s) : ¬ OwS K G H ov a s := fun w => by
 unfold zcY at h
 rw [List.all_eq_true] at h
 have := h s (List.mem_of_getElem? e)
 cases s with
 | emp => exact w
 | two _ _ => exact w
 | val d => exact w
 | _ => exact absurd (show false = true from this) Bool.false_ne_true
theorem zfk (h : zcY ρ = true) (e : ρ[i]? = some s) : (∀ t, s ≠ .tre t) /\ ∀ t, s ≠ .ptr t := by
 unfold zcY at h
 rw [List.all_eq_true] at h
 have := h s (List.mem_of_getElem? e)
 constructor
 ·rintro t rfl; exact absurd (show false = true from this) Bool.false_ne_true
 ·rintro t rfl; exact absurd (show false = true from this) Bool.false_ne_true
theorem zfj (h : zcY ρ = true) : ¬ Wr ρ i := fun ⟨s, ds, e, q⟩ => by
 unfold zcY at h
 rw [List.all_eq_true] at h
 have := h s (List.mem_of_getElem? e)
 cases s with
 | emp => cases q
 | two _ _ => cases q
 | tre _ => cases q
 | ptr _ => cases q
 | val d => cases q
 | own d => exact absurd (show false = true from this) Bool.false_ne_true
 | par d => exact absurd (show false = true from this) Bool.false_ne_true
structure VS (K : W.Frag) (G : Hp) (σ : St) (ρ : R) : Prop where
 len : σ.length = ρ.length
 no : zcY ρ = true
 val : ∀ (i : Nat) d, ρ[i]? = some (.val d) -> ∃ v, σ[i]? = some (some v) /\ RepD K G v d
theorem VS.si (h : VS K G σ ρ) (fz : Fz G H) : SI K ⟨G, H, []⟩ G H σ ρ where
 fz := fz
 g0 := Fz.refl G
 new := fun b o e => .inl (by show G b ≠ none; rw [e]; simp)
 keep := fun b o e _ => e
 there := fun b e => e
 ob := fun i b m => by cases m
 len := h.len
 slot := fun i s e => by
  cases s with
  | emp => trivial
  | two _ _ => trivial
  | tre t => exact absurd rfl ((zfk h.no e).1 t)
  | ptr t => exact absurd rfl ((zfk h.no e).2 t)
  | val d => exact h.val i d e
  | own ds => exact absurd ⟨_, ds, e, rfl⟩ (zfj h.no (i := i))
  | par ds => exact absurd ⟨_, ds, e, rfl⟩ (zfj h.no (i := i))
 dis := fun i j s _ a _ e _ w => absurd w (ziI h.no e)
theorem VS.of (I : SI K B G H σ ρ) (h : zcY ρ = true) : VS K G σ ρ := ⟨I.len, h, fun i d e => I.slot i _ e⟩
def fz1 (i : Nat) (ρ : R) : R := match ρ[i]? with
 | some (.own ds) => ρ.set i (.val (.lst ds))
 | _ => ρ
def fzL : List Nat -> R -> R
 | [], ρ => ρ
 | i :: is, ρ => fzL is (fz1 i ρ)
theorem SI.fz1 (I : SI K B G H σ ρ) (i : Nat) : ∃ G', SI K B G' H σ (M.fz1 i ρ) /\ Fz G G' := by
 unfold M.fz1
 cases e : ρ[i]? with
 | none => exact ⟨G, I, Fz.refl G⟩
 | some s =>
  cases s with
  | own ds => obtain ⟨l, xs, _, f, _, I'⟩ := I.freeze e; exact ⟨_, I', f⟩
  | emp => exact ⟨G, I, Fz.refl G⟩
  | two _ _ => exact ⟨G, I, Fz.refl G⟩
  | tre _ => exact ⟨G, I, Fz.refl G⟩
  | ptr _ => exact ⟨G, I, Fz.refl G⟩
  | val _ => exact ⟨G, I, Fz.refl G⟩
  | par _ => exact ⟨G, I, Fz.refl G⟩
theorem SI.fzL : ∀ (is : List Nat) {G : Hp} {ρ : R}, SI K B G H σ ρ -> ∃ G', SI K B G' H σ (M.fzL is ρ) /\ Fz G G'
 | [], G, ρ, I => ⟨G, I, Fz.refl G⟩
 | i :: is, G, ρ, I => by
  obtain ⟨G1, I1, f1⟩ := I.fz1 i
  obtain ⟨G2, I2, f2⟩ := SI.fzL is I1
  exact ⟨G2, I2, f1.trans f2⟩
def capS (ρ : R) (i : Nat) : Sl := match ρ[i]? with
 | some (.val d) => .val d
 | _ => .emp
theorem zkK (ρ : R) (i : Nat) : capS ρ i = .emp \/ ∃ d, capS ρ i = .val d := by
 unfold capS
 split
 ·exact .inr ⟨_, rfl⟩
 ·exact .inl rfl
def capR (cap : List Nat) (t : Nat) (ρ : R) : R := cap.map (capS ρ) ++ List.replicate t .emp
def capσ (cap : List Nat) (t : Nat) (σ : St) : St := cap.map (fun i => (σ[i]?).join) ++ List.replicate t none
theorem zkl (I : SI K B G H σ ρ) (cap : List Nat) (t : Nat) : VS K G (capσ cap t σ) (capR cap t ρ) where
 len := by unfold capσ capR; simp
 no := by
  unfold zcY capR
  rw [List.all_eq_true]
  intro s hs
  rcases List.mem_append.mp hs with h | h
  ·obtain ⟨i, _, rfl⟩ := List.mem_map.mp h
   rcases zkK ρ i with e | ⟨d, e⟩
   ·rw [e]
   ·rw [e]
  ·rw [List.eq_of_mem_replicate h]
 val := fun i d e => by
  unfold capR at e
  by_cases hi : i < cap.length
  ·rw [List.getElem?_append_left (by simpa using hi), List.getElem?_map, List.getElem?_eq_getElem hi] at e
   have e' : capS ρ cap[i] = .val d := by simpa using e
   unfold capS at e'
   split at e'
   ·rename_i d' q
    cases e'
    obtain ⟨v, h1, h2⟩ := I.slot _ _ q
    refine ⟨v, ?_, h2⟩
    unfold capσ
    rw [List.getElem?_append_left (by simpa using hi), List.getElem?_map, List.getElem?_eq_getElem hi]
    simp [h1]
   ·cases e'
  ·rw [List.getElem?_append_right (by simpa using hi), List.getElem?_replicate] at e
   split at e
   ·cases e
   ·cases e
def zdq (f : D -> R -> Option (Option D × R)) : List D -> R -> Option (List D × R)
 | [], ρ => some ([], ρ)
 | d :: ds, ρ => (f d ρ).bind fun p => (zdq f ds p.2).map fun q => (p.1.toList ++ q.1, q.2)
def zkH (g : D -> R -> Option R) (mt : MT) (me : ME) : D -> R -> Option (Option D × R) := fun d ρ => (g d ρ).bind fun ρ1 => (mt ρ1).bind fun p => if p.1 then (me p.2).bind fun q => if zcY q.2 then some (some q.1, q.2) else none else if zcY p.2 then some (none, p.2) else none
def oLC (cap : List Nat) (t : Nat) (mi : MA) (g : D -> R -> Option R) (mt : MT) (me : ME) : MO := fun ρ => (mi ρ).bind fun p => if p.1.length <= 16777216 then (zdq (zkH g mt me) p.1 (capR cap t (fzL cap p.2))).map fun q => (q.1, fzL cap p.2) else none
def STs (X : Cx) (ifs : List Expr) (m : MT) : Prop :=
 ∃ t, PTs X ifs t /\ ∀ B G H σ ρ d ρ' (Q : Bool -> Hp -> Prop), SI X.K B G H σ ρ -> m ρ = some (d, ρ') -> (∀ G' H', SI X.K B G' H' σ ρ' -> Fz G G' -> Q d H') -> t σ H Q
def zbB : MT := fun ρ => some (true, ρ)
theorem zaG : STs X [] zbB := ⟨_, pts_nil, fun B G H σ ρ d ρ' Q I hm k => by cases hm; exact k G H I (Fz.refl G)⟩
def blkB (env : Env) (scope : Scope) : Bool := (scope.names.all fun x => scope.names.lookup x.1 == some x.2 && (x.2 != .free || (env.kindOf x.1 == some .cell || env.kindOf x.1 == some .free)))
theorem zhz (hk : scope.kind = .function) (h : blkB X.env scope = true) : BlkOk X scope := by
 unfold blkB at h
 rw [List.all_eq_true] at h
 refine ⟨hk, fun x hx => ?_, fun x hx hf => ?_⟩
 ·have := h x hx
  simp only [Bool.and_eq_true, Bool.or_eq_true, bne_iff_ne, beq_iff_eq] at this
  exact this.1
 ·have := h x hx
  simp only [Bool.and_eq_true, Bool.or_eq_true, bne_iff_ne, beq_iff_eq] at this
  exact (this.2).resolve_left (fun z => z hf)
def capB (names : List (Str × NameKind)) (N XN : List Str) (cap : List Nat) (t : Nat) : Bool := N.length == cap.length + t && (cap.zip N).all fun p => XN[p.1]? == some p.2 && names.lookup p.2 == some .free
theorem zg6 (h : capB scope.names N X.N cap t = true) : Cap X scope N (capσ cap t) := by
 unfold capB at h
 rw [Bool.and_eq_true, List.all_eq_true] at h
 obtain ⟨hl, h⟩ := h
 have hl : N.length = cap.length + t := by simpa using hl
 have key : ∀ (σ : St) (i : Nat) (x : Str) (v : V), N[i]? = some x -> (capσ cap t σ)[i]? = some (some v) -> ∃ j, cap[i]? = some j /\ σ[j]? = some (some v) /\ X.N[j]? = some x /\ scope.names.lookup x = some .free := fun σ i x v h1 h2 => by
  unfold capσ at h2
  by_cases hi : i < cap.length
  ·rw [List.getElem?_append_left (by simpa using hi), List.getElem?_map, List.getElem?_eq_getElem hi] at h2
   have h3 : (σ[cap[i]]?).join = some v := by simpa using h2
   have hz : (cap[i], x) ∈ cap.zip N := by
    refine List.mem_of_getElem? (i := i) ?_
    rw [List.getElem?_zip_eq_some]
    exact ⟨List.getElem?_eq_getElem hi, h1⟩
   have := h _ hz
   simp only [Bool.and_eq_true, beq_iff_eq] at this
   refine ⟨cap[i], List.getElem?_eq_getElem hi, ?_, this.1, this.2⟩
   cases q : σ[cap[i]]? with
   | none => rw [q] at h3; cases h3
   | some o => rw [q] at h3; rw [show o = some v from h3]
  ·rw [List.getElem?_append_right (by simpa using hi), List.getElem?_replicate] at h2
   split at h2 <;> cases h2
 refine ⟨fun σ => by unfold capσ; simp [hl], fun σ i x v h1 h2 => ?_, fun σ i x v h1 h2 z => ?_⟩
 ·obtain ⟨j, _, a, b, c⟩ := key σ i x v h1 h2
  exact ⟨zfi c, j, b, a⟩
 ·obtain ⟨j, _, a, b, c⟩ := key σ i x v h1 h2
  have e : (relabel scope X.env).names.lookup x = (scope.names.lookup x).map fun k => if (k == NameKind.free && X.env.scope.kind == .function && X.env.kindOf x == some .cell) then NameKind.cell else k := zdn
  rw [e, c] at z
  simp only [Option.map_some, Option.some.injEq] at z
  split at z <;> cases z
structure LcV (K : W.Frag) (g : D -> R -> Option R) (mt : MT) (me : ME) (items all : List D) (G2 H1 : Hp) (DD : Addr) (i : Nat) (σc : St) (Hc Gc : Hp) (ρc : R) (acc : List D) (xs : List V) (rest : List D) (ρe : R) : Prop where
 fc : Fz G2 Gc
 fcH : Fz Gc Hc
 nw : ∀ b o, Gc b = some o -> G2 b ≠ none \/ H1 b = none
 kp : ∀ b o, H1 b = some o -> Hc b = some o
 gD : Gc DD = none
 hDc : Hc DD = some (.lst xs)
 ra : RepL K Gc xs acc
 hx : xs.length <= i
 vs : VS K Gc σc ρc
 ec : zdq (zkH g mt me) (items.drop i) ρc = some (rest, ρe)
 eall : all = acc ++ rest
section
variable {X : Cx} {elt iter tg : Expr} {ifs : List Expr} {scope : Scope} {pos : Pos} {N : List Str} {cap : List Nat} {t : Nat} {mi : MA} {g : D -> R -> Option R} {mt : MT} {me : ME}
theorem zh4 
  (si : ∀ B G H σ ρ ds ρ' (Q : It -> Hp -> Prop), SI X.K B G H σ ρ -> mi ρ = some (ds, ρ') -> (∀ J G' H', SI X.K B G' H' σ ρ' -> Fz G G' -> Itm X.K J G' ds -> Q J H') -> wi σ H Q)
  (sg : ∀ C s H₀ fp B G H σ ρ v d ρ' (Q : St -> Hp -> Prop), SI X.K B G H σ ρ -> RepD X.K G v d -> g d ρ = some ρ' -> (∀ G' H' σ', SI X.K B G' H' σ' ρ' -> Fz G G' -> Q σ' H') -> tg' C s H₀ fp v σ H Q)
  (st : ∀ C s H₀ fp B G H σ ρ d ρ' (Q : Bool -> Hp -> Prop), SI X.K B G H σ ρ -> mt ρ = some (d, ρ') -> (∀ G' H', SI X.K B G' H' σ ρ' -> Fz G G' -> Q d H') -> tt C s H₀ fp σ H Q)
  (se : ∀ C s H₀ fp B G H σ ρ d ρ' (Q : VK), SI X.K B G H σ ρ -> me ρ = some (d, ρ') -> (∀ G' H' v, SI X.K B G' H' σ ρ' -> Fz G G' -> RepD X.K G' v d -> Q v H') -> te C s H₀ fp σ H Q) :
  ∀ B G H σ ρ ds ρ' (Q : VK), SI X.K B G H σ ρ -> oLC cap t mi g mt me ρ = some (ds, ρ') ->
   (∀ G' H' l xs, SI X.K B G' H' σ ρ' -> Fz G G' -> G' l = none -> H' l = some (.lst xs) -> RepL X.K G' xs ds -> B.H l = none -> Nw X.K G' H' σ ρ' l -> Q (.ref l) H') -> tLC (capσ cap t) wi tg' tt te σ H Q := by
 intro B G H σ ρ ds ρ' Q I hm k
 obtain ⟨⟨items, ρ1⟩, e1, hm⟩ := zac hm
 refine si B G H σ ρ items ρ1 _ I e1 fun J G1 H1 I1 f1 IT DD hD => ?_
 dsimp only at hm
 split at hm
 ·rename_i hlen
  obtain ⟨⟨all, ρf⟩, e2, e3⟩ := zau hm
  obtain ⟨rfl, rfl⟩ := Prod.mk.inj e3
  obtain ⟨G2, I2, f2⟩ := SI.fzL cap I1
  have hDG : G2 DD = none := I2.fz.free hD
  refine ⟨fun i m σc Hc => m = items.length - i /\ i <= items.length /\ ∃ Gc ρc acc xs rest ρe, LcV X.K g mt me items all G2 H1 DD i σc Hc Gc ρc acc xs rest ρe,
   ⟨items.length, by simp, Nat.zero_le _, G2, capR cap t (M.fzL cap ρ1), [], [], all, ρf, { fc := Fz.refl _, fcH := I2.fz.right hDG _, nw := fun b o e => .inl (by rw [e]; simp), kp := fun b o e => by rw [zap (zav e hD)]; exact e, gD := hDG, hDc := zas, ra := .nil, hx := Nat.le_refl _, vs := zkl I2 cap t, ec := by simpa using e2, eall := rfl }⟩, ?_⟩
  rintro i m σc Hc ⟨rfl, hi, Gc, ρc, acc, xs, rest, ρe, J0⟩
  obtain ⟨fc, fcH, nw, kp, gD, hDc, ra, hx, vs, ec, eall⟩ := J0
  by_cases hlt : i < items.length
  ·refine .inr ⟨IT.go Hc i (f2.trans (fc.trans fcH)) hlt, fun C s₀ H₀ fp x H' y => ?_⟩
   rw [List.drop_eq_getElem_cons hlt] at ec
   simp only [zdq] at ec
   obtain ⟨⟨o, ρ3⟩, h3, ec⟩ := zac ec
   obtain ⟨⟨rest2, ρ4⟩, h4, ec⟩ := zau ec
   obtain ⟨rfl, rfl⟩ := Prod.mk.inj ec
   dsimp only at h4
   unfold zkH at h3
   obtain ⟨ρ5, h5, h3⟩ := zac h3
   obtain ⟨⟨ok, ρ6⟩, h6, h3⟩ := zac h3
   dsimp only at h3
   have Ic : SI X.K ⟨Gc, Hc, []⟩ Gc Hc σc ρc := vs.si fcH
   have fz2 : Fz G1 Hc := f2.trans (fc.trans fcH)
   have yy := IT.yld Hc i x H' fz2 y items[i] (List.getElem?_eq_getElem hlt)
   have yy2 : (H' = Hc /\ RepD X.K Gc x items[i]) \/ ∃ p xs es, Hc p = none /\ H' = upd Hc p (.tup xs) /\ x = .ref p /\ items[i] = .tup es /\ RepL X.K Gc xs es := by
    rcases yy with ⟨a, b⟩ | ⟨p, xs, es, a, b, c, d, e⟩
    ·exact .inl ⟨a, b.mono (f2.trans fc)⟩
    ·exact .inr ⟨p, xs, es, a, b, c, d, e.mono (f2.trans fc)⟩
   obtain ⟨G3, I3, f3, r3⟩ := Ic.yld yy2
   refine sg C s₀ H₀ fp _ G3 H' σc ρc x items[i] ρ5 _ I3 r3 h5 fun G4 H4 σ4 I4 f4 => st C s₀ H₀ fp _ G4 H4 σ4 ρ5 ok ρ6 _ I4 h6 fun G5 H5 I5 f5 => ?_
   have facts : ∀ (G' H' : Hp) (σ' : St) (ρ' : R), SI X.K ⟨Gc, Hc, []⟩ G' H' σ' ρ' -> (∀ b o, G' b = some o -> G2 b ≠ none \/ H1 b = none) /\ (∀ b o, H1 b = some o -> H' b = some o) /\ G' DD = none /\ H' DD = some (.lst xs) := fun G' H' σ' ρ' I' => by
    refine ⟨fun b o e => ?_, fun b o e => I'.keep b o (kp b o e) (by simp), ?_, I'.keep DD _ hDc (by simp)⟩
    ·rcases I'.new b o e with h | h
     ·have h : Gc b ≠ none := h
      cases q : Gc b with
      | none => exact absurd q h
      | some u => exact nw b u q
     ·refine .inr ?_
      cases q : H1 b with
      | none => rfl
      | some u => have := kp b u q; rw [show Hc b = none from h] at this; cases this
    ·cases q : G' DD with
     | none => rfl
     | some u =>
      rcases I'.new DD u q with h | h
      ·exact absurd gD h
      ·rw [show Hc DD = none from h] at hDc; cases hDc
   cases ok with
   | false =>
    simp only [Bool.false_eq_true, if_false] at h3
    split at h3
    ·rename_i hno
     cases h3
     obtain ⟨a1, a2, a3, a4⟩ := facts G5 H5 σ4 _ I5
     exact ⟨items.length - (i + 1), by omega, rfl, hlt, G5, _, acc, xs, rest2, ρ4, { fc := fc.trans (f3.trans (f4.trans f5)), fcH := I5.fz, nw := a1, kp := a2, gD := a3, hDc := a4, ra := ra.mono (f3.trans (f4.trans f5)), hx := by omega, vs := VS.of I5 hno, ec := h4, eall := by simpa using eall }⟩
    ·cases h3
   | true =>
    simp only [if_true] at h3 ⊢
    obtain ⟨⟨dv, ρ7⟩, h7, h3⟩ := zac h3
    dsimp only at h3
    split at h3
    ·rename_i hno
     cases h3
     refine se C s₀ H₀ fp _ G5 H5 σ4 ρ6 dv _ _ I5 h7 fun G6 H6 v I6 f6 r6 => ?_
     obtain ⟨a1, a2, a3, a4⟩ := facts G6 H6 σ4 _ I6
     have ff : Fz Gc G6 := f3.trans (f4.trans (f5.trans f6))
     exact ⟨xs, a4, by rw [sizeLine_eq]; omega, items.length - (i + 1), by omega, rfl, hlt, G6, _, acc ++ [dv], xs ++ [v], rest2, ρ4, { fc := fc.trans ff, fcH := I6.fz.right a3 _, nw := a1, kp := fun b o e => by rw [zap (zav e hD)]; exact a2 b o e, gD := a3, hDc := zas, ra := (ra.mono ff).snoc r6, hx := by rw [List.length_append, List.length_singleton]; omega, vs := VS.of I6 hno, ec := h4, eall := by rw [eall]; simp }⟩
    ·cases h3
  ·have e : i = items.length := by omega
   subst e
   rw [List.drop_length] at ec
   cases ec
   have hall : all = acc := by rw [eall, List.append_nil]
   refine .inl ⟨IT.stop Hc _ (f2.trans (fc.trans fcH)) (Nat.le_refl _), ?_⟩
   rw [<- hall] at ra
   exact k Gc Hc DD xs (I2.grow fc fcH nw kp) (f1.trans (f2.trans fc)) gD hDc ra (I2.there DD hD) (I2.own_ne hD nw kp)
 ·cases hm
theorem zfL (cap : List Nat) (t : Nat) (N : List Str) (hc : X.calm = true) (hi : SIt X tg iter mi) (hg : ∀ C s H fp, SG (cxC X N scope C s H fp) tg g) (ht : ∀ C s H fp, STs (cxC X N scope C s H fp) ifs mt) (he : ∀ C s H fp, SE (cxC X N scope C s H fp) elt me)
    (hk : scope.kind = .function := by rfl) (hb : blkB X.env scope = true := by kernel_rfl) (hcap : capB scope.names N X.N cap t = true := by kernel_rfl)
    (hs : ∀ x, foldedSetIterable iter X.env x = pure x := by exact fun _ => rfl) : SO X (.ListComp elt [⟨tg, iter, ifs, 0⟩] scope pos) (oLC cap t mi g mt me) := by
  obtain ⟨wi, pi, si⟩ := hi
  exact ⟨_, pe_lc hc (zhz hk hb) (zg6 hcap) pi (fun C s H fp => (hg C s H fp).choose_spec.1) (fun C s H fp => (ht C s H fp).choose_spec.1) (fun C s H fp => (he C s H fp).choose_spec.1) hs,
    zh4 si (fun C s H fp => (hg C s H fp).choose_spec.2) (fun C s H fp => (ht C s H fp).choose_spec.2) (fun C s H fp => (he C s H fp).choose_spec.2)⟩
end
section
variable {X : Cx} {elt iter tg : Expr} {ifs : List Expr} {scope : Scope} {pos lpos pos' : Pos} {N : List Str} {cap : List Nat} {t : Nat} {mi : MA} {g : D -> R -> Option R} {mt : MT} {me : ME}
theorem zg4 {σ0 : St -> St} (hN : X.N.Nodup) (hxi : X.N[i]? = some x) (hx : Loc X.env.scope x) (hf : X.fn x = true \/ X.env.scope.names.lookup x = some .local)
  (hsw : swapsWith (.ListComp elt [⟨tg, iter, ifs, 0⟩] scope lpos) (some (.Name x pos')) pos.line X.env = pure true) (hc : X.calm = true) (b : BlkOk X scope) (cap : Cap X scope N σ0) (hi : PI X tg iter wi) (hg : ∀ C s H fp, PG (cxC X N scope C s H fp) tg (tg' C s H fp)) (ht : ∀ C s H fp, PTs (cxC X N scope C s H fp) ifs (tt C s H fp)) (he : ∀ C s H fp, PE (cxC X N scope C s H fp) elt (te C s H fp))
  (hs : ∀ x, foldedSetIterable iter X.env x = pure x) : PS X (.Assign [.Name x pos'] (.ListComp elt [⟨tg, iter, ifs, 0⟩] scope lpos) pos) (fun E σ H => tLC σ0 wi tg' tt te σ H fun v H' => E.nx (σ.set i (some v)) H') := by
 intro pins s σ H E I h
 rw [exec_Assign_Name_used _ _ _ _ hsw]
 refine wpAny_bind (wpAny_standAt (wpAny_bind ?_))
 show wpAny _ _ (do let _ <- comprehension (.ListComp elt [⟨tg, iter, ifs, 0⟩] scope lpos) scope X.env _ (newList []) false (eval iter X.env) (some (assign (.Name x pos') X.env))) _ _ s
 refine wpAny_bind (thn (zla (use := some (assign (.Name x pos') X.env)) (QQ := fun _ s' => SP X pins E .next s') (E := X.xe) hc b cap hi hg ht he I h hs ?_) fun _ s' hq => wpAny_pure (wpAny_pure hq))
 intro D fp C H1 H' σc s1 s' I1 f1 eC J q
 subst eC
 have I2 : Inv X pins σ H' s' := by
  have z := zlX (h' := s'.heap) I1 f1 J (Heap.SameBut.refl _ _)
  exact z
 obtain ⟨m, ⟨o, es, ep, ho, hd, hrest⟩, _⟩ := J.loc
 have fpk : FpOk X pins H' s1.heap.objs.size := I1.fpOk (Nat.le_refl _) J.free
 have I3 : Inv X (pins ++ [(s1.heap.objs.size, o)]) σ H' s' := I2.pins_of fun p hp => by
  rcases List.mem_append.mp hp with hp | hp
  ·exact I2.pin p (List.mem_append_right _ hp)
  ·have e : p = (s1.heap.objs.size, o) := by simpa using hp
   subst e
   exact ⟨ho, fpk.1, fpk.2.1, fpk.2.2.1, fun v z => by rw [hd] at z; cases z⟩
 refine thn (zjM hN hxi hx hf (pins ++ [(s1.heap.objs.size, o)]) s' σ H' (.ref D) (.ref D) (fun σ2 H2 => E.nx σ2 H2) I3 rfl q) fun _ s'' ⟨σ2, H2, I4, q4⟩ => ?_
 have pC := I4.pin (s1.heap.objs.size, o) (List.mem_append_right _ (List.mem_append_right _ (by simp)))
 refine ⟨m, ⟨o, es, ep, pC.1, hd, hrest⟩, fun h' hs' => ?_⟩
 have I5 : Inv X pins σ2 H2 s'' := I4.unpinned
 have fp2 : FpOk X pins H2 s1.heap.objs.size := I1.fpOk (Nat.le_refl _) pC.2.1
 have I6 := I5.turned (t' := s''.toks) (h' := h') (it := s1.heap.objs.size) (fun b' o' hb e => hs'.extBut b' o' hb e) fp2.1 fp2.2.1 fp2.2.2.2.1 fp2.2.2.2.2.1 fp2.2.2.2.2.2
 exact ⟨σ2, H2, I6, q4⟩
theorem ss_setLC (i : Nat) (cap : List Nat) (t : Nat) (N : List Str) (hc : X.calm = true) (hi : SIt X tg iter mi) (hg : ∀ C s H fp, SG (cxC X N scope C s H fp) tg g) (ht : ∀ C s H fp, STs (cxC X N scope C s H fp) ifs mt) (he : ∀ C s H fp, SE (cxC X N scope C s H fp) elt me) (hN : X.N.Nodup)
    (hxi : X.N[i]? = some x := by rfl) (hx : Loc X.env.scope x := by first | exact Or.inl rfl | exact Or.inr rfl) (hf : X.fn x = true \/ X.env.scope.names.lookup x = some .local := by first | exact Or.inl rfl | exact Or.inr rfl)
    (hsw : swapsWith (.ListComp elt [⟨tg, iter, ifs, 0⟩] scope lpos) (some (.Name x pos')) pos.line X.env = pure true := by rfl)
    (hk : scope.kind = .function := by rfl) (hb : blkB X.env scope = true := by kernel_rfl) (hcap : capB scope.names N X.N cap t = true := by kernel_rfl)
    (hs : ∀ x, foldedSetIterable iter X.env x = pure x := by exact fun _ => rfl) : SS X (.Assign [.Name x pos'] (.ListComp elt [⟨tg, iter, ifs, 0⟩] scope lpos) pos) (zd6 i (oLC cap t mi g mt me)) := by
  obtain ⟨wi, pi, si⟩ := hi
  refine ⟨_, zg4 hN hxi hx hf hsw hc (zhz hk hb) (zg6 hcap) pi (fun C s H fp => (hg C s H fp).choose_spec.1) (fun C s H fp => (ht C s H fp).choose_spec.1) (fun C s H fp => (he C s H fp).choose_spec.1) hs, fun B G H σ ρ fl ρ' E I hm k => ?_⟩
  obtain ⟨⟨d, ρ1⟩, e1, e3⟩ := zau hm
  obtain ⟨rfl, rfl⟩ := Prod.mk.inj e3
  exact zh4 si (fun C s H fp => (hg C s H fp).choose_spec.2) (fun C s H fp => (ht C s H fp).choose_spec.2) (fun C s H fp => (he C s H fp).choose_spec.2) B G H σ ρ d ρ1 _ I e1 fun G1 H1 l xs I1 f1 g1 h1 r1 b1 n1 => k G1 H1 _ (I1.setO g1 h1 r1 b1 n1) f1
end
section
variable {X : Cx} {pins : List (Addr × Obj)} {σ : St} {H : Hp} {s : Shared}
theorem zgb {A : Around} (hh : A.handled = none) (I : Inv X pins σ H s) (hq : SqL X.K H p ys \/ SqT X.K H p ys)
  (k : ∀ (its : List Value) (s₂ : Shared) (St : Nat -> Heap -> Prop), Vals ys its -> Walks X.prog X.w A s.heap.objs.size [s.heap.objs.size, p] [s.heap.objs.size] its.length (fun i v => its[i]? = some v) St -> St 0 s₂.heap -> (∀ b ∈ [s.heap.objs.size, p], b < s₂.heap.objs.size) ->
   (∀ h' tk, (∀ b o, b ∉ [s.heap.objs.size] -> s₂.heap.get? b = some o -> h'.get? b = some o) -> Inv X pins σ H { s₂ with heap := h', toks := tk }) -> Q (.ref s.heap.objs.size) s₂) : wpAny (model X.prog X.w) A (pyIter (.ref p)) Q E s := by
 have fin : ∀ (o : Obj), ∀ h' tk, (∀ b o', b ∉ [s.heap.objs.size] -> (s.heap.push o).get? b = some o' -> h'.get? b = some o') -> Inv X pins σ H { ({ s with heap := s.heap.push o } : Shared) with heap := h', toks := tk } := fun o h' tk hk => by
  have z := I.kept (h' := h') (t' := tk) fun b o' e => hk b o' (by simpa using Nat.ne_of_lt (Heap.lt_size e)) (Heap.get?_push_of_some _ e)
  exact z
 rcases hq with hq | hq
 ·obtain ⟨its, r, pl, hz⟩ := I.list hq
  have hlt : p < s.heap.objs.size := by obtain ⟨_, _, e, _⟩ := pl; exact Heap.lt_size e
  refine wpAny_pyIter_list pl.isList (k its _ (fun i h => h.IsListIter s.heap.objs.size p i /\ h.IsList p its.toArray) r ?_ ⟨⟨_, Heap.get?_push_size _ rfl, rfl, rfl⟩, pl.isList.push _⟩ (fun b hb => ?_) (fin _))
  ·have w := Walks.list (prog := X.prog) (w := X.w) (A := A) hh s.heap.objs.size p (Nat.ne_of_lt hlt) its.toArray
   simpa using w
  ·show b < (s.heap.push _).objs.size
   rw [Heap.size_push]
   simp at hb
   rcases hb with z | z
   ·rw [z]; exact Nat.lt_succ_self _
   ·rw [z]; exact Nat.lt_succ_of_lt hlt
 ·obtain ⟨its, r, pl, hz⟩ := I.tuple hq
  have hlt : p < s.heap.objs.size := pl.lt
  refine wpAny_pyIter_tuple (show s.heap.IsTuple p its.toArray from pl) (k its _ (fun i h => h.IsTupleIter s.heap.objs.size p i /\ h.IsTuple p its.toArray) r ?_ ⟨⟨_, Heap.get?_push_size _ rfl, rfl, rfl⟩, (show s.heap.IsTuple p its.toArray from pl).push _⟩ (fun b hb => ?_) (fin _))
  ·have w := Walks.tuple (prog := X.prog) (w := X.w) (A := A) hh s.heap.objs.size p (Nat.ne_of_lt hlt) its.toArray
   simpa using w
  ·show b < (s.heap.push _).objs.size
   rw [Heap.size_push]
   simp at hb
   rcases hb with z | z
   ·rw [z]; exact Nat.lt_succ_self _
   ·rw [z]; exact Nat.lt_succ_of_lt hlt
end
theorem zhX (ns : List Int) : ∀ j, preSum (fun i => ns.getD i 0) j = (ns.take j).sum
 | 0 => by simp [preSum]
 | j + 1 => by
  rw [preSum, zhX ns j]
  by_cases h : j < ns.length
  ·rw [List.take_succ_eq_append_getElem h, List.sum_append]
   simp [h]
  ·rw [List.take_of_length_le (by omega), List.take_of_length_le (by omega)]
   simp [List.getElem?_eq_none (by omega : ns.length <= j)]
theorem zgp (r : Vals (ns.map V.int) its) {v : Value} (e : its[i]? = some v) : ∃ t, v = .int (ns.getD i 0) t := by
 have hl := r.length
 have hi : i < its.length := (List.getElem?_eq_some_iff.mp e).1
 rw [List.length_map] at hl
 have e2 : (ns.map V.int)[i]? = some (.int ns[i]) := by rw [List.getElem?_map, List.getElem?_eq_getElem (by omega)]; rfl
 obtain ⟨u, h1, t, h2⟩ := r.get e2
 rw [e] at h1; cases h1
 exact ⟨t, by rw [h2]; simp [show i < ns.length by omega]⟩
def rSum (K : W.Frag) : List V -> Hp -> VK -> Prop := fun xs H Q => ∃ (p : Addr) (ns : List Int), xs = [.ref p] /\ (SqL K H p (ns.map V.int) \/ SqT K H p (ns.map V.int)) /\ Q (.int ns.sum) H
theorem zll (hc : X.calm = true) : zfn X (.builtin "sum") (rSum X.K) := by
 intro pins s σ H xs us Q I r h
 obtain ⟨p, ns, rfl, hq, q⟩ := h
 obtain ⟨u, rfl, ru⟩ := zia r
 cases ru
 refine call_sum_walkG (zgb (A := X.A.in1) (I.ok.hd hc) I hq fun its s₂ St rv W st hfp fin => ?_)
 refine ⟨_, _, _, _, _, _, fun i => ns.getD i 0, rfl, W, st, hfp, fun i v e => zgp rv e, fun h' tk t' hk => ⟨.int ns.sum, H, fin h' tk hk, ⟨t', ?_⟩, q⟩⟩
 have hl := rv.length
 rw [List.length_map] at hl
 rw [zhX, <- hl, List.take_of_length_le (Nat.le_refl _)]
def zbO : List D -> Option (List Int)
 | [] => some []
 | .int i :: ds => (zbO ds).map (i :: ·)
 | _ => none
theorem zhl : ∀ {ds : List D} {ns : List Int}, zbO ds = some ns -> ds = ns.map .int
 | [], ns, h => by cases h; rfl
 | d :: ds, ns, h => by
  cases d <;> simp only [zbO] at h <;> try cases h
  obtain ⟨ms, e1, e2⟩ := zau h
  subst e2
  rw [zhl e1]; rfl
@[simp] theorem intsOf_map : ∀ (ns : List Int), zbO (ns.map .int) = some ns
 | [] => rfl
 | n :: ns => by simp [zbO, intsOf_map ns]
def dSum : List D -> Option D
 | [d] => (za9 [d]).bind fun ds => (zbO ds).map fun ns => .int ns.sum
 | _ => none
theorem zg2 (I : SI K B G H σ ρ) {x : V} (r : RepD K G x d) (e : za9 [d] = some ds) : ∃ p ys, x = .ref p /\ (SqL K H p ys \/ SqT K H p ys) /\ RepL K G ys ds := by
 cases d <;> simp only [za9] at e <;> try cases e
 ·obtain ⟨p, ys, ex, hp, q⟩ := I.lst r
  exact ⟨p, ys, ex, .inl (SqL.of hp), q⟩
 ·obtain ⟨p, ys, ex, hp, q⟩ := I.tup r
  exact ⟨p, ys, ex, .inr (SqT.of hp), q⟩
 ·obtain ⟨p, ex, hp⟩ := r
  exact ⟨p, _, ex, .inl (I.fz.sql hp), RepL.ints _⟩
theorem vc_sum : VC X (rSum X.K) dSum := by
 intro B G H σ ρ xs ds d Q I r hf k
 match ds, hf with
 | [a], hf =>
  obtain ⟨es, e1, hf⟩ := zac hf
  obtain ⟨ns, e2, e3⟩ := zau hf
  subst e3
  obtain ⟨x, rfl, ra⟩ := r.one
  obtain ⟨p, ys, rfl, hq, ry⟩ := zg2 I ra e1
  rw [zhl e2] at ry
  rw [RepL.ints_eq ry] at hq
  exact ⟨p, ns, rfl, hq, k G H _ I (Fz.refl G) rfl⟩
 | [], hf => cases hf
 | _ :: _ :: _, hf => cases hf
theorem se_sum {p pos : Pos} (hc : X.calm = true) (ml : X.mg "sum" = none) (ha : SA X [e] ma) (hg : Gl X "sum" := by rfl) (he : starEach [e] X.env = (false, eval e X.env) :: starEach [] X.env := by rfl) : SE X (.Call (.Name "sum" p) [e] [] pos) (mC dSum ma) :=
 zdU (zll hc) vc_sum (by decide +kernel) ml ha hg (by decide) (by decide) he rfl
def zdW : List D -> Option (List Bool)
 | [] => some []
 | .bl b :: ds => (zdW ds).map (b :: ·)
 | _ => none
theorem zhY : ∀ {ds : List D} {bs : List Bool}, zdW ds = some bs -> ds = bs.map .bl
 | [], ns, h => by cases h; rfl
 | d :: ds, ns, h => by
  cases d <;> simp only [zdW] at h <;> try cases h
  obtain ⟨ms, e1, e2⟩ := zau h
  subst e2
  rw [zhY e1]; rfl
@[simp] theorem boolsOf_map : ∀ (bs : List Bool), zdW (bs.map .bl) = some bs
 | [] => rfl
 | n :: ns => by simp [zdW, boolsOf_map ns]
theorem RepL.bools_eq : ∀ {bs : List Bool} {xs : List V}, RepL K G xs (bs.map D.bl) -> xs = bs.map V.bl
 | [], _, e => e
 | n :: ns, _, ⟨x, ys, e, q, r⟩ => by subst e; cases (show x = V.bl n from q); rw [RepL.bools_eq r]; rfl
theorem zlg {bs : List Bool} (r : Vals (bs.map V.bl) its) {v : Value} (e : its[i]? = some v) : ∃ b, bs[i]? = some b /\ v = .bool b := by
 have hl := r.length
 have hi : i < its.length := (List.getElem?_eq_some_iff.mp e).1
 rw [List.length_map] at hl
 have e2 : (bs.map V.bl)[i]? = some (.bl bs[i]) := by rw [List.getElem?_map, List.getElem?_eq_getElem (by omega)]; rfl
 obtain ⟨u, h1, h2⟩ := r.get e2
 rw [e] at h1; cases h1
 exact ⟨bs[i], List.getElem?_eq_getElem (by omega), h2⟩
def rAll (K : W.Frag) (f : List Bool -> Bool) : List V -> Hp -> VK -> Prop := fun xs H Q => ∃ (p : Addr) (bs : List Bool), xs = [.ref p] /\ (SqL K H p (bs.map V.bl) \/ SqT K H p (bs.map V.bl)) /\ Q (.bl (f bs)) H
theorem zmx (hc : X.calm = true) : zfn X (.builtin "all") (rAll X.K fun bs => bs.all id) := by
 intro pins s σ H xs us Q I r h
 obtain ⟨p, bs, rfl, hq, q⟩ := h
 obtain ⟨u, rfl, ru⟩ := zia r
 cases ru
 refine call_all_walk (zgb (A := X.A.in1) (I.ok.hd hc) I hq fun its s₂ St rv W st hfp fin => ?_)
 have hl := rv.length
 rw [List.length_map] at hl
 refine ⟨_, _, _, _, _, _, fun i => (bs[i]?).getD true, rfl, W, st, fun i v s' Q' E' hP hQ => ?_, fun h' tk hk => ⟨.bl (bs.all id), H, fin h' tk hk, ?_, q⟩⟩
 ·obtain ⟨b, e, rfl⟩ := zlg rv hP
  simp only [e, Option.getD_some] at hQ
  exact wpAny_truthy_bool hQ
 ·rw [<- hl, LSm.range_all]; rfl
def dAll (f : List Bool -> Bool) : List D -> Option D
 | [d] => (za9 [d]).bind fun ds => (zdW ds).map fun bs => .bl (f bs)
 | _ => none
theorem vc_all (f : List Bool -> Bool) : VC X (rAll X.K f) (dAll f) := by
 intro B G H σ ρ xs ds d Q I r hf k
 match ds, hf with
 | [a], hf =>
  obtain ⟨es, e1, hf⟩ := zac hf
  obtain ⟨ns, e2, e3⟩ := zau hf
  subst e3
  obtain ⟨x, rfl, ra⟩ := r.one
  obtain ⟨p, ys, rfl, hq, ry⟩ := zg2 I ra e1
  rw [zhY e2] at ry
  rw [RepL.bools_eq ry] at hq
  exact ⟨p, ns, rfl, hq, k G H _ I (Fz.refl G) rfl⟩
 | [], hf => cases hf
 | _ :: _ :: _, hf => cases hf
theorem zhN {p pos : Pos} (hc : X.calm = true) (ml : X.mg "all" = none) (ha : SA X [e] ma) (hg : Gl X "all" := by rfl) (he : starEach [e] X.env = (false, eval e X.env) :: starEach [] X.env := by rfl) : SE X (.Call (.Name "all" p) [e] [] pos) (mC (dAll fun bs => bs.all id) ma) :=
 zdU (zmx hc) (vc_all _) (by decide +kernel) ml ha hg (by decide) (by decide) he rfl
def d2I (g : Int -> Int -> Int) : List D -> Option D
 | [.int i, .int j] => some (.int (g i j))
 | _ => none
theorem vc_2I (g : Int -> Int -> Int) : VC X (fun xs H Q => ∃ i j, xs = [.int i, .int j] /\ Q (.int (g i j)) H) (d2I g) := by
 intro B G H σ ρ xs ds d Q I r hf k
 unfold d2I at hf
 split at hf
 ·rename_i i j
  cases hf
  obtain ⟨x, y, rfl, rx, ry⟩ := r.two
  cases (show x = V.int i from rx)
  cases (show y = V.int j from ry)
  exact ⟨i, j, rfl, k G H _ I (Fz.refl G) rfl⟩
 ·cases hf
def max2 (i j : Int) : Int := if j > i then j else i
def min2 (i j : Int) : Int := if j < i then j else i
theorem zin {p pos : Pos} (hc : X.calm = true) (ml : X.mg "max" = none) (ha : SA X [a, b] ma) (hg : Gl X "max" := by rfl) (he : starEach [a, b] X.env = (false, eval a X.env) :: starEach [b] X.env := by rfl) (hpl : (backTo pos (starEach [b] X.env)).any (·.1) = false := by rfl) : SE X (.Call (.Name "max" p) [a, b] [] pos) (mC (d2I max2) ma) :=
 zdU (zl5 hc) (vc_2I max2) (by decide +kernel) ml ha hg (by decide) (by decide) he hpl
theorem zhk {p pos : Pos} (hc : X.calm = true) (ml : X.mg "min" = none) (ha : SA X [a, b] ma) (hg : Gl X "min" := by rfl) (he : starEach [a, b] X.env = (false, eval a X.env) :: starEach [b] X.env := by rfl) (hpl : (backTo pos (starEach [b] X.env)).any (·.1) = false := by rfl) : SE X (.Call (.Name "min" p) [a, b] [] pos) (mC (d2I min2) ma) :=
 zdU (zli hc) (vc_2I min2) (by decide +kernel) ml ha hg (by decide) (by decide) he hpl
theorem zgX (K : W.Frag) : W.kitOne K (.type "NoneType") (.type "int") = some false := by kernel_rfl
theorem zgt (K : W.Frag) : W.kitOne K (.type "NoneType") (.type "bool") = some false := by kernel_rfl
theorem zf9 (K : W.Frag) : W.kitOne K (.type "NoneType") (.type "tuple") = some false := by kernel_rfl
theorem zgu (K : W.Frag) : W.kitOne K (.type "NoneType") (.type "list") = some false := by kernel_rfl
theorem zgZ (K : W.Frag) : W.kitOne K (.type "NoneType") (.type "str") = some false := by kernel_rfl
theorem zje (K : W.Frag) : W.kitOne K (.type "bool") (.type "int") = some true := by kernel_rfl
theorem ziJ (K : W.Frag) : W.kitOne K (.type "bool") (.type "bool") = some true := by kernel_rfl
theorem zhG (K : W.Frag) : W.kitOne K (.type "bool") (.type "tuple") = some false := by kernel_rfl
theorem zie (K : W.Frag) : W.kitOne K (.type "bool") (.type "list") = some false := by kernel_rfl
theorem ziR (K : W.Frag) : W.kitOne K (.type "bool") (.type "str") = some false := by kernel_rfl
theorem zjE (K : W.Frag) : W.kitOne K (.type "int") (.type "int") = some true := by kernel_rfl
theorem ziO (K : W.Frag) : W.kitOne K (.type "int") (.type "bool") = some false := by kernel_rfl
theorem zib (K : W.Frag) : W.kitOne K (.type "int") (.type "tuple") = some false := by kernel_rfl
theorem zi9 (K : W.Frag) : W.kitOne K (.type "int") (.type "list") = some false := by kernel_rfl
theorem zjT (K : W.Frag) : W.kitOne K (.type "int") (.type "str") = some false := by kernel_rfl
theorem zjK (K : W.Frag) : W.kitOne K (.type "str") (.type "int") = some false := by kernel_rfl
theorem ziQ (K : W.Frag) : W.kitOne K (.type "str") (.type "bool") = some false := by kernel_rfl
theorem zh9 (K : W.Frag) : W.kitOne K (.type "str") (.type "tuple") = some false := by kernel_rfl
theorem zi4 (K : W.Frag) : W.kitOne K (.type "str") (.type "list") = some false := by kernel_rfl
theorem zjz (K : W.Frag) : W.kitOne K (.type "str") (.type "str") = some true := by kernel_rfl
theorem zi6 (K : W.Frag) : W.kitOne K (.type "list") (.type "int") = some false := by kernel_rfl
theorem ziC (K : W.Frag) : W.kitOne K (.type "list") (.type "bool") = some false := by kernel_rfl
theorem zhF (K : W.Frag) : W.kitOne K (.type "list") (.type "tuple") = some false := by kernel_rfl
theorem zh7 (K : W.Frag) : W.kitOne K (.type "list") (.type "list") = some true := by kernel_rfl
theorem ziX (K : W.Frag) : W.kitOne K (.type "list") (.type "str") = some false := by kernel_rfl
theorem ziz (K : W.Frag) : W.kitOne K (.type "tuple") (.type "int") = some false := by kernel_rfl
theorem zhD (K : W.Frag) : W.kitOne K (.type "tuple") (.type "bool") = some false := by kernel_rfl
theorem zg9 (K : W.Frag) : W.kitOne K (.type "tuple") (.type "tuple") = some true := by kernel_rfl
theorem zhH (K : W.Frag) : W.kitOne K (.type "tuple") (.type "list") = some false := by kernel_rfl
theorem ziv (K : W.Frag) : W.kitOne K (.type "tuple") (.type "str") = some false := by kernel_rfl
def isI (T : String) : D -> Bool
 | .non => false
 | .bl _ => T == "bool" || T == "int"
 | .int _ => T == "int"
 | .str _ => T == "str"
 | .lst _ => T == "list"
 | .tup _ => T == "tuple"
 | .scr _ => T == "list"
 | .exc _ => false
 | .dic _ _ => false
 | .dit _ _ => false
def okT (T : String) : Bool := ["int", "bool", "tuple", "list", "str"].contains T
def rIsI (K : W.Frag) (T : String) : List V -> Hp -> VK -> Prop := fun xs H Q => ∃ x t b, xs = [x, .ty T] /\ TyOf K H x t /\ W.kitOne K t (.type T) = some b /\ Q (.bl b) H
theorem call_isI (T : String) : zfn X (.builtin "isinstance") (rIsI X.K T) := by
 intro pins s σ H xs us Q I r h
 obtain ⟨x, t, b, rfl, ty, e, q⟩ := h
 obtain ⟨u, w', rfl, r1, r2⟩ := vals2 r
 cases (show w' = Value.type T from r2)
 exact zlZ I r1 ty e fun tk => ⟨.bl b, H, I.tok _, rfl, q⟩
def eIsI (T : String) (ma : ME) : ME := fun ρ => (ma ρ).bind fun p => if okT T && noS1 p.1 then some (.bl (isI T p.1), p.2) else none
where noS1 : D -> Bool
 | .scr _ => false
 | .exc _ => false
 | .dic _ _ => false
 | .dit _ _ => false
 | _ => true
theorem kit_all (K : W.Frag) {T : String} (hT : okT T = true) : W.kitOne K (.type "NoneType") (.type T) = some false /\ W.kitOne K (.type "bool") (.type T) = some (T == "bool" || T == "int") /\ W.kitOne K (.type "int") (.type T) = some (T == "int") /\
  W.kitOne K (.type "str") (.type T) = some (T == "str") /\ W.kitOne K (.type "list") (.type T) = some (T == "list") /\ W.kitOne K (.type "tuple") (.type T) = some (T == "tuple") := by
 have h : T = "int" \/ T = "bool" \/ T = "tuple" \/ T = "list" \/ T = "str" := by simpa [okT] using hT
 rcases h with rfl | rfl | rfl | rfl | rfl
 ·exact ⟨zgX K, zje K, zjE K, zjK K, zi6 K, ziz K⟩
 ·exact ⟨zgt K, ziJ K, ziO K, ziQ K, ziC K, zhD K⟩
 ·exact ⟨zf9 K, zhG K, zib K, zh9 K, zhF K, zg9 K⟩
 ·exact ⟨zgu K, zie K, zi9 K, zi4 K, zh7 K, zhH K⟩
 ·exact ⟨zgZ K, ziR K, zjT K, zjz K, ziX K, ziv K⟩
theorem zjn {ma : ME} {p q pos : Pos} (T : String) (ml : X.mg "isinstance" = none) (mT : X.mg x = none) (hbT : bootBuiltins x = some (.type T)) (ha : SE X a ma) (hg : Gl X "isinstance" := by rfl) (hgT : Gl X x := by rfl) (hn : x ≠ "__name__" := by decide) (hd : (x == ("__debug__" : Str)) = false := by decide)
  (he : starEach [a, .Name x q] X.env = (false, eval a X.env) :: starEach [.Name x q] X.env := by rfl) (he2 : starEach [.Name x q] X.env = (false, eval (.Name x q) X.env) :: starEach [] X.env := by rfl) (hpl : (backTo pos (starEach [.Name x q] X.env)).any (·.1) = false := by rfl) :
  SE X (.Call (.Name "isinstance" p) [a, .Name x q] [] pos) (eIsI T ma) := by
 obtain ⟨ta, pa, sa⟩ := ha
 refine ⟨_, zf6 (call_isI T) hg ml boot_isinstance (zbi pa (zbi (pe_bltn (v := .ty T) hgT mT hbT rfl hn hd) zdA he2) he) (by decide) (by decide) he hpl, fun B G H σ ρ d ρ' Q I hm k => ?_⟩
 obtain ⟨⟨y, ρ1⟩, e1, hm⟩ := zac hm
 dsimp only at hm
 split at hm
 ·rename_i hT
  obtain ⟨rfl, rfl⟩ := Prod.mk.inj (Option.some.inj hm)
  rw [Bool.and_eq_true] at hT
  obtain ⟨hT, hS⟩ := hT
  refine sa B G H σ ρ y ρ1 _ I e1 fun G1 H1 v I1 f1 r1 => ?_
  obtain ⟨k0, k1, k2, k3, k4, k5⟩ := kit_all X.K hT
  have fin : ∀ t, TyOf X.K H1 v t -> W.kitOne X.K t (.type T) = some (isI T y) -> rIsI X.K T [v, .ty T] H1 Q := fun t ty e => ⟨v, t, isI T y, rfl, ty, e, k G1 H1 _ I1 f1 rfl⟩
  cases y with
  | non => cases (show v = V.non from r1); exact fin _ .non k0
  | bl c => cases (show v = V.bl c from r1); exact fin _ (.bl c) k1
  | int c => cases (show v = V.int c from r1); exact fin _ (.int c) k2
  | str c => cases (show v = V.str c from r1); exact fin _ (.str c) k3
  | lst ds => obtain ⟨a, xs, e, hp, r⟩ := I1.lst r1; subst e; exact fin _ (.lst hp) k4
  | tup ds => obtain ⟨a, xs, e, hp, r⟩ := I1.tup r1; subst e; exact fin _ (.tup hp) k5
  | scr _ => cases hS
  | exc _ => cases hS
  | dic _ _ => cases hS
  | dit _ _ => cases hS
 ·cases hm
def cutD {α : Type} (xs : List α) (lo hi : Option Int) : List α := (xs.drop (HT.sIx xs.length 0 lo)).take (HT.sIx xs.length xs.length hi - HT.sIx xs.length 0 lo)
theorem RepL.cut (h : RepL K G xs ds) (lo hi : Option Int) : RepL K G (cutV xs lo hi) (cutD ds lo hi) := by
 unfold cutV cutD
 rw [h.length]
 exact (h.drop _).take _
section
variable {prog : Program} {w : World} {A : Around} {E : Value -> Shared -> Prop} {s : Shared}
theorem zfR {t sl : Addr} {items : Array Value} {vl vu : Value} {lo hi : Option Int} (ht : IsTup s.heap t items) (hs : s.heap.IsSliceOf sl vl vu .none) (pl : IsPart vl lo) (pu : IsPart vu hi)
  (hw : HT.sIx items.size 0 lo = 0 /\ HT.sIx items.size items.size hi = items.size) (h : Q (.ref t) s) : wpAny (model prog w) A (getItem (.ref t) (.ref sl)) Q E s := by
 obtain ⟨os, hos, hcs, hds⟩ := id hs
 have hTs : s.TypeIs (.ref sl) "slice" := ⟨os, hos, hcs⟩
 unfold getItem
 try with_reducible refine wpAny_holding ?_
 first | refine wpAny_bind (wpAny_pure ?_) | skip
 refine wpAny_bind (wpAny_sequenceKey ht.typeIs (by decide) ?_)
 refine wpAny_bind (wpAny_callSpecial?_slot (name := Str.ofString "__getitem__") ht.typeIs PyProof.Rows.slot_tuple_getitem
  (wpAny_call_entry PyProof.Rows.slot_tuple_getitem ht.typeIs entry_tuple_getitem ?_ (args_tuple_getitem _ _)))
 show wpAny _ _ (Builtin.Tuple.tupleItemsOf (.ref t) >>= _) _ _ s
 refine wpAny_bind (tupleItemsOf_ ht ?_)
 refine wpAny_bind (wpAny_typeOf hTs ?_)
 rw [if_pos (by decide)]
 refine wpAny_bind (HT.zdY hs pl pu ?_)
 have hyes : (((HT.sIx items.size 0 lo : Nat) : Int) == 0 && (1 : Int) == 1 && (HT.sIx items.size items.size hi - HT.sIx items.size 0 lo) == items.size) = true := by
  rw [hw.1, hw.2]; simp
 show wpAny _ _ (if (((HT.sIx items.size 0 lo : Nat) : Int) == 0 && (1 : Int) == 1 && (HT.sIx items.size items.size hi - HT.sIx items.size 0 lo) == items.size) = true then _ else _) _ _ s
 rw [if_pos hyes]
 refine wpAny_bind (m := Builtin.Tuple.tupleIsExact _) ?_
 unfold Builtin.Tuple.tupleIsExact
 refine wpAny_bind (wpAny_typeOf ht.typeIs (wpAny_pure ?_))
 rw [if_pos (by decide)]
 refine wpAny_bind (wpAny_rule ?_)
 exact wpAny_pure ⟨_, rfl, wpAny_pure h⟩
end
def rSlTW (K : W.Frag) : V -> Option Int -> Option Int -> Hp -> VK -> Prop := fun x lo hi H Q => ∃ a xs, x = .ref a /\ SqT K H a xs /\ (HT.sIx xs.length 0 lo = 0 /\ HT.sIx xs.length xs.length hi = xs.length) /\ Q (.ref a) H
theorem sl_tupW : SlR X (rSlTW X.K) := by
 intro pins s σ H x v vl vu lo hi sl Q I rx hs pl pu h
 obtain ⟨a, xs, rfl, hx, hw, q⟩ := h
 cases rx
 obtain ⟨its, r, ht, hz⟩ := I.tuple hx
 have hlen : its.toArray.size = xs.length := by rw [List.size_toArray]; exact r.length.symm
 refine ⟨"tuple", _, PyProof.Rows.slot_tuple_getitem.lookup, ht.typeIs, ?_⟩
 exact zfR ht hs pl pu (by rw [hlen]; exact hw) ⟨.ref a, H, I, rfl, q⟩
abbrev MP := R -> Option (Option Int × R)
def SPt (X : Cx) (e : Option Expr) (m : MP) : Prop := ∃ t, PO X e t /\ ∀ B G H σ ρ o ρ' (Q : Option Int -> Hp -> Prop), SI X.K B G H σ ρ -> m ρ = some (o, ρ') -> (∀ G' H', SI X.K B G' H' σ ρ' -> Fz G G' -> Q o H') -> t σ H Q
def pNo : MP := fun ρ => some (none, ρ)
def zhE (m : ME) : MP := fun ρ => (m ρ).bind fun p => match p.1 with
 | .int i => some (some i, p.2)
 | _ => none
theorem zk2 : SPt X none pNo := ⟨_, po_none, fun B G H σ ρ o ρ' Q I hm k => by cases hm; exact k G H I (Fz.refl G)⟩
theorem zeF {m : ME} (h : SE X e m) : SPt X (some e) (zhE m) := by
 obtain ⟨t, p, s⟩ := h
 refine ⟨_, po_some p, fun B G H σ ρ o ρ' Q I hm k => ?_⟩
 obtain ⟨⟨d, ρ1⟩, e1, hm⟩ := zac hm
 refine s B G H σ ρ d ρ1 _ I e1 fun G1 H1 v I1 f1 r1 => ?_
 cases d <;> try cases hm
 rename_i i
 exact ⟨i, r1, k G1 H1 I1 f1⟩
def dCut (d : D) (lo hi : Option Int) : Option D := match d with
 | .lst ds => some (.lst (cutD ds lo hi))
 | .tup ds => some (.tup (cutD ds lo hi))
 | .scr ns => some (.lst ((cutD ns lo hi).map .int))
 | _ => none
def eCut (ma : ME) (ml mh : MP) : ME := fun ρ => (ma ρ).bind fun p => (ml p.2).bind fun q => (mh q.2).bind fun r => (dCut p.1 q.1 r.1).map fun d => (d, r.2)
theorem zmk (ns : List Int) (lo hi : Option Int) : cutV (ns.map V.int) lo hi = (cutD ns lo hi).map V.int := by
 unfold cutV cutD
 rw [List.length_map, <- List.map_drop, <- List.map_take]
theorem zht {lo hi : Option Expr} {ma : ME} {ml mh : MP} {pos p2 : Pos} (he : SE X e ma) (hl : SPt X lo ml) (hu : SPt X hi mh) : SE X (.Subscript e (.Slice lo hi none p2) pos) (eCut ma ml mh) := by
 obtain ⟨ta, pa, sa⟩ := he
 obtain ⟨tl, pl, sl⟩ := hl
 obtain ⟨th, ph, sh⟩ := hu
 refine ⟨_, pe_slice (sl_list.or (sl_tup.or sl_tupW)) pa pl ph, fun B G H σ ρ d ρ' Q I hm k => ?_⟩
 obtain ⟨⟨x, ρ1⟩, e1, hm⟩ := zac hm
 obtain ⟨⟨l, ρ2⟩, e2, hm⟩ := zac hm
 obtain ⟨⟨u, ρ3⟩, e3, hm⟩ := zac hm
 obtain ⟨c, e4, e5⟩ := zau hm
 obtain ⟨rfl, rfl⟩ := Prod.mk.inj e5
 refine sa B G H σ ρ x ρ1 _ I e1 fun G1 H1 v I1 f1 r1 => sl B G1 H1 σ ρ1 l ρ2 _ I1 e2 fun G2 H2 I2 f2 => sh B G2 H2 σ ρ2 u ρ3 _ I2 e3 fun G3 H3 I3 f3 => ?_
 have r3 := r1.mono (f2.trans f3)
 dsimp only at e4
 cases x with
 | exc _ => cases e4
 | dic _ _ => cases e4
 | dit _ _ => cases e4
 | non => cases e4
 | bl _ => cases e4
 | int _ => cases e4
 | str _ => cases e4
 | lst ds =>
  cases e4
  obtain ⟨a, xs, rfl, ha, r⟩ := I3.lst r3
  refine .inl ⟨a, xs, rfl, SqL.of ha, fun p hp => ?_⟩
  obtain ⟨I4, f4, r4⟩ := I3.newL hp (r.cut l u)
  exact k _ _ _ I4 (f1.trans (f2.trans (f3.trans f4))) r4
 | tup ds =>
  cases e4
  obtain ⟨a, xs, rfl, ha, r⟩ := I3.tup r3
  by_cases hw : HT.sIx xs.length 0 l = 0 /\ HT.sIx xs.length xs.length u = xs.length
  ·refine .inr (.inr ⟨a, xs, rfl, SqT.of ha, hw, ?_⟩)
   have e : cutD ds l u = ds := by
    unfold cutD
    rw [<- r.length, hw.1, hw.2, List.drop_zero, Nat.sub_zero, List.take_of_length_le (by rw [r.length]; exact Nat.le_refl _)]
   rw [e] at k
   exact k G3 H3 _ I3 (f1.trans (f2.trans f3)) r3
  ·refine .inr (.inl ⟨a, xs, rfl, SqT.of ha, hw, fun p hp => ?_⟩)
   obtain ⟨I4, f4, r4⟩ := I3.newT hp (r.cut l u)
   exact k _ _ _ I4 (f1.trans (f2.trans (f3.trans f4))) r4
 | scr ns =>
  cases e4
  obtain ⟨a, rfl, ha⟩ := r3
  refine .inl ⟨a, _, rfl, I3.fz.sql ha, fun p hp => ?_⟩
  rw [zmk]
  obtain ⟨I4, f4, r4⟩ := I3.newL hp (RepL.ints (cutD ns l u))
  exact k _ _ _ I4 (f1.trans (f2.trans (f3.trans f4))) r4
theorem zb3 (h : aLen ma n) : ∀ ρ as ρ', ma ρ = some (as, ρ') -> as.length + 1 = n + 1 := fun ρ as ρ' e => congrArg (· + 1) (h ρ as ρ' e)
section
variable {X : Cx} {elt iter tg : Expr} {ifs : List Expr} {scope : Scope} {pos lpos pos' : Pos} {N : List Str} {cap : List Nat} {t : Nat} {mi : MA} {g : D -> R -> Option R} {mt : MT} {me : ME}
theorem ziN (i : Nat) (cap : List Nat) (t : Nat) (N : List Str) (hc : X.calm = true) (hi : SIt X tg iter mi) (hg : ∀ C s H fp, SG (cxC X N scope C s H fp) tg g) (ht : ∀ C s H fp, STs (cxC X N scope C s H fp) ifs mt) (he : ∀ C s H fp, SE (cxC X N scope C s H fp) elt me) (hN : X.N.Nodup)
    (hxi : X.N[i]? = some x := by rfl) (hx : Loc X.env.scope x := by first | exact Or.inl rfl | exact Or.inr rfl) (hf : X.fn x = true \/ X.env.scope.names.lookup x = some .local := by first | exact Or.inl rfl | exact Or.inr rfl)
    (hsw : swapsWith (.ListComp elt [⟨tg, iter, ifs, 0⟩] scope lpos) (some (.Name x pos')) pos.line X.env = pure true := by rfl)
    (hk : scope.kind = .function := by rfl) (hb : blkB X.env scope = true := by kernel_rfl) (hcap : capB scope.names N X.N cap t = true := by kernel_rfl)
    (hs : ∀ x, foldedSetIterable iter X.env x = pure x := by exact fun _ => rfl) : SS X (.Assign [.Name x pos'] (.ListComp elt [⟨tg, iter, ifs, 0⟩] scope lpos) pos) (sSet i (eFz (oLC cap t mi g mt me))) := by
  obtain ⟨wi, pi, si⟩ := hi
  refine ⟨_, zg4 hN hxi hx hf hsw hc (zhz hk hb) (zg6 hcap) pi (fun C s H fp => (hg C s H fp).choose_spec.1) (fun C s H fp => (ht C s H fp).choose_spec.1) (fun C s H fp => (he C s H fp).choose_spec.1) hs, fun B G H σ ρ fl ρ' E I hm k => ?_⟩
  obtain ⟨⟨d, ρ1⟩, e1, e3⟩ := zau hm
  obtain ⟨⟨ds, ρ2⟩, e4, e5⟩ := zau e1
  obtain ⟨rfl, rfl⟩ := Prod.mk.inj e5
  obtain ⟨rfl, rfl⟩ := Prod.mk.inj e3
  refine zh4 si (fun C s H fp => (hg C s H fp).choose_spec.2) (fun C s H fp => (ht C s H fp).choose_spec.2) (fun C s H fp => (he C s H fp).choose_spec.2) B G H σ ρ ds ρ2 _ I e4 fun G1 H1 l xs I1 f1 g1 h1 r1 b1 n1 => ?_
  obtain ⟨I2, f2, r2⟩ := zhT I1 g1 h1 r1 b1 n1
  exact k _ H1 _ (I2.set r2) (f1.trans f2)
end
def rRng1 : List V -> Hp -> VK -> Prop := fun xs H Q => ∃ j, xs = [.int j] /\ ∀ p, H p = none -> Q (.ref p) (upd H p (.rng 0 j))
theorem zmi : zfn X (.type "range") rRng1 := by
 intro pins s σ H xs us Q I r h
 obtain ⟨j, rfl, q⟩ := h
 obtain ⟨u, rfl, t, rfl⟩ := zia r
 refine call_range_1 ⟨.ref s.heap.objs.size, _, I.laid (o := .rng 0 j) (fun b o e => Heap.get?_push_of_some _ e) (Nat.le_refl _) ⟨_, _, _, Heap.get?_push_size _ rfl⟩, rfl, q _ I.fresh⟩
def rListR : List V -> Hp -> VK -> Prop := fun xs H Q => ∃ p i j, xs = [.ref p] /\ H p = some (.rng i j) /\ (-(2 ^ 62) <= i /\ i < 2 ^ 62 /\ -(2 ^ 62) <= j /\ j < 2 ^ 62) /\ (j - i).toNat <= 16777216 /\ ∀ l, H l = none -> Q (.ref l) (upd H l (.lst ((List.range (j - i).toNat).map fun (k : Nat) => V.int (i + k))))
theorem zkG (hc : X.calm = true) : zfn X (.type "list") rListR := by
 intro pins s σ H xs us Q I r h
 obtain ⟨p, i, j, rfl, hp, ⟨h1, h2, h3, h4⟩, hz, q⟩ := h
 obtain ⟨u, rfl, ru⟩ := zia r
 cases ru
 obtain ⟨t, t', t'', e⟩ := I.hok p _ hp
 refine call_list_range (a := i) (b := j) (c := 1) (t := t) (u := t') (v := t'') (n := (j - i).toNat) (I.ok.hd hc) e (small_one h1 h2 h3 h4) (by rw [rangeSize_one]; split <;> omega) (by omega) fun h' tk acc' c' hk hl ⟨hs1, hs2⟩ => ?_
 refine ⟨.ref s.heap.objs.size, _, I.laid (h' := h') (t' := tk) (o := .lst ((List.range (j - i).toNat).map fun (k : Nat) => V.int (i + k))) hk (Nat.le_refl _) ⟨by rw [List.length_map, List.length_range, sizeLine_eq]; exact hz, acc'.toList, c', ?_, by simpa using hl⟩, rfl, q _ I.fresh⟩
 have key : ∀ (n : Nat) (l : List Value), l.length = n -> (∀ k v, l[k]? = some v -> ∃ t, v = Value.int (i + (k : Nat) * 1) t) -> Vals ((List.range n).map fun (k : Nat) => V.int (i + k)) l := by
  intro n
  induction n with
  | zero => intro l hl _; have : l = [] := List.eq_nil_of_length_eq_zero hl; subst this; exact .nil
  | succ n ih =>
   intro l hl hv
   have e : l = l.take n ++ [l[n]'(by omega)] := by
    rw [<- List.take_succ_eq_append_getElem (by omega), List.take_of_length_le (by omega)]
   rw [List.range_succ, List.map_append, e]
   refine Vals.append (ih (l.take n) (by rw [List.length_take]; omega) fun k v hk => ?_) (.cons ?_ .nil)
   ·have hkn : k < n := by
     have := (List.getElem?_eq_some_iff.mp hk).1
     rw [List.length_take] at this; omega
    rw [List.getElem?_take_of_lt hkn] at hk
    exact hv k v hk
   ·obtain ⟨t, ht⟩ := hv n _ (List.getElem?_eq_getElem (by omega))
    exact ⟨t, by rw [ht, Int.mul_one]⟩
 exact key _ acc'.toList (by rw [Array.length_toList]; exact hs1) fun k v hk => hs2 k v (by simpa using hk)
theorem zkU (i : Int) (n : Nat) : RepL K G ((List.range n).map fun (k : Nat) => V.int (i + k)) (zdc i n) := by
 have e1 : ((List.range n).map fun (k : Nat) => V.int (i + k)) = ((List.range n).map fun (k : Nat) => i + (k : Int)).map V.int := by rw [List.map_map]; rfl
 have e2 : zdc i n = ((List.range n).map fun (k : Nat) => i + (k : Int)).map D.int := by unfold zdc; rw [List.map_map]; rfl
 rw [e1, e2]
 exact RepL.ints _
def oR (m : MA) : MO := fun ρ => (m ρ).bind fun p => if p.1.length <= 16777216 then some p else none
end M
namespace M
open L2 PySem
@[simp] theorem atI_nat' {α : Type} (xs : List α) (i : Nat) : atI xs (i : Int) = xs[i]? := by
 unfold atI ixN
 rw [if_pos (by omega)]
 by_cases h : i < xs.length
 ·rw [if_pos (by omega)]; simp
 ·rw [if_neg (by omega)]; simp [List.getElem?_eq_none (by omega : xs.length <= i)]
end M
namespace M
open L2 PySem PySem.Spec
open PyProof.Rows hiding St
variable {X : Cx} {e a b : Expr} {ma : MA} {p pos : Pos} {K : W.Frag} {G : Hp} {xs : List V} {ds : List D}
def zjI (lt : Int -> Int -> Bool) (ns : List Int) : Int := ns.getD (argBest (fun i j => lt (ns.getD i 0) (ns.getD j 0)) (ns.length - 1)) 0
def rBest (K : W.Frag) (lt : Int -> Int -> Bool) : List V -> Hp -> VK -> Prop := fun xs H Q => ∃ (p : Addr) (ns : List Int), xs = [.ref p] /\ ns ≠ [] /\ (SqL K H p (ns.map V.int) \/ SqT K H p (ns.map V.int)) /\ Q (.int (zjI lt ns)) H
theorem zmh (hc : X.calm = true) : zfn X (.builtin "max") (rBest X.K fun i j => decide (i > j)) := by
 intro pins s σ H xs us Q I r h
 obtain ⟨p, ns, rfl, ne, hq, q⟩ := h
 obtain ⟨u, rfl, ru⟩ := zia r
 cases ru
 refine call_max_walk (zgb (A := X.A.in1) (I.ok.hd hc) I hq fun its s₂ St rv W st hfp fin => ?_)
 have hl := rv.length
 rw [List.length_map] at hl
 have hp : 0 < its.length := by rw [<- hl]; exact List.length_pos_iff.mpr ne
 refine ⟨_, _, _, _, _, _, _, rfl, W, st, hfp, hp, CmpOf.ints_gt (fun i => ns.getD i 0) (fun i v e => zgp rv e), fun v h' tk hP hk => ?_⟩
 obtain ⟨t, rfl⟩ := zgp rv hP
 refine ⟨.int (zjI _ ns), H, fin h' tk hk, ⟨t, ?_⟩, q⟩
 unfold zjI
 rw [hl]
theorem zlm (hc : X.calm = true) : zfn X (.builtin "min") (rBest X.K fun i j => decide (i < j)) := by
 intro pins s σ H xs us Q I r h
 obtain ⟨p, ns, rfl, ne, hq, q⟩ := h
 obtain ⟨u, rfl, ru⟩ := zia r
 cases ru
 refine call_min_walk (zgb (A := X.A.in1) (I.ok.hd hc) I hq fun its s₂ St rv W st hfp fin => ?_)
 have hl := rv.length
 rw [List.length_map] at hl
 have hp : 0 < its.length := by rw [<- hl]; exact List.length_pos_iff.mpr ne
 refine ⟨_, _, _, _, _, _, _, rfl, W, st, hfp, hp, CmpOf.ints_lt (fun i => ns.getD i 0) (fun i v e => zgp rv e), fun v h' tk hP hk => ?_⟩
 obtain ⟨t, rfl⟩ := zgp rv hP
 refine ⟨.int (zjI _ ns), H, fin h' tk hk, ⟨t, ?_⟩, q⟩
 unfold zjI
 rw [hl]
def zly (lt : Int -> Int -> Bool) : List D -> Option D
 | [d] => (za9 [d]).bind fun ds => (zbO ds).bind fun ns => if ns.isEmpty then none else some (.int (zjI lt ns))
 | _ => none
theorem zlE (lt : Int -> Int -> Bool) : VC X (rBest X.K lt) (zly lt) := by
 intro B G H σ ρ xs ds d Q I r hf k
 match ds, hf with
 | [a], hf =>
  obtain ⟨es, e1, hf⟩ := zac hf
  obtain ⟨ns, e2, hf⟩ := zac hf
  split at hf
  ·cases hf
  ·rename_i ne
   cases hf
   obtain ⟨x, rfl, ra⟩ := r.one
   obtain ⟨p, ys, rfl, hq, ry⟩ := zg2 I ra e1
   rw [zhl e2] at ry
   rw [RepL.ints_eq ry] at hq
   exact ⟨p, ns, rfl, fun z => ne (by rw [z]; rfl), hq, k G H _ I (Fz.refl G) rfl⟩
 | [], hf => cases hf
 | _ :: _ :: _, hf => cases hf
def dMaxL : List D -> Option D := zly fun i j => decide (i > j)
def dMinL : List D -> Option D := zly fun i j => decide (i < j)
theorem se_maxL (hc : X.calm = true) (ml : X.mg "max" = none) (ha : SA X [e] ma) (hg : Gl X "max" := by rfl) (he : starEach [e] X.env = (false, eval e X.env) :: starEach [] X.env := by rfl) : SE X (.Call (.Name "max" p) [e] [] pos) (mC dMaxL ma) :=
 zdU (zmh hc) (zlE _) (by decide +kernel) ml ha hg (by decide) (by decide) he rfl
theorem se_minL (hc : X.calm = true) (ml : X.mg "min" = none) (ha : SA X [e] ma) (hg : Gl X "min" := by rfl) (he : starEach [e] X.env = (false, eval e X.env) :: starEach [] X.env := by rfl) : SE X (.Call (.Name "min" p) [e] [] pos) (mC dMinL ma) :=
 zdU (zlm hc) (zlE _) (by decide +kernel) ml ha hg (by decide) (by decide) he rfl
def oRep (ma mb : ME) : MO := fun ρ => (ma ρ).bind fun p => (mb p.2).bind fun q => match p.1, q.1 with
 | .lst xs, .int k => if zd4 k && decide (xs.length * k.toNat <= 16777216) then some ((List.replicate k.toNat xs).flatten, q.2) else none
 | _, _ => none
theorem RepL.times (h : RepL K G xs ds) : ∀ n : Nat, RepL K G (List.replicate n xs).flatten (List.replicate n ds).flatten
 | 0 => RepL.nil
 | n + 1 => by
  rw [List.replicate_succ, List.flatten_cons, List.replicate_succ, List.flatten_cons]
  exact h.append (h.times n)
theorem zlF {ma mb : ME} (ha : SE X a ma) (hb : SE X b mb) : SO X (.BinOp a .Mult b pos) (oRep ma mb) := by
 obtain ⟨ta, pa, sa⟩ := ha
 obtain ⟨tb, pb, sb⟩ := hb
 refine ⟨_, pe_op op_rep pa pb, fun B G H σ ρ d ρ' Q I hm k => ?_⟩
 obtain ⟨⟨x, ρ1⟩, e1, hm⟩ := zac hm
 obtain ⟨⟨y, ρ2⟩, e2, hm⟩ := zac hm
 refine sa B G H σ ρ x ρ1 _ I e1 fun G1 H1 v I1 f1 r1 => sb B G1 H1 σ ρ1 y ρ2 _ I1 e2 fun G2 H2 u I2 f2 r2 => ?_
 dsimp only at hm
 split at hm
 ·rename_i xs n _
  split at hm
  ·rename_i hs
   cases hm
   simp only [Bool.and_eq_true, decide_eq_true_eq] at hs
   cases (show u = V.int n from r2)
   obtain ⟨l, ys, rfl, hl, r⟩ := I2.lst (r1.mono f2)
   have a1 := zeQ hs.1
   refine ⟨l, n, ys, rfl, rfl, hl, by omega, by omega, by rw [r.length, sizeLine_eq]; exact hs.2, fun p hp => ?_⟩
   obtain ⟨I3, g3, h3, b3, n3⟩ := I2.newO hp (List.replicate n.toNat ys).flatten
   exact k G2 _ p _ I3 (f1.trans f2) g3 h3 (r.times _) b3 n3
  ·cases hm
 ·cases hm
def flV : D -> Option V
 | .non => some .non
 | .bl b => some (.bl b)
 | .int i => some (.int i)
 | .str x => some (.str x)
 | _ => none
def flAll : List D -> Option (List V)
 | [] => some []
 | d :: ds => (flV d).bind fun v => (flAll ds).map (v :: ·)
theorem flV_ok {x v : V} {d : D} (r : RepD K G x d) (e : flV d = some v) : x = v /\ zhA v = true := by
 cases d <;> simp only [flV] at e <;> cases e <;> exact ⟨r, rfl⟩
theorem zko : ∀ {ys xs : List V} {ds : List D}, RepL K G ys ds -> flAll ds = some xs -> ys = xs /\ xs.all zhA = true
 | ys, xs, [], r, e => by cases e; cases (show ys = [] from r); exact ⟨rfl, rfl⟩
 | ys, xs, d :: ds, r, e => by
  obtain ⟨y, zs, rfl, ry, rz⟩ := r
  obtain ⟨v, e1, e⟩ := zac e
  obtain ⟨vs, e2, rfl⟩ := zau e
  obtain ⟨rfl, f1⟩ := flV_ok ry e1
  obtain ⟨rfl, f2⟩ := zko rz e2
  exact ⟨rfl, by rw [List.all_cons, f1, f2]; rfl⟩
def dInB (neg : Bool) (a b : D) : Option D := (flV a).bind fun x => (za9 [b]).bind fun ds => (flAll ds).map fun xs => .bl (if neg then !inV x xs else inV x xs)
def dIn : D -> D -> Option D := dInB false
theorem v2_in (neg : Bool) : V2 X (rIn X.K neg) (dInB neg) := by
 intro B G H σ ρ x y a b d Q I ra rb hf k
 obtain ⟨v, e1, hf⟩ := zac hf
 obtain ⟨ds, e2, hf⟩ := zac hf
 obtain ⟨xs, e3, rfl⟩ := zau hf
 obtain ⟨rfl, f1⟩ := flV_ok ra e1
 obtain ⟨p, ys, rfl, hq, ry⟩ := zg2 I rb e2
 obtain ⟨rfl, f2⟩ := zko ry e3
 exact ⟨p, ys, rfl, hq, f1, f2, k G H _ I (Fz.refl G) rfl⟩
theorem bl_in (neg : Bool) : ∀ x y d, dInB neg x y = some d -> ∃ t, d = .bl t := by
 intro x y d hf
 obtain ⟨v, e1, hf⟩ := zac hf
 obtain ⟨ds, e2, hf⟩ := zac hf
 obtain ⟨xs, e3, rfl⟩ := zau hf
 exact ⟨_, rfl⟩
theorem st_in {ma mb : ME} (ha : SE X a ma) (hb : SE X b mb) (hm : behindInMarks .In b = false := by rfl) : STt X (.Compare a [.In] [b] pos) (tTru (m2 dIn ma mb)) := zgG zmf (v2_in false) (bl_in false) ha hb hm
end M
namespace M
open L2 PySem PySem.Spec
open PyProof.Rows hiding St
open Sem (wp)
variable {b N i : Nat} {a it l : Addr} {t : Bool} {h h' : Heap} {is xs : Array Value} {Q : Value -> Shared -> Prop}
theorem nin2 {b x y z : Nat} (h : b ∈ [x, y]) (h1 : x ≠ z) (h2 : y ≠ z) : b ≠ z := by
 simp at h
 rcases h with rfl | rfl <;> assumption
theorem nA {N a b : Nat} (h : a ≠ b) : N + a ≠ N + b := fun e => h (Nat.add_left_cancel e)
theorem nB (h : 0 ≠ b) : N ≠ N + b := fun e => h (Nat.add_left_cancel (show N + 0 = N + b from e))
theorem nC (h : b ≠ 0) : N + b ≠ N := fun e => h (Nat.add_left_cancel (show N + b = N + 0 from e))
theorem nL {a N b : Nat} (h : a < N) : a ≠ N + b := Nat.ne_of_lt (Nat.lt_of_lt_of_le h (Nat.le_add_right _ _))
theorem ne_ {a b : Nat} (h : a ≠ b) : a ≠ b := h
def SrcIt : Bool -> Heap -> Addr -> Addr -> Nat -> Prop
 | true, h, it, a, i => h.IsTupleIter it a i
 | false, h, it, a, i => h.IsListIter it a i
def SrcH : Bool -> Heap -> Addr -> Array Value -> Prop
 | true, h, a, its => h.IsTuple a its
 | false, h, a, its => h.IsList a its
theorem SrcIt.at (x : SrcIt t h it a i) (e : ∀ o, h.get? it = some o -> h'.get? it = some o) : SrcIt t h' it a i := by
 cases t
 ·exact Heap.IsListIter.at x e
 ·exact Heap.IsTupleIter.at x e
theorem SrcH.at (x : SrcH t h a is) (e : ∀ o, h.get? a = some o -> h'.get? a = some o) : SrcH t h' a is := by
 cases t
 ·exact Heap.IsList.at x e
 ·obtain ⟨o, ho, r⟩ := x; exact ⟨o, e _ ho, r⟩
theorem SrcIt.obj (x : SrcIt t h it a i) : ∃ o, h.get? it = some o /\ ∀ v, o.data ≠ .cell v := by
 cases t <;> (obtain ⟨o, e, c, d⟩ := x; exact ⟨o, e, fun v z => by rw [d] at z; cases z⟩)
theorem SrcH.lt (x : SrcH t h a is) : a < h.objs.size := by
 cases t <;> (obtain ⟨o, e, _⟩ := x; exact Heap.lt_size e)
section
variable {prog : Program} {w : World} {A : Around} {E : Value -> Shared -> Prop} {s : Shared}
theorem zkq {items} (hit : s.heap.IsTupleIter it l i) (hl : s.heap.IsTuple l items)
  (k : (∃ x, items[i]? = some x /\ ∀ h', h'.IsTupleIter it l (i + 1) -> Heap.SameBut it s.heap h' -> Q x { s with heap := h' }) \/
   (items[i]? = none /\ A.handled = none /\ ∀ h' e, Heap.ExtBut it s.heap h' -> (∃ o, h'.get? e = some o /\ o.cls = .type "StopIteration") -> E (.ref e) { s with heap := h' })) :
  wpAny (model prog w) A (Builtin.SmallTypes.nextOf (.ref it)) Q E s := by
 obtain ⟨o, ho, hc, hd⟩ := id hit
 obtain ⟨ol, hol, -, nl, hdl⟩ := hl
 have ne : ¬ ((Value.ref l == Value.none) = true) := Bool.false_ne_true
 unfold Builtin.SmallTypes.nextOf
 refine wpAny_bind (wpAny_callSpecial?_slot (name := Str.ofString "__next__") hit.typeIs slot_tupleiter_next (wpAny_call_entry slot_tupleiter_next hit.typeIs entry_tupleiter_next ?_ (args_tupleiter_next _)))
 refine (?_ : wpAny _ _ (field (.ref it) 0 >>= _) _ _ s)
 refine wpAny_bind (wpAny_field ho hd (x := .ref l) rfl (?_ : wpAny _ _ (if (Value.ref l == Value.none) = true then _ else _) _ _ s))
 rw [if_neg ne]
 refine (?_ : wpAny _ _ (field (.ref it) 1 >>= _) _ _ s)
 refine wpAny_bind (wpAny_field ho hd (x := .int i 0) rfl (?_ : wpAny _ _ (seqItems? (.ref l) >>= _) _ _ s))
 refine wpAny_bind (wpAny_seqItems hol hdl ?_)
 rcases k with ⟨x, hx, k⟩ | ⟨hx, hh, k⟩ <;> simp only [Int.toNat_natCast, hx]
 ·have upd : ∀ h' : Heap, h'.get? it = some (o.mapFields fun a => a.setIfInBounds 1 (rawInt (((i : Nat) : Int) + 1))) -> h'.IsTupleIter it l (i + 1) := fun h' e => ⟨_, e, (Obj.cls_mapFields ..).trans hc, by rw [Obj.data_mapFields hd]; simp [rawInt]⟩
  refine wpAny_bind (wpAny_setField ho hd (by simp) (wpAny_pure ⟨x, rfl, wpAny_pure (k _ ?_ (Heap.SameBut.update ..))⟩))
  refine ⟨_, Heap.get?_update_self _ ho (Obj.isFreed_of_fields (Obj.data_mapFields hd _)), (Obj.cls_mapFields ..).trans hc, ?_⟩
  rw [Obj.data_mapFields hd]
  simp [rawInt]
 ·refine wpAny_bind (wpAny_rule (wpAny_bind (wpAny_setField ho hd (by simp) (?_ : wpAny _ _ (newExc (.type "StopIteration") [] >>= _) _ _ _))))
  refine wpAny_bind ?_
  simp only [newExc, newTuple]
  refine wpAny_bind (wpAny_newObj_type (wpAny_bind (m := firstArgMember _ _) (wpAny_of_eq (a := Value.none) (by first | rfl | (simp only [firstArgMember]; rfl)) (wpAny_newObj_type ?_ (by size_fits)))) (by size_fits))
  simp only [raiseNew]
  refine wpAny_bind (wpAny_handled ?_)
  first | rw [show A.in1.handled = none from hh] | rw [hh]
  exact wpAny_bind (wpAny_pure (wpAny_throw (k _ _ (((Heap.SameBut.update ..).extBut.push _).push _) ⟨_, Heap.get?_push_size _ rfl, rfl⟩)))
theorem zdy (hh : A.handled = none) (it l : Addr) (hne : l ≠ it) (items : Array Value) : Draws prog w A it [it, l] items.size (fun i v => items[i]? = some v) (fun i h => SrcIt t h it l i /\ SrcH t h l items) := by
 cases t
 ·exact Draws.list hh it l hne items
 ·refine ⟨fun _ _ st => ?_, fun _ _ _ st hk => ⟨SrcIt.at st.1 fun o e => hk it (by simp) o e, SrcH.at st.2 fun o e => hk l (by simp) o e⟩, fun i s Q E hi st hQ => ?_, fun s Q E st hE => zkq st.1 st.2 (.inr ⟨by simp, hh, hE⟩)⟩
  ·obtain ⟨o, e, -⟩ := SrcIt.obj st.1
   exact ⟨o, e⟩
  ·exact zkq st.1 st.2 (.inl ⟨items[i], by simp [hi], fun h' a b => hQ _ h' s.toks (by simp [hi]) ⟨a, SrcH.at st.2 fun o e => (b.2 l hne).trans e⟩ b⟩)
def srcO (t : Bool) (a : Addr) : Obj := { cls := .type (if t then "tuple_iterator" else "list_iterator"), data := .fields #[.ref a, .int 0 0] }
theorem zjC (e : h.get? it = some (srcO t a)) : SrcIt t h it a 0 := by
 cases t <;> exact ⟨_, e, rfl, rfl⟩
theorem zhh (t : Bool) (a : Addr) : (srcO t a).isFreed = false := by cases t <;> rfl
theorem zfh {items} (hl : SrcH t s.heap a items) (hQ : Q (.ref s.heap.objs.size) { s with heap := s.heap.push (srcO t a) }) :
  wpAny (model prog w) A (pyIter (.ref a)) Q E s := by
 cases t
 ·exact wpAny_pyIter_list hl hQ
 ·exact wpAny_pyIter_tuple hl hQ
end
abbrev tup_ (vs : Array Value) : Obj := { cls := .type "tuple", data := .seq vs }
abbrev zip_ (ti to : Addr) : Obj := { cls := .type "zip", data := .fields #[.none, .bool false, .bool false, .ref ti, .ref to] }
abbrev z2a (h : Heap) (t1 t2 : Bool) (l1 l2 : Addr) : Heap := (h.push (srcO t1 l1)).push (srcO t2 l2)
abbrev z2b (h : Heap) (t1 t2 : Bool) (l1 l2 : Addr) : Heap := (z2a h t1 t2 l1 l2).push (tup_ #[.ref h.objs.size, .ref (h.push (srcO t1 l1)).objs.size])
abbrev z2c (h : Heap) (t1 t2 : Bool) (l1 l2 : Addr) : Heap := (z2b h t1 t2 l1 l2).push (tup_ #[.none, .none])
abbrev z2d (h : Heap) (t1 t2 : Bool) (l1 l2 : Addr) : Heap := (z2c h t1 t2 l1 l2).push (zip_ (z2a h t1 t2 l1 l2).objs.size (z2b h t1 t2 l1 l2).objs.size)
theorem zkW (t1 t2 : Bool) (l1 l2 : Addr) (xs ys : Array Value) : Meets (Builtin.«zip.__new__» ⟨[.type "zip", .ref l1, .ref l2], []⟩) (fun _ R s => SrcH t1 s.heap l1 xs /\ SrcH t2 s.heap l2 ys /\
   R (.ok (.ret (.ref (z2c s.heap t1 t2 l1 l2).objs.size))) { s with heap := z2d s.heap t1 t2 l1 l2 }) :=
 .of_wp fun prog w A R s h => by
  obtain ⟨hp, g, d, tk, os⟩ := s
  obtain ⟨b1, b2, h⟩ := h
  have hsub := sub_zip
  have L1 : SrcH t1 (Shared.heap ⟨hp, g, d, tk, os⟩) l1 xs := b1
  have L2 : SrcH t2 (Shared.heap ⟨hp.push (srcO t1 l1), g, d, tk, os⟩) l2 ys := SrcH.at b2 fun o e => Heap.get?_push_of_some _ e
  wp_walk using zfh L1, zfh L2
  exact ⟨_, rfl, h⟩
section
variable {prog : Program} {w : World} {A : Around} {E : Value -> Shared -> Prop} {s : Shared}
theorem zml {t1 t2 : Bool} {l1 l2 : Addr} {xs ys : Array Value} (h1 : SrcH t1 s.heap l1 xs) (h2 : SrcH t2 s.heap l2 ys)
  (k : ∀ h', IsZip h' (s.heap.objs.size + 4) (s.heap.objs.size + 2) (s.heap.objs.size + 3) .none -> IsPair h' (s.heap.objs.size + 2) (.ref s.heap.objs.size) (.ref (s.heap.objs.size + 1)) ->
   IsPair h' (s.heap.objs.size + 3) .none .none -> SrcIt t1 h' s.heap.objs.size l1 0 -> SrcIt t2 h' (s.heap.objs.size + 1) l2 0 ->
   (∀ c o, s.heap.get? c = some o -> h'.get? c = some o) -> Q (.ref (s.heap.objs.size + 4)) { s with heap := h' }) : wpAny (model prog w) A (call (.type "zip") [.ref l1, .ref l2]) Q E s := by
 refine callType_new F.called_zip (by decide) (F.typeCall_zip_2 _ _) (F.newCall_zip_2 _ _) (fun obj => F.args_object_init_3 obj _ _) F.entry_zip_new (zkW t1 t2 l1 l2 xs ys) ⟨h1, h2, (?_ : _ /\ _)⟩
 have y1 : (s.heap.push (srcO t1 l1)).objs.size = s.heap.objs.size + 1 := Heap.size_push ..
 have y2 : (z2a s.heap t1 t2 l1 l2).objs.size = s.heap.objs.size + 2 := by rw [Heap.size_push, y1]
 have y3 : (z2b s.heap t1 t2 l1 l2).objs.size = s.heap.objs.size + 3 := by rw [Heap.size_push, y2]
 have y4 : (z2c s.heap t1 t2 l1 l2).objs.size = s.heap.objs.size + 4 := by rw [Heap.size_push, y3]
 have g5 : (z2d s.heap t1 t2 l1 l2).get? (z2c s.heap t1 t2 l1 l2).objs.size = some _ := Heap.get?_push_size _ rfl
 have g4 : (z2d s.heap t1 t2 l1 l2).get? (z2b s.heap t1 t2 l1 l2).objs.size = some _ := Heap.get?_push_of_some _ (Heap.get?_push_size _ rfl)
 have g3 : (z2d s.heap t1 t2 l1 l2).get? (z2a s.heap t1 t2 l1 l2).objs.size = some _ := Heap.get?_push_of_some _ (Heap.get?_push_of_some _ (Heap.get?_push_size _ rfl))
 have g2 : (z2d s.heap t1 t2 l1 l2).get? (s.heap.push (srcO t1 l1)).objs.size = some (srcO t2 l2) := Heap.get?_push_of_some _ (Heap.get?_push_of_some _ (Heap.get?_push_of_some _ (Heap.get?_push_size _ (zhh ..))))
 have g1 : (z2d s.heap t1 t2 l1 l2).get? s.heap.objs.size = some (srcO t1 l1) := Heap.get?_push_of_some _ (Heap.get?_push_of_some _ (Heap.get?_push_of_some _ (Heap.get?_push_of_some _ (Heap.get?_push_size _ (zhh ..)))))
 rw [y2, y3, y4] at g5
 rw [y1, y2] at g3
 rw [y3] at g4
 rw [y1] at g2
 rw [y4]
 exact ⟨⟨_, g5, rfl⟩, k _ g5 g3 g4 (zjC g1) (zjC g2) fun c o x => Heap.get?_push_of_some _ (Heap.get?_push_of_some _ (Heap.get?_push_of_some _ (Heap.get?_push_of_some _ (Heap.get?_push_of_some _ x))))⟩
abbrev en_ (it : Addr) : Obj := { cls := .type "enumerate", data := .fields #[.none, .bool false, .ref it, rawInt 0, .none, .none] }
theorem zkO (t : Bool) (l : Addr) (o : Obj) (xs : Array Value) : Meets (Builtin.«enumerate.__new__» ⟨[.type "enumerate", .ref l], []⟩) (fun _ R s => s.heap.get? l = some o /\ SrcH t s.heap l xs /\
   R (.ok (.ret (.ref (s.heap.push (srcO t l)).objs.size))) { s with heap := (s.heap.push (srcO t l)).push (en_ s.heap.objs.size) }) :=
 .of_wp fun prog w A R s h => by
  obtain ⟨hp, g, d, tk, os⟩ := s
  obtain ⟨hl, b, h⟩ := h
  have hsub := sub_enumerate
  have hL : SrcH t (Shared.heap ⟨hp, g, d, tk, os⟩) l xs := b
  wp_walk using AutoSeq1.wpAny_loadPart' hl
  refine wpAny_stack_any fun st => wpAny_pure ?_
  split
  ·rename_i c _ _ _ _ _
   cases (c == Value.type "enumerate") <;> (wp_walk using AutoSeq1.wpAny_loadPart' hl, zfh hL; exact ⟨_, rfl, h⟩)
  ·wp_walk using AutoSeq1.wpAny_loadPart' hl, zfh hL
   exact ⟨_, rfl, h⟩
theorem zlo (h1 : SrcH t s.heap l xs)
  (k : ∀ h', IsEnum h' (s.heap.objs.size + 1) s.heap.objs.size 0 .none -> SrcIt t h' s.heap.objs.size l 0 -> (∀ b o, s.heap.get? b = some o -> h'.get? b = some o) -> Q (.ref (s.heap.objs.size + 1)) { s with heap := h' }) :
  wpAny (model prog w) A (call (.type "enumerate") [.ref l]) Q E s := by
 have ⟨o, ho⟩ : ∃ o, s.heap.get? l = some o := by cases t <;> (obtain ⟨o, e, -⟩ := h1; exact ⟨o, e⟩)
 refine callType_new F.called_enumerate (by decide) (F.typeCall_enumerate_1 _) (F.newCall_enumerate_1 _) (fun obj => F.args_object_init_2 obj _) F.entry_enumerate_new (zkO t l o xs) ⟨ho, h1, (?_ : _ /\ _)⟩
 have y1 : (s.heap.push (srcO t l)).objs.size = s.heap.objs.size + 1 := Heap.size_push ..
 have g2 : ((s.heap.push (srcO t l)).push (en_ s.heap.objs.size)).get? (s.heap.push (srcO t l)).objs.size = some _ := Heap.get?_push_size _ rfl
 have g1 : ((s.heap.push (srcO t l)).push (en_ s.heap.objs.size)).get? s.heap.objs.size = some (srcO t l) := Heap.get?_push_of_some _ (Heap.get?_push_size _ (zhh ..))
 rw [y1] at g2
 rw [y1]
 exact ⟨⟨_, g2, rfl⟩, k _ g2 (zjC g1) fun b o x => Heap.get?_push_of_some _ (Heap.get?_push_of_some _ x)⟩
end
end M
namespace M
local macro_rules | `(tactic| ac_rfl) => `(tactic| first | exact M.nA (by decide) | exact M.nB (by decide) | exact M.nC (by decide) | exact M.nL (by assumption) | exact Nat.ne_of_lt (by assumption) | omega)
open L2 PySem PySem.Spec
open PyProof.Rows hiding St
open Sem (wp)
variable {t' ek : Nat} {h' : Heap} {fp : List Addr} {vs xs : List V} {its : List Value} {t : Bool} {X : Cx} {pins : List (Addr × Obj)} {σ : St} {H : Hp} {s : Shared} {a : Addr} {K : W.Frag} {elts : List Expr} {ep p pos : Pos} {es : List D}
section
variable {X : Cx} {pins : List (Addr × Obj)} {σ : St} {H : Hp} {s : Shared}
theorem zjH (I : Inv X pins σ H s) (k : ∀ b o, b ∉ fp -> s.heap.get? b = some o -> h'.get? b = some o) (hf : ∀ b ∈ fp, FpOk X pins H b) : Inv X pins σ H { s with heap := h', toks := t' } := by
 have nit : ∀ b u, H b = some u -> b ∉ fp := fun b u e z => by rw [(hf b z).1] at e; cases e
 refine I.step (g' := s.gens) (d' := s.drawn) (ch := fp) (fun b hb => ?_) (fun b o _ _ hc e _ => k b o hc e) (fun b o _ _ hc e _ => ⟨o.slots, k b o hc e⟩) (fun _ _ _ _ n => n)
  (fun b o hc e => ⟨o, k b o hc e⟩) (fun _ _ e => e) (fun _ _ _ e => e) (fun b ps e => ⟨#[], by rw [e]; simp⟩) (fun m hm => ?_) (fun b u e => ?_) I.bare
 ·obtain ⟨f0, f1, f2, f3, f4, f5⟩ := hf b hb
  exact ⟨f3, f1, f4, f5⟩
 ·obtain ⟨o, es, ep, ho, r⟩ := hm
  exact ⟨o, es, ep, k _ o (fun z => (hf _ z).2.1 rfl) ho, r⟩
 ·refine (I.hok b u e).stay (fun c v hc q => k c v ?_ q) (fun _ q => q) fun _ _ q => q
  rcases hc with z | z
  ·rw [z]; exact nit b u e
  ·exact nit c _ z
theorem zk9 {t' : Nat} {h' : Heap} {fp : List Addr} (I : Inv X pins σ H s) (k : ∀ b o, b ∉ fp -> s.heap.get? b = some o -> h'.get? b = some o) (hf : ∀ b ∈ fp, FpOk X pins H b) (hl : ∀ b ∈ fp, b < s.heap.objs.size)
  (hT : h'.get? s.heap.objs.size = some (tup_ its.toArray)) (hz : vs.length <= sizeLine) (r : Vals vs its) : Inv X pins σ (upd H s.heap.objs.size (.tup vs)) { s with heap := h', toks := t' } := by
 have I1 := I.laid (t' := s.toks) (a := s.heap.objs.size) (o := .tup vs) (h' := s.heap.push (tup_ its.toArray)) (fun b u q => Heap.get?_push_of_some _ q) (Nat.le_refl _) ⟨hz, its, r, IsTup.new _ _⟩
 refine zjH (s := { s with heap := s.heap.push (tup_ its.toArray), toks := s.toks }) (t' := t') (fp := fp) I1 (fun b o hb e => ?_) fun b hb => ?_
 ·have e' : (s.heap.push (tup_ its.toArray)).get? b = some o := e
  rcases Heap.get?_push_cases e' with ⟨rfl, rfl⟩ | q
  ·exact hT
  ·exact k b o hb q
 ·obtain ⟨f0, fr⟩ := hf b hb
  refine ⟨?_, fr⟩
  rw [zap (Nat.ne_of_lt (hl b hb))]
  exact f0
end
def SrcSq (t : Bool) (K : W.Frag) (H : Hp) (a : Addr) (xs : List V) : Prop := match t with
 | true => SqT K H a xs
 | false => SqL K H a xs
theorem SrcSq.heap (I : Inv X pins σ H s) (h : SrcSq t X.K H a xs) : ∃ its : List Value, Vals xs its /\ SrcH t s.heap a its.toArray /\ xs.length <= sizeLine := by
 cases t
 ·obtain ⟨its, r, p, z⟩ := I.list h
  exact ⟨its, r, p.isList, z⟩
 ·obtain ⟨its, r, p, z⟩ := I.tuple h
  exact ⟨its, r, p, z⟩
theorem SrcSq.inj {xs ys : List V} (I : Inv X pins σ H s) (h : SrcSq t X.K H a xs) (h' : SrcSq t X.K H a ys) : xs = ys := by
 cases t
 ·exact I.list_inj h h'
 ·exact I.tuple_inj h h'
def Itz2 (K : W.Frag) (t1 : Bool) (a1 : Addr) (t2 : Bool) (a2 : Addr) (n : Nat) : It where
 go := fun i H => i < n /\ ∃ xs ys, SrcSq t1 K H a1 xs /\ SrcSq t2 K H a2 ys /\ n = min xs.length ys.length
 yld := fun i H x H' => ∃ p x1 x2, H p = none /\ H' = upd H p (.tup [x1, x2]) /\ x = .ref p /\ ∀ xs ys, SrcSq t1 K H a1 xs -> SrcSq t2 K H a2 ys -> xs[i]? = some x1 /\ ys[i]? = some x2
 stop := fun i H => n <= i /\ ∃ xs ys, SrcSq t1 K H a1 xs /\ SrcSq t2 K H a2 ys /\ n = min xs.length ys.length
theorem nin4 {c N : Nat} (h : c ∉ ([N, N + 1, N + 2, N + 3, N + 4] : List Nat)) : c ≠ N /\ c ≠ N + 1 /\ c ≠ N + 3 /\ c ≠ N + 4 :=
 ⟨fun e => h (e ▸ .head _), fun e => h (e ▸ .tail _ (.head _)), fun e => h (e ▸ .tail _ (.tail _ (.tail _ (.head _)))), fun e => h (e ▸ .tail _ (.tail _ (.tail _ (.tail _ (.head _)))))⟩
def Ite (K : W.Frag) (t1 : Bool) (a1 : Addr) (n : Nat) : It where
 go := fun i H => i < n /\ ∃ xs, SrcSq t1 K H a1 xs /\ n = xs.length
 yld := fun i H x H' => ∃ p x1, H p = none /\ H' = upd H p (.tup [.int i, x1]) /\ x = .ref p /\ ∀ xs, SrcSq t1 K H a1 xs -> xs[i]? = some x1
 stop := fun i H => n <= i /\ ∃ xs, SrcSq t1 K H a1 xs /\ n = xs.length
theorem zlW {P : Program} {w : World} (t1 : Bool) (a1 : Nat) (n N : Nat) (l1 : a1 < N) :
  Turn P w K (.Tuple elts ek ep) (Ite K t1 a1 n) ([N + 1, N] : List Nat) (N + 1 : Nat) (fun i h => i <= n /\ (∃ old, IsEnum h (N + 1 : Nat) N i old) /\ SrcIt t1 h N a1 i) where
 mem := by simp
 obj := fun i h st b hb => by
  obtain ⟨-, ⟨old, h1⟩, h0⟩ := st
  simp only [List.mem_cons, List.not_mem_nil, or_false] at hb
  rcases hb with rfl | rfl
  ·exact ⟨_, h1, fun v z => by cases z⟩
  ·exact h0.obj
 keep := fun i h h' st k => by
  obtain ⟨hi, ⟨old, h1⟩, h0⟩ := st
  exact ⟨hi, ⟨old, k _ (by simp) _ h1⟩, h0.at fun o e => k _ (by simp) o e⟩
 item := by
  intro X hP hw hK hc i pins s σ H E I hf st hg
  subst hP hw hK
  obtain ⟨hi, ⟨old, h1⟩, h0⟩ := st
  obtain ⟨hn, xs, q1, en⟩ := hg
  obtain ⟨us, ru, hu, zu⟩ := q1.heap I
  have lu := ru.length
  have D1 := zdy (prog := X.prog) (w := X.w) (A := X.A.in1) (t := t1) (I.ok.hd hc) N a1 (ne_ (by ac_rfl)) us.toArray
  refine wpAny_pyNext_enum_itemD D1 h1 ⟨h0, hu⟩ (by simp; omega) (ne_ (by ac_rfl)) (fun z => nin2 (z := N + 1) z (by omega) (by omega) rfl) fun x h' tk p1 ho g0 gT gz kk => ?_
  obtain ⟨x1, hx1⟩ : ∃ x1, xs[i]? = some x1 := ⟨xs[i]'(by omega), List.getElem?_eq_getElem _⟩
  obtain ⟨u1, hu1, r1⟩ := ru.get hx1
  have e1 : u1 = x := by
   have : us[i]? = some x := by simpa using p1
   rw [hu1] at this; cases this; rfl
  subst e1
  refine ⟨_, rfl, wpAny_letOwnedTupleGo_enum (s := { s with heap := h', toks := tk + 1 }) ho fun h'' he' sb => ?_⟩
  replace sb : Heap.SameBut (N + 1 : Nat) h' h'' := sb
  have lz : N + 1 < s.heap.objs.size := Heap.lt_size h1
  have kk' : ∀ b o, b ∉ ([N + 1, N] : List Nat) -> s.heap.get? b = some o -> h''.get? b = some o := fun b o hb e =>
   (sb.2 b fun z => hb (by simp [z])).trans (kk b o (fun z => hb (by simp [z])) (fun z => hb (by simp [z])) e)
  have I1 := zk9 (t' := tk + 1) (vs := [.int i, x1]) (its := [.int i tk, u1]) I kk' hf (fun b hb => by
   have : b = N + 1 \/ b = N := by simpa using hb
   exact Nat.lt_of_le_of_lt (show (b : Nat) <= N + 1 by rcases this with h | h <;> rw [h] <;> simp) lz) ((sb.2 _ (ne_ (by ac_rfl))).trans gT) (by simp; rw [sizeLine_eq]; decide) (.cons ⟨_, rfl⟩ (.cons r1 .nil))
  refine ⟨.ref s.heap.objs.size, _, I1, rfl, ⟨_, x1, I.hok.fresh (Nat.le_refl _), rfl, rfl, fun xs' b1 => ?_⟩, ⟨hn, ⟨_, by simpa using he'⟩, SrcIt.at g0.1 fun o e => (sb.2 _ (ne_ (by ac_rfl))).trans e⟩, fun b hb => ?_⟩
  ·rw [SrcSq.inj I b1 q1]
   exact hx1
  ·have : b = N + 1 \/ b = N := by simpa using hb
   rw [zap (Nat.ne_of_lt (Nat.lt_of_le_of_lt (show (b : Nat) <= N + 1 by rcases this with h | h <;> rw [h] <;> simp) lz))]
   exact (hf b hb).1
 done := by
  intro X hP hw hK hc i pins s σ H E I hf st hg
  subst hP hw hK
  obtain ⟨hi, ⟨old, h1⟩, h0⟩ := st
  obtain ⟨hn, xs, q1, en⟩ := hg
  obtain ⟨us, ru, hu, zu⟩ := q1.heap I
  have lu := ru.length
  have D1 := zdy (prog := X.prog) (w := X.w) (A := X.A.in1) (t := t1) (I.ok.hd hc) N a1 (ne_ (by ac_rfl)) us.toArray
  have W := WalksT.enumerateD D1 (N + 1 : Nat) (ne_ (by ac_rfl)) (fun z => nin2 (z := N + 1) z (by omega) (by omega) rfl) (by simp)
  have ei : i = us.toArray.size := by simp; omega
  subst ei
  exact W.done s _ _ ⟨⟨old, h1⟩, h0, hu⟩ fun h' tk kk => ⟨rfl, zjH I kk hf⟩
 self := fun _ _ _ _ _ st h => by
  obtain ⟨hi, ⟨old, h1⟩, h0⟩ := st
  exact wpAny_pyIter_enum h1 h
theorem boot_zip : bootBuiltins "zip" = some (.type "zip") := by decide +kernel
theorem zhJ : bootBuiltins "enumerate" = some (.type "enumerate") := by decide +kernel
section
variable {X : Cx} {elts : List Expr} {ek : Nat} {ep : Pos}
theorem pi_enum {a : Expr} {ta : TA} (hg : Gl X "enumerate") (hm : X.mg "enumerate" = none) (ha : PA X [a] ta) (hs : starEach [a] X.env = (false, eval a X.env) :: starEach [] X.env := by rfl) (hs2 : (backTo pos (starEach [] X.env)).any (·.1) = false := by rfl) :
  PI X (.Tuple elts ek ep) (.Call (.Name "enumerate" p) [a] [] pos) (fun σ H R => ta σ H fun vs H1 => ∃ t1 a1 xs, vs = [.ref a1] /\ SrcSq t1 X.K H1 a1 xs /\ R (Ite X.K t1 a1 xs.length) H1) := by
 intro pins s σ H R I h
 refine Call_ (zhV I hg hm zhJ (PyProof.Rows.callWith_type1 (thn (ha pos pins s σ H _ I h) fun us s1 ⟨vs, H1, I1, r1, q1⟩ => ?_) hs hs2))
 obtain ⟨t1, a1, xs, e, q1, q⟩ := q1
 subst e
 cases r1 with
 | cons r rr =>
  cases rr
  cases r
  obtain ⟨us, ru, hu, -⟩ := q1.heap I1
  refine zlo hu fun h' g1 g0 kk => wpAny_pyIter_enum g1 ⟨_, _, _, _, H1, rfl, I1.kept (t' := s1.toks) kk, zlW t1 a1 xs.length s1.heap.objs.size hu.lt, ⟨Nat.zero_le _, ⟨_, g1⟩, g0⟩, fun b hb => ?_, q⟩
  have : b = s1.heap.objs.size + 1 \/ b = s1.heap.objs.size := by simpa using hb
  have le : s1.heap.objs.size <= b := by rcases this with h | h <;> rw [h] <;> simp
  exact I1.fpOk le (I1.hok.fresh le)
end
theorem zlO {G : Hp} {x : V} {d : D} (r : RepD K G x d) (e : za9 [d] = some es) : ∃ t a xs, x = .ref a /\ (∀ H, Fz G H -> SrcSq t K H a xs) /\ RepL K G xs es := by
 cases d <;> simp only [za9] at e <;> try cases e
 ·obtain ⟨a, xs, rfl, ha, r⟩ := r
  exact ⟨false, a, xs, rfl, fun H f => SqL.of (f _ _ ha), r⟩
 ·obtain ⟨a, xs, rfl, ha, r⟩ := r
  exact ⟨true, a, xs, rfl, fun H f => SqT.of (f _ _ ha), r⟩
 ·obtain ⟨a, rfl, ha⟩ := r
  exact ⟨false, a, _, rfl, fun H f => f.sql ha, RepL.ints _⟩
def zjS (xs ys : List D) : List D := List.zipWith (fun x y => D.tup [x, y]) xs ys
def zip3D (xs ys zs : List D) : List D := List.zipWith (fun x (p : D × D) => D.tup [x, p.1, p.2]) xs (List.zip ys zs)
def zjx (xs : List D) : List D := List.zipWith (fun x (i : Nat) => D.tup [.int i, x]) xs (List.range xs.length)
def iZ2 (ma : MA) : MA := fun ρ => (ma ρ).bind fun p => match p.1 with
 | [a, b] => (za9 [a]).bind fun xs => (za9 [b]).bind fun ys => some (zjS xs ys, p.2)
 | _ => none
def iEn (ma : MA) : MA := fun ρ => (ma ρ).bind fun p => (za9 p.1).map fun xs => (zjx xs, p.2)
theorem zcD {a : Expr} {ma : MA} (hm : X.mg "enumerate" = none) (ha : SA X [a] ma) (hg : Gl X "enumerate" := by rfl) (hs : starEach [a] X.env = (false, eval a X.env) :: starEach [] X.env := by rfl) (hs2 : (backTo pos (starEach [] X.env)).any (·.1) = false := by rfl) :
  SIt X (.Tuple elts ek ep) (.Call (.Name "enumerate" p) [a] [] pos) (iEn ma) := by
 obtain ⟨t, pa, sa⟩ := ha
 refine ⟨_, pi_enum hg hm pa hs hs2, fun B G H σ ρ ds ρ' Q I hm k => ?_⟩
 obtain ⟨⟨es, ρ1⟩, e1, h2⟩ := zac hm
 obtain ⟨xs, ex, h2⟩ := zau h2
 cases h2
 refine sa B G H σ ρ es ρ1 _ I e1 fun G1 H1 vs I1 f1 r1 => ?_
 match es, ex, r1 with
 | [], ex, _ => cases ex
 | _ :: _ :: _, ex, _ => exact absurd ex (by simp [za9])
 | [d], ex, r1 =>
  obtain ⟨x, rfl, rx⟩ := r1.one
  obtain ⟨t1, a1, us, rfl, s1, c1⟩ := zlO rx ex
  have n1 := c1.length
  refine ⟨t1, a1, us, rfl, s1 _ I1.fz, k _ G1 H1 I1 f1 ⟨fun H i f hi => ?_, fun H i x H' f y d e => ?_, fun H i f hi => ?_⟩⟩
  ·exact ⟨by simp [zjx] at hi; omega, us, s1 _ f, rfl⟩
  ·obtain ⟨p, x1, hp, eh, ex', q⟩ := y
   have q1 := q us (s1 _ f)
   have hi : i < us.length := (List.getElem?_eq_some_iff.mp q1).1
   have g1 : xs[i]? = some (xs[i]'(by omega)) := List.getElem?_eq_getElem _
   simp only [zjx, List.getElem?_zipWith] at e
   rw [g1, show (List.range xs.length)[i]? = some i from by rw [List.getElem?_range (by omega)]] at e
   cases e
   obtain ⟨v1, b1, r1⟩ := c1.get g1
   rw [q1] at b1; cases b1
   exact .inr ⟨p, _, _, hp, eh, ex', rfl, ⟨_, _, rfl, rfl, _, _, rfl, r1, rfl⟩⟩
  ·exact ⟨by simp [zjx] at hi; omega, us, s1 _ f, rfl⟩
end M
namespace M
open L2 PySem PySem.Spec
open PyProof.Rows hiding St
theorem zkh {X : Cx} {st : Stmt} : SS X st (fun _ => none) := ⟨_, ps_never, fun B G H σ ρ fl ρ' E I hm k => by cases hm⟩
def isN : D -> Bool
 | .non => true
 | _ => false
theorem isN_ok {K : W.Frag} {G : Hp} {x : V} {d : D} (r : RepD K G x d) : decide (x = .non) = isN d := by
 cases d with
 | non => cases (show x = V.non from r); rfl
 | bl b => cases (show x = V.bl b from r); rfl
 | int i => cases (show x = V.int i from r); rfl
 | str s => cases (show x = V.str s from r); rfl
 | lst ds => obtain ⟨a, xs, rfl, -⟩ := r; rfl
 | tup ds => obtain ⟨a, xs, rfl, -⟩ := r; rfl
 | scr ns => obtain ⟨a, rfl, -⟩ := r; rfl
 | exc c => obtain ⟨a, C, rfl, -⟩ := r; rfl
 | dic _ _ => obtain ⟨a, ys, rfl, -⟩ := r; rfl
 | dit _ _ => obtain ⟨a, ys, o, xs, rfl, -⟩ := r; rfl
def dIsN : D -> D -> Option D
 | a, .non => some (.bl (isN a))
 | _, _ => none
def zjb : D -> D -> Option D
 | a, .non => some (.bl (!isN a))
 | _, _ => none
theorem v2_isN {X : Cx} : V2 X (fun x y H Q => y = .non /\ Q (.bl (decide (x = .non))) H) dIsN := by
 intro B G H σ ρ x y a b d Q I ra rb hf k
 cases b <;> simp only [dIsN] at hf <;> cases hf
 exact ⟨rb, k G H _ I (Fz.refl G) (by rw [isN_ok ra]; rfl)⟩
theorem v2_notN {X : Cx} : V2 X (fun x y H Q => y = .non /\ Q (.bl (!decide (x = .non))) H) zjb := by
 intro B G H σ ρ x y a b d Q I ra rb hf k
 cases b <;> simp only [zjb] at hf <;> cases hf
 exact ⟨rb, k G H _ I (Fz.refl G) (by rw [isN_ok ra]; rfl)⟩
theorem bl_isN : ∀ x y d, dIsN x y = some d -> ∃ t, d = .bl t := by
 intro x y d hf
 cases y <;> simp only [dIsN] at hf <;> cases hf
 exact ⟨_, rfl⟩
theorem bl_notN : ∀ x y d, zjb x y = some d -> ∃ t, d = .bl t := by
 intro x y d hf
 cases y <;> simp only [zjb] at hf <;> cases hf
 exact ⟨_, rfl⟩
section
variable {X : Cx} {a b : Expr} {ma mb : ME} {pos : Pos}
theorem st_is (ha : SE X a ma) (hb : SE X b mb) (hm : behindInMarks .Is b = false := by rfl) : STt X (.Compare a [.Is] [b] pos) (tTru (m2 dIsN ma mb)) := zgG op_isN v2_isN bl_isN ha hb hm
theorem zki (ha : SE X a ma) (hb : SE X b mb) (hm : behindInMarks .IsNot b = false := by rfl) : STt X (.Compare a [.IsNot] [b] pos) (tTru (m2 zjb ma mb)) := zgG op_notN v2_notN bl_notN ha hb hm
end
theorem zlw {X : Cx} {a : Expr} {ma : MA} {p q pos pos' : Pos} (ml : X.mg "list" = none) (mr : X.mg "range" = none) (ha : SA X [a] ma) (hc : X.calm = true := by rfl) (hg : Gl X "list" := by rfl) (hgr : Gl X "range" := by rfl)
  (he : starEach [a] X.env = (false, eval a X.env) :: starEach [] X.env := by rfl) (hpl : (backTo pos' (starEach [] X.env)).any (·.1) = false := by rfl)
  (he2 : starEach [.Call (.Name "range" q) [a] [] pos'] X.env = (false, eval (.Call (.Name "range" q) [a] [] pos') X.env) :: starEach [] X.env := by rfl) :
  SO X (.Call (.Name "list" p) [.Call (.Name "range" q) [a] [] pos'] [] pos) (oR (iR1 ma)) := by
 obtain ⟨t, pa, sa⟩ := ha
 refine ⟨_, zf0 (zkG hc) hg ml (by decide +kernel) (zbi (zf0 zmi hgr mr (by decide +kernel) pa (by decide) (by decide) he hpl) zdA he2) (by decide) (by decide) he2 rfl, fun B G H σ ρ ds ρ' Q I hm k => ?_⟩
 obtain ⟨⟨items, ρ1⟩, e1, hm⟩ := zac hm
 obtain ⟨⟨es, ρ2⟩, e2, h2⟩ := zac e1
 dsimp only at hm h2
 split at hm
 ·rename_i hlen
  obtain ⟨rfl, rfl⟩ := Prod.mk.inj (Option.some.inj hm)
  refine sa B G H σ ρ es ρ2 _ I e2 fun G1 H1 vs I1 f1 r1 => ?_
  split at h2
  ·rename_i j
   split at h2
   ·rename_i hj
    obtain ⟨rfl, rfl⟩ := Prod.mk.inj (Option.some.inj h2)
    obtain ⟨x, rfl, rx⟩ := r1.one
    cases (show x = V.int j from rx)
    refine ⟨j, rfl, fun p hp => ⟨p, 0, j, rfl, zas, ⟨by decide, by decide, (zeQ hj).1, (zeQ hj).2⟩, by simpa [zdc] using hlen, fun l hl => ?_⟩⟩
    have I2 := I1.allocO hp (.rng 0 j)
    have ej : (j - 0).toNat = j.toNat := by rw [Int.sub_zero]
    rw [ej] at *
    obtain ⟨I3, g3, h3, b3, n3⟩ := I2.newO hl ((List.range j.toNat).map fun (k : Nat) => V.int (0 + k))
    exact k G1 _ l _ I3 f1 g3 h3 (zkU 0 _) b3 n3
   ·cases h2
  ·cases h2
 ·cases hm
def zjF (b : Nat) (ρ : R) : Bool := match ρ[b]? with
 | some (.par _) => zcY (ρ.set b .emp)
 | _ => false
def zgz (b : Nat) (ρ : R) : List D := match ρ[b]? with
 | some (.par cs) => cs
 | _ => []
def zk6 (b : Nat) (g : D -> R -> Option R) (mt : MT) (me : ME) : D -> R -> Option (Option D × R) := fun d ρ => (g d ρ).bind fun ρ1 => (mt ρ1).bind fun p => if p.1 then (me p.2).bind fun q => if zjF b q.2 then some (some q.1, q.2) else none else if zjF b p.2 then some (none, p.2) else none
def oLCM (cap : List Nat) (t b w : Nat) (mi : MA) (g : D -> R -> Option R) (mt : MT) (me : ME) : MO := fun ρ => (mi ρ).bind fun p => if p.1.length <= 16777216 then
    ((fzL (cap.filter (· != w)) p.2)[w]?).bind fun s => s.items.bind fun cs => (zdq (zk6 b g mt me) p.1 ((capR cap t (fzL (cap.filter (· != w)) p.2)).set b (.par cs))).map fun q => (q.1, (fzL (cap.filter (· != w)) p.2).set w (s.put (zgz b q.2)))
  else none
theorem VS.setEmp {K : W.Frag} {G : Hp} {σ : St} {ρ : R} (h : VS K G σ ρ) (b : Nat) : VS K G σ (ρ.set b .emp) where
 len := by rw [List.length_set]; exact h.len
 no := by
  have h0 := h.no
  unfold zcY at *
  rw [List.all_eq_true] at *
  intro s hs
  rcases List.mem_or_eq_of_mem_set hs with z | z
  ·exact h0 s z
  ·rw [z]
 val := fun i d e => by
  rw [List.getElem?_set] at e
  split at e
  ·split at e
   ·cases e
   ·cases e
  ·exact h.val i d e
theorem VS.siP {K : W.Frag} {G H : Hp} {σ : St} {ρ : R} {b : Nat} {cs : List D} {l : Addr} {ys : List V} (h : VS K G σ (ρ.set b .emp)) (fz : Fz G H) (hb : ρ[b]? = some (.par cs)) (hs : σ[b]? = some (some (.ref l))) (gl : G l = none) (hl : H l = some (.lst ys)) (r : RepL K G ys cs) : SI K ⟨G, H, [(b, l)]⟩ G H σ ρ where
 fz := fz
 g0 := Fz.refl G
 new := fun b o e => .inl (by show G b ≠ none; rw [e]; simp)
 keep := fun b o e _ => e
 there := fun b e => e
 ob := fun i c m => by
  have : i = b /\ c = l := by simpa using m
  rw [this.2]
  show H l ≠ none
  rw [hl]; simp
 len := by rw [h.len, List.length_set]
 slot := fun i s e => by
  by_cases z : i = b
  ·subst z
   rw [hb] at e; cases e
   exact ⟨l, ys, hs, gl, hl, r, by simp⟩
  ·have e' : (ρ.set b .emp)[i]? = some s := by rw [List.getElem?_set_ne (Ne.symm z)]; exact e
   cases s with
   | emp => trivial
   | two _ _ => trivial
   | tre t => exact absurd rfl ((zfk h.no e').1 t)
   | ptr t => exact absurd rfl ((zfk h.no e').2 t)
   | val d => exact h.val i d e'
   | own ds => exact absurd ⟨_, ds, e', rfl⟩ (zfj h.no (i := i))
   | par ds => exact absurd ⟨_, ds, e', rfl⟩ (zfj h.no (i := i))
 dis := fun i j s t a hij e1 e2 w1 w2 => by
  have key : ∀ (i : Nat) (s : Sl) ov, ρ[i]? = some s -> OwS K G H ov a s -> i = b := fun i s ov e w => by
   by_cases z : i = b
   ·exact z
   ·exact absurd w (ziI h.no (show (ρ.set b .emp)[i]? = some s by rw [List.getElem?_set_ne (Ne.symm z)]; exact e))
  exact hij ((key i s _ e1 w1).trans (key j t _ e2 w2).symm)
theorem VS.ofP {K : W.Frag} {B : Bs} {G H : Hp} {σ : St} {ρ : R} {b : Nat} {l : Addr} (I : SI K B G H σ ρ) (hO : B.O = [(b, l)]) (h : zjF b ρ = true) : ∃ cs ys, ρ[b]? = some (.par cs) /\ σ[b]? = some (some (.ref l)) /\ G l = none /\ H l = some (.lst ys) /\ RepL K G ys cs /\ VS K G σ (ρ.set b .emp) := by
 unfold zjF at h
 split at h
 ·rename_i cs e
  obtain ⟨l', ys, h1, h2, h3, h4, h5⟩ := I.slot b _ e
  have hl : l' = l := by rw [hO] at h5; simpa using h5
  subst hl
  refine ⟨cs, ys, e, h1, h2, h3, h4, ⟨by rw [List.length_set]; exact I.len, h, fun i d e' => ?_⟩⟩
  rw [List.getElem?_set] at e'
  split at e'
  ·split at e'
   ·cases e'
   ·cases e'
  ·exact I.slot i _ e'
 ·cases h
structure LcP (K : W.Frag) (bk : Nat) (g : D -> R -> Option R) (mt : MT) (me : ME) (items all : List D) (ρf : R) (G2 H1 : Hp) (DD l : Addr) (i : Nat) (σc : St) (Hc Gc : Hp) (ρc : R) (acc : List D) (xs : List V) (rest cs : List D) (ys : List V) : Prop where
 fc : Fz G2 Gc
 fcH : Fz Gc Hc
 nw : ∀ b o, Gc b = some o -> G2 b ≠ none \/ H1 b = none
 kp : ∀ b o, b ≠ l -> H1 b = some o -> Hc b = some o
 gD : Gc DD = none
 hDc : Hc DD = some (.lst xs)
 ra : RepL K Gc xs acc
 hx : xs.length <= i
 eb : ρc[bk]? = some (.par cs)
 sb : σc[bk]? = some (some (.ref l))
 glc : Gc l = none
 hlc : Hc l = some (.lst ys)
 rlc : RepL K Gc ys cs
 vs : VS K Gc σc (ρc.set bk .emp)
 ec : zdq (zk6 bk g mt me) (items.drop i) ρc = some (rest, ρf)
 eall : all = acc ++ rest
section
variable {X : Cx} {elt iter tg : Expr} {ifs : List Expr} {scope : Scope} {pos : Pos} {N : List Str} {cap : List Nat} {t bk wk : Nat} {mi : MA} {g : D -> R -> Option R} {mt : MT} {me : ME}
theorem ziZ (hbw : cap[bk]? = some wk) {wi : TI} {tg' : Addr -> Shared -> Hp -> List Addr -> TG} {tt : Addr -> Shared -> Hp -> List Addr -> TT} {te : Addr -> Shared -> Hp -> List Addr -> TE}
    (si : ∀ B G H σ ρ ds ρ' (Q : It -> Hp -> Prop), SI X.K B G H σ ρ -> mi ρ = some (ds, ρ') -> (∀ J G' H', SI X.K B G' H' σ ρ' -> Fz G G' -> Itm X.K J G' ds -> Q J H') -> wi σ H Q)
    (sg : ∀ C s H₀ fp B G H σ ρ v d ρ' (Q : St -> Hp -> Prop), SI X.K B G H σ ρ -> RepD X.K G v d -> g d ρ = some ρ' -> (∀ G' H' σ', SI X.K B G' H' σ' ρ' -> Fz G G' -> Q σ' H') -> tg' C s H₀ fp v σ H Q)
    (st : ∀ C s H₀ fp B G H σ ρ d ρ' (Q : Bool -> Hp -> Prop), SI X.K B G H σ ρ -> mt ρ = some (d, ρ') -> (∀ G' H', SI X.K B G' H' σ ρ' -> Fz G G' -> Q d H') -> tt C s H₀ fp σ H Q)
    (se : ∀ C s H₀ fp B G H σ ρ d ρ' (Q : VK), SI X.K B G H σ ρ -> me ρ = some (d, ρ') -> (∀ G' H' v, SI X.K B G' H' σ ρ' -> Fz G G' -> RepD X.K G' v d -> Q v H') -> te C s H₀ fp σ H Q) :
    ∀ B G H σ ρ ds ρ' (Q : VK), SI X.K B G H σ ρ -> oLCM cap t bk wk mi g mt me ρ = some (ds, ρ') ->
      (∀ G' H' l xs, SI X.K B G' H' σ ρ' -> Fz G G' -> G' l = none -> H' l = some (.lst xs) -> RepL X.K G' xs ds -> B.H l = none -> Nw X.K G' H' σ ρ' l -> Q (.ref l) H') -> tLC (capσ cap t) wi tg' tt te σ H Q := by
  intro B G H σ ρ ds ρ' Q I hm k
  obtain ⟨⟨items, ρ1⟩, e1, hm⟩ := zac hm
  refine si B G H σ ρ items ρ1 _ I e1 fun J G1 H1 I1 f1 IT DD hD => ?_
  dsimp only at hm
  split at hm
  . rename_i hlen
    obtain ⟨sw, ew, hm⟩ := zac hm
    obtain ⟨cs0, qw, hm⟩ := zac hm
    obtain ⟨⟨all, ρf⟩, e2, e3⟩ := zau hm
    obtain ⟨rfl, rfl⟩ := Prod.mk.inj e3
    obtain ⟨G2, I2, f2⟩ := SI.fzL (cap.filter (· != wk)) I1
    have hDG : G2 DD = none := I2.fz.free hD
    obtain ⟨l, ys0, hσ, gl0, hl0, rl0⟩ := I2.wr ew qw
    have hlD : DD ≠ l := (zav hl0 hD).symm
    have hb : bk < cap.length := (List.getElem?_eq_some_iff.mp hbw).1
    have hbe : cap[bk] = wk := (List.getElem?_eq_some_iff.mp hbw).2
    have hσb : (capσ cap t σ)[bk]? = some (some (.ref l)) := by
      unfold capσ
      rw [List.getElem?_append_left (by simpa using hb), List.getElem?_map, List.getElem?_eq_getElem hb, hbe]
      simp [hσ]
    have hcl : bk < (capR cap t (M.fzL (cap.filter (· != wk)) ρ1)).length := by unfold capR; simp; omega
    refine ⟨fun i m σc Hc => m = items.length - i /\ i <= items.length /\ ∃ Gc ρc acc xs rest cs ys, LcP X.K bk g mt me items all ρf G2 H1 DD l i σc Hc Gc ρc acc xs rest cs ys,
      ⟨items.length, by simp, Nat.zero_le _, G2, (capR cap t (M.fzL (cap.filter (· != wk)) ρ1)).set bk (.par cs0), [], [], all, cs0, ys0, { fc := Fz.refl _, fcH := I2.fz.right hDG _, nw := fun b o e => .inl (by rw [e]; simp), kp := fun b o _ e => by rw [zap (zav e hD)]; exact e, gD := hDG, hDc := zas, ra := .nil, hx := Nat.le_refl _, eb := by rw [List.getElem?_set]; simp [hcl], sb := hσb, glc := gl0, hlc := by rw [zap (zav hl0 hD)]; exact hl0, rlc := rl0, vs := by rw [List.set_set]; exact (zkl I2 cap t).setEmp bk, ec := by simpa using e2, eall := rfl }⟩, ?_⟩
    rintro i m σc Hc ⟨rfl, hi, Gc, ρc, acc, xs, rest, cs, ys, J0⟩
    obtain ⟨fc, fcH, nw, kp, gD, hDc, ra, hx, eb, sb, glc, hlc, rlc, vs, ec, eall⟩ := J0
    by_cases hlt : i < items.length
    . refine .inr ⟨IT.go Hc i (f2.trans (fc.trans fcH)) hlt, fun C s₀ H₀ fp x H' y => ?_⟩
      rw [List.drop_eq_getElem_cons hlt] at ec
      simp only [zdq] at ec
      obtain ⟨⟨o, ρ3⟩, h3, ec⟩ := zac ec
      obtain ⟨⟨rest2, ρ4⟩, h4, ec⟩ := zau ec
      obtain ⟨rfl, rfl⟩ := Prod.mk.inj ec
      dsimp only at h4
      unfold zk6 at h3
      obtain ⟨ρ5, h5, h3⟩ := zac h3
      obtain ⟨⟨ok, ρ6⟩, h6, h3⟩ := zac h3
      dsimp only at h3
      have Ic : SI X.K ⟨Gc, Hc, [(bk, l)]⟩ Gc Hc σc ρc := vs.siP fcH eb sb glc hlc rlc
      have fz2 : Fz G1 Hc := f2.trans (fc.trans fcH)
      have yy := IT.yld Hc i x H' fz2 y items[i] (List.getElem?_eq_getElem hlt)
      have yy2 : (H' = Hc /\ RepD X.K Gc x items[i]) \/ ∃ p xs es, Hc p = none /\ H' = upd Hc p (.tup xs) /\ x = .ref p /\ items[i] = .tup es /\ RepL X.K Gc xs es := by
        rcases yy with ⟨a, b⟩ | ⟨p, xs, es, a, b, c, d, e⟩
        . exact .inl ⟨a, b.mono (f2.trans fc)⟩
        . exact .inr ⟨p, xs, es, a, b, c, d, e.mono (f2.trans fc)⟩
      obtain ⟨G3, I3, f3, r3⟩ := Ic.yld yy2
      refine sg C s₀ H₀ fp _ G3 H' σc ρc x items[i] ρ5 _ I3 r3 h5 fun G4 H4 σ4 I4 f4 => st C s₀ H₀ fp _ G4 H4 σ4 ρ5 ok ρ6 _ I4 h6 fun G5 H5 I5 f5 => ?_
      have facts : ∀ (G' H' : Hp) (σ' : St) (ρ' : R), SI X.K ⟨Gc, Hc, [(bk, l)]⟩ G' H' σ' ρ' -> (∀ b o, G' b = some o -> G2 b ≠ none \/ H1 b = none) /\ (∀ b o, b ≠ l -> H1 b = some o -> H' b = some o) /\ G' DD = none /\ H' DD = some (.lst xs) := fun G' H' σ' ρ' I' => by
        refine ⟨fun b o e => ?_, fun b o ne e => I'.keep b o (kp b o ne e) (by simp; exact ne), ?_, I'.keep DD _ hDc (by simp; exact hlD)⟩
        . rcases I'.new b o e with h | h
          . have h : Gc b ≠ none := h
            cases q : Gc b with
            | none => exact absurd q h
            | some u => exact nw b u q
          . refine .inr ?_
            cases q : H1 b with
            | none => rfl
            | some u =>
              have hn : Hc b = none := h
              have nb : b ≠ l := fun z => by rw [z, hlc] at hn; cases hn
              have := kp b u nb q
              rw [hn] at this; cases this
        . cases q : G' DD with
          | none => rfl
          | some u =>
            rcases I'.new DD u q with h | h
            . exact absurd gD h
            . rw [show Hc DD = none from h] at hDc; cases hDc
      cases ok with
      | false =>
        simp only [Bool.false_eq_true, if_false] at h3
        split at h3
        . rename_i hno
          cases h3
          obtain ⟨a1, a2, a3, a4⟩ := facts G5 H5 σ4 _ I5
          obtain ⟨cs', ys', w1, w2, w3, w4, w5, w6⟩ := VS.ofP I5 rfl hno
          exact ⟨items.length - (i + 1), by omega, rfl, hlt, G5, _, acc, xs, rest2, cs', ys', { fc := fc.trans (f3.trans (f4.trans f5)), fcH := I5.fz, nw := a1, kp := a2, gD := a3, hDc := a4, ra := ra.mono (f3.trans (f4.trans f5)), hx := by omega, eb := w1, sb := w2, glc := w3, hlc := w4, rlc := w5, vs := w6, ec := h4, eall := by simpa using eall }⟩
        . cases h3
      | true =>
        simp only [if_true] at h3 ⊢
        obtain ⟨⟨dv, ρ7⟩, h7, h3⟩ := zac h3
        dsimp only at h3
        split at h3
        . rename_i hno
          cases h3
          refine se C s₀ H₀ fp _ G5 H5 σ4 ρ6 dv _ _ I5 h7 fun G6 H6 v I6 f6 r6 => ?_
          obtain ⟨a1, a2, a3, a4⟩ := facts G6 H6 σ4 _ I6
          obtain ⟨cs', ys', w1, w2, w3, w4, w5, w6⟩ := VS.ofP I6 rfl hno
          have ff : Fz Gc G6 := f3.trans (f4.trans (f5.trans f6))
          exact ⟨xs, a4, by rw [sizeLine_eq]; omega, items.length - (i + 1), by omega, rfl, hlt, G6, _, acc ++ [dv], xs ++ [v], rest2, cs', ys', { fc := fc.trans ff, fcH := I6.fz.right a3 _, nw := a1, kp := fun b o ne e => by rw [zap (zav e hD)]; exact a2 b o ne e, gD := a3, hDc := zas, ra := (ra.mono ff).snoc r6, hx := by rw [List.length_append, List.length_singleton]; omega, eb := w1, sb := w2, glc := w3, hlc := by rw [zap (Ne.symm hlD)]; exact w4, rlc := w5, vs := w6, ec := h4, eall := by rw [eall]; simp }⟩
        . cases h3
    . have e : i = items.length := by omega
      subst e
      rw [List.drop_length] at ec
      obtain ⟨rfl, rfl⟩ := Prod.mk.inj (Option.some.inj ec)
      have hall : all = acc := by rw [eall, List.append_nil]
      refine .inl ⟨IT.stop Hc _ (f2.trans (fc.trans fcH)) (Nat.le_refl _), ?_⟩
      rw [<- hall] at ra
      have hp : zgz bk ρc = cs := by unfold zgz; rw [eb]
      rw [hp] at k
      exact k Gc Hc DD xs (I2.growW ew qw hσ fc fcH nw kp glc hlc rlc) (f1.trans (f2.trans fc)) gD hDc ra (I2.there DD hD) (I2.own_neW ew qw hσ hD nw kp)
  . cases hm
theorem zjZ (cap : List Nat) (t bk wk : Nat) (N : List Str) (hc : X.calm = true) (hi : SIt X tg iter mi) (hg : ∀ C s H fp, SG (cxC X N scope C s H fp) tg g) (ht : ∀ C s H fp, STs (cxC X N scope C s H fp) ifs mt) (he : ∀ C s H fp, SE (cxC X N scope C s H fp) elt me) (hbw : cap[bk]? = some wk := by rfl)
    (hk : scope.kind = .function := by rfl) (hb : blkB X.env scope = true := by kernel_rfl) (hcap : capB scope.names N X.N cap t = true := by kernel_rfl)
    (hs : ∀ x, foldedSetIterable iter X.env x = pure x := by exact fun _ => rfl) : SO X (.ListComp elt [⟨tg, iter, ifs, 0⟩] scope pos) (oLCM cap t bk wk mi g mt me) := by
  obtain ⟨wi, pi, si⟩ := hi
  exact ⟨_, pe_lc hc (zhz hk hb) (zg6 hcap) pi (fun C s H fp => (hg C s H fp).choose_spec.1) (fun C s H fp => (ht C s H fp).choose_spec.1) (fun C s H fp => (he C s H fp).choose_spec.1) hs,
    ziZ hbw si (fun C s H fp => (hg C s H fp).choose_spec.2) (fun C s H fp => (ht C s H fp).choose_spec.2) (fun C s H fp => (he C s H fp).choose_spec.2)⟩
theorem zhU (i : Nat) {x : Str} {lpos pos' : Pos} (cap : List Nat) (t bk wk : Nat) (N : List Str) (hc : X.calm = true) (hi : SIt X tg iter mi) (hg : ∀ C s H fp, SG (cxC X N scope C s H fp) tg g) (ht : ∀ C s H fp, STs (cxC X N scope C s H fp) ifs mt) (he : ∀ C s H fp, SE (cxC X N scope C s H fp) elt me) (hN : X.N.Nodup) (hbw : cap[bk]? = some wk := by rfl)
    (hxi : X.N[i]? = some x := by rfl) (hx : Loc X.env.scope x := by first | exact Or.inl rfl | exact Or.inr rfl) (hf : X.fn x = true \/ X.env.scope.names.lookup x = some .local := by first | exact Or.inl rfl | exact Or.inr rfl)
    (hsw : swapsWith (.ListComp elt [⟨tg, iter, ifs, 0⟩] scope lpos) (some (.Name x pos')) pos.line X.env = pure true := by rfl)
    (hk : scope.kind = .function := by rfl) (hb : blkB X.env scope = true := by kernel_rfl) (hcap : capB scope.names N X.N cap t = true := by kernel_rfl)
    (hs : ∀ x, foldedSetIterable iter X.env x = pure x := by exact fun _ => rfl) : SS X (.Assign [.Name x pos'] (.ListComp elt [⟨tg, iter, ifs, 0⟩] scope lpos) pos) (sSet i (eFz (oLCM cap t bk wk mi g mt me))) := by
  obtain ⟨wi, pi, si⟩ := hi
  refine ⟨_, zg4 hN hxi hx hf hsw hc (zhz hk hb) (zg6 hcap) pi (fun C s H fp => (hg C s H fp).choose_spec.1) (fun C s H fp => (ht C s H fp).choose_spec.1) (fun C s H fp => (he C s H fp).choose_spec.1) hs, fun B G H σ ρ fl ρ' E I hm k => ?_⟩
  obtain ⟨⟨d, ρ1⟩, e1, e3⟩ := zau hm
  obtain ⟨⟨ds, ρ2⟩, e4, e5⟩ := zau e1
  obtain ⟨rfl, rfl⟩ := Prod.mk.inj e5
  obtain ⟨rfl, rfl⟩ := Prod.mk.inj e3
  refine ziZ hbw si (fun C s H fp => (hg C s H fp).choose_spec.2) (fun C s H fp => (ht C s H fp).choose_spec.2) (fun C s H fp => (he C s H fp).choose_spec.2) B G H σ ρ ds ρ2 _ I e4 fun G1 H1 l xs I1 f1 g1 h1 r1 b1 n1 => ?_
  obtain ⟨I2, f2, r2⟩ := zhT I1 g1 h1 r1 b1 n1
  exact k _ H1 _ (I2.set r2) (f1.trans f2)
end
end M
namespace M
open L2 PySem
def sExt (i : Nat) (m : ME) : MS := fun ρ => if (ρ[i]?.bind Sl.items).isSome then (m ρ).bind fun p => p.2[i]?.bind fun s => s.items.bind fun ds => match p.1 with
 | .lst es => if ds.length + es.length <= 16777216 then some (.next, p.2.set i (s.put (ds ++ es))) else none
 | _ => none else none
section
variable {X : Cx} {e : Expr} {me : ME} {pos : Pos}
theorem ss_ext (i : Nat) {x : Str} {pos' apos cpos : Pos} (he : SE X e me) (hN : X.N[i]? = some x := by rfl) (hv : Vis X.env.scope x := by first | exact Or.inl rfl | exact Or.inr (Or.inl rfl) | exact Or.inr (Or.inr rfl)) (hd : (x == ("__debug__" : Str)) = false := by decide)
  (hcd : (x == ("__classdict__" : Str)) = false := by decide)
  (hbase : attributeBase (.Name x pos') "extend" X.env (eval (.Name x pos') X.env) = eval (.Name x pos') X.env := by rfl)
  (hfew : ((backTo cpos (starEach [e] X.env)).all (fun x => !x.1) && (backToKw cpos (keywordEach [] X.env)).all (fun x => x.1.isSome)
   && decide ([e].length + ([] : List Keyword).length + (if ([] : List Keyword).isEmpty then 0 else 1) < 30)) = true := by rfl)
  (hline : (apos.endLine == cpos.line) = true := by rfl) (hs : starEach [e] X.env = (false, eval e X.env) :: starEach [] X.env := by rfl) : SS X (.Expr (.Call (.Attribute (.Name x pos') "extend" apos) [e] [] cpos) pos) (sExt i me) := by
 obtain ⟨t, p, s⟩ := he
 refine ⟨_, zh6 (pe_bm PySem.F.plainAttrs_list PySem.F.slot_list_extend PySem.F.type_list_extend zk8 (zbj hN hv hd hcd) (zbi p zdA hs) hbase hfew hline hs rfl) (by rfl), fun B G H σ ρ fl ρ' E I hm k => ?_⟩
 unfold sExt at hm
 split at hm
 ·rename_i hso
  obtain ⟨ds0, hso⟩ := Option.isSome_iff_exists.mp hso
  obtain ⟨s0, e0, q0⟩ := zac hso
  obtain ⟨l, xs0, h1, h2, h3, h4⟩ := I.wr e0 q0
  obtain ⟨⟨d, ρ1⟩, e1, hm⟩ := zac hm
  obtain ⟨s1, e2, hm⟩ := zac hm
  obtain ⟨ds, e3, hm⟩ := zac hm
  cases d with
  | lst es =>
   dsimp only at hm
   split at hm
   ·rename_i hl
    cases hm
    refine ⟨.ref l, h1, .inl ⟨rfl, _, SqL.of h3⟩, s B G H σ ρ (.lst es) ρ1 _ I e1 fun G1 H1 v I1 f1 r1 => ?_⟩
    obtain ⟨l', xs, k1, k2, k3, k4⟩ := I1.wr e2 e3
    rw [h1] at k1; cases k1
    obtain ⟨b, zs, rfl, hb, rb⟩ := r1
    refine ⟨l, b, xs, zs, rfl, rfl, k3, I1.fz _ _ hb, by rw [k4.length, rb.length, sizeLine_eq]; exact hl, ?_⟩
    exact k G1 _ σ (I1.write e2 e3 h1 (k4.append rb)) f1
   ·cases hm
  | _ => cases hm
 ·cases hm
end
end M
namespace M
open L2 PySem PySem.Spec
open PyProof.Rows hiding St
def iR2L (ma : MA) : MA := fun ρ => (ma ρ).bind fun p => match p.1 with
 | [.int i, .int j] => some (zdc i (j - i).toNat, p.2)
 | _ => none
theorem nn {α : Type} {o : Option α} {x : α} (e : o = some x) : o ≠ none := by rw [e]; exact fun z => by cases z
abbrev MX := R -> Option Str
def zgI (mc : MT) (mb : MS) : Nat -> MS
 | 0, _ => none
 | n + 1, ρ => (mc ρ).bind fun p => if p.1 then (mb p.2).bind fun q => match q.1 with
  | .next => zgI mc mb n q.2
  | .cont => zgI mc mb n q.2
  | .brk => some (.next, q.2)
  | .ret r => some (.ret r, q.2)
  else some (.next, p.2)
theorem ss_while {X : Cx} {c : Expr} {body : List Stmt} {mc : MT} {mb : MS} {pos : Pos} (fuel : Nat) (hp : PassesOwn (model X.prog X.w) X.A X.env X.xe) (hc : STt X c mc) (hb : SSs X body mb) : SS X (.While c body [] pos) (zgI mc mb fuel) := by
 obtain ⟨tc, pc, sc⟩ := hc
 obtain ⟨tb, pb, sb⟩ := hb
 refine ⟨_, ps_while hp pc pb, fun B G H σ ρ fl ρ' E I hm k => ?_⟩
 refine ⟨fun m σ' H' => ∃ G' ρ1, SI X.K B G' H' σ' ρ1 /\ Fz G G' /\ zgI mc mb m ρ1 = some (fl, ρ'), ⟨fuel, G, ρ, I, Fz.refl G, hm⟩, fun m σ1 H1 w => ?_⟩
 obtain ⟨G1, ρ1, I1, f1, e1⟩ := w
 cases m with
 | zero => cases e1
 | succ m =>
  obtain ⟨⟨b, ρ2⟩, e2, e1⟩ := zac e1
  refine sc B G1 H1 σ1 ρ1 b ρ2 _ I1 e2 fun G2 H2 I2 f2 => ?_
  dsimp only at e1
  cases b with
  | false =>
   rw [if_neg (by simp)] at e1 ⊢
   cases e1
   exact k G2 H2 σ1 I2 (f1.trans f2)
  | true =>
   rw [if_pos rfl] at e1 ⊢
   obtain ⟨⟨f, ρ3⟩, e3, e1⟩ := zac e1
   refine ⟨fun σ' H' => ∃ G' ρ1, SI X.K B G' H' σ' ρ1 /\ Fz G G' /\ zgI mc mb m ρ1 = some (fl, ρ'), fun σ' H' h => ⟨m, Nat.lt_succ_self m, h⟩, ?_⟩
   refine sb B G2 H2 σ1 ρ2 f ρ3 _ I2 e3 ?_
   have ff := f1.trans f2
   cases f with
   | next => exact fun G' H' σ' I3 f3 => ⟨G', ρ3, I3, ff.trans f3, e1⟩
   | cont => exact fun G' H' σ' I3 f3 => ⟨G', ρ3, I3, ff.trans f3, e1⟩
   | brk => cases e1; exact fun G' H' σ' I3 f3 => k G' H' σ' I3 (ff.trans f3)
   | ret r => cases e1; exact fun G' H' σ' v I3 f3 rr => k G' H' σ' v I3 (ff.trans f3) rr
end M
namespace M
open L2 PySem
def likeS : Sl -> Sl -> Bool
 | .own ds, .own es => match zbO ds, zbO es with
  | some a, some b => a == b
  | _, _ => false
 | .par ds, .par es => match zbO ds, zbO es with
  | some a, some b => a == b
  | _, _ => false
 | .own _, _ => false
 | .par _, _ => false
 | .tre _, _ => false
 | .ptr _, _ => false
 | _, _ => true
end M
namespace M
open L2 PySem PySem.Spec
open PyProof.Rows hiding St
def Sl.putT (s : Sl) (t : T) : Sl := match s with
 | .tre _ => .tre t
 | .ptr _ => .ptr t
 | s => s
def Sl.tree : Sl -> Option T
 | .tre t => some t
 | .ptr t => some t
 | _ => none
section
variable {K : W.Frag} {B : Bs} {G G' H H' : Hp} {σ : St} {ρ : R}
theorem SI.setT (I : SI K B G H σ ρ) {i : Nat} {v : V} {t : T} {A : List Addr} (r : RepT K G H v t A) (nd : A.Nodup) (hA : ∀ a ∈ A, G a = none /\ B.H a = none /\ Nw K G H σ ρ a) : SI K B G H (σ.set i (some v)) (ρ.set i (.tre t)) :=
 I.chg I.fz (Fz.refl G) I.new I.keep I.there (fun j s a _ e w g _ => ⟨g, rfl, fun ⟨v2, A2, k1, k2, k3⟩ => by
  cases k1
  rw [k2.det r fun _ _ => rfl] at k3
  exact (hA a k3).2.2 j s e w⟩) ⟨v, A, rfl, r, nd, fun a m => ⟨(hA a m).1, (hA a m).2.1⟩⟩
open Classical in
def Bs.re (B : Bs) (K : W.Frag) (G H : Hp) (σ : St) (ρ : R) : Bs := ⟨G, fun b => if (∃ (i : Nat) (s : Sl), ρ[i]? = some s /\ OwS K G H σ[i]? b s) /\ B.H b = none then none else H b, B.O⟩
theorem zfN (I : SI K B G H σ ρ) {b : Addr} (h : (B.re K G H σ ρ).H b = none) : B.H b = none := by
 unfold Bs.re at h
 dsimp only at h
 split at h
 ·rename_i w; exact w.2
 ·exact I.there b h
theorem zlf {b : Addr} {i : Nat} {s : Sl} (e : ρ[i]? = some s) (w : OwS K G H σ[i]? b s) (n : B.H b = none) : (B.re K G H σ ρ).H b = none := by
 unfold Bs.re
 dsimp only
 rw [if_pos ⟨⟨i, s, e, w⟩, n⟩]
theorem zjN {b : Addr} {o : HO} (h : H b = some o) (n : Nw K G H σ ρ b) : (B.re K G H σ ρ).H b = some o := by
 unfold Bs.re
 dsimp only
 rw [if_neg fun w => by obtain ⟨⟨i, s, e, w⟩, _⟩ := w; exact n i s e w]
 exact h
theorem SI.re (I : SI K B G H σ ρ) : SI K (B.re K G H σ ρ) G H σ ρ where
 fz := I.fz
 g0 := Fz.refl G
 new := fun b o e => .inl (by show G b ≠ none; rw [e]; simp)
 keep := fun b o e _ => by
  unfold Bs.re at e
  dsimp only at e
  split at e
  ·cases e
  ·exact e
 there := fun b e => by
  unfold Bs.re
  dsimp only
  split
  ·rfl
  ·exact e
 ob := fun i b m => by
  have hb := I.ob i b m
  unfold Bs.re
  dsimp only
  rw [if_neg fun w => hb w.2]
  exact fun z => hb (I.there b z)
 len := I.len
 slot := fun i s e => by
  have h := I.slot i s e
  cases s with
  | emp => trivial
  | two _ _ => trivial
  | val d => exact h
  | own ds => obtain ⟨l, xs, k1, k2, k3, k4, k5⟩ := h; exact ⟨l, xs, k1, k2, k3, k4, zlf e k1 k5⟩
  | par ds => exact h
  | tre t => obtain ⟨v, A, k1, k2, k3, k4⟩ := h; exact ⟨v, A, k1, k2, k3, fun a m => ⟨(k4 a m).1, zlf e ⟨v, A, k1, k2, m⟩ (k4 a m).2⟩⟩
  | ptr t =>
   obtain ⟨v, A, k1, k2, k3, k4⟩ := h
   refine ⟨v, A, k1, k2, k3, fun a m => ⟨(k4 a m).1, ?_⟩⟩
   rcases (k4 a m).2 with z | z
   ·exact .inl (zlf e ⟨v, A, k1, k2, m⟩ z)
   ·exact .inr z
 dis := I.dis
theorem SI.unre {σ' : St} {ρ' : R} (I : SI K B G H σ ρ) (J : SI K (B.re K G H σ ρ) G' H' σ' ρ') : SI K B G' H' σ' ρ' where
 fz := J.fz
 g0 := I.g0.trans J.g0
 new := fun b o e => by
  rcases J.new b o e with z | z
  ·cases q : G b with
   | none => exact absurd q z
   | some u => exact I.new b u q
  ·exact .inr (zfN I z)
 keep := fun b o e n => J.keep b o (by
  unfold Bs.re
  dsimp only
  rw [if_neg fun w => by rw [w.2] at e; cases e]
  exact I.keep b o e n) n
 there := fun b e => zfN I (J.there b e)
 ob := I.ob
 len := J.len
 slot := fun i s e => by
  have h := J.slot i s e
  cases s with
  | emp => trivial
  | two _ _ => trivial
  | val d => exact h
  | own ds => obtain ⟨l, xs, k1, k2, k3, k4, k5⟩ := h; exact ⟨l, xs, k1, k2, k3, k4, zfN I k5⟩
  | par ds => exact h
  | tre t => obtain ⟨v, A, k1, k2, k3, k4⟩ := h; exact ⟨v, A, k1, k2, k3, fun a m => ⟨(k4 a m).1, zfN I (k4 a m).2⟩⟩
  | ptr t =>
   obtain ⟨v, A, k1, k2, k3, k4⟩ := h
   refine ⟨v, A, k1, k2, k3, fun a m => ⟨(k4 a m).1, ?_⟩⟩
   rcases (k4 a m).2 with z | z
   ·exact .inl (zfN I z)
   ·exact .inr z
 dis := J.dis
theorem SI.re_stays {σ' : St} {ρ' : R} (I : SI K B G H σ ρ) (J : SI K (B.re K G H σ ρ) G' H' σ' ρ') {b : Addr} {o : HO} (h : H b = some o) (n : Nw K G H σ ρ b) (hg : G b = none) (hB : B.H b = none) : H' b = some o /\ G' b = none /\ Nw K G' H' σ' ρ' b := by
 have hb : (B.re K G H σ ρ).H b = some o := zjN h n
 have hO : ∀ i, (i, b) ∉ B.O := fun i m => I.ob i b m hB
 refine ⟨J.keep b o hb hO, ?_, fun i s e w => ?_⟩
 ·cases q : G' b with
  | none => rfl
  | some u =>
   rcases J.new b u q with z | z
   ·exact absurd hg z
   ·rw [hb] at z; cases z
 ·rcases ((J.slot i s e).own w).2.2 with z | z
  ·rw [hb] at z; cases z
  ·exact hO i z
end
section
variable {J κ : Type} [DecidableEq J] [DecidableEq κ]
def lkD : List J -> List D -> J -> Option D
 | k :: ks, d :: ds, j => if k = j then some d else lkD ks ds j
 | _, _, _ => none
variable {K : W.Frag} {G : Hp} {em : J -> κ}
end
def Sl.dic : Sl -> Option (List Int × List D)
 | .tre (.dic ks ds) => some (ks, ds)
 | .ptr (.dic ks ds) => some (ks, ds)
 | .val (.dic ks ds) => some (ks, ds)
 | _ => none
def tDI (j : Nat) (neg : Bool) (mk : ME) : MT := fun ρ => (mk ρ).bind fun p => match p.1 with
 | .int k => (p.2[j]?.bind Sl.dic).map fun q => (((lkD q.1 q.2 k).isSome != neg), p.2)
 | _ => none
def fzD (j : Nat) (ρ : R) : R := match ρ[j]? with
 | some (.tre (.dic ks ds)) => ρ.set j (.val (.dic ks ds))
 | _ => ρ
def eCallMO (F : List D -> List D -> Option (Sl × List D)) (mo : MO) (ma : MA) : ME := fun ρ => (mo ρ).bind fun p => (ma p.2).bind fun q => (F p.1 q.1).bind fun r => match r.1 with
 | .val d => some (d, q.2)
 | .own ds => some (.lst ds, q.2)
 | _ => none
end M
namespace HT
open L2 PyProof.Rows PySem PySem.Spec
section
variable {prog : Program} {w : World} {A : Around} {E : Value -> Shared -> Prop} {I : Addr} {fp wr : List Addr} {n : Nat} {St : Nat -> Heap -> Prop}
theorem ziY {its : List Value} (W : Walks prog w A I fp wr n (fun i v => its[i]? = some v) St) : ∀ (m i : Nat) (s : Shared) (Q : List Value -> Shared -> Prop), i + m <= n -> St i s.heap ->
  (∀ h' tk, St (i + m) h' -> (∀ b o, b ∉ wr -> s.heap.get? b = some o -> h'.get? b = some o) -> Q ((its.drop i).take m) { s with heap := h', toks := tk }) -> wpAny (model prog w) A (draw (.ref I) m) Q E s
 | 0, i, s, Q, _, st, hq => wpAny_pure (by simpa using hq s.heap s.toks st fun _ _ _ e => e)
 | m + 1, i, s, Q, hi, st, hq => by
  show wpAny _ _ (pyNext (.ref I) >>= _) Q E s
  refine wpAny_bind (W.item i s _ _ (by omega) st fun v h1 tk1 hv st1 k1 => ?_)
  refine wpAny_bind (wpAny_holding (ziY W m (i + 1) _ _ (by omega) st1 fun h2 tk2 st2 k2 => wpAny_pure ?_))
  have := hq h2 tk2 (by rw [show i + (m + 1) = i + 1 + m by omega]; exact st2) fun b o nb e => k2 b o nb (k1 b o nb e)
  obtain ⟨hl, ev⟩ := List.getElem?_eq_some_iff.mp hv
  rw [List.drop_eq_getElem_cons hl, List.take_succ_cons, ev] at this
  exact this
end
end HT
namespace L2
open PyProof.Rows PySem PySem.Spec
variable {X : Cx} {pos : Pos}
def gTupL (K : W.Frag) (n : Nat) (t : TGs) : TG := fun v σ H Q => ∃ a xs, v = .ref a /\ SqL K H a xs /\ xs.length = n /\ t xs σ H Q
theorem pg_tupL {es : List Expr} {k : Nat} {t : TGs} {n : Nat} (hc : X.calm = true) (h : PGs X es t)
  (hn : (assignEach es X.env).length = n := by rfl) (hst : (assignEach es X.env).findIdx? (·.1) = none := by rfl) : PG X (.Tuple es k pos) (gTupL X.K n t) := by
 intro pins s σ H v u Q I r hw
 obtain ⟨a, xs, e1, hq, hl, hw⟩ := hw
 subst e1
 cases r
 obtain ⟨its0, rv0, pl, hz⟩ := I.list hq
 rw [assign_Tuple]
 refine wpAny_bind (wpAny_standAt ?_)
 unfold unpack
 rw [hst, hn]
 refine wpAny_bind (wpAny_holding ?_)
 unfold unpackItems
 refine wpAny_bind ?_
 unfold notIterableAtAll
 refine wpAny_bind (wpAny_specialOf pl.isList.typeIs PySem.F.slot_list_iter.lookup ?_)
 refine wpAny_pure ?_
 simp only [Bool.false_eq_true, if_false]
 refine wpAny_bind (wpAny_holding (M.zgb (A := X.A) (I.ok.hd hc) I (.inl hq) fun its s₂ St rv W st hfp fin => ?_))
 have ln : its.length = n := by rw [<- rv.length, hl]
 refine wpAny_bind (wpAny_holding (HT.ziY W n 0 s₂ _ (by omega) st fun h1 tk1 st1 k1 => ?_))
 have hall : List.take n (List.drop 0 its) = its := by rw [List.drop_zero]; exact List.take_of_length_le (by omega)
 rw [hall, if_neg (by omega)]
 refine wpAny_bind (wpAny_holding (W.done _ _ _ (by rw [ln, <- Nat.zero_add n]; exact st1) fun h2 tk2 k2 => ?_))
 simp only [Option.isSome_none, Bool.false_eq_true, if_false]
 refine wpAny_pure ?_
 exact h pins _ σ H xs _ Q (fin h2 tk2 fun b o nb e => k2 b o nb (k1 b o nb e)) rv hw
end L2
namespace M
open L2 PySem PySem.Spec
open PyProof.Rows hiding St
def Ch.sl : Ch -> Sl
 | .d x => .val x
 | .l ds => .own ds
 | .t xss => .tre (.lst (xss.map .l))
theorem tb_cs {K : W.Frag} {G H : Hp} : ∀ {xs : List V} {dss : List (List D)} {A : List Addr}, RepTb K G H xs dss A -> RepCs K G H xs (dss.map .l) A
 | [], [], _, h => h
 | x :: xs, ds :: dss, _, ⟨r, ys, A2, e1, e2, e3, e4, e5⟩ => ⟨[r], A2, ⟨r, ys, e1, e2, e3, rfl⟩, tb_cs e4, e5⟩
 | [], _ :: _, _, h => h.elim
 | _ :: _, [], _, h => h.elim
theorem cs_tb {K : W.Frag} {G H : Hp} : ∀ {xs : List V} {dss : List (List D)} {A : List Addr}, RepCs K G H xs (dss.map .l) A -> RepTb K G H xs dss A
 | [], [], _, h => h
 | x :: xs, ds :: dss, _, ⟨A1, A2, ⟨r, ys, e1, e2, e3, e6⟩, e4, e5⟩ => ⟨r, ys, A2, e1, e2, e3, cs_tb e4, by rw [e5, e6]; rfl⟩
 | [], _ :: _, _, h => h.elim
 | _ :: _, [], _, h => h.elim
def zmd : List Nat -> List Ch -> R -> R
 | i :: is, c :: cs, ρ => zmd is cs (ρ.set i c.sl)
 | _, _, ρ => ρ
def sUnT (j : Nat) (is : List Nat) : MS := fun ρ => match ρ[j]? with
 | some (.tre (.lst cs)) => if cs.length = is.length then some (.next, zmd is cs (ρ.set j .emp)) else none
 | _ => none
section
variable {K : W.Frag} {B : Bs} {G H : Hp}
def zkf : List Nat -> TGs
 | [] => gNil
 | i :: is => gCons (gName i) (zkf is)
theorem put_cs : ∀ {is : List Nat} {cs : List Ch} {xs : List V} {A : List Addr} {σ : St} {ρ : R} {Q : St -> Hp -> Prop}, SI K B G H σ ρ -> RepCs K G H xs cs A -> A.Nodup -> (∀ a ∈ A, G a = none /\ B.H a = none /\ Nw K G H σ ρ a) -> cs.length = is.length -> (∀ σ', SI K B G H σ' (zmd is cs ρ) -> Q σ' H) -> zkf is xs σ H Q
 | [], [], [], _, σ, ρ, Q, I, _, _, _, _, k => ⟨rfl, k σ I⟩
 | [], _ :: _, _, _, _, _, _, _, _, _, _, h, _ => by cases h
 | _ :: _, [], _, _, _, _, _, _, _, _, _, h, _ => by cases h
 | [], [], _ :: _, _, _, _, _, _, r, _, _, _, _ => r.elim
 | i :: is, c :: cs, [], _, _, _, _, _, r, _, _, _, _ => r.elim
 | i :: is, c :: cs, x :: xs, A, σ, ρ, Q, I, ⟨A1, A2, r1, r2, e⟩, nd, hA, hl, k => by
  subst e
  refine ⟨x, xs, rfl, ?_⟩
  have nd2 := (List.nodup_append.mp nd)
  have fin : ∀ s, SI K B G H (σ.set i (some x)) (ρ.set i s) -> s = c.sl -> (∀ a ∈ A2, ¬ OwS K G H (some (some x)) a s) -> zkf is xs (σ.set i (some x)) H Q := fun s I' es no => by
   subst es
   refine put_cs I' r2 nd2.2.1 (fun a m => ?_) (by simpa using hl) k
   have h := hA a (List.mem_append_right _ m)
   refine ⟨h.1, h.2.1, fun j t et w => ?_⟩
   by_cases z : j = i
   ·subst z
    rw [List.getElem?_set, if_pos rfl] at et w
    split at et
    ·cases et
     split at w
     ·exact no a m w
     ·rename_i q1 q2; exact q2 (by rw [I.len]; exact q1)
    ·cases et
   ·rw [List.getElem?_set_ne (Ne.symm z)] at et w
    exact h.2.2 j t et w
  cases c with
  | d y => exact fin _ (I.set r1.1) rfl fun a _ w => w
  | l ds =>
   obtain ⟨l, ys, rfl, h1, h2, rfl⟩ := r1
   have h := hA l (List.mem_append_left _ (by simp))
   refine fin _ (I.setO h.1 h1 h2 h.2.1 h.2.2) rfl fun a m w => ?_
   cases (show some (some (V.ref l)) = some (some (.ref a)) from w)
   exact nd2.2.2 l (by simp) l m rfl
  | t xss =>
   obtain ⟨p, ys, A', rfl, h1, h2, rfl⟩ := r1
   have rt : RepT K G H (.ref p) (.lst (xss.map .l)) (p :: A') := ⟨p, ys, A', rfl, h1, tb_cs h2, rfl⟩
   refine fin _ (I.setT rt nd2.1 fun a m => hA a (List.mem_append_left _ m)) rfl fun a m w => ?_
   obtain ⟨v2, A3, w1, w2, w3⟩ := w
   cases w1
   rw [w2.det rt fun _ _ => rfl] at w3
   exact nd2.2.2 a w3 a m rfl
end
section
variable {X : Cx} {pos : Pos}
def zlB (X : Cx) : List Nat -> List Expr -> Prop
 | [], [] => True
 | i :: is, .Name x _ :: es => X.N[i]? = some x /\ Loc X.env.scope x /\ (X.fn x = true \/ X.env.scope.names.lookup x = some .local) /\ zlB X is es
 | _, _ => False
theorem zjs (hN : X.N.Nodup) : ∀ {is : List Nat} {es : List Expr}, zlB X is es -> PGs X es (zkf is)
 | [], [], _ => zl3
 | i :: is, .Name x p :: es, ⟨h1, h2, h3, h4⟩ => zkm (zjM hN h1 h2 h3) (zjs hN h4)
theorem ss_unT (j : Nat) (is : List Nat) {x : Str} {es : List Expr} {k : Nat} {p' tp : Pos} (hc : X.calm = true) (hN : X.N.Nodup) (hn : zlB X is es) (hi : X.N[j]? = some x := by rfl) (hv : Vis X.env.scope x := by first | exact Or.inl rfl | exact Or.inr (Or.inl rfl) | exact Or.inr (Or.inr rfl)) (hd : (x == ("__debug__" : Str)) = false := by decide)
  (hcd : (x == ("__classdict__" : Str)) = false := by decide) (hl : (assignEach es X.env).length = is.length := by rfl) (hst : (assignEach es X.env).findIdx? (·.1) = none := by rfl) (hs : swapsWithSole [.Tuple es k tp] (.Name x p') pos.line X.env = pure false := by rfl) (hw : swappedStores [.Tuple es k tp] (.Name x p') X.env = pure none := by rfl)
  (h1 : (assignEach [.Tuple es k tp] X.env).map (·.2) = [assign (.Tuple es k tp) X.env] := by rfl) : SS X (.Assign [.Tuple es k tp] (.Name x p') pos) (sUnT j is) := by
 refine ⟨_, zjh (zbj hi hv hd hcd) (pg_tupL hc (zjs hN hn) hl hst) hs hw h1, fun B G H σ ρ fl ρ' E I hm k => ?_⟩
 unfold sUnT at hm
 split at hm
 ·rename_i cs e
  split at hm
  ·rename_i hlen
   cases hm
   obtain ⟨v, A, k1, k2, k3, k4⟩ := I.slot j _ e
   have k2' := k2
   obtain ⟨p, xs, A', rfl, h2, h3, rfl⟩ := k2
   have ln : ∀ {xs : List V} {cs : List Ch} {A : List Addr}, RepCs X.K G H xs cs A -> xs.length = cs.length := by
    intro xs
    induction xs with
    | nil => intro cs A r; cases cs with
     | nil => rfl
     | cons _ _ => exact r.elim
    | cons x xs ih => intro cs A r; cases cs with
     | nil => exact r.elim
     | cons c cs => obtain ⟨_, _, _, r2, _⟩ := r; rw [List.length_cons, List.length_cons, ih r2]
   refine ⟨.ref p, k1, p, xs, rfl, SqL.of h2, by rw [ln h3, hlen], ?_⟩
   refine put_cs (I.emp j) h3 (List.nodup_cons.mp k3).2 (fun a m => ⟨(k4 a (by simp [m])).1, (k4 a (by simp [m])).2, fun i s es w => ?_⟩) hlen fun σ' I' => k G H σ' I' (Fz.refl G)
   by_cases z : i = j
   ·subst z
    rw [List.getElem?_set, if_pos rfl] at es
    split at es
    ·cases es; exact w
    ·cases es
   ·rw [List.getElem?_set_ne (Ne.symm z)] at es
    exact I.dis i j s _ a z es e w ⟨.ref p, _, k1, k2', by simp [m]⟩
  ·cases hm
 ·cases hm
end
end M
namespace M
open L2 PySem PySem.Spec
open PyProof.Rows hiding St
variable {H : Hp} {A : List Addr} {b l f : Addr} {K : W.Frag} {N : List Str} {xs vs ys : List V} {cs ds : List D} {x : Str} {fd : FuncData} {n : Nat}
open Classical in
def zdv (H : Hp) (A : List Addr) : Hp := fun b => if b ∈ A then none else H b
theorem zh2 (h : b ∈ A) : zdv H A b = none := by unfold zdv; rw [if_pos h]
theorem zcV (h : b ∉ A) : zdv H A b = H b := by unfold zdv; rw [if_neg h]
theorem zgB (h : zdv H A b = none) : H b = none \/ b ∈ A := by
 by_cases m : b ∈ A
 ·exact .inr m
 ·rw [zcV m] at h; exact .inl h
theorem zkR {o : HO} (h : zdv H A b = some o) : H b = some o /\ b ∉ A := by
 by_cases m : b ∈ A
 ·rw [zh2 m] at h; cases h
 ·rw [zcV m] at h; exact ⟨h, m⟩
def spMT (K : W.Frag) (n : Nat) (F : List D -> T -> List D -> Option (Sl × List D)) : Sp := fun vs H Q _ => ∃ G l xs cs v2 t A ws ds r out, vs = .ref l :: v2 :: ws /\ F cs t ds = some (r, out) /\ ds.length + 2 = n /\ Fz G H /\ G l = none /\ H l = some (.lst xs) /\ RepL K G xs cs /\ RepT K G H v2 t A /\ A.Nodup /\ l ∉ A /\ (∀ a ∈ A, G a = none) /\ RepL K G ws ds /\
 ∀ G' H' v ys, Fz G G' -> Fz G' H' -> (∀ b o, G' b = some o -> G b ≠ none \/ zdv H A b = none) -> (∀ b o, b ≠ l -> zdv H A b = some o -> H' b = some o) -> G' l = none -> H' l = some (.lst ys) -> RepL K G' ys out -> ResF K G' H' (zdv H A) v r -> Q v H'
def fMT (N : Nat) (m : MS) : List D -> T -> List D -> Option (Sl × List D) := fun cs t ds => (m (.par cs :: .tre t :: (ds.map .val ++ List.replicate (N - (ds.length + 2)) .emp))).bind fun p => match p.1, (p.2[0]? : Option Sl) with
 | Fl.ret r, some (Sl.par out) => some (r, out)
 | Fl.next, some (Sl.par out) => some (.val .non, out)
 | _, _ => none
theorem SI.startMT {G H : Hp} {v2 : V} {t : T} (fz : Fz G H) (hg : G l = none) (hl : H l = some (.lst xs)) (rc : RepL K G xs cs) (rt : RepT K G H v2 t A) (nd : A.Nodup) (nl : l ∉ A) (gA : ∀ a ∈ A, G a = none) (r : RepL K G vs ds) (h : ds.length + 2 <= N.length) :
  SI K ⟨G, zdv H A, [(0, l)]⟩ G H (L2.start N (.ref l :: v2 :: vs)) (.par cs :: .tre t :: (ds.map .val ++ List.replicate (N.length - (ds.length + 2)) .emp)) where
 fz := fz
 g0 := Fz.refl G
 new := fun b o e => .inl (by show G b ≠ none; rw [e]; simp)
 keep := fun b o e _ => (zkR e).1
 there := fun b e => by
  show zdv H A b = none
  by_cases m : b ∈ A
  ·exact zh2 m
  ·rw [zcV m]; exact e
 ob := fun i b m => by
  have : b = l := ((by simpa using m) : i = 0 /\ b = l).2
  subst this
  show zdv H A b ≠ none
  rw [zcV nl, hl]; simp
 len := by
  have := r.length
  rw [zho (by rw [List.length_cons, List.length_cons, r.length]; omega), List.length_cons, List.length_cons, List.length_append, List.length_map, List.length_replicate]; omega
 slot := fun i s e => by
  match i with
  | 0 => simp at e; subst e; exact ⟨l, xs, rfl, hg, hl, rc, by simp⟩
  | 1 => simp at e; subst e; exact ⟨v2, A, rfl, rt, nd, fun a m => ⟨gA a m, zh2 m⟩⟩
  | i + 2 =>
   rw [List.getElem?_cons_succ, List.getElem?_cons_succ] at e
   by_cases hi : i < ds.length
   ·rw [List.getElem?_append_left (by simpa using hi), List.getElem?_map, List.getElem?_eq_getElem hi] at e
    cases e
    obtain ⟨x, h1, h2⟩ := r.get (List.getElem?_eq_getElem hi)
    refine ⟨x, ?_, h2⟩
    unfold L2.start
    rw [List.map_cons, List.map_cons, List.cons_append, List.cons_append, List.getElem?_cons_succ, List.getElem?_cons_succ, List.getElem?_append_left (by rw [List.length_map, r.length]; exact hi), List.getElem?_map, h1]
    rfl
   ·rw [List.getElem?_append_right (by simpa using hi), List.getElem?_replicate] at e
    split at e
    ·cases e; trivial
    ·cases e
 dis := fun i j s u a hij hi hj w1 w2 => by
  have z : ∀ (i : Nat) (s : Sl), (Sl.par cs :: Sl.tre t :: (ds.map .val ++ List.replicate (N.length - (ds.length + 2)) .emp))[i]? = some s -> OwS K G H (L2.start N (.ref l :: v2 :: vs))[i]? a s -> (i = 0 /\ a = l) \/ (i = 1 /\ a ∈ A) := fun i s e q => by
   match i with
   | 0 =>
    simp at e; subst e
    refine .inl ⟨rfl, ?_⟩
    have q' := show (L2.start N (V.ref l :: v2 :: vs))[0]? = some (some (.ref a)) from q
    cases (show some (some (V.ref l)) = some (some (.ref a)) from q')
    rfl
   | 1 =>
    simp at e; subst e
    obtain ⟨v, A', q1, q2, q3⟩ := q
    cases (show some (some v2) = some (some v) from q1)
    rw [<- rt.det q2 fun _ _ => rfl] at q3
    exact .inr ⟨rfl, q3⟩
   | i + 2 =>
    exfalso
    rw [List.getElem?_cons_succ, List.getElem?_cons_succ] at e
    by_cases hi : i < ds.length
    ·rw [List.getElem?_append_left (by simpa using hi), List.getElem?_map, List.getElem?_eq_getElem hi] at e
     cases e; exact q
    ·rw [List.getElem?_append_right (by simpa using hi), List.getElem?_replicate] at e
     split at e
     ·cases e; exact q
     ·cases e
  rcases z i s hi w1 with ⟨a1, a2⟩ | ⟨a1, a2⟩ <;> rcases z j u hj w2 with ⟨b1, b2⟩ | ⟨b1, b2⟩
  ·exact hij (a1.trans b1.symm)
  ·subst a2; exact nl b2
  ·subst b2; exact nl a2
  ·exact hij (a1.trans b1.symm)
section
variable {P : Program} {w : World} {K : W.Frag} {mg : Str -> Option Value} {base : Heap}
theorem fnMT_ok {x qual : Str} {st : Stmt} {N ps : List Str} {k n : Nat} {m : MS} (F : Fun K x qual st f fd) (S : FnScope N ps (zaJ st)) (hn : ps.length = n) (hN : n <= N.length)
  (body : ∀ (cdv : Value) (A : Around) (outer : List Env) (s : Shared) (H : Hp) (E : XK), Room k (A.deeper (envOfC qual (zaJ st) s.heap.objs.size f cdv)) -> SSs (cxOf CX0 P w K mg base N qual (zaJ st) f cdv A outer s H E).nox (zbW st) m) :
  FnOk P w K mg base CX0 (k + 1) f fd ps (spMT K n (fMT N.length m)) := by
 refine F.ok S (fun vs H Q E h => ?_) (fun cdv A outer s H vs Q E hr h => ?_)
 ·obtain ⟨G, l, xs, cs, v2, t, A, ws, ds, r, out, rfl, _, h2, _, _, _, _, _, _, _, _, h4, _⟩ := h
  rw [List.length_cons, List.length_cons, h4.length, <- hn] at *
  omega
 ·obtain ⟨G, l, xs, cs, v2, tt, At, ws, ds, r, out, rfl, e1, h2, fz, hg, hl, rc, rt, nd, nl, gA, h4, kk⟩ := h
  obtain ⟨t, pt, so⟩ := body cdv A outer s H E hr
  refine ⟨t, pt, ?_⟩
  obtain ⟨⟨fl, ρ'⟩, e2, e3⟩ := zac e1
  refine so ⟨G, zdv H At, [(0, l)]⟩ G H _ _ fl ρ' _ (SI.startMT fz hg hl rc rt nd nl gA h4 (by omega)) e2 ?_
  have fin : ∀ G' H' σ' v, ρ'[0]? = some (.par out) -> SI K ⟨G, zdv H At, [(0, l)]⟩ G' H' σ' ρ' -> Fz G G' -> ResF K G' H' (zdv H At) v r -> Q v H' := fun G' H' σ' v e0 I f rr => by
   obtain ⟨l', ys, k1, k2, k3, k4, k5⟩ := I.slot 0 _ e0
   have : l' = l := by simpa using k5
   subst this
   exact kk G' H' v ys f I.fz I.new (fun b o hb e => I.keep b o e (fun i hm => by simp at hm; exact hb hm.2)) k2 k3 k4 rr
  cases e0 : ρ'[0]? with
  | none => rw [e0] at e3; cases fl <;> cases e3
  | some s0 =>
   rw [e0] at e3
   cases s0 with
   | par o2 =>
    cases fl with
    | next => cases e3; exact fun G' H' σ' I f => fin G' H' σ' .non e0 I f rfl
    | brk => cases e3
    | cont => cases e3
    | ret r' =>
     cases e3
     refine fun G' H' σ' v I f rr => fin G' H' σ' v e0 I f ?_
     cases r with
     | val d => exact rr
     | own ds => exact rr
     | _ => exact rr
   | _ => cases fl <;> cases e3
end
abbrev MP' := R -> Option (List Ch × R)
def SP' (X : Cx) (es : List Expr) (m : MP') : Prop :=
 ∃ t, PA X es t /\ ∀ B G H σ ρ cs ρ' (Q : List V -> Hp -> Prop), SI X.K B G H σ ρ -> m ρ = some (cs, ρ') ->
  (∀ G' H' vs A, SI X.K B G' H' σ ρ' -> Fz G G' -> RepCs X.K G' H' vs cs A -> A.Nodup -> (∀ a ∈ A, G' a = none /\ B.H a = none /\ Nw X.K G' H' σ ρ' a) -> Q vs H') -> t σ H Q
def cNil : MP' := fun ρ => some ([], ρ)
def cOwn (i : Nat) (r : MP') : MP' := fun ρ => match ρ[i]? with
 | some (.own ds) => (r (ρ.set i .emp)).map fun q => (.l ds :: q.1, q.2)
 | _ => none
section
variable {X : Cx} {e : Expr} {es : List Expr} {m : ME} {r : MP'}
theorem sc_nil : SP' X [] cNil := ⟨_, zdA, fun B G H σ ρ cs ρ' Q I hm k => by cases hm; exact k G H [] [] I (Fz.refl G) rfl (by simp) (fun a m => by cases m)⟩
theorem sc_own (i : Nat) {p' : Pos} (hr : SP' X es r) (hN : X.N[i]? = some x := by rfl) (hv : Vis X.env.scope x := by first | exact Or.inl rfl | exact Or.inr (Or.inl rfl) | exact Or.inr (Or.inr rfl)) (hd : (x == ("__debug__" : Str)) = false := by decide)
  (hcd : (x == ("__classdict__" : Str)) = false := by decide) (hs : starEach (.Name x p' :: es) X.env = (false, eval (.Name x p') X.env) :: starEach es X.env := by rfl) : SP' X (.Name x p' :: es) (cOwn i r) := by
 obtain ⟨u, q, z⟩ := hr
 refine ⟨_, zbi (zbj hN hv hd hcd) q hs, fun B G H σ ρ cs ρ' Q I hm k => ?_⟩
 unfold cOwn at hm
 split at hm
 ·rename_i ds e
  obtain ⟨⟨cs1, ρ1⟩, e1, e2⟩ := zau hm
  cases e2
  obtain ⟨l, xs, h1, h2, h3, h4, h5⟩ := I.slot i _ e
  have I1 := I.emp i
  have n1 : Nw X.K G H σ (ρ.set i .emp) l := fun j s ej w => by
   by_cases y : j = i
   ·subst y
    rw [List.getElem?_set, if_pos rfl] at ej
    split at ej
    ·cases ej; exact w
    ·cases ej
   ·rw [List.getElem?_set_ne (Ne.symm y)] at ej
    exact I.dis j i s _ l y ej e w h1
  refine ⟨.ref l, h1, z (B.re X.K G H σ (ρ.set i .emp)) G H σ _ cs1 ρ1 _ I1.re e1 fun G1 H1 vs A J f1 r1 nd hA => ?_⟩
  obtain ⟨m1, m2, m3⟩ := I1.re_stays J h3 n1 h2 h5
  have hb : (B.re X.K G H σ (ρ.set i .emp)).H l = some (.lst xs) := zjN h3 n1
  have nl : l ∉ A := fun m => by rw [(hA l m).2.1] at hb; cases hb
  refine k G1 H1 (.ref l :: vs) (l :: A) (I1.unre J) f1 ⟨[l], A, ⟨l, xs, rfl, m1, h4.mono f1, rfl⟩, r1, rfl⟩ (List.nodup_cons.mpr ⟨nl, nd⟩) fun a m => ?_
  rcases List.mem_cons.mp m with rfl | m
  ·exact ⟨m2, h5, m3⟩
  ·exact ⟨(hA a m).1, zfN I1 (hA a m).2.1, (hA a m).2.2⟩
 ·cases hm
end
theorem SI.chgW2 {B : Bs} {G G' H H' : Hp} {σ : St} {ρ : R} (I : SI K B G H σ ρ) {i : Nat} {s : Sl} {ds es : List D} (e : ρ[i]? = some s) (q : s.items = some ds) (hl : σ[i]? = some (some (.ref l))) (fz : Fz G' H') (fg : Fz G G') (nw : ∀ b o, G' b = some o -> G b ≠ none \/ zdv H A b = none)
  (kp : ∀ b o, b ≠ l -> zdv H A b = some o -> H' b = some o) (gl : G' l = none) (hl' : H' l = some (.lst ys)) (r : RepL K G' ys es) (hA : ∀ a ∈ A, B.H a = none /\ Nw K G H σ ρ a) :
  SI K B G' H' σ (ρ.set i (s.put es)) /\ ∀ p, zdv H A p = none -> B.H p = none /\ Nw K G' H' σ (ρ.set i (s.put es)) p := by
 obtain ⟨l', xs, e1, e2, e3, e4⟩ := I.wr e q
 rw [hl] at e1; cases e1
 have sl := I.slot i s e
 have ow : ∀ (j : Nat) (t : Sl) (a : Addr), j ≠ i -> ρ[j]? = some t -> OwS K G H σ[j]? a t -> G a = none -> H a ≠ none -> G' a = none /\ H' a = H a := fun j t a z ej w g ha => by
  have na : a ≠ l := fun w' => by subst w'; exact I.dis j i t s a z ej e w ((zaE q).mpr hl)
  have nA : a ∉ A := fun m => (hA a m).2 j t ej w
  obtain ⟨u, hu⟩ := Option.ne_none_iff_exists'.mp ha
  refine ⟨?_, (kp a u na (by rw [zcV nA]; exact hu)).trans hu.symm⟩
  cases q2 : G' a with
  | none => rfl
  | some u =>
   rcases nw a u q2 with z | z
   ·exact absurd g z
   ·rw [zcV nA] at z; exact absurd z ha
 have bn : ∀ b, zdv H A b = none -> B.H b = none := fun b h => by
  rcases zgB h with z | z
  ·exact I.there b z
  ·exact (hA b z).1
 refine ⟨?_, fun p hp => ⟨bn p hp, fun j t ej w => ?_⟩⟩
 ·have nb : ∀ b o, B.H b = some o -> (∀ i, (i, b) ∉ B.O) -> b ≠ l := fun b o h1 h2 z => by
   subst z
   rcases (sl.own ((zaE q).mpr hl)).2.2 with z | z
   ·rw [h1] at z; cases z
   ·exact h2 i z
  have h := I.chg (i := i) (ov := some (.ref l)) (s' := s.put es) (G' := G') (H' := H') fz fg (fun b o k => ?_) (fun b o k1 k2 => kp b o (nb b o k1 k2) (by rw [zcV fun m => by rw [(hA b m).1] at k1; cases k1]; exact I.keep b o k1 k2)) (fun b k => ?_) (fun j t a z ej w g ha => ⟨(ow j t a z ej w g ha).1, (ow j t a z ej w g ha).2, fun z' => ?_⟩) ?_
  ·rwa [zhS hl] at h
  ·rcases nw b o k with h | h
   ·cases q2 : G b with
    | none => exact absurd q2 h
    | some u => exact I.new b u q2
   ·exact .inr (bn b h)
  ·by_cases z : b = l
   ·subst z; rw [hl'] at k; cases k
   ·refine bn b ?_
    cases q2 : zdv H A b with
    | none => rfl
    | some u => rw [kp b u z q2] at k; cases k
  ·cases (zaE (zds q es)).mp z'; exact I.dis j i t s l z ej e w ((zaE q).mpr hl)
  ·cases s with
   | own es' => obtain ⟨l', xs', k1, k2, k3, k4, k5⟩ := sl; rw [hl] at k1; cases k1; exact ⟨_, ys, rfl, gl, hl', r, k5⟩
   | par es' => obtain ⟨l', xs', k1, k2, k3, k4, k5⟩ := sl; rw [hl] at k1; cases k1; exact ⟨_, ys, rfl, gl, hl', r, k5⟩
   | _ => cases q
 ·by_cases z : j = i
  ·subst z
   rw [List.getElem?_set, if_pos rfl] at ej
   split at ej
   ·cases ej
    have h1 := (zaE (zds q es)).mp w
    rw [hl] at h1
    have : l = p := V.ref.inj (Option.some.inj (Option.some.inj h1))
    subst this
    rcases zgB hp with z | z
    ·rw [e3] at z; cases z
    ·exact (hA l z).2 j s e ((zaE q).mpr hl)
   ·cases ej
  ·rw [List.getElem?_set_ne (Ne.symm z)] at ej
   have sj := I.slot j t ej
   have w0 := sj.back (fun a w g h => ow j t a z ej w g h) w
   rcases zgB hp with y | y
   ·exact (sj.own w0).2.1 y
   ·exact (hA p y).2 j t ej w0
def zid (F : List D -> T -> List D -> Option (Sl × List D)) (j : Nat) (mp : MP') (ma : MA) : ME := fun ρ => if (ρ[j]?.bind Sl.items).isSome then (mp ρ).bind fun c => if c.1.length <= 16777216 then (ma c.2).bind fun p => p.2[j]?.bind fun s => s.items.bind fun cs => (F cs (.lst c.1) p.1).bind fun r => match r.1 with
 | .val d => some (d, p.2.set j (s.put r.2))
 | .own ds => some (.lst ds, p.2.set j (s.put r.2))
 | _ => none else none else none
section
variable {X : Cx} {x y : Str} {p py pl pos : Pos} {es es' : List Expr} {mp : MP'} {ma : MA} {k k' n : Nat} {F : List D -> T -> List D -> Option (Sl × List D)}
theorem zmm (j : Nat) (fd : FD X.prog X.w X.K X.mg X.base k x (spMT X.K n F)) (hr : Room k' X.A) (hp : SP' X es mp) (ha : SA X es' ma) (hlen : ∀ ρ as ρ', ma ρ = some (as, ρ') -> as.length + 2 = n) (hN : X.N[j]? = some y := by rfl) (hv : Vis X.env.scope y := by first | exact Or.inl rfl | exact Or.inr (Or.inl rfl) | exact Or.inr (Or.inr rfl)) (hd : (y == ("__debug__" : Str)) = false := by decide)
  (hcd : (y == ("__classdict__" : Str)) = false := by decide) (hk : k <= k' := by decide) (hg : Gl X x := by rfl) (hdb : (x == ("__debug__" : Str)) = false := by decide)
  (he : starEach (.Name y py :: .List es pl :: es') X.env = (false, eval (.Name y py) X.env) :: starEach (.List es pl :: es') X.env := by rfl) (he2 : starEach (.List es pl :: es') X.env = (false, eval (.List es pl) X.env) :: starEach es' X.env := by rfl) (hpl : (backTo pos (starEach (.List es pl :: es') X.env)).any (·.1) = false := by rfl) : SE X (.Call (.Name x p) (.Name y py :: .List es pl :: es') [] pos) (zid F j mp ma) := by
 obtain ⟨f, fdd, ps, G0, h1, h2, h3⟩ := fd.ex
 obtain ⟨t, pa, sa⟩ := ha
 obtain ⟨tp, pp, sp⟩ := hp
 refine ⟨_, zhy G0 (hr.mono hk) hg h1 h2 h3 .nil zmp (zbi (zbj hN hv hd hcd) (zbi (zl4 pp) pa he2) he) hdb he hpl, fun B G H σ ρ d ρ' Q I hm kk => ?_⟩
 unfold zid at hm
 split at hm
 ·rename_i hso
  obtain ⟨ds0, hso⟩ := Option.isSome_iff_exists.mp hso
  obtain ⟨s0, k0, q0⟩ := zac hso
  obtain ⟨l, xs0, w1, w2, w3, w4⟩ := I.wr k0 q0
  obtain ⟨⟨cs1, ρ1⟩, e1, hm⟩ := zac hm
  split at hm
  ·rename_i hsz
   obtain ⟨⟨as, ρ2⟩, e2, hm⟩ := zac hm
   obtain ⟨s, e3, hm⟩ := zac hm
   obtain ⟨cs, e4, hm⟩ := zac hm
   obtain ⟨⟨r, out⟩, e5, hm⟩ := zac hm
   refine ⟨.ref l, w1, sp B G H σ ρ cs1 ρ1 _ I e1 fun G1 H1 vs A I1 f1 r1 nd hA => ?_⟩
   have ln : ∀ {xs : List V} {cs : List Ch} {A : List Addr}, RepCs X.K G1 H1 xs cs A -> xs.length = cs.length := by
    intro xs
    induction xs with
    | nil => intro cs A r; cases cs with
     | nil => rfl
     | cons _ _ => exact r.elim
    | cons x xs ih => intro cs A r; cases cs with
     | nil => exact r.elim
     | cons c cs => obtain ⟨_, _, _, r2, _⟩ := r; rw [List.length_cons, List.length_cons, ih r2]
   refine ⟨by rw [ln r1, sizeLine_eq]; exact hsz, fun q hq => ?_⟩
   have I2 := I1.allocO hq (.lst vs)
   have mv : ∀ (i : Nat) (s : Sl) (a : Addr), ρ1[i]? = some s -> OwS X.K G1 H1 σ[i]? a s -> G1 a = none -> H1 a ≠ none -> G1 a = none /\ upd H1 q (.lst vs) a = H1 a := fun i s a _ _ g h => ⟨g, zap fun z => h (by rw [z]; exact hq)⟩
   have hA2 : ∀ a ∈ q :: A, G1 a = none /\ B.H a = none /\ Nw X.K G1 (upd H1 q (.lst vs)) σ ρ1 a /\ ∃ o, upd H1 q (.lst vs) a = some o := fun a m => by
    rcases List.mem_cons.mp m with rfl | m
    ·exact ⟨I1.fz.free hq, I1.there a hq, I1.nw_move (I1.nw hq) mv, _, zas⟩
    ·obtain ⟨ys, z⟩ := r1.here m
     exact ⟨(hA a m).1, (hA a m).2.1, I1.nw_move (hA a m).2.2 mv, _, by rw [zap fun y => by rw [y, hq] at z; cases z]; exact z⟩
   have nq : q ∉ A := fun m => by obtain ⟨ys, z⟩ := r1.here m; rw [hq] at z; cases z
   have rt : RepT X.K G1 (upd H1 q (.lst vs)) (.ref q) (.lst cs1) (q :: A) := ⟨q, vs, A, rfl, zas, r1.move (Fz.refl G1) fun a m => zap fun z => nq (by rw [<- z]; exact m), rfl⟩
   refine sa (B.re X.K G1 (upd H1 q (.lst vs)) σ ρ1) G1 _ σ ρ1 as ρ2 _ I2.re e2 fun G2 H2 ws J f2 r2 => ?_
   have I3 := I2.unre J
   have st : ∀ a ∈ q :: A, H2 a = upd H1 q (.lst vs) a /\ G2 a = none /\ Nw X.K G2 H2 σ ρ2 a := fun a m => by
    obtain ⟨a1, a2, a3, o, a4⟩ := hA2 a m
    obtain ⟨b1, b2, b3⟩ := I2.re_stays J a4 a3 a1 a2
    exact ⟨b1.trans a4.symm, b2, b3⟩
   obtain ⟨l', xs, m1, m2, m3, m4⟩ := I3.wr e3 e4
   rw [w1] at m1; cases m1
   show spMT X.K n F ((.ref l :: .ref q :: ws) ++ []) H2 Q E0
   rw [List.append_nil]
   have nl : l ∉ q :: A := fun m => (st l m).2.2 j s e3 ((zaE e4).mpr w1)
   refine ⟨G2, l, xs, cs, .ref q, .lst cs1, q :: A, ws, as, r, out, rfl, e5, hlen ρ1 as ρ2 e2, I3.fz, m2, m3, m4, rt.move f2 fun a m => (st a m).1, List.nodup_cons.mpr ⟨nq, nd⟩, nl, fun a m => (st a m).2.1, r2, fun G3 H3 v ys f3 fz3 nw kp gl hl r3 rr => ?_⟩
   obtain ⟨I4, fr⟩ := I3.chgW2 e3 e4 w1 fz3 f3 nw kp gl hl r3 fun a m => ⟨(hA2 a m).2.1, (st a m).2.2⟩
   cases r with
   | val d' => cases hm; exact kk G3 H3 v I4 (f1.trans (f2.trans f3)) rr
   | own ds =>
    cases hm
    obtain ⟨l', xs', rfl, g4, h4, r4, b4⟩ := rr
    obtain ⟨I5, f4, r5⟩ := zhT I4 g4 h4 r4 (fr l' b4).1 (fr l' b4).2
    exact kk _ H3 _ I5 (f1.trans (f2.trans (f3.trans f4))) r5
   | emp => cases hm
   | two _ _ => cases hm
   | tre _ => cases hm
   | ptr _ => cases hm
   | par _ => cases hm
  ·cases hm
 ·cases hm
end
theorem aLen2 {ma : MA} (h : aLen ma n) : ∀ ρ as ρ', ma ρ = some (as, ρ') -> as.length + 2 = n + 2 := fun ρ as ρ' e => by rw [h ρ as ρ' e]
end M
namespace M
open L2 PySem PySem.Spec
open PyProof.Rows hiding St
def Ch.D : Ch -> M.D
 | .d x => x
 | .l ds => .lst ds
 | .t xss => .lst (xss.map .lst)
section
variable {K : W.Frag} {B : Bs} {G G' H H' : Hp} {σ : St} {ρ : R}
theorem zcR : ∀ {xs : List V} {cs : List Ch} {A : List Addr}, RepCs K G H xs cs A -> xs.length = cs.length
 | [], [], _, _ => rfl
 | _ :: _, _ :: _, _, ⟨_, _, _, r, _⟩ => by rw [List.length_cons, List.length_cons, zcR r]
 | [], _ :: _, _, h => h.elim
 | _ :: _, [], _, h => h.elim
theorem zhK : ∀ {xs : List V} {cs : List Ch} {A : List Addr} {x : V} {c : Ch} {A' : List Addr}, RepCs K G H xs cs A -> RepC K G H x c A' -> RepCs K G H (xs ++ [x]) (cs ++ [c]) (A ++ A')
 | [], [], _, x, c, A', h, r => by rw [show _ = [] from h]; exact ⟨A', [], r, rfl, by simp⟩
 | y :: xs, d :: cs, _, x, c, A', ⟨A1, A2, r1, r2, e⟩, r => ⟨A1, A2 ++ A', r1, zhK r2 r, by rw [e, List.append_assoc]⟩
 | [], _ :: _, _, _, _, _, h, _ => h.elim
 | _ :: _, [], _, _, _, _, h, _ => h.elim
theorem zcK : ∀ {xs : List V} {cs : List Ch} {A : List Addr} {n : Nat} {c : Ch}, RepCs K G H xs cs A -> cs[n]? = some c -> ∃ x A1, xs[n]? = some x /\ RepC K G H x c A1 /\ ∀ a ∈ A1, a ∈ A
 | [], [], _, _, _, _, h => by simp at h
 | x :: xs, d :: cs, _, 0, c, ⟨A1, A2, r1, r2, e⟩, h => by simp at h; subst h; exact ⟨x, A1, rfl, r1, fun a m => by rw [e]; exact List.mem_append_left _ m⟩
 | x :: xs, d :: cs, _, n + 1, c, ⟨A1, A2, r1, r2, e⟩, h => by
  obtain ⟨y, B1, h1, h2, h3⟩ := zcK (n := n) r2 (by simpa using h)
  exact ⟨y, B1, by simpa using h1, h2, fun a m => by rw [e]; exact List.mem_append_right _ (h3 a m)⟩
 | [], _ :: _, _, _, _, h, _ => h.elim
 | _ :: _, [], _, _, _, h, _ => h.elim
theorem zgs : ∀ {xs : List V} {cs : List Ch} {A : List Addr} {n : Nat} {ds es : List D} {l : Addr} {ys : List V}, RepCs K G H xs cs A -> A.Nodup -> cs[n]? = some (.l ds) -> xs[n]? = some (.ref l) -> RepL K G ys es -> RepCs K G (upd H l (.lst ys)) xs (cs.set n (.l es)) A
 | [], [], _, _, _, _, _, _, _, _, h, _, _ => by simp at h
 | x :: xs, d :: cs, A, 0, ds, es, l, ys, ⟨A1, A2, r1, r2, e⟩, nd, h, hx, r => by
  simp at h hx; subst h hx
  obtain ⟨l', zs, e1, e2, e3, rfl⟩ := r1
  cases e1
  rw [e] at nd
  refine ⟨[l], A2, ⟨l, ys, rfl, zas, r, rfl⟩, r2.move (Fz.refl G) fun a m => zap fun z => ?_, e⟩
  subst z
  exact (List.nodup_append.mp nd).2.2 a (by simp) a m rfl
 | x :: xs, d :: cs, A, n + 1, ds, es, l, ys, ⟨A1, A2, r1, r2, e⟩, nd, h, hx, r => by
  rw [e] at nd
  have nd' := List.nodup_append.mp nd
  have h' : cs[n]? = some (.l ds) := by simpa using h
  have hx' : xs[n]? = some (.ref l) := by simpa using hx
  obtain ⟨y, B1, h1, ⟨l', zs, e1, e2, e3, e4⟩, h3⟩ := zcK r2 h'
  rw [hx'] at h1; cases h1; cases e1
  have lA : l ∈ A2 := h3 l (by rw [e4]; simp)
  exact ⟨A1, A2, r1.move (Fz.refl G) fun a m => zap fun z => by subst z; exact nd'.2.2 a m a lA rfl, zgs r2 nd'.2.1 h' hx' r, e⟩
 | [], _ :: _, _, _, _, _, _, _, h, _, _, _, _ => h.elim
 | _ :: _, [], _, _, _, _, _, _, h, _, _, _, _ => h.elim
theorem zkr {Gz : Hp} (fg : Fz G Gz) : ∀ {xs : List V} {dss : List (List D)} {A : List Addr}, RepTb K G H xs dss A -> (∀ a ∈ A, Gz a = H a) -> RepL K Gz xs (dss.map .lst)
 | [], [], _, _, _ => rfl
 | x :: xs, ds :: dss, _, ⟨r, ys, A2, e1, e2, e3, e4, e5⟩, h => ⟨x, xs, rfl, ⟨r, ys, e1, by rw [h r (by rw [e5]; simp)]; exact e2, e3.mono fg⟩, zkr fg e4 fun a m => h a (by rw [e5]; simp [m])⟩
 | [], _ :: _, _, h, _ => h.elim
 | _ :: _, [], _, h, _ => h.elim
theorem zge {Gz : Hp} (fg : Fz G Gz) : ∀ {xs : List V} {cs : List Ch} {A : List Addr}, RepCs K G H xs cs A -> (∀ a ∈ A, Gz a = H a) -> RepL K Gz xs (cs.map Ch.D)
 | [], [], _, _, _ => rfl
 | x :: xs, .d y :: cs, _, ⟨A1, A2, r1, r2, e⟩, h => ⟨x, xs, rfl, r1.1.mono fg, zge fg r2 fun a m => h a (by rw [e]; exact List.mem_append_right _ m)⟩
 | x :: xs, .l ds :: cs, _, ⟨A1, A2, ⟨l, ys, e1, e2, e3, e4⟩, r2, e⟩, h => ⟨x, xs, rfl, ⟨l, ys, e1, by rw [h l (by rw [e, e4]; simp)]; exact e2, e3.mono fg⟩, zge fg r2 fun a m => h a (by rw [e]; exact List.mem_append_right _ m)⟩
 | x :: xs, .t xss :: cs, _, ⟨A1, A2, ⟨p, ys, A3, e1, e2, e3, e4⟩, r2, e⟩, h => ⟨x, xs, rfl, ⟨p, ys, e1, by rw [h p (by rw [e, e4]; simp)]; exact e2, zkr fg e3 fun a m => h a (by rw [e, e4]; simp [m])⟩, zge fg r2 fun a m => h a (by rw [e]; exact List.mem_append_right _ m)⟩
 | [], _ :: _, _, h, _ => h.elim
 | _ :: _, [], _, h, _ => h.elim
theorem SI.chT2 (I : SI K B G H σ ρ) {i : Nat} {t t' : T} {v : V} {A A' : List Addr} (e : ρ[i]? = some (.tre t)) (hv : σ[i]? = some (some v)) (r : RepT K G H v t A) (fz : Fz G H') (kp : ∀ b o, b ∉ A -> H b = some o -> H' b = some o) (th : ∀ b, H' b = none -> H b = none)
  (r' : RepT K G H' v t' A') (nd : A'.Nodup) (sub : ∀ a ∈ A', a ∈ A \/ (G a = none /\ B.H a = none /\ Nw K G H σ ρ a)) : SI K B G H' σ (ρ.set i (.tre t')) := by
 obtain ⟨v1, A1, h1, h2, h3, h4⟩ := I.slot i _ e
 rw [hv] at h1; cases h1
 have : A1 = A := h2.det r fun _ _ => rfl
 subst this
 have h := I.chg (i := i) (ov := some v) (s' := .tre t') (G' := G) (H' := H') fz (Fz.refl G) I.new (fun b o k1 k2 => kp b o (fun m => by rw [(h4 b m).2] at k1; cases k1) (I.keep b o k1 k2)) (fun b k => I.there b (th b k)) (fun j u a z ej w g ha => ?_) ⟨v, A', rfl, r', nd, fun a m => ?_⟩
 ·rwa [zhS hv] at h
 ·have na : a ∉ A1 := fun m => I.dis j i u _ a z ej e w ⟨v, A1, hv, h2, m⟩
  obtain ⟨x, hx⟩ := Option.ne_none_iff_exists'.mp ha
  refine ⟨g, (kp a x na hx).trans hx.symm, fun w' => ?_⟩
  obtain ⟨v2, A2, k1, k2, k3⟩ := w'
  cases k1
  rw [k2.det r' fun _ _ => rfl] at k3
  rcases sub a k3 with z | z
  ·exact na z
  ·exact z.2.2 j u ej w
 ·rcases sub a m with z | z
  ·exact h4 a z
  ·exact ⟨z.1, z.2.1⟩
theorem nw_emp (I : SI K B G H σ ρ) {i : Nat} {s : Sl} {a : Addr} (e : ρ[i]? = some s) (w : OwS K G H σ[i]? a s) : Nw K G H σ (ρ.set i .emp) a := fun j t ej w' => by
 by_cases z : j = i
 ·subst z
  rw [List.getElem?_set, if_pos rfl] at ej
  split at ej
  ·cases ej; exact w'
  ·cases ej
 ·rw [List.getElem?_set_ne (Ne.symm z)] at ej
  exact I.dis j i t s a z ej e w' w
open Classical in
def frA (G H : Hp) (A : List Addr) : Hp := fun b => if b ∈ A then H b else G b
theorem ziM {G H : Hp} {A : List Addr} {b : Addr} (h : b ∈ A) : frA G H A b = H b := by unfold frA; rw [if_pos h]
theorem zik {G H : Hp} {A : List Addr} {b : Addr} (h : b ∉ A) : frA G H A b = G b := by unfold frA; rw [if_neg h]
theorem zmo {G H : Hp} {A : List Addr} (hA : ∀ a ∈ A, G a = none) : Fz G (frA G H A) := fun b o e => by
 rw [zik fun m => by rw [hA b m] at e; cases e]; exact e
theorem SI.frzA (I : SI K B G H σ ρ) {A : List Addr} (hA : ∀ a ∈ A, G a = none /\ B.H a = none /\ Nw K G H σ ρ a) : SI K B (frA G H A) H σ ρ :=
 I.move (fun a u q => by
  by_cases m : a ∈ A
  ·rw [ziM m] at q; exact q
  ·rw [zik m] at q; exact I.fz a u q) (zmo fun a m => (hA a m).1) (fun b u q => by
  by_cases m : b ∈ A
  ·exact .inr (hA b m).2.1
  ·rw [zik m] at q; exact I.new b u q) I.keep I.there (fun i s a e w g _ => ⟨by rw [zik fun m => (hA a m).2.2 i s e w]; exact g, rfl⟩)
end
def sTN (i : Nat) : MS := fun ρ => some (.next, ρ.set i (.tre (.lst [])))
def sTA (i j : Nat) : MS := fun ρ => match ρ[i]?, ρ[j]? with
 | some (.tre (.lst cs)), some (.own ds) => if cs.length < 16777216 then some (.next, (ρ.set j .emp).set i (.tre (.lst (cs ++ [.l ds])))) else none
 | _, _ => none
def sRT (i : Nat) : MS := fun ρ => match ρ[i]? with
 | some (.tre t) => some (.ret (.tre t), ρ.set i .emp)
 | _ => none
def zlb (F : List D -> Option Sl) (ma : MA) : ME := fun ρ => (ma ρ).bind fun p => (F p.1).bind fun r => match r with
 | .tre (.lst cs) => some (.lst (cs.map Ch.D), p.2)
 | _ => none
abbrev MQ := R -> Option D
def SQ (X : Cx) (e : Expr) (m : MQ) : Prop :=
 ∃ t, PE X e t /\ ∀ B G H σ ρ d (Q : VK), SI X.K B G H σ ρ -> m ρ = some d -> (∀ v, RepD X.K G v d -> Q v H) -> t σ H Q
def qC (d : D) : MQ := fun _ => some d
def qV (i : Nat) : MQ := fun ρ => match ρ[i]? with
 | some (.val d) => some d
 | _ => none
def eTI (j : Nat) (mi mk : MQ) : ME := fun ρ => (mi ρ).bind fun a => (mk ρ).bind fun b => match a, b, ρ[j]? with
 | .int n, .int m, some (.tre (.lst cs)) => (atI cs n).bind fun c => match c with
  | .l ds => (atI ds m).map fun d => (d, ρ)
  | _ => none
 | _, _, _ => none
def sTP (j : Nat) (mi mk : MQ) (me : ME) : MS := fun ρ => (me ρ).bind fun p => (mi p.2).bind fun a => (mk p.2).bind fun b => match a, b, p.2[j]? with
 | .int n, .int m, some (.tre (.lst cs)) => (ixN cs.length n).bind fun u => match cs[u]? with
  | some (.l ds) => (ixN ds.length m).bind fun w => some (.next, p.2.set j (.tre (.lst (cs.set u (.l (ds.set w p.1))))))
  | _ => none
 | _, _, _ => none
def fzT (j : Nat) (ρ : R) : R := match ρ[j]? with
 | some (.tre (.lst cs)) => ρ.set j (.val (.lst (cs.map Ch.D)))
 | _ => ρ
def sFzT (j : Nat) (m : MS) : MS := fun ρ => m (fzT j ρ)
section
variable {X : Cx} {x y : Str} {pos p' q' tpos : Pos}
theorem zlA (i : Nat) (hN : X.N.Nodup) (hi : X.N[i]? = some x := by rfl) (hx : Loc X.env.scope x := by first | exact Or.inl rfl | exact Or.inr rfl) (hs : swapsWith (.List [] tpos) (some (.Name x p')) pos.line X.env = pure false := by rfl)
    (hf : X.fn x = true \/ X.env.scope.names.lookup x = some .local := by first | exact Or.inl rfl | exact Or.inr rfl) : SS X (.Assign [.Name x p'] (.List [] tpos) pos) (sTN i) := by
  refine ⟨_, zkj hN hi hx (zl4 zdA) hs hf, fun B G H σ ρ fl ρ' E I hm k => ?_⟩
  cases hm
  refine ⟨by rw [sizeLine_eq]; exact Nat.zero_le _, fun p hp => ?_⟩
  have nw : Nw X.K G (upd H p (.lst [])) σ ρ p := I.nw_move (I.nw hp) fun i s a _ _ g h => ⟨g, zap fun z => h (by rw [z]; exact hp)⟩
  exact k G _ _ ((I.allocO hp _).setT (A := [p]) ⟨p, [], [], rfl, zas, rfl, rfl⟩ (by simp) (fun a m => by
    have : a = p := by simpa using m
    subst this
    exact ⟨I.fz.free hp, I.there a hp, nw⟩)) (Fz.refl G)
theorem ss_retT (i : Nat) (hN : X.N[i]? = some x := by rfl) (hv : Vis X.env.scope x := by first | exact Or.inl rfl | exact Or.inr (Or.inl rfl) | exact Or.inr (Or.inr rfl)) (hd : (x == ("__debug__" : Str)) = false := by decide)
  (hcd : (x == ("__classdict__" : Str)) = false := by decide) : SS X (.Return (some (.Name x p')) pos) (sRT i) := by
 refine ⟨_, zke (zbj hN hv hd hcd), fun B G H σ ρ fl ρ' E I hm k => ?_⟩
 unfold sRT at hm
 split at hm
 ·rename_i t e
  cases hm
  obtain ⟨v, A, h1, h2, h3, h4⟩ := I.slot i _ e
  exact ⟨v, h1, k G H σ v (I.emp i) (Fz.refl G) ⟨A, h2, h3, h4⟩⟩
 ·cases hm
variable {e : Expr} {es : List Expr} {ma : MA} {k k' n : Nat} {F : List D -> Option Sl}
theorem se_callT {z : Str} {p : Pos} (fd : FD X.prog X.w X.K X.mg X.base k z (spP X.K n F)) (hr : Room k' X.A) (ha : SA X (e :: es) ma) (hlen : ∀ ρ as ρ', ma ρ = some (as, ρ') -> as.length = n) (hk : k <= k' := by decide) (hg : Gl X z := by rfl) (hdb : (z == ("__debug__" : Str)) = false := by decide)
  (he : starEach (e :: es) X.env = (false, eval e X.env) :: starEach es X.env := by rfl) (hpl : (backTo pos (starEach es X.env)).any (·.1) = false := by rfl) : SE X (.Call (.Name z p) (e :: es) [] pos) (zlb F ma) := by
 obtain ⟨f, fdd, ps, G0, h1, h2, h3⟩ := fd.ex
 obtain ⟨t, pa, sa⟩ := ha
 refine ⟨_, zhy G0 (hr.mono hk) hg h1 h2 h3 .nil zmp pa hdb he hpl, fun B G H σ ρ d ρ' Q I hm kk => ?_⟩
 obtain ⟨⟨as, ρ1⟩, e1, hm⟩ := zac hm
 obtain ⟨r, e2, hm⟩ := zac hm
 refine sa B G H σ ρ as ρ1 _ I e1 fun G1 H1 vs I1 f1 r1 => ?_
 show spP X.K n F (vs ++ []) H1 Q E0
 rw [List.append_nil]
 refine ⟨G1, as, r, e2, hlen ρ as ρ1 e1, I1.fz, r1, fun G2 H2 v f2 fz2 nw kp rr => ?_⟩
 have I2 := I1.grow f2 fz2 nw kp
 split at hm
 ·rename_i cs
  cases hm
  obtain ⟨A, q1, q2, q3⟩ := rr
  have hA : ∀ a ∈ A, G2 a = none /\ B.H a = none /\ Nw X.K G2 H2 σ ρ1 a := fun a m => ⟨(q3 a m).1, I1.there a (q3 a m).2, I1.own_ne (q3 a m).2 nw kp⟩
  obtain ⟨p, xs, A', rfl, g1, g2, rfl⟩ := q1
  have fg := zmo (H := H2) fun a m => (hA a m).1
  exact kk (frA G2 H2 (p :: A')) H2 _ (I2.frzA hA) (f1.trans (f2.trans fg)) ⟨p, xs, rfl, by rw [ziM (by simp)]; exact g1, zge fg g2 fun a m => ziM (by simp [m])⟩
 ·cases hm
theorem SI.fzT {K : W.Frag} {B : Bs} {G H : Hp} {σ : St} {ρ : R} (I : SI K B G H σ ρ) (j : Nat) : ∃ G', SI K B G' H σ (fzT j ρ) /\ Fz G G' := by
 unfold M.fzT
 split
 ·rename_i cs e
  obtain ⟨v, A, h1, h2, h3, h4⟩ := I.slot j _ e
  have h2' := h2
  obtain ⟨p, xs, A', rfl, g1, g2, rfl⟩ := h2
  have I1 := I.emp j
  have hA : ∀ a ∈ p :: A', G a = none /\ B.H a = none /\ Nw K G H σ (ρ.set j .emp) a := fun a m => ⟨(h4 a m).1, (h4 a m).2, nw_emp I e ⟨_, _, h1, h2', m⟩⟩
  have fg := zmo (H := H) fun a m => (hA a m).1
  have I2 := (I1.frzA hA).set (i := j) (v := .ref p) (d := .lst (cs.map Ch.D)) ⟨p, xs, rfl, by rw [ziM (by simp)]; exact g1, zge fg g2 fun a m => ziM (by simp [m])⟩
  rw [zhS h1, List.set_set] at I2
  exact ⟨_, I2, fg⟩
 ·exact ⟨G, I, Fz.refl G⟩
theorem zhQ {st : Stmt} {m : MS} (j : Nat) (h : SS X st m) : SS X st (sFzT j m) := by
 obtain ⟨t, p, s⟩ := h
 refine ⟨t, p, fun B G H σ ρ fl ρ' E I hm k => ?_⟩
 obtain ⟨G', I', f⟩ := I.fzT j
 exact s B G' H σ _ fl ρ' E I' hm (k.mono f)
theorem sq_int {i : Int} {j} : SQ X (.Constant (.int i) j pos) (qC (.int i)) := ⟨_, zlU, fun B G H σ ρ d Q I hm k => by cases hm; exact k _ rfl⟩
theorem zar (i : Nat) (hN : X.N[i]? = some x := by rfl) (hv : Vis X.env.scope x := by first | exact Or.inl rfl | exact Or.inr (Or.inl rfl) | exact Or.inr (Or.inr rfl)) (hd : (x == ("__debug__" : Str)) = false := by decide)
  (hcd : (x == ("__classdict__" : Str)) = false := by decide) : SQ X (.Name x pos) (qV i) := by
 refine ⟨_, zbj hN hv hd hcd, fun B G H σ ρ d Q I hm k => ?_⟩
 unfold qV at hm
 split at hm
 ·rename_i d' e
  cases hm
  obtain ⟨v, h1, h2⟩ := I.slot i _ e
  exact ⟨v, h1, k v h2⟩
 ·cases hm
theorem at_ixN {α : Type} {xs : List α} {n : Int} {c : α} (h : atI xs n = some c) : ∃ u, ixN xs.length n = some u /\ xs[u]? = some c := by
 unfold atI at h
 obtain ⟨u, h1, h2⟩ := zac h
 exact ⟨u, h1, h2⟩
theorem ziL {α : Type} {xs : List α} {n : Int} {c : α} {u : Nat} (h : ixN xs.length n = some u) (h2 : xs[u]? = some c) : atI xs n = some c := by
 unfold atI; rw [h]; exact h2
variable {a b : Expr} {mi mk : MQ}
theorem zdr (j : Nat) (ha : SQ X a mi) (hb : SQ X b mk) (hN : X.N[j]? = some x := by rfl) (hv : Vis X.env.scope x := by first | exact Or.inl rfl | exact Or.inr (Or.inl rfl) | exact Or.inr (Or.inr rfl)) (hd : (x == ("__debug__" : Str)) = false := by decide)
    (hcd : (x == ("__classdict__" : Str)) = false := by decide) (hs : zb7 a := by exact fun _ _ => rfl) (hs2 : zb7 b := by exact fun _ _ => rfl) : SE X (.Subscript (.Subscript (.Name x p') a q') b pos) (eTI j mi mk) := by
  obtain ⟨ta, pa, sa⟩ := ha
  obtain ⟨tb, pb, sb⟩ := hb
  refine ⟨_, zil ix_list (zil ix_list (zbj hN hv hd hcd) pa hs) pb hs2, fun B G H σ ρ d ρ' Q I hm k => ?_⟩
  obtain ⟨va, e1, hm⟩ := zac hm
  obtain ⟨vb, e2, hm⟩ := zac hm
  obtain ⟨n, rfl⟩ : ∃ n, va = .int n := by cases va <;> first | exact ⟨_, rfl⟩ | cases hm
  obtain ⟨m, rfl⟩ : ∃ m, vb = .int m := by cases vb <;> first | exact ⟨_, rfl⟩ | cases hm
  obtain ⟨cs, e⟩ : ∃ cs, ρ[j]? = some (.tre (.lst cs)) := by
    cases e : ρ[j]? with
    | none => rw [e] at hm; cases hm
    | some s =>
      rw [e] at hm
      cases s with
      | tre t => cases t with
        | lst cs => exact ⟨cs, rfl⟩
        | _ => cases hm
      | _ => cases hm
  rw [e] at hm
  obtain ⟨c, e3, hm⟩ := zac hm
  obtain ⟨ds, rfl⟩ : ∃ ds, c = .l ds := by cases c <;> first | exact ⟨_, rfl⟩ | cases hm
  obtain ⟨d', e4, e5⟩ := zau hm
  cases e5
  obtain ⟨v, A, h1, ⟨p, xs, A', rfl, g1, g2, rfl⟩, h3, h4⟩ := I.slot j _ e
  obtain ⟨u, i1, i2⟩ := at_ixN e3
  obtain ⟨y, A1, j1, ⟨l, ys, rfl, j2, j3, -⟩, -⟩ := zcK g2 i2
  obtain ⟨w, k1, k2⟩ := j3.at e4
  refine ⟨.ref p, h1, sa B G H σ ρ _ _ I e1 fun v1 r1 => ?_⟩
  refine ⟨p, xs, n, .ref l, rfl, r1, SqL.of g1, ziL (by rw [zcR g2]; exact i1) j1, sb B G H σ ρ _ _ I e2 fun v2 r2 => ?_⟩
  exact ⟨l, ys, m, w, rfl, r2, SqL.of j2, k1, k G H w I (Fz.refl G) k2⟩
theorem zcT (j : Nat) {me : ME} (he : SE X e me) (ha : SQ X a mi) (hb : SQ X b mk) (hN : X.N[j]? = some x := by rfl) (hv : Vis X.env.scope x := by first | exact Or.inl rfl | exact Or.inr (Or.inl rfl) | exact Or.inr (Or.inr rfl)) (hd : (x == ("__debug__" : Str)) = false := by decide)
  (hcd : (x == ("__classdict__" : Str)) = false := by decide) (hsa : zb7 a := by exact fun _ _ => rfl)
  (hq : ∀ v, assign (.Subscript (.Subscript (.Name x p') a q') b tpos) X.env v = (do
   let ov <- holding [v] (eval (.Subscript (.Name x p') a q') X.env)
   let iv <- holding [v, ov] (eval b X.env)
   standAt tpos
   holding [v, ov, iv] (setItem ov iv v)
   release [v, ov, iv] []) := by exact fun _ => rfl)
  (hs : swapsWithSole [.Subscript (.Subscript (.Name x p') a q') b tpos] e pos.line X.env = pure false := by rfl) (hw : swappedStores [.Subscript (.Subscript (.Name x p') a q') b tpos] e X.env = pure none := by rfl)
  (h1 : (assignEach [.Subscript (.Subscript (.Name x p') a q') b tpos] X.env).map (·.2) = [assign (.Subscript (.Subscript (.Name x p') a q') b tpos) X.env] := by rfl) : SS X (.Assign [.Subscript (.Subscript (.Name x p') a q') b tpos] e pos) (sTP j mi mk me) := by
 obtain ⟨t, p, s⟩ := he
 obtain ⟨ta, pa, sa⟩ := ha
 obtain ⟨tb, pb, sb⟩ := hb
 refine ⟨_, zjh p (zmn (zil ix_list (zbj hN hv hd hcd) pa hsa) pb zg1 hq) hs hw h1, fun B G H σ ρ fl ρ' E I hm k => ?_⟩
 obtain ⟨⟨d, ρ1⟩, e1, hm⟩ := zac hm
 obtain ⟨va, e2, hm⟩ := zac hm
 obtain ⟨vb, e3, hm⟩ := zac hm
 refine s B G H σ ρ d ρ1 _ I e1 fun G1 H1 v I1 f1 r1 => ?_
 dsimp only at hm e2 e3
 obtain ⟨n, rfl⟩ : ∃ n, va = .int n := by cases va <;> first | exact ⟨_, rfl⟩ | cases hm
 obtain ⟨m, rfl⟩ : ∃ m, vb = .int m := by cases vb <;> first | exact ⟨_, rfl⟩ | cases hm
 obtain ⟨cs, e4⟩ : ∃ cs, ρ1[j]? = some (.tre (.lst cs)) := by
  cases e : ρ1[j]? with
  | none => rw [e] at hm; cases hm
  | some s =>
   rw [e] at hm
   cases s with
   | tre t => cases t with
    | lst cs => exact ⟨cs, rfl⟩
    | _ => cases hm
   | _ => cases hm
 rw [e4] at hm
 obtain ⟨u, e5, hm⟩ := zac hm
 obtain ⟨ds, e6⟩ : ∃ ds, cs[u]? = some (.l ds) := by
  cases e : cs[u]? with
  | none => rw [e] at hm; cases hm
  | some c =>
   rw [e] at hm
   cases c with
   | l ds => exact ⟨ds, rfl⟩
   | _ => cases hm
 rw [e6] at hm
 obtain ⟨w, e7, hm⟩ := zac hm
 cases hm
 obtain ⟨v0, A, q1, q2, q3, q4⟩ := I1.slot j _ e4
 have q2' := q2
 obtain ⟨p, xs, A', rfl, g1, g2, rfl⟩ := q2
 obtain ⟨y, A1, j1, ⟨l, ys, rfl, j2, j3, j4⟩, j5⟩ := zcK g2 e6
 have lA : l ∈ A' := j5 l (by rw [j4]; simp)
 have nd := List.nodup_cons.mp q3
 refine ⟨.ref p, q1, sa B G1 H1 σ ρ1 _ _ I1 e2 fun v1 w1 => ?_⟩
 refine ⟨p, xs, n, .ref l, rfl, w1, SqL.of g1, ziL (by rw [zcR g2]; exact e5) j1, sb B G1 H1 σ ρ1 _ _ I1 e3 fun v2 w2 => ?_⟩
 refine ⟨l, ys, m, w, rfl, w2, j2, by rw [j3.length]; exact e7, ?_⟩
 have rep : RepT X.K G1 (upd H1 l (.lst (ys.set w v))) (.ref p) (.lst (cs.set u (.l (ds.set w d)))) (p :: A') :=
  ⟨p, xs, A', rfl, by rw [zap fun z => nd.1 (by rw [z]; exact lA)]; exact g1, zgs g2 nd.2 e6 j1 (j3.set w r1), rfl⟩
 refine k G1 _ σ (I1.chT2 e4 q1 q2' (I1.fz.right (q4 l (by simp [lA])).1 _) (fun b o nb h => by rw [zap (fun z => nb (by rw [z]; simp [lA]))]; exact h) (fun b h => ?_) rep q3 fun a m => .inl m) f1
 by_cases z : b = l
 ·subst z; rw [zas] at h; cases h
 ·rw [zap z] at h; exact h
end
end M
namespace M
local macro_rules | `(tactic| ac_rfl) => `(tactic| first | exact M.nA (by decide) | exact M.nB (by decide) | exact M.nC (by decide) | exact M.nL (by assumption) | exact Nat.ne_of_lt (by assumption) | omega)
open L2 PySem PySem.Spec
open PyProof.Rows hiding St
open Sem (wp)
variable {a b u : Value} {Q E : Value -> Shared -> Prop} {i : Nat} {prog : Program} {w : World} {A : Around} {s : Shared} {tg : Expr} {K : W.Frag} {X : Cx} {p pos : Pos}
abbrev zdI (h : Heap) (z TI TO : Addr) (f0 : Value) (b : Bool) : Prop := h.get? z = some { cls := .type "zip", data := .fields #[f0, .bool b, .bool false, .ref TI, .ref TO] }
def ZipAt (h : Heap) (z TI TO : Addr) : Prop := ∃ f0 b, zdI h z TI TO f0 b /\ (f0 = .none \/ ∃ T : Nat, f0 = rawInt T)
section
variable {prog : Program} {w : World} {A : Around} {E : Value -> Shared -> Prop} {s : Shared}
theorem zmj {a : Addr} {Q : Option Obj -> Shared -> Prop} (h : Q (s.heap.get? a) s) : wpAny (model prog w) A (loadIfAlive a) Q E s := fun Γ p hΓ => by
 show Sem.wp _ _ (Sem.loadIfAlive a Sem.pure) _ _ p s
 rw [Sem.wp_loadIfAlive]
 exact (wpAny_pure (M := model prog w) (A := A) (E := E) h) Γ p hΓ
theorem zl8 {z TI TO : Addr} {f0 : Value} {b : Bool} (hz : zdI s.heap z TI TO f0 b) (hf : f0 = .none \/ ∃ T : Nat, f0 = rawInt T) {Q : Bool -> Shared -> Prop} (h1 : Q true s)
  (h2 : ∀ h', zdI h' z TI TO f0 true -> Heap.SameBut z s.heap h' -> Q false { s with heap := h' }) : wpAny (model prog w) A (Builtin.SmallTypes.ownedTupleIsFree (.ref z)) Q E s := by
 unfold Builtin.SmallTypes.ownedTupleIsFree
 refine wpAny_bind (wpAny_field hz rfl (x := f0) rfl ?_)
 rcases hf with rfl | ⟨T, rfl⟩
 ·exact wpAny_pure h1
 ·refine (?_ : wpAny _ _ (loadIfAlive _ >>= _) _ _ _)
  refine wpAny_bind (zmj ?_)
  cases e : s.heap.get? (T : Int).toNat with
  | none => exact wpAny_pure h1
  | some o =>
   refine (?_ : wpAny _ _ (field (.ref z) 1 >>= _) _ _ _)
   refine wpAny_bind (wpAny_field hz rfl (x := .bool b) rfl ?_)
   cases b
   ·refine (?_ : wpAny _ _ (setField (.ref z) 1 (.bool true) >>= _) _ _ _)
    exact wpAny_bind (wpAny_setField_rec hz (by simp) fun g1 z1 s1 => wpAny_pure (h2 g1 z1 s1))
   ·exact wpAny_pure (h2 s.heap hz ⟨rfl, fun _ _ => rfl⟩)
variable {N a1 a2 : Nat} {n1 n2 : Nat} {P1 P2 : Nat -> Value -> Prop} {S1 S2 : Nat -> Heap -> Prop}
theorem zkX (D1 : Draws prog w A N [N, a1] n1 P1 S1) (D2 : Draws prog w A (N + 1) [N + 1, a2] n2 P2 S2) (l1 : a1 < N) (l2 : a2 < N)
  (hz' : ZipAt s.heap (N + 4) (N + 2) (N + 3)) (hTI : IsPair s.heap (N + 2) (.ref N) (.ref (N + 1))) (hTO : IsPair s.heap (N + 3) a b) (h1 : S1 i s.heap) (h2 : S2 i s.heap) (i1 : i < n1) (i2 : i < n2)
  (k : ∀ x y h' tk, P1 i x -> P2 i y -> ZipAt h' (N + 4) (N + 2) (N + 3) -> (∃ a b, IsPair h' (N + 3) a b) -> S1 (i + 1) h' -> S2 (i + 1) h' -> IsPair h' s.heap.objs.size x y ->
   (∀ c o, c ≠ N -> c ≠ N + 1 -> c ≠ N + 3 -> c ≠ N + 4 -> s.heap.get? c = some o -> h'.get? c = some o) -> Q (.ref s.heap.objs.size) { s with heap := h', toks := tk }) :
  wpAny (model prog w) A (Builtin.«zip.__next__» ⟨[.ref (N + 4)], []⟩) (fun fin s' => ∃ v, fin = .done (.ret v) /\ Q v s') E s := by
 obtain ⟨f0, bb, hz, hf⟩ := hz'
 refine (?_ : wpAny _ _ (field (.ref (N + 4)) 2 >>= _) _ _ _)
 refine wpAny_bind (wpAny_field hz rfl (x := .bool false) rfl (?_ : wpAny _ _ (field (.ref (N + 4)) 3 >>= _) _ _ _))
 refine wpAny_bind (wpAny_field hz rfl (x := .ref (N + 2)) rfl (wpAny_bind (wpAny_seqItems hTI rfl (?_ : wpAny _ _ (Builtin.SmallTypes.ownedTupleIsFree (.ref (N + 4)) >>= _) _ _ _))))
 refine wpAny_bind (zl8 hz hf ?_ fun g0 z0 s0 => ?_)
 ·simp only [if_true]
  refine wpAny_bind (wpAny_rule (wpAny_bind (wpAny_field hz rfl (x := .ref (N + 3)) rfl (wpAny_bind (wpAny_setField_rec hz (by simp) fun g1 z1 s1 => wpAny_bind ?_)))))
  replace z1 : zdI g1 (N + 4) (N + 2) (N + 3) .ellipsis bb := z1
  simp only [List.zipIdx_cons, List.zipIdx_nil, List.forIn_cons, List.forIn_nil]
  refine wpAny_bind (wpAny_bind (wpAny_onRaise (?_ : wpAny _ _ (Builtin.SmallTypes.nextOf (.ref N) >>= _) _ _ _)))
  have e1 : S1 i g1 := D1.frame _ _ _ h1 fun b hb o e => (s1.2 b (nin2 hb (by ac_rfl) (by ac_rfl))).trans e
  refine wpAny_bind (D1.item i _ _ _ i1 e1 fun x g2 t2 p1 f2 s2 => wpAny_pure ?_)
  have q2 : IsPair g2 (N + 3) a b := (s2.2 _ (ne_ (by ac_rfl))).trans ((s1.2 _ (ne_ (by ac_rfl))).trans hTO)
  refine wpAny_bind (wpAny_seqItems q2 rfl (wpAny_bind (wpAny_updateSeq_pair q2 fun g3 q3 s3 => wpAny_bind (wpAny_letGo (wpAny_pure ?_)))))
  replace q3 : IsPair g3 (N + 3) x b := q3
  refine wpAny_bind (wpAny_bind (wpAny_onRaise (?_ : wpAny _ _ (Builtin.SmallTypes.nextOf (.ref (N + 1)) >>= _) _ _ _)))
  have e3 : S2 i g3 := D2.frame _ _ _ h2 fun b hb o e => (s3.2 b (nin2 hb (by ac_rfl) (by ac_rfl))).trans ((s2.2 b (nin2 hb (by ac_rfl) (by ac_rfl))).trans ((s1.2 b (nin2 hb (by ac_rfl) (by ac_rfl))).trans e))
  refine wpAny_bind (D2.item i _ _ _ i2 e3 fun y g4 t4 p2 f4 s4 => wpAny_pure ?_)
  have q4 : IsPair g4 (N + 3) x b := (s4.2 _ (ne_ (by ac_rfl))).trans q3
  refine wpAny_bind (wpAny_seqItems q4 rfl (wpAny_bind (wpAny_updateSeq_pair q4 fun g5 q5 s5 => wpAny_bind (wpAny_letGo (wpAny_pure (wpAny_pure ?_))))))
  replace q5 : IsPair g5 (N + 3) x y := q5
  have sz : g5.objs.size = s.heap.objs.size := by rw [s5.1, s4.1, s3.1, s2.1, s1.1]
  have z5 : zdI g5 (N + 4) (N + 2) (N + 3) .ellipsis bb := (s5.2 _ (ne_ (by ac_rfl))).trans ((s4.2 _ (ne_ (by ac_rfl))).trans ((s3.2 _ (ne_ (by ac_rfl))).trans ((s2.2 _ (ne_ (by ac_rfl))).trans z1)))
  have zl : (N + 4 : Nat) < g5.objs.size := Heap.lt_size z5
  have k5 : ∀ c o, c ≠ N -> c ≠ N + 1 -> c ≠ N + 3 -> c ≠ N + 4 -> s.heap.get? c = some o -> g5.get? c = some o := fun c o c1 c2 c3 c4 e => (s5.2 c c3).trans ((s4.2 c c2).trans ((s3.2 c c3).trans ((s2.2 c c1).trans ((s1.2 c c4).trans e))))
  have f5 : S1 (i + 1) g5 := D1.frame _ _ _ f2 fun b hb o e => (s5.2 b (nin2 hb (by ac_rfl) (by ac_rfl))).trans ((s4.2 b (nin2 hb (by ac_rfl) (by ac_rfl))).trans ((s3.2 b (nin2 hb (by ac_rfl) (by ac_rfl))).trans e))
  have f5' : S2 (i + 1) g5 := D2.frame _ _ _ f4 fun b hb o e => (s5.2 b (nin2 hb (by ac_rfl) (by ac_rfl))).trans e
  refine wpAny_bind (wpAny_seqItems q5 rfl (wpAny_bind (wpAny_newTuple (?_ : wpAny _ _ (Builtin.SmallTypes.ownedTupleHandOut (.ref (N + 4)) (.ref g5.objs.size) >>= _) _ _ _))))
  refine wpAny_bind ?_
  unfold Builtin.SmallTypes.ownedTupleHandOut
  refine wpAny_bind (wpAny_setField_rec (show zdI (g5.push { cls := .type "tuple", data := .seq #[x, y] }) (N + 4) (N + 2) (N + 3) .ellipsis bb from Heap.get?_push_of_some _ z5) (by simp) fun g7 z7 s7 => ?_)
  replace z7 : zdI g7 (N + 4) (N + 2) (N + 3) (rawInt g5.objs.size) bb := z7
  refine wpAny_setField_rec z7 (by simp) fun g8 z8 s8 => wpAny_pure ⟨_, rfl, ?_⟩
  replace z8 : zdI g8 (N + 4) (N + 2) (N + 3) (rawInt g5.objs.size) false := z8
  have up : ∀ c o, c ≠ N + 4 -> g5.get? c = some o -> g8.get? c = some o := fun c o c1 e => (s8.2 c c1).trans ((s7.2 c c1).trans (Heap.get?_push_of_some _ e))
  have T8 : IsPair g8 g5.objs.size x y := (s8.2 _ (ne_ (by ac_rfl))).trans ((s7.2 _ (ne_ (by ac_rfl))).trans (Heap.get?_push_size _ rfl))
  rw [sz] at z8 T8
  refine (?_ : Q (.ref g5.objs.size) _)
  rw [sz]
  exact k x y g8 _ p1 p2 ⟨_, _, z8, .inr ⟨_, rfl⟩⟩ ⟨_, _, up _ _ (ne_ (by ac_rfl)) q5⟩ (D1.frame _ _ _ f5 fun b hb o e => up b o (nin2 hb (by ac_rfl) (by ac_rfl)) e) (D2.frame _ _ _ f5' fun b hb o e => up b o (nin2 hb (by ac_rfl) (by ac_rfl)) e) T8 fun c o c1 c2 c3 c4 e => up c o c4 (k5 c o c1 c2 c3 c4 e)
 ·simp only [Bool.false_eq_true, if_false]
  simp only [List.forIn_toArray, List.forIn_cons, List.forIn_nil]
  have e0 : S1 i g0 := D1.frame _ _ _ h1 fun b hb o e => (s0.2 b (nin2 hb (by ac_rfl) (by ac_rfl))).trans e
  refine wpAny_bind (wpAny_bind (wpAny_bind (wpAny_holding (?_ : wpAny _ _ (Builtin.SmallTypes.nextOf (.ref N) >>= _) _ _ _))))
  refine wpAny_bind (D1.item i _ _ _ i1 e0 fun x g2 t2 p1 f2 s2 => wpAny_pure (wpAny_pure ?_))
  refine wpAny_bind (wpAny_bind (wpAny_holding (?_ : wpAny _ _ (Builtin.SmallTypes.nextOf (.ref (N + 1)) >>= _) _ _ _)))
  have e3 : S2 i g2 := D2.frame _ _ _ h2 fun b hb o e => (s2.2 b (nin2 hb (by ac_rfl) (by ac_rfl))).trans ((s0.2 b (nin2 hb (by ac_rfl) (by ac_rfl))).trans e)
  refine wpAny_bind (D2.item i _ _ _ i2 e3 fun y g4 t4 p2 f4 s4 => wpAny_pure (wpAny_pure (wpAny_pure ?_)))
  have sz : g4.objs.size = s.heap.objs.size := by rw [s4.1, s2.1, s0.1]
  have z4 : zdI g4 (N + 4) (N + 2) (N + 3) f0 true := (s4.2 _ (ne_ (by ac_rfl))).trans ((s2.2 _ (ne_ (by ac_rfl))).trans z0)
  have f4' : S1 (i + 1) g4 := D1.frame _ _ _ f2 fun b hb o e => (s4.2 b (nin2 hb (by ac_rfl) (by ac_rfl))).trans e
  refine (?_ : wpAny _ _ (newTuple [x, y] >>= _) _ _ _)
  refine wpAny_bind (wpAny_newTuple (wpAny_pure ⟨_, rfl, ?_⟩))
  have k5 : ∀ c o, c ≠ N -> c ≠ N + 1 -> c ≠ N + 3 -> c ≠ N + 4 -> s.heap.get? c = some o -> g4.get? c = some o := fun c o c1 c2 c3 c4 e => (s4.2 c c2).trans ((s2.2 c c1).trans ((s0.2 c c4).trans e))
  have q4 : IsPair g4 (N + 3) a b := (s4.2 _ (ne_ (by ac_rfl))).trans ((s2.2 _ (ne_ (by ac_rfl))).trans ((s0.2 _ (ne_ (by ac_rfl))).trans hTO))
  have T8 : IsPair (g4.push { cls := .type "tuple", data := .seq #[x, y] }) g4.objs.size x y := Heap.get?_push_size _ rfl
  rw [sz] at T8
  refine (?_ : Q (.ref g4.objs.size) _)
  rw [sz]
  exact k x y _ _ p1 p2 ⟨_, _, Heap.get?_push_of_some _ z4, hf⟩ ⟨_, _, Heap.get?_push_of_some _ q4⟩ (D1.frame _ _ _ f4' fun b hb o e => Heap.get?_push_of_some _ e) (D2.frame _ _ _ f4 fun b hb o e => Heap.get?_push_of_some _ e) T8 fun c o c1 c2 c3 c4 e => Heap.get?_push_of_some _ (k5 c o c1 c2 c3 c4 e)
theorem zlq {Q : Fin -> Shared -> Prop} (D1 : Draws prog w A N [N, a1] n1 P1 S1) (D2 : Draws prog w A (N + 1) [N + 1, a2] n2 P2 S2) (l1 : a1 < N) (l2 : a2 < N)
  (hz' : ZipAt s.heap (N + 4) (N + 2) (N + 3)) (hTI : IsPair s.heap (N + 2) (.ref N) (.ref (N + 1))) (hTO : IsPair s.heap (N + 3) a b) (h1 : S1 i s.heap) (h2 : S2 i s.heap) (hi : i = n1 \/ (i < n1 /\ i = n2))
  (k : ∀ h' e tk, (∀ c o, c ≠ N -> c ≠ N + 1 -> c ≠ N + 3 -> c ≠ N + 4 -> s.heap.get? c = some o -> h'.get? c = some o) -> (∃ o, h'.get? e = some o /\ o.cls = .type "StopIteration") -> E (.ref e) { s with heap := h', toks := tk }) :
  wpAny (model prog w) A (Builtin.«zip.__next__» ⟨[.ref (N + 4)], []⟩) Q E s := by
 obtain ⟨f0, bb, hz, hf⟩ := hz'
 refine (?_ : wpAny _ _ (field (.ref (N + 4)) 2 >>= _) _ _ _)
 refine wpAny_bind (wpAny_field hz rfl (x := .bool false) rfl (?_ : wpAny _ _ (field (.ref (N + 4)) 3 >>= _) _ _ _))
 refine wpAny_bind (wpAny_field hz rfl (x := .ref (N + 2)) rfl (wpAny_bind (wpAny_seqItems hTI rfl (?_ : wpAny _ _ (Builtin.SmallTypes.ownedTupleIsFree (.ref (N + 4)) >>= _) _ _ _))))
 refine wpAny_bind (zl8 hz hf ?_ fun g0 z0 s0 => ?_)
 ·simp only [if_true]
  refine wpAny_bind (wpAny_rule (wpAny_bind (wpAny_field hz rfl (x := .ref (N + 3)) rfl (wpAny_bind (wpAny_setField_rec hz (by simp) fun g1 z1 s1 => wpAny_bind ?_)))))
  replace z1 : zdI g1 (N + 4) (N + 2) (N + 3) .ellipsis bb := z1
  simp only [List.zipIdx_cons, List.zipIdx_nil, List.forIn_cons, List.forIn_nil]
  refine wpAny_bind (wpAny_bind (wpAny_onRaise (?_ : wpAny _ _ (Builtin.SmallTypes.nextOf (.ref N) >>= _) _ _ _)))
  have e1 : S1 i g1 := D1.frame _ _ _ h1 fun b hb o e => (s1.2 b (nin2 hb (by ac_rfl) (by ac_rfl))).trans e
  rcases hi with rfl | ⟨i1, rfl⟩
  ·refine wpAny_bind (D1.done _ _ _ e1 fun g2 e x2 he => ?_)
   obtain ⟨oe, hoe, hce⟩ := he
   have z2 : zdI g2 (N + 4) (N + 2) (N + 3) .ellipsis bb := x2 _ _ (ne_ (by ac_rfl)) z1
   have hez : e ≠ N + 4 := fun x => by subst x; rw [z2] at hoe; cases hoe; simp at hce
   exact wpAny_setField_rec z2 (by simp) fun g3 _ s3 => k g3 e _ (fun c o c1 c2 c3 c4 x => (s3.2 c c4).trans (x2 c o c1 ((s1.2 c c4).trans x))) ⟨oe, (s3.2 _ hez).trans hoe, hce⟩
  ·refine wpAny_bind (D1.item i _ _ _ i1 e1 fun x g2 t2 p1 f2 s2 => wpAny_pure ?_)
   have q2 : IsPair g2 (N + 3) a b := (s2.2 _ (ne_ (by ac_rfl))).trans ((s1.2 _ (ne_ (by ac_rfl))).trans hTO)
   refine wpAny_bind (wpAny_seqItems q2 rfl (wpAny_bind (wpAny_updateSeq_pair q2 fun g3 q3 s3 => wpAny_bind (wpAny_letGo (wpAny_pure ?_)))))
   replace q3 : IsPair g3 (N + 3) x b := q3
   refine wpAny_bind (wpAny_bind (wpAny_onRaise (?_ : wpAny _ _ (Builtin.SmallTypes.nextOf (.ref (N + 1)) >>= _) _ _ _)))
   have e3 : S2 i g3 := D2.frame _ _ _ h2 fun b hb o e => (s3.2 b (nin2 hb (by ac_rfl) (by ac_rfl))).trans ((s2.2 b (nin2 hb (by ac_rfl) (by ac_rfl))).trans ((s1.2 b (nin2 hb (by ac_rfl) (by ac_rfl))).trans e))
   refine wpAny_bind (D2.done _ _ _ e3 fun g4 e x4 he => ?_)
   obtain ⟨oe, hoe, hce⟩ := he
   have z3 : zdI g3 (N + 4) (N + 2) (N + 3) .ellipsis bb := (s3.2 _ (ne_ (by ac_rfl))).trans ((s2.2 _ (ne_ (by ac_rfl))).trans z1)
   have z4 : zdI g4 (N + 4) (N + 2) (N + 3) .ellipsis bb := x4 _ _ (ne_ (by ac_rfl)) z3
   have hez : e ≠ N + 4 := fun x => by subst x; rw [z4] at hoe; cases hoe; simp at hce
   exact wpAny_setField_rec z4 (by simp) fun g5 _ s5 => k g5 e _ (fun c o c1 c2 c3 c4 x => (s5.2 c c4).trans (x4 c o c2 ((s3.2 c c3).trans ((s2.2 c c1).trans ((s1.2 c c4).trans x))))) ⟨oe, (s5.2 _ hez).trans hoe, hce⟩
 ·simp only [Bool.false_eq_true, if_false, List.forIn_toArray, List.forIn_cons, List.forIn_nil]
  have e0 : S1 i g0 := D1.frame _ _ _ h1 fun b hb o e => (s0.2 b (nin2 hb (by ac_rfl) (by ac_rfl))).trans e
  refine wpAny_bind (wpAny_bind (wpAny_bind (wpAny_holding (?_ : wpAny _ _ (Builtin.SmallTypes.nextOf (.ref N) >>= _) _ _ _))))
  rcases hi with rfl | ⟨i1, rfl⟩
  ·refine wpAny_bind (D1.done _ _ _ e0 fun g2 e x2 he => ?_)
   exact k g2 e _ (fun c o c1 c2 c3 c4 x => x2 c o c1 ((s0.2 c c4).trans x)) he
  ·refine wpAny_bind (D1.item i _ _ _ i1 e0 fun x g2 t2 p1 f2 s2 => wpAny_pure (wpAny_pure ?_))
   refine wpAny_bind (wpAny_bind (wpAny_holding (?_ : wpAny _ _ (Builtin.SmallTypes.nextOf (.ref (N + 1)) >>= _) _ _ _)))
   have e3 : S2 i g2 := D2.frame _ _ _ h2 fun b hb o e => (s2.2 b (nin2 hb (by ac_rfl) (by ac_rfl))).trans ((s0.2 b (nin2 hb (by ac_rfl) (by ac_rfl))).trans e)
   refine wpAny_bind (D2.done _ _ _ e3 fun g4 e x4 he => ?_)
   exact k g4 e _ (fun c o c1 c2 c3 c4 x => x4 c o c2 ((s2.2 c c1).trans ((s0.2 c c4).trans x))) he
end
theorem ZipAt.at {h h' : Heap} {z TI TO : Addr} (x : ZipAt h z TI TO) (e : ∀ o, h.get? z = some o -> h'.get? z = some o) : ZipAt h' z TI TO := by
 obtain ⟨f0, b, q, r⟩ := x
 exact ⟨f0, b, e _ q, r⟩
theorem zjO {z TI TO : Addr} (hz : ZipAt s.heap z TI TO) (h : Q (.ref z) s) : wpAny (model prog w) A (pyIter (.ref z)) Q E s := by
 obtain ⟨f0, b, q, r⟩ := hz
 have hT : s.TypeIs (.ref z) "zip" := ⟨_, q, rfl⟩
 exact wpAny_pyIter_slot hT F.slot_zip_iter (wpAny_call_entry F.slot_zip_iter hT F.entry_zip_iter (wpAny_pure ⟨.ref z, rfl, "zip", .builtin "zip.__next__", hT, F.slot_zip_next.lookup, h⟩) (F.args_zip_iter_1 (.ref z)))
theorem letGoZ {z TI TO : Addr} {Q : Unit -> Shared -> Prop} (hz : ZipAt s.heap z TI TO) (h1 : Q () s)
  (h2 : ∀ h', ZipAt h' z TI TO -> Heap.SameBut z s.heap h' -> Q () { s with heap := h' }) : wpAny (model prog w) A (letOwnedTupleGo tg (.ref z) u) Q E s := by
 obtain ⟨f0, b, q, r⟩ := hz
 have core : ∀ a : Addr, wpAny (model prog w) A (do
   let o <- load z
   match o.cls, o.data with
    | Value.type n, Data.fields vs =>
     if (["enumerate", "zip", "dict_itemiterator", "dict_reverseitemiterator", "odict_iterator", "itertools.zip_longest", "itertools.pairwise"].contains n && vs[0]? == some (rawInt ↑a)) = true then do
      rule "for.unpacks-the-owned-tuple"
      updateField z 0 Value.none
     else pure ()
    | x, x_1 => pure ()) Q E s := fun a => by
  refine wpAny_bind (wpAny_load q ?_)
  dsimp only
  split
  ·refine wpAny_bind (wpAny_rule ?_)
   refine (?_ : wpAny _ _ (setField (.ref z) 0 .none) _ _ _)
   exact wpAny_setField_rec q (by simp) fun g1 z1 s1 => h2 g1 ⟨_, _, z1, .inl rfl⟩ s1
  ·exact wpAny_pure h1
 unfold letOwnedTupleGo
 cases tg <;> first | exact wpAny_pure h1 | (cases u <;> first | exact wpAny_pure h1 | exact core _)
theorem zkI {P : Program} {w : World} (t1 : Bool) (a1 : Nat) (t2 : Bool) (a2 : Nat) (n N : Nat) (l1 : a1 < N) (l2 : a2 < N) :
  Turn P w K tg (Itz2 K t1 a1 t2 a2 n) ([N, N + 1, N + 2, N + 3, N + 4] : List Nat) (N + 4 : Nat)
   (fun i h => i <= n /\ ZipAt h (N + 4 : Nat) (N + 2 : Nat) (N + 3 : Nat) /\ IsPair h (N + 2 : Nat) (.ref N) (.ref (N + 1 : Nat)) /\ (∃ a b, IsPair h (N + 3 : Nat) a b) /\ SrcIt t1 h N a1 i /\ SrcIt t2 h (N + 1 : Nat) a2 i) where
 mem := by simp
 obj := fun i h st b hb => by
  obtain ⟨-, h4, h2, ⟨a, c, h3⟩, h0, h1⟩ := st
  simp only [List.mem_cons, List.not_mem_nil, or_false] at hb
  rcases hb with rfl | rfl | rfl | rfl | rfl
  ·exact h0.obj
  ·exact h1.obj
  ·exact ⟨_, h2, fun v z => by cases z⟩
  ·exact ⟨_, h3, fun v z => by cases z⟩
  ·obtain ⟨f0, bb, z4, -⟩ := h4
   exact ⟨_, z4, fun v z => by cases z⟩
 keep := fun i h h' st k => by
  obtain ⟨hi, h4, h2, ⟨a, c, h3⟩, h0, h1⟩ := st
  exact ⟨hi, h4.at fun o e => k _ (by simp) o e, k _ (by simp) _ h2, ⟨a, c, k _ (by simp) _ h3⟩, h0.at fun o e => k _ (by simp) o e, h1.at fun o e => k _ (by simp) o e⟩
 item := by
  intro X hP hw hK hc i pins s σ H E I hf st hg
  subst hP hw hK
  obtain ⟨hi, h4, h2, ⟨a, c, h3⟩, h0, h1⟩ := st
  obtain ⟨hn, xs, ys, q1, q2, en⟩ := hg
  obtain ⟨us, ru, hu, zu⟩ := q1.heap I
  obtain ⟨ws, rw', hw', zw⟩ := q2.heap I
  have lu := ru.length
  have lw := rw'.length
  have D1 := zdy (prog := X.prog) (w := X.w) (A := X.A.in1) (t := t1) (I.ok.hd hc) N a1 (ne_ (by ac_rfl)) us.toArray
  have D2 := zdy (prog := X.prog) (w := X.w) (A := X.A.in1) (t := t2) (I.ok.hd hc) (N + 1) a2 (ne_ (by ac_rfl)) ws.toArray
  have z4 := h4
  obtain ⟨f0, bb, z4, -⟩ := z4
  have hT : s.TypeIs (.ref (N + 4 : Nat)) "zip" := ⟨_, z4, rfl⟩
  unfold pyNext
  refine wpAny_bind (wpAny_attempt (wpAny_callSpecial?_slot (name := Str.ofString "__next__") hT F.slot_zip_next (wpAny_call_entry F.slot_zip_next hT F.entry_zip_next
   (zkX D1 D2 l1 l2 h4 h2 h3 ⟨h0, hu⟩ ⟨h1, hw'⟩ (by simp; omega) (by simp; omega) fun x y h' tk p1 p2 g4 g3 g0 g1 gT kk => wpAny_pure ?_) (F.args_zip_next_1 _))))
  obtain ⟨x1, hx1⟩ : ∃ x1, xs[i]? = some x1 := ⟨xs[i]'(by omega), List.getElem?_eq_getElem _⟩
  obtain ⟨x2, hx2⟩ : ∃ x2, ys[i]? = some x2 := ⟨ys[i]'(by omega), List.getElem?_eq_getElem _⟩
  obtain ⟨u1, hu1, r1⟩ := ru.get hx1
  obtain ⟨u2, hu2, r2⟩ := rw'.get hx2
  have e1 : u1 = x := by
   have : us[i]? = some x := by simpa using p1
   rw [hu1] at this; cases this; rfl
  have e2 : u2 = y := by
   have : ws[i]? = some y := by simpa using p2
   rw [hu2] at this; cases this; rfl
  subst e1 e2
  refine ⟨_, rfl, ?_⟩
  have fin : ∀ h'', ZipAt h'' (N + 4 : Nat) (N + 2 : Nat) (N + 3 : Nat) -> Heap.SameBut (N + 4 : Nat) h' h'' -> ∃ x H', L2.Inv X pins σ H' { s with heap := h'', toks := tk } /\ RelV x (.ref s.heap.objs.size) /\ (Itz2 X.K t1 a1 t2 a2 n).yld i H x H' /\ (i + 1 <= n /\ ZipAt h'' (N + 4 : Nat) (N + 2 : Nat) (N + 3 : Nat) /\ IsPair h'' (N + 2 : Nat) (.ref N) (.ref (N + 1 : Nat)) /\ (∃ a b, IsPair h'' (N + 3 : Nat) a b) /\ SrcIt t1 h'' N a1 (i + 1) /\ SrcIt t2 h'' (N + 1 : Nat) a2 (i + 1)) /\ ∀ b ∈ ([N, N + 1, N + 2, N + 3, N + 4] : List Nat), H' b = none := fun h'' z'' sb => by
   have lz : N + 4 < s.heap.objs.size := Heap.lt_size z4
   have kk' : ∀ b o, b ∉ ([N, N + 1, N + 2, N + 3, N + 4] : List Nat) -> s.heap.get? b = some o -> h''.get? b = some o := fun b o hb e => by
    obtain ⟨c1, c2, c3, c4⟩ := nin4 hb
    exact (sb.2 b c4).trans (kk b o c1 c2 c3 c4 e)
   have I1 := zk9 (t' := tk) (vs := [x1, x2]) (its := [u1, u2]) I kk' hf (fun b hb => by
    have : b = N \/ b = N + 1 \/ b = N + 2 \/ b = N + 3 \/ b = N + 4 := by simpa using hb
    exact Nat.lt_of_le_of_lt (show (b : Nat) <= N + 4 by rcases this with h | h | h | h | h <;> rw [h] <;> simp) lz) ((sb.2 _ (ne_ (by ac_rfl))).trans gT) (by simp; rw [sizeLine_eq]; decide) (.cons r1 (.cons r2 .nil))
   refine ⟨.ref s.heap.objs.size, _, I1, rfl, ⟨_, x1, x2, I.hok.fresh (Nat.le_refl _), rfl, rfl, fun xs' ys' b1 b2 => ?_⟩, ⟨hn, z'', (sb.2 _ (ne_ (by ac_rfl))).trans (kk _ _ (ne_ (by ac_rfl)) (ne_ (by ac_rfl)) (ne_ (by ac_rfl)) (ne_ (by ac_rfl)) h2), (let ⟨a', b', e'⟩ := g3; ⟨a', b', (sb.2 _ (ne_ (by ac_rfl))).trans e'⟩), SrcIt.at g0.1 fun o e => (sb.2 _ (ne_ (by ac_rfl))).trans e, SrcIt.at g1.1 fun o e => (sb.2 _ (ne_ (by ac_rfl))).trans e⟩, fun b hb => ?_⟩
   ·rw [SrcSq.inj I b1 q1, SrcSq.inj I b2 q2]
    exact ⟨hx1, hx2⟩
   ·have : b = N \/ b = N + 1 \/ b = N + 2 \/ b = N + 3 \/ b = N + 4 := by simpa using hb
    rw [zap (Nat.ne_of_lt (Nat.lt_of_le_of_lt (show (b : Nat) <= N + 4 by rcases this with h | h | h | h | h <;> rw [h] <;> simp) lz))]
    exact (hf b hb).1
  exact letGoZ (s := { s with heap := h', toks := tk }) g4 (fin h' g4 ⟨rfl, fun _ _ => rfl⟩) fun h'' z'' sb => fin h'' z'' sb
 done := by
  intro X hP hw hK hc i pins s σ H E I hf st hg
  subst hP hw hK
  obtain ⟨hi, h4, h2, ⟨a, c, h3⟩, h0, h1⟩ := st
  obtain ⟨hn, xs, ys, q1, q2, en⟩ := hg
  obtain ⟨us, ru, hu, zu⟩ := q1.heap I
  obtain ⟨ws, rw', hw', zw⟩ := q2.heap I
  have lu := ru.length
  have lw := rw'.length
  have D1 := zdy (prog := X.prog) (w := X.w) (A := X.A.in1) (t := t1) (I.ok.hd hc) N a1 (ne_ (by ac_rfl)) us.toArray
  have D2 := zdy (prog := X.prog) (w := X.w) (A := X.A.in1) (t := t2) (I.ok.hd hc) (N + 1) a2 (ne_ (by ac_rfl)) ws.toArray
  have z4 := h4
  obtain ⟨f0, bb, z4, -⟩ := z4
  have hT : s.TypeIs (.ref (N + 4 : Nat)) "zip" := ⟨_, z4, rfl⟩
  unfold pyNext
  refine wpAny_bind (wpAny_attempt (wpAny_callSpecial?_slot (name := Str.ofString "__next__") hT F.slot_zip_next (wpAny_call_entry F.slot_zip_next hT F.entry_zip_next
   (zlq D1 D2 l1 l2 h4 h2 h3 ⟨h0, hu⟩ ⟨h1, hw'⟩ (by simp; omega) fun h' e tk kk he => ?_) (F.args_zip_next_1 _))))
  obtain ⟨o, ho, hce⟩ := he
  refine wpAny_bind (wpAny_isInstance (T := "StopIteration") (b := true) ⟨o, ho, hce⟩ isSubtype_stop (wpAny_pure ⟨rfl, zjH I (fun b o hb e => ?_) hf⟩))
  obtain ⟨c1, c2, c3, c4⟩ := nin4 hb
  exact kk b o c1 c2 c3 c4 e
 self := fun _ _ _ _ _ st h => zjO st.2.1 h
theorem pi_zip2N {a b : Expr} {ta : TA} (hg : Gl X "zip") (hm : X.mg "zip" = none) (ha : PA X [a, b] ta) (hs : starEach [a, b] X.env = (false, eval a X.env) :: starEach [b] X.env := by rfl) (hs2 : (backTo pos (starEach [b] X.env)).any (·.1) = false := by rfl) :
  PI X tg (.Call (.Name "zip" p) [a, b] [] pos) (fun σ H R => ta σ H fun vs H1 => ∃ t1 a1 xs t2 a2 ys, vs = [.ref a1, .ref a2] /\ SrcSq t1 X.K H1 a1 xs /\ SrcSq t2 X.K H1 a2 ys /\ R (Itz2 X.K t1 a1 t2 a2 (min xs.length ys.length)) H1) := by
 intro pins s σ H R I h
 refine Call_ (zhV I hg hm boot_zip (PyProof.Rows.callWith_type1 (thn (ha pos pins s σ H _ I h) fun us s1 ⟨vs, H1, I1, r1, q1⟩ => ?_) hs hs2))
 obtain ⟨t1, a1, xs, t2, a2, ys, e, q1, q2, q⟩ := q1
 subst e
 cases r1 with
 | cons r rr =>
  cases rr with
  | cons r' rr =>
   cases rr
   cases r
   cases r'
   obtain ⟨us, ru, hu, -⟩ := q1.heap I1
   obtain ⟨ws, rw', hw', -⟩ := q2.heap I1
   refine zml hu hw' fun h' g4 g2 g3 g0 g1 kk => wpAny_pyIter_zip g4 ⟨_, _, _, _, H1, rfl, I1.kept (t' := s1.toks) kk, zkI t1 a1 t2 a2 (min xs.length ys.length) s1.heap.objs.size hu.lt hw'.lt, ⟨Nat.zero_le _, ⟨_, _, g4, .inl rfl⟩, g2, ⟨_, _, g3⟩, g0, g1⟩, fun b hb => ?_, q⟩
   have : b = s1.heap.objs.size \/ b = s1.heap.objs.size + 1 \/ b = s1.heap.objs.size + 2 \/ b = s1.heap.objs.size + 3 \/ b = s1.heap.objs.size + 4 := by simpa using hb
   have le : s1.heap.objs.size <= b := by rcases this with h | h | h | h | h <;> rw [h] <;> simp
   exact I1.fpOk le (I1.hok.fresh le)
theorem it_zip2N {a b : Expr} {ma : MA} (hm : X.mg "zip" = none) (ha : SA X [a, b] ma) (hg : Gl X "zip" := by rfl) (hs : starEach [a, b] X.env = (false, eval a X.env) :: starEach [b] X.env := by rfl) (hs2 : (backTo pos (starEach [b] X.env)).any (·.1) = false := by rfl) :
  SIt X tg (.Call (.Name "zip" p) [a, b] [] pos) (iZ2 ma) := by
 obtain ⟨t, pa, sa⟩ := ha
 refine ⟨_, pi_zip2N hg hm pa hs hs2, fun B G H σ ρ ds ρ' Q I hm k => ?_⟩
 obtain ⟨⟨es, ρ1⟩, e1, h2⟩ := zac hm
 dsimp only at h2
 refine sa B G H σ ρ es ρ1 _ I e1 fun G1 H1 vs I1 f1 r1 => ?_
 split at h2
 ·obtain ⟨xs, ex, h2⟩ := zac h2
  obtain ⟨ys, ey, h2⟩ := zac h2
  cases h2
  obtain ⟨x, y, rfl, rx, ry⟩ := r1.two
  obtain ⟨t1, a1, us, rfl, s1, c1⟩ := zlO rx ex
  obtain ⟨t2, a2, ws, rfl, s2, c2⟩ := zlO ry ey
  have n1 := c1.length
  have n2 := c2.length
  refine ⟨t1, a1, us, t2, a2, ws, rfl, s1 _ I1.fz, s2 _ I1.fz, k _ G1 H1 I1 f1 ⟨fun H i f hi => ?_, fun H i x H' f y d e => ?_, fun H i f hi => ?_⟩⟩
  ·exact ⟨by simp [zjS] at hi; omega, us, ws, s1 _ f, s2 _ f, rfl⟩
  ·obtain ⟨p, x1, x2, hp, eh, ex', q⟩ := y
   obtain ⟨q1, q2⟩ := q us ws (s1 _ f) (s2 _ f)
   simp only [zjS, List.getElem?_zipWith] at e
   split at e
   ·rename_i d1 d2 g1 g2
    cases e
    obtain ⟨v1, b1, r1⟩ := c1.get g1
    obtain ⟨v2, b2, r2⟩ := c2.get g2
    rw [q1] at b1; cases b1
    rw [q2] at b2; cases b2
    exact .inr ⟨p, _, _, hp, eh, ex', rfl, ⟨_, _, rfl, r1, _, _, rfl, r2, rfl⟩⟩
   ·cases e
  ·exact ⟨by simp [zjS] at hi; omega, us, ws, s1 _ f, s2 _ f, rfl⟩
 ·cases h2
end M
namespace M
open L2 PySem PySem.Spec
open PyProof.Rows hiding St
theorem ndk {l : List Str} (h : decide l.Nodup = true := by kernel_rfl) : l.Nodup := of_decide_eq_true h
theorem us_0 {p : List Value -> Prop} (h : p []) : ∀ us : List Value, us.length = 0 -> p us := fun us e => by
 cases us with
 | nil => exact h
 | cons => cases e
theorem us_s {p : List Value -> Prop} {n : Nat} (h : ∀ (a : Value) (us : List Value), us.length = n -> p (a :: us)) : ∀ us : List Value, us.length = n + 1 -> p us := fun us e => by
 cases us with
 | nil => cases e
 | cons a us => exact h a us (Nat.succ.inj e)
section
variable {P : Program} {w : World} {K : W.Frag} {mg : Str -> Option Value} {base hp : Heap} {x : Str} {st : Stmt} {f : Addr}
def FnAt (K : W.Frag) (x : Str) (st : Stmt) : Prop := ∃ f fd, W.nsIn K mainGlobals x = some (some (.ref f)) /\ Fun K x x st f fd
theorem FnAt.mk {oc : Value} {od an : Option Addr} {osl : Array (Option Value)} {kV doc pm cdv ct : Value} (a : W.nsIn K mainGlobals x = some (some (.ref f))) (l : K.lookup f = some ⟨oc, od, .func (W.fnOf x x (zey st) (zbW st) (zaJ st) .none kV doc pm an cdv ct), osl⟩)
  (c : W.codeIn K cdv x = true) (k : W.keepIn K (.ref f) = true) : FnAt K x st := ⟨f, _, a, fun_mk l c k⟩
abbrev BindsAt (x : Str) (st : Stmt) (ps : List Str) : Prop := ∀ (kV doc pm : Value) (an : Option Addr) (cdv ct : Value) (us : List Value), us.length = ps.length -> bindArgs (W.fnOf x x (zey st) (zbW st) (zaJ st) .none kV doc pm an cdv ct) ⟨us, []⟩ = pure (ps.zip us)
theorem FnAt.law (h : FnAt K x st) (X : K.In hp) (G : hp.Ns mainGlobals mg) (hf : mg x = some (.ref f)) : ∃ kV doc pm an cdv ct, Fun K x x st f (W.fnOf x x (zey st) (zbW st) (zaJ st) .none kV doc pm an cdv ct) := by
 obtain ⟨f', fd, a, T⟩ := h
 have e := hf.symm.trans (W.mg_of X G a)
 cases e
 obtain ⟨oc, od, kV, doc, pm, an, cdv, ct, osl, rfl, lk, hcd⟩ := id T.ex
 exact ⟨kV, doc, pm, an, cdv, ct, T⟩
variable {N : List Str} {k n : Nat} {m : MS}
abbrev Bd (P : Program) (w : World) (K : W.Frag) (mg : Str -> Option Value) (base : Heap) (x : Str) (st : Stmt) (N : List Str) (k : Nat) (m : MS) : Prop := ∀ (f : Addr) (cdv : Value) (A : Around) (outer : List Env) (s : Shared) (H : Hp) (E : XK), Room k (A.deeper (PyProof.Rows.envOfC x (zaJ st) s.heap.objs.size f cdv)) -> N.Nodup -> SSs (cxOf CX0 P w K mg base N x (zaJ st) f cdv A outer s H E).nox (zbW st) m
structure DefOk (x : Str) (st : Stmt) (N : List Str) (n : Nat) : Prop where
 sc : FnScope N (N.take n) (zaJ st)
 len : (N.take n).length = n
 le : n <= N.length
 bs : BindsAt x st (N.take n)
theorem lawP {fd : FuncData} (F : Fun K x x st f fd) (b : Bd P w K mg base x st N k m) (d : DefOk x st N n := by exact ⟨⟨rfl, rfl, rfl, by decide +kernel, rfl, by decide +kernel, by decide +kernel⟩, rfl, by decide, fun _ _ _ _ _ _ => by first | exact us_s fun _ => us_0 rfl | exact us_s fun _ => us_s fun _ => us_0 rfl | exact us_s fun _ => us_s fun _ => us_s fun _ => us_0 rfl | exact us_s fun _ => us_s fun _ => us_s fun _ => us_s fun _ => us_0 rfl | exact us_0 rfl | exact us_s fun _ => us_s fun _ => us_s fun _ => us_s fun _ => us_s fun _ => us_0 rfl⟩) : FnOk P w K mg base CX0 (k + 1) f fd (N.take n) (spP K n (fP N.length m)) := fnP_ok F d.sc d.len d.le fun cdv A outer s H E hr => b _ cdv A outer s H E hr d.sc.nd
theorem fdP (X : K.In hp) (G : hp.Ns mainGlobals mg) (h : FnAt K x st) (b : Bd P w K mg base x st N k m) (d : DefOk x st N n := by exact ⟨⟨rfl, rfl, rfl, by decide +kernel, rfl, by decide +kernel, by decide +kernel⟩, rfl, by decide, fun _ _ _ _ _ _ => by first | exact us_s fun _ => us_0 rfl | exact us_s fun _ => us_s fun _ => us_0 rfl | exact us_s fun _ => us_s fun _ => us_s fun _ => us_0 rfl | exact us_s fun _ => us_s fun _ => us_s fun _ => us_s fun _ => us_0 rfl | exact us_0 rfl | exact us_s fun _ => us_s fun _ => us_s fun _ => us_s fun _ => us_s fun _ => us_0 rfl⟩) : FD P w K mg base (k + 1) x (spP K n (fP N.length m)) :=
 let ⟨f, fd, a, T⟩ := h
 ⟨⟨f, fd, _, fnP_ok T d.sc d.len d.le fun cdv A outer s H E hr => b _ cdv A outer s H E hr d.sc.nd, W.mg_of X G a, T.kp, T.binds d.bs⟩⟩
theorem fdM (X : K.In hp) (G : hp.Ns mainGlobals mg) (h : FnAt K x st) (b : Bd P w K mg base x st N k m) (d : DefOk x st N n := by exact ⟨⟨rfl, rfl, rfl, by decide +kernel, rfl, by decide +kernel, by decide +kernel⟩, rfl, by decide, fun _ _ _ _ _ _ => by first | exact us_s fun _ => us_0 rfl | exact us_s fun _ => us_s fun _ => us_0 rfl | exact us_s fun _ => us_s fun _ => us_s fun _ => us_0 rfl | exact us_s fun _ => us_s fun _ => us_s fun _ => us_s fun _ => us_0 rfl | exact us_0 rfl | exact us_s fun _ => us_s fun _ => us_s fun _ => us_s fun _ => us_s fun _ => us_0 rfl⟩) : FD P w K mg base (k + 1) x (spM K n (fM N.length m)) :=
 let ⟨f, fd, a, T⟩ := h
 ⟨⟨f, fd, _, fnM_ok T d.sc d.len d.le fun cdv A outer s H E hr => b _ cdv A outer s H E hr d.sc.nd, W.mg_of X G a, T.kp, T.binds d.bs⟩⟩
theorem fdMT (X : K.In hp) (G : hp.Ns mainGlobals mg) (h : FnAt K x st) (b : Bd P w K mg base x st N k m) (d : DefOk x st N n := by exact ⟨⟨rfl, rfl, rfl, by decide +kernel, rfl, by decide +kernel, by decide +kernel⟩, rfl, by decide, fun _ _ _ _ _ _ => by first | exact us_s fun _ => us_0 rfl | exact us_s fun _ => us_s fun _ => us_0 rfl | exact us_s fun _ => us_s fun _ => us_s fun _ => us_0 rfl | exact us_s fun _ => us_s fun _ => us_s fun _ => us_s fun _ => us_0 rfl | exact us_0 rfl | exact us_s fun _ => us_s fun _ => us_s fun _ => us_s fun _ => us_s fun _ => us_0 rfl⟩) : FD P w K mg base (k + 1) x (spMT K n (fMT N.length m)) :=
 let ⟨f, fd, a, T⟩ := h
 ⟨⟨f, fd, _, fnMT_ok T d.sc d.len d.le fun cdv A outer s H E hr => b _ cdv A outer s H E hr d.sc.nd, W.mg_of X G a, T.kp, T.binds d.bs⟩⟩
end
variable {P : Program} {w : World} {H G : Hp} {h : Heap} {a b : Addr} {o : Obj} {xs : List (List L2.Key × Addr × Value)} {ks : List (List Int)} {ys : List (List L2.Key × V)}
def Sl.dit : Sl -> Option (List (List Int) × List D)
 | .tre (.dit ks ds) => some (ks, ds)
 | .ptr (.dit ks ds) => some (ks, ds)
 | .val (.dit ks ds) => some (ks, ds)
 | _ => none
end M
namespace M
open L2 PySem PySem.Spec
open PyProof.Rows hiding St
variable {K : W.Frag} {G H : Hp} {wi : TI} {tg' : Addr -> Shared -> Hp -> List Addr -> TG} {tt : Addr -> Shared -> Hp -> List Addr -> TT} {te : Addr -> Shared -> Hp -> List Addr -> TE} {x : Str} {apos cpos p' : Pos} {ma mb : MQ} {σ : St} {ρ : R} {b c : Nat} {B : Bs}
def fzDT (j : Nat) (ρ : R) : R := match ρ[j]? with
 | some (.tre (.dit ks ds)) => ρ.set j (.val (.dit ks ds))
 | _ => ρ
def eCallU (F : List D -> Option Sl) (ma : MA) : ME := fun ρ => (ma ρ).bind fun p => (F p.1).bind fun r => match r with
 | .tre (.tup cs) => some (.tup (cs.map Ch.D), p.2)
 | _ => none
def fzU (j : Nat) (ρ : R) : R := match ρ[j]? with
 | some (.tre (.tup cs)) => ρ.set j (.val (.tup (cs.map Ch.D)))
 | _ => ρ
def zir (f : D -> R -> Option (Option (List D) × R)) : List D -> R -> Option (List (List D) × R)
 | [], ρ => some ([], ρ)
 | d :: ds, ρ => (f d ρ).bind fun p => (zir f ds p.2).map fun q => (p.1.toList ++ q.1, q.2)
def zk5 (g : D -> R -> Option R) (mt : MT) (mo : MO) : D -> R -> Option (Option (List D) × R) := fun d ρ => (g d ρ).bind fun ρ1 => (mt ρ1).bind fun p => if p.1 then (mo p.2).bind fun q => if zcY q.2 then some (some q.1, q.2) else none else if zcY p.2 then some (none, p.2) else none
def sTC (i : Nat) (cap : List Nat) (t : Nat) (mi : MA) (g : D -> R -> Option R) (mt : MT) (mo : MO) : MS := fun ρ => (mi ρ).bind fun p => if p.1.length <= 16777216 then (zir (zk5 g mt mo) p.1 (capR cap t (fzL cap p.2))).map fun q => (.next, (fzL cap p.2).set i (.tre (.lst (q.1.map .l)))) else none
def sTAo (i : Nat) (mo : MO) : MS := fun ρ => match ρ[i]? with
 | some (.tre (.lst _)) => (mo ρ).bind fun p => match p.2[i]? with
  | some (.tre (.lst cs)) => if cs.length < 16777216 then some (.next, p.2.set i (.tre (.lst (cs ++ [.l p.1])))) else none
  | _ => none
 | _ => none
def zgQ : List Ch -> Option (List (List D))
 | [] => some []
 | .l ds :: cs => (zgQ cs).map (ds :: ·)
 | _ => none
def cTab (i : Nat) (r : MP') : MP' := fun ρ => match ρ[i]? with
 | some (.tre (.lst cs)) => (zgQ cs).bind fun xss => (r (ρ.set i .emp)).map fun q => (.t xss :: q.1, q.2)
 | _ => none
def qMod (ma mb : MQ) : MQ := fun ρ => (ma ρ).bind fun a => (mb ρ).bind fun b => match a, b with
 | .int i, .int j => if 0 < j then some (.int (i % j)) else none
 | _, _ => none
def qLT (j : Nat) : MQ := fun ρ => match ρ[j]? with
 | some (.tre (.lst cs)) => some (.int cs.length)
 | _ => none
def qLR (j n : Nat) : MQ := fun ρ => match ρ[j]? with
 | some (.tre (.lst cs)) => match cs[n]? with
  | some (.l ds) => some (.int ds.length)
  | _ => none
 | _ => none
def sTG (j : Nat) (mi mk me : MQ) : MS := fun ρ => (mi ρ).bind fun a => (mk ρ).bind fun b => (me ρ).bind fun c => match a, b, c, ρ[j]? with
 | .int n, .int m, .int z, some (.tre (.lst cs)) => (ixN cs.length n).bind fun u => match cs[u]? with
  | some (.l ds) => (ixN ds.length m).bind fun w => match ds[w]? with
   | some (.int y) => some (.next, ρ.set j (.tre (.lst (cs.set u (.l (ds.set w (.int (y + z))))))))
   | _ => none
  | _ => none
 | _, _, _, _ => none
structure LcT (K : W.Frag) (g : D -> R -> Option R) (mt : MT) (mo : MO) (items : List D) (all : List (List D)) (G2 H1 : Hp) (DD : Addr) (i : Nat) (σc : St) (Hc Gc : Hp) (ρc : R) (acc : List (List D)) (xs : List V) (A : List Addr) (rest : List (List D)) (ρe : R) : Prop where
 fc : Fz G2 Gc
 fcH : Fz Gc Hc
 nw : ∀ b o, Gc b = some o -> G2 b ≠ none \/ H1 b = none
 kp : ∀ b o, H1 b = some o -> Hc b = some o
 gD : Gc DD = none
 hDc : Hc DD = some (.lst xs)
 ra : RepTb K Gc Hc xs acc A
 nd : A.Nodup
 fr : ∀ a ∈ A, Gc a = none /\ H1 a = none /\ a ≠ DD
 hx : xs.length <= i
 vs : VS K Gc σc ρc
 ec : zir (zk5 g mt mo) (items.drop i) ρc = some (rest, ρe)
 eall : all = acc ++ rest
theorem zhO : ∀ {xs : List V} {dss : List (List D)} {A : List Addr} {l : Addr} {ys : List V} {ds : List D}, RepTb K G H xs dss A -> H l = some (.lst ys) -> RepL K G ys ds -> RepTb K G H (xs ++ [.ref l]) (dss ++ [ds]) (A ++ [l])
 | [], [], _, l, ys, ds, h, h1, h2 => by rw [show _ = [] from h]; exact ⟨l, ys, [], rfl, h1, h2, rfl, rfl⟩
 | x :: xs, e :: dss, _, l, ys, ds, ⟨r, zs, A2, e1, e2, e3, e4, e5⟩, h1, h2 => ⟨r, zs, A2 ++ [l], e1, e2, e3, zhO e4 h1 h2, by rw [e5]; rfl⟩
 | [], _ :: _, _, _, _, _, h, _, _ => h.elim
 | _ :: _, [], _, _, _, _, h, _, _ => h.elim
section
variable {X : Cx} {elt iter tg : Expr} {ifs : List Expr} {scope : Scope} {pos : Pos} {N : List Str} {cap : List Nat} {t : Nat} {mi : MA} {g : D -> R -> Option R} {mt : MT} {mo : MO}
theorem zlG (i0 : Nat) 
  (si : ∀ B G H σ ρ ds ρ' (Q : It -> Hp -> Prop), SI X.K B G H σ ρ -> mi ρ = some (ds, ρ') -> (∀ J G' H', SI X.K B G' H' σ ρ' -> Fz G G' -> Itm X.K J G' ds -> Q J H') -> wi σ H Q)
  (sg : ∀ C s H₀ fp B G H σ ρ v d ρ' (Q : St -> Hp -> Prop), SI X.K B G H σ ρ -> RepD X.K G v d -> g d ρ = some ρ' -> (∀ G' H' σ', SI X.K B G' H' σ' ρ' -> Fz G G' -> Q σ' H') -> tg' C s H₀ fp v σ H Q)
  (st : ∀ C s H₀ fp B G H σ ρ d ρ' (Q : Bool -> Hp -> Prop), SI X.K B G H σ ρ -> mt ρ = some (d, ρ') -> (∀ G' H', SI X.K B G' H' σ ρ' -> Fz G G' -> Q d H') -> tt C s H₀ fp σ H Q)
  (se : ∀ C s H₀ fp B G H σ ρ ds ρ' (Q : VK), SI X.K B G H σ ρ -> mo ρ = some (ds, ρ') -> (∀ G' H' l xs, SI X.K B G' H' σ ρ' -> Fz G G' -> G' l = none -> H' l = some (.lst xs) -> RepL X.K G' xs ds -> B.H l = none -> Nw X.K G' H' σ ρ' l -> Q (.ref l) H') -> te C s H₀ fp σ H Q) :
  ∀ B G H σ ρ fl ρ' (E : Ends), SI X.K B G H σ ρ -> sTC i0 cap t mi g mt mo ρ = some (fl, ρ') -> Post X.K B G E fl ρ' -> tLC (capσ cap t) wi tg' tt te σ H fun v H' => E.nx (σ.set i0 (some v)) H' := by
 intro B G H σ ρ fl ρ' E I hm k
 obtain ⟨⟨items, ρ1⟩, e1, hm⟩ := zac hm
 refine si B G H σ ρ items ρ1 _ I e1 fun J G1 H1 I1 f1 IT DD hD => ?_
 dsimp only at hm
 split at hm
 ·rename_i hlen
  obtain ⟨⟨all, ρf⟩, e2, e3⟩ := zau hm
  obtain ⟨rfl, rfl⟩ := Prod.mk.inj e3
  obtain ⟨G2, I2, f2⟩ := SI.fzL cap I1
  have hDG : G2 DD = none := I2.fz.free hD
  refine ⟨fun i m σc Hc => m = items.length - i /\ i <= items.length /\ ∃ Gc ρc acc xs A rest ρe, LcT X.K g mt mo items all G2 H1 DD i σc Hc Gc ρc acc xs A rest ρe,
   ⟨items.length, by simp, Nat.zero_le _, G2, capR cap t (M.fzL cap ρ1), [], [], [], all, ρf, { fc := Fz.refl _, fcH := I2.fz.right hDG _, nw := fun b o e => .inl (by rw [e]; simp), kp := fun b o e => by rw [zap (zav e hD)]; exact e, gD := hDG, hDc := zas, ra := rfl, nd := by simp, fr := fun a m => (by cases m), hx := Nat.le_refl _, vs := zkl I2 cap t, ec := by simpa using e2, eall := rfl }⟩, ?_⟩
  rintro i m σc Hc ⟨rfl, hi, Gc, ρc, acc, xs, A, rest, ρe, J0⟩
  obtain ⟨fc, fcH, nw, kp, gD, hDc, ra, nd, fr, hx, vs, ec, eall⟩ := J0
  by_cases hlt : i < items.length
  ·refine .inr ⟨IT.go Hc i (f2.trans (fc.trans fcH)) hlt, fun C s₀ H₀ fp x H' y => ?_⟩
   rw [List.drop_eq_getElem_cons hlt] at ec
   simp only [zir] at ec
   obtain ⟨⟨o, ρ3⟩, h3, ec⟩ := zac ec
   obtain ⟨⟨rest2, ρ4⟩, h4, ec⟩ := zau ec
   obtain ⟨rfl, rfl⟩ := Prod.mk.inj ec
   dsimp only at h4
   unfold zk5 at h3
   obtain ⟨ρ5, h5, h3⟩ := zac h3
   obtain ⟨⟨ok, ρ6⟩, h6, h3⟩ := zac h3
   dsimp only at h3
   have Ic : SI X.K ⟨Gc, Hc, []⟩ Gc Hc σc ρc := vs.si fcH
   have fz2 : Fz G1 Hc := f2.trans (fc.trans fcH)
   have yy := IT.yld Hc i x H' fz2 y items[i] (List.getElem?_eq_getElem hlt)
   have yy2 : (H' = Hc /\ RepD X.K Gc x items[i]) \/ ∃ p xs es, Hc p = none /\ H' = upd Hc p (.tup xs) /\ x = .ref p /\ items[i] = .tup es /\ RepL X.K Gc xs es := by
    rcases yy with ⟨a, b⟩ | ⟨p, xs, es, a, b, c, d, e⟩
    ·exact .inl ⟨a, b.mono (f2.trans fc)⟩
    ·exact .inr ⟨p, xs, es, a, b, c, d, e.mono (f2.trans fc)⟩
   obtain ⟨G3, I3, f3, r3⟩ := Ic.yld yy2
   refine sg C s₀ H₀ fp _ G3 H' σc ρc x items[i] ρ5 _ I3 r3 h5 fun G4 H4 σ4 I4 f4 => st C s₀ H₀ fp _ G4 H4 σ4 ρ5 ok ρ6 _ I4 h6 fun G5 H5 I5 f5 => ?_
   have facts : ∀ (G' H' : Hp) (σ' : St) (ρ' : R), SI X.K ⟨Gc, Hc, []⟩ G' H' σ' ρ' -> Fz Gc G' -> (∀ b o, G' b = some o -> G2 b ≠ none \/ H1 b = none) /\ (∀ b o, H1 b = some o -> H' b = some o) /\ G' DD = none /\ H' DD = some (.lst xs) /\ RepTb X.K G' H' xs acc A /\ ∀ a ∈ A, G' a = none /\ H1 a = none /\ a ≠ DD := fun G' H' σ' ρ' I' ff => by
    have stay : ∀ b o, Gc b = none -> Hc b = some o -> G' b = none := fun b o h1 h2 => by
     cases q : G' b with
     | none => rfl
     | some u =>
      rcases I'.new b u q with h | h
      ·exact absurd h1 h
      ·rw [show Hc b = none from h] at h2; cases h2
    refine ⟨fun b o e => ?_, fun b o e => I'.keep b o (kp b o e) (by simp), stay DD _ gD hDc, I'.keep DD _ hDc (by simp), ra.move ff fun a m => ?_, fun a m => ?_⟩
    ·rcases I'.new b o e with h | h
     ·have h : Gc b ≠ none := h
      cases q : Gc b with
      | none => exact absurd q h
      | some u => exact nw b u q
     ·refine .inr ?_
      cases q : H1 b with
      | none => rfl
      | some u => have := kp b u q; rw [show Hc b = none from h] at this; cases this
    ·obtain ⟨zs, z⟩ := ra.here m
     rw [z]; exact I'.keep a _ z (by simp)
    ·obtain ⟨zs, z⟩ := ra.here m
     exact ⟨stay a _ (fr a m).1 z, (fr a m).2⟩
   cases ok with
   | false =>
    simp only [Bool.false_eq_true, if_false] at h3
    split at h3
    ·rename_i hno
     cases h3
     obtain ⟨a1, a2, a3, a4, a5, a6⟩ := facts G5 H5 σ4 _ I5 (f3.trans (f4.trans f5))
     exact ⟨items.length - (i + 1), by omega, rfl, hlt, G5, _, acc, xs, A, rest2, ρ4, { fc := fc.trans (f3.trans (f4.trans f5)), fcH := I5.fz, nw := a1, kp := a2, gD := a3, hDc := a4, ra := a5, nd := nd, fr := a6, hx := by omega, vs := VS.of I5 hno, ec := h4, eall := by simpa using eall }⟩
    ·cases h3
   | true =>
    simp only [if_true] at h3 ⊢
    obtain ⟨⟨dv, ρ7⟩, h7, h3⟩ := zac h3
    dsimp only at h3
    split at h3
    ·rename_i hno
     cases h3
     refine se C s₀ H₀ fp _ G5 H5 σ4 ρ6 dv _ _ I5 h7 fun G6 H6 l ys I6 f6 g6 h6l r6 b6 n6 => ?_
     have ff : Fz Gc G6 := f3.trans (f4.trans (f5.trans f6))
     obtain ⟨a1, a2, a3, a4, a5, a6⟩ := facts G6 H6 σ4 _ I6 ff
     have b6 : Hc l = none := b6
     have lD : l ≠ DD := fun z => by rw [z, hDc] at b6; cases b6
     have lA : l ∉ A := fun m => by obtain ⟨zs, z⟩ := ra.here m; rw [b6] at z; cases z
     have l1 : H1 l = none := by
      cases q : H1 l with
      | none => rfl
      | some u => rw [kp l u q] at b6; cases b6
     refine ⟨xs, a4, by rw [sizeLine_eq]; omega, items.length - (i + 1), by omega, rfl, hlt, G6, _, acc ++ [dv], xs ++ [.ref l], A ++ [l], rest2, ρ4, { fc := fc.trans ff, fcH := I6.fz.right a3 _, nw := a1, kp := fun b o e => by rw [zap (zav e hD)]; exact a2 b o e, gD := a3, hDc := zas, ra := ?_, nd := ?_, fr := fun a m => ?_, hx := by rw [List.length_append, List.length_singleton]; omega, vs := VS.of I6 hno, ec := h4, eall := by simpa using eall }⟩
     ·refine zhO (a5.move (Fz.refl G6) fun a m => zap (a6 a m).2.2) (by rw [zap lD]; exact h6l) r6
     ·refine List.nodup_append.mpr ⟨nd, by simp, fun a ma b mb z => ?_⟩
      have : b = l := by simpa using mb
      subst this; subst z; exact lA ma
     ·rcases List.mem_append.mp m with m | m
      ·exact a6 a m
      ·have : a = l := by simpa using m
       subst this
       exact ⟨g6, l1, lD⟩
    ·cases h3
  ·have e : i = items.length := by omega
   subst e
   rw [List.drop_length] at ec
   cases ec
   have hall : all = acc := by rw [eall, List.append_nil]
   refine .inl ⟨IT.stop Hc _ (f2.trans (fc.trans fcH)) (Nat.le_refl _), ?_⟩
   rw [<- hall] at ra
   have I3 := I2.grow fc fcH nw kp
   refine k Gc Hc _ (I3.setT (i := i0) (v := .ref DD) (A := DD :: A) ⟨DD, xs, A, rfl, hDc, tb_cs ra, rfl⟩ (List.nodup_cons.mpr ⟨fun m => (fr DD m).2.2 rfl, nd⟩) fun a m => ?_) (f1.trans (f2.trans fc))
   rcases List.mem_cons.mp m with rfl | m
   ·exact ⟨gD, I2.there a hD, I2.own_ne hD nw kp⟩
   ·exact ⟨(fr a m).1, I2.there a (fr a m).2.1, I2.own_ne (fr a m).2.1 nw kp⟩
 ·cases hm
theorem zf8 (i : Nat) {lpos pos' : Pos} (cap : List Nat) (t : Nat) (N : List Str) (hc : X.calm = true) (hi : SIt X tg iter mi) (hg : ∀ C s H fp, SG (cxC X N scope C s H fp) tg g) (ht : ∀ C s H fp, STs (cxC X N scope C s H fp) ifs mt) (he : ∀ C s H fp, SO (cxC X N scope C s H fp) elt mo) (hN : X.N.Nodup)
    (hxi : X.N[i]? = some x := by rfl) (hx : Loc X.env.scope x := by first | exact Or.inl rfl | exact Or.inr rfl) (hf : X.fn x = true \/ X.env.scope.names.lookup x = some .local := by first | exact Or.inl rfl | exact Or.inr rfl)
    (hsw : swapsWith (.ListComp elt [⟨tg, iter, ifs, 0⟩] scope lpos) (some (.Name x pos')) pos.line X.env = pure true := by rfl)
    (hk : scope.kind = .function := by rfl) (hb : blkB X.env scope = true := by kernel_rfl) (hcap : capB scope.names N X.N cap t = true := by kernel_rfl)
    (hs : ∀ x, foldedSetIterable iter X.env x = pure x := by exact fun _ => rfl) : SS X (.Assign [.Name x pos'] (.ListComp elt [⟨tg, iter, ifs, 0⟩] scope lpos) pos) (sTC i cap t mi g mt mo) := by
  obtain ⟨wi, pi, si⟩ := hi
  exact ⟨_, zg4 hN hxi hx hf hsw hc (zhz hk hb) (zg6 hcap) pi (fun C s H fp => (hg C s H fp).choose_spec.1) (fun C s H fp => (ht C s H fp).choose_spec.1) (fun C s H fp => (he C s H fp).choose_spec.1) hs,
    zlG i si (fun C s H fp => (hg C s H fp).choose_spec.2) (fun C s H fp => (ht C s H fp).choose_spec.2) (fun C s H fp => (he C s H fp).choose_spec.2)⟩
end
section
variable {X : Cx} {x y : Str} {pos p' q' tpos : Pos} {e a b : Expr} {es : List Expr} {mo : MO}
theorem zkw (i : Nat) (ho : SO X e mo) (hN : X.N[i]? = some x := by rfl) (hv : Vis X.env.scope x := by first | exact Or.inl rfl | exact Or.inr (Or.inl rfl) | exact Or.inr (Or.inr rfl)) (hd : (x == ("__debug__" : Str)) = false := by decide)
  (hcd : (x == ("__classdict__" : Str)) = false := by decide)
  (hbase : attributeBase (.Name x p') "append" X.env (eval (.Name x p') X.env) = eval (.Name x p') X.env := by rfl)
  (hfew : ((backTo cpos (starEach [e] X.env)).all (fun x => !x.1) && (backToKw cpos (keywordEach [] X.env)).all (fun x => x.1.isSome)
   && decide ([e].length + ([] : List Keyword).length + (if ([] : List Keyword).isEmpty then 0 else 1) < 30)) = true := by rfl)
  (hline : (apos.endLine == cpos.line) = true := by rfl) (hs : starEach [e] X.env = (false, eval e X.env) :: starEach [] X.env := by rfl) : SS X (.Expr (.Call (.Attribute (.Name x p') "append" apos) [e] [] cpos) pos) (sTAo i mo) := by
 obtain ⟨te, pe, so⟩ := ho
 refine ⟨_, zh6 (pe_bm PySem.F.plainAttrs_list PySem.F.slot_list_append PySem.F.type_list_append zhd (zbj hN hv hd hcd) (zbi pe zdA hs) hbase hfew hline hs rfl) (by rfl), fun B G H σ ρ fl ρ' E I hm k => ?_⟩
 unfold sTAo at hm
 split at hm
 ·rename_i cs0 e0
  obtain ⟨v0, A0, q1, ⟨p, xs0, A0', rfl, q2, q3, rfl⟩, -, -⟩ := I.slot i _ e0
  obtain ⟨⟨ds, ρ1⟩, e1, hm⟩ := zac hm
  dsimp only at hm
  split at hm
  ·rename_i cs e2
   split at hm
   ·rename_i hl
    cases hm
    refine ⟨.ref p, q1, .inl ⟨rfl, _, SqL.of q2⟩, so B G H σ ρ ds ρ1 _ I e1 fun G1 H1 l ys I1 f1 g1 h1 r1 b1 n1 => ?_⟩
    obtain ⟨v, A, k1, k2, k3, k4⟩ := I1.slot i _ e2
    rw [q1] at k1; cases k1
    have k2' := k2
    obtain ⟨p2, xs, A', z, w1, w2, rfl⟩ := k2
    cases z
    have lp : l ≠ p := fun z => n1 i _ e2 ⟨_, _, q1, k2', by rw [z]; simp⟩
    have lA : l ∉ A' := fun m => n1 i _ e2 ⟨_, _, q1, k2', by simp [m]⟩
    have pA := (List.nodup_cons.mp k3).1
    refine ⟨p, xs, .ref l, rfl, rfl, w1, by rw [zcR w2, sizeLine_eq]; exact hl, ?_⟩
    have rep : RepT X.K G1 (upd H1 p (.lst (xs ++ [.ref l]))) (.ref p) (.lst (cs ++ [.l ds])) (p :: (A' ++ [l])) :=
     ⟨p, _, A' ++ [l], rfl, zas, zhK (w2.move (Fz.refl G1) fun a m => zap fun z => pA (by rw [<- z]; exact m)) ⟨l, ys, rfl, by rw [zap lp]; exact h1, r1, rfl⟩, rfl⟩
    refine k G1 _ σ (I1.chT2 e2 q1 k2' (I1.fz.right (k4 p (by simp)).1 _) (fun b o n h => by rw [zap (fun z => n (by simp [z]))]; exact h) (fun b h => ?_) rep ?_ fun a m => ?_) f1
    ·by_cases z : b = p
     ·subst z; rw [zas] at h; cases h
     ·rw [zap z] at h; exact h
    ·refine List.nodup_cons.mpr ⟨fun m => ?_, List.nodup_append.mpr ⟨(List.nodup_cons.mp k3).2, by simp, fun a ma b mb z => ?_⟩⟩
     ·rcases List.mem_append.mp m with m | m
      ·exact pA m
      ·exact lp (by simpa using m : p = l).symm
     ·have : b = l := by simpa using mb
      subst this; subst z; exact lA ma
    ·rcases List.mem_cons.mp m with rfl | m
     ·exact .inl (by simp)
     rcases List.mem_append.mp m with m | m
     ·exact .inl (by simp [m])
     ·have : a = l := by simpa using m
      subst this
      exact .inr ⟨g1, b1, n1⟩
   ·cases hm
  ·cases hm
 ·cases hm
theorem zmb : ∀ {cs : List Ch} {xss : List (List D)}, zgQ cs = some xss -> cs = xss.map .l
 | [], _, h => by cases h; rfl
 | .l ds :: cs, _, h => by obtain ⟨yss, e1, e2⟩ := zau h; cases e2; rw [zmb e1]; rfl
 | .d _ :: _, _, h => by cases h
 | .t _ :: _, _, h => by cases h
theorem sc_tab (i : Nat) {r : MP'} (hr : SP' X es r) (hN : X.N[i]? = some x := by rfl) (hv : Vis X.env.scope x := by first | exact Or.inl rfl | exact Or.inr (Or.inl rfl) | exact Or.inr (Or.inr rfl)) (hd : (x == ("__debug__" : Str)) = false := by decide)
  (hcd : (x == ("__classdict__" : Str)) = false := by decide) (hs : starEach (.Name x p' :: es) X.env = (false, eval (.Name x p') X.env) :: starEach es X.env := by rfl) : SP' X (.Name x p' :: es) (cTab i r) := by
 obtain ⟨u, q, z⟩ := hr
 refine ⟨_, zbi (zbj hN hv hd hcd) q hs, fun B G H σ ρ cs ρ' Q I hm k => ?_⟩
 unfold cTab at hm
 split at hm
 ·rename_i cs0 e
  obtain ⟨xss, e0, hm⟩ := zac hm
  obtain ⟨⟨cs1, ρ1⟩, e1, e2⟩ := zau hm
  cases e2
  cases zmb e0
  obtain ⟨v, A0, h1, h2, h3, h4⟩ := I.slot i _ e
  have h2' := h2
  obtain ⟨p, xs, A', rfl, g1, g2, rfl⟩ := h2
  have I1 := I.emp i
  have n1 : ∀ a ∈ p :: A', Nw X.K G H σ (ρ.set i .emp) a := fun a m => nw_emp I e ⟨_, _, h1, h2', m⟩
  refine ⟨.ref p, h1, z (B.re X.K G H σ (ρ.set i .emp)) G H σ _ cs1 ρ1 _ I1.re e1 fun G1 H1 vs A J f1 r1 nd hA => ?_⟩
  have st : ∀ a ∈ p :: A', H1 a = H a /\ G1 a = none /\ Nw X.K G1 H1 σ ρ1 a := fun a m => by
   obtain ⟨o, ho⟩ := Option.ne_none_iff_exists'.mp (h2'.here m)
   obtain ⟨b1, b2, b3⟩ := I1.re_stays J ho (n1 a m) (h4 a m).1 (h4 a m).2
   exact ⟨b1.trans ho.symm, b2, b3⟩
  have nl : ∀ a ∈ p :: A', a ∉ A := fun a m m' => by
   obtain ⟨o, ho⟩ := Option.ne_none_iff_exists'.mp (h2'.here m)
   have hb : (B.re X.K G H σ (ρ.set i .emp)).H a = some o := zjN ho (n1 a m)
   rw [(hA a m').2.1] at hb; cases hb
  refine k G1 H1 (.ref p :: vs) ((p :: A') ++ A) (I1.unre J) f1 ⟨p :: A', A, ⟨p, xs, A', rfl, by rw [(st p (by simp)).1]; exact g1, (cs_tb g2).move f1 fun a m => (st a (by simp [m])).1, rfl⟩, r1, rfl⟩ (List.nodup_append.mpr ⟨h3, nd, fun a ma b mb z => nl a ma (by rw [z]; exact mb)⟩) fun a m => ?_
  rcases List.mem_append.mp m with m | m
  ·exact ⟨(st a m).2.1, (h4 a m).2, (st a m).2.2⟩
  ·exact ⟨(hA a m).1, zfN I1 (hA a m).2.1, (hA a m).2.2⟩
 ·cases hm
theorem zlc (ha : SQ X a ma) (hb : SQ X b mb) : SQ X (.BinOp a .Mod b pos) (qMod ma mb) := by
 obtain ⟨ta, pa, sa⟩ := ha
 obtain ⟨tb, pb, sb⟩ := hb
 refine ⟨_, pe_op op_mod pa pb, fun B G H σ ρ d Q I hm k => ?_⟩
 obtain ⟨va, e1, hm⟩ := zac hm
 obtain ⟨vb, e2, hm⟩ := zac hm
 obtain ⟨i, rfl⟩ : ∃ n, va = .int n := by cases va <;> first | exact ⟨_, rfl⟩ | cases hm
 obtain ⟨j, rfl⟩ : ∃ n, vb = .int n := by cases vb <;> first | exact ⟨_, rfl⟩ | cases hm
 dsimp only at hm
 split at hm
 ·rename_i hj
  cases hm
  refine sa B G H σ ρ _ _ I e1 fun v1 r1 => sb B G H σ ρ _ _ I e2 fun v2 r2 => ?_
  exact ⟨i, j, r1, r2, hj, k _ rfl⟩
 ·cases hm
theorem sq_lenT (j : Nat) (ml : X.mg "len" = none) (hN : X.N[j]? = some x := by rfl) (hv : Vis X.env.scope x := by first | exact Or.inl rfl | exact Or.inr (Or.inl rfl) | exact Or.inr (Or.inr rfl)) (hd : (x == ("__debug__" : Str)) = false := by decide)
  (hcd : (x == ("__classdict__" : Str)) = false := by decide) (hg : Gl X "len" := by rfl) (he : starEach [.Name x p'] X.env = (false, eval (.Name x p') X.env) :: starEach [] X.env := by rfl) : SQ X (.Call (.Name "len" q') [.Name x p'] [] pos) (qLT j) := by
 refine ⟨_, zf6 zc2 hg ml PySem.boot_len (zbi (zbj hN hv hd hcd) zdA he) (by decide) (by decide) he rfl, fun B G H σ ρ d Q I hm k => ?_⟩
 unfold qLT at hm
 split at hm
 ·rename_i cs e
  cases hm
  obtain ⟨v, A, h1, ⟨p, xs, A', rfl, g1, g2, rfl⟩, h3, h4⟩ := I.slot j _ e
  refine ⟨.ref p, h1, p, xs, rfl, .inl (SqL.of g1), ?_⟩
  rw [zcR g2]
  exact k _ rfl
 ·cases hm
theorem sq_lenR (j n : Nat) {j1} {ipos spos : Pos} (ml : X.mg "len" = none) (hN : X.N[j]? = some x := by rfl) (hv : Vis X.env.scope x := by first | exact Or.inl rfl | exact Or.inr (Or.inl rfl) | exact Or.inr (Or.inr rfl)) (hd : (x == ("__debug__" : Str)) = false := by decide)
    (hcd : (x == ("__classdict__" : Str)) = false := by decide) (hg : Gl X "len" := by rfl) (he : starEach [.Subscript (.Name x p') (.Constant (.int n) j1 ipos) spos] X.env = (false, eval (.Subscript (.Name x p') (.Constant (.int n) j1 ipos) spos) X.env) :: starEach [] X.env := by rfl) (hsi : zb7 (.Constant (.int n) j1 ipos) := by exact fun _ _ => rfl) : SQ X (.Call (.Name "len" q') [.Subscript (.Name x p') (.Constant (.int n) j1 ipos) spos] [] pos) (qLR j n) := by
  refine ⟨_, zf6 zc2 hg ml PySem.boot_len (zbi (zil ix_list (zbj hN hv hd hcd) zlU hsi) zdA he) (by decide) (by decide) he rfl, fun B G H σ ρ d Q I hm k => ?_⟩
  unfold qLR at hm
  split at hm
  . rename_i cs e
    split at hm
    . rename_i ds e2
      cases hm
      obtain ⟨v, A, h1, ⟨p, xs, A', rfl, g1, g2, rfl⟩, h3, h4⟩ := I.slot j _ e
      obtain ⟨w, A1, q1, ⟨l, ys, rfl, q2, q3, -⟩, -⟩ := zcK g2 e2
      have at1 : atI xs (n : Int) = some (.ref l) := by
        obtain ⟨hlt, hx⟩ := List.getElem?_eq_some_iff.mp q1
        unfold atI ixN
        simp [hlt, hx]
      refine ⟨.ref p, h1, p, xs, n, .ref l, rfl, rfl, SqL.of g1, at1, l, ys, rfl, .inl (SqL.of q2), ?_⟩
      rw [q3.length]
      exact k _ rfl
    . cases hm
  . cases hm
theorem zmq : PGet X (rIxL X.K) := by
 intro pins s σ H x y v u Q I rx ry h
 obtain ⟨p, xs, i, z, rfl, rfl, hq, he, q⟩ := h
 cases rx
 obtain ⟨t, rfl⟩ := ry
 obtain ⟨its, r, pl, hz⟩ := I.list hq
 obtain ⟨j, h1, h2, h3, h4, h5⟩ := zis he
 obtain ⟨w, ew, rw'⟩ := r.get h2
 have hl := r.length
 have hn := zhq
 have fin : EP X pins σ Q w s := ⟨z, H, I, rw', q⟩
 by_cases h0 : 0 <= i
 ·have hj : i.toNat = j := by
   rw [seqIndex_of h0 h5] at h1
   exact Option.some.inj h1
  exact wpAny_getItem_list pl.isList h0 (by omega) (by rw [hj]; simpa using ew) fin
 ·have hj : (i + (its.toArray.size : Int)).toNat = j := by
   rw [seqIndex_neg (by omega) h4] at h1
   rw [List.size_toArray, <- hl]
   exact Option.some.inj h1
  exact wpAny_getItem_list_neg pl.isList (by omega) (by rw [List.size_toArray] <;> omega) (by omega) (by rw [hj]; simpa using ew) fin
theorem ss_tAug (j : Nat) {mi mk me : MQ} (ha : SQ X a mi) (hb : SQ X b mk) (he : SQ X e me) (hN : X.N[j]? = some x := by rfl) (hv : Vis X.env.scope x := by first | exact Or.inl rfl | exact Or.inr (Or.inl rfl) | exact Or.inr (Or.inr rfl)) (hd : (x == ("__debug__" : Str)) = false := by decide)
  (hcd : (x == ("__classdict__" : Str)) = false := by decide) (hsa : zb7 a := by exact fun _ _ => rfl)
  (hau : ∀ ov iv new, augStore b ov iv new = (do holding [new, ov, iv] (setItem ov iv new); release [new, ov, iv] []; pure .next) := by intros; rfl) : SS X (.AugAssign (.Subscript (.Subscript (.Name x p') a q') b tpos) .Add e pos) (sTG j mi mk me) := by
 obtain ⟨ta, pa, sa⟩ := ha
 obtain ⟨tb, pb, sb⟩ := hb
 obtain ⟨te, pe, se⟩ := he
 refine ⟨_, ps_augS (zil ix_list (zbj hN hv hd hcd) pa hsa) pb zmq pe ip_add zg1 hau, fun B G H σ ρ fl ρ' E I hm k => ?_⟩
 obtain ⟨va, e1, hm⟩ := zac hm
 obtain ⟨vb, e2, hm⟩ := zac hm
 obtain ⟨vc, e3, hm⟩ := zac hm
 obtain ⟨n, rfl⟩ : ∃ n, va = .int n := by cases va <;> first | exact ⟨_, rfl⟩ | cases hm
 obtain ⟨m, rfl⟩ : ∃ n, vb = .int n := by cases vb <;> first | exact ⟨_, rfl⟩ | cases hm
 obtain ⟨z, rfl⟩ : ∃ n, vc = .int n := by cases vc <;> first | exact ⟨_, rfl⟩ | cases hm
 split at hm
 ·rename_i x1 x2 x3 x4 n' m' z' cs y1 y2 y3 e4
  cases y1; cases y2; cases y3
  obtain ⟨u, e5, hm⟩ := zac hm
  split at hm
  ·rename_i ds e6
   obtain ⟨w, e7, hm⟩ := zac hm
   split at hm
   ·rename_i yy e8
    cases hm
    obtain ⟨v0, A, q1, q2, q3, q4⟩ := I.slot j _ e4
    have q2' := q2
    obtain ⟨p, xs, A', rfl, g1, g2, rfl⟩ := q2
    obtain ⟨y, A1, j1, ⟨l, ys, rfl, j2, j3, j4⟩, j5⟩ := zcK g2 e6
    have lA : l ∈ A' := j5 l (by rw [j4]; simp)
    have nd := List.nodup_cons.mp q3
    obtain ⟨x0, x1, x2⟩ := j3.get e8
    refine ⟨.ref p, q1, sa B G H σ ρ _ _ I e1 fun v1 w1 => ?_⟩
    refine ⟨p, xs, n, .ref l, rfl, w1, SqL.of g1, ziL (by rw [zcR g2]; exact e5) j1, sb B G H σ ρ _ _ I e2 fun v2 w2 => ?_⟩
    refine ⟨l, ys, m, x0, rfl, w2, SqL.of j2, ziL (by rw [j3.length]; exact e7) x1, se B G H σ ρ _ _ I e3 fun v3 w3 => ?_⟩
    refine ⟨yy, z, x2, w3, l, ys, m, w, rfl, w2, j2, by rw [j3.length]; exact e7, ?_⟩
    have rep : RepT X.K G (upd H l (.lst (ys.set w (.int (yy + z))))) (.ref p) (.lst (cs.set u (.l (ds.set w (.int (yy + z)))))) (p :: A') :=
     ⟨p, xs, A', rfl, by rw [zap fun z => nd.1 (by rw [z]; exact lA)]; exact g1, zgs g2 nd.2 e6 j1 (j3.set w rfl), rfl⟩
    refine k G _ σ (I.chT2 e4 q1 q2' (I.fz.right (q4 l (by simp [lA])).1 _) (fun b o nb h => by rw [zap (fun z => nb (by rw [z]; simp [lA]))]; exact h) (fun b h => ?_) rep q3 fun a m => .inl m) (Fz.refl G)
    by_cases z : b = l
    ·subst z; rw [zas] at h; cases h
    ·rw [zap z] at h; exact h
   ·cases hm
  ·cases hm
 ·cases hm
end
def qAdd (ma mb : MQ) : MQ := fun ρ => (ma ρ).bind fun a => (mb ρ).bind fun b => match a, b with
 | .int i, .int j => some (.int (i + j))
 | _, _ => none
section
variable {X : Cx} {o e f a b : Expr} {td ty : TE} {apos cpos pos : Pos}
variable {x : Str} {mk : ME} {p' : Pos}
theorem zky (ha : SQ X a ma) (hb : SQ X b mb) : SQ X (.BinOp a .Add b pos) (qAdd ma mb) := by
 obtain ⟨ta, pa, sa⟩ := ha
 obtain ⟨tb, pb, sb⟩ := hb
 refine ⟨_, pe_op op_add pa pb, fun B G H σ ρ d Q I hm k => ?_⟩
 obtain ⟨va, e1, hm⟩ := zac hm
 obtain ⟨vb, e2, hm⟩ := zac hm
 obtain ⟨i, rfl⟩ : ∃ n, va = .int n := by cases va <;> first | exact ⟨_, rfl⟩ | cases hm
 obtain ⟨j, rfl⟩ : ∃ n, vb = .int n := by cases vb <;> first | exact ⟨_, rfl⟩ | cases hm
 cases hm
 refine sa B G H σ ρ _ _ I e1 fun v1 r1 => sb B G H σ ρ _ _ I e2 fun v2 r2 => ?_
 exact ⟨i, j, r1, r2, k _ rfl⟩
end
def zjL (b c : Nat) (ρ : R) : Bool := match ρ[b]?, ρ[c]? with
 | some (.par _), some (.par _) => zcY ((ρ.set b .emp).set c .emp)
 | _, _ => false
def zkF (b c : Nat) (g : D -> R -> Option R) (mt : MT) (me : ME) : D -> R -> Option (Option D × R) := fun d ρ => (g d ρ).bind fun ρ1 => (mt ρ1).bind fun p => if p.1 then (me p.2).bind fun q => if zjL b c q.2 then some (some q.1, q.2) else none else if zjL b c p.2 then some (none, p.2) else none
def oLC2 (cap : List Nat) (t b w c v : Nat) (mi : MA) (g : D -> R -> Option R) (mt : MT) (me : ME) : MO := fun ρ => (mi ρ).bind fun p => if p.1.length <= 16777216 then
  ((fzL (cap.filter fun i => i != w && i != v) p.2)[w]?).bind fun s => s.items.bind fun cs => ((fzL (cap.filter fun i => i != w && i != v) p.2)[v]?).bind fun s2 => s2.items.bind fun cs2 =>
   (zdq (zkF b c g mt me) p.1 (((capR cap t (fzL (cap.filter fun i => i != w && i != v) p.2)).set b (.par cs)).set c (.par cs2))).map fun q => (q.1, ((fzL (cap.filter fun i => i != w && i != v) p.2).set w (s.put (zgz b q.2))).set v (s2.put (zgz c q.2)))
 else none
theorem VS.siQ {cs cs2 : List D} {l l2 : Addr} {ys ys2 : List V} (h : VS K G σ ((ρ.set b .emp).set c .emp)) (fz : Fz G H) (hbc : b ≠ c) (ll : l ≠ l2)
  (hb : ρ[b]? = some (.par cs)) (hs : σ[b]? = some (some (.ref l))) (gl : G l = none) (hl : H l = some (.lst ys)) (r : RepL K G ys cs)
  (hb2 : ρ[c]? = some (.par cs2)) (hs2 : σ[c]? = some (some (.ref l2))) (gl2 : G l2 = none) (hl2 : H l2 = some (.lst ys2)) (r2 : RepL K G ys2 cs2) : SI K ⟨G, H, [(b, l), (c, l2)]⟩ G H σ ρ where
 fz := fz
 g0 := Fz.refl G
 new := fun b o e => .inl (by show G b ≠ none; rw [e]; simp)
 keep := fun b o e _ => e
 there := fun b e => e
 ob := fun i d m => by
  have : (i = b /\ d = l) \/ (i = c /\ d = l2) := by simpa using m
  rcases this with z | z
  ·rw [z.2]; show H l ≠ none; rw [hl]; simp
  ·rw [z.2]; show H l2 ≠ none; rw [hl2]; simp
 len := by rw [h.len, List.length_set, List.length_set]
 slot := fun i s e => by
  by_cases z : i = b
  ·subst z
   rw [hb] at e; cases e
   exact ⟨l, ys, hs, gl, hl, r, by simp⟩
  ·by_cases z2 : i = c
   ·subst z2
    rw [hb2] at e; cases e
    exact ⟨l2, ys2, hs2, gl2, hl2, r2, by simp⟩
   ·have e' : ((ρ.set b .emp).set c .emp)[i]? = some s := by rw [List.getElem?_set_ne (Ne.symm z2), List.getElem?_set_ne (Ne.symm z)]; exact e
    cases s with
    | emp => trivial
    | two _ _ => trivial
    | tre t => exact absurd rfl ((zfk h.no e').1 t)
    | ptr t => exact absurd rfl ((zfk h.no e').2 t)
    | val d => exact h.val i d e'
    | own ds => exact absurd ⟨_, ds, e', rfl⟩ (zfj h.no (i := i))
    | par ds => exact absurd ⟨_, ds, e', rfl⟩ (zfj h.no (i := i))
 dis := fun i j s t a hij e1 e2 w1 w2 => by
  have key : ∀ (i : Nat) (s : Sl), ρ[i]? = some s -> OwS K G H σ[i]? a s -> (i = b /\ a = l) \/ (i = c /\ a = l2) := fun i s e w => by
   by_cases z : i = b
   ·subst z
    rw [hb] at e; cases e
    have w : σ[i]? = some (some (.ref a)) := w
    rw [hs] at w
    exact .inl ⟨rfl, (V.ref.inj (Option.some.inj (Option.some.inj w))).symm⟩
   ·by_cases z2 : i = c
    ·subst z2
     rw [hb2] at e; cases e
     have w : σ[i]? = some (some (.ref a)) := w
     rw [hs2] at w
     exact .inr ⟨rfl, (V.ref.inj (Option.some.inj (Option.some.inj w))).symm⟩
    ·exact absurd w (ziI h.no (show ((ρ.set b .emp).set c .emp)[i]? = some s by rw [List.getElem?_set_ne (Ne.symm z2), List.getElem?_set_ne (Ne.symm z)]; exact e))
  rcases key i s e1 w1 with ⟨z1, z2⟩ | ⟨z1, z2⟩ <;> rcases key j t e2 w2 with ⟨y1, y2⟩ | ⟨y1, y2⟩
  ·exact hij (z1.trans y1.symm)
  ·exact ll (z2.symm.trans y2)
  ·exact ll (y2.symm.trans z2)
  ·exact hij (z1.trans y1.symm)
theorem VS.ofQ {l l2 : Addr} (I : SI K B G H σ ρ) (hbc : b ≠ c) (hO : B.O = [(b, l), (c, l2)]) (h : zjL b c ρ = true) :
  ∃ cs ys cs2 ys2, (ρ[b]? = some (.par cs) /\ σ[b]? = some (some (.ref l)) /\ G l = none /\ H l = some (.lst ys) /\ RepL K G ys cs) /\ (ρ[c]? = some (.par cs2) /\ σ[c]? = some (some (.ref l2)) /\ G l2 = none /\ H l2 = some (.lst ys2) /\ RepL K G ys2 cs2) /\ VS K G σ ((ρ.set b .emp).set c .emp) := by
 unfold zjL at h
 split at h
 ·rename_i cs cs2 e e2
  obtain ⟨l', ys, h1, h2, h3, h4, h5⟩ := I.slot b _ e
  obtain ⟨l2', ys2, k1, k2, k3, k4, k5⟩ := I.slot c _ e2
  have hl : l' = l := by
   rw [hO] at h5
   have : (b = b /\ l' = l) \/ (b = c /\ l' = l2) := by simpa using h5
   rcases this with z | z
   ·exact z.2
   ·exact absurd z.1 hbc
  have hl2 : l2' = l2 := by
   rw [hO] at k5
   have : (c = b /\ l2' = l) \/ (c = c /\ l2' = l2) := by simpa using k5
   rcases this with z | z
   ·exact absurd z.1.symm hbc
   ·exact z.2
  subst hl hl2
  refine ⟨cs, ys, cs2, ys2, ⟨e, h1, h2, h3, h4⟩, ⟨e2, k1, k2, k3, k4⟩, ⟨by rw [List.length_set, List.length_set]; exact I.len, h, fun i d e' => ?_⟩⟩
  rw [List.getElem?_set] at e'
  split at e'
  ·split at e'
   ·cases e'
   ·cases e'
  ·rw [List.getElem?_set] at e'
   split at e'
   ·split at e'
    ·cases e'
    ·cases e'
   ·exact I.slot i _ e'
 ·cases h
theorem nw_two {G H G' H' : Hp} {j j2 : Nat} {s s2 : Sl} {cs out cs2 out2 : List D} {l l2 p : Addr} (I : SI K B G H σ ρ) (jj : j ≠ j2) (e : ρ[j]? = some s) (q : s.items = some cs) (hl : σ[j]? = some (some (.ref l))) (e2 : ρ[j2]? = some s2) (q2 : s2.items = some cs2) (hl2 : σ[j2]? = some (some (.ref l2))) (hp : H p = none)
  (nw : ∀ b o, G' b = some o -> G b ≠ none \/ H b = none) (kp : ∀ b o, b ≠ l -> b ≠ l2 -> H b = some o -> H' b = some o) : Nw K G' H' σ ((ρ.set j (s.put out)).set j2 (s2.put out2)) p := fun i t et w => by
 obtain ⟨l', xs, e1, f2, e3, e4⟩ := I.wr e q
 rw [hl] at e1; cases e1
 obtain ⟨l', xs2, e1, f2', e3', e4'⟩ := I.wr e2 q2
 rw [hl2] at e1; cases e1
 have hpl : p ≠ l := fun z => by rw [z, e3] at hp; cases hp
 have hpl2 : p ≠ l2 := fun z => by rw [z, e3'] at hp; cases hp
 by_cases z2 : i = j2
 ·subst z2
  rw [List.getElem?_set, if_pos rfl] at et
  split at et
  ·cases et
   have := (zaE (zds q2 out2)).mp w
   rw [hl2] at this
   exact hpl2 (V.ref.inj (Option.some.inj (Option.some.inj this))).symm
  ·cases et
 ·rw [List.getElem?_set_ne (Ne.symm z2)] at et
  by_cases z : i = j
  ·subst z
   rw [List.getElem?_set, if_pos rfl] at et
   split at et
   ·cases et
    have := (zaE (zds q out)).mp w
    rw [hl] at this
    exact hpl (V.ref.inj (Option.some.inj (Option.some.inj this))).symm
   ·cases et
  ·rw [List.getElem?_set_ne (Ne.symm z)] at et
   have sl := I.slot i t et
   refine (sl.own (sl.back (fun a w g h => ?_) w)).2.1 hp
   have na : a ≠ l := fun w' => by subst w'; exact I.dis i j t s a z et e w ((zaE q).mpr hl)
   have na2 : a ≠ l2 := fun w' => by subst w'; exact I.dis i j2 t s2 a z2 et e2 w ((zaE q2).mpr hl2)
   obtain ⟨u, hu⟩ := Option.ne_none_iff_exists'.mp h
   refine ⟨?_, (kp a u na na2 hu).trans hu.symm⟩
   cases q3 : G' a with
   | none => rfl
   | some u =>
    rcases nw a u q3 with z | z
    ·exact absurd g z
    ·exact absurd z h
theorem grow_two {G H G' H' : Hp} {j j2 : Nat} {s s2 : Sl} {cs out cs2 out2 : List D} {l l2 : Addr} {ys ys2 : List V} (I : SI K B G H σ ρ) (jj : j ≠ j2) (e : ρ[j]? = some s) (q : s.items = some cs) (hl : σ[j]? = some (some (.ref l))) (e2 : ρ[j2]? = some s2) (q2 : s2.items = some cs2) (hl2 : σ[j2]? = some (some (.ref l2)))
  (f : Fz G G') (fz : Fz G' H') (nw : ∀ b o, G' b = some o -> G b ≠ none \/ H b = none) (kp : ∀ b o, b ≠ l -> b ≠ l2 -> H b = some o -> H' b = some o) (gl : G' l = none) (hl' : H' l = some (.lst ys)) (r : RepL K G' ys out) (gl2 : G' l2 = none) (hl2' : H' l2 = some (.lst ys2)) (r2 : RepL K G' ys2 out2) :
  SI K B G' H' σ ((ρ.set j (s.put out)).set j2 (s2.put out2)) := by
 obtain ⟨l', xs2, e1, f2', e3', e4'⟩ := I.wr e2 q2
 rw [hl2] at e1; cases e1
 have ll : l ≠ l2 := fun z => I.dis j j2 s s2 l jj e e2 ((zaE q).mpr hl) ((zaE q2).mpr (by rw [z]; exact hl2))
 have I1 := I.growW (G' := G') (H' := upd H' l2 (.lst xs2)) (out := out) e q hl f (fun b o h => by
  have : b ≠ l2 := fun z => by rw [z, gl2] at h; cases h
  rw [zap this]; exact fz b o h) nw (fun b o n h => by
  by_cases z : b = l2
  ·subst z; rw [zas]; rw [e3'] at h; exact h
  ·rw [zap z]; exact kp b o n z h) gl (by rw [zap ll]; exact hl') r
 have e2' : (ρ.set j (s.put out))[j2]? = some s2 := by rw [List.getElem?_set_ne jj]; exact e2
 exact I1.growW e2' q2 hl2 (Fz.refl _) fz (fun b o h => .inl (by rw [h]; simp)) (fun b o n h => by rw [zap n] at h; exact h) gl2 hl2' r2
structure LcQ (K : W.Frag) (bk ck : Nat) (g : D -> R -> Option R) (mt : MT) (me : ME) (items all : List D) (ρf : R) (G2 H1 : Hp) (DD l l2 : Addr) (i : Nat) (σc : St) (Hc Gc : Hp) (ρc : R) (acc : List D) (xs : List V) (rest cs : List D) (ys : List V) (cs2 : List D) (ys2 : List V) : Prop where
 fc : Fz G2 Gc
 fcH : Fz Gc Hc
 nw : ∀ b o, Gc b = some o -> G2 b ≠ none \/ H1 b = none
 kp : ∀ b o, b ≠ l -> b ≠ l2 -> H1 b = some o -> Hc b = some o
 gD : Gc DD = none
 hDc : Hc DD = some (.lst xs)
 ra : RepL K Gc xs acc
 hx : xs.length <= i
 pb : ρc[bk]? = some (.par cs) /\ σc[bk]? = some (some (.ref l)) /\ Gc l = none /\ Hc l = some (.lst ys) /\ RepL K Gc ys cs
 pc : ρc[ck]? = some (.par cs2) /\ σc[ck]? = some (some (.ref l2)) /\ Gc l2 = none /\ Hc l2 = some (.lst ys2) /\ RepL K Gc ys2 cs2
 vs : VS K Gc σc ((ρc.set bk .emp).set ck .emp)
 ec : zdq (zkF bk ck g mt me) (items.drop i) ρc = some (rest, ρf)
 eall : all = acc ++ rest
section
variable {X : Cx} {elt iter tg : Expr} {ifs : List Expr} {scope : Scope} {pos : Pos} {N : List Str} {cap : List Nat} {t bk wk ck vk : Nat} {mi : MA} {g : D -> R -> Option R} {mt : MT} {me : ME}
theorem zmy (hbw : cap[bk]? = some wk) (hcv : cap[ck]? = some vk) (hbc : bk ≠ ck) (hwv : wk ≠ vk) 
  (si : ∀ B G H σ ρ ds ρ' (Q : It -> Hp -> Prop), SI X.K B G H σ ρ -> mi ρ = some (ds, ρ') -> (∀ J G' H', SI X.K B G' H' σ ρ' -> Fz G G' -> Itm X.K J G' ds -> Q J H') -> wi σ H Q)
  (sg : ∀ C s H₀ fp B G H σ ρ v d ρ' (Q : St -> Hp -> Prop), SI X.K B G H σ ρ -> RepD X.K G v d -> g d ρ = some ρ' -> (∀ G' H' σ', SI X.K B G' H' σ' ρ' -> Fz G G' -> Q σ' H') -> tg' C s H₀ fp v σ H Q)
  (st : ∀ C s H₀ fp B G H σ ρ d ρ' (Q : Bool -> Hp -> Prop), SI X.K B G H σ ρ -> mt ρ = some (d, ρ') -> (∀ G' H', SI X.K B G' H' σ ρ' -> Fz G G' -> Q d H') -> tt C s H₀ fp σ H Q)
  (se : ∀ C s H₀ fp B G H σ ρ d ρ' (Q : VK), SI X.K B G H σ ρ -> me ρ = some (d, ρ') -> (∀ G' H' v, SI X.K B G' H' σ ρ' -> Fz G G' -> RepD X.K G' v d -> Q v H') -> te C s H₀ fp σ H Q) :
  ∀ B G H σ ρ ds ρ' (Q : VK), SI X.K B G H σ ρ -> oLC2 cap t bk wk ck vk mi g mt me ρ = some (ds, ρ') ->
   (∀ G' H' l xs, SI X.K B G' H' σ ρ' -> Fz G G' -> G' l = none -> H' l = some (.lst xs) -> RepL X.K G' xs ds -> B.H l = none -> Nw X.K G' H' σ ρ' l -> Q (.ref l) H') -> tLC (capσ cap t) wi tg' tt te σ H Q := by
 intro B G H σ ρ ds ρ' Q I hm k
 obtain ⟨⟨items, ρ1⟩, e1, hm⟩ := zac hm
 refine si B G H σ ρ items ρ1 _ I e1 fun J G1 H1 I1 f1 IT DD hD => ?_
 dsimp only at hm
 split at hm
 ·rename_i hlen
  obtain ⟨sw, ew, hm⟩ := zac hm
  obtain ⟨cs0, qw, hm⟩ := zac hm
  obtain ⟨sv, ev, hm⟩ := zac hm
  obtain ⟨cs1, qv, hm⟩ := zac hm
  obtain ⟨⟨all, ρf⟩, e2, e3⟩ := zau hm
  obtain ⟨rfl, rfl⟩ := Prod.mk.inj e3
  obtain ⟨G2, I2, f2⟩ := SI.fzL (cap.filter fun i => i != wk && i != vk) I1
  have hDG : G2 DD = none := I2.fz.free hD
  obtain ⟨l, ys0, hσ, gl0, hl0, rl0⟩ := I2.wr ew qw
  obtain ⟨l2, ys1, hσ2, gl1, hl1, rl1⟩ := I2.wr ev qv
  have ll : l ≠ l2 := fun z => I2.dis wk vk sw sv l hwv ew ev ((zaE qw).mpr hσ) ((zaE qv).mpr (by rw [z]; exact hσ2))
  have hlD : DD ≠ l := (zav hl0 hD).symm
  have hlD2 : DD ≠ l2 := (zav hl1 hD).symm
  have capAt : ∀ {b w : Nat} {q : Addr}, cap[b]? = some w -> σ[w]? = some (some (.ref q)) -> b < cap.length /\ (capσ cap t σ)[b]? = some (some (.ref q)) := fun {b w q} h1 h2 => by
   have hb : b < cap.length := (List.getElem?_eq_some_iff.mp h1).1
   have hbe : cap[b] = w := (List.getElem?_eq_some_iff.mp h1).2
   refine ⟨hb, ?_⟩
   unfold capσ
   rw [List.getElem?_append_left (by simpa using hb), List.getElem?_map, List.getElem?_eq_getElem hb, hbe]
   simp [h2]
  obtain ⟨hb, hσb⟩ := capAt hbw hσ
  obtain ⟨hb2, hσc⟩ := capAt hcv hσ2
  have lenR : (capR cap t (M.fzL (cap.filter fun i => i != wk && i != vk) ρ1)).length = cap.length + t := by unfold capR; simp
  have vs0 : VS X.K G2 (capσ cap t σ) (((((capR cap t (M.fzL (cap.filter fun i => i != wk && i != vk) ρ1)).set bk (.par cs0)).set ck (.par cs1)).set bk .emp).set ck .emp) := by
   rw [List.set_comm _ _ (Ne.symm hbc), List.set_set, List.set_set]
   exact ((zkl I2 cap t).setEmp bk).setEmp ck
  have start : LcQ X.K bk ck g mt me items all ρf G2 H1 DD l l2 0 (capσ cap t σ) (upd H1 DD (.lst [])) G2 (((capR cap t (M.fzL (cap.filter fun i => i != wk && i != vk) ρ1)).set bk (.par cs0)).set ck (.par cs1)) [] [] all cs0 ys0 cs1 ys1 := by
   refine ⟨Fz.refl _, I2.fz.right hDG _, fun b o e => .inl (by rw [e]; simp), fun b o _ _ e => by rw [zap (zav e hD)]; exact e, hDG, zas, .nil, Nat.le_refl _, ⟨?_, hσb, gl0, by rw [zap (zav hl0 hD)]; exact hl0, rl0⟩, ⟨?_, hσc, gl1, by rw [zap (zav hl1 hD)]; exact hl1, rl1⟩, vs0, by simpa using e2, rfl⟩
   ·rw [List.getElem?_set_ne (Ne.symm hbc), List.getElem?_set, if_pos rfl, if_pos (by rw [lenR]; omega)]
   ·rw [List.getElem?_set, if_pos rfl, if_pos (by rw [List.length_set, lenR]; omega)]
  refine ⟨fun i m σc Hc => m = items.length - i /\ i <= items.length /\ ∃ Gc ρc acc xs rest cs ys cs2 ys2, LcQ X.K bk ck g mt me items all ρf G2 H1 DD l l2 i σc Hc Gc ρc acc xs rest cs ys cs2 ys2,
   ⟨items.length, by simp, Nat.zero_le _, G2, ((capR cap t (M.fzL (cap.filter fun i => i != wk && i != vk) ρ1)).set bk (.par cs0)).set ck (.par cs1), [], [], all, cs0, ys0, cs1, ys1, start⟩, ?_⟩
  rintro i m σc Hc ⟨rfl, hi, Gc, ρc, acc, xs, rest, cs, ys, cs2, ys2, J0⟩
  obtain ⟨fc, fcH, nw, kp, gD, hDc, ra, hx, pb, pc, vs, ec, eall⟩ := J0
  by_cases hlt : i < items.length
  ·refine .inr ⟨IT.go Hc i (f2.trans (fc.trans fcH)) hlt, fun C s₀ H₀ fp x H' y => ?_⟩
   rw [List.drop_eq_getElem_cons hlt] at ec
   simp only [zdq] at ec
   obtain ⟨⟨o, ρ3⟩, h3, ec⟩ := zac ec
   obtain ⟨⟨rest2, ρ4⟩, h4, ec⟩ := zau ec
   obtain ⟨rfl, rfl⟩ := Prod.mk.inj ec
   dsimp only at h4
   unfold zkF at h3
   obtain ⟨ρ5, h5, h3⟩ := zac h3
   obtain ⟨⟨ok, ρ6⟩, h6, h3⟩ := zac h3
   dsimp only at h3
   have Ic : SI X.K ⟨Gc, Hc, [(bk, l), (ck, l2)]⟩ Gc Hc σc ρc := vs.siQ fcH hbc ll pb.1 pb.2.1 pb.2.2.1 pb.2.2.2.1 pb.2.2.2.2 pc.1 pc.2.1 pc.2.2.1 pc.2.2.2.1 pc.2.2.2.2
   have fz2 : Fz G1 Hc := f2.trans (fc.trans fcH)
   have yy := IT.yld Hc i x H' fz2 y items[i] (List.getElem?_eq_getElem hlt)
   have yy2 : (H' = Hc /\ RepD X.K Gc x items[i]) \/ ∃ p xs es, Hc p = none /\ H' = upd Hc p (.tup xs) /\ x = .ref p /\ items[i] = .tup es /\ RepL X.K Gc xs es := by
    rcases yy with ⟨a, b⟩ | ⟨p, xs, es, a, b, c, d, e⟩
    ·exact .inl ⟨a, b.mono (f2.trans fc)⟩
    ·exact .inr ⟨p, xs, es, a, b, c, d, e.mono (f2.trans fc)⟩
   obtain ⟨G3, I3, f3, r3⟩ := Ic.yld yy2
   refine sg C s₀ H₀ fp _ G3 H' σc ρc x items[i] ρ5 _ I3 r3 h5 fun G4 H4 σ4 I4 f4 => st C s₀ H₀ fp _ G4 H4 σ4 ρ5 ok ρ6 _ I4 h6 fun G5 H5 I5 f5 => ?_
   have facts : ∀ (G' H' : Hp) (σ' : St) (ρ' : R), SI X.K ⟨Gc, Hc, [(bk, l), (ck, l2)]⟩ G' H' σ' ρ' -> (∀ b o, G' b = some o -> G2 b ≠ none \/ H1 b = none) /\ (∀ b o, b ≠ l -> b ≠ l2 -> H1 b = some o -> H' b = some o) /\ G' DD = none /\ H' DD = some (.lst xs) := fun G' H' σ' ρ' I' => by
    refine ⟨fun b o e => ?_, fun b o ne ne2 e => I'.keep b o (kp b o ne ne2 e) (by simp; exact fun _ => ⟨fun _ => ne, fun _ => ne2⟩), ?_, I'.keep DD _ hDc (by simp; exact fun _ => ⟨fun _ => hlD, fun _ => hlD2⟩)⟩
    ·rcases I'.new b o e with h | h
     ·have h : Gc b ≠ none := h
      cases q : Gc b with
      | none => exact absurd q h
      | some u => exact nw b u q
     ·refine .inr ?_
      cases q : H1 b with
      | none => rfl
      | some u =>
       have hn : Hc b = none := h
       have nb : b ≠ l := fun z => by rw [z, pb.2.2.2.1] at hn; cases hn
       have nb2 : b ≠ l2 := fun z => by rw [z, pc.2.2.2.1] at hn; cases hn
       have := kp b u nb nb2 q
       rw [hn] at this; cases this
    ·cases q : G' DD with
     | none => rfl
     | some u =>
      rcases I'.new DD u q with h | h
      ·exact absurd gD h
      ·rw [show Hc DD = none from h] at hDc; cases hDc
   cases ok with
   | false =>
    simp only [Bool.false_eq_true, if_false] at h3
    split at h3
    ·rename_i hno
     cases h3
     obtain ⟨a1, a2, a3, a4⟩ := facts G5 H5 σ4 _ I5
     obtain ⟨cs', ys', cs2', ys2', w1, w2, w6⟩ := VS.ofQ I5 hbc rfl hno
     exact ⟨items.length - (i + 1), by omega, rfl, hlt, G5, _, acc, xs, rest2, cs', ys', cs2', ys2', { fc := fc.trans (f3.trans (f4.trans f5)), fcH := I5.fz, nw := a1, kp := a2, gD := a3, hDc := a4, ra := ra.mono (f3.trans (f4.trans f5)), hx := by omega, pb := w1, pc := w2, vs := w6, ec := h4, eall := by simpa using eall }⟩
    ·cases h3
   | true =>
    simp only [if_true] at h3 ⊢
    obtain ⟨⟨dv, ρ7⟩, h7, h3⟩ := zac h3
    dsimp only at h3
    split at h3
    ·rename_i hno
     cases h3
     refine se C s₀ H₀ fp _ G5 H5 σ4 ρ6 dv _ _ I5 h7 fun G6 H6 v I6 f6 r6 => ?_
     obtain ⟨a1, a2, a3, a4⟩ := facts G6 H6 σ4 _ I6
     obtain ⟨cs', ys', cs2', ys2', ⟨w1, w2, w3, w4, w5⟩, ⟨v1, v2, v3, v4, v5⟩, w6⟩ := VS.ofQ I6 hbc rfl hno
     have ff : Fz Gc G6 := f3.trans (f4.trans (f5.trans f6))
     exact ⟨xs, a4, by rw [sizeLine_eq]; omega, items.length - (i + 1), by omega, rfl, hlt, G6, _, acc ++ [dv], xs ++ [v], rest2, cs', ys', cs2', ys2', { fc := fc.trans ff, fcH := I6.fz.right a3 _, nw := a1, kp := fun b o ne ne2 e => by rw [zap (zav e hD)]; exact a2 b o ne ne2 e, gD := a3, hDc := zas, ra := (ra.mono ff).snoc r6, hx := by rw [List.length_append, List.length_singleton]; omega, pb := ⟨w1, w2, w3, by rw [zap (Ne.symm hlD)]; exact w4, w5⟩, pc := ⟨v1, v2, v3, by rw [zap (Ne.symm hlD2)]; exact v4, v5⟩, vs := w6, ec := h4, eall := by rw [eall]; simp }⟩
    ·cases h3
  ·have e : i = items.length := by omega
   subst e
   rw [List.drop_length] at ec
   obtain ⟨rfl, rfl⟩ := Prod.mk.inj (Option.some.inj ec)
   have hall : all = acc := by rw [eall, List.append_nil]
   refine .inl ⟨IT.stop Hc _ (f2.trans (fc.trans fcH)) (Nat.le_refl _), ?_⟩
   rw [<- hall] at ra
   have hp : zgz bk ρc = cs := by unfold zgz; rw [pb.1]
   have hp2 : zgz ck ρc = cs2 := by unfold zgz; rw [pc.1]
   rw [hp, hp2] at k
   exact k Gc Hc DD xs (grow_two I2 hwv ew qw hσ ev qv hσ2 fc fcH nw kp pb.2.2.1 pb.2.2.2.1 pb.2.2.2.2 pc.2.2.1 pc.2.2.2.1 pc.2.2.2.2) (f1.trans (f2.trans fc)) gD hDc ra (I2.there DD hD) (nw_two I2 hwv ew qw hσ ev qv hσ2 hD nw kp)
 ·cases hm
theorem so_lc2 (cap : List Nat) (t bk wk ck vk : Nat) (N : List Str) (hc : X.calm = true) (hi : SIt X tg iter mi) (hg : ∀ C s H fp, SG (cxC X N scope C s H fp) tg g) (ht : ∀ C s H fp, STs (cxC X N scope C s H fp) ifs mt) (he : ∀ C s H fp, SE (cxC X N scope C s H fp) elt me) (hbw : cap[bk]? = some wk := by rfl) (hcv : cap[ck]? = some vk := by rfl) (hbc : bk ≠ ck := by decide) (hwv : wk ≠ vk := by decide)
    (hk : scope.kind = .function := by rfl) (hb : blkB X.env scope = true := by kernel_rfl) (hcap : capB scope.names N X.N cap t = true := by kernel_rfl)
    (hs : ∀ x, foldedSetIterable iter X.env x = pure x := by exact fun _ => rfl) : SO X (.ListComp elt [⟨tg, iter, ifs, 0⟩] scope pos) (oLC2 cap t bk wk ck vk mi g mt me) := by
  obtain ⟨wi, pi, si⟩ := hi
  exact ⟨_, pe_lc hc (zhz hk hb) (zg6 hcap) pi (fun C s H fp => (hg C s H fp).choose_spec.1) (fun C s H fp => (ht C s H fp).choose_spec.1) (fun C s H fp => (he C s H fp).choose_spec.1) hs,
    zmy hbw hcv hbc hwv si (fun C s H fp => (hg C s H fp).choose_spec.2) (fun C s H fp => (ht C s H fp).choose_spec.2) (fun C s H fp => (he C s H fp).choose_spec.2)⟩
end
def ePop (j : Nat) (me : ME) : ME := fun ρ => if (ρ[j]?.bind Sl.items).isSome then (me ρ).bind fun p => match p.1 with
 | .int i => p.2[j]?.bind fun s => s.items.bind fun ds => if 0 <= i /\ i < ds.length /\ ds.length <= 16777216 then (ds[i.toNat]?).map fun d => (d, p.2.set j (s.put (ds.eraseIdx i.toNat))) else none
 | _ => none else none
theorem RepL.erase : ∀ {xs : List V} {ds : List D} (k : Nat), RepL K G xs ds -> RepL K G (xs.eraseIdx k) (ds.eraseIdx k)
 | _, [], _, h => by cases h; simp; rfl
 | _, d :: ds, 0, ⟨x, ys, e, a, b⟩ => by subst e; exact b
 | _, d :: ds, k + 1, ⟨x, ys, e, a, b⟩ => by subst e; exact ⟨x, _, rfl, a, RepL.erase k b⟩
section
variable {X : Cx} {x : Str} {e : Expr} {me : ME}
theorem se_pop (j : Nat) (he : SE X e me) (hN : X.N[j]? = some x := by rfl) (hv : Vis X.env.scope x := by first | exact Or.inl rfl | exact Or.inr (Or.inl rfl) | exact Or.inr (Or.inr rfl)) (hd : (x == ("__debug__" : Str)) = false := by decide)
  (hcd : (x == ("__classdict__" : Str)) = false := by decide)
  (hbase : attributeBase (.Name x p') "pop" X.env (eval (.Name x p') X.env) = eval (.Name x p') X.env := by rfl)
  (hfew : ((backTo cpos (starEach [e] X.env)).all (fun x => !x.1) && (backToKw cpos (keywordEach [] X.env)).all (fun x => x.1.isSome)
   && decide ([e].length + ([] : List Keyword).length + (if ([] : List Keyword).isEmpty then 0 else 1) < 30)) = true := by rfl)
  (hline : (apos.endLine == cpos.line) = true := by rfl) (hs : starEach [e] X.env = (false, eval e X.env) :: starEach [] X.env := by rfl) : SE X (.Call (.Attribute (.Name x p') "pop" apos) [e] [] cpos) (ePop j me) := by
 obtain ⟨t, p, s⟩ := he
 refine ⟨_, pe_bm PySem.F.plainAttrs_list PySem.F.slot_list_pop PySem.F.type_list_pop mt_popAt (zbj hN hv hd hcd) (zbi p zdA hs) hbase hfew hline hs rfl, fun B G H σ ρ d ρ' Q I hm k => ?_⟩
 unfold ePop at hm
 split at hm
 ·rename_i hso
  obtain ⟨ds0, hso⟩ := Option.isSome_iff_exists.mp hso
  obtain ⟨s0, e0, q0⟩ := zac hso
  obtain ⟨l, xs0, h1, h2, h3, h4⟩ := I.wr e0 q0
  obtain ⟨⟨dv, ρ1⟩, e1, hm⟩ := zac hm
  dsimp only at hm
  split at hm
  ·rename_i i
   obtain ⟨s1, e2, hm⟩ := zac hm
   obtain ⟨ds, e3, hm⟩ := zac hm
   split at hm
   ·rename_i hl
    obtain ⟨dd, e4, e5⟩ := zau hm
    obtain ⟨rfl, rfl⟩ := Prod.mk.inj e5
    refine ⟨.ref l, h1, .inl ⟨rfl, _, SqL.of h3⟩, s B G H σ ρ (.int i) ρ1 _ I e1 fun G1 H1 v I1 f1 r1 => ?_⟩
    obtain ⟨l', xs, k1, k2, k3, k4⟩ := I1.wr e2 e3
    rw [h1] at k1; cases k1
    cases (show v = .int i from r1)
    obtain ⟨y, hy, ry⟩ := k4.get e4
    have len := k4.length
    refine ⟨l, xs, i, i.toNat, y, rfl, rfl, k3, by omega, by omega, by unfold seqIndex?; simp; omega, hy, ?_⟩
    exact k G1 _ y (I1.write e2 e3 h1 (k4.erase i.toNat)) f1 ry
   ·cases hm
  ·cases hm
 ·cases hm
end
def sPk (jb jg jl : Nat) (mn mi mk : MQ) (me : ME) : MS := fun ρ => (mn ρ).bind fun d => match d, ρ[jb]?, ρ[jg]?, ρ[jl]? with
 | .int n, some _, some (.tre (.lst _)), some (.tre (.lst _)) => if n = 0 then sTP jg mi mk me (ρ.set jb .emp) else if n = 1 then sTP jl mi mk me (ρ.set jb .emp) else none
 | _, _, _, _ => none
section
variable {X : Cx} {xb xg xl : Str} {a b e ei : Expr} {mi mk mn : MQ} {me : ME} {m : MS}
theorem ps_putAs (jb : Nat) {p' q' tpos pos' : Pos} (he : SE X e me) (ha : SQ X a mi) (hb : SQ X b mk)
  (hib : X.N[jb]? = some xb) (hvb : Vis X.env.scope xb) (hdb : (xb == ("__debug__" : Str)) = false) (hcb : (xb == ("__classdict__" : Str)) = false) (hsa : zb7 a)
  (hq : ∀ v, assign (.Subscript (.Subscript (.Name xb p') a q') b tpos) X.env v = (do
   let ov <- holding [v] (eval (.Subscript (.Name xb p') a q') X.env)
   let iv <- holding [v, ov] (eval b X.env)
   standAt tpos
   holding [v, ov, iv] (setItem ov iv v)
   release [v, ov, iv] []))
  (hs : swapsWithSole [.Subscript (.Subscript (.Name xb p') a q') b tpos] e pos'.line X.env = pure false) (hw : swappedStores [.Subscript (.Subscript (.Name xb p') a q') b tpos] e X.env = pure none)
  (h1 : (assignEach [.Subscript (.Subscript (.Name xb p') a q') b tpos] X.env).map (·.2) = [assign (.Subscript (.Subscript (.Name xb p') a q') b tpos) X.env]) :
  ∃ T, PS X (.Assign [.Subscript (.Subscript (.Name xb p') a q') b tpos] e pos') T /\ ∀ (j : Nat) B G H σ ρ fl ρ' (E : Ends) (P : Addr), SI X.K B G H σ ρ -> σ[jb]? = some (some (.ref P)) -> σ[j]? = some (some (.ref P)) -> sTP j mi mk me ρ = some (fl, ρ') ->
   (∀ G' H', SI X.K B G' H' σ ρ' -> Fz G G' -> E.nx σ H') -> fl = .next /\ T E σ H := by
 obtain ⟨t, p, s⟩ := he
 obtain ⟨ta, pa, sa⟩ := ha
 obtain ⟨tb, pb, sb⟩ := hb
 refine ⟨_, zjh p (zmn (zil ix_list (zbj hib hvb hdb hcb) pa hsa) pb zg1 hq) hs hw h1, fun j B G H σ ρ fl ρ' E P I hσb hσj hm k => ?_⟩
 obtain ⟨⟨d, ρ1⟩, e1, hm⟩ := zac hm
 obtain ⟨va, e2, hm⟩ := zac hm
 obtain ⟨vb, e3, hm⟩ := zac hm
 dsimp only at hm e2 e3
 obtain ⟨n, rfl⟩ : ∃ n, va = .int n := by cases va <;> first | exact ⟨_, rfl⟩ | cases hm
 obtain ⟨m, rfl⟩ : ∃ m, vb = .int m := by cases vb <;> first | exact ⟨_, rfl⟩ | cases hm
 obtain ⟨cs, e4⟩ : ∃ cs, ρ1[j]? = some (.tre (.lst cs)) := by
  cases e : ρ1[j]? with
  | none => rw [e] at hm; cases hm
  | some s =>
   rw [e] at hm
   cases s with
   | tre t => cases t with
    | lst cs => exact ⟨cs, rfl⟩
    | _ => cases hm
   | _ => cases hm
 rw [e4] at hm
 obtain ⟨u, e5, hm⟩ := zac hm
 obtain ⟨ds, e6⟩ : ∃ ds, cs[u]? = some (.l ds) := by
  cases e : cs[u]? with
  | none => rw [e] at hm; cases hm
  | some c =>
   rw [e] at hm
   cases c with
   | l ds => exact ⟨ds, rfl⟩
   | _ => cases hm
 rw [e6] at hm
 obtain ⟨w, e7, hm⟩ := zac hm
 cases hm
 refine ⟨rfl, s B G H σ ρ d ρ1 _ I e1 fun G1 H1 v I1 f1 r1 => ?_⟩
 obtain ⟨v0, A, q1, q2, q3, q4⟩ := I1.slot j _ e4
 have q2' := q2
 obtain ⟨p, xs, A', rfl, g1, g2, rfl⟩ := q2
 have hP : P = p := by rw [hσj] at q1; exact V.ref.inj (Option.some.inj (Option.some.inj q1))
 subst hP
 obtain ⟨y, A1, j1, ⟨l, ys, rfl, j2, j3, j4⟩, j5⟩ := zcK g2 e6
 have lA : l ∈ A' := j5 l (by rw [j4]; simp)
 have nd := List.nodup_cons.mp q3
 refine ⟨.ref P, hσb, sa B G1 H1 σ ρ1 _ _ I1 e2 fun v1 w1 => ?_⟩
 refine ⟨P, xs, n, .ref l, rfl, w1, SqL.of g1, ziL (by rw [zcR g2]; exact e5) j1, sb B G1 H1 σ ρ1 _ _ I1 e3 fun v2 w2 => ?_⟩
 refine ⟨l, ys, m, w, rfl, w2, j2, by rw [j3.length]; exact e7, ?_⟩
 have rep : RepT X.K G1 (upd H1 l (.lst (ys.set w v))) (.ref P) (.lst (cs.set u (.l (ds.set w d)))) (P :: A') :=
  ⟨P, xs, A', rfl, by rw [zap fun z => nd.1 (by rw [z]; exact lA)]; exact g1, zgs g2 nd.2 e6 j1 (j3.set w r1), rfl⟩
 refine k G1 _ (I1.chT2 e4 q1 q2' (I1.fz.right (q4 l (by simp [lA])).1 _) (fun b o nb h => by rw [zap (fun z => nb (by rw [z]; simp [lA]))]; exact h) (fun b h => ?_) rep q3 fun a m => .inl m) f1
 by_cases z : b = l
 ·subst z; rw [zas] at h; cases h
 ·rw [zap z] at h; exact h
theorem sss_pick (jb jg jl : Nat) {rest : List Stmt} {p' q' tpos pos pos' pos1 p1 p2 p3 spos : Pos} {k3 : Nat} (hN : X.N.Nodup) (hg : jb ≠ jg) (hl : jb ≠ jl) (hn : SQ X ei mn) (he : SE X e me) (ha : SQ X a mi) (hb : SQ X b mk) (hr : SSs X rest m)
  (hib : X.N[jb]? = some xb := by rfl) (hxb : Loc X.env.scope xb := by first | exact Or.inl rfl | exact Or.inr rfl) (hfb : X.fn xb = true \/ X.env.scope.names.lookup xb = some .local := by first | exact Or.inl rfl | exact Or.inr rfl)
  (hvb : Vis X.env.scope xb := by first | exact Or.inl rfl | exact Or.inr (Or.inl rfl) | exact Or.inr (Or.inr rfl)) (hdb : (xb == ("__debug__" : Str)) = false := by decide) (hcb : (xb == ("__classdict__" : Str)) = false := by decide)
  (hig : X.N[jg]? = some xg := by rfl) (hvg : Vis X.env.scope xg := by first | exact Or.inl rfl | exact Or.inr (Or.inl rfl) | exact Or.inr (Or.inr rfl)) (hdg : (xg == ("__debug__" : Str)) = false := by decide) (hcg : (xg == ("__classdict__" : Str)) = false := by decide)
  (hil : X.N[jl]? = some xl := by rfl) (hvl : Vis X.env.scope xl := by first | exact Or.inl rfl | exact Or.inr (Or.inl rfl) | exact Or.inr (Or.inr rfl)) (hdl : (xl == ("__debug__" : Str)) = false := by decide) (hcl : (xl == ("__classdict__" : Str)) = false := by decide)
  (hs1 : starEach [.Name xg p1, .Name xl p2] X.env = (false, eval (.Name xg p1) X.env) :: starEach [.Name xl p2] X.env := by rfl) (hs2 : starEach [.Name xl p2] X.env = (false, eval (.Name xl p2) X.env) :: starEach [] X.env := by rfl)
  (hsw : swapsWith (.Subscript (.Tuple [.Name xg p1, .Name xl p2] k3 p3) ei spos) (some (.Name xb pos1)) pos.line X.env = pure false := by rfl)
  (hsi : zb7 ei := by exact fun _ _ => rfl) (hsa : zb7 a := by exact fun _ _ => rfl)
  (hq : ∀ v, assign (.Subscript (.Subscript (.Name xb p') a q') b tpos) X.env v = (do
   let ov <- holding [v] (eval (.Subscript (.Name xb p') a q') X.env)
   let iv <- holding [v, ov] (eval b X.env)
   standAt tpos
   holding [v, ov, iv] (setItem ov iv v)
   release [v, ov, iv] []) := by exact fun _ => rfl)
  (hs : swapsWithSole [.Subscript (.Subscript (.Name xb p') a q') b tpos] e pos'.line X.env = pure false := by rfl) (hw : swappedStores [.Subscript (.Subscript (.Name xb p') a q') b tpos] e X.env = pure none := by rfl)
  (h1 : (assignEach [.Subscript (.Subscript (.Name xb p') a q') b tpos] X.env).map (·.2) = [assign (.Subscript (.Subscript (.Name xb p') a q') b tpos) X.env] := by rfl) :
  SSs X (.Assign [.Name xb pos1] (.Subscript (.Tuple [.Name xg p1, .Name xl p2] k3 p3) ei spos) pos :: .Assign [.Subscript (.Subscript (.Name xb p') a q') b tpos] e pos' :: rest) (sSeq (sPk jb jg jl mn mi mk me) m) := by
 obtain ⟨T, pT, sT⟩ := ps_putAs (X := X) (pos' := pos') jb he ha hb hib hvb hdb hcb hsa hq hs hw h1
 obtain ⟨tn, pn, sn⟩ := hn
 obtain ⟨tr, pr, sr⟩ := hr
 refine ⟨_, ziH (zkj hN hib hxb (zil ix_tup (pe_tup (zbi (zbj hig hvg hdg hcg) (zbi (zbj hil hvl hdl hcl) zdA hs2) hs1)) pn hsi) hsw hfb) (ziH pT pr), fun B G H σ ρ fl ρ' E I hm k => ?_⟩
 obtain ⟨⟨f0, ρ0⟩, e0, hm⟩ := zac hm
 obtain ⟨dn, en, e0⟩ := zac e0
 split at e0
 ·rename_i n sb0 csg csl eb eg el
  obtain ⟨vg, Ag, gq1, gq2, gq3, gq4⟩ := I.slot jg _ eg
  obtain ⟨vl, Al, lq1, lq2, lq3, lq4⟩ := I.slot jl _ el
  obtain ⟨Pg, xsg, Ag', rfl, -, -, -⟩ := gq2
  obtain ⟨Pl, xsl, Al', rfl, -, -, -⟩ := lq2
  have jbl : jb < σ.length := by rw [I.len]; exact (List.getElem?_eq_some_iff.mp eb).1
  have fin : ∀ (j : Nat) (P : Addr) (H2 : Hp), jb ≠ j -> σ[j]? = some (some (.ref P)) -> SI X.K B G H2 σ ρ -> sTP j mi mk me (ρ.set jb .emp) = some (f0, ρ0) -> T { E with nx := fun σ1 H1 => tr E σ1 H1 } (σ.set jb (some (.ref P))) H2 := fun j P H2 hj hσ I2 hst => by
   have I3 := (I2.chg (i := jb) (ov := some (.ref P)) (s' := .emp) I2.fz (Fz.refl G) I2.new I2.keep I2.there (fun _ _ _ _ _ _ g _ => ⟨g, rfl, id⟩) trivial)
   have hf : f0 = .next := (sT j B G H2 _ _ f0 ρ0 ⟨fun _ _ => True, fun _ _ => True, fun _ _ => True, fun _ _ => True⟩ P I3 (by rw [List.getElem?_set, if_pos rfl, if_pos jbl]) (by rw [List.getElem?_set_ne hj]; exact hσ) hst fun _ _ _ _ => trivial).1
   subst hf
   exact (sT j B G H2 _ _ .next ρ0 _ P I3 (by rw [List.getElem?_set, if_pos rfl, if_pos jbl]) (by rw [List.getElem?_set_ne hj]; exact hσ) hst fun G' H' I4 f4 => sr B G' H' _ ρ0 fl ρ' E I4 hm (k.mono f4)).2
  refine ⟨.ref Pg, gq1, .ref Pl, lq1, by rw [sizeLine_eq]; exact (by decide : (2 : Nat) <= 16777216), fun p hp => ?_⟩
  have I1 := I.allocO hp (.tup [.ref Pg, .ref Pl])
  refine sn B G _ σ ρ _ _ I1 en fun v1 w1 => ?_
  split at e0
  ·rename_i hn0
   subst hn0
   exact ⟨p, [.ref Pg, .ref Pl], 0, .ref Pg, rfl, w1, SqT.of zas, rfl, fin jg Pg _ hg gq1 I1 e0⟩
  ·split at e0
   ·rename_i hn1
    subst hn1
    exact ⟨p, [.ref Pg, .ref Pl], 1, .ref Pl, rfl, w1, SqT.of zas, rfl, fin jl Pl _ hl lq1 I1 e0⟩
   ·cases e0
 ·cases e0
end
end M
namespace M
open L2 PySem
variable {c : Prop} {z : Bool} {Q : Fl × R -> Prop} {me m : ME} {b : MS} {f : D -> R -> Option (Option D × R)} {g : D -> R -> Option R} {mt : MT} {d : D} {ρ : R} {r : Sl} {i n j t N k : Nat} {h : List D -> R -> Option R} {ds : List D} {mi ma : MA} {F : List D -> Option Sl} {cap : List Nat} {I : R -> Prop}
structure Lock {α : Type} (Q : α -> Prop) : Type where
def Ok {α : Type} (o : Option α) (Q : α -> Prop) (l : Lock Q := ⟨⟩) : Prop := ∃ a, o = some a /\ Q a
section
variable {α β : Type} {o : Option α} {Q Q' : α -> Prop}
theorem ok_some {a : α} : Ok (some a) Q ↔ Q a := ⟨fun ⟨_, e, q⟩ => by cases e; exact q, fun q => ⟨a, rfl, q⟩⟩
theorem ok_none : Ok (none : Option α) Q ↔ False := ⟨fun ⟨_, e, _⟩ => (by cases e), False.elim⟩
theorem ok_bind {f : α -> Option β} {Q : β -> Prop} : Ok (o.bind f) Q ↔ Ok o fun a => Ok (f a) Q := by
 cases o with
 | none => exact ⟨fun ⟨_, e, _⟩ => (by cases e), fun ⟨_, e, _⟩ => (by cases e)⟩
 | some a => exact ⟨fun h => ⟨a, rfl, h⟩, fun ⟨_, e, h⟩ => by cases e; exact h⟩
theorem ok_map {f : α -> β} {Q : β -> Prop} : Ok (o.map f) Q ↔ Ok o fun a => Q (f a) := by
 cases o with
 | none => exact ⟨fun ⟨_, e, _⟩ => (by cases e), fun ⟨_, e, _⟩ => (by cases e)⟩
 | some a => exact ⟨fun h => ⟨a, rfl, ok_some.mp h⟩, fun ⟨_, e, h⟩ => by cases e; exact ok_some.mpr h⟩
theorem zeo [Decidable c] : Ok (if c then o else none) Q ↔ c /\ Ok o Q := by
 by_cases h : c
 ·rw [if_pos h]; exact ⟨fun k => ⟨h, k⟩, fun k => k.2⟩
 ·rw [if_neg h]; exact ⟨fun k => (ok_none.mp k).elim, fun k => absurd k.1 h⟩
theorem Ok.mono (h : Ok o Q) (k : ∀ a, Q a -> Q' a) : Ok o Q' := by obtain ⟨a, e, q⟩ := h; exact ⟨a, e, k a q⟩
theorem zaR {Q' : α -> Prop} (h : ∀ a, Q a ↔ Q' a) : Ok o Q ↔ Ok o Q' := ⟨fun ⟨a, e, q⟩ => ⟨a, e, (h a).mp q⟩, fun ⟨a, e, q⟩ => ⟨a, e, (h a).mpr q⟩⟩
end
section
variable {c : MT} {a b : MS} {ρ : R}
theorem zjr {α : Type} {o u : Option α} {Q : α -> Prop} : Ok (if z then o else u) Q ↔ (z = true -> Ok o Q) /\ (z = false -> Ok u Q) := by cases z <;> simp
theorem ok_sIf : Ok (sIf c a b ρ) Q ↔ Ok (c ρ) fun p => (p.1 = true -> Ok (a p.2) Q) /\ (p.1 = false -> Ok (b p.2) Q) := by
 unfold sIf; rw [ok_bind]; exact zaR fun p => zjr
theorem ok_eIf {a b : ME} {Q : D × R -> Prop} : Ok (eIf c a b ρ) Q ↔ Ok (c ρ) fun p => (p.1 = true -> Ok (a p.2) Q) /\ (p.1 = false -> Ok (b p.2) Q) := by
 unfold eIf; rw [ok_bind]; exact zaR fun p => zjr
theorem ok_tAnd {a b : MT} {Q : Bool × R -> Prop} : Ok (tAndM a b ρ) Q ↔ Ok (a ρ) fun p => (p.1 = true -> Ok (b p.2) Q) /\ (p.1 = false -> Q (false, p.2)) := by
 unfold tAndM; rw [ok_bind]; exact zaR fun p => by rw [zjr, ok_some]
theorem ok_tOr {a b : MT} {Q : Bool × R -> Prop} : Ok (tOrM a b ρ) Q ↔ Ok (a ρ) fun p => (p.1 = true -> Q (true, p.2)) /\ (p.1 = false -> Ok (b p.2) Q) := by
 unfold tOrM; rw [ok_bind]; exact zaR fun p => by rw [zjr, ok_some]
theorem ok_eAnd {a b : ME} {Q : D × R -> Prop} : Ok (eAnd a b ρ) Q ↔ Ok (a ρ) fun p => ∃ z, p.1 = .bl z /\ (z = true -> Ok (b p.2) Q) /\ (z = false -> Q (.bl false, p.2)) := by
 unfold eAnd; rw [ok_bind]
 have : ∀ p : D × R, Ok (match p.1 with
  | .bl true => b p.2
  | .bl false => some (.bl false, p.2)
  | _ => none) Q ↔ ∃ z, p.1 = .bl z /\ (z = true -> Ok (b p.2) Q) /\ (z = false -> Q (.bl false, p.2)) := by
  rintro ⟨d, ρ⟩
  cases d with
  | bl z => cases z <;> simp [ok_some]
  | _ => simp [ok_none]
 exact zaR this
theorem ok_eOr {a b : ME} {Q : D × R -> Prop} : Ok (eOr a b ρ) Q ↔ Ok (a ρ) fun p => ∃ z, p.1 = .bl z /\ (z = true -> Q (.bl true, p.2)) /\ (z = false -> Ok (b p.2) Q) := by
 unfold eOr; rw [ok_bind]
 have : ∀ p : D × R, Ok (match p.1 with
  | .bl true => some (.bl true, p.2)
  | .bl false => b p.2
  | _ => none) Q ↔ ∃ z, p.1 = .bl z /\ (z = true -> Q (.bl true, p.2)) /\ (z = false -> Ok (b p.2) Q) := by
  rintro ⟨d, ρ⟩
  cases d with
  | bl z => cases z <;> simp [ok_some]
  | _ => simp [ok_none]
 exact zaR this
theorem ok_chain {f g : D -> D -> Option D} {a b c : ME} {Q : D × R -> Prop} : Ok (zgV f g a b c ρ) Q ↔ Ok (a ρ) fun p => Ok (b p.2) fun q => Ok (f p.1 q.1) fun t => ∃ z, t = .bl z /\ (z = true -> Ok (c q.2) fun r => Ok (g q.1 r.1) fun d => Q (d, r.2)) /\ (z = false -> Q (.bl false, q.2)) := by
 unfold zgV; rw [ok_bind]
 have : ∀ (p q : D × R) (t : D), Ok (match t with
  | .bl true => (c q.2).bind fun r => (g q.1 r.1).map fun d => (d, r.2)
  | .bl false => some (.bl false, q.2)
  | _ => none) Q ↔ ∃ z, t = .bl z /\ (z = true -> Ok (c q.2) fun r => Ok (g q.1 r.1) fun d => Q (d, r.2)) /\ (z = false -> Q (.bl false, q.2)) := by
  intro p q t
  cases t with
  | bl z =>
   cases z
   ·simp [ok_some]
   ·simp only [ok_bind, D.bl.injEq, exists_eq_left', forall_const, reduceCtorEq, false_implies, and_true]
    exact zaR fun r => ok_map
  | _ => simp [ok_none]
 exact zaR fun p => by rw [ok_bind]; exact zaR fun q => by rw [ok_bind]; exact zaR fun t => this p q t
theorem ok_turnM {Q : Option D × R -> Prop} : Ok (zkH g mt me d ρ) Q ↔ Ok (g d ρ) fun ρ1 => Ok (mt ρ1) fun p => (p.1 = true -> Ok (me p.2) fun q => zcY q.2 = true /\ Q (some q.1, q.2)) /\ (p.1 = false -> zcY p.2 = true /\ Q (none, p.2)) := by
 unfold zkH; rw [ok_bind]; exact zaR fun ρ1 => by rw [ok_bind]; exact zaR fun p => by rw [zjr, ok_bind, zeo, ok_some]; exact and_congr (imp_congr Iff.rfl (zaR fun q => by rw [zeo, ok_some])) Iff.rfl
theorem ok_turnP {bk : Nat} {Q : Option D × R -> Prop} : Ok (zk6 bk g mt me d ρ) Q ↔ Ok (g d ρ) fun ρ1 => Ok (mt ρ1) fun p => (p.1 = true -> Ok (me p.2) fun q => zjF bk q.2 = true /\ Q (some q.1, q.2)) /\ (p.1 = false -> zjF bk p.2 = true /\ Q (none, p.2)) := by
 unfold zk6; rw [ok_bind]; exact zaR fun ρ1 => by rw [ok_bind]; exact zaR fun p => by rw [zjr, ok_bind, zeo, ok_some]; exact and_congr (imp_congr Iff.rfl (zaR fun q => by rw [zeo, ok_some])) Iff.rfl
theorem zkZ (n : Nat) : Int.natAbs (no_index (OfNat.ofNat n)) = n := rfl
end
section
theorem ok_sNext : Ok (zcC ρ) Q ↔ Q (.next, ρ) := ok_some
def SeqK (b : MS) (Q : Fl × R -> Prop) (p : Fl × R) : Prop := Ok (match p.1 with
 | .next => b p.2
 | f => some (f, p.2)) Q
theorem zlP : SeqK b Q (.next, ρ) ↔ Ok (b ρ) Q := Iff.rfl
theorem seqK_ret : SeqK b Q (.ret r, ρ) ↔ Q (.ret r, ρ) := ok_some
theorem seqK_brk : SeqK b Q (.brk, ρ) ↔ Q (.brk, ρ) := ok_some
theorem zlV : SeqK b Q (.cont, ρ) ↔ Q (.cont, ρ) := ok_some
theorem ok_sSeq {a b : MS} : Ok (sSeq a b ρ) Q ↔ Ok (a ρ) (SeqK b Q) := ok_bind
theorem ok_sExpr : Ok (sExpr m ρ) Q ↔ Ok (m ρ) fun p => Q (.next, p.2) := ok_map
theorem ok_sRet : Ok (sRet m ρ) Q ↔ Ok (m ρ) fun p => Q (.ret (.val p.1), p.2) := ok_map
theorem ok_sRetO {m : MO} : Ok (zju m ρ) Q ↔ Ok (m ρ) fun p => Q (.ret (.own p.1), p.2) := ok_map
theorem ok_sRetV : Ok (zjc i ρ) Q = Ok (match ρ[i]? with
 | some (.val d) => some (.ret (.val d), ρ)
 | some (.own ds) => some (.ret (.own ds), ρ.set i .emp)
 | _ => none) Q := rfl
theorem ok_gN {Q : R -> Prop} : Ok (gN i d ρ) Q ↔ Q (ρ.set i (.val d)) := ok_some
theorem ok_gsNil  {ds : List D} {ρ : R} {Q : R -> Prop} : Ok (zfm ds ρ) Q = Ok (match ds with
 | [] => some ρ
 | _ => none) Q := rfl
theorem zl1 {Q : R -> Prop} : Ok (zaN g h ds ρ) Q = Ok (match ds with
 | d :: ds => (g d ρ).bind fun ρ1 => h ds ρ1
 | [] => none) Q := rfl
theorem ok_gT {g : List D -> R -> Option R} {Q : R -> Prop} : Ok (gT n g d ρ) Q = Ok (match d with
 | .tup ds => if ds.length = n then g ds ρ else none
 | _ => none) Q := rfl
theorem ok_sAsg : Ok (sAsg m g ρ) Q ↔ Ok (m ρ) fun p => Ok (g p.1 p.2) fun ρ' => Q (.next, ρ') := ok_bind.trans (zaR fun _ => ok_map)
theorem ok_sSet : Ok (sSet i m ρ) Q ↔ Ok (m ρ) fun p => Q (.next, p.2.set i (.val p.1)) := ok_map
theorem ok_sSetO {m : MO} : Ok (zd6 i m ρ) Q ↔ Ok (m ρ) fun p => Q (.next, p.2.set i (.own p.1)) := ok_map
theorem ok_sApp : Ok (sApp i m ρ) Q = Ok (if (ρ[i]?.bind Sl.items).isSome then (m ρ).bind fun p => p.2[i]?.bind fun s => s.items.bind fun ds => if ds.length < 16777216 then some (.next, p.2.set i (s.put (ds ++ [p.1]))) else none else none) Q := rfl
theorem ok_sPut {mi me : ME} : Ok (sPut j mi me ρ) Q = Ok ((me ρ).bind fun p => if hasV p.2 j then (mi p.2).bind fun q => match q.1 with
 | .int k => q.2[j]?.bind fun s => s.items.bind fun ds => (ixN ds.length k).bind fun n => some (.next, q.2.set j (s.put (ds.set n p.1)))
 | _ => none else none) Q := rfl
theorem ok_eC {Q : D × R -> Prop} : Ok (eC d ρ) Q ↔ Q (d, ρ) := ok_some
theorem ok_eVar {Q : D × R -> Prop} : Ok (eVar i ρ) Q = Ok (match ρ[i]? with
 | some (.val d) => some (d, ρ)
 | some (.own ds) => some (.lst ds, ρ.set i (.val (.lst ds)))
 | _ => none) Q := rfl
theorem ok_aNil {Q : List D × R -> Prop} : Ok (aNil ρ) Q ↔ Q ([], ρ) := ok_some
theorem ok_aCons {r : MA} {Q : List D × R -> Prop} : Ok (zag m r ρ) Q ↔ Ok (m ρ) fun p => Ok (r p.2) fun q => Q (p.1 :: q.1, q.2) := ok_bind.trans (zaR fun _ => ok_map)
theorem ok_m2 {f : D -> D -> Option D} {ma mb : ME} {Q : D × R -> Prop} : Ok (m2 f ma mb ρ) Q ↔ Ok (ma ρ) fun p => Ok (mb p.2) fun q => Ok (f p.1 q.1) fun d => Q (d, q.2) := ok_bind.trans (zaR fun _ => ok_bind.trans (zaR fun _ => ok_map))
theorem ok_m1 {f : D -> Option D} {ma : ME} {Q : D × R -> Prop} : Ok (m1 f ma ρ) Q ↔ Ok (ma ρ) fun p => Ok (f p.1) fun d => Q (d, p.2) := ok_bind.trans (zaR fun _ => ok_map)
theorem ok_mC {f : List D -> Option D} {Q : D × R -> Prop} : Ok (mC f ma ρ) Q ↔ Ok (ma ρ) fun p => Ok (f p.1) fun d => Q (d, p.2) := ok_bind.trans (zaR fun _ => ok_map)
theorem ok_eIxV {mi : ME} {Q : D × R -> Prop} : Ok (eIxV j mi ρ) Q = Ok (if hasV ρ j then (mi ρ).bind fun p => (p.2[j]?.bind Sl.read).bind fun d => (dIx d p.1).map fun e => (e, p.2) else none) Q := rfl
theorem ok_eLenV {Q : D × R -> Prop} : Ok (zdS j ρ) Q = Ok ((ρ[j]?.bind Sl.read).bind fun d => (dLen [d]).map fun e => (e, ρ)) Q := rfl
theorem ok_oC {f : List D -> Option (List D)} {Q : List D × R -> Prop} : Ok (oC f ma ρ) Q ↔ Ok (ma ρ) fun p => Ok (f p.1) fun d => Q (d, p.2) := ok_bind.trans (zaR fun _ => ok_map)
theorem ok_eTup {Q : D × R -> Prop} : Ok (eTup ma ρ) Q ↔ Ok (ma ρ) fun p => p.1.length <= 16777216 /\ Q (.tup p.1, p.2) := ok_bind.trans (zaR fun _ => by rw [zeo, ok_some])
theorem ok_oLst {Q : List D × R -> Prop} : Ok (oLst ma ρ) Q ↔ Ok (ma ρ) fun p => p.1.length <= 16777216 /\ Q (p.1, p.2) := ok_bind.trans (zaR fun _ => by rw [zeo, ok_some])
theorem ok_tTru {ma : ME} {Q : Bool × R -> Prop} : Ok (tTru ma ρ) Q ↔ Ok (ma ρ) fun p => Ok (dTru p.1) fun b => Q (b, p.2) := ok_bind.trans (zaR fun _ => ok_map)
theorem ok_tNotM {a : MT} {Q : Bool × R -> Prop} : Ok (zhv a ρ) Q ↔ Ok (a ρ) fun p => Q (!p.1, p.2) := ok_map
theorem ok_eCall {Q : D × R -> Prop} : Ok (zaU F ma ρ) Q = Ok ((ma ρ).bind fun p => (F p.1).bind fun r => match r with
 | .val d => some (d, p.2)
 | .own ds => some (.lst ds, p.2)
 | _ => none) Q := rfl
theorem ok_oCall {Q : List D × R -> Prop} : Ok (oCall F ma ρ) Q = Ok ((ma ρ).bind fun p => (F p.1).bind fun r => match r with
 | .own ds => some (ds, p.2)
 | _ => none) Q := rfl
theorem zld {F : List D -> List D -> Option (Sl × List D)} {Q : D × R -> Prop} : Ok (za0 F j ma ρ) Q = Ok (if (ρ[j]?.bind Sl.items).isSome then (ma ρ).bind fun p => p.2[j]?.bind fun s => s.items.bind fun cs => (F cs p.1).bind fun r => match r.1 with
 | .val d => some (d, p.2.set j (s.put r.2))
 | .own ds => some (.lst ds, p.2.set j (s.put r.2))
 | _ => none else none) Q := rfl
theorem ok_iR2L {Q : List D × R -> Prop} : Ok (iR2L ma ρ) Q = Ok ((ma ρ).bind fun p => match p.1 with
 | [.int i, .int j] => some (zdc i (j - i).toNat, p.2)
 | _ => none) Q := rfl
theorem ok_eFz {m : MO} {Q : D × R -> Prop} : Ok (eFz m ρ) Q ↔ Ok (m ρ) fun p => Q (.lst p.1, p.2) := ok_map
theorem ok_eCut {ma : ME} {ml mh : MP} {Q : D × R -> Prop} : Ok (eCut ma ml mh ρ) Q = Ok ((ma ρ).bind fun p => (ml p.2).bind fun q => (mh q.2).bind fun r => (dCut p.1 q.1 r.1).map fun d => (d, r.2)) Q := rfl
theorem ok_pNo {Q : Option Int × R -> Prop} : Ok (pNo ρ) Q ↔ Q (none, ρ) := ok_some
theorem ok_pSome {Q : Option Int × R -> Prop} : Ok (zhE m ρ) Q = Ok ((m ρ).bind fun p => match p.1 with
 | .int i => some (some i, p.2)
 | _ => none) Q := rfl
theorem ok_iSeq {Q : List D × R -> Prop} : Ok (iSeq m ρ) Q ↔ Ok (m ρ) fun p => Ok (za9 [p.1]) fun ds => Q (ds, p.2) := ok_bind.trans (zaR fun _ => ok_map)
theorem ok_iR1 {Q : List D × R -> Prop} : Ok (iR1 ma ρ) Q = Ok ((ma ρ).bind fun p => match p.1 with
 | [.int j] => if zd4 j then some (zdc 0 j.toNat, p.2) else none
 | _ => none) Q := rfl
theorem ok_sFor {mb : MS} : Ok (sFor mi g mb ρ) Q ↔ Ok (mi ρ) fun p => Ok (forM (fun d ρ => (g d ρ).bind fun ρ' => mb ρ') p.1 p.2) Q := ok_bind
theorem ok_oLC {Q : List D × R -> Prop} : Ok (oLC cap t mi g mt me ρ) Q = Ok ((mi ρ).bind fun p => if p.1.length <= 16777216 then (zdq (zkH g mt me) p.1 (capR cap t (fzL cap p.2))).map fun q => (q.1, fzL cap p.2) else none) Q := rfl
theorem ok_oR {m : MA} {Q : List D × R -> Prop} : Ok (oR m ρ) Q = Ok ((m ρ).bind fun p => if p.1.length <= 16777216 then some p else none) Q := rfl
theorem ok_tTrue {Q : Bool × R -> Prop} : Ok (zbB ρ) Q ↔ Q (true, ρ) := ok_some
theorem ok_eIsI {T : String} {ma : ME} {Q : D × R -> Prop} : Ok (eIsI T ma ρ) Q = Ok ((ma ρ).bind fun p => if okT T && eIsI.noS1 p.1 then some (.bl (isI T p.1), p.2) else none) Q := rfl
theorem ok_oRep {ma mb : ME} {Q : List D × R -> Prop} : Ok (oRep ma mb ρ) Q = Ok ((ma ρ).bind fun p => (mb p.2).bind fun q => match p.1, q.1 with
 | .lst xs, .int k => if zd4 k && decide (xs.length * k.toNat <= 16777216) then some ((List.replicate k.toNat xs).flatten, q.2) else none
 | _, _ => none) Q := rfl
theorem ok_iZ2 {Q : List D × R -> Prop} : Ok (iZ2 ma ρ) Q = Ok ((ma ρ).bind fun p => match p.1 with
 | [a, b] => (za9 [a]).bind fun xs => (za9 [b]).bind fun ys => some (zjS xs ys, p.2)
 | _ => none) Q := rfl
theorem ok_iEn {Q : List D × R -> Prop} : Ok (iEn ma ρ) Q = Ok ((ma ρ).bind fun p => (za9 p.1).map fun xs => (zjx xs, p.2)) Q := rfl
theorem ok_oLCM {t b w : Nat} {Q : List D × R -> Prop} : Ok (oLCM cap t b w mi g mt me ρ) Q = Ok ((mi ρ).bind fun p => if p.1.length <= 16777216 then
    ((fzL (cap.filter (· != w)) p.2)[w]?).bind fun s => s.items.bind fun cs => (zdq (zk6 b g mt me) p.1 ((capR cap t (fzL (cap.filter (· != w)) p.2)).set b (.par cs))).map fun q => (q.1, (fzL (cap.filter (· != w)) p.2).set w (s.put (zgz b q.2)))
  else none) Q := rfl
theorem ok_fP {m : MS} {Q : Sl -> Prop} : Ok (fP N m ds) Q = Ok ((m (ds.map .val ++ List.replicate (N - ds.length) .emp)).bind fun p => match p.1 with
 | .ret r => some r
 | .next => some (.val .non)
 | _ => none) Q := rfl
theorem ok_fM {m : MS} {cs : List D} {Q : Sl × List D -> Prop} : Ok (fM N m cs ds) Q = Ok ((m (.par cs :: (ds.map .val ++ List.replicate (N - (ds.length + 1)) .emp))).bind fun p => match p.1, (p.2[0]? : Option Sl) with
 | Fl.ret r, some (Sl.par out) => some (r, out)
 | Fl.next, some (Sl.par out) => some (.val .non, out)
 | _, _ => none) Q := rfl
end
def Turn (I : R -> Prop) (Q : Fl × R -> Prop) (p : Fl × R) : Prop := match p.1 with
 | .next => I p.2
 | .cont => I p.2
 | .brk => Q (.next, p.2)
 | .ret r => Q (.ret r, p.2)
theorem zmg : Turn I Q (.next, ρ) ↔ I ρ := Iff.rfl
theorem zmr : Turn I Q (.cont, ρ) ↔ I ρ := Iff.rfl
theorem turn_brk : Turn I Q (.brk, ρ) ↔ Q (.next, ρ) := Iff.rfl
theorem turn_ret : Turn I Q (.ret r, ρ) ↔ Q (.ret r, ρ) := Iff.rfl
theorem zln {α : Type} {f : D -> R -> Option (Fl × R)} (enc : α -> D) (I : Nat -> R -> Prop) : ∀ (l : List α) (b : Nat) (ρ : R), I b ρ ->
  (∀ i a ρ, l[i]? = some a -> I (b + i) ρ -> Ok (f (enc a) ρ) (Turn (I (b + i + 1)) Q)) -> (∀ ρ, I (b + l.length) ρ -> Q (.next, ρ)) -> Ok (forM f (l.map enc) ρ) Q
 | [], b, ρ, h0, _, hq => ok_some.mpr (hq ρ h0)
 | a :: l, b, ρ, h0, hs, hq => by
  obtain ⟨p, e, t⟩ := hs 0 a ρ rfl h0
  obtain ⟨fl, ρ1⟩ := p
  have go : ∀ ρ1, I (b + 1) ρ1 -> Ok (forM f (l.map enc) ρ1) Q := fun ρ1 h1 => zln enc I l (b + 1) ρ1 h1 (fun i a' ρ' hi hp => by
   have := hs (i + 1) a' ρ' (by simpa using hi) (by rw [show b + (i + 1) = b + 1 + i by omega]; exact hp)
   rw [show b + (i + 1) + 1 = b + 1 + i + 1 by omega] at this
   exact this) (fun ρ h => hq ρ (by rw [List.length_cons, show b + (l.length + 1) = b + 1 + l.length by omega]; exact h))
  have e' : forM f ((a :: l).map enc) ρ = (f (enc a) ρ).bind fun p => match p.1 with
   | .next => forM f (l.map enc) p.2
   | .cont => forM f (l.map enc) p.2
   | .brk => some (.next, p.2)
   | .ret r => some (.ret r, p.2) := rfl
  rw [e', e]
  cases fl with
  | next => exact go ρ1 t
  | cont => exact go ρ1 t
  | brk => exact ok_some.mpr t
  | ret r => exact ok_some.mpr t
theorem ok_for {α : Type} {f : D -> R -> Option (Fl × R)} {enc : α -> D} {l : List α} (I : Nat -> R -> Prop) (h0 : I 0 ρ)
  (hs : ∀ i a ρ, l[i]? = some a -> I i ρ -> Ok (f (enc a) ρ) (Turn (I (i + 1)) Q)) (hq : ∀ ρ, I l.length ρ -> Q (.next, ρ)) : Ok (forM f (l.map enc) ρ) Q :=
 zln enc I l 0 ρ h0 (fun i a ρ hi h => by rw [Nat.zero_add] at h ⊢; exact hs i a ρ hi h) (fun ρ h => hq ρ (by rw [Nat.zero_add] at h; exact h))
theorem ziW {α : Type} (enc : α -> D) {Q : List D × R -> Prop} (I : Nat -> List D -> R -> Prop) : ∀ (l : List α) (b : Nat) (acc : List D) (ρ : R), I b acc ρ ->
  (∀ i a acc ρ, l[i]? = some a -> I (b + i) acc ρ -> Ok (f (enc a) ρ) fun p => I (b + i + 1) (acc ++ p.1.toList) p.2) -> (∀ ds ρ, I (b + l.length) (acc ++ ds) ρ -> Q (ds, ρ)) -> Ok (zdq f (l.map enc) ρ) Q
 | [], b, acc, ρ, h0, _, hq => ok_some.mpr (hq [] ρ (by rw [List.append_nil]; exact h0))
 | a :: l, b, acc, ρ, h0, hs, hq => by
  obtain ⟨p, e, t⟩ := hs 0 a acc ρ rfl h0
  have go := ziW enc (Q := fun q => Q (p.1.toList ++ q.1, q.2)) I l (b + 1) (acc ++ p.1.toList) p.2 t (fun i a' acc' ρ' hi hp => by
   have := hs (i + 1) a' acc' ρ' (by simpa using hi) (by rw [show b + (i + 1) = b + 1 + i by omega]; exact hp)
   rw [show b + (i + 1) + 1 = b + 1 + i + 1 by omega] at this
   exact this) (fun ds ρ h => hq _ ρ (by rw [List.length_cons, show b + (l.length + 1) = b + 1 + l.length by omega, <- List.append_assoc]; exact h))
  have e' : zdq f ((a :: l).map enc) ρ = (f (enc a) ρ).bind fun p => (zdq f (l.map enc) p.2).map fun q => (p.1.toList ++ q.1, q.2) := rfl
  rw [e', e]
  exact ok_map.mpr go
theorem zj0 {α : Type} {enc : α -> D} {l : List α} {Q : List D × R -> Prop} (I : Nat -> List D -> R -> Prop) (h0 : I 0 [] ρ)
  (hs : ∀ i a acc ρ, l[i]? = some a -> I i acc ρ -> Ok (f (enc a) ρ) fun p => I (i + 1) (acc ++ p.1.toList) p.2) (hq : ∀ ds ρ, I l.length ds ρ -> Q (ds, ρ)) : Ok (zdq f (l.map enc) ρ) Q :=
 ziW enc I l 0 [] ρ h0 (fun i a acc ρ hi h => by rw [Nat.zero_add] at h ⊢; exact hs i a acc ρ hi h) (fun ds ρ h => hq ds ρ (by rw [Nat.zero_add] at h; exact h))
theorem ok_compF {α : Type} {enc : α -> D} {l : List α} {Q : List D × R -> Prop} (P : R -> Prop) (g : α -> Option D) (h0 : P ρ)
  (hs : ∀ a ρ, a ∈ l -> P ρ -> Ok (f (enc a) ρ) fun p => p.1 = g a /\ P p.2) (hq : ∀ ρ, P ρ -> Q (l.filterMap g, ρ)) : Ok (zdq f (l.map enc) ρ) Q :=
 zj0 (fun i ds ρ => ds = (l.take i).filterMap g /\ P ρ) ⟨rfl, h0⟩ (fun i a acc ρ hi ⟨e, p⟩ => by
  refine (hs a ρ (List.mem_of_getElem? hi) p).mono fun r h => ⟨?_, h.2⟩
  obtain ⟨h1, h2⟩ := List.getElem?_eq_some_iff.mp hi
  rw [h.1, e, List.take_add_one, hi, List.filterMap_append]
  cases q : g a <;> simp [q]) (fun ds ρ ⟨e, p⟩ => by rw [List.take_length] at e; rw [e]; exact hq ρ p)
theorem ok_comp {α : Type} {enc : α -> D} {l : List α} {Q : List D × R -> Prop} (P : R -> Prop) (g : α -> D) (h0 : P ρ)
  (hs : ∀ a ρ, a ∈ l -> P ρ -> Ok (f (enc a) ρ) fun p => p.1 = some (g a) /\ P p.2) (hq : ∀ ρ, P ρ -> Q (l.map g, ρ)) : Ok (zdq f (l.map enc) ρ) Q :=
 ok_compF P (fun a => some (g a)) h0 hs (fun ρ p => by rw [<- Function.comp_def some g, List.filterMap_eq_map]; exact hq ρ p)
theorem dEq_int (i j : Int) : dEq (.int i) (.int j) = some (.bl (i == j)) := by
 unfold dEq
 rw [show noS (.int i) = true from rfl, show noS (.int j) = true from rfl, show depth (.int i) = 0 from rfl]
 rfl
theorem zl0 (i j : Int) : dNe (.int i) (.int j) = some (.bl (i != j)) := by
 unfold dNe
 rw [show noS (.int i) = true from rfl, show noS (.int j) = true from rfl, show depth (.int i) = 0 from rfl]
 rfl
theorem atI_n {α : Type} (xs : List α) (i : Nat) : atI xs (i : Int) = xs[i]? := by
 unfold atI ixN
 rw [if_pos (by omega)]
 by_cases h : i < xs.length
 ·rw [if_pos (by omega)]; simp
 ·rw [if_neg (by omega)]; simp [List.getElem?_eq_none (by omega : xs.length <= i)]
theorem atI_lit {α : Type} (xs : List α) (n : Nat) : atI xs (no_index (@OfNat.ofNat Int n _)) = xs[n]? := atI_n xs n
theorem atI_n1 {α : Type} (xs : List α) (i : Nat) : atI xs ((i : Int) + 1) = xs[i + 1]? := atI_n xs (i + 1)
theorem ixN_n (n i : Nat) : ixN n (i : Int) = if i < n then some i else none := by
 unfold ixN
 rw [if_pos (by omega)]
 by_cases h : i < n
 ·rw [if_pos (by omega), if_pos h]; simp
 ·rw [if_neg (by omega), if_neg h]
theorem ixN_lit (n i : Nat) : ixN n (no_index (@OfNat.ofNat Int i _)) = if i < n then some i else none := ixN_n n i
theorem zkk {α : Type} (xs : List α) (x : α) : atI (xs ++ [x]) (-1) = some x := by
 unfold atI ixN
 rw [if_neg (by omega), if_pos (by simp; omega)]
 have : (-1 + ((xs ++ [x]).length : Int)).toNat = xs.length := by simp; omega
 simp only [Option.bind_some, this]
 simp
theorem zb9 {i j : Int} (h : i.natAbs < 18446744073709551616) : zh5 i j = true := by
 unfold zh5
 have : decide (i.natAbs < 2 ^ 64) = true := decide_eq_true h
 rw [this]; rfl
theorem mulOk_r {i j : Int} (h : j.natAbs < 18446744073709551616) : zh5 i j = true := by
 unfold zh5
 have : decide (j.natAbs < 2 ^ 64) = true := decide_eq_true h
 rw [this]; simp
theorem zaC {j : Int} (h1 : -1000000000000 <= j) (h2 : j <= 1000000000000) : zd4 j = true := by
 unfold zd4; rw [decide_eq_true h1, decide_eq_true h2]; rfl
def wL (n : Nat) (f : Nat -> D) : List D := (List.range n).map f
abbrev wI (n : Nat) (f : Nat -> Int) : List D := wL n fun i => .int (f i)
theorem za8 (n : Nat) (f : Nat -> D) : (wL n f).length = n := by simp [wL]
theorem zan (f : Nat -> D) (h : i < n) : (wL n f)[i]? = some (f i) := by simp [wL, h]
theorem za1 (n : Nat) (f : Nat -> D) : wL (n + 1) f = wL n f ++ [f n] := by simp [wL, List.range_succ]
theorem zbp {f g : Nat -> D} (h : ∀ i, i < n -> f i = g i) : wL n f = wL n g := List.map_congr_left fun i hi => h i (List.mem_range.mp hi)
theorem wL_snoc (n : Nat) (f : Nat -> D) (x : D) : wL n f ++ [x] = wL (n + 1) fun j => if j < n then f j else x := by
 rw [za1]; congr 1
 ·exact zbp fun i hi => by rw [if_pos hi]
 ·rw [if_neg (by omega)]
theorem wL_set (f : Nat -> D) (x : D) (h : i < n) : (wL n f).set i x = wL n fun j => if j = i then x else f j := by
 apply List.ext_getElem?
 intro j
 by_cases hj : j < n
 ·rw [zan _ hj, List.getElem?_set]
  by_cases e : i = j
  ·subst e; simp [za8, h]
  ·simp [e, zan _ hj, Ne.symm e]
 ·rw [List.getElem?_eq_none (by simp [za8]; omega), List.getElem?_eq_none (by simp [za8]; omega)]
theorem zlx (f : Nat -> D) : atI (wL (n + 1) f) (-1) = some (f n) := by rw [za1]; exact zkk _ _
theorem ziD (n : Nat) (f : Nat -> D) : zjx (wL n f) = wL n fun i => .tup [.int (i : Nat), f i] := by
 apply List.ext_getElem?
 intro j
 unfold zjx
 by_cases hj : j < n
 ·rw [List.getElem?_zipWith, zan _ hj, zan _ hj]
  simp [za8, hj]
 ·rw [List.getElem?_eq_none (by simp [za8]; omega), List.getElem?_eq_none (by simp [za8]; omega)]
theorem zip2D_w (n : Nat) (f g : Nat -> D) : zjS (wL n f) (wL n g) = wL n fun i => .tup [f i, g i] := by
 apply List.ext_getElem?
 intro j
 unfold zjS
 by_cases hj : j < n
 ·rw [List.getElem?_zipWith, zan _ hj, zan _ hj, zan _ hj]
 ·rw [List.getElem?_eq_none (by simp [za8]; omega), List.getElem?_eq_none (by simp [za8]; omega)]
theorem zkB {α : Type} (xs : List α) (i : Nat) : cutD xs none (some (i : Int)) = xs.take i := by
 unfold cutD
 rw [HT.zih, HT.zj5, Nat.sub_zero, List.drop_zero]
 by_cases h : i <= xs.length
 ·rw [Nat.min_eq_left h]
 ·rw [Nat.min_eq_right (by omega), List.take_of_length_le (Nat.le_refl _), List.take_of_length_le (by omega)]
theorem zkE {α : Type} (xs : List α) (i : Nat) : cutD xs (some (i : Int)) none = xs.drop i := by
 unfold cutD
 rw [HT.zih, HT.zj5]
 by_cases h : i <= xs.length
 ·rw [Nat.min_eq_left h, List.take_of_length_le (by simp)]
 ·rw [Nat.min_eq_right (by omega), List.drop_of_length_le (Nat.le_refl _), List.drop_of_length_le (by omega)]; simp
theorem zdQ : ∀ (l : List Int), zbO (l.map .int) = some l
 | [] => rfl
 | i :: l => by simp [zbO, zdQ l]
mutual
theorem zh1 : ∀ (d : D), noS d = true -> eqB d d = true
 | .non, _ => rfl
 | .bl b, _ => by simp [eqB]
 | .int i, _ => by simp [eqB]
 | .str s, _ => by simp [eqB]
 | .lst ds, h => by simp only [eqB]; exact zha ds (by simpa [noS] using h)
 | .tup ds, h => by simp only [eqB]; exact zha ds (by simpa [noS] using h)
 | .scr _, h => by simp [noS] at h
 | .exc _, h => by simp [noS] at h
theorem zha : ∀ (ds : List D), noSL ds = true -> eqBL ds ds = true
 | [], _ => rfl
 | d :: ds, h => by
  simp only [noSL, Bool.and_eq_true] at h
  simp only [eqBL, Bool.and_eq_true]
  exact ⟨zh1 d h.1, zha ds h.2⟩
end
theorem dEq_same (h : noS d = true) (k : depth d <= 50) : dEq d d = some (.bl true) := by simp [dEq, h, k, zh1 d h]
theorem dNe_same (h : noS d = true) (k : depth d <= 50) : dNe d d = some (.bl false) := by simp [dNe, h, k, zh1 d h]
theorem zlj : ∀ {ds : List D}, (∀ d ∈ ds, noS d = true) -> noSL ds = true
 | [], _ => rfl
 | d :: ds, h => by simp only [noSL, Bool.and_eq_true]; exact ⟨h d List.mem_cons_self, zlj fun e he => h e (List.mem_cons_of_mem _ he)⟩
theorem zji : ∀ {ds : List D}, (∀ d ∈ ds, depth d <= k) -> zfx ds <= k
 | [], _ => Nat.zero_le _
 | d :: ds, h => by simp only [zfx]; exact Nat.max_le.mpr ⟨h d List.mem_cons_self, zji fun e he => h e (List.mem_cons_of_mem _ he)⟩
def Pl (k : Nat) (d : D) : Prop := noS d = true /\ depth d <= k
theorem zlS (k : Nat) (i : Int) : Pl k (.int i) := ⟨rfl, Nat.zero_le _⟩
theorem zkz (h : ∀ d ∈ ds, Pl k d) : Pl (k + 1) (.tup ds) := ⟨by simp only [noS]; exact zlj fun d hd => (h d hd).1, by simp only [depth]; exact Nat.succ_le_succ (zji fun d hd => (h d hd).2)⟩
theorem pl_w {f : Nat -> D} (h : ∀ i, Pl k (f i)) : ∀ d ∈ wL n f, Pl k d := fun d hd => by
 obtain ⟨i, _, rfl⟩ := List.mem_map.mp hd; exact h i
theorem Pl.eq (h : Pl k d) (l : k <= 50) : dEq d d = some (.bl true) := dEq_same h.1 (Nat.le_trans h.2 l)
theorem Pl.ne (h : Pl k d) (l : k <= 50) : dNe d d = some (.bl false) := dNe_same h.1 (Nat.le_trans h.2 l)
theorem rangeD_w (n : Nat) : zdc 0 n = wL n fun i => .int (i : Nat) := by unfold zdc wL; simp only [Int.zero_add]
section
variable {n : Nat} {e : Nat -> D} {ρ : R}
theorem zaS {f : D -> R -> Option (Fl × R)} (I : Nat -> R -> Prop) (h0 : I 0 ρ)
  (hs : ∀ i ρ, i < n -> I i ρ -> Ok (f (e i) ρ) (Turn (I (i + 1)) Q)) (hq : ∀ ρ, I n ρ -> Q (.next, ρ)) : Ok (forM f (wL n e) ρ) Q :=
 ok_for (enc := e) (l := List.range n) I h0 (fun i a ρ hi h => by
  obtain ⟨h1, h2⟩ := List.getElem?_eq_some_iff.mp hi
  have : a = i := by simpa using h2.symm
  subst this
  exact hs a ρ (by simpa using h1) h) (fun ρ h => hq ρ (by simpa using h))
variable {f : D -> R -> Option (Option D × R)} {Q : List D × R -> Prop}
theorem zcG (I : Nat -> List D -> R -> Prop) (h0 : I 0 [] ρ)
  (hs : ∀ i acc ρ, i < n -> I i acc ρ -> Ok (f (e i) ρ) fun p => I (i + 1) (acc ++ p.1.toList) p.2) (hq : ∀ ds ρ, I n ds ρ -> Q (ds, ρ)) : Ok (zdq f (wL n e) ρ) Q :=
 zj0 (enc := e) (l := List.range n) I h0 (fun i a acc ρ hi h => by
  obtain ⟨h1, h2⟩ := List.getElem?_eq_some_iff.mp hi
  have : a = i := by simpa using h2.symm
  subst this
  exact hs a acc ρ (by simpa using h1) h) (fun ds ρ h => hq ds ρ (by simpa using h))
theorem zaW (P : R -> Prop) (g : Nat -> D) (h0 : P ρ)
  (hs : ∀ i ρ, i < n -> P ρ -> Ok (f (e i) ρ) fun p => p.1 = some (g i) /\ P p.2) (hq : ∀ ρ, P ρ -> Q (wL n g, ρ)) : Ok (zdq f (wL n e) ρ) Q :=
 ok_comp (enc := e) (l := List.range n) P g h0 (fun a ρ ha hp => hs a ρ (List.mem_range.mp ha) hp) hq
end
end M
namespace M
theorem ziy (n : Nat) (f : Nat -> Int) (x : Int) : wI n f ++ [.int x] = wI (n + 1) fun j => if j < n then f j else x := by
 rw [wI, wL_snoc]; exact zbp fun j _ => by dsimp only; split <;> rfl
theorem zmv {j : Int} (h0 : 0 < j) (h1 : j < 2 ^ 250) : divOk j = true := by
 have h : j.natAbs.log2 < 9000 := by
  have : j.natAbs.log2 < 250 := (Nat.log2_lt (by omega)).mpr (by omega)
  omega
 unfold divOk; rw [decide_eq_true h0, decide_eq_true h]; rfl
theorem wI_set {n i : Nat} (f : Nat -> Int) (x : Int) (h : i < n) : (wI n f).set i (.int x) = wI n fun j => if j = i then x else f j := by
 rw [wI, wL_set _ _ h]; exact zbp fun j _ => by dsimp only; split <;> rfl
theorem isN_non : isN .non = true := rfl
theorem isN_int (i : Int) : isN (.int i) = false := rfl
theorem isN_bl (b : Bool) : isN (.bl b) = false := rfl
theorem isN_str (s : PySem.Str) : isN (.str s) = false := rfl
theorem isN_lst (ds : List D) : isN (.lst ds) = false := rfl
theorem isN_tup (ds : List D) : isN (.tup ds) = false := rfl
end M
namespace M
open L2 PySem
variable {i N : Nat} {m : MS} {Q : Fl × R -> Prop} {F : List D -> T -> List D -> Option (Sl × List D)} {mo : MO} {ma : MA} {is cap : List Nat} {ds : List D} {mi mq : MQ} {g : D -> R -> Option R} {mt : MT} {d : D} {me : ME}
theorem dItems_l (ds : List D) : za9 [.lst ds] = some ds := rfl
theorem dItems_t (ds : List D) : za9 [.tup ds] = some ds := rfl
theorem dItems_s (ns : List Int) : za9 [.scr ns] = some (ns.map .int) := rfl
theorem dLen_l (ds : List D) : dLen [.lst ds] = some (.int ds.length) := rfl
theorem dLen_t (ds : List D) : dLen [.tup ds] = some (.int ds.length) := rfl
theorem dLen_s (ns : List Int) : dLen [.scr ns] = some (.int ns.length) := rfl
theorem dTuple_l (ds : List D) : zcF [.lst ds] = some (.tup ds) := rfl
theorem dTuple_t (ds : List D) : zcF [.tup ds] = some (.tup ds) := rfl
theorem dTuple_s (ns : List Int) : zcF [.scr ns] = some (.tup (ns.map .int)) := rfl
theorem dCut_l (ds : List D) (a b : Option Int) : dCut (.lst ds) a b = some (.lst (cutD ds a b)) := rfl
theorem dCut_t (ds : List D) (a b : Option Int) : dCut (.tup ds) a b = some (.tup (cutD ds a b)) := rfl
theorem dCut_s (ns : List Int) (a b : Option Int) : dCut (.scr ns) a b = some (.lst ((cutD ns a b).map .int)) := rfl
theorem dIx_l (ds : List D) (i : Int) : dIx (.lst ds) (.int i) = atI ds i := rfl
theorem dIx_t (ds : List D) (i : Int) : dIx (.tup ds) (.int i) = atI ds i := rfl
theorem dIx_s (ns : List Int) (i : Int) : dIx (.scr ns) (.int i) = (atI ns i).map .int := rfl
theorem dEq_str (a b : Str) : dEq (.str a) (.str b) = some (.bl (a == b)) := by
 unfold dEq
 rw [show noS (.str a) = true from rfl, show noS (.str b) = true from rfl, show depth (.str a) = 0 from rfl]
 rfl
theorem zip3D_w (n : Nat) (f g h : Nat -> D) : zip3D (wL n f) (wL n g) (wL n h) = wL n fun i => .tup [f i, g i, h i] := by
 apply List.ext_getElem?
 intro j
 unfold zip3D
 by_cases hj : j < n
 ·have e : (List.zip (wL n g) (wL n h))[j]? = some (g j, h j) := by
   rw [List.getElem?_zip_eq_some]; exact ⟨zan g hj, zan h hj⟩
  rw [List.getElem?_zipWith, e, zan _ hj, zan _ hj]
 ·rw [List.getElem?_eq_none (by simp [za8]; omega), List.getElem?_eq_none (by simp [za8]; omega)]
theorem zdD (n : Nat) (b : Nat -> Bool) : zdW (wL n fun i => .bl (b i)) = some ((List.range n).map b) := by
 have : ∀ l : List Nat, zdW (l.map fun i => D.bl (b i)) = some (l.map b) := by
  intro l
  induction l with
  | nil => rfl
  | cons a l ih => simp [zdW, ih]
 exact this _
theorem ok_sExt {m : ME} {ρ : R} : Ok (sExt i m ρ) Q = Ok (if (ρ[i]?.bind Sl.items).isSome then (m ρ).bind fun p => p.2[i]?.bind fun s => s.items.bind fun ds => match p.1 with
 | .lst es => if ds.length + es.length <= 16777216 then some (.next, p.2.set i (s.put (ds ++ es))) else none
 | _ => none else none) Q := rfl
def sumR : Nat -> (Nat -> Int) -> Int
 | 0, _ => 0
 | n + 1, f => sumR n f + f n
theorem zjv (f : Nat -> Int) : ∀ n, ((List.range n).map f).sum = sumR n f
 | 0 => rfl
 | n + 1 => by simp [List.range_succ, zjv f n, sumR]
theorem intsOf_w (n : Nat) (f : Nat -> Int) : zbO (wI n f) = some ((List.range n).map f) := by
 have : wI n f = ((List.range n).map f).map .int := by simp [wL, List.map_map, Function.comp_def]
 rw [this, zdQ]
theorem cut_w {n a b : Nat} (f : Nat -> D) (h : a + b <= n) : cutD (wL n f) (some (a : Int)) (some ((a : Int) + (b : Int))) = wL b fun i => f (a + i) := by
 have e : cutD (wL n f) (some (a : Int)) (some ((a : Int) + (b : Int))) = ((wL n f).drop a).take b := by
  unfold cutD
  rw [HT.zih, show ((a : Int) + (b : Int)) = ((a + b : Nat) : Int) by omega, HT.zih, za8]
  rw [Nat.min_eq_left h, Nat.min_eq_left (by omega : a <= n), Nat.add_sub_cancel_left]
 rw [e]
 apply List.ext_getElem?
 intro j
 by_cases hj : j < b
 ·rw [List.getElem?_take_of_lt hj, List.getElem?_drop, zan _ (by omega), zan _ hj]
 ·rw [List.getElem?_eq_none (by simp [za8]; omega), List.getElem?_eq_none (by rw [za8]; omega)]
theorem zj4 {mc : MT} {mb : MS} (I : Nat -> R -> Prop) (turn : ∀ m ρ, I m ρ -> Ok (mc ρ) fun p => (p.1 = true -> ∃ m', m = m' + 1 /\ Ok (mb p.2) fun q => q.1 = .next /\ I m' q.2) /\ (p.1 = false -> Q (.next, p.2))) : ∀ (fuel m : Nat) (ρ : R), m < fuel -> I m ρ -> Ok (zgI mc mb fuel ρ) Q
 | 0, m, ρ, h, _ => by omega
 | n + 1, m, ρ, h, hI => by
  obtain ⟨⟨b, ρ1⟩, e, h1, h2⟩ := turn m ρ hI
  unfold zgI
  rw [e]
  cases b with
  | false => exact ok_some.mpr (h2 rfl)
  | true =>
   obtain ⟨m', rfl, ⟨f, ρ2⟩, e2, ef, hI2⟩ := h1 rfl
   show Ok ((mb ρ1).bind _) Q
   rw [e2]
   cases (show f = .next from ef)
   exact zj4 I turn n m' ρ2 (by omega) hI2
theorem like_par (ns : List Int) : likeS (.par (ns.map .int)) (.par (ns.map .int)) = true := by
 show (match zbO (ns.map D.int), zbO (ns.map D.int) with
  | some a, some b => a == b
  | _, _ => false) = true
 rw [zdQ]; exact beq_self_eq_true ns
section
variable {j : Nat} {mk me : ME} {ρ : R}
theorem ok_tDI {neg : Bool} {Q : Bool × R -> Prop} : Ok (tDI j neg mk ρ) Q ↔ Ok (mk ρ) fun p => Ok (match p.1 with
 | .int k => (p.2[j]?.bind Sl.dic).map fun q => (((lkD q.1 q.2 k).isSome != neg), p.2)
 | _ => none) Q := ok_bind
theorem ok_eCallMO {F : List D -> List D -> Option (Sl × List D)} {Q : D × R -> Prop} : Ok (eCallMO F mo ma ρ) Q = Ok ((mo ρ).bind fun p => (ma p.2).bind fun q => (F p.1 q.1).bind fun r => match r.1 with
 | .val d => some (d, q.2)
 | .own ds => some (.lst ds, q.2)
 | _ => none) Q := rfl
theorem zkT {mp : MP'} {Q : D × R -> Prop} : Ok (zid F j mp ma ρ) Q = Ok (if (ρ[j]?.bind Sl.items).isSome then (mp ρ).bind fun c => if c.1.length <= 16777216 then (ma c.2).bind fun p => p.2[j]?.bind fun s => s.items.bind fun cs => (F cs (.lst c.1) p.1).bind fun r => match r.1 with
 | .val d => some (d, p.2.set j (s.put r.2))
 | .own ds => some (.lst ds, p.2.set j (s.put r.2))
 | _ => none else none else none) Q := rfl
theorem ok_sUnT : Ok (sUnT j is ρ) Q = Ok (match ρ[j]? with
 | some (.tre (.lst cs)) => if cs.length = is.length then some (.next, zmd is cs (ρ.set j .emp)) else none
 | _ => none) Q := rfl
theorem ok_cNil {Q : List Ch × R -> Prop} : Ok (cNil ρ) Q ↔ Q ([], ρ) := ok_some
theorem ok_cOwn {r : MP'} {Q : List Ch × R -> Prop} : Ok (cOwn j r ρ) Q = Ok (match ρ[j]? with
 | some (.own ds) => (r (ρ.set j .emp)).map fun q => (.l ds :: q.1, q.2)
 | _ => none) Q := rfl
theorem ok_fMT {cs : List D} {t : T} {Q : Sl × List D -> Prop} : Ok (fMT N m cs t ds) Q = Ok ((m (.par cs :: .tre t :: (ds.map .val ++ List.replicate (N - (ds.length + 2)) .emp))).bind fun p => match p.1, (p.2[0]? : Option Sl) with
 | Fl.ret r, some (Sl.par out) => some (r, out)
 | Fl.next, some (Sl.par out) => some (.val .non, out)
 | _, _ => none) Q := rfl
theorem ok_sTN : Ok (sTN j ρ) Q ↔ Q (.next, ρ.set j (.tre (.lst []))) := ok_some
theorem ok_sRT : Ok (sRT j ρ) Q = Ok (match ρ[j]? with
 | some (.tre t) => some (.ret (.tre t), ρ.set j .emp)
 | _ => none) Q := rfl
theorem zlp {F : List D -> Option Sl} {Q : D × R -> Prop} : Ok (zlb F ma ρ) Q = Ok ((ma ρ).bind fun p => (F p.1).bind fun r => match r with
 | .tre (.lst cs) => some (.lst (cs.map Ch.D), p.2)
 | _ => none) Q := rfl
theorem ok_eTI {Q : D × R -> Prop} : Ok (eTI j mi mq ρ) Q = Ok ((mi ρ).bind fun a => (mq ρ).bind fun b => match a, b, ρ[j]? with
 | .int n, .int m, some (.tre (.lst cs)) => (atI cs n).bind fun c => match c with
  | .l ds => (atI ds m).map fun d => (d, ρ)
  | _ => none
 | _, _, _ => none) Q := rfl
theorem ok_sTP : Ok (sTP j mi mq me ρ) Q = Ok ((me ρ).bind fun p => (mi p.2).bind fun a => (mq p.2).bind fun b => match a, b, p.2[j]? with
 | .int n, .int m, some (.tre (.lst cs)) => (ixN cs.length n).bind fun u => match cs[u]? with
  | some (.l ds) => (ixN ds.length m).bind fun w => some (.next, p.2.set j (.tre (.lst (cs.set u (.l (ds.set w p.1))))))
  | _ => none
 | _, _, _ => none) Q := rfl
theorem ok_sFzT : Ok (sFzT j m ρ) Q = Ok (m (fzT j ρ)) Q := rfl
theorem zfl {Q : Option (List D) × R -> Prop} : Ok (zk5 g mt mo d ρ) Q ↔ Ok (g d ρ) fun ρ1 => Ok (mt ρ1) fun p => (p.1 = true -> Ok (mo p.2) fun q => zcY q.2 = true /\ Q (some q.1, q.2)) /\ (p.1 = false -> zcY p.2 = true /\ Q (none, p.2)) := by
 unfold zk5; rw [ok_bind]; exact zaR fun ρ1 => by rw [ok_bind]; exact zaR fun p => by rw [zjr, ok_bind, zeo, ok_some]; exact and_congr (imp_congr Iff.rfl (zaR fun q => by rw [zeo, ok_some])) Iff.rfl
theorem zkA {f : D -> R -> Option (Option (List D) × R)} {e : Nat -> D} (P : R -> Prop) (g : Nat -> List D) {Q : List (List D) × R -> Prop} : ∀ {n k : Nat} {ρ : R}, P ρ -> (∀ i ρ, i < n -> P ρ -> Ok (f (e (k + i)) ρ) fun p => p.1 = some (g (k + i)) /\ P p.2) -> (∀ ρ, P ρ -> Q ((List.range n).map (fun i => g (k + i)), ρ)) -> Ok (zir f ((List.range n).map fun i => e (k + i)) ρ) Q
 | 0, k, ρ, h0, _, hq => ⟨_, rfl, hq ρ h0⟩
 | n + 1, k, ρ, h0, hs, hq => by
  have s1 : ∀ {α : Type} (e : Nat -> α), (List.range (n + 1)).map (fun i => e (k + i)) = e k :: (List.range n).map fun i => e (k + 1 + i) := fun e => by
   rw [List.range_succ_eq_map, List.map_cons, List.map_map]
   congr 1
   exact List.map_congr_left fun i _ => by show e (k + (i + 1)) = _; congr 1; omega
  rw [s1 e]
  obtain ⟨p, e1, h1, h2⟩ := hs 0 ρ (by omega) h0
  obtain ⟨q, e2, h3⟩ := zkA (f := f) (e := e) P g (Q := fun z => Q (g k :: z.1, z.2)) (n := n) (k := k + 1) h2 (fun i ρ hi hp => by have := hs (i + 1) ρ (by omega) hp; rwa [show k + (i + 1) = k + 1 + i by omega] at this) fun ρ hp => by have := hq ρ hp; rwa [s1 g] at this
  refine ⟨(g k :: q.1, q.2), ?_, h3⟩
  obtain ⟨p1, p2⟩ := p
  have h1 : p1 = some (g k) := h1
  subst h1
  have e1 : f (e k) ρ = some (some (g k), p2) := e1
  have e2 : zir f ((List.range n).map fun i => e (k + 1 + i)) p2 = some q := e2
  simp only [zir, e1, Option.bind_some, e2, Option.map_some]
  rfl
theorem zea {n : Nat} {e : Nat -> D} {f : D -> R -> Option (Option (List D) × R)} {Q : List (List D) × R -> Prop} (P : R -> Prop) (g : Nat -> List D) (h0 : P ρ)
  (hs : ∀ i ρ, i < n -> P ρ -> Ok (f (e i) ρ) fun p => p.1 = some (g i) /\ P p.2) (hq : ∀ ρ, P ρ -> Q ((List.range n).map g, ρ)) : Ok (zir f (wL n e) ρ) Q := by
 have := zkA (f := f) (e := e) P g (Q := Q) (n := n) (k := 0) h0 (fun i ρ hi hp => by rw [Nat.zero_add]; exact hs i ρ hi hp) (fun ρ hp => by simpa using hq ρ hp)
 simpa [wL] using this
theorem ok_sTC {i t : Nat} {mi : MA} : Ok (sTC i cap t mi g mt mo ρ) Q = Ok ((mi ρ).bind fun p => if p.1.length <= 16777216 then (zir (zk5 g mt mo) p.1 (capR cap t (fzL cap p.2))).map fun q => (.next, (fzL cap p.2).set i (.tre (.lst (q.1.map .l)))) else none) Q := rfl
theorem ok_sTAo : Ok (sTAo j mo ρ) Q = Ok (match ρ[j]? with
 | some (.tre (.lst _)) => (mo ρ).bind fun p => match p.2[j]? with
  | some (.tre (.lst cs)) => if cs.length < 16777216 then some (.next, p.2.set j (.tre (.lst (cs ++ [.l p.1])))) else none
  | _ => none
 | _ => none) Q := rfl
theorem ok_cTab {r : MP'} {Q : List Ch × R -> Prop} : Ok (cTab j r ρ) Q = Ok (match ρ[j]? with
 | some (.tre (.lst cs)) => (zgQ cs).bind fun xss => (r (ρ.set j .emp)).map fun q => (.t xss :: q.1, q.2)
 | _ => none) Q := rfl
theorem ok_sTG {mi mq me : MQ} : Ok (sTG j mi mq me ρ) Q = Ok ((mi ρ).bind fun a => (mq ρ).bind fun b => (me ρ).bind fun c => match a, b, c, ρ[j]? with
 | .int n, .int m, .int z, some (.tre (.lst cs)) => (ixN cs.length n).bind fun u => match cs[u]? with
  | some (.l ds) => (ixN ds.length m).bind fun w => match ds[w]? with
   | some (.int y) => some (.next, ρ.set j (.tre (.lst (cs.set u (.l (ds.set w (.int (y + z))))))))
   | _ => none
  | _ => none
 | _, _, _, _ => none) Q := rfl
theorem ok_turnQ {b c : Nat} {Q : Option D × R -> Prop} : Ok (zkF b c g mt me d ρ) Q ↔ Ok (g d ρ) fun ρ1 => Ok (mt ρ1) fun p => (p.1 = true -> Ok (me p.2) fun q => zjL b c q.2 = true /\ Q (some q.1, q.2)) /\ (p.1 = false -> zjL b c p.2 = true /\ Q (none, p.2)) := by
 unfold zkF; rw [ok_bind]; exact zaR fun ρ1 => by rw [ok_bind]; exact zaR fun p => by rw [zjr, ok_bind, zeo, ok_some]; exact and_congr (imp_congr Iff.rfl (zaR fun q => by rw [zeo, ok_some])) Iff.rfl
theorem ok_oLC2 {t b w c v : Nat} {mi : MA} {Q : List D × R -> Prop} : Ok (oLC2 cap t b w c v mi g mt me ρ) Q = Ok ((mi ρ).bind fun p => if p.1.length <= 16777216 then
  ((fzL (cap.filter fun i => i != w && i != v) p.2)[w]?).bind fun s => s.items.bind fun cs => ((fzL (cap.filter fun i => i != w && i != v) p.2)[v]?).bind fun s2 => s2.items.bind fun cs2 =>
   (zdq (zkF b c g mt me) p.1 (((capR cap t (fzL (cap.filter fun i => i != w && i != v) p.2)).set b (.par cs)).set c (.par cs2))).map fun q => (q.1, ((fzL (cap.filter fun i => i != w && i != v) p.2).set w (s.put (zgz b q.2))).set v (s2.put (zgz c q.2)))
 else none) Q := rfl
theorem ok_ePop {Q : D × R -> Prop} : Ok (ePop j me ρ) Q = Ok (if (ρ[j]?.bind Sl.items).isSome then (me ρ).bind fun p => match p.1 with
 | .int i => p.2[j]?.bind fun s => s.items.bind fun ds => if 0 <= i /\ i < ds.length /\ ds.length <= 16777216 then (ds[i.toNat]?).map fun d => (d, p.2.set j (s.put (ds.eraseIdx i.toNat))) else none
 | _ => none else none) Q := rfl
theorem ok_sPk {jb jg jl : Nat} {mn mi mk : MQ} : Ok (sPk jb jg jl mn mi mk me ρ) Q = Ok ((mn ρ).bind fun d => match d, ρ[jb]?, ρ[jg]?, ρ[jl]? with
 | .int n, some _, some (.tre (.lst _)), some (.tre (.lst _)) => if n = 0 then sTP jg mi mk me (ρ.set jb .emp) else if n = 1 then sTP jl mi mk me (ρ.set jb .emp) else none
 | _, _, _, _ => none) Q := rfl
end
end M
local macro_rules | `(tactic| simp! only [$ls,*]) => `(tactic| simp only [↓M.ok_sIf, ↓M.ok_eIf, ↓M.ok_tAnd, ↓M.ok_tOr, ↓M.ok_eAnd, ↓M.ok_eOr, ↓M.ok_chain, ↓M.ok_turnM, ↓M.ok_turnP, ↓M.ok_turnQ, ↓M.ok_bind, ↓M.ok_map, ↓M.zeo, ↓M.ok_some, ↓M.ok_sNext, ↓M.ok_sSeq, ↓M.ok_sExpr, ↓M.ok_sRet, ↓M.ok_sRetO, ↓M.ok_sRetV, ↓M.ok_gN, ↓M.ok_gsNil, ↓M.zl1, ↓M.ok_gT, ↓M.ok_sAsg, ↓M.ok_sSet, ↓M.ok_sSetO, ↓M.ok_sApp, ↓M.ok_sPut, ↓M.ok_eC, ↓M.ok_eVar, ↓M.ok_aNil, ↓M.ok_aCons, ↓M.ok_m2, ↓M.ok_m1, ↓M.ok_mC, ↓M.ok_eIxV, ↓M.ok_eLenV, ↓M.ok_oC, ↓M.ok_eTup, ↓M.ok_oLst, ↓M.ok_tTru, ↓M.ok_tNotM, ↓M.ok_eCall, ↓M.ok_oCall, ↓M.zld, ↓M.ok_eFz, ↓M.ok_eCut, ↓M.ok_pNo, ↓M.ok_pSome, ↓M.ok_iSeq, ↓M.ok_iR1, ↓M.ok_sFor, ↓M.ok_oLC, ↓M.ok_oR, ↓M.ok_tTrue, ↓M.ok_eIsI, ↓M.ok_fP, ↓M.ok_fM, ↓M.ok_oRep, ↓M.ok_iZ2, ↓M.ok_iEn, ↓M.ok_oLCM, ↓M.ok_sExt, ↓M.zkT, ↓M.ok_sUnT, ↓M.ok_cNil, ↓M.ok_cOwn, ↓M.ok_fMT, ↓M.ok_sTN, ↓M.ok_sRT, ↓M.zlp, ↓M.ok_eTI, ↓M.ok_sTP, ↓M.ok_sFzT, ↓M.zfl, ↓M.ok_sTC, ↓M.ok_sTAo, ↓M.ok_cTab, ↓M.ok_sTG, ↓M.ok_oLC2, ↓M.ok_ePop, ↓M.ok_sPk, M.dI2, M.dSub, M.dDiv, M.dMod, M.dPow, M.dLt, M.dLe, M.dGt, M.dGe, M.dNeg, M.dMul, M.dAdd, M.dTru, M.dNot, M.Sl.read, M.Sl.items, M.Sl.put, M.hasV, M.zcY, M.fz1, M.fzL, M.capS, M.capR, M.eIsI.noS1, M.okT, M.isI, M.d2I, M.dSum, M.dAll, M.dMaxL, M.dMinL, M.dIsN, M.zjb, M.zjF, M.zgz, M.fzD, M.zmd, M.Ch.sl, M.Sl.dic, M.Sl.dit, M.Sl.tree, M.Sl.putT, M.Sl.dit, M.qC, M.qV, M.fzT, M.Ch.D, M.fzDT, M.fzU, M.zgQ, M.qMod, M.qLT, M.qLR, M.qAdd, M.zjL, M.zlP, M.seqK_ret, M.seqK_brk, M.zlV, M.zmg, M.zmr, M.turn_brk, M.turn_ret, List.getElem?_cons_zero, List.getElem?_cons_succ, List.set_cons_zero, List.set_cons_succ, Option.bind_some, Option.isSome_some, Option.map_some, if_true, List.map_cons, List.map_nil, List.replicate_succ, List.replicate_zero, List.length_cons, List.length_nil, List.cons_append, List.nil_append, List.all_cons, List.all_nil, Bool.and_true, Bool.true_and, Bool.and_self, Bool.true_eq_false, Bool.false_eq_true, if_false, M.dEq_int, M.zl0, List.length_map, List.length_append, M.atI_n, M.atI_lit, M.ixN_n, M.ixN_lit, M.atI_n1, M.ok_none, M.dItems_l, M.dItems_t, M.dItems_s, M.dLen_l, M.dLen_t, M.dLen_s, M.dTuple_l, M.dTuple_t, M.dTuple_s, M.dCut_l, M.dCut_t, M.dCut_s, M.dIx_l, M.dIx_t, M.dIx_s, M.dEq_str, M.zip3D_w, M.isN_non, M.isN_int, M.isN_bl, M.isN_str, M.isN_lst, M.isN_tup, M.zdQ, Int.toNat_natCast, M.rangeD_w, M.za8, decide_eq_true_eq, Bool.and_eq_true, true_and, and_true, Nat.reduceAdd, Nat.reduceLeDiff, Int.reduceLT, Int.reduceLE, Int.reduceNeg, Nat.reduceSub, Int.reducePow, Int.reduceMul, Int.reduceAdd, Int.reduceSub, Int.reduceMod, Int.reduceDiv, Nat.reduceLT, Nat.reduceBNe, Nat.reduceEqDiff, List.filter_cons, List.filter_nil, bne_self_eq_false, Int.reduceToNat, Nat.reducePow, M.zkZ, Int.reduceEq, Int.reduceBEq, Int.reduceBNe, Nat.reduceMod, decide_true, decide_false, beq_iff_eq, beq_eq_false_iff_ne, bne_iff_ne, bne_eq_false_iff_eq, decide_eq_false_iff_not, Int.not_le, Int.not_lt, ne_eq, forall_const, true_implies, false_implies, reduceCtorEq, imp_self, implies_true, M.D.bl.injEq, exists_eq_left', Bool.not_true, Bool.not_false, $ls,*])
namespace Prf
open L2 M PySem
def top (i : Nat) : Stmt := PySem.Challenge.pw_tellsum_k43_ranges_told.main.body.getD i (.Pass ⟨0, 0, 0, 0⟩)
structure BN (K : W.Frag) (mg : Str -> Option Value) : Prop where
 all' : mg "all" = none
 bool' : mg "bool" = none
 enumerate' : mg "enumerate" = none
 int' : mg "int" = none
 isinstance' : mg "isinstance" = none
 len' : mg "len" = none
 list' : mg "list" = none
 max' : mg "max" = none
 min' : mg "min" = none
 range' : mg "range" = none
 sum' : mg "sum" = none
 tuple' : mg "tuple" = none
 zip' : mg "zip" = none
section
variable {P : Program} {w : World} {K : W.Frag} {mg : Str -> Option Value} {base hp : Heap} {f : Addr} {fd : FuncData} (X : K.In hp) (G : hp.Ns mainGlobals mg) (bn : BN K mg)
include X G bn
abbrev zgW : Stmt := top 5
def zfI : ME :=
 (mC zcF (zag (eVar 0) aNil))
def zfC : MO :=
 oLC [] 1 (iSeq (eVar 0)) (gN 0) zbB zfI
def zfV : MS :=
 (sRet (mC zcF (zag (eFz zfC) aNil)))
def zcQ : List D -> Option Sl := fP 1 zfV
theorem zjl  (h : FnAt K "in_tuples" zgW) : FD P w K mg base 1 "in_tuples" (spP K 1 zcQ) :=
 fdP (N := ["rows"]) (k := 0) (m := zfV) X G h fun _ _ _ _ _ _ _ hr nd => (zak (zaL (zdd bn.tuple' (zaa (SO.se (zfL [] 1 ["row"] rfl (zbf (zab 0)) (fun C s H fp => (zal 0 ndk)) (fun C s H fp => zaG) (fun C s H fp => (zdd bn.tuple' (zaa (zab 0) zaf))))) zaf))))
abbrev zhW : Stmt := top 7
def zhi : MS :=
 (sRet (eAnd (zgV dLe dLt (eC (.int 0)) (eVar 1) (zdS 0)) (zgV dLe dLt (eC (.int 0)) (eVar 2) (mC dLen (zag (eIxV 0 (eC (.int 0))) aNil)))))
def zej : List D -> Option Sl := fP 3 zhi
theorem zkM  (h : FnAt K "is_cell" zhW) : FD P w K mg base 1 "is_cell" (spP K 3 zej) :=
 fdP (N := ["rows", "r", "c"]) (k := 0) (m := zhi) X G h fun _ _ _ _ _ _ _ hr nd => (zak (zaL (zkg (zjY op_le op_lt zfJ zfJ zah (zab 1) (zbs 0 bn.len')) (zkD (zjY op_le op_lt zfJ zfJ zah (zab 2) (zbP bn.len' (zaa (zai 0 zah) zaf)))))))
abbrev zhu : Stmt := top 8
def zf5 : ME :=
 (eTup (zag (eVar 0) (zag (eVar 1) aNil)))
def zfW : MO :=
 oLC [2] 1 (iR1 (zag (mC dLen (zag (eIxV 0 (eC (.int 0))) aNil)) aNil)) (gN 1) zbB zf5
def zga : MS :=
 (sExt 1 (eFz zfW))
def zgn : MS :=
 sFor (iR1 (zag (zdS 0) aNil)) (gN 2) zga
def zgy : MS :=
 (sSeq (zd6 1 (oLst aNil))
  (sSeq zgn
  (zjc 1)))
def zdw : List D -> Option Sl := fP 3 zgy
theorem zjy  (h : FnAt K "cells_of" zhu) : FD P w K mg base 1 "cells_of" (spP K 1 zdw) :=
 fdP (N := ["rows", "cells", "r"]) (k := 0) (m := zgy) X G h fun _ _ _ _ _ _ _ hr nd => (zae (zbM 1 (zbk zaf) nd)
  (zae (zbh PassesOwn.never rfl (zax bn.range' (zaa (zbs 0 bn.len') zaf)) (zal 2 nd)
  (zak (ss_ext 1 (SO.se (zfL [2] 1 ["r", "c"] rfl (zax bn.range' (zaa (zbP bn.len' (zaa (zai 0 zah) zaf)) zaf)) (fun C s H fp => (zal 1 ndk)) (fun C s H fp => zaG) (fun C s H fp => (zaQ (zaa (zab 0) (zaa (zab 1) zaf)))))))))
  (zak (zhj 1))))
abbrev zgS : Stmt := top 9
def zfP : MS :=
 (sRet (eIf (tTru (m2 dEq (m2 dMod (m2 dAdd (eVar 0) (eVar 1)) (eC (.int 2))) (eC (.int 0)))) (eC (.int 1)) (m1 dNeg (eC (.int 1)))))
def zbc : List D -> Option Sl := fP 2 zfP
theorem zjj  (h : FnAt K "cell_sign" zgS) : FD P w K mg base 1 "cell_sign" (spP K 2 zbc) :=
 fdP (N := ["r", "c"]) (k := 0) (m := zfP) X G h fun _ _ _ _ _ _ _ hr nd => (zak (zaL (zh3 (zjt hr.units (zgK (zaK (zab 0) (zab 1)) zah) zah) zah (zgP zah))))
abbrev zd5 : Stmt := top 10
def zdb : MS :=
 (sApp 4 (m2 dSub (m2 dSub (m2 dSub (eVar 6) (eIxV 3 (eVar 5))) (eIxV 3 (m2 dAdd (eVar 5) (eC (.int 1))))) (eIxV 4 (eVar 5))))
def zda : MS :=
 sFor (iEn (zag (eVar 2) aNil)) (gT 2 (zaN (gN 5) (zaN (gN 6) zfm))) zdb
def zc9 : MS :=
 (sSeq (sSet 3 (eIxV 1 (m1 dNeg (eC (.int 1)))))
  (sSeq (zd6 4 (oLst (zag (eC (.int 0)) aNil)))
  (sSeq zda
  (sApp 1 (eVar 4)))))
def zc7 : MS :=
 sFor (iSeq (eIxV 0 (eC (.int 0)))) (gN 2) zc9
def zcI : MS :=
 (sSeq (zd6 1 (oLst (zag (m2 dMul (eFz (oLst (zag (eC (.int 0)) aNil))) (mC dLen (zag (m2 dIx (eIxV 0 (eC (.int 1))) (eC (.int 0))) aNil))) aNil)))
  (sSeq zc7
  (sRet (zaU zcQ (zag (eVar 1) aNil)))))
def zaH : List D -> Option Sl := fP 7 zcI
theorem zgY (zep : FD P w K mg base 1 "in_tuples" (spP K 1 zcQ)) (h : FnAt K "plain_numbers" zd5) : FD P w K mg base 2 "plain_numbers" (spP K 1 zaH) :=
 fdP (N := ["floor", "numbers", "sums", "above", "row", "c", "total"]) (k := 1) (m := zcI) X G h fun _ _ _ _ _ _ _ hr nd => (zae (zbM 1 (zbk (zaa (zbz (SO.se (zbk (zaa zah zaf))) (zbP bn.len' (zaa (zay (zai 0 zah) zah) zaf))) zaf)) nd)
  (zae (zbh PassesOwn.never rfl (zbf (zai 0 zah)) (zal 2 nd)
  (zae (zat 3 (zai 1 (zgP zah)) nd)
  (zae (zbM 4 (zbk (zaa zah zaf)) nd)
  (zae (zbh PassesOwn.never rfl (zcD bn.enumerate' (zaa (zab 2) zaf)) (zc6 rfl (zaw (zal 5 nd) (zaw (zal 6 nd) zbL)))
  (zak (zfY 4 (za3 (za3 (za3 (zab 6) (zai 3 (zab 5))) (zai 3 (zaK (zab 5) zah))) (zai 4 (zab 5))))))
  (zak (zfY 1 (zab 4)))))))
  (zak (zaL (zaq zep hr (zaa (zab 1) zaf) (hlen := (zad zaj)))))))
abbrev zfr : Stmt := top 11
def zd2 : ME :=
 (m2 dAdd (eVar 4) (m2 dMul (zaU zbc (zag (eVar 0) (zag (eVar 3) aNil))) (m2 dSub (eVar 1) (eIxV 2 (eVar 3)))))
def zdZ : MO :=
 oLC [1, 2, 3] 2 (iEn (zag (eVar 0) aNil)) (gT 2 (zaN (gN 3) (zaN (gN 4) zfm))) zbB zd2
def zdP : MS :=
 (sRet (mC zcF (zag (eFz zdZ) aNil)))
def zbI : List D -> Option Sl := fP 4 zdP
theorem zhB (zaZ : FD P w K mg base 1 "cell_sign" (spP K 2 zbc)) (h : FnAt K "shifted_row" zfr) : FD P w K mg base 2 "shifted_row" (spP K 4 zbI) :=
 fdP (N := ["row", "r", "shift", "column_shifts"]) (k := 1) (m := zdP) X G h fun _ _ _ _ _ _ _ hr nd => (zak (zaL (zdd bn.tuple' (zaa (SO.se (zfL [1, 2, 3] 2 ["r", "shift", "column_shifts", "c", "number"] rfl (zcD bn.enumerate' (zaa (zab 0) zaf)) (fun C s H fp => (zc6 rfl (zaw (zal 3 ndk) (zaw (zal 4 ndk) zbL)))) (fun C s H fp => zaG) (fun C s H fp => (zaK (zab 4) (zbz (zaq zaZ hr (zaa (zab 0) (zaa (zab 3) zaf)) (hlen := (zad (zad zaj)))) (za3 (zab 1) (zai 2 (zab 3)))))))) zaf))))
abbrev zc5 : Stmt := top 12
def zch : ME :=
 (zaU zbI (zag (eVar 3) (zag (eVar 2) (zag (eIxV 0 (eVar 2)) (zag (eVar 1) aNil)))))
def zcu : MO :=
 oLC [1, 2] 2 (iEn (zag (eVar 0) aNil)) (gT 2 (zaN (gN 2) (zaN (gN 3) zfm))) zbB zch
def zbU : MS :=
 (sSeq (sSet 2 (eCut (eVar 1) (zhE (zdS 0)) pNo))
  (sRet (mC zcF (zag (eFz zcu) aNil))))
def zaF : List D -> Option Sl := fP 3 zbU
theorem zgg (zdj : FD P w K mg base 2 "shifted_row" (spP K 4 zbI)) (h : FnAt K "shifted_numbers" zc5) : FD P w K mg base 3 "shifted_numbers" (spP K 2 zaF) :=
 fdP (N := ["numbers", "shifts", "column_shifts"]) (k := 2) (m := zbU) X G h fun _ _ _ _ _ _ _ hr nd => (zae (zat 2 (zht (zab 1) (zeF (zbs 0 bn.len')) zk2) nd)
  (zak (zaL (zdd bn.tuple' (zaa (SO.se (zfL [1, 2] 2 ["shifts", "column_shifts", "r", "row"] rfl (zcD bn.enumerate' (zaa (zab 0) zaf)) (fun C s H fp => (zc6 rfl (zaw (zal 2 ndk) (zaw (zal 3 ndk) zbL)))) (fun C s H fp => zaG) (fun C s H fp => (zaq zdj hr (zaa (zab 3) (zaa (zab 2) (zaa (zai 0 (zab 2)) (zaa (zab 1) zaf)))) (hlen := (zad (zad (zad (zad zaj))))))))) zaf)))))
abbrev zgL : Stmt := top 13
def zfz : MS :=
 (zju (oLst (zag (eTup (zag (eVar 2) (zag (eVar 4) (zag (eVar 6) aNil)))) (zag (eTup (zag (eVar 4) (zag (eVar 2) (zag (eVar 5) aNil)))) aNil))))
def zfU : MS :=
 (sSeq (sSet 4 (m2 dAdd (zdS 1) (eVar 3)))
  (sSeq (sSet 5 (m2 dSub (m2 dIx (m2 dIx (eIxV 0 (eC (.int 2))) (eVar 2)) (eVar 3)) (m2 dIx (eIxV 1 (eVar 2)) (eVar 3))))
  (sSeq (sSet 6 (m2 dSub (m2 dIx (eIxV 1 (eVar 2)) (eVar 3)) (m2 dIx (m2 dIx (eIxV 0 (eC (.int 1))) (eVar 2)) (eVar 3))))
  (sSeq (sIf (tTru (m2 dEq (zaU zbc (zag (eVar 2) (zag (eVar 3) aNil))) (eC (.int 1))))
  (zju (oLst (zag (eTup (zag (eVar 2) (zag (eVar 4) (zag (eVar 5) aNil)))) (zag (eTup (zag (eVar 4) (zag (eVar 2) (zag (eVar 6) aNil)))) aNil))))
  zcC)
  zfz))))
def zcW : List D -> Option Sl := fP 7 zfU
theorem zi2 (zaZ : FD P w K mg base 1 "cell_sign" (spP K 2 zbc)) (h : FnAt K "cell_ties" zgL) : FD P w K mg base 2 "cell_ties" (spP K 4 zcW) :=
 fdP (N := ["floor", "numbers", "r", "c", "column", "above", "beneath"]) (k := 1) (m := zfU) X G h fun _ _ _ _ _ _ _ hr nd => (zae (zat 4 (zaK (zbs 1 bn.len') (zab 3)) nd)
  (zae (zat 5 (za3 (zay (zay (zai 0 zah) (zab 2)) (zab 3)) (zay (zai 1 (zab 2)) (zab 3))) nd)
  (zae (zat 6 (za3 (zay (zai 1 (zab 2)) (zab 3)) (zay (zay (zai 0 zah) (zab 2)) (zab 3))) nd)
  (zae (zdm (zjt hr.units (zaq zaZ hr (zaa (zab 2) (zaa (zab 3) zaf)) (hlen := (zad (zad zaj)))) zah)
  (zak (zgD (zbk (zaa (zaQ (zaa (zab 2) (zaa (zab 4) (zaa (zab 5) zaf)))) (zaa (zaQ (zaa (zab 4) (zaa (zab 2) (zaa (zab 6) zaf)))) zaf)))))
  zaX)
  (zak (zgD (zbk (zaa (zaQ (zaa (zab 2) (zaa (zab 4) (zaa (zab 6) zaf)))) (zaa (zaQ (zaa (zab 4) (zaa (zab 2) (zaa (zab 5) zaf)))) zaf)))))))))
abbrev zf2 : Stmt := top 14
def zfd : MS :=
 (sExt 2 (zaU zcW (zag (eVar 0) (zag (eVar 1) (zag (eVar 3) (zag (eVar 4) aNil))))))
def zex : MS :=
 sFor (iSeq (zaU zdw (zag (eVar 1) aNil))) (gT 2 (zaN (gN 3) (zaN (gN 4) zfm))) zfd
def ze4 : MS :=
 (sSeq (sSet 1 (zaU zaH (zag (eVar 0) aNil)))
  (sSeq (zd6 2 (oLst aNil))
  (sSeq zex
  (zjc 2))))
def zbY : List D -> Option Sl := fP 5 ze4
theorem zif (zeW : FD P w K mg base 2 "cell_ties" (spP K 4 zcW)) (zfS : FD P w K mg base 1 "cells_of" (spP K 1 zdw)) (zaD : FD P w K mg base 2 "plain_numbers" (spP K 1 zaH)) (h : FnAt K "floor_ties" zf2) : FD P w K mg base 3 "floor_ties" (spP K 1 zbY) :=
 fdP (N := ["floor", "numbers", "ties", "r", "c"]) (k := 2) (m := ze4) X G h fun _ _ _ _ _ _ _ hr nd => (zae (zat 1 (zaq zaD hr (zaa (zab 0) zaf) (hlen := (zad zaj))) nd)
  (zae (zbM 2 (zbk zaf) nd)
  (zae (zbh PassesOwn.never rfl (zbf (zaq zfS hr (zaa (zab 1) zaf) (hlen := (zad zaj)))) (zc6 rfl (zaw (zal 3 nd) (zaw (zal 4 nd) zbL)))
  (zak (ss_ext 2 (zaq zeW hr (zaa (zab 0) (zaa (zab 1) (zaa (zab 3) (zaa (zab 4) zaf)))) (hlen := (zad (zad (zad (zad zaj)))))))))
  (zak (zhj 2)))))
abbrev zc8 : Stmt := top 15
def zcf : MS :=
 (sIf (tAndM (tTru (m2 zjb (eIxV 3 (eVar 8)) (eC .non))) (tOrM (tTru (m2 dIsN (eIxV 3 (eVar 7)) (eC .non))) (tTru (m2 dGt (eIxV 3 (eVar 7)) (m2 dAdd (eIxV 3 (eVar 8)) (eVar 9))))))
  (sSeq (sPut 3 (eVar 7) (m2 dAdd (eIxV 3 (eVar 8)) (eVar 9)))
  (sSeq (sPut 4 (eVar 7) (eVar 8))
  (sSet 5 (eVar 7))))
  zcC)
def zci : MS :=
 sFor (iSeq (eVar 0)) (gT 3 (zaN (gN 7) (zaN (gN 8) (zaN (gN 9) zfm)))) zcf
def zcg : MS :=
 (sSeq (sSet 5 (eC .non))
  zci)
def zcl : MS :=
 sFor (iR1 (zag (eVar 1) aNil)) (gN 6) zcg
def zbT : MS :=
 (sSeq (zd6 3 (oRep (eFz (oLst (zag (eC .non) aNil))) (eVar 1)))
  (sSeq (sPut 3 (eVar 2) (eC (.int 0)))
  (sSeq (zd6 4 (oRep (eFz (oLst (zag (eC .non) aNil))) (eVar 1)))
  (sSeq (sSet 5 (eC .non))
  (sSeq zcl
  (sRet (eTup (zag (eVar 3) (zag (eVar 4) (zag (eVar 5) aNil))))))))))
def za4 : List D -> Option Sl := fP 10 zbT
theorem zf3  (h : FnAt K "greatest_shifts" zc8) : FD P w K mg base 1 "greatest_shifts" (spP K 3 za4) :=
 fdP (N := ["ties", "many", "start", "shifts", "unders", "falling", "turn", "lane", "under", "above"]) (k := 0) (m := zbT) X G h fun _ _ _ _ _ _ _ hr nd => (zae (zbM 3 (zlF (SO.se (zbk (zaa zg5 zaf))) (zab 1)) nd)
  (zae (zkc 3 zah (zab 2))
  (zae (zbM 4 (zlF (SO.se (zbk (zaa zg5 zaf))) (zab 1)) nd)
  (zae (zat 5 zg5 nd)
  (zae (zbh PassesOwn.never rfl (zax bn.range' (zaa (zab 1) zaf)) (zal 6 nd)
  (zae (zat 5 zg5 nd)
  (zak (zbh PassesOwn.never rfl (zbf (zab 0)) (zc6 rfl (zaw (zal 7 nd) (zaw (zal 8 nd) (zaw (zal 9 nd) zbL))))
  (zak (zdm (STw.st (sw_and (zki (zai 3 (zab 8)) zg5) (sw_and1 (STw.st (sw_or (st_is (zai 3 (zab 7)) zg5) (zlC (st_gt (zai 3 (zab 7)) (zaK (zai 3 (zab 8)) (zab 9)))))))))
  (zae (zkc 3 (zaK (zai 3 (zab 8)) (zab 9)) (zab 7))
  (zae (zkc 4 (zab 8) (zab 7))
  (zak (zat 5 (zab 7) nd))))
  zaX))))))
  (zak (zaL (zaQ (zaa (zab 3) (zaa (zab 4) (zaa (zab 5) zaf)))))))))))
abbrev zff : Stmt := top 16
def zdz : MS :=
 (sSet 2 (eIxV 0 (eVar 2)))
def zdC : MS :=
 sFor (iR1 (zag (zdS 0) aNil)) (gN 3) zdz
def zdt : MT :=
 (tTru (m2 dNe (eIxV 0 (eIxV 4 (m1 dNeg (eC (.int 1))))) (eVar 2)))
def zdH : MS :=
 (sApp 4 (eIxV 0 (eIxV 4 (m1 dNeg (eC (.int 1))))))
def zdF : MS :=
 zgI zdt zdH 400
def zdk : MS :=
 (sSeq (sSet 2 (eVar 1))
  (sSeq zdC
  (sSeq (zd6 4 (oLst (zag (eVar 2) aNil)))
  (sSeq zdF
  (zjc 4)))))
def zby : List D -> Option Sl := fP 5 zdk
theorem zhm  (h : FnAt K "falling_loop" zff) : FD P w K mg base 1 "falling_loop" (spP K 2 zby) :=
 fdP (N := ["unders", "falling", "lane", "step", "loop"]) (k := 0) (m := zdk) X G h fun _ _ _ _ _ _ _ hr nd => (zae (zat 2 (zab 1) nd)
  (zae (zbh PassesOwn.never rfl (zax bn.range' (zaa (zbs 0 bn.len') zaf)) (zal 3 nd)
  (zak (zat 2 (zai 0 (zab 2)) nd)))
  (zae (zbM 4 (zbk (zaa (zab 2) zaf)) nd)
  (zae (ss_while 400 PassesOwn.never (zlk hr.units (zai 0 (zai 4 (zgP zah))) (zab 2))
  (zak (zfY 4 (zai 0 (zai 4 (zgP zah))))))
  (zak (zhj 4))))))
abbrev zem : Stmt := top 17
def zdl : MS :=
 (sRet (zaU za4 (zag (zaU zbY (zag (eVar 0) aNil)) (zag (m2 dAdd (mC dLen (zag (eIxV 0 (eC (.int 1))) aNil)) (mC dLen (zag (m2 dIx (eIxV 0 (eC (.int 1))) (eC (.int 0))) aNil))) (zag (eVar 1) aNil)))))
def za2 : List D -> Option Sl := fP 2 zdl
theorem zhc (zdN : FD P w K mg base 3 "floor_ties" (spP K 1 zbY)) (zbH : FD P w K mg base 1 "greatest_shifts" (spP K 3 za4)) (h : FnAt K "floor_shifts" zem) : FD P w K mg base 4 "floor_shifts" (spP K 2 za2) :=
 fdP (N := ["floor", "start"]) (k := 3) (m := zdl) X G h fun _ _ _ _ _ _ _ hr nd => (zak (zaL (zaq zbH hr (zaa (zaq zdN hr (zaa (zab 0) zaf) (hlen := (zad zaj))) (zaa (zaK (zbP bn.len' (zaa (zai 0 zah) zaf)) (zbP bn.len' (zaa (zay (zai 0 zah) zah) zaf))) (zaa (zab 1) zaf))) (hlen := (zad (zad (zad zaj)))))))
abbrev zhL : Stmt := top 18
def zgR : ME :=
 (eTup (zag (mC (d2I min2) (zag (eVar 1) (zag (eVar 2) aNil))) (zag (m2 dSub (mC (d2I max2) (zag (eVar 1) (zag (eVar 2) aNil))) (eVar 0)) aNil)))
def zei : MO :=
 oLC [1] 2 (iZ2 (zag (eVar 2) (zag (eVar 3) aNil))) (gT 2 (zaN (gN 1) (zaN (gN 2) zfm))) zbB zgR
def zhe : MS :=
 (sSeq (sSet 2 (eIf (tTru (m2 dLt (eIxV 0 (eC (.int 0))) (eVar 1))) (eVar 0) (m2 dAdd (eCut (eVar 0) (zhE (eC (.int 1))) pNo) (eCut (eVar 0) pNo (zhE (eC (.int 1)))))))
  (sSeq (sSet 3 (m2 dAdd (eCut (eVar 2) (zhE (eC (.int 1))) pNo) (eCut (eVar 2) pNo (zhE (eC (.int 1))))))
  (zju zei)))
def zd7 : List D -> Option Sl := fP 4 zhe
theorem zk0  (h : FnAt K "tour_of" zhL) : FD P w K mg base 1 "tour_of" (spP K 2 zd7) :=
 fdP (N := ["loop", "rows", "lanes", "unders"]) (k := 0) (m := zhe) X G h fun _ _ _ _ _ _ _ hr nd => (zae (zat 2 (zh3 (st_lt (zai 0 zah) (zab 1)) (zab 0) (zaK (zht (zab 0) (zeF zah) zk2) (zht (zab 0) zk2 (zeF zah)))) nd)
  (zae (zat 3 (zaK (zht (zab 2) (zeF zah) zk2) (zht (zab 2) zk2 (zeF zah))) nd)
  (zak (zgD (zfL [1] 2 ["rows", "lane", "under"] rfl (it_zip2N bn.zip' (zaa (zab 2) (zaa (zab 3) zaf))) (fun C s H fp => (zc6 rfl (zaw (zal 1 ndk) (zaw (zal 2 ndk) zbL)))) (fun C s H fp => zaG) (fun C s H fp => (zaQ (zaa (zhk rfl bn.min' (zaa (zab 1) (zaa (zab 2) zaf))) (zaa (za3 (zin rfl bn.max' (zaa (zab 1) (zaa (zab 2) zaf))) (zab 0)) zaf)))))))))
abbrev zfa : Stmt := top 19
def zdB : MS :=
 (sRet (eTup (zag (eC (.str "floor")) (zag (zaU zaF (zag (zaU zaH (zag (eVar 0) aNil)) (zag (eIxV 1 (eC (.int 0))) aNil))) aNil))))
def zdo : MS :=
 (sSeq (sSet 1 (zaU za2 (zag (eVar 0) (zag (eC (.int 0)) aNil))))
  (sSeq (sIf (tTru (m2 zjb (eIxV 1 (eC (.int 2))) (eC .non)))
  (sRet (eTup (zag (eC (.str "tour")) (zag (zaU zd7 (zag (zaU zby (zag (eIxV 1 (eC (.int 1))) (zag (eIxV 1 (eC (.int 2))) aNil))) (zag (mC dLen (zag (eIxV 0 (eC (.int 1))) aNil)) aNil))) aNil))))
  zcC)
  zdB))
def zbC : List D -> Option Sl := fP 2 zdo
theorem zhf (zcO : FD P w K mg base 1 "falling_loop" (spP K 2 zby)) (za5 : FD P w K mg base 4 "floor_shifts" (spP K 2 za2)) (zaD : FD P w K mg base 2 "plain_numbers" (spP K 1 zaH)) (zaI : FD P w K mg base 3 "shifted_numbers" (spP K 2 zaF)) (zgA : FD P w K mg base 1 "tour_of" (spP K 2 zd7)) (h : FnAt K "fitted_floor" zfa) : FD P w K mg base 5 "fitted_floor" (spP K 1 zbC) :=
 fdP (N := ["floor", "found"]) (k := 4) (m := zdo) X G h fun _ _ _ _ _ _ _ hr nd => (zae (zat 1 (zaq za5 hr (zaa (zab 0) (zaa zah zaf)) (hlen := (zad (zad zaj)))) nd)
  (zae (zdm (zki (zai 1 zah) zg5)
  (zak (zaL (zaQ (zaa zlD (zaa (zaq zgA hr (zaa (zaq zcO hr (zaa (zai 1 zah) (zaa (zai 1 zah) zaf)) (hlen := (zad (zad zaj)))) (zaa (zbP bn.len' (zaa (zai 0 zah) zaf)) zaf)) (hlen := (zad (zad zaj)))) zaf)))))
  zaX)
  (zak (zaL (zaQ (zaa zlD (zaa (zaq zaI hr (zaa (zaq zaD hr (zaa (zab 0) zaf) (hlen := (zad zaj))) (zaa (zai 1 zah) zaf)) (hlen := (zad (zad zaj)))) zaf)))))))
abbrev zdE : Stmt := top 21
def zcd : MS :=
 (sRet (m2 dIx (zaU za2 (zag (eVar 0) (zag (eVar 1) aNil))) (eC (.int 0))))
def zaP : List D -> Option Sl := fP 2 zcd
theorem zgF (za5 : FD P w K mg base 4 "floor_shifts" (spP K 2 za2)) (h : FnAt K "fitting_shifts" zdE) : FD P w K mg base 5 "fitting_shifts" (spP K 2 zaP) :=
 fdP (N := ["floor", "start"]) (k := 4) (m := zcd) X G h fun _ _ _ _ _ _ _ hr nd => (zak (zaL (zay (zaq za5 hr (zaa (zab 0) (zaa (zab 1) zaf)) (hlen := (zad (zad zaj)))) zah)))
abbrev zd0 : Stmt := top 22
def zcP : MS :=
 (sIf (tTru (m2 dNe (m2 dIx (zaU zbC (zag (eVar 0) aNil)) (eC (.int 0))) (eC (.str "floor"))))
  (fun _ => none)
  zcC)
def zbm : List D -> Option Sl := fP 1 zcP
theorem zg0 (zcN : FD P w K mg base 5 "fitted_floor" (spP K 1 zbC)) (h : FnAt K "refuse_no_fit" zd0) : FD P w K mg base 6 "refuse_no_fit" (spP K 1 zbm) :=
 fdP (N := ["floor"]) (k := 5) (m := zcP) X G h fun _ _ _ _ _ _ _ hr nd => (zak (zdm (zlk hr.units (zay (zaq zcN hr (zaa (zab 0) zaf) (hlen := (zad zaj))) zah) zlD)
  (zak zkh)
  zaX))
abbrev zfw : Stmt := top 23
def zd1 : MS :=
 (sSeq (sExpr (zaU zbm (zag (eVar 0) aNil)))
  (sSeq (sSet 3 (zaU zaH (zag (eVar 0) aNil)))
  (sSeq (sSet 4 (zaU zaF (zag (eVar 3) (zag (zaU zaP (zag (eVar 0) (zag (m2 dAdd (zdS 3) (eVar 2)) aNil))) aNil))))
  (sSeq (sSet 5 (zaU zaF (zag (eVar 3) (zag (zaU zaP (zag (eVar 0) (zag (eVar 1) aNil))) aNil))))
  (sRet (eIf (tTru (m2 dEq (zaU zbc (zag (eVar 1) (zag (eVar 2) aNil))) (eC (.int 1)))) (eTup (zag (eVar 5) (zag (eVar 4) aNil))) (eTup (zag (eVar 4) (zag (eVar 5) aNil)))))))))
def zdM : MS :=
 (sSeq (sIf (zhv (tTru (zaU zej (zag (eIxV 0 (eC (.int 1))) (zag (eVar 1) (zag (eVar 2) aNil))))))
  (fun _ => none)
  zcC)
  zd1)
def zbr : List D -> Option Sl := fP 6 zdM
theorem zhI (zaZ : FD P w K mg base 1 "cell_sign" (spP K 2 zbc)) (zbq : FD P w K mg base 5 "fitting_shifts" (spP K 2 zaP)) (zgE : FD P w K mg base 1 "is_cell" (spP K 3 zej)) (zaD : FD P w K mg base 2 "plain_numbers" (spP K 1 zaH)) (zcb : FD P w K mg base 6 "refuse_no_fit" (spP K 1 zbm)) (zaI : FD P w K mg base 3 "shifted_numbers" (spP K 2 zaF)) (h : FnAt K "floor_range" zfw) : FD P w K mg base 7 "floor_range" (spP K 3 zbr) :=
 fdP (N := ["floor", "r", "c", "numbers", "high", "low"]) (k := 6) (m := zdM) X G h fun _ _ _ _ _ _ _ hr nd => (zae (zdm (zgc (zcB (zaq zgE hr (zaa (zai 0 zah) (zaa (zab 1) (zaa (zab 2) zaf))) (hlen := (zad (zad (zad zaj)))))))
  (zak zkh)
  zaX)
  (zae (ss_expr (zaq zcb hr (zaa (zab 0) zaf) (hlen := (zad zaj))))
  (zae (zat 3 (zaq zaD hr (zaa (zab 0) zaf) (hlen := (zad zaj))) nd)
  (zae (zat 4 (zaq zaI hr (zaa (zab 3) (zaa (zaq zbq hr (zaa (zab 0) (zaa (zaK (zbs 3 bn.len') (zab 2)) zaf)) (hlen := (zad (zad zaj)))) zaf)) (hlen := (zad (zad zaj)))) nd)
  (zae (zat 5 (zaq zaI hr (zaa (zab 3) (zaa (zaq zbq hr (zaa (zab 0) (zaa (zab 1) zaf)) (hlen := (zad (zad zaj)))) zaf)) (hlen := (zad (zad zaj)))) nd)
  (zak (zaL (zh3 (zjt hr.units (zaq zaZ hr (zaa (zab 1) (zaa (zab 2) zaf)) (hlen := (zad (zad zaj)))) zah) (zaQ (zaa (zab 5) (zaa (zab 4) zaf))) (zaQ (zaa (zab 4) (zaa (zab 5) zaf)))))))))))
abbrev zgN : Stmt := top 25
def zfF : MS :=
 (sSeq (sSet 2 (m2 dMod (m2 dAdd (m2 dAdd (m2 dMul (eVar 2) (eC (.int 48271))) (m2 dMul (eC (.int 7919)) (eVar 3))) (eC (.int 12345))) (eC (.int 2147483647))))
  (sSeq (sSet 4 (m2 dMod (m2 dMul (eVar 2) (eVar 2)) (eC (.int 2147483629))))
  (sSet 1 (m2 dAdd (m2 dMul (eVar 1) (eC (.int 4194304))) (m2 dMod (m2 dDiv (eVar 4) (eC (.int 256))) (eC (.int 4194304)))))))
def zfE : MS :=
 sFor (iR1 (zag (eC (.int 28)) aNil)) (gN 3) zfF
def zfo : MS :=
 (sSeq (sSet 1 (eC (.int 0)))
  (sSeq (sSet 2 (m2 dAdd (m2 dMod (eVar 0) (eC (.int 2147483647))) (eC (.int 6113))))
  (sSeq zfE
  (zju (oLst (zag (eVar 1) aNil))))))
def zfQ : MS :=
 (sSeq (sIf (tTru (m2 dGe (eVar 0) (m2 dPow (eC (.int 10)) (eC (.int 18)))))
  (zju (oLst (zag (m2 dMod (m2 dSub (eVar 0) (m2 dPow (eC (.int 10)) (eC (.int 18)))) (m2 dMul (m2 dMul (m2 dPow (eC (.int 10)) (eC (.int 64))) (m2 dPow (eC (.int 10)) (eC (.int 64)))) (m2 dPow (eC (.int 10)) (eC (.int 64))))) aNil)))
  zcC)
  zfo)
def zcS : List D -> Option Sl := fP 5 zfQ
theorem ziS  (h : FnAt K "_law_deal" zgN) : FD P w K mg base 1 "_law_deal" (spP K 1 zcS) :=
 fdP (N := ["cell", "great", "one", "k", "two"]) (k := 0) (m := zfQ) X G h fun _ _ _ _ _ _ _ hr nd => (zae (zdm (st_ge (zab 0) (zgM zah zah))
  (zak (zgD (zbk (zaa (zgK (za3 (zab 0) (zgM zah zah)) (zbz (zbz (zgM zah zah) (zgM zah zah)) (zgM zah zah))) zaf))))
  zaX)
  (zae (zat 1 zah nd)
  (zae (zat 2 (zaK (zgK (zab 0) zah) zah) nd)
  (zae (zbh PassesOwn.never rfl (zax bn.range' (zaa zah zaf)) (zal 3 nd)
  (zae (zat 2 (zgK (zaK (zaK (zbz (zab 2) zah) (zbz zah (zab 3))) zah) zah) nd)
  (zae (zat 4 (zgK (zbz (zab 2) (zab 2)) zah) nd)
  (zak (zat 1 (zaK (zbz (zab 1) zah) (zgK (se_div (zab 4) zah) zah)) nd)))))
  (zak (zgD (zbk (zaa (zab 1) zaf))))))))
abbrev zgT : Stmt := top 26
def zfO : MS :=
 (sSeq (sSet 2 (m2 dMod (eIxV 0 (eC (.int 0))) (eVar 1)))
  (sSeq (sPut 0 (eC (.int 0)) (m2 dDiv (eIxV 0 (eC (.int 0))) (eVar 1)))
  (zjc 2)))
def zao : List D -> List D -> Option (Sl × List D) := fM 3 zfO
theorem zi0  (h : FnAt K "_law_take" zgT) : FD P w K mg base 1 "_law_take" (spM K 2 zao) :=
 fdM (N := ["pot", "many", "digit"]) (k := 0) (m := zfO) X G h fun _ _ _ _ _ _ _ hr nd => (zae (zat 2 (zgK (zai 0 zah) (zab 1)) nd)
  (zae (zkc 0 (se_div (zai 0 zah) (zab 1)) zah)
  (zak (zhj 2))))
abbrev zgk : Stmt := top 27
def zgU : MS :=
 (sRet (eAnd (eIsI "int" (eVar 0)) (m1 dNot (eIsI "bool" (eVar 0)))))
def zde : List D -> Option Sl := fP 1 zgU
theorem ziF  (h : FnAt K "_law_whole" zgk) : FD P w K mg base 1 "_law_whole" (spP K 1 zde) :=
 fdP (N := ["thing"]) (k := 0) (m := zgU) X G h fun _ _ _ _ _ _ _ hr nd => (zak (zaL (zkg (zjn "int" bn.isinstance' bn.int' (by decide +kernel) (zab 0)) (zkD (se_not (zjn "bool" bn.isinstance' bn.bool' (by decide +kernel) (zab 0)))))))
abbrev zef : Stmt := top 28
def zdx : ME :=
 (zaU zde (zag (eVar 0) aNil))
def zdu : MO :=
 oLC [] 1 (iSeq (eVar 0)) (gN 0) zbB zdx
def zdg : MS :=
 (sRet (eAnd (eIsI "tuple" (eVar 0)) (mC (dAll fun bs => bs.all id) (zag (eFz zdu) aNil))))
def zbA : List D -> Option Sl := fP 1 zdg
theorem zhr (zdR : FD P w K mg base 1 "_law_whole" (spP K 1 zde)) (h : FnAt K "_law_numbers" zef) : FD P w K mg base 2 "_law_numbers" (spP K 1 zbA) :=
 fdP (N := ["thing"]) (k := 1) (m := zdg) X G h fun _ _ _ _ _ _ _ hr nd => (zak (zaL (zkg (zjn "tuple" bn.isinstance' bn.tuple' (by decide +kernel) (zab 0)) (zkD (zhN rfl bn.all' (zaa (SO.se (zfL [] 1 ["one"] rfl (zbf (zab 0)) (fun C s H fp => (zal 0 ndk)) (fun C s H fp => zaG) (fun C s H fp => (zaq zdR hr (zaa (zab 0) zaf) (hlen := (zad zaj)))))) zaf))))))
abbrev zcZ : Stmt := top 29
def zco : MS :=
 (sSeq (sSet 5 (eFz (oLst (zag (m2 dIx (eIxV 0 (eVar 2)) (eVar 4)) (zag (m2 dIx (eIxV 0 (eVar 2)) (m2 dAdd (eVar 4) (eC (.int 1)))) (zag (m2 dIx (eIxV 0 (m2 dAdd (eVar 2) (eC (.int 1)))) (eVar 4)) (zag (m2 dIx (eIxV 0 (m2 dAdd (eVar 2) (eC (.int 1)))) (m2 dAdd (eVar 4) (eC (.int 1)))) aNil)))))))
  (sApp 3 (mC dSum (zag (eVar 5) aNil))))
def zcn : MS :=
 sFor (iR1 (zag (m2 dSub (mC dLen (zag (eIxV 0 (eC (.int 0))) aNil)) (eC (.int 1))) aNil)) (gN 4) zco
def zcs : MS :=
 (sSeq (zd6 3 (oLst aNil))
  (sSeq zcn
  (sApp 1 (mC zcF (zag (eVar 3) aNil)))))
def zcy : MS :=
 sFor (iR1 (zag (m2 dSub (zdS 0) (eC (.int 1))) aNil)) (gN 2) zcs
def zbQ : MS :=
 (sSeq (zd6 1 (oLst aNil))
  (sSeq zcy
  (sRet (mC zcF (zag (eVar 1) aNil)))))
def zaA : List D -> Option Sl := fP 6 zbQ
theorem zgi  (h : FnAt K "_law_floor_sums" zcZ) : FD P w K mg base 1 "_law_floor_sums" (spP K 1 zaA) :=
 fdP (N := ["numbers", "sums", "r", "line", "c", "four"]) (k := 0) (m := zbQ) X G h fun _ _ _ _ _ _ _ hr nd => (zae (zbM 1 (zbk zaf) nd)
  (zae (zbh PassesOwn.never rfl (zax bn.range' (zaa (za3 (zbs 0 bn.len') zah) zaf)) (zal 2 nd)
  (zae (zbM 3 (zbk zaf) nd)
  (zae (zbh PassesOwn.never rfl (zax bn.range' (zaa (za3 (zbP bn.len' (zaa (zai 0 zah) zaf)) zah) zaf)) (zal 4 nd)
  (zae (zat 5 (SO.se (zbk (zaa (zay (zai 0 (zab 2)) (zab 4)) (zaa (zay (zai 0 (zab 2)) (zaK (zab 4) zah)) (zaa (zay (zai 0 (zaK (zab 2) zah)) (zab 4)) (zaa (zay (zai 0 (zaK (zab 2) zah)) (zaK (zab 4) zah)) zaf)))))) nd)
  (zak (zfY 3 (se_sum rfl bn.sum' (zaa (zab 5) zaf))))))
  (zak (zfY 1 (zdd bn.tuple' (zaa (zab 3) zaf)))))))
  (zak (zaL (zdd bn.tuple' (zaa (zab 1) zaf))))))
abbrev zgf : Stmt := top 30
def zeH : ME :=
 (mC zcF (zag (eVar 0) aNil))
def zeI : MO :=
 oLC [] 1 (iSeq (eVar 0)) (gN 0) zbB zeH
def zfe : MS :=
 (sRet (mC zcF (zag (eFz zeI) aNil)))
def zaV : List D -> Option Sl := fP 1 zfe
theorem ziw  (h : FnAt K "_law_fixed" zgf) : FD P w K mg base 1 "_law_fixed" (spP K 1 zaV) :=
 fdP (N := ["table"]) (k := 0) (m := zfe) X G h fun _ _ _ _ _ _ _ hr nd => (zak (zaL (zdd bn.tuple' (zaa (SO.se (zfL [] 1 ["row"] rfl (zbf (zab 0)) (fun C s H fp => (zal 0 ndk)) (fun C s H fp => zaG) (fun C s H fp => (zdd bn.tuple' (zaa (zab 0) zaf))))) zaf))))
abbrev zc4 : Stmt := top 32
def zct : MO :=
 (oC za9 (zag (eVar 0) aNil))
def zcq : ME :=
 (m2 dAdd (eVar 1) (eVar 0))
def zcm : MO :=
 oLC [0] 1 (iSeq (eVar 1)) (gN 1) zbB zcq
def zck : MO :=
 zcm
def zbu : MS :=
 (sFzT 6 (sFzT 4 (sFzT 5 (sRet (eTup (zag (zaU zaV (zag (eVar 6) aNil)) (zag (zaU zaV (zag (eVar 4) aNil)) (zag (zaU zaV (zag (eVar 5) aNil)) aNil))))))))
def zbx : MS :=
 (sSeq (sIf (tTru (m2 dEq (eVar 7) (eC (.int 6))))
  (sFzT 6 (sTC 6 [10] 1 (iSeq (eVar 6)) (gN 1) zbB zck))
  zcC)
  zbu)
def zbt : MS :=
 (sSeq (sIf (tTru (m2 dEq (eVar 7) (eC (.int 5))))
  (sSeq (sTP 4 (qV 8) (qV 9) (m2 dAdd (eTI 4 (qV 8) (qV 9)) (eVar 10)))
  (sSeq (sTP 5 (qV 8) (qV 9) (m2 dAdd (eTI 5 (qV 8) (qV 9)) (eVar 10)))
  (sTP 4 (qV 8) (qV 9) (mC (d2I min2) (zag (eTI 4 (qV 8) (qV 9)) (zag (eTI 5 (qV 8) (qV 9)) aNil))))))
  zcC)
  zbx)
def zbv : MS :=
 (sSeq (sIf (tTru (m2 dEq (eVar 7) (eC (.int 4))))
  (sSeq (sTP 5 (qV 8) (qV 9) (m2 dSub (eTI 5 (qV 8) (qV 9)) (eVar 10)))
  (sTP 4 (qV 8) (qV 9) (mC (d2I min2) (zag (eTI 4 (qV 8) (qV 9)) (zag (eTI 5 (qV 8) (qV 9)) aNil)))))
  zcC)
  zbt)
def zbw : MS :=
 (sSeq (sIf (tTru (m2 dEq (eVar 7) (eC (.int 3))))
  (sSeq (sTP 4 (qV 8) (qV 9) (m2 dAdd (eTI 4 (qV 8) (qV 9)) (eVar 10)))
  (sTP 5 (qV 8) (qV 9) (mC (d2I max2) (zag (eTI 5 (qV 8) (qV 9)) (zag (eTI 4 (qV 8) (qV 9)) aNil)))))
  zcC)
  zbv)
def zbR : MS :=
 (sSeq (sUnT 1 [3, 4, 5])
  (sSeq (sTC 6 [] 1 (iSeq (zaU zaA (zag (eVar 3) aNil))) (gN 0) zbB zct)
  (sSeq (sSet 7 (za0 zao 0 (zag (eC (.int 8)) aNil)))
  (sSeq (sSet 8 (za0 zao 0 (zag (zdS 3) aNil)))
  (sSeq (sSet 9 (za0 zao 0 (zag (mC dLen (zag (eIxV 3 (eC (.int 0))) aNil)) aNil)))
  (sSeq (sSet 10 (m2 dMul (m2 dSub (za0 zao 0 (zag (eC (.int 9)) aNil)) (eC (.int 4))) (m2 dIx (eTup (zag (eC (.int 1)) (zag (eVar 2) aNil))) (za0 zao 0 (zag (eC (.int 2)) aNil)))))
  (sSeq (sIf (tTru (m2 dIn (eVar 7) (eTup (zag (eC (.int 1)) (zag (eC (.int 2)) aNil)))))
  (sTG 6 (qMod (qV 8) (qLT 6)) (qMod (qV 9) (qLR 6 0)) (qV 10))
  zcC)
  zbw)))))))
def za6 : List D -> T -> List D -> Option (Sl × List D) := fMT 11 zbR
theorem zgh (zaT : FD P w K mg base 1 "_law_fixed" (spP K 1 zaV)) (zaz : FD P w K mg base 1 "_law_floor_sums" (spP K 1 zaA)) (zam : FD P w K mg base 1 "_law_take" (spM K 2 zao)) (h : FnAt K "_law_bent_floor" zc4) : FD P w K mg base 2 "_law_bent_floor" (spMT K 3 za6) :=
 fdMT (N := ["pot", "parts", "by", "numbers", "least", "greatest", "sums", "way", "r", "c", "more"]) (k := 1) (m := zbR) X G h fun _ _ _ _ _ _ _ hr nd => (zae (ss_unT 1 [3, 4, 5] rfl nd ⟨rfl, by first | exact Or.inl rfl | exact Or.inr rfl, by first | exact Or.inl rfl | exact Or.inr rfl, rfl, by first | exact Or.inl rfl | exact Or.inr rfl, by first | exact Or.inl rfl | exact Or.inr rfl, rfl, by first | exact Or.inl rfl | exact Or.inr rfl, by first | exact Or.inl rfl | exact Or.inr rfl, trivial⟩)
  (zae (zf8 6 [] 1 ["row"] rfl (zbf (zaq zaz hr (zaa (zab 3) zaf) (hlen := (zad zaj)))) (fun C s H fp => (zal 0 ndk)) (fun C s H fp => zaG) (fun C s H fp => (so_list bn.list' (zaa (zab 0) zaf))) nd)
  (zae (zat 7 (zaB 0 zam hr (zaa zah zaf) (zb3 (zad zaj))) nd)
  (zae (zat 8 (zaB 0 zam hr (zaa (zbs 3 bn.len') zaf) (zb3 (zad zaj))) nd)
  (zae (zat 9 (zaB 0 zam hr (zaa (zbP bn.len' (zaa (zai 3 zah) zaf)) zaf) (zb3 (zad zaj))) nd)
  (zae (zat 10 (zbz (za3 (zaB 0 zam hr (zaa zah zaf) (zb3 (zad zaj))) zah) (zay (zaQ (zaa zah (zaa (zab 2) zaf))) (zaB 0 zam hr (zaa zah zaf) (zb3 (zad zaj))))) nd)
  (zae (zdm (st_in (zab 7) (zaQ (zaa zah (zaa zah zaf))))
  (zak (ss_tAug 6 (zlc (zar 8) (sq_lenT 6 bn.len')) (zlc (zar 9) (sq_lenR 6 0 bn.len')) (zar 10)))
  zaX)
  (zae (zdm (zjt hr.units (zab 7) zah)
  (zae (zcT 4 (zaK (zdr 4 (zar 8) (zar 9)) (zab 10)) (zar 8) (zar 9))
  (zak (zcT 5 (zin rfl bn.max' (zaa (zdr 5 (zar 8) (zar 9)) (zaa (zdr 4 (zar 8) (zar 9)) zaf))) (zar 8) (zar 9))))
  zaX)
  (zae (zdm (zjt hr.units (zab 7) zah)
  (zae (zcT 5 (za3 (zdr 5 (zar 8) (zar 9)) (zab 10)) (zar 8) (zar 9))
  (zak (zcT 4 (zhk rfl bn.min' (zaa (zdr 4 (zar 8) (zar 9)) (zaa (zdr 5 (zar 8) (zar 9)) zaf))) (zar 8) (zar 9))))
  zaX)
  (zae (zdm (zjt hr.units (zab 7) zah)
  (zae (zcT 4 (zaK (zdr 4 (zar 8) (zar 9)) (zab 10)) (zar 8) (zar 9))
  (zae (zcT 5 (zaK (zdr 5 (zar 8) (zar 9)) (zab 10)) (zar 8) (zar 9))
  (zak (zcT 4 (zhk rfl bn.min' (zaa (zdr 4 (zar 8) (zar 9)) (zaa (zdr 5 (zar 8) (zar 9)) zaf))) (zar 8) (zar 9)))))
  zaX)
  (zae (zdm (zjt hr.units (zab 7) zah)
  (zak (zhQ 6 (zf8 6 [10] 1 ["more", "row"] rfl (zbf (zab 6)) (fun C s H fp => (zal 1 ndk)) (fun C s H fp => zaG) (fun C s H fp => (zfL [0] 1 ["more", "total"] rfl (zbf (zab 1)) (fun C s H fp => (zal 1 ndk)) (fun C s H fp => zaG) (fun C s H fp => (zaK (zab 1) (zab 0))))) nd)))
  zaX)
  (zak (zhQ 6 (zhQ 4 (zhQ 5 (zaL (zaQ (zaa (zaq zaT hr (zaa (zab 6) zaf) (hlen := (zad zaj))) (zaa (zaq zaT hr (zaa (zab 4) zaf) (hlen := (zad zaj))) (zaa (zaq zaT hr (zaa (zab 5) zaf) (hlen := (zad zaj))) zaf))))))))))))))))))))
abbrev zgq : Stmt := top 31
def zet : ME :=
 (m2 dMul (m2 dSub (za0 zao 0 (zag (eC (.int 11)) aNil)) (eC (.int 5))) (eVar 1))
def zeh : MO :=
 oLCM [0, 4] 1 0 0 (iR1 (zag (eVar 3) aNil)) (gN 2) zbB zet
def zeA : ME :=
 (m2 dSub (eVar 3) (m2 dMul (za0 zao 0 (zag (eVar 1) aNil)) (eVar 2)))
def zfb : MO :=
 oLCM [0, 5, 4] 1 0 0 (iSeq (eIxV 6 (eVar 9))) (gN 3) zbB zeA
def zeT : ME :=
 (m2 dAdd (eVar 3) (m2 dMul (za0 zao 0 (zag (eVar 1) aNil)) (eVar 2)))
def zev : MO :=
 oLCM [0, 5, 4] 1 0 0 (iSeq (eIxV 6 (eVar 9))) (gN 3) zbB zeT
def zeB : MS :=
 (sSeq (sApp 6 (eFz zeh))
  (sSeq (sTAo 7 zfb)
  (sTAo 8 zev)))
def zeC : MS :=
 sFor (iR1 (zag (eVar 2) aNil)) (gN 9) zeB
def zer : MS :=
 (sSeq (sSet 2 (m2 dAdd (eC (.int 2)) (za0 zao 0 (zag (m2 dSub (eVar 1) (eC (.int 1))) aNil))))
  (sSeq (sSet 3 (m2 dAdd (eC (.int 2)) (za0 zao 0 (zag (m2 dSub (eVar 1) (eC (.int 1))) aNil))))
  (sSeq (sSet 4 (m2 dIx (eTup (zag (eC (.int 1)) (zag (eC (.int 1)) (zag (eC (.int 1)) (zag (m2 dPow (eC (.int 10)) (eC (.int 58))) aNil))))) (za0 zao 0 (zag (eC (.int 4)) aNil))))
  (sSeq (sSet 5 (m2 dIx (eTup (zag (eC (.int 1)) (zag (eC (.int 1)) (zag (eC (.int 2)) (zag (eC (.int 5)) aNil))))) (za0 zao 0 (zag (eC (.int 4)) aNil))))
  (sSeq (zd6 6 (oLst aNil))
  (sSeq (sTN 7)
  (sSeq (sTN 8)
  (sSeq zeC
  (sRet (zid za6 0 (cOwn 6 (cTab 7 (cTab 8 cNil))) (zag (eVar 4) aNil)))))))))))
def zb4 : List D -> List D -> Option (Sl × List D) := fM 10 zer
theorem ziG (zbN : FD P w K mg base 2 "_law_bent_floor" (spMT K 3 za6)) (zam : FD P w K mg base 1 "_law_take" (spM K 2 zao)) (h : FnAt K "_law_floor" zgq) : FD P w K mg base 3 "_law_floor" (spM K 2 zb4) :=
 fdM (N := ["pot", "most", "rows", "columns", "by", "wide", "numbers", "least", "greatest", "r"]) (k := 2) (m := zer) X G h fun _ _ _ _ _ _ _ hr nd => (zae (zat 2 (zaK zah (zaB 0 zam hr (zaa (za3 (zab 1) zah) zaf) (zb3 (zad zaj)))) nd)
  (zae (zat 3 (zaK zah (zaB 0 zam hr (zaa (za3 (zab 1) zah) zaf) (zb3 (zad zaj)))) nd)
  (zae (zat 4 (zay (zaQ (zaa zah (zaa zah (zaa zah (zaa (zgM zah zah) zaf))))) (zaB 0 zam hr (zaa zah zaf) (zb3 (zad zaj)))) nd)
  (zae (zat 5 (zay (zaQ (zaa zah (zaa zah (zaa zah (zaa zah zaf))))) (zaB 0 zam hr (zaa zah zaf) (zb3 (zad zaj)))) nd)
  (zae (zbM 6 (zbk zaf) nd)
  (zae (zlA 7 nd)
  (zae (zlA 8 nd)
  (zae (zbh PassesOwn.never rfl (zax bn.range' (zaa (zab 2) zaf)) (zal 9 nd)
  (zae (zfY 6 (SO.se (zjZ [0, 4] 1 0 0 ["pot", "by", "c"] rfl (zax bn.range' (zaa (zab 3) zaf)) (fun C s H fp => (zal 2 ndk)) (fun C s H fp => zaG) (fun C s H fp => (zbz (za3 (zaB 0 zam hr (zaa zah zaf) (zb3 (zad zaj))) zah) (zab 1))))))
  (zae (zkw 7 (zjZ [0, 5, 4] 1 0 0 ["pot", "wide", "by", "number"] rfl (zbf (zai 6 (zab 9))) (fun C s H fp => (zal 3 ndk)) (fun C s H fp => zaG) (fun C s H fp => (za3 (zab 3) (zbz (zaB 0 zam hr (zaa (zab 1) zaf) (zb3 (zad zaj))) (zab 2))))))
  (zak (zkw 8 (zjZ [0, 5, 4] 1 0 0 ["pot", "wide", "by", "number"] rfl (zbf (zai 6 (zab 9))) (fun C s H fp => (zal 3 ndk)) (fun C s H fp => zaG) (fun C s H fp => (zaK (zab 3) (zbz (zaB 0 zam hr (zaa (zab 1) zaf) (zb3 (zad zaj))) (zab 2))))))))))
  (zak (zaL (zmm 0 zbN hr (sc_own 6 (sc_tab 7 (sc_tab 8 sc_nil))) (zaa (zab 4) zaf) (aLen2 (zad zaj)))))))))))))
abbrev zc0 : Stmt := top 33
def zcv : ME :=
 (m2 dEq (zdS 1) (mC dLen (zag (eIxV 0 (eC (.int 0))) aNil)))
def zce : MO :=
 oLC [3] 1 (iSeq (eVar 1)) (gN 1) zbB zcv
def zcw : MS :=
 (sIf (zhv (tTru (zgV dLe dLe (m2 dIx (eIxV 3 (eVar 5)) (eVar 6)) (m2 dIx (eIxV 1 (eVar 5)) (eVar 6)) (m2 dIx (eIxV 4 (eVar 5)) (eVar 6)))))
  (sRet (eC (.bl false)))
  zcC)
def zcp : MS :=
 sFor (iR1 (zag (mC dLen (zag (eIxV 3 (eC (.int 0))) aNil)) aNil)) (gN 6) zcw
def zcx : MS :=
 zcp
def zcr : MS :=
 sFor (iR1 (zag (zdS 3) aNil)) (gN 5) zcx
def zcj : MS :=
 (sSeq zcr
  (sRet (m2 dEq (zaU zaA (zag (eVar 1) aNil)) (eVar 2))))
def zbS : MS :=
 (sSeq (sAsg (eVar 0) (gT 3 (zaN (gN 2) (zaN (gN 3) (zaN (gN 4) zfm)))))
  (sSeq (sIf (tOrM (tTru (m2 dNe (zdS 1) (zdS 3))) (zhv (tTru (mC (dAll fun bs => bs.all id) (zag (eFz zce) aNil)))))
  (sRet (eC (.bl false)))
  zcC)
  zcj))
def za7 : List D -> Option Sl := fP 7 zbS
theorem zgo (zaz : FD P w K mg base 1 "_law_floor_sums" (spP K 1 zaA)) (h : FnAt K "_law_floor_fits" zc0) : FD P w K mg base 2 "_law_floor_fits" (spP K 2 za7) :=
 fdP (N := ["floor", "numbers", "sums", "least", "greatest", "r", "c"]) (k := 1) (m := zbS) X G h fun _ _ _ _ _ _ _ hr nd => (zae (zj7 (zab 0) (zc6 rfl (zaw (zal 2 nd) (zaw (zal 3 nd) (zaw (zal 4 nd) zbL)))))
  (zae (zdm (STw.st (sw_or (zlk hr.units (zbs 1 bn.len') (zbs 3 bn.len')) (zlC (zgc (zcB (zhN rfl bn.all' (zaa (SO.se (zfL [3] 1 ["least", "row"] rfl (zbf (zab 1)) (fun C s H fp => (zal 1 ndk)) (fun C s H fp => zaG) (fun C s H fp => (se_eq hr.units (zbs 1 bn.len') (zbP bn.len' (zaa (zai 0 zah) zaf)))))) zaf)))))))
  (zak (zaL zhC))
  zaX)
  (zae (zbh PassesOwn.never rfl (zax bn.range' (zaa (zbs 3 bn.len') zaf)) (zal 5 nd)
  (zak (zbh PassesOwn.never rfl (zax bn.range' (zaa (zbP bn.len' (zaa (zai 3 zah) zaf)) zaf)) (zal 6 nd)
  (zak (zdm (zgc (st_chain op_le op_le zfJ zfJ zks (zay (zai 3 (zab 5)) (zab 6)) (zay (zai 1 (zab 5)) (zab 6)) (zay (zai 4 (zab 5)) (zab 6))))
  (zak (zaL zhC))
  zaX)))))
  (zak (zaL (se_eq hr.units (zaq zaz hr (zaa (zab 1) zaf) (hlen := (zad zaj))) (zab 2)))))))
abbrev zgJ : Stmt := top 34
def zfM : MS :=
 (sRet (m2 dIx (eTup (zag (eC (.int 1)) (zag (m1 dNeg (eC (.int 1))) aNil))) (m2 dMod (m2 dAdd (eVar 0) (eVar 1)) (eC (.int 2)))))
def zbE : List D -> Option Sl := fP 2 zfM
theorem zi7  (h : FnAt K "_law_sign" zgJ) : FD P w K mg base 1 "_law_sign" (spP K 2 zbE) :=
 fdP (N := ["r", "c"]) (k := 0) (m := zfM) X G h fun _ _ _ _ _ _ _ hr nd => (zak (zaL (zay (zaQ (zaa zah (zaa (zgP zah) zaf))) (zgK (zaK (zab 0) (zab 1)) zah))))
abbrev zgr : Stmt := top 35
def zeS : MS :=
 (sSeq (sSet 9 (eCut (eIxV 4 (m1 dNeg (eC (.int 1)))) (zhE (eVar 7)) (zhE (m2 dAdd (eVar 7) (eC (.int 2))))))
  (sApp 6 (m2 dSub (m2 dSub (eVar 8) (mC dSum (zag (eVar 9) aNil))) (eIxV 6 (eVar 7)))))
def zes : MS :=
 sFor (iEn (zag (eVar 5) aNil)) (gT 2 (zaN (gN 7) (zaN (gN 8) zfm))) zeS
def ze6 : MS :=
 (sSeq (zd6 6 (oLst (zag (eC (.int 0)) aNil)))
  (sSeq zes
  (sApp 4 (eVar 6))))
def zeE : MS :=
 sFor (iSeq (eVar 1)) (gN 5) ze6
def ze2 : MS :=
 (sSeq (sAsg (eVar 0) (gT 3 (zaN (gN 1) (zaN (gN 2) (zaN (gN 3) zfm)))))
  (sSeq (zd6 4 (oLst (zag (m2 dMul (eFz (oLst (zag (eC (.int 0)) aNil))) (mC dLen (zag (eIxV 2 (eC (.int 0))) aNil))) aNil)))
  (sSeq zeE
  (zjc 4))))
def zbn : List D -> Option Sl := fP 10 ze2
theorem ziE  (h : FnAt K "_law_plain" zgr) : FD P w K mg base 1 "_law_plain" (spP K 1 zbn) :=
 fdP (N := ["floor", "sums", "least", "greatest", "numbers", "row", "line", "c", "total", "ahead"]) (k := 0) (m := ze2) X G h fun _ _ _ _ _ _ _ hr nd => (zae (zj7 (zab 0) (zc6 rfl (zaw (zal 1 nd) (zaw (zal 2 nd) (zaw (zal 3 nd) zbL)))))
  (zae (zbM 4 (zbk (zaa (zbz (SO.se (zbk (zaa zah zaf))) (zbP bn.len' (zaa (zai 2 zah) zaf))) zaf)) nd)
  (zae (zbh PassesOwn.never rfl (zbf (zab 1)) (zal 5 nd)
  (zae (zbM 6 (zbk (zaa zah zaf)) nd)
  (zae (zbh PassesOwn.never rfl (zcD bn.enumerate' (zaa (zab 5) zaf)) (zc6 rfl (zaw (zal 7 nd) (zaw (zal 8 nd) zbL)))
  (zae (zat 9 (zht (zai 4 (zgP zah)) (zeF (zab 7)) (zeF (zaK (zab 7) zah))) nd)
  (zak (zfY 6 (za3 (za3 (zab 8) (se_sum rfl bn.sum' (zaa (zab 9) zaf))) (zai 6 (zab 7)))))))
  (zak (zfY 4 (zab 6))))))
  (zak (zhj 4)))))
abbrev zgH : Stmt := top 36
def zfB : MO :=
 (oRep (eFz (oLst (zag (eVar 0) aNil))) (eVar 1))
def zfH : MS :=
 (sTP 8 (qV 9) (qV 9) (eC (.int 0)))
def zfv : MS :=
 sFor (iR1 (zag (eVar 6) aNil)) (gN 9) zfH
def zfu : MS :=
 (sSeq (sSet 12 (zaU zbE (zag (eVar 10) (zag (eVar 11) aNil))))
  (sSeq (sSet 13 (m2 dSub (m2 dIx (eIxV 2 (eVar 10)) (eVar 11)) (m2 dIx (eIxV 4 (eVar 10)) (eVar 11))))
  (sSeq (sSet 14 (m2 dSub (m2 dIx (eIxV 3 (eVar 10)) (eVar 11)) (m2 dIx (eIxV 4 (eVar 10)) (eVar 11))))
  (sSeq (sTP 8 (qAdd (qV 5) (qV 11)) (qV 10) (mC (d2I max2) (zag (m2 dMul (eVar 12) (eVar 13)) (zag (m2 dMul (eVar 12) (eVar 14)) aNil))))
  (sTP 8 (qV 10) (qAdd (qV 5) (qV 11)) (mC (d2I max2) (zag (m2 dSub (eC (.int 0)) (m2 dMul (eVar 12) (eVar 13))) (zag (m2 dSub (eC (.int 0)) (m2 dMul (eVar 12) (eVar 14))) aNil))))))))
def zfq : MS :=
 sFor (iR1 (zag (mC dLen (zag (eIxV 4 (eC (.int 0))) aNil)) aNil)) (gN 11) zfu
def zfp : MS :=
 zfq
def zdh : MS :=
 sFor (iR1 (zag (eVar 5) aNil)) (gN 10) zfp
def zfD : MS :=
 (sSeq (sSet 17 (m2 dAdd (eTI 8 (qV 9) (qV 15)) (eTI 8 (qV 15) (qV 16))))
  (sTP 8 (qV 9) (qV 16) (mC (d2I min2) (zag (eTI 8 (qV 9) (qV 16)) (zag (eVar 17) aNil)))))
def zfA : MS :=
 sFor (iR1 (zag (eVar 6) aNil)) (gN 16) zfD
def zft : MS :=
 zfA
def zfs : MS :=
 sFor (iR1 (zag (eVar 6) aNil)) (gN 9) zft
def zfy : MS :=
 zfs
def zdi : MS :=
 sFor (iR1 (zag (eVar 6) aNil)) (gN 15) zfy
def zfT : MS :=
 (sSeq (sAsg (eVar 0) (gT 3 (zaN (gN 1) (zaN (gN 2) (zaN (gN 3) zfm)))))
  (sSeq (sSet 4 (zaU zbn (zag (eVar 0) aNil)))
  (sSeq (sSet 5 (zdS 4))
  (sSeq (sSet 6 (m2 dAdd (eVar 5) (mC dLen (zag (eIxV 4 (eC (.int 0))) aNil))))
  (sSeq (sSet 7 (m2 dPow (eC (.int 10)) (eC (.int 63))))
  (sSeq (sTC 8 [7, 6] 1 (iR1 (zag (eVar 6) aNil)) (gN 2) zbB zfB)
  (sSeq zfv
  (sSeq zdh
  (sSeq zdi
  (sRT 8))))))))))
def zcJ : List D -> Option Sl := fP 18 zfT
theorem ziU (zbo : FD P w K mg base 1 "_law_plain" (spP K 1 zbn)) (zbF : FD P w K mg base 1 "_law_sign" (spP K 2 zbE)) (h : FnAt K "_law_ways" zgH) : FD P w K mg base 2 "_law_ways" (spP K 1 zcJ) :=
 fdP (N := ["floor", "sums", "least", "greatest", "plain", "rows", "many", "far", "ways", "one", "r", "c", "sign", "low", "high", "amid", "other", "by"]) (k := 1) (m := zfT) X G h fun _ _ _ _ _ _ _ hr nd => (zae (zj7 (zab 0) (zc6 rfl (zaw (zal 1 nd) (zaw (zal 2 nd) (zaw (zal 3 nd) zbL)))))
  (zae (zat 4 (zaq zbo hr (zaa (zab 0) zaf) (hlen := (zad zaj))) nd)
  (zae (zat 5 (zbs 4 bn.len') nd)
  (zae (zat 6 (zaK (zab 5) (zbP bn.len' (zaa (zai 4 zah) zaf))) nd)
  (zae (zat 7 (zgM zah zah) nd)
  (zae (zf8 8 [7, 6] 1 ["far", "many", "one"] rfl (zax bn.range' (zaa (zab 6) zaf)) (fun C s H fp => (zal 2 ndk)) (fun C s H fp => zaG) (fun C s H fp => (zlF (SO.se (zbk (zaa (zab 0) zaf))) (zab 1))) nd)
  (zae (zbh PassesOwn.never rfl (zax bn.range' (zaa (zab 6) zaf)) (zal 9 nd)
  (zak (zcT 8 zah (zar 9) (zar 9))))
  (zae (zbh PassesOwn.never rfl (zax bn.range' (zaa (zab 5) zaf)) (zal 10 nd)
  (zak (zbh PassesOwn.never rfl (zax bn.range' (zaa (zbP bn.len' (zaa (zai 4 zah) zaf)) zaf)) (zal 11 nd)
  (zae (zat 12 (zaq zbF hr (zaa (zab 10) (zaa (zab 11) zaf)) (hlen := (zad (zad zaj)))) nd)
  (zae (zat 13 (za3 (zay (zai 2 (zab 10)) (zab 11)) (zay (zai 4 (zab 10)) (zab 11))) nd)
  (zae (zat 14 (za3 (zay (zai 3 (zab 10)) (zab 11)) (zay (zai 4 (zab 10)) (zab 11))) nd)
  (zae (zcT 8 (zin rfl bn.max' (zaa (zbz (zab 12) (zab 13)) (zaa (zbz (zab 12) (zab 14)) zaf))) (zky (zar 5) (zar 11)) (zar 10))
  (zak (zcT 8 (zin rfl bn.max' (zaa (za3 zah (zbz (zab 12) (zab 13))) (zaa (za3 zah (zbz (zab 12) (zab 14))) zaf))) (zar 10) (zky (zar 5) (zar 11)))))))))))
  (zae (zbh PassesOwn.never rfl (zax bn.range' (zaa (zab 6) zaf)) (zal 15 nd)
  (zak (zbh PassesOwn.never rfl (zax bn.range' (zaa (zab 6) zaf)) (zal 9 nd)
  (zak (zbh PassesOwn.never rfl (zax bn.range' (zaa (zab 6) zaf)) (zal 16 nd)
  (zae (zat 17 (zaK (zdr 8 (zar 9) (zar 15)) (zdr 8 (zar 15) (zar 16))) nd)
  (zak (zcT 8 (zhk rfl bn.min' (zaa (zdr 8 (zar 9) (zar 16)) (zaa (zab 17) zaf))) (zar 9) (zar 16)))))))))
  (zak (ss_retT 8)))))))))))
abbrev zdJ : Stmt := top 37
def zcL : ME :=
 (m2 dGe (m2 dIx (eIxV 0 (eVar 1)) (eVar 1)) (eC (.int 0)))
def zcU : MO :=
 oLC [0] 1 (iR1 (zag (zdS 0) aNil)) (gN 1) zbB zcL
def zcc : MS :=
 (sRet (mC (dAll fun bs => bs.all id) (zag (eFz zcU) aNil)))
def zbg : List D -> Option Sl := fP 1 zcc
theorem zgv  (h : FnAt K "_law_floor_can" zdJ) : FD P w K mg base 1 "_law_floor_can" (spP K 1 zbg) :=
 fdP (N := ["ways"]) (k := 0) (m := zcc) X G h fun _ _ _ _ _ _ _ hr nd => (zak (zaL (zhN rfl bn.all' (zaa (SO.se (zfL [0] 1 ["ways", "one"] rfl (zax bn.range' (zaa (zbs 0 bn.len') zaf)) (fun C s H fp => (zal 1 ndk)) (fun C s H fp => zaG) (fun C s H fp => (se_ge (zay (zai 0 (zab 1)) (zab 1)) zah)))) zaf))))
abbrev zgd : Stmt := top 38
def zen : ME :=
 (zaU zbA (zag (eVar 0) aNil))
def zeY : MO :=
 oLC [] 1 (iSeq (eVar 0)) (gN 0) zbB zen
def zeg : MS :=
 (sRet (eAnd (eIsI "tuple" (eVar 0)) (mC (dAll fun bs => bs.all id) (zag (eFz zeY) aNil))))
def zb6 : List D -> Option Sl := fP 1 zeg
theorem zij (zcX : FD P w K mg base 2 "_law_numbers" (spP K 1 zbA)) (h : FnAt K "_law_table" zgd) : FD P w K mg base 3 "_law_table" (spP K 1 zb6) :=
 fdP (N := ["thing"]) (k := 2) (m := zeg) X G h fun _ _ _ _ _ _ _ hr nd => (zak (zaL (zkg (zjn "tuple" bn.isinstance' bn.tuple' (by decide +kernel) (zab 0)) (zkD (zhN rfl bn.all' (zaa (SO.se (zfL [] 1 ["row"] rfl (zbf (zab 0)) (fun C s H fp => (zal 0 ndk)) (fun C s H fp => zaG) (fun C s H fp => (zaq zcX hr (zaa (zab 0) zaf) (hlen := (zad zaj)))))) zaf))))))
abbrev zeL : Stmt := top 39
def zdL : ME :=
 (m2 dAdd (m2 dMul (zaU zbE (zag (eVar 0) (zag (eVar 1) aNil))) (eVar 3)) (m2 dIx (eIxV 2 (eVar 0)) (eVar 1)))
def zdK : MO :=
 oLC [2, 3, 5] 1 (iSeq (eTup (zag (m2 dSub (eC (.int 0)) (m2 dIx (eIxV 1 (eVar 2)) (m2 dAdd (eVar 4) (eVar 3)))) (zag (m2 dIx (eIxV 1 (m2 dAdd (eVar 4) (eVar 3))) (eVar 2)) aNil)))) (gN 3) zbB zdL
def zdf : MS :=
 (sSeq (sSet 4 (mC dLen (zag (eIxV 0 (eC (.int 1))) aNil)))
  (sSeq (sSet 5 (zaU zbn (zag (eVar 0) aNil)))
  (sSeq (sSet 6 (eFz zdK))
  (sRet (eTup (zag (mC dMinL (zag (eVar 6) aNil)) (zag (mC dMaxL (zag (eVar 6) aNil)) aNil)))))))
def zbD : List D -> Option Sl := fP 7 zdf
theorem zhn (zbo : FD P w K mg base 1 "_law_plain" (spP K 1 zbn)) (zbF : FD P w K mg base 1 "_law_sign" (spP K 2 zbE)) (h : FnAt K "_law_ends_at" zeL) : FD P w K mg base 2 "_law_ends_at" (spP K 4 zbD) :=
 fdP (N := ["floor", "ways", "r", "c", "rows", "plain", "ends"]) (k := 1) (m := zdf) X G h fun _ _ _ _ _ _ _ hr nd => (zae (zat 4 (zbP bn.len' (zaa (zai 0 zah) zaf)) nd)
  (zae (zat 5 (zaq zbo hr (zaa (zab 0) zaf) (hlen := (zad zaj))) nd)
  (zae (ziN 6 [2, 3, 5] 1 ["r", "c", "plain", "part"] rfl (zbf (zaQ (zaa (za3 zah (zay (zai 1 (zab 2)) (zaK (zab 4) (zab 3)))) (zaa (zay (zai 1 (zaK (zab 4) (zab 3))) (zab 2)) zaf)))) (fun C s H fp => (zal 3 ndk)) (fun C s H fp => zaG) (fun C s H fp => (zaK (zbz (zaq zbF hr (zaa (zab 0) (zaa (zab 1) zaf)) (hlen := (zad (zad zaj)))) (zab 3)) (zay (zai 2 (zab 0)) (zab 1)))) nd)
  (zak (zaL (zaQ (zaa (se_minL rfl bn.min' (zaa (zab 6) zaf)) (zaa (se_maxL rfl bn.max' (zaa (zab 6) zaf)) zaf))))))))
abbrev zgj : Stmt := top 41
def ze5 : ME :=
 (ePop 0 (za0 zao 1 (zag (zdS 0) aNil)))
def zfc : MO :=
 oLC2 [3, 0] 1 1 0 0 3 (iR1 (zag (eVar 2) aNil)) (gN 2) zbB ze5
def zeX : MS :=
 (sSeq (zd6 3 (oR (iR1 (zag (eVar 1) aNil))))
  (zju zfc))
def zbG : List D -> List D -> Option (Sl × List D) := fM 4 zeX
theorem ziB (zam : FD P w K mg base 1 "_law_take" (spM K 2 zao)) (h : FnAt K "_law_order" zgj) : FD P w K mg base 2 "_law_order" (spM K 3 zbG) :=
 fdM (N := ["pot", "many", "size", "left"]) (k := 1) (m := zeX) X G h fun _ _ _ _ _ _ _ hr nd => (zae (zbM 3 (zlw bn.list' bn.range' (zaa (zab 1) zaf)) nd)
  (zak (zgD (so_lc2 [3, 0] 1 1 0 0 3 ["left", "pot", "turn"] rfl (zax bn.range' (zaa (zab 2) zaf)) (fun C s H fp => (zal 2 ndk)) (fun C s H fp => zaG) (fun C s H fp => (se_pop 0 (zaB 1 zam hr (zaa (zbs 0 bn.len') zaf) (zb3 (zad zaj)))))))))
abbrev zfX : Stmt := top 40
def zeM : ME :=
 (m2 dMul (m2 dSub (za0 zao 0 (zag (eC (.int 19)) aNil)) (eC (.int 9))) (eVar 1))
def zeD : MO :=
 oLCM [1, 2] 1 0 1 (iR1 (zag (eVar 0) aNil)) (gN 2) zbB zeM
def ze7 : ME :=
 (eFz zeD)
def zcE : MO :=
 oLCM [2, 0, 3] 1 1 0 (iR1 (zag (eVar 1) aNil)) (gN 3) zbB ze7
def ze0 : ME :=
 (eTup (zag (eIxV 0 (eVar 2)) (zag (eIxV 1 (eVar 2)) aNil)))
def zeZ : MO :=
 oLC [6, 7] 1 (iR1 (zag (eVar 5) aNil)) (gN 2) zbB ze0
def zeR : ME :=
 (eTup (zag (eIxV 0 (m2 dAdd (eVar 2) (eC (.int 1)))) (zag (eIxV 1 (eVar 2)) aNil)))
def ze8 : MO :=
 oLC [6, 7] 1 (iR1 (zag (m2 dSub (eVar 5) (eC (.int 1))) aNil)) (gN 2) zbB zeR
def ze9 : ME :=
 (m2 dSub (eVar 1) (m2 dMul (eC (.int 50)) (eVar 0)))
def zeN : MO :=
 oLC [0] 1 (iSeq (eVar 1)) (gN 1) zbB ze9
def zeq : MO :=
 zeN
def zeV : ME :=
 (m2 dAdd (eVar 1) (m2 dMul (eC (.int 50)) (eVar 0)))
def zeb : MO :=
 oLC [0] 1 (iSeq (eVar 1)) (gN 1) zbB zeV
def zew : MO :=
 zeb
def ze3 : MS :=
 (sSeq (sPk 16 11 10 (qMod (qAdd (qAdd (qV 14) (qV 15)) (qV 12)) (qC (.int 2))) (qV 14) (qV 15) (m2 dIx (eIxV 4 (eVar 14)) (eVar 15)))
  zcC)
def zeP : MS :=
 sFor (iSeq (eVar 13)) (gT 2 (zaN (gN 14) (zaN (gN 15) zfm))) ze3
def zb8 : MS :=
 zeP
def zd3 : MS :=
 sFor (iSeq (eTup (zag (eTup (zag (eC (.int 0)) (zag (eVar 8) aNil))) (zag (eTup (zag (eC (.int 1)) (zag (eVar 9) aNil))) aNil)))) (gT 2 (zaN (gN 12) (zaN (gN 13) zfm))) zb8
def zca : MS :=
 (sSeq (sTC 10 [3] 1 (iSeq (eVar 4)) (gN 1) zbB zeq)
  (sSeq (sTC 11 [3] 1 (iSeq (eVar 4)) (gN 1) zbB zew)
  (sSeq zd3
  (sSeq (sFzT 10 (sFzT 11 (sSet 17 (eTup (zag (zaU zaA (zag (eVar 4) aNil)) (zag (zaU zaV (zag (eVar 10) aNil)) (zag (zaU zaV (zag (eVar 11) aNil)) aNil)))))))
  (sRet (eTup (zag (eVar 17) (zag (eTup (zag (eIxV 6 (eC (.int 0))) (zag (eIxV 7 (m1 dNeg (eC (.int 1)))) aNil))) aNil))))))))
def ze1 : MS :=
 (sSeq (sSet 1 (m2 dAdd (eC (.int 2)) (za0 zao 0 (zag (eC (.int 5)) aNil))))
  (sSeq (sSet 2 (m2 dAdd (eC (.int 2)) (za0 zao 0 (zag (eC (.int 5)) aNil))))
  (sSeq (sSet 3 (m2 dIx (eTup (zag (eC (.int 1)) (zag (m2 dPow (eC (.int 10)) (eC (.int 56))) aNil))) (za0 zao 0 (zag (eC (.int 2)) aNil))))
  (sSeq (sSet 4 (eFz zcE))
  (sSeq (sSet 5 (mC (d2I min2) (zag (eVar 1) (zag (eVar 2) aNil))))
  (sSeq (sSet 6 (za0 zbG 0 (zag (eVar 1) (zag (eVar 5) aNil))))
  (sSeq (sSet 7 (za0 zbG 0 (zag (eVar 2) (zag (eVar 5) aNil))))
  (sSeq (sSet 8 (eFz zeZ))
  (sSeq (zd6 9 ze8)
  (sSeq (sIf (tTru (m2 dEq (za0 zao 0 (zag (eC (.int 2)) aNil)) (eC (.int 0))))
  (sApp 9 (eTup (zag (eIxV 6 (eC (.int 0))) (zag (eIxV 7 (m1 dNeg (eC (.int 1)))) aNil))))
  zcC)
  zca))))))))))
def zb5 : List D -> List D -> Option (Sl × List D) := fM 18 ze1
theorem zio (zaT : FD P w K mg base 1 "_law_fixed" (spP K 1 zaV)) (zaz : FD P w K mg base 1 "_law_floor_sums" (spP K 1 zaA)) (zcA : FD P w K mg base 2 "_law_order" (spM K 3 zbG)) (zam : FD P w K mg base 1 "_law_take" (spM K 2 zao)) (h : FnAt K "_law_stair" zfX) : FD P w K mg base 3 "_law_stair" (spM K 1 zb5) :=
 fdM (N := ["pot", "rows", "columns", "by", "numbers", "size", "ones", "others", "tops", "feet", "least", "greatest", "way", "cells", "r", "c", "bounds", "floor"]) (k := 2) (m := ze1) X G h fun _ _ _ _ _ _ _ hr nd => (zae (zat 1 (zaK zah (zaB 0 zam hr (zaa zah zaf) (zb3 (zad zaj)))) nd)
  (zae (zat 2 (zaK zah (zaB 0 zam hr (zaa zah zaf) (zb3 (zad zaj)))) nd)
  (zae (zat 3 (zay (zaQ (zaa zah (zaa (zgM zah zah) zaf))) (zaB 0 zam hr (zaa zah zaf) (zb3 (zad zaj)))) nd)
  (zae (zhU 4 [2, 0, 3] 1 1 0 ["columns", "pot", "by", "r"] rfl (zax bn.range' (zaa (zab 1) zaf)) (fun C s H fp => (zal 3 ndk)) (fun C s H fp => zaG) (fun C s H fp => (SO.se (zjZ [1, 2] 1 0 1 ["pot", "by", "c"] rfl (zax bn.range' (zaa (zab 0) zaf)) (fun C s H fp => (zal 2 ndk)) (fun C s H fp => zaG) (fun C s H fp => (zbz (za3 (zaB 0 zam hr (zaa zah zaf) (zb3 (zad zaj))) zah) (zab 1)))))) nd)
  (zae (zat 5 (zhk rfl bn.min' (zaa (zab 1) (zaa (zab 2) zaf))) nd)
  (zae (zat 6 (zaB 0 zcA hr (zaa (zab 1) (zaa (zab 5) zaf)) (zb3 (zad (zad zaj)))) nd)
  (zae (zat 7 (zaB 0 zcA hr (zaa (zab 2) (zaa (zab 5) zaf)) (zb3 (zad (zad zaj)))) nd)
  (zae (ziN 8 [6, 7] 1 ["ones", "others", "at"] rfl (zax bn.range' (zaa (zab 5) zaf)) (fun C s H fp => (zal 2 ndk)) (fun C s H fp => zaG) (fun C s H fp => (zaQ (zaa (zai 0 (zab 2)) (zaa (zai 1 (zab 2)) zaf)))) nd)
  (zae (ss_setLC 9 [6, 7] 1 ["ones", "others", "at"] rfl (zax bn.range' (zaa (za3 (zab 5) zah) zaf)) (fun C s H fp => (zal 2 ndk)) (fun C s H fp => zaG) (fun C s H fp => (zaQ (zaa (zai 0 (zaK (zab 2) zah)) (zaa (zai 1 (zab 2)) zaf)))) nd)
  (zae (zdm (zjt hr.units (zaB 0 zam hr (zaa zah zaf) (zb3 (zad zaj))) zah)
  (zak (zfY 9 (zaQ (zaa (zai 6 zah) (zaa (zai 7 (zgP zah)) zaf)))))
  zaX)
  (zae (zf8 10 [3] 1 ["by", "row"] rfl (zbf (zab 4)) (fun C s H fp => (zal 1 ndk)) (fun C s H fp => zaG) (fun C s H fp => (zfL [0] 1 ["by", "number"] rfl (zbf (zab 1)) (fun C s H fp => (zal 1 ndk)) (fun C s H fp => zaG) (fun C s H fp => (za3 (zab 1) (zbz zah (zab 0)))))) nd)
  (zae (zf8 11 [3] 1 ["by", "row"] rfl (zbf (zab 4)) (fun C s H fp => (zal 1 ndk)) (fun C s H fp => zaG) (fun C s H fp => (zfL [0] 1 ["by", "number"] rfl (zbf (zab 1)) (fun C s H fp => (zal 1 ndk)) (fun C s H fp => zaG) (fun C s H fp => (zaK (zab 1) (zbz zah (zab 0)))))) nd)
  (zae (zbh PassesOwn.never rfl (zbf (zaQ (zaa (zaQ (zaa zah (zaa (zab 8) zaf))) (zaa (zaQ (zaa zah (zaa (zab 9) zaf))) zaf)))) (zc6 rfl (zaw (zal 12 nd) (zaw (zal 13 nd) zbL)))
  (zak (zbh PassesOwn.never rfl (zbf (zab 13)) (zc6 rfl (zaw (zal 14 nd) (zaw (zal 15 nd) zbL)))
  (sss_pick 16 11 10 nd (by decide) (by decide) (zlc (zky (zky (zar 14) (zar 15)) (zar 12)) sq_int) (zay (zai 4 (zab 14)) (zab 15)) (zar 14) (zar 15)
  zaX))))
  (zae (zhQ 10 (zhQ 11 (zat 17 (zaQ (zaa (zaq zaz hr (zaa (zab 4) zaf) (hlen := (zad zaj))) (zaa (zaq zaT hr (zaa (zab 10) zaf) (hlen := (zad zaj))) (zaa (zaq zaT hr (zaa (zab 11) zaf) (hlen := (zad zaj))) zaf)))) nd)))
  (zak (zaL (zaQ (zaa (zab 17) (zaa (zaQ (zaa (zai 6 zah) (zaa (zai 7 (zgP zah)) zaf))) zaf)))))))))))))))))))
abbrev zfZ : Stmt := top 42
def zez : ME :=
 (zaU zb6 (zag (eVar 0) aNil))
def zeU : MO :=
 oLC [] 1 (iSeq (eVar 4)) (gN 0) zbB zez
def zeu : ME :=
 (zaU za7 (zag (eVar 0) (zag (eVar 1) aNil)))
def zeO : MO :=
 oLC [0] 1 (iSeq (eVar 4)) (gN 1) zbB zeu
def zd8 : MS :=
 (sSeq (sSet 5 (eTup (zag (m2 dIx (m2 dIx (eIxV 4 (eC (.int 0))) (eVar 2)) (eVar 3)) (zag (m2 dIx (m2 dIx (eIxV 4 (eC (.int 1))) (eVar 2)) (eVar 3)) aNil))))
  (sRet (m2 dEq (eVar 5) (zaU zbD (zag (eVar 0) (zag (eVar 1) (zag (eVar 2) (zag (eVar 3) aNil))))))))
def zeK : MS :=
 (sSeq (sIf (tTru (m2 dNe (zaU zbr (zag (eVar 0) (zag (eVar 2) (zag (eVar 3) aNil)))) (eVar 4)))
  (sRet (eC (.bl false)))
  zcC)
  zd8)
def zeJ : MS :=
 (sSeq (sIf (zhv (tTru (mC (dAll fun bs => bs.all id) (zag (eFz zeO) aNil))))
  (sRet (eC (.bl false)))
  zcC)
  zeK)
def zec : MS :=
 (sSeq (sSet 4 (zaU zbr (zag (eVar 0) (zag (eVar 2) (zag (eVar 3) aNil)))))
  (sSeq (sIf (tOrM (zhv (tTru (eIsI "tuple" (eVar 4)))) (tOrM (tTru (m2 dNe (zdS 4) (eC (.int 2)))) (zhv (tTru (mC (dAll fun bs => bs.all id) (zag (eFz zeU) aNil))))))
  (sRet (eC (.bl false)))
  zcC)
  zeJ))
def zbZ : List D -> Option Sl := fP 6 zec
theorem ziq (zcH : FD P w K mg base 2 "_law_ends_at" (spP K 4 zbD)) (zbJ : FD P w K mg base 2 "_law_floor_fits" (spP K 2 za7)) (zdO : FD P w K mg base 3 "_law_table" (spP K 1 zb6)) (zbX : FD P w K mg base 7 "floor_range" (spP K 3 zbr)) (h : FnAt K "_law_right" zfZ) : FD P w K mg base 8 "_law_right" (spP K 4 zbZ) :=
 fdP (N := ["floor", "ways", "r", "c", "told", "ends"]) (k := 7) (m := zec) X G h fun _ _ _ _ _ _ _ hr nd => (zae (zat 4 (zaq zbX hr (zaa (zab 0) (zaa (zab 2) (zaa (zab 3) zaf))) (hlen := (zad (zad (zad zaj))))) nd)
  (zae (zdm (STw.st (sw_or (zgc (zcB (zjn "tuple" bn.isinstance' bn.tuple' (by decide +kernel) (zab 4)))) (sw_or (zlk hr.units (zbs 4 bn.len') zah) (zlC (zgc (zcB (zhN rfl bn.all' (zaa (SO.se (zfL [] 1 ["one"] rfl (zbf (zab 4)) (fun C s H fp => (zal 0 ndk)) (fun C s H fp => zaG) (fun C s H fp => (zaq zdO hr (zaa (zab 0) zaf) (hlen := (zad zaj)))))) zaf))))))))
  (zak (zaL zhC))
  zaX)
  (zae (zdm (zgc (zcB (zhN rfl bn.all' (zaa (SO.se (zfL [0] 1 ["floor", "one"] rfl (zbf (zab 4)) (fun C s H fp => (zal 1 ndk)) (fun C s H fp => zaG) (fun C s H fp => (zaq zbJ hr (zaa (zab 0) (zaa (zab 1) zaf)) (hlen := (zad (zad zaj))))))) zaf))))
  (zak (zaL zhC))
  zaX)
  (zae (zdm (zlk hr.units (zaq zbX hr (zaa (zab 0) (zaa (zab 2) (zaa (zab 3) zaf))) (hlen := (zad (zad (zad zaj))))) (zab 4))
  (zak (zaL zhC))
  zaX)
  (zae (zat 5 (zaQ (zaa (zay (zay (zai 4 zah) (zab 2)) (zab 3)) (zaa (zay (zay (zai 4 zah) (zab 2)) (zab 3)) zaf))) nd)
  (zak (zaL (se_eq hr.units (zab 5) (zaq zcH hr (zaa (zab 0) (zaa (zab 1) (zaa (zab 2) (zaa (zab 3) zaf)))) (hlen := (zad (zad (zad (zad zaj))))))))))))))
abbrev zcM : Stmt := top 43
def zb2 : MS :=
 (sIf (zhv (tTru (zaU zbZ (zag (eVar 0) (zag (eVar 2) (zag (eVar 3) (zag (eVar 4) aNil)))))))
  (sRet (eC (.bl false)))
  zcC)
def zb1 : MS :=
 sFor (iSeq (eVar 1)) (gT 2 (zaN (gN 3) (zaN (gN 4) zfm))) zb2
def zbl : MS :=
 (sRet (eC (.bl true)))
def zbK : MS :=
 (sSeq (sSet 2 (zlb zcJ (zag (eVar 0) aNil)))
  (sSeq (sIf (tTru (zaU zbg (zag (eVar 2) aNil)))
  zb1
  zcC)
  zbl))
def zaM : List D -> Option Sl := fP 5 zbK
theorem zfK (zbV : FD P w K mg base 1 "_law_floor_can" (spP K 1 zbg)) (zdT : FD P w K mg base 8 "_law_right" (spP K 4 zbZ)) (zd9 : FD P w K mg base 2 "_law_ways" (spP K 1 zcJ)) (h : FnAt K "_law_cells_right" zcM) : FD P w K mg base 9 "_law_cells_right" (spP K 2 zaM) :=
 fdP (N := ["floor", "cells", "ways", "r", "c"]) (k := 8) (m := zbK) X G h fun _ _ _ _ _ _ _ hr nd => (zae (zat 2 (se_callT zd9 hr (zaa (zab 0) zaf) (zad zaj)) nd)
  (zae (zdm (zcB (zaq zbV hr (zaa (zab 2) zaf) (hlen := (zad zaj))))
  (zak (zbh PassesOwn.never rfl (zbf (zab 1)) (zc6 rfl (zaw (zal 3 nd) (zaw (zal 4 nd) zbL)))
  (zak (zdm (zgc (zcB (zaq zdT hr (zaa (zab 0) (zaa (zab 2) (zaa (zab 3) (zaa (zab 4) zaf)))) (hlen := (zad (zad (zad (zad zaj))))))))
  (zak (zaL zhC))
  zaX))))
  zaX)
  (zak (zaL zhC))))
abbrev zi3 : Stmt := top 44
def zjV : ME :=
 (eTup (zag (za0 zao 0 (zag (eVar 1) aNil)) (zag (za0 zao 0 (zag (eVar 2) aNil)) aNil)))
def zku : MO :=
 oLCM [2, 4, 5] 1 0 2 (iR1 (zag (eC (.int 4)) aNil)) (gN 3) zbB zjV
def zj8 : MS :=
 (sSeq (sAsg (za0 zb5 2 aNil) (gT 2 (zaN (gN 3) (zaN (gN 7) zfm))))
  (sSeq (sSet 6 (eTup (zag (za0 zao 2 (zag (mC dLen (zag (eIxV 3 (eC (.int 1))) aNil)) aNil)) (zag (za0 zao 2 (zag (mC dLen (zag (m2 dIx (eIxV 3 (eC (.int 1))) (eC (.int 0))) aNil)) aNil)) aNil))))
  (sIf (zhv (tTru (zaU zaM (zag (eVar 3) (zag (eFz (oLst (zag (eVar 7) (zag (eVar 6) aNil)))) aNil)))))
  (sRet (eC (.bl false)))
  zcC)))
def zkv : MS :=
 (sSeq (zd6 2 (oCall zcS (zag (eVar 1) aNil)))
  (sSeq (sSet 3 (za0 zb4 2 (zag (eC (.int 6)) aNil)))
  (sSeq (sSet 4 (mC dLen (zag (eIxV 3 (eC (.int 1))) aNil)))
  (sSeq (sSet 5 (mC dLen (zag (m2 dIx (eIxV 3 (eC (.int 1))) (eC (.int 0))) aNil)))
  (sSeq (sSet 6 (eFz zku))
  (sSeq (sIf (zhv (tTru (zaU zaM (zag (eVar 3) (zag (m2 dAdd (eVar 6) (eFz (oLst (zag (eTup (zag (m2 dSub (eVar 4) (eC (.int 1))) (zag (m2 dSub (eVar 5) (eC (.int 1))) aNil))) aNil)))) aNil)))))
  (sRet (eC (.bl false)))
  zcC)
  zj8))))))
def zkn : MS :=
 sFor (iSeq (m2 dAdd (eCut (eVar 0) pNo (zhE (eC (.int 4)))) (eFz (oLst (zag (eC (.int 0)) aNil))))) (gN 1) zkv
def m_law : MS :=
 (sSeq zkn
  (sRet (eC (.bl true))))
def zjd : List D -> Option Sl := fP 8 m_law
theorem ok_law (zbd : FD P w K mg base 9 "_law_cells_right" (spP K 2 zaM)) (zed : FD P w K mg base 1 "_law_deal" (spP K 1 zcS)) (zdV : FD P w K mg base 3 "_law_floor" (spM K 2 zb4)) (zdX : FD P w K mg base 3 "_law_stair" (spM K 1 zb5)) (zam : FD P w K mg base 1 "_law_take" (spM K 2 zao)) (F : Fun K "law" "law" zi3 f fd) : FnOk P w K mg base CX0 10 f fd ["script"] (spP K 1 zjd) :=
 lawP (N := ["script", "cell", "pot", "floor", "rows", "columns", "some", "spot"]) (k := 9) (n := 1) (m := m_law) F fun _ _ _ _ _ _ _ hr nd => (zae (zbh PassesOwn.never rfl (zbf (zaK (zht (zab 0) zk2 (zeF zah)) (SO.se (zbk (zaa zah zaf))))) (zal 1 nd)
  (zae (zbM 2 (so_call zed hr (zaa (zab 1) zaf) (hlen := (zad zaj))) nd)
  (zae (zat 3 (zaB 2 zdV hr (zaa zah zaf) (zb3 (zad zaj))) nd)
  (zae (zat 4 (zbP bn.len' (zaa (zai 3 zah) zaf)) nd)
  (zae (zat 5 (zbP bn.len' (zaa (zay (zai 3 zah) zah) zaf)) nd)
  (zae (zhU 6 [2, 4, 5] 1 0 2 ["pot", "rows", "columns", "turn"] rfl (zax bn.range' (zaa zah zaf)) (fun C s H fp => (zal 3 ndk)) (fun C s H fp => zaG) (fun C s H fp => (zaQ (zaa (zaB 0 zam hr (zaa (zab 1) zaf) (zb3 (zad zaj))) (zaa (zaB 0 zam hr (zaa (zab 2) zaf) (zb3 (zad zaj))) zaf)))) nd)
  (zae (zdm (zgc (zcB (zaq zbd hr (zaa (zab 3) (zaa (zaK (zab 6) (SO.se (zbk (zaa (zaQ (zaa (za3 (zab 4) zah) (zaa (za3 (zab 5) zah) zaf))) zaf)))) zaf)) (hlen := (zad (zad zaj))))))
  (zak (zaL zhC))
  zaX)
  (zae (zj7 (zaB 2 zdX hr zaf (zb3 zaj)) (zc6 rfl (zaw (zal 3 nd) (zaw (zal 7 nd) zbL))))
  (zae (zat 6 (zaQ (zaa (zaB 2 zam hr (zaa (zbP bn.len' (zaa (zai 3 zah) zaf)) zaf) (zb3 (zad zaj))) (zaa (zaB 2 zam hr (zaa (zbP bn.len' (zaa (zay (zai 3 zah) zah) zaf)) zaf) (zb3 (zad zaj))) zaf))) nd)
  (zak (zdm (zgc (zcB (zaq zbd hr (zaa (zab 3) (zaa (SO.se (zbk (zaa (zab 7) (zaa (zab 6) zaf)))) zaf)) (hlen := (zad (zad zaj))))))
  (zak (zaL zhC))
  zaX)))))))))))
  (zak (zaL zhC)))
end
set_option maxHeartbeats 0 in
theorem all_mk {l : W.OpenLaw} {w : World} {K : W.Frag} {h : Heap} {mg : Str -> Option Value} {fa : Addr} (X : K.In h) (G : h.Ns mainGlobals mg) (hfa : mg "law" = some (.ref fa))
  (h1 : FnAt K "in_tuples" zgW)
  (h2 : FnAt K "is_cell" zhW)
  (h3 : FnAt K "cells_of" zhu)
  (h4 : FnAt K "cell_sign" zgS)
  (h5 : FnAt K "plain_numbers" zd5)
  (h6 : FnAt K "shifted_row" zfr)
  (h7 : FnAt K "shifted_numbers" zc5)
  (h8 : FnAt K "cell_ties" zgL)
  (h9 : FnAt K "floor_ties" zf2)
  (h10 : FnAt K "greatest_shifts" zc8)
  (h11 : FnAt K "falling_loop" zff)
  (h12 : FnAt K "floor_shifts" zem)
  (h13 : FnAt K "tour_of" zhL)
  (h14 : FnAt K "fitted_floor" zfa)
  (h15 : FnAt K "fitting_shifts" zdE)
  (h16 : FnAt K "refuse_no_fit" zd0)
  (h17 : FnAt K "floor_range" zfw)
  (h18 : FnAt K "_law_deal" zgN)
  (h19 : FnAt K "_law_take" zgT)
  (h20 : FnAt K "_law_whole" zgk)
  (h21 : FnAt K "_law_numbers" zef)
  (h22 : FnAt K "_law_floor_sums" zcZ)
  (h23 : FnAt K "_law_fixed" zgf)
  (h24 : FnAt K "_law_bent_floor" zc4)
  (h25 : FnAt K "_law_floor" zgq)
  (h26 : FnAt K "_law_floor_fits" zc0)
  (h27 : FnAt K "_law_sign" zgJ)
  (h28 : FnAt K "_law_plain" zgr)
  (h29 : FnAt K "_law_ways" zgH)
  (h30 : FnAt K "_law_floor_can" zdJ)
  (h31 : FnAt K "_law_table" zgd)
  (h32 : FnAt K "_law_ends_at" zeL)
  (h33 : FnAt K "_law_order" zgj)
  (h34 : FnAt K "_law_stair" zfX)
  (h35 : FnAt K "_law_right" zfZ)
  (h36 : FnAt K "_law_cells_right" zcM)
  (h37 : FnAt K "law" zi3)
  (z0 : W.nsIn K mainGlobals "all" = some none) (z1 : W.nsIn K mainGlobals "bool" = some none) (z2 : W.nsIn K mainGlobals "enumerate" = some none) (z3 : W.nsIn K mainGlobals "int" = some none) (z4 : W.nsIn K mainGlobals "isinstance" = some none) (z5 : W.nsIn K mainGlobals "len" = some none) (z6 : W.nsIn K mainGlobals "list" = some none) (z7 : W.nsIn K mainGlobals "max" = some none) (z8 : W.nsIn K mainGlobals "min" = some none) (z9 : W.nsIn K mainGlobals "range" = some none) (z10 : W.nsIn K mainGlobals "sum" = some none) (z11 : W.nsIn K mainGlobals "tuple" = some none) (z12 : W.nsIn K mainGlobals "zip" = some none) :
  ∃ fd : FuncData, (∀ (s : Shared) (v : Value), BindsTo s fd ⟨[v], []⟩ [("script", v)]) /\ ∀ base : Heap, K.In base -> base.Ns mainGlobals mg -> FnOk l.prog w K mg base CX0 10 fa fd ["script"] (spP K 1 zjd) := by
 have bn : BN K mg := ⟨W.mg_none_of X G z0, W.mg_none_of X G z1, W.mg_none_of X G z2, W.mg_none_of X G z3, W.mg_none_of X G z4, W.mg_none_of X G z5, W.mg_none_of X G z6, W.mg_none_of X G z7, W.mg_none_of X G z8, W.mg_none_of X G z9, W.mg_none_of X G z10, W.mg_none_of X G z11, W.mg_none_of X G z12⟩
 obtain ⟨a, b, c, d, e, f, T⟩ := h37.law X G hfa
 refine ⟨W.fnOf "law" "law" (zey zi3) (zbW zi3) (zaJ zi3) .none a b c d e f, fun s v => .of_eq rfl, fun base _ _ => ?_⟩
 have zep := zjl (P := l.prog) (w := w) (base := base) X G bn  h1
 have zgE := zkM (P := l.prog) (w := w) (base := base) X G bn  h2
 have zfS := zjy (P := l.prog) (w := w) (base := base) X G bn  h3
 have zaZ := zjj (P := l.prog) (w := w) (base := base) X G bn  h4
 have zaD := zgY (P := l.prog) (w := w) (base := base) X G bn zep h5
 have zdj := zhB (P := l.prog) (w := w) (base := base) X G bn zaZ h6
 have zaI := zgg (P := l.prog) (w := w) (base := base) X G bn zdj h7
 have zeW := zi2 (P := l.prog) (w := w) (base := base) X G bn zaZ h8
 have zdN := zif (P := l.prog) (w := w) (base := base) X G bn zeW zfS zaD h9
 have zbH := zf3 (P := l.prog) (w := w) (base := base) X G bn  h10
 have zcO := zhm (P := l.prog) (w := w) (base := base) X G bn  h11
 have za5 := zhc (P := l.prog) (w := w) (base := base) X G bn zdN zbH h12
 have zgA := zk0 (P := l.prog) (w := w) (base := base) X G bn  h13
 have zcN := zhf (P := l.prog) (w := w) (base := base) X G bn zcO za5 zaD zaI zgA h14
 have zbq := zgF (P := l.prog) (w := w) (base := base) X G bn za5 h15
 have zcb := zg0 (P := l.prog) (w := w) (base := base) X G bn zcN h16
 have zbX := zhI (P := l.prog) (w := w) (base := base) X G bn zaZ zbq zgE zaD zcb zaI h17
 have zed := ziS (P := l.prog) (w := w) (base := base) X G bn  h18
 have zam := zi0 (P := l.prog) (w := w) (base := base) X G bn  h19
 have zdR := ziF (P := l.prog) (w := w) (base := base) X G bn  h20
 have zcX := zhr (P := l.prog) (w := w) (base := base) X G bn zdR h21
 have zaz := zgi (P := l.prog) (w := w) (base := base) X G bn  h22
 have zaT := ziw (P := l.prog) (w := w) (base := base) X G bn  h23
 have zbN := zgh (P := l.prog) (w := w) (base := base) X G bn zaT zaz zam h24
 have zdV := ziG (P := l.prog) (w := w) (base := base) X G bn zbN zam h25
 have zbJ := zgo (P := l.prog) (w := w) (base := base) X G bn zaz h26
 have zbF := zi7 (P := l.prog) (w := w) (base := base) X G bn  h27
 have zbo := ziE (P := l.prog) (w := w) (base := base) X G bn  h28
 have zd9 := ziU (P := l.prog) (w := w) (base := base) X G bn zbo zbF h29
 have zbV := zgv (P := l.prog) (w := w) (base := base) X G bn  h30
 have zdO := zij (P := l.prog) (w := w) (base := base) X G bn zcX h31
 have zcH := zhn (P := l.prog) (w := w) (base := base) X G bn zbo zbF h32
 have zcA := ziB (P := l.prog) (w := w) (base := base) X G bn zam h33
 have zdX := zio (P := l.prog) (w := w) (base := base) X G bn zaT zaz zcA zam h34
 have zdT := ziq (P := l.prog) (w := w) (base := base) X G bn zcH zbJ zdO zbX h35
 have zbd := zfK (P := l.prog) (w := w) (base := base) X G bn zbV zdT zd9 h36
 exact ok_law X G bn zbd zed zdV zdX zam T
theorem walk {l : W.OpenLaw} {q : Program} {loose : List Str} {XP : (Str -> Option Value) -> Heap -> Prop} {YP : World -> Heap -> Prop} {d : DefRec} {K : Params -> W.Frag} (hn : l.most = some 63) (hdf : d.params.defaults = [])
  (hm : ∀ ns : List Int, ns.length <= 63 -> zjd [.scr ns] = some (.val (.bl true)))
  (hY : ∀ (w : World) (h : Heap), YP w h -> (K w.params).In h)
  (F : ∀ (w : World) (mg : Str -> Option Value) (fa : Addr) (h : Heap), (K w.params).In h -> h.Ns mainGlobals mg -> mg d.name = some (.ref fa) ->
   ∃ fd : FuncData, (∀ (s : Shared) (u : Value), BindsTo s fd ⟨[u], []⟩ [("script", u)]) /\ ∀ base : Heap, (K w.params).In base -> base.Ns mainGlobals mg -> FnOk l.prog w (K w.params) mg base CX0 10 fa fd ["script"] (spP (K w.params) 1 zjd)) :
  W.WalkO q loose XP YP l.row.toRowW d [] (fun f vs => PySem.call f vs) :=
 L2.walk_of (n := 63) (k := 10) (x := "script") (CX := fun _ => CX0) (sp := fun w => spP (K w.params) 1 zjd) hn (by decide) hdf ⟨rfl, by decide, by decide, rfl⟩ hY F
  (fun w H a ns hl _ hS => ⟨H, [.scr ns], .val (.bl true), hm ns hl, rfl, Fz.refl H, .cons ⟨a, rfl, hS⟩ .nil, fun _ _ _ _ _ _ _ rr => rr⟩) fun _ _ _ _ _ z => z
end Prf
set_option exponentiation.threshold 5000
namespace Prf
open L2 M PySem
variable {i j t q s n v m r c b a z k : Nat} {d : Nat -> Option Int} {u : Nat -> Option Nat} {ts qs : Nat -> Nat} {y x Y B : Int} {f S L G w' w : Nat -> Nat -> Int} {h g p : Nat -> Int} {ds cs : List D}
def ckf (m t j q : Nat) : Nat := if q < j then t * m + q + 1 else t * m + q + 1 - m
def upf {α : Type} (f : Nat -> α) (i : Nat) (x : α) : Nat -> α := fun j => if j = i then x else f j
theorem zb0 {α : Type} (f : Nat -> α) (i : Nat) (x : α) : upf f i x i = x := if_pos rfl
theorem zba {α : Type} (f : Nat -> α) (x : α) (h : j ≠ i) : upf f i x j = f j := if_neg h
section
variable {m n : Nat} {tl tu : Nat -> Nat} {ta : Nat -> Int}
def Kept (tl tu : Nat -> Nat) (ta : Nat -> Int) (d : Nat -> Option Int) (q : Nat) : Prop := ∀ y, d (tu q) = some y -> ∃ x, d (tl q) = some x /\ x <= y + ta q
structure BI (m : Nat) (tl tu : Nat -> Nat) (ta : Nat -> Int) (s t j : Nat) (d : Nat -> Option Int) (u : Nat -> Option Nat) (ts : Nat -> Nat) : Prop where
 le : ∀ v, ts v <= t * m + j
 st : ∃ x, d s = some x
 inj : ∀ v w, 0 < ts v -> ts v = ts w -> v = w
 un : ∀ l, 0 < ts l -> ∃ q, q < m /\ tl q = l /\ u l = some (tu q) /\ ∃ x y, d l = some x /\ d (tu q) = some y /\ y + ta q <= x /\ (ts l < ts (tu q) -> y + ta q < x) /\ (m < ts l -> ts l + 1 <= ts (tu q) + m)
 ck : ∀ q, q < m -> 0 < ckf m t j q -> ckf m t j q < ts (tu q) \/ Kept tl tu ta d q
 mx : ∀ p : Nat -> Int, (∀ q, q < m -> p (tl q) <= p (tu q) + ta q) -> ∀ v x, d v = some x -> p v - p s <= x
 s0 : ∀ x, d s = some x -> x <= 0
theorem zii (h : q ≠ j) : ckf m t (j + 1) q = ckf m t j q := by
 unfold ckf
 by_cases z : q < j
 ·rw [if_pos z, if_pos (by omega)]
 ·rw [if_neg z, if_neg (by omega)]
theorem ckf_le (hq : q < m) : ckf m t j q <= t * m + j := by
 unfold ckf
 split <;> omega
theorem BI.keep (b : BI m tl tu ta s t j d u ts) (k : Kept tl tu ta d j) : BI m tl tu ta s t (j + 1) d u ts where
 le := fun v => by have := b.le v; omega
 st := b.st
 inj := b.inj
 un := b.un
 ck := fun q hq h => by
  by_cases e : q = j
  ·subst e; exact .inr k
  ·rw [zii e] at h ⊢; exact b.ck q hq h
 mx := b.mx
 s0 := b.s0
theorem BI.change {s t j : Nat} (b : BI m tl tu ta s t j d u ts) (hj : j < m) (ne : tl j ≠ tu j) (hy : d (tu j) = some y) (hx : ∀ x, d (tl j) = some x -> y + ta j < x) :
  BI m tl tu ta s t (j + 1) (upf d (tl j) (some (y + ta j))) (upf u (tl j) (some (tu j))) (upf ts (tl j) (t * m + j + 1)) where
 le := fun v => by
  by_cases e : v = tl j
  ·rw [e, zb0]; omega
  ·rw [zba _ _ e]; have := b.le v; omega
 st := by
  obtain ⟨x, h⟩ := b.st
  by_cases e : s = tl j
  ·exact ⟨_, by rw [e, zb0]⟩
  ·exact ⟨x, by rw [zba _ _ e]; exact h⟩
 inj := fun v w h e => by
  have lv := b.le v
  have lw := b.le w
  by_cases ev : v = tl j
  ·by_cases ew : w = tl j
   ·rw [ev, ew]
   ·rw [ev, zb0, zba _ _ ew] at e; omega
  ·by_cases ew : w = tl j
   ·rw [ew, zb0, zba _ _ ev] at e; omega
   ·rw [zba _ _ ev] at h e; rw [zba _ _ ew] at e; exact b.inj v w h e
 un := fun l h => by
  by_cases e : l = tl j
  ·subst e
   refine ⟨j, hj, rfl, zb0 _ _ _, y + ta j, y, zb0 _ _ _, by rw [zba _ _ ne.symm]; exact hy, Int.le_refl _, fun z => ?_, fun z => ?_⟩
   ·rw [zb0, zba _ _ ne.symm] at z
    have := b.le (tu j)
    omega
   ·rw [zb0] at z ⊢
    rw [zba _ _ ne.symm]
    have e1 : ckf m t j j = t * m + j + 1 - m := by unfold ckf; rw [if_neg (by omega)]
    rcases b.ck j hj (by rw [e1]; omega) with c | c
    ·rw [e1] at c; omega
    ·obtain ⟨x, h1, h2⟩ := c y hy
     have := hx x h1
     omega
  ·rw [zba _ _ e] at h
   obtain ⟨q, hq, eq, eu, x, y', h1, h2, h3, h4, h5⟩ := b.un l h
   refine ⟨q, hq, eq, by rw [zba _ _ e]; exact eu, ?_⟩
   by_cases z : tu q = tl j
   ·have lt := hx y' (by rw [<- z]; exact h2)
    refine ⟨x, y + ta j, by rw [zba _ _ e]; exact h1, by rw [z, zb0], by omega, fun _ => by omega, fun g => ?_⟩
    rw [zba _ _ e] at g ⊢
    have := h5 g
    have := b.le (tu q)
    rw [z, zb0]
    omega
   ·refine ⟨x, y', by rw [zba _ _ e]; exact h1, by rw [zba _ _ z]; exact h2, h3, fun g => ?_, fun g => ?_⟩
    ·rw [zba _ _ e, zba _ _ z] at g; exact h4 g
    ·rw [zba _ _ e] at g ⊢; rw [zba _ _ z]; exact h5 g
 ck := fun q hq h => by
  by_cases z : tu q = tl j
  ·by_cases e : q = j
   ·subst e; exact absurd z.symm ne
   ·left
    rw [zii e, z, zb0]
    have := ckf_le (t := t) (j := j) hq
    omega
  ·have sat : Kept tl tu ta d q -> Kept tl tu ta (upf d (tl j) (some (y + ta j))) q := fun k y' hy' => by
    rw [zba _ _ z] at hy'
    obtain ⟨x, h1, h2⟩ := k y' hy'
    by_cases g : tl q = tl j
    ·refine ⟨y + ta j, by rw [g, zb0], ?_⟩
     have := hx x (by rw [<- g]; exact h1)
     omega
    ·exact ⟨x, by rw [zba _ _ g]; exact h1, h2⟩
   by_cases e : q = j
   ·subst e
    right
    intro y' hy'
    rw [zba _ _ z, hy] at hy'
    cases hy'
    exact ⟨_, zb0 _ _ _, Int.le_refl _⟩
   ·rw [zii e] at h ⊢
    rw [zba _ _ z]
    exact (b.ck q hq h).imp id sat
 mx := fun p hp v x h => by
  by_cases e : v = tl j
  ·subst e
   rw [zb0] at h
   cases h
   have h1 := hp j hj
   have h2 := b.mx p hp (tu j) y hy
   omega
  ·rw [zba _ _ e] at h; exact b.mx p hp v x h
 s0 := fun x h => by
  by_cases e : s = tl j
  ·obtain ⟨x0, h0⟩ := b.st
   have h1 := b.s0 x0 h0
   rw [e] at h0
   have h2 := hx x0 h0
   rw [e, zb0] at h
   cases h
   omega
  ·rw [zba _ _ e] at h; exact b.s0 x h
theorem BI.turn (b : BI m tl tu ta s t m d u ts) : BI m tl tu ta s (t + 1) 0 d u ts where
 le := fun v => by have := b.le v; rw [Nat.add_mul]; omega
 st := b.st
 inj := b.inj
 un := b.un
 ck := fun q hq h => by
  have e : ckf m (t + 1) 0 q = ckf m t m q := by
   unfold ckf
   rw [if_neg (by omega), if_pos hq, Nat.add_mul]
   omega
  rw [e] at h ⊢
  exact b.ck q hq h
 mx := b.mx
 s0 := b.s0
theorem BI.start : BI m tl tu ta s 0 0 (fun v => if v = s then some 0 else none) (fun _ => none) (fun _ => 0) where
 le := fun v => by omega
 st := ⟨0, if_pos rfl⟩
 inj := fun v w h => by omega
 un := fun l h => by omega
 ck := fun q hq h => by
  unfold ckf at h
  rw [if_neg (by omega)] at h
  omega
 mx := fun p _ v x h => by
  by_cases e : v = s
  ·subst e; rw [if_pos rfl] at h; cases h; omega
  ·rw [if_neg e] at h; cases h
 s0 := fun x h => by rw [if_pos rfl] at h; cases h; omega
theorem BI.kept (b : BI m tl tu ta s (t + 1) 0 d u ts) (h : ∀ v, ts v <= t * m) (hq : q < m) : Kept tl tu ta d q := by
 have e : ckf m (t + 1) 0 q = t * m + q + 1 := by unfold ckf; rw [if_neg (by omega), Nat.add_mul]; omega
 rcases b.ck q hq (by omega) with c | c
 ·have := h (tu q); omega
 ·exact c
end
def back (u : Nat -> Option Nat) (l : Nat) : Nat -> Nat
 | 0 => l
 | i + 1 => (u (back u l i)).getD 0
theorem zcz (u : Nat -> Option Nat) (l i : Nat) : ∀ j, back u (back u l i) j = back u l (i + j)
 | 0 => rfl
 | j + 1 => by
  show (u (back u (back u l i) j)).getD 0 = (u (back u l (i + j))).getD 0
  rw [zcz u l i j]
theorem fewN : ∀ (c : Nat) (ks : List Nat), ks.Nodup -> (∀ x, x ∈ ks -> x < c) -> ks.length <= c
 | 0, [], _, _ => by simp
 | 0, x :: ks, _, h => by have := h x (by simp); omega
 | c + 1, ks, nd, h => by
  by_cases q : c ∈ ks
  ·have ih := fewN c (ks.erase c) (nd.erase _) fun x hx => by
    have hm := (nd.mem_erase_iff).mp hx
    have := h x hm.2
    have := hm.1
    omega
   rw [List.length_erase_of_mem q] at ih
   omega
  ·have := fewN c ks nd fun x hx => by
    have := h x hx
    have : x ≠ c := fun z => q (z ▸ hx)
    omega
   omega
theorem pigeon {f : Nat -> Nat} (h : ∀ i, i <= n -> f i < n) : ∃ i j, i < j /\ j <= n /\ f i = f j := by
 apply Classical.byContradiction
 intro no
 have nd : ((List.range (n + 1)).map f).Nodup := by
  rw [List.nodup_iff_pairwise_ne, List.pairwise_map]
  refine (List.Pairwise.and_mem.mp List.pairwise_lt_range).imp fun {a b} hh e => no ⟨a, b, hh.2.2, ?_, e⟩
  have := List.mem_range.mp hh.2.1
  omega
 have := fewN n _ nd fun x hx => by
  obtain ⟨i, hi, rfl⟩ := List.mem_map.mp hx
  exact h i (by have := List.mem_range.mp hi; omega)
 rw [List.length_map, List.length_range] at this
 omega
section
variable {m n : Nat} {tl tu : Nat -> Nat} {ta : Nat -> Int} {s : Nat} {d : Nat -> Option Int} {u : Nat -> Option Nat} {ts : Nat -> Nat} {l : Nat}
theorem BI.next (b : BI m tl tu ta s n 0 d u ts) (h : 0 < ts v) : ∃ q, q < m /\ tl q = v /\ tu q = (u v).getD 0 := by
 obtain ⟨q, hq, e, eu, _⟩ := b.un v h
 exact ⟨q, hq, e, by rw [eu]; rfl⟩
theorem BI.live (b : BI m tl tu ta s (n + 1) 0 d u ts) (h : n * m < ts l) : ∀ i, i <= n -> n * m + 1 <= ts (back u l i) + i * (m - 1)
 | 0, _ => by show n * m + 1 <= ts l + 0 * (m - 1); omega
 | i + 1, hi => by
  have ih := BI.live b h i (by omega)
  have m1 : 1 <= m := by
   obtain ⟨q, hq, _⟩ := b.un l (by omega)
   omega
  obtain ⟨m', rfl⟩ : ∃ m', m = m' + 1 := ⟨m - 1, by omega⟩
  obtain ⟨n', rfl⟩ : ∃ n', n = n' + 1 := ⟨n - 1, by omega⟩
  rw [Nat.add_sub_cancel] at ih ⊢
  have le : i * m' <= n' * m' := Nat.mul_le_mul_right _ (by omega)
  have e1 : (n' + 1) * (m' + 1) = n' * m' + m' + n' + 1 := by rw [Nat.add_mul, Nat.mul_add]; omega
  obtain ⟨q, hq, e, eu, x, y, _, _, _, _, h5⟩ := b.un (back u l i) (by omega)
  have h6 := h5 (by omega)
  have e2 : back u l (i + 1) = tu q := by show (u (back u l i)).getD 0 = _; rw [eu]; rfl
  have e3 : (i + 1) * m' = i * m' + m' := Nat.succ_mul i m'
  rw [e2]
  omega
theorem BI.all (b : BI m tl tu ta s (n + 1) 0 d u ts) (h : n * m < ts l) (hl : ∀ q, q < m -> tl q < n + 1) (hu : ∀ q, q < m -> tu q < n + 1) :
  (∀ t, 0 < ts (back u l t)) /\ ∃ p, 1 <= p /\ p <= n + 1 /\ back u l (n + 1 + p) = back u l (n + 1) := by
 have pos : ∀ i, i <= n -> 0 < ts (back u l i) := fun i hi => by
  have := b.live h i hi
  have m1 : 1 <= m := by
   obtain ⟨q, hq, _⟩ := b.un l (by omega)
   omega
  obtain ⟨m', rfl⟩ : ∃ m', m = m' + 1 := ⟨m - 1, by omega⟩
  rw [Nat.add_sub_cancel] at this
  have le : i * m' <= n * m' := Nat.mul_le_mul_right _ hi
  rw [Nat.mul_add] at this
  omega
 have lt : ∀ i, i <= n + 1 -> back u l i < n + 1 := fun i hi => by
  cases i with
  | zero =>
   obtain ⟨q, hq, e, _⟩ := b.next (pos 0 (by omega))
   have := hl q hq
   rw [e] at this; exact this
  | succ i =>
   obtain ⟨q, hq, _, e⟩ := b.next (pos i (by omega))
   have := hu q hq
   rw [e] at this; exact this
 obtain ⟨i, j, hij, hj, e⟩ := pigeon lt
 have per : ∀ t, back u l (i + t) = back u l (j + t) := fun t => by rw [<- zcz, <- zcz, e]
 refine ⟨fun t => ?_, j - i, by omega, by omega, ?_⟩
 ·induction t using Nat.strongRecOn with
  | _ t ih =>
   by_cases z : t < j
   ·exact pos t (by omega)
   ·have := per (t - j)
    rw [show j + (t - j) = t by omega] at this
    rw [<- this]
    exact ih _ (by omega)
 ·have := per (n + 1 - i)
  rw [show i + (n + 1 - i) = n + 1 by omega, show j + (n + 1 - i) = n + 1 + (j - i) by omega] at this
  exact this.symm
theorem least_p {P : Nat -> Prop} : ∀ p, P p -> ∃ c, P c /\ c <= p /\ ∀ i, i < c -> ¬ P i := by
 intro p
 induction p using Nat.strongRecOn with
 | _ p ih =>
  intro h
  by_cases z : ∃ i, i < p /\ P i
  ·obtain ⟨i, hi, hP⟩ := z
   obtain ⟨c, h1, h2, h3⟩ := ih i hi hP
   exact ⟨c, h1, by omega, h3⟩
  ·exact ⟨p, h, Nat.le_refl p, fun i hi hP => z ⟨i, hi, hP⟩⟩
structure Round (m : Nat) (tl tu : Nat -> Nat) (ta : Nat -> Int) (u : Nat -> Option Nat) (a c : Nat) (qs : Nat -> Nat) : Prop where
 pos : 1 <= c
 home : back u a c = a
 first : ∀ i, 1 <= i -> i < c -> back u a i ≠ a
 tie : ∀ i, i < c -> qs i < m /\ tl (qs i) = back u a i /\ tu (qs i) = back u a (i + 1)
 neg : sumR c (fun i => ta (qs i)) < 0
theorem BI.round (b : BI m tl tu ta s (n + 1) 0 d u ts) (h : n * m < ts l) (hl : ∀ q, q < m -> tl q < n + 1) (hu : ∀ q, q < m -> tu q < n + 1) (ne : ∀ q, q < m -> tl q ≠ tu q) :
  ∃ c qs, c <= n + 1 /\ Round m tl tu ta u (back u l (n + 1)) c qs := by
 obtain ⟨pos, p, p1, p2, ep⟩ := b.all h hl hu
 obtain ⟨c, ⟨c1, ec⟩, cp, cm⟩ := least_p (P := fun c => 1 <= c /\ back u l (n + 1 + c) = back u l (n + 1)) p ⟨p1, ep⟩
 have pos' : ∀ i, 0 < ts (back u (back u l (n + 1)) i) := fun i => by rw [zcz]; exact pos _
 have un : ∀ i, ∃ q, q < m /\ tl q = back u (back u l (n + 1)) i /\ tu q = back u (back u l (n + 1)) (i + 1) /\ ∃ x y, d (back u (back u l (n + 1)) i) = some x /\ d (back u (back u l (n + 1)) (i + 1)) = some y /\ y + ta q <= x /\ (ts (back u (back u l (n + 1)) i) < ts (back u (back u l (n + 1)) (i + 1)) -> y + ta q < x) := fun i => by
  obtain ⟨q, hq, e, eu, x, y, h1, h2, h3, h4, _⟩ := b.un _ (pos' i)
  have e2 : back u (back u l (n + 1)) (i + 1) = tu q := by show (u (back u (back u l (n + 1)) i)).getD 0 = _; rw [eu]; rfl
  rw [e2]
  exact ⟨q, hq, e, rfl, x, y, h1, h2, h3, h4⟩
 let a := back u l (n + 1)
 let qs : Nat -> Nat := fun i => (un i).choose
 have sp := fun i => (un i).choose_spec
 have home : back u a c = a := by show back u (back u l (n + 1)) c = _; rw [zcz]; exact ec
 refine ⟨c, qs, by omega, c1, home, fun i i1 ic e => cm i ic ⟨i1, by rw [<- zcz]; exact e⟩, fun i _ => ⟨(sp i).1, (sp i).2.1, (sp i).2.2.1⟩, ?_⟩
 let x : Nat -> Int := fun i => (d (back u a i)).getD 0
 have step : ∀ i, x (i + 1) + ta (qs i) <= x i /\ (ts (back u a i) < ts (back u a (i + 1)) -> x (i + 1) + ta (qs i) < x i) := fun i => by
  obtain ⟨_, _, _, X, Y, h1, h2, h3, h4⟩ := sp i
  have e1 : x i = X := by show (d (back u (back u l (n + 1)) i)).getD 0 = X; rw [h1]; rfl
  have e2 : x (i + 1) = Y := by show (d (back u (back u l (n + 1)) (i + 1))).getD 0 = Y; rw [h2]; rfl
  rw [e1, e2]
  exact ⟨h3, h4⟩
 obtain ⟨i0, hi0, lt⟩ : ∃ i, i < c /\ ts (back u a i) < ts (back u a (i + 1)) := by
  apply Classical.byContradiction
  intro no
  have dec : ∀ i, i <= c -> ts (back u a i) <= ts a := by
   intro i
   induction i with
   | zero => intro _; exact Nat.le_refl _
   | succ i ih =>
    intro hi
    have := ih (by omega)
    have : ¬ ts (back u a i) < ts (back u a (i + 1)) := fun z => no ⟨i, by omega, z⟩
    omega
  have inc : ∀ i, i <= c -> ts a <= ts (back u a (c - i)) := by
   intro i
   induction i with
   | zero => intro _; rw [Nat.sub_zero, home]; exact Nat.le_refl _
   | succ i ih =>
    intro hi
    have h1 := ih (by omega)
    have h2 : ¬ ts (back u a (c - (i + 1))) < ts (back u a (c - (i + 1) + 1)) := fun z => no ⟨_, by omega, z⟩
    rw [show c - (i + 1) + 1 = c - i by omega] at h2
    omega
  have h1 := inc (c - 1) (by omega)
  rw [show c - (c - 1) = 1 by omega] at h1
  have h2 := dec 1 c1
  have e := b.inj (back u a 1) a (pos' 1) (by omega)
  obtain ⟨q1, q2, q3, _⟩ := sp 0
  exact ne (qs 0) q1 (by rw [show tl (qs 0) = a from q2, show tu (qs 0) = back u a 1 from q3, e])
 have tele : ∀ i, sumR i (fun j => ta (qs j)) <= x 0 - x i /\ (i0 < i -> sumR i (fun j => ta (qs j)) < x 0 - x i) := by
  intro i
  induction i with
  | zero => exact ⟨by show (0 : Int) <= _; omega, fun z => by omega⟩
  | succ i ih =>
   have st := step i
   have e : sumR (i + 1) (fun j => ta (qs j)) = sumR i (fun j => ta (qs j)) + ta (qs i) := rfl
   rw [e]
   refine ⟨by omega, fun z => ?_⟩
   by_cases g : i0 < i
   ·have := ih.2 g; omega
   ·have : i = i0 := by omega
    subst this
    have := st.2 lt
    omega
 have := (tele c).2 hi0
 have e0 : x c = x 0 := by show (d (back u a c)).getD 0 = (d a).getD 0; rw [home]
 omega
end
def dO : Option Int -> D
 | none => .non
 | some x => .int x
def uO : Option Nat -> D
 | none => .non
 | some v => .int (v : Nat)
theorem dO_n : dO none = .non := rfl
theorem dO_s (x : Int) : dO (some x) = .int x := rfl
def tieL (m : Nat) (tl tu : Nat -> Nat) (ta : Nat -> Int) : List D := wL m fun q => .tup [.int (tl q : Nat), .int (tu q : Nat), .int (ta q)]
theorem zlR (f : Nat -> D) (x : D) (h : i < n) : (wL n f).set i x = wL n (upf f i x) := by
 apply List.ext_getElem?
 intro j
 rw [List.getElem?_set]
 by_cases e : i = j
 ·subst e
  rw [if_pos rfl, if_pos (by rw [za8]; exact h), zan _ h, zb0]
 ·rw [if_neg e]
  by_cases hj : j < n
  ·rw [zan _ hj, zan _ hj, zba _ _ (Ne.symm e)]
  ·rw [List.getElem?_eq_none (by rw [za8]; omega), List.getElem?_eq_none (by rw [za8]; omega)]
theorem dO_put (d : Nat -> Option Int) (i : Nat) (x : Int) : upf (fun v => dO (d v)) i (.int x) = fun v => dO (upf d i (some x) v) := by
 funext v
 unfold upf
 split <;> rfl
theorem uO_put (d : Nat -> Option Nat) (i x : Nat) : upf (fun v => uO (d v)) i (.int (x : Nat)) = fun v => uO (upf d i (some x) v) := by
 funext v
 unfold upf
 split <;> rfl
theorem rep_w' (n : Nat) (x : D) : (List.replicate n [x]).flatten = wL n fun _ => x := by
 induction n with
 | zero => rfl
 | succ n ih => rw [List.replicate_succ', List.flatten_append, ih, za1]; rfl
section
variable {m n : Nat} {tl tu : Nat -> Nat} {ta : Nat -> Int} {s : Nat}
def Shifts (m n : Nat) (tl tu : Nat -> Nat) (ta : Nat -> Int) (s : Nat) (d : Nat -> Option Int) (u : Nat -> Option Nat) (f : Option Nat) : Prop :=
 ∃ ts, BI m tl tu ta s n 0 d u ts /\ ((f = none /\ ∀ v, ts v <= (n - 1) * m) \/ ∃ l, f = some l /\ (n - 1) * m < ts l)
theorem zlL (n1 : 1 <= n) (n9 : n <= 1000) (hs : s < n) (hl : ∀ q, q < m -> tl q < n) (hu : ∀ q, q < m -> tu q < n) (ne : ∀ q, q < m -> tl q ≠ tu q) :
  Ok (za4 [.lst (tieL m tl tu ta), .int n, .int s]) fun x => ∃ d u f, Shifts m n tl tu ta s d u f /\ x = .val (.tup [.lst (wL n fun v => dO (d v)), .lst (wL n fun v => uO (u v)), uO f]) := by
 have e0 : upf (fun _ => D.non) s (.int 0) = fun v => dO ((fun v => if v = s then some 0 else none) v) := by
  funext v
  unfold upf
  (try dsimp only)
  split <;> rfl
 simp! only [↓za4, ↓zbT, rep_w', ↓zcl]
 rw [zlR _ _ hs, e0]
 have sm : zd4 (n : Int) = true := zaC (by omega) (by omega)
 refine ⟨⟨sm, by omega⟩, hs, ⟨sm, by omega⟩, sm, zaS (fun t ρ => ∃ (d : Nat -> Option Int) (u : Nat -> Option Nat) (f : Option Nat) (ts : Nat -> Nat) (s6 s7 s8 s9 : Sl), BI m tl tu ta s t 0 d u ts /\ ((f = none /\ ∀ v, ts v <= (t - 1) * m) \/ ∃ l, f = some l /\ (t - 1) * m < ts l) /\ ρ = [.val (.lst (tieL m tl tu ta)), .val (.int n), .val (.int s), .own (wL n fun v => dO (d v)), .own (wL n fun v => uO (u v)), .val (uO f), s6, s7, s8, s9]) ⟨_, fun _ => none, none, fun _ => 0, _, _, _, _, BI.start, .inl ⟨rfl, fun v => Nat.zero_le _⟩, rfl⟩ ?_ ?_⟩
 ·rintro t _ ht ⟨d, u, f, ts, s6, s7, s8, s9, b, -, rfl⟩
  simp! only [↓zcg, ↓zci, tieL]
  refine zaS (fun j ρ => ∃ (d : Nat -> Option Int) (u : Nat -> Option Nat) (f : Option Nat) (ts : Nat -> Nat) (s7 s8 s9 : Sl), BI m tl tu ta s t j d u ts /\ ((f = none /\ ∀ v, ts v <= t * m) \/ ∃ l, f = some l /\ t * m < ts l) /\ ρ = [.val (.lst (tieL m tl tu ta)), .val (.int n), .val (.int s), .own (wL n fun v => dO (d v)), .own (wL n fun v => uO (u v)), .val (uO f), .val (.int t), s7, s8, s9]) ⟨d, u, none, ts, _, _, _, b, .inl ⟨rfl, fun v => by have := b.le v; omega⟩, rfl⟩ ?_ ?_
  ·rintro j _ hj ⟨d, u, f, ts, s7, s8, s9, b, hf, rfl⟩
   have a1 := hl j hj
   have a2 := hu j hj
   simp! only [↓zcf, zan _ a1, zan _ a2]
   cases hy : d (tu j) with
   | none =>
    have k : Kept tl tu ta d j := fun y e => by rw [hy] at e; cases e
    simp! only [dO_n]
    exact ⟨d, u, f, ts, _, _, _, b.keep k, hf, rfl⟩
   | some y =>
    have chg : (∀ x, d (tl j) = some x -> y + ta j < x) -> ∃ (d' : Nat -> Option Int) (u' : Nat -> Option Nat) (f' : Option Nat) (ts' : Nat -> Nat) (s7 s8 s9 : Sl), BI m tl tu ta s t (j + 1) d' u' ts' /\ ((f' = none /\ ∀ v, ts' v <= t * m) \/ ∃ l, f' = some l /\ t * m < ts' l) /\ [Sl.val (.lst (wL m fun q => .tup [.int (tl q : Nat), .int (tu q : Nat), .int (ta q)])), .val (.int n), .val (.int s), .own ((wL n fun v => dO (d v)).set (tl j) (.int (y + ta j))), .own ((wL n fun v => uO (u v)).set (tl j) (.int (tu j : Nat))), .val (.int (tl j : Nat)), .val (.int t), .val (.int (tl j : Nat)), .val (.int (tu j : Nat)), .val (.int (ta j))] = [.val (.lst (tieL m tl tu ta)), .val (.int n), .val (.int s), .own (wL n fun v => dO (d' v)), .own (wL n fun v => uO (u' v)), .val (uO f'), .val (.int t), s7, s8, s9] := fun hx => by
     rw [zlR _ _ a1, zlR _ _ a1, dO_put, uO_put]
     exact ⟨_, _, some (tl j), _, .val (.int (tl j : Nat)), .val (.int (tu j : Nat)), .val (.int (ta j)), b.change hj (ne j hj) hy hx, .inr ⟨tl j, rfl, by rw [zb0]; omega⟩, rfl⟩
    cases hx : d (tl j) with
    | none =>
     simp! only [dO_n, dO_s, zan _ a2, hy, a1, if_true]
     exact chg fun x e => by rw [hx] at e; cases e
    | some x =>
     simp! only [dO_s, zan _ a2, zan _ a1, hy, hx, a1, if_true]
     exact ⟨fun z => chg fun x' e => by rw [hx] at e; cases e; exact z, fun z => ⟨d, u, f, ts, _, _, _, b.keep fun y' e => by rw [hy] at e; cases e; exact ⟨x, hx, z⟩, hf, rfl⟩⟩
  ·rintro _ ⟨d, u, f, ts, s7, s8, s9, b, hf, rfl⟩
   simp! only []
   exact ⟨d, u, f, ts, _, _, _, _, b.turn, by simpa using hf, rfl⟩
 ·rintro _ ⟨d, u, f, ts, s6, s7, s8, s9, b, hf, rfl⟩
  simp! only []
  cases f with
  | none => simp! only [uO]; exact ⟨d, u, none, ⟨ts, b, hf⟩, rfl⟩
  | some l => simp! only [uO]; exact ⟨d, u, some l, ⟨ts, b, hf⟩, rfl⟩
end
theorem zlN (i : Nat) (f : Nat -> D) : atI (wL (i + 1) f) (-1) = some (f i) := by
 unfold atI ixN
 rw [if_neg (by omega), za8, if_pos (by omega)]
 show (wL (i + 1) f)[(((i + 1 : Nat) : Int) + -1).toNat]? = _
 rw [show (((i + 1 : Nat) : Int) + -1).toNat = i by omega, zan _ (by omega)]
section
variable {m n : Nat} {tl tu : Nat -> Nat} {ta : Nat -> Int} {s : Nat} {d : Nat -> Option Int} {u : Nat -> Option Nat} {ts : Nat -> Nat} {l : Nat}
theorem loop_ok (b : BI m tl tu ta s (n + 1) 0 d u ts) (h : n * m < ts l) (n9 : n <= 300) (hl : ∀ q, q < m -> tl q < n + 1) (hu : ∀ q, q < m -> tu q < n + 1) (ne : ∀ q, q < m -> tl q ≠ tu q) :
  Ok (zby [.lst (wL (n + 1) fun v => uO (u v)), .int l]) fun x => ∃ c qs, c <= n + 1 /\ Round m tl tu ta u (back u l (n + 1)) c qs /\ x = .own (wI c fun i => ((back u (back u l (n + 1)) i : Nat) : Int)) := by
 obtain ⟨c, qs, cn, R⟩ := b.round h hl hu ne
 obtain ⟨pos, -⟩ := b.all h hl hu
 have nx : ∀ t, back u l t < n + 1 /\ uO (u (back u l t)) = .int ((back u l (t + 1) : Nat) : Int) := fun t => by
  obtain ⟨q, hq, e, eu, _⟩ := b.un _ (pos t)
  refine ⟨by rw [<- e]; exact hl q hq, ?_⟩
  show uO (u (back u l t)) = .int (((u (back u l t)).getD 0 : Nat) : Int)
  rw [eu]
  rfl
 have sm : zd4 ((n + 1 : Nat) : Int) = true := zaC (by omega) (by omega)
 simp! only [↓zby, ↓zdk, ↓zdC]
 refine ⟨sm, zaS (fun t ρ => ∃ s3, ρ = [.val (.lst (wL (n + 1) fun v => uO (u v))), .val (.int l), .val (.int (back u l t : Nat)), s3, .emp]) ⟨_, rfl⟩ ?_ ?_⟩
 ·rintro t _ ht ⟨s3, rfl⟩
  simp! only [↓zdz, zan _ (nx t).1, (nx t).2]
  exact ⟨_, rfl⟩
 ·rintro _ ⟨s3, rfl⟩
  simp! only [↓zdF]
  have nx' : ∀ i, back u (back u l (n + 1)) i < n + 1 /\ uO (u (back u (back u l (n + 1)) i)) = .int ((back u (back u l (n + 1)) (i + 1) : Nat) : Int) := fun i => by
   rw [zcz, zcz]
   exact nx _
  generalize back u l (n + 1) = a at R nx'
  have last : ∀ i, atI (wI (i + 1) fun i => ((back u a i : Nat) : Int)) (-1) = some (.int (back u a i : Nat)) := fun i => by
   rw [zlN i]
  refine zj4 (fun k ρ => ∃ i, i < c /\ k = c - 1 - i /\ ρ = [.val (.lst (wL (n + 1) fun v => uO (u v))), .val (.int l), .val (.int (a : Nat)), s3, .own (wI (i + 1) fun i => ((back u a i : Nat) : Int))]) ?_ 400 (c - 1) _ (by omega) ⟨0, R.pos, by omega, rfl⟩
  rintro k _ ⟨i, hi, rfl, rfl⟩
  simp! only [↓zdt, last, zan _ (nx' i).1, (nx' i).2]
  refine ⟨fun z => ⟨c - 1 - (i + 1), ?_, ?_⟩, fun z => ⟨c, qs, cn, R, ?_⟩⟩
  ·have : i + 1 ≠ c := fun e => z (by rw [e, R.home])
   omega
  ·have : i + 1 ≠ c := fun e => z (by rw [e, R.home])
   have ew : (wI (i + 1) fun i => ((back u a i : Nat) : Int)) ++ [D.int (back u a (i + 1) : Nat)] = wI (i + 1 + 1) fun i => ((back u a i : Nat) : Int) := (za1 _ _).symm
   simp! only [↓zdH, last, zan _ (nx' i).1, (nx' i).2, ew]
   exact ⟨by omega, i + 1, by omega, rfl, rfl⟩
  ·have : i + 1 = c := by
    by_cases e : i + 1 = c
    ·exact e
    ·exact absurd (by omega) (R.first (i + 1) (by omega) (by omega))
   rw [this]
end
abbrev tT (R C : Nat) (f : Nat -> Nat -> Int) : D := .tup (wL R fun r => .tup (wI C (f r)))
abbrev tL (R C : Nat) (f : Nat -> Nat -> Int) : D := .lst (wL R fun r => .lst (wI C (f r)))
def four (f : Nat -> Nat -> Int) (r c : Nat) : Int := f r c + f r (c + 1) + f (r + 1) c + f (r + 1) (c + 1)
theorem i4 (a b c d : Int) : zbO [.int a, .int b, .int c, .int d] = some [a, b, c, d] := rfl
section
variable {R C : Nat} {f : Nat -> Nat -> Int}
theorem zjD (d : D) (hd : d = tT (R + 1) (C + 1) f \/ d = tL (R + 1) (C + 1) f) (hR : R <= 100) (hC : C <= 100) : Ok (zaA [d]) fun x => x = .val (tT R C (four f)) := by
 have e1 : (((R + 1 : Nat) : Int) - 1).toNat = R := by omega
 have e2 : (((C + 1 : Nat) : Int) - 1).toNat = C := by omega
 rcases hd with rfl | rfl <;>
 ·simp! only [↓zaA, ↓zbQ, ↓zcy, e1]
  refine ⟨zaC (by omega) (by omega), zaS (fun i ρ => ∃ s2 s3 s4 s5, ρ = [.val _, .own (wL i fun r => .tup (wI C (four f r))), s2, s3, s4, s5]) ⟨_, _, _, _, rfl⟩ ?_ ?_⟩
  ·rintro i _ hi ⟨s2, s3, s4, s5, rfl⟩
   simp! only [↓zcs, ↓zcn, zan _ (show 0 < R + 1 by omega), e2]
   refine ⟨zaC (by omega) (by omega), zaS (fun j ρ => ∃ s4 s5, ρ = [.val _, .own (wL i fun r => .tup (wI C (four f r))), .val (.int i), .own (wI j (four f i)), s4, s5]) ⟨_, _, rfl⟩ ?_ ?_⟩
   ·rintro j _ hj ⟨s4, s5, rfl⟩
    have a1 : (i : Int) + 1 = ((i + 1 : Nat) : Int) := by omega
    have a2 : (j : Int) + 1 = ((j + 1 : Nat) : Int) := by omega
    simp! only [↓zco, a1, a2, zan _ (show i < R + 1 by omega), zan _ (show i + 1 < R + 1 by omega), zan _ (show j < C + 1 by omega), zan _ (show j + 1 < C + 1 by omega)]
    simp! only [i4]
    exact ⟨by omega, _, _, by rw [show wI (j + 1) (four f i) = _ from za1 _ _, show [f i j, f i (j + 1), f (i + 1) j, f (i + 1) (j + 1)].sum = four f i j by simp [four]; omega]⟩
   ·rintro _ ⟨s4, s5, rfl⟩
    simp! only []
    exact ⟨by omega, _, _, _, _, by rw [za1]⟩
  ·rintro _ ⟨s2, s3, s4, s5, rfl⟩
   simp! only []
def rowF (s a : Nat -> Int) : Nat -> Int
 | 0 => 0
 | c + 1 => s c - a c - a (c + 1) - rowF s a c
def pln (S : Nat -> Nat -> Int) : Nat -> Nat -> Int
 | 0 => fun _ => 0
 | r + 1 => rowF (S r) (pln S r)
theorem four_pln (S : Nat -> Nat -> Int) (r c : Nat) : four (pln S) r c = S r c := by
 show pln S r c + pln S r (c + 1) + rowF (S r) (pln S r) c + (S r c - pln S r c - pln S r (c + 1) - rowF (S r) (pln S r) c) = S r c
 omega
theorem zi5 (hn : n <= 1000) (hm : m <= 1000) : Ok (zcQ [tL n m f]) fun x => x = .val (tT n m f) := by
 simp! only [↓zcQ, ↓zfV, ↓zfC]
 refine ⟨by omega, zaW (fun ρ => ∃ s, ρ = [s]) (fun r => .tup (wI m (f r))) ⟨_, rfl⟩ ?_ ?_⟩
 ·rintro i _ hi ⟨s, rfl⟩
  simp! only [↓zfI]
  exact ⟨_, rfl⟩
 ·rintro _ ⟨s, rfl⟩
  simp! only []
theorem zgl (hn : n <= 1000) (hm : m <= 1000) : Ok (zaV [tL n m f]) fun x => x = .val (tT n m f) := by
 simp! only [↓zaV, ↓zfe, ↓zeI]
 refine ⟨by omega, zaW (fun ρ => ∃ s, ρ = [s]) (fun r => .tup (wI m (f r))) ⟨_, rfl⟩ ?_ ?_⟩
 ·rintro i _ hi ⟨s, rfl⟩
  simp! only [↓zeH]
  exact ⟨_, rfl⟩
 ·rintro _ ⟨s, rfl⟩
  simp! only []
abbrev zaO (R C : Nat) (S L G : Nat -> Nat -> Int) : D := .tup [tT R C S, tT (R + 1) (C + 1) L, tT (R + 1) (C + 1) G]
theorem zjQ (n : Nat) (x : D) : (List.replicate n [x]).flatten = wL n fun _ => x := by
 induction n with
 | zero => rfl
 | succ n ih => rw [List.replicate_succ', List.flatten_append, ih, za1]; simp
variable {S L G : Nat -> Nat -> Int}
theorem zjg (g : Nat -> D) : atI (wL (n + 1) g) (-1) = some (g n) := zlx g
theorem ziu (hR : R <= 100) (hC : C <= 100) : Ok (zaH [zaO R C S L G]) fun x => x = .val (tT (R + 1) (C + 1) (pln S)) := by
 simp! only [↓zaH, ↓zcI, zan _ (show 0 < R + 1 by omega)]
 have e0 : ([D.int 0] :: List.replicate C [D.int 0]).flatten = wI (C + 1) (pln S 0) := by rw [<- List.replicate_succ]; exact zjQ _ _
 simp! only [↓zc7]
 refine ⟨⟨⟨by omega, by omega⟩, by omega⟩, zaS (fun i ρ => ∃ s2 s3 s4 s5 s6, ρ = [.val (zaO R C S L G), .own (wL (i + 1) fun r => .lst (wI (C + 1) (pln S r))), s2, s3, s4, s5, s6]) ⟨.emp, .emp, .emp, .emp, .emp, by rw [e0]; rfl⟩ ?_ ?_⟩
 ·rintro i _ hi ⟨s2, s3, s4, s5, s6, rfl⟩
  simp! only [↓zc9, zjg, ↓zda, ziD]
  refine zaS (fun j ρ => ∃ s5 s6, ρ = [.val (zaO R C S L G), .own (wL (i + 1) fun r => .lst (wI (C + 1) (pln S r))), .val (.tup (wI C (S i))), .val (.lst (wI (C + 1) (pln S i))), .own (wI (j + 1) (pln S (i + 1))), s5, s6]) ⟨_, _, rfl⟩ ?_ ?_
  ·rintro j _ hj ⟨s5, s6, rfl⟩
   have a2 : (j : Int) + 1 = ((j + 1 : Nat) : Int) := by omega
   simp! only [↓zdb, a2, zan _ (show j < C + 1 by omega), zan _ (show j + 1 < C + 1 by omega), zan _ (show j < j + 1 by omega)]
   exact ⟨by omega, _, _, by rw [show wI (j + 1 + 1) (pln S (i + 1)) = _ from za1 _ _]; rfl⟩
  ·rintro _ ⟨s5, s6, rfl⟩
   simp! only []
   exact ⟨by omega, _, _, _, _, _, by rw [za1 (i + 1)]⟩
 ·rintro _ ⟨s2, s3, s4, s5, s6, rfl⟩
  simp! only []
  refine (zi5 (by omega) (by omega)).mono ?_
  rintro _ rfl
  simp! only []
end
def sg (r c : Nat) : Int := if (r + c) % 2 = 0 then 1 else -1
theorem zjB (r c : Nat) : Ok (zbc [.int (r : Nat), .int (c : Nat)]) fun x => x = .val (.int (sg r c)) := by
 have e : ((r : Int) + (c : Int)) % 2 = (((r + c) % 2 : Nat) : Int) := by omega
 simp! only [↓zbc, ↓zfP, e]
 unfold sg
 refine ⟨fun h => by rw [if_pos (by omega)], fun h => by rw [if_neg (by omega)]⟩
section
variable {R C : Nat} {S L G f : Nat -> Nat -> Int} {h : Nat -> Int}
def shf (R : Nat) (f : Nat -> Nat -> Int) (h : Nat -> Int) (r c : Nat) : Int := f r c + sg r c * (h r - h (R + c))
theorem mul_sg (x : Int) : zh5 (sg r c) x = true := zb9 (by unfold sg; split <;> decide)
theorem shrow_ok {r : Nat} (a : Int) (b : Nat -> Int) (g : Nat -> Int) (hC : C <= 1000) : Ok (zbI [.tup (wI C g), .int (r : Nat), .int a, .lst (wI C b)]) fun x => x = .val (.tup (wI C fun c => g c + sg r c * (a - b c))) := by
 simp! only [↓zbI, ↓zdP, ↓zdZ, ziD]
 refine ⟨by omega, zaW (fun ρ => ∃ s t, ρ = [.val (.int (r : Nat)), .val (.int a), .val (.lst (wI C b)), s, t]) (fun c => .int (g c + sg r c * (a - b c))) ⟨_, _, rfl⟩ ?_ ?_⟩
 ·rintro i _ hi ⟨s, t, rfl⟩
  simp! only [↓zd2]
  refine (zjB r i).mono ?_
  rintro _ rfl
  simp! only [zan _ hi]
  exact ⟨mul_sg _, _, _, rfl⟩
 ·rintro _ ⟨s, t, rfl⟩
  simp! only []
theorem ziA (hR : R <= 100) (hC : C <= 100) : Ok (zaF [tT R C f, .lst (wI (R + C) h)]) fun x => x = .val (tT R C (shf R f h)) := by
 have ec : cutD (wI (R + C) h) (some (R : Int)) none = wI C fun c => h (R + c) := by
  rw [show cutD (wI (R + C) h) (some (R : Int)) none = (wI (R + C) h).drop R from zkE _ R]
  apply List.ext_getElem?
  intro i
  rw [List.getElem?_drop]
  by_cases hi : i < C
  ·rw [zan _ hi, zan _ (show R + i < R + C by omega)]
  ·rw [List.getElem?_eq_none (by rw [za8]; omega), List.getElem?_eq_none (by rw [za8]; omega)]
 simp! only [↓zaF, ↓zbU, ↓zcu, ziD, ec]
 refine ⟨by omega, zaW (fun ρ => ∃ s t, ρ = [.val (.lst (wI (R + C) h)), .val (.lst (wI C fun c => h (R + c))), s, t]) (fun r => .tup (wI C (shf R f h r))) ⟨_, _, rfl⟩ ?_ ?_⟩
 ·rintro i _ hi ⟨s, t, rfl⟩
  simp! only [↓zch, zan _ (show i < R + C by omega)]
  refine (shrow_ok _ _ _ (by omega)).mono ?_
  rintro _ rfl
  simp! only []
  exact ⟨rfl, _, _, rfl⟩
 ·rintro _ ⟨s, t, rfl⟩
  simp! only []
theorem four_shf (r c : Nat) : four (shf R f h) r c = four f r c := by
 have s1 : sg r (c + 1) = - sg r c := by unfold sg; split <;> split <;> omega
 have s2 : sg (r + 1) c = - sg r c := by unfold sg; split <;> split <;> omega
 have s3 : sg (r + 1) (c + 1) = sg r c := by unfold sg; split <;> split <;> omega
 unfold four shf
 rw [s1, s2, s3]
 rw [show R + (c + 1) = R + c + 1 by omega]
 generalize sg r c = s
 simp only [Int.mul_sub, Int.neg_mul]
 omega
end
theorem wL_add (a b : Nat) (f : Nat -> D) : wL (a + b) f = wL a f ++ wL b fun i => f (a + i) := by
 induction b with
 | zero => simp [wL]
 | succ b ih => rw [<- Nat.add_assoc, za1, ih, za1, List.append_assoc]
def ftl (a b q : Nat) : Nat := if q % 2 = 0 then q / 2 / b else a + q / 2 % b
def ftu (a b q : Nat) : Nat := if q % 2 = 0 then a + q / 2 % b else q / 2 / b
def up (P G : Nat -> Nat -> Int) (r c : Nat) : Int := G r c - P r c
def dn (P L : Nat -> Nat -> Int) (r c : Nat) : Int := P r c - L r c
def fta (b : Nat) (P L G : Nat -> Nat -> Int) (q : Nat) : Int := if q % 2 = 0 then (if sg (q / 2 / b) (q / 2 % b) = 1 then up P G (q / 2 / b) (q / 2 % b) else dn P L (q / 2 / b) (q / 2 % b)) else (if sg (q / 2 / b) (q / 2 % b) = 1 then dn P L (q / 2 / b) (q / 2 % b) else up P G (q / 2 / b) (q / 2 % b))
section
variable {R C : Nat} {S L G f : Nat -> Nat -> Int}
theorem dm (h : c < b) : (i * b + c) / b = i /\ (i * b + c) % b = c := by
 have b0 : 0 < b := by omega
 constructor
 ·rw [Nat.mul_comm, Nat.mul_add_div b0, Nat.div_eq_of_lt h, Nat.add_zero]
 ·rw [Nat.mul_comm, Nat.mul_add_mod, Nat.mod_eq_of_lt h]
theorem cells_ok (hR : R <= 50) (hC : C <= 50) : Ok (zdw [tT (R + 1) (C + 1) f]) fun x => x = .own (wL ((R + 1) * (C + 1)) fun k => .tup [.int ((k / (C + 1) : Nat) : Int), .int ((k % (C + 1) : Nat) : Int)]) := by
 simp! only [↓zdw, ↓zgy, ↓zgn]
 refine ⟨zaC (by omega) (by omega), zaS (fun i ρ => ∃ s2, ρ = [.val (tT (R + 1) (C + 1) f), .own (wL (i * (C + 1)) fun k => .tup [.int ((k / (C + 1) : Nat) : Int), .int ((k % (C + 1) : Nat) : Int)]), s2]) ⟨_, by rw [Nat.zero_mul]; rfl⟩ ?_ ?_⟩
 ·rintro i _ hi ⟨s2, rfl⟩
  simp! only [↓zga, ↓zfW, zan _ (show 0 < R + 1 by omega)]
  refine ⟨zaC (by omega) (by omega), by omega, zaW (fun ρ => ∃ z, ρ = [.val (.int (i : Nat)), z]) (fun c => .tup [.int (i : Nat), .int (c : Nat)]) ⟨_, rfl⟩ ?_ ?_⟩
  ·rintro c _ hc ⟨z, rfl⟩
   simp! only [↓zf5]
   exact ⟨_, rfl⟩
  rintro _ ⟨z, rfl⟩
  simp! only []
  have bd : i * (C + 1) <= 51 * 51 := Nat.mul_le_mul (by omega) (by omega)
  refine ⟨by omega, .val (.int (i : Nat)), ?_⟩
  have e : (wL ((i + 1) * (C + 1)) fun k => D.tup [.int ((k / (C + 1) : Nat) : Int), .int ((k % (C + 1) : Nat) : Int)]) = (wL (i * (C + 1)) fun k => D.tup [.int ((k / (C + 1) : Nat) : Int), .int ((k % (C + 1) : Nat) : Int)]) ++ wL (C + 1) fun c => .tup [.int (i : Nat), .int (c : Nat)] := by
   rw [show (i + 1) * (C + 1) = i * (C + 1) + (C + 1) from Nat.succ_mul i (C + 1), wL_add (i * (C + 1)) (C + 1)]
   congr 1
   exact zbp fun c hc => by (try dsimp only); rw [(dm hc).1, (dm hc).2]
  rw [e]
 ·rintro _ ⟨s2, rfl⟩
  simp! only []
theorem ctie_ok {r c : Nat} (hr : r < R + 1) (hc : c < C + 1) : Ok (zcW [zaO R C S L G, tT (R + 1) (C + 1) f, .int (r : Nat), .int (c : Nat)]) fun x => x = .own [.tup [.int (r : Nat), .int ((R + 1 + c : Nat) : Int), .int (if sg r c = 1 then up f G r c else dn f L r c)], .tup [.int ((R + 1 + c : Nat) : Int), .int (r : Nat), .int (if sg r c = 1 then dn f L r c else up f G r c)]] := by
 have e2 : ((R + 1 : Nat) : Int) + (c : Int) = ((R + 1 + c : Nat) : Int) := by omega
 simp! only [↓zcW, ↓zfU, e2, zan _ hr, zan _ hc]
 refine (zjB r c).mono ?_
 rintro _ rfl
 simp! only []
 refine ⟨fun z => ?_, fun z => ?_⟩
 ·rw [if_pos z, if_pos z]; rfl
 ·simp! only [↓zfz]
  rw [if_neg z, if_neg z]; rfl
theorem ties_ok (hR : R <= 50) (hC : C <= 50) : Ok (zbY [zaO R C S L G]) fun x => x = .own (tieL (2 * ((R + 1) * (C + 1))) (ftl (R + 1) (C + 1)) (ftu (R + 1) (C + 1)) (fta (C + 1) (pln S) L G)) := by
 simp! only [↓zbY, ↓ze4]
 refine (ziu (by omega) (by omega)).mono ?_
 rintro _ rfl
 simp! only [↓zex]
 refine (cells_ok hR hC).mono ?_
 rintro _ rfl
 obtain ⟨N, hN⟩ : ∃ N, N = (R + 1) * (C + 1) := ⟨_, rfl⟩
 have N9 : N <= 51 * 51 := by rw [hN]; exact Nat.mul_le_mul (by omega) (by omega)
 rw [<- hN]
 simp! only []
 refine zaS (fun i ρ => ∃ s3 s4, ρ = [.val (zaO R C S L G), .val (tT (R + 1) (C + 1) (pln S)), .own (tieL (2 * i) (ftl (R + 1) (C + 1)) (ftu (R + 1) (C + 1)) (fta (C + 1) (pln S) L G)), s3, s4]) ⟨_, _, rfl⟩ ?_ ?_
 ·rintro k _ hk ⟨s3, s4, rfl⟩
  have q1 : k / (C + 1) < R + 1 := Nat.div_lt_of_lt_mul (by rw [Nat.mul_comm, <- hN]; exact hk)
  have q2 : k % (C + 1) < C + 1 := Nat.mod_lt _ (by omega)
  simp! only [↓zfd]
  refine (ctie_ok q1 q2).mono ?_
  rintro _ rfl
  simp! only [tieL, za8]
  refine ⟨by omega, .val (.int ((k / (C + 1) : Nat) : Int)), .val (.int ((k % (C + 1) : Nat) : Int)), ?_⟩
  rw [show 2 * (k + 1) = 2 * k + 1 + 1 by omega, za1 (2 * k + 1), za1 (2 * k), List.append_assoc]
  have a1 : (2 * k) % 2 = 0 := by omega
  have a2 : (2 * k) / 2 = k := by omega
  have a3 : (2 * k + 1) % 2 ≠ 0 := by omega
  have a4 : (2 * k + 1) / 2 = k := by omega
  have b1 : ftl (R + 1) (C + 1) (2 * k) = k / (C + 1) := by unfold ftl; rw [if_pos a1, a2]
  have b2 : ftu (R + 1) (C + 1) (2 * k) = R + 1 + k % (C + 1) := by unfold ftu; rw [if_pos a1, a2]
  have b3 : ftl (R + 1) (C + 1) (2 * k + 1) = R + 1 + k % (C + 1) := by unfold ftl; rw [if_neg a3, a4]
  have b4 : ftu (R + 1) (C + 1) (2 * k + 1) = k / (C + 1) := by unfold ftu; rw [if_neg a3, a4]
  have b5 : fta (C + 1) (pln S) L G (2 * k) = if sg (k / (C + 1)) (k % (C + 1)) = 1 then up (pln S) G (k / (C + 1)) (k % (C + 1)) else dn (pln S) L (k / (C + 1)) (k % (C + 1)) := by unfold fta; rw [if_pos a1, a2]
  have b6 : fta (C + 1) (pln S) L G (2 * k + 1) = if sg (k / (C + 1)) (k % (C + 1)) = 1 then dn (pln S) L (k / (C + 1)) (k % (C + 1)) else up (pln S) G (k / (C + 1)) (k % (C + 1)) := by unfold fta; rw [if_neg a3, a4]
  rw [b1, b2, b3, b4, b5, b6]
  rfl
 ·rintro _ ⟨s3, s4, rfl⟩
  simp! only []
end
section
variable {R C : Nat} {S L G f : Nat -> Nat -> Int}
theorem ft_lt (hb : 0 < b) (h : q < 2 * (a * b)) : q / 2 / b < a /\ q / 2 % b < b := by
 have h1 : q / 2 < a * b := by omega
 exact ⟨Nat.div_lt_of_lt_mul (by rw [Nat.mul_comm]; exact h1), Nat.mod_lt _ hb⟩
theorem zls (hb : 0 < b) (h : q < 2 * (a * b)) : ftl a b q < a + b := by
 have := ft_lt hb h; unfold ftl; split <;> omega
theorem zl2 (hb : 0 < b) (h : q < 2 * (a * b)) : ftu a b q < a + b := by
 have := ft_lt hb h; unfold ftu; split <;> omega
theorem ft_ne (hb : 0 < b) (h : q < 2 * (a * b)) : ftl a b q ≠ ftu a b q := by
 have := ft_lt hb h; unfold ftl ftu; split <;> omega
theorem fit_of (h0 : h r <= h (R + 1 + c) + (if sg r c = 1 then up f G r c else dn f L r c)) (h1 : h (R + 1 + c) <= h r + (if sg r c = 1 then dn f L r c else up f G r c)) : L r c <= shf (R + 1) f h r c /\ shf (R + 1) f h r c <= G r c := by
 unfold shf
 have : sg r c = 1 \/ sg r c = -1 := by unfold sg; split <;> simp
 unfold up dn at h0 h1
 rcases this with e | e
 ·rw [if_pos e] at h0 h1; rw [e]; omega
 ·rw [if_neg (by omega)] at h0 h1; rw [e]; omega
theorem ft_at (hr : r < a) (hc : c < b) : 2 * (r * b + c) + 1 < 2 * (a * b) /\ ftl a b (2 * (r * b + c)) = r /\ ftu a b (2 * (r * b + c)) = a + c /\ ftl a b (2 * (r * b + c) + 1) = a + c /\ ftu a b (2 * (r * b + c) + 1) = r := by
 have a1 : (2 * (r * b + c)) % 2 = 0 := by omega
 have a2 : (2 * (r * b + c)) / 2 = r * b + c := by omega
 have a3 : (2 * (r * b + c) + 1) % 2 ≠ 0 := by omega
 have a4 : (2 * (r * b + c) + 1) / 2 = r * b + c := by omega
 have d := dm (i := r) hc
 have lt : r * b + c < a * b := by
  have : (r + 1) * b <= a * b := Nat.mul_le_mul_right b (by omega)
  rw [Nat.succ_mul] at this
  omega
 unfold ftl ftu
 rw [if_pos a1, if_pos a1, if_neg a3, if_neg a3, a2, a4, d.1, d.2]
 exact ⟨by omega, rfl, rfl, rfl, rfl⟩
theorem fta_at (hc : c < b) : fta b f L G (2 * (r * b + c)) = (if sg r c = 1 then up f G r c else dn f L r c) /\ fta b f L G (2 * (r * b + c) + 1) = (if sg r c = 1 then dn f L r c else up f G r c) := by
 have a1 : (2 * (r * b + c)) % 2 = 0 := by omega
 have a2 : (2 * (r * b + c)) / 2 = r * b + c := by omega
 have a3 : (2 * (r * b + c) + 1) % 2 ≠ 0 := by omega
 have a4 : (2 * (r * b + c) + 1) / 2 = r * b + c := by omega
 have d := dm (i := r) hc
 unfold fta
 rw [if_pos a1, if_neg a3, a2, a4, d.1, d.2]
 exact ⟨rfl, rfl⟩
end
theorem turnI (c1 : 1 <= c) (f : Nat -> Int) (h : f c = f 0) : cutD (wI c f) (some 1) none ++ cutD (wI c f) none (some 1) = wI c fun i => f (i + 1) := by
 obtain ⟨e, rfl⟩ : ∃ e, c = e + 1 := ⟨c - 1, by omega⟩
 rw [show cutD (wI (e + 1) f) (some 1) none = (wI (e + 1) f).drop 1 from zkE _ 1, show cutD (wI (e + 1) f) none (some 1) = (wI (e + 1) f).take 1 from zkB _ 1]
 rw [show wI (e + 1) (fun i => f (i + 1)) = (wI e fun i => f (i + 1)) ++ [.int (f (e + 1))] from za1 _ _, h]
 have s : wI (e + 1) f = .int (f 0) :: wI e fun i => f (i + 1) := by simp [wL, List.range_succ_eq_map, Function.comp_def]
 rw [s]
 rfl
section
variable {R C : Nat} {S L G f : Nat -> Nat -> Int}
def cellW (a : Nat) (W : Nat -> Nat) (i : Nat) : D := .tup [.int (min2 (W i) (W (i + 1))), .int (max2 (W i) (W (i + 1)) - (a : Int))]
theorem tour_ok (c1 : 1 <= c) (c9 : c <= 1000) (V : Nat -> Nat) (h0 : V c = V 0) (h1 : V (c + 1) = V 1) :
  Ok (zd7 [.lst (wI c fun i => (V i : Nat)), .int (a : Nat)]) fun x => ∃ W : Nat -> Nat, (W = V /\ V 0 < a \/ W = (fun i => V (i + 1)) /\ a <= V 0) /\ x = .own (wL c (cellW a W)) := by
 have e0 : atI (wI c fun i => (V i : Nat)) 0 = some (.int (V 0 : Nat)) := by
  rw [show (0 : Int) = ((0 : Nat) : Int) from rfl, atI_n, zan _ (show 0 < c by omega)]
 have t1 := turnI c1 (fun i => ((V i : Nat) : Int)) (by (try dsimp only); rw [h0])
 have t2 := turnI c1 (fun i => ((V (i + 1) : Nat) : Int)) (by (try dsimp only); rw [h1])
 have fin : ∀ (W : Nat -> Nat) (d0 : D) (hW : (W = V /\ V 0 < a \/ W = (fun i => V (i + 1)) /\ a <= V 0)), Ok (zei [.val d0, .val (.int (a : Nat)), .val (.lst (wI c fun i => (W i : Nat))), .val (.lst (wI c fun i => (W (i + 1) : Nat)))]) fun p => p.1 = wL c (cellW a W) := fun W d0 hW => by
  simp! only [↓zei, zip2D_w]
  refine ⟨by omega, zaW (fun ρ => ∃ y z, ρ = [.val (.int (a : Nat)), y, z]) (cellW a W) ⟨_, _, rfl⟩ ?_ ?_⟩
  ·rintro i _ hi ⟨y, z, rfl⟩
   simp! only [↓zgR]
   exact ⟨rfl, _, _, rfl⟩
  ·rintro _ ⟨y, z, rfl⟩
   rfl
 simp! only [↓zd7, ↓zhe, zan _ (show 0 < c by omega)]
 have len : ∀ g : Nat -> Int, g c = g 0 -> (cutD (wI c g) (some 1) none).length + (cutD (wI c g) none (some 1)).length <= 16777216 := fun g hg => by rw [<- List.length_append, turnI c1 g hg, za8]; omega
 refine ⟨fun z => ⟨len _ (by (try dsimp only); rw [h0]), ?_⟩, fun z => ⟨len _ (by (try dsimp only); rw [h0]), ?_⟩⟩
 ·rw [t1]
  refine (fin V _ (.inl ⟨rfl, by omega⟩)).mono ?_
  rintro ⟨_, ρ⟩ rfl
  simp! only []
  exact ⟨V, .inl ⟨rfl, by omega⟩, rfl⟩
 ·rw [t1]
  refine ⟨len _ (by (try dsimp only); rw [h1]), ?_⟩
  rw [t2]
  refine (fin (fun i => V (i + 1)) _ (.inr ⟨rfl, by omega⟩)).mono ?_
  rintro ⟨_, ρ⟩ rfl
  simp! only []
  exact ⟨_, .inr ⟨rfl, by omega⟩, rfl⟩
end
def zek (R C : Nat) (L G : Nat -> Nat -> Int) (f : Nat -> Nat -> Int) : Prop := ∀ r c, r < R + 1 -> c < C + 1 -> L r c <= f r c /\ f r c <= G r c
theorem zkJ (r c : Nat) : sg r c = 1 \/ sg r c = -1 := by unfold sg; split <;> simp
theorem zka (z : Nat -> Int) : ∀ {c : Nat}, (∀ i, i < c -> z i <= z (i + 1) + g i) -> z 0 - z c <= sumR c g
 | 0, _ => by show z 0 - z 0 <= 0; omega
 | c + 1, h => by
  have h1 := zka z (c := c) fun i hi => h i (by omega)
  have h2 := h c (by omega)
  show z 0 - z (c + 1) <= sumR c g + g c
  omega
section
variable {R C : Nat} {S L G P : Nat -> Nat -> Int} {d : Nat -> Option Int} {u : Nat -> Option Nat}
theorem pots (fi : zek R C L G (shf (R + 1) P p)) (hq : q < 2 * ((R + 1) * (C + 1))) : p (ftl (R + 1) (C + 1) q) <= p (ftu (R + 1) (C + 1) q) + fta (C + 1) P L G q := by
 obtain ⟨h1, h2⟩ := ft_lt (show 0 < C + 1 by omega) hq
 have := fi _ _ h1 h2
 unfold shf at this
 unfold ftl ftu fta up dn
 rcases zkJ (q / 2 / (C + 1)) (q / 2 % (C + 1)) with e | e <;> rw [e] at this ⊢ <;> split <;> simp only [if_true, show ((-1 : Int) = 1) = False from by simp, if_false] <;> omega
theorem zj1 {a c : Nat} (rd : Round (2 * ((R + 1) * (C + 1))) (ftl (R + 1) (C + 1)) (ftu (R + 1) (C + 1)) (fta (C + 1) P L G) u a c qs) (fi : zek R C L G (shf (R + 1) P p)) : False := by
 have h := zka (g := fun i => fta (C + 1) P L G (qs i)) (fun i => p (back u a i)) (c := c) fun i hi => by
  obtain ⟨t1, t2, t3⟩ := rd.tie i hi
  have := pots fi t1
  rw [t2, t3] at this
  exact this
 have n := rd.neg
 (try dsimp only at h)
 rw [rd.home, show back u a 0 = a from rfl] at h
 omega
def At0 (R C : Nat) (P L G : Nat -> Nat -> Int) (d : Nat -> Option Int) : Prop := ∀ r c, r < R + 1 -> c < C + 1 -> (∀ y, d (R + 1 + c) = some y -> ∃ x, d r = some x /\ x <= y + (if sg r c = 1 then up P G r c else dn P L r c)) /\ (∀ y, d r = some y -> ∃ x, d (R + 1 + c) = some x /\ x <= y + (if sg r c = 1 then dn P L r c else up P G r c))
theorem at0_of (kept : ∀ q, q < 2 * ((R + 1) * (C + 1)) -> Kept (ftl (R + 1) (C + 1)) (ftu (R + 1) (C + 1)) (fta (C + 1) P L G) d q) : At0 R C P L G d := fun r c hr hc => by
 obtain ⟨f1, f2, f3, f4, f5⟩ := ft_at hr hc
 have k0 := kept (2 * (r * (C + 1) + c)) (by omega)
 have k1 := kept (2 * (r * (C + 1) + c) + 1) (by omega)
 obtain ⟨g1, g2⟩ := fta_at (f := P) (L := L) (G := G) (r := r) hc
 unfold Kept at k0 k1
 rw [f2, f3, g1] at k0
 rw [f4, f5, g2] at k1
 exact ⟨k0, k1⟩
theorem At0.all (at0 : At0 R C P L G d) (hs : s < R + 1 + (C + 1)) (st : ∃ x, d s = some x) : ∀ v, v < R + 1 + (C + 1) -> d v = some ((d v).getD 0) := by
 obtain ⟨x0, hx0⟩ := st
 have dc : ∀ r, r < R + 1 -> (∃ x, d r = some x) -> ∀ c, c < C + 1 -> ∃ x, d (R + 1 + c) = some x := fun r hr ⟨x, hx⟩ c hc => let ⟨y, hy, _⟩ := (at0 r c hr hc).2 _ hx; ⟨y, hy⟩
 have dr : ∀ c, c < C + 1 -> (∃ x, d (R + 1 + c) = some x) -> ∀ r, r < R + 1 -> ∃ x, d r = some x := fun c hc ⟨x, hx⟩ r hr => let ⟨y, hy, _⟩ := (at0 r c hr hc).1 _ hx; ⟨y, hy⟩
 have c0 : ∃ x, d (R + 1 + 0) = some x := by
  by_cases z : s < R + 1
  ·exact dc s z ⟨_, hx0⟩ 0 (by omega)
  ·have := dr (s - (R + 1)) (by omega) ⟨x0, by rw [show R + 1 + (s - (R + 1)) = s by omega]; exact hx0⟩ 0 (by omega)
   exact dc 0 (by omega) this 0 (by omega)
 have rows := dr 0 (by omega) c0
 intro v hv
 have : ∃ x, d v = some x := by
  by_cases z : v < R + 1
  ·exact rows v z
  ·have := dc 0 (by omega) (rows 0 (by omega)) (v - (R + 1)) (by omega)
   rw [show R + 1 + (v - (R + 1)) = v by omega] at this
   exact this
 obtain ⟨x, hx⟩ := this
 rw [hx]; rfl
theorem At0.fits (at0 : At0 R C P L G d) (all : ∀ v, v < R + 1 + (C + 1) -> d v = some ((d v).getD 0)) : zek R C L G (shf (R + 1) P fun v => (d v).getD 0) := fun r c hr hc => by
 obtain ⟨a1, a2⟩ := at0 r c hr hc
 have e1 := all r (by omega)
 have e2 := all (R + 1 + c) (by omega)
 obtain ⟨x, hx, lx⟩ := a1 _ e2
 obtain ⟨y, hy, ly⟩ := a2 _ e1
 rw [e1] at hx; cases hx
 rw [e2] at hy; cases hy
 exact fit_of lx ly
def Told (R C : Nat) (P L G : Nat -> Nat -> Int) (s : Nat) (x : Sl) : Prop :=
 (∃ g : Nat -> Int, ∃ us, (zek R C L G (shf (R + 1) P g) /\ (∀ p, zek R C L G (shf (R + 1) P p) -> ∀ v, v < R + 1 + (C + 1) -> p v - p s <= g v) /\ g s <= 0) /\ x = .val (.tup [.lst (wI (R + 1 + (C + 1)) g), us, .non])) \/
 (∃ (d : Nat -> Option Int) (u : Nat -> Option Nat) (s l : Nat) (ts : Nat -> Nat), BI (2 * ((R + 1) * (C + 1))) (ftl (R + 1) (C + 1)) (ftu (R + 1) (C + 1)) (fta (C + 1) P L G) s (R + C + 2) 0 d u ts /\ (R + C + 1) * (2 * ((R + 1) * (C + 1))) < ts l /\ x = .val (.tup [.lst (wL (R + C + 2) fun v => dO (d v)), .lst (wL (R + C + 2) fun v => uO (u v)), .int l]))
theorem fsh_ok (hR : R <= 20) (hC : C <= 20) {s : Nat} (hs : s < R + 1 + (C + 1)) : Ok (za2 [zaO R C S L G, .int s]) (Told R C (pln S) L G s) := by
 have b0 : 0 < C + 1 := by omega
 have en : ((R + 1 : Nat) : Int) + ((C + 1 : Nat) : Int) = ((R + C + 2 : Nat) : Int) := by omega
 simp! only [↓za2, ↓zdl, zan _ (show 0 < R + 1 by omega), en]
 refine (ties_ok (by omega) (by omega)).mono ?_
 rintro _ rfl
 have hl : ∀ q, q < 2 * ((R + 1) * (C + 1)) -> ftl (R + 1) (C + 1) q < R + C + 2 := fun q hq => by have := zls b0 hq; omega
 have hu : ∀ q, q < 2 * ((R + 1) * (C + 1)) -> ftu (R + 1) (C + 1) q < R + C + 2 := fun q hq => by have := zl2 b0 hq; omega
 have ne : ∀ q, q < 2 * ((R + 1) * (C + 1)) -> ftl (R + 1) (C + 1) q ≠ ftu (R + 1) (C + 1) q := fun q hq => ft_ne b0 hq
 simp! only [zan _ (show 0 < R + 1 by omega), en]
 refine (zlL (s := s) (by omega) (by omega) (by omega) hl hu ne).mono ?_
 rintro _ ⟨d, u, f, ⟨ts, b, hf⟩, rfl⟩
 simp! only []
 rcases hf with ⟨rfl, h⟩ | ⟨l, rfl, h⟩
 ·have at0 := at0_of fun q hq => b.kept (t := R + C + 1) h hq
  have all := at0.all hs b.st
  refine .inl ⟨_, .lst (wL (R + C + 2) fun v => uO (u v)), ⟨at0.fits all, fun p fp v hv => b.mx p (fun q hq => pots fp hq) v _ (all v hv), b.s0 _ (all s hs)⟩, ?_⟩
  rw [show (wL (R + C + 2) fun v => dO (d v)) = wI (R + 1 + (C + 1)) fun v => (d v).getD 0 from by
   rw [show R + C + 2 = R + 1 + (C + 1) by omega]
   exact zbp fun v hv => by (try dsimp only); rw [all v hv]; rfl]
  rfl
 ·exact .inr ⟨_, _, _, _, _, b, h, rfl⟩
theorem zmu (hR : R <= 20) (hC : C <= 20) : Ok (zbC [zaO R C S L G]) fun x => (∃ h t, zek R C L G (shf (R + 1) (pln S) h) /\ x = .val (.tup [.str "floor", t])) \/ ((∀ p, ¬ zek R C L G (shf (R + 1) (pln S) p)) /\ ∃ t, x = .val (.tup [.str "tour", t])) := by
 have b0 : 0 < C + 1 := by omega
 simp! only [↓zbC, ↓zdo]
 refine (fsh_ok (s := 0) hR hC (by omega)).mono ?_
 rintro _ (⟨g, us, ⟨fi, -, -⟩, rfl⟩ | ⟨d, u, s, l, ts, b, h, rfl⟩)
 ·simp! only [↓zdB]
  refine (ziu (by omega) (by omega)).mono ?_
  rintro _ rfl
  simp! only []
  refine (ziA (by omega) (by omega)).mono ?_
  rintro _ rfl
  simp! only []
  exact .inl ⟨_, _, fi, rfl⟩
 ·have hl : ∀ q, q < 2 * ((R + 1) * (C + 1)) -> ftl (R + 1) (C + 1) q < R + C + 2 := fun q hq => by have := zls b0 hq; omega
  have hu : ∀ q, q < 2 * ((R + 1) * (C + 1)) -> ftu (R + 1) (C + 1) q < R + C + 2 := fun q hq => by have := zl2 b0 hq; omega
  have ne : ∀ q, q < 2 * ((R + 1) * (C + 1)) -> ftl (R + 1) (C + 1) q ≠ ftu (R + 1) (C + 1) q := fun q hq => ft_ne b0 hq
  simp! only []
  refine (loop_ok (n := R + C + 1) b h (by omega) hl hu ne).mono ?_
  rintro _ ⟨c, qs, c9, rd, rfl⟩
  obtain ⟨V, hV⟩ : ∃ V : Nat -> Nat, V = fun i => back u (back u l (R + C + 1 + 1)) i := ⟨_, rfl⟩
  have per : ∀ i, V (i + c) = V i := fun i => by
   rw [hV]
   show back u (back u l (R + C + 1 + 1)) (i + c) = back u (back u l (R + C + 1 + 1)) i
   rw [Nat.add_comm i c, <- zcz, rd.home]
  have c1 := rd.pos
  rw [show (wI c fun i => ((back u (back u l (R + C + 1 + 1)) i : Nat) : Int)) = wI c fun i => ((V i : Nat) : Int) by rw [hV]]
  simp! only []
  refine (tour_ok c1 (by omega) V (by have := per 0; rwa [Nat.zero_add] at this) (by have := per 1; rwa [Nat.add_comm] at this)).mono ?_
  rintro _ ⟨W, hW, rfl⟩
  simp! only []
  exact .inr ⟨fun p fi => zj1 rd fi, _, rfl⟩
theorem zlK (hR : R <= 20) (hC : C <= 20) (fi : zek R C L G (shf (R + 1) (pln S) p)) (hs : s < R + 1 + (C + 1)) : Ok (zaP [zaO R C S L G, .int s]) fun x => ∃ g : Nat -> Int, (zek R C L G (shf (R + 1) (pln S) g) /\ (∀ p, zek R C L G (shf (R + 1) (pln S) p) -> ∀ v, v < R + 1 + (C + 1) -> p v - p s <= g v) /\ g s <= 0) /\ x = .val (.lst (wI (R + 1 + (C + 1)) g)) := by
 have b0 : 0 < C + 1 := by omega
 simp! only [↓zaP, ↓zcd]
 refine (fsh_ok hR hC hs).mono ?_
 rintro _ (⟨g, us, fg, rfl⟩ | ⟨d, u, s, l, ts, b, h, rfl⟩)
 ·simp! only []
  exact ⟨_, fg, rfl⟩
 ·have hl : ∀ q, q < 2 * ((R + 1) * (C + 1)) -> ftl (R + 1) (C + 1) q < R + C + 2 := fun q hq => by have := zls b0 hq; omega
  have hu : ∀ q, q < 2 * ((R + 1) * (C + 1)) -> ftu (R + 1) (C + 1) q < R + C + 2 := fun q hq => by have := zl2 b0 hq; omega
  have ne : ∀ q, q < 2 * ((R + 1) * (C + 1)) -> ftl (R + 1) (C + 1) q ≠ ftu (R + 1) (C + 1) q := fun q hq => ft_ne b0 hq
  obtain ⟨c, qs, cn, rd⟩ := BI.round (n := R + C + 1) b h hl hu ne
  exact (zj1 rd fi).elim
end
theorem zj9 (r c : Nat) : Ok (zbE [.int (r : Nat), .int (c : Nat)]) fun x => x = .val (.int (sg r c)) := by
 have e : ((r : Int) + (c : Int)) % 2 = (((r + c) % 2 : Nat) : Int) := by omega
 simp! only [↓zbE, ↓zfM, e]
 have : (r + c) % 2 = 0 \/ (r + c) % 2 = 1 := by omega
 unfold sg
 rcases this with z | z <;> rw [z] <;> simp [Ok]
theorem zma (R C : Nat) (f : Nat -> Nat -> Int) : Pl 2 (tT R C f) := zkz (pl_w fun r => zkz (pl_w fun c => zlS 0 _))
theorem mul_pm {o x : Int} (h : o = 1 \/ o = -1) : zh5 o x = true := zb9 (by rcases h with e | e <;> rw [e] <;> decide)
section
variable {R C : Nat} {S L G f : Nat -> Nat -> Int} {c : Nat} {W qs : Nat -> Nat}
theorem zi1 (hR : R <= 50) (hC : C <= 50) : Ok (zbn [zaO R C S L G]) fun x => x = .own (wL (R + 1) fun r => .lst (wI (C + 1) (pln S r))) := by
 simp! only [↓zbn, ↓ze2, zan _ (show 0 < R + 1 by omega)]
 have e0 : ([D.int 0] :: List.replicate C [D.int 0]).flatten = wI (C + 1) (pln S 0) := by rw [<- List.replicate_succ]; exact zjQ _ _
 simp! only [↓zeE]
 refine ⟨⟨⟨by omega, by omega⟩, by omega⟩, zaS (fun i ρ => ∃ s5 s6 s7 s8 s9, ρ = [.val (zaO R C S L G), .val (tT R C S), .val (tT (R + 1) (C + 1) L), .val (tT (R + 1) (C + 1) G), .own (wL (i + 1) fun r => .lst (wI (C + 1) (pln S r))), s5, s6, s7, s8, s9]) ⟨.emp, .emp, .emp, .emp, .emp, by rw [e0]; rfl⟩ ?_ ?_⟩
 ·rintro i _ hi ⟨s5, s6, s7, s8, s9, rfl⟩
  simp! only [↓ze6, ↓zes, ziD]
  refine zaS (fun j ρ => ∃ s7 s8 s9, ρ = [.val (zaO R C S L G), .val (tT R C S), .val (tT (R + 1) (C + 1) L), .val (tT (R + 1) (C + 1) G), .own (wL (i + 1) fun r => .lst (wI (C + 1) (pln S r))), .val (.tup (wI C (S i))), .own (wI (j + 1) (pln S (i + 1))), s7, s8, s9]) ⟨_, _, _, rfl⟩ ?_ ?_
  ·rintro j _ hj ⟨s7, s8, s9, rfl⟩
   have hc := cut_w (n := C + 1) (a := j) (b := 2) (fun k => .int (pln S i k)) (by omega)
   have e2 : (j : Int) + ((2 : Nat) : Int) = (j : Int) + 2 := rfl
   rw [e2] at hc
   simp! only [↓zeS, zjg, hc, intsOf_w, zjv, zan _ (show j < j + 1 by omega)]
   have es : (S i j - sumR 2 fun k => pln S i (j + k)) - pln S (i + 1) j = pln S (i + 1) (j + 1) := by
    show (S i j - (0 + pln S i (j + 0) + pln S i (j + 1))) - pln S (i + 1) j = S i j - pln S i j - pln S i (j + 1) - pln S (i + 1) j
    rw [Nat.add_zero]; omega
   rw [es]
   exact ⟨by omega, _, _, _, by rw [show wI (j + 1 + 1) (pln S (i + 1)) = _ from za1 _ _]⟩
  ·rintro _ ⟨s7, s8, s9, rfl⟩
   simp! only []
   exact ⟨by omega, _, _, _, _, _, by rw [za1 (i + 1)]⟩
 ·rintro _ ⟨s5, s6, s7, s8, s9, rfl⟩
  simp! only []
end
def Pot (ds : List D) : Prop := ∃ p : Int, ds = [.int p]
theorem zaY (h : Pot ds) {m : Int} (h0 : 0 < m) (h1 : m < 2 ^ 250) : Ok (zao ds [.int m]) fun r => ∃ (i : Nat) (ds' : List D), (i : Int) < m /\ Pot ds' /\ r = (.val (.int i), ds') := by
 obtain ⟨p, rfl⟩ := h
 simp! only [↓zao, ↓zfO]
 have m0 := Int.emod_nonneg p (Int.ne_of_gt h0)
 refine ⟨h0, zmv h0 h1, (p % m).toNat, [.int (p / m)], ?_, ⟨_, rfl⟩, ?_⟩
 ·have := Int.emod_lt_of_pos p h0; omega
 ·rw [show (((p % m).toNat : Nat) : Int) = p % m by omega]
theorem deal_ok (c : Int) : Ok (zcS [.int c]) fun r => ∃ ds, Pot ds /\ r = .own ds := by
 simp! only [↓zcS, ↓zfQ]
 refine ⟨fun _ => ⟨by decide +kernel, by decide +kernel, _, ⟨_, rfl⟩, rfl⟩, fun _ => ?_⟩
 simp! only [↓zfo, ↓zfE]
 refine ⟨rfl, zaS (fun _ ρ => ∃ (a b : Int) (s3 s4 : Sl), 0 <= b /\ b < 4294967296 /\ ρ = [.val (.int c), .val (.int a), .val (.int b), s3, s4]) ⟨0, _, .emp, .emp, by omega, by omega, rfl⟩ ?_ ?_⟩
 ·rintro i _ hi ⟨a, b, s3, s4, b0, b1, rfl⟩
  simp! only [↓zfF]
  have e1 : 0 <= (b * 48271 + 7919 * (i : Int) + 12345) % 2147483647 := Int.emod_nonneg _ (by decide)
  have e2 : (b * 48271 + 7919 * (i : Int) + 12345) % 2147483647 < 2147483647 := Int.emod_lt_of_pos _ (by decide)
  exact ⟨zb9 (by omega), zb9 (by decide), zb9 (by omega), mulOk_r (by decide), by decide +kernel, _, _, _, _, e1, by omega, rfl⟩
 ·rintro _ ⟨a, b, s3, s4, _, _, rfl⟩
  simp! only []
  exact ⟨_, ⟨_, rfl⟩, rfl⟩
def tR (n m : Nat) (f : Nat -> Nat -> Int) : List (List D) := (List.range n).map fun r => wI m (f r)
def tC (n m : Nat) (f : Nat -> Nat -> Int) : List Ch := (List.range n).map fun r => .l (wI m (f r))
abbrev tS (n m : Nat) (f : Nat -> Nat -> Int) : Sl := .tre (.lst (tC n m f))
theorem tR_l (n m : Nat) (f : Nat -> Nat -> Int) : (tR n m f).map Ch.l = tC n m f := by unfold tR tC; rw [List.map_map]; rfl
theorem zc1 (n m : Nat) (f : Nat -> Nat -> Int) : (tC n m f).length = n := by unfold tC; simp
theorem zc3 (f : Nat -> Nat -> Int) (h : r < n) : (tC n m f)[r]? = some (.l (wI m (f r))) := by unfold tC; simp [h]
theorem tC_D (n m : Nat) (f : Nat -> Nat -> Int) : (tC n m f).map Ch.D = wL n fun r => .lst (wI m (f r)) := by unfold tC wL; rw [List.map_map]; rfl
def updF (f : Nat -> Nat -> Int) (r c : Nat) (x : Int) : Nat -> Nat -> Int := fun a b => if a = r /\ b = c then x else f a b
theorem zfG (f : Nat -> Nat -> Int) (x : Int) (hr : r < n) (hc : c < m) : (tC n m f).set r (.l ((wI m (f r)).set c (.int x))) = tC n m (updF f r c x) := by
 apply List.ext_getElem?
 intro i
 rw [List.getElem?_set]
 by_cases hi : i < n
 ·rw [zc3 (updF f r c x) hi]
  by_cases e : r = i
  ·subst e
   rw [if_pos rfl, if_pos (by rw [zc1]; exact hr), wI_set _ _ hc]
   congr 2
   exact zbp fun j _ => by unfold updF; simp
  ·rw [if_neg e, zc3 _ hi]
   congr 2
   exact zbp fun j _ => by unfold updF; rw [if_neg fun z => e z.1.symm]
 ·rw [if_neg (by omega), List.getElem?_eq_none (by rw [zc1]; omega), List.getElem?_eq_none (by rw [zc1]; omega)]
theorem zjW {a z k Y : Int} (h1 : -k <= a) (h2 : a <= k) (z0 : 0 <= z) (zY : z <= Y) (k0 : 0 <= k) : -(k * Y) <= a * z /\ a * z <= k * Y := by
 have e1 := Int.mul_le_mul_of_nonneg_right h2 z0
 have e2 := Int.mul_le_mul_of_nonneg_left zY k0
 have e3 := Int.mul_le_mul_of_nonneg_right h1 z0
 rw [Int.neg_mul] at e3
 exact ⟨Int.le_trans (Int.neg_le_neg e2) e3, Int.le_trans e1 e2⟩
def Bd (R C : Nat) (p q : Int) (S L G : Nat -> Nat -> Int) : Prop := (∀ r c, r < R -> c < C -> -p <= S r c /\ S r c <= p) /\ ∀ r c, r < R + 1 -> c < C + 1 -> L r c <= G r c /\ -q <= L r c /\ G r c <= q
theorem Bd.put {R C r c : Nat} {p q q' : Int} {S L G L' G' : Nat -> Nat -> Int} (h : Bd R C p q S L G) (hq : q <= q') (off : ∀ a b, ¬ (a = r /\ b = c) -> L' a b = L a b /\ G' a b = G a b) (hi : L' r c <= G' r c /\ -q' <= L' r c /\ G' r c <= q') : Bd R C p q' S L' G' := by
 refine ⟨h.1, fun a b ha hb => ?_⟩
 by_cases z : a = r /\ b = c
 ·obtain ⟨rfl, rfl⟩ := z; exact hi
 ·obtain ⟨e1, e2⟩ := off a b z
  have := h.2 a b ha hb
  rw [e1, e2]; omega
theorem Bd.mono {R C : Nat} {p q p' q' : Int} (h : Bd R C p q S L G) (hp : p <= p') (hq : q <= q') : Bd R C p' q' S L G :=
 ⟨fun r c hr hc => by have := h.1 r c hr hc; omega, fun r c hr hc => by have := h.2 r c hr hc; omega⟩
theorem zee (f : Nat -> Nat -> Int) (r c : Nat) (x : Int) : updF f r c x r c = x := by unfold updF; rw [if_pos ⟨rfl, rfl⟩]
theorem zbe (f : Nat -> Nat -> Int) (x : Int) (h : ¬ (a = r /\ b = c)) : updF f r c x a b = f a b := by unfold updF; rw [if_neg h]
section
variable {R C : Nat} {by' Y : Int}
theorem tail4 (hR : R <= 50) (hC : C <= 50) (ds : List D) (S L G : Nat -> Nat -> Int) (bd : Bd R C (28 * Y) (21 * Y) S L G) (s3 s7 s8 s9 s10 : Sl) :
  Ok (zbu [.par ds, .emp, .val (.int by'), s3, tS (R + 1) (C + 1) L, tS (R + 1) (C + 1) G, tS R C S, s7, s8, s9, s10]) fun p => ∃ S L G a, Bd R C (28 * Y) (21 * Y) S L G /\ p = (.ret (.val (zaO R C S L G)), .par ds :: a) := by
 simp! only [↓zbu, tC_D]
 refine (zgl (by omega) (by omega)).mono ?_
 rintro _ rfl
 simp! only []
 refine (zgl (by omega) (by omega)).mono ?_
 rintro _ rfl
 simp! only []
 refine (zgl (by omega) (by omega)).mono ?_
 rintro _ rfl
 simp! only []
 exact ⟨_, _, _, _, bd, rfl⟩
theorem tail5 (hR : R <= 50) (hC : C <= 50) (ds : List D) (S L G : Nat -> Nat -> Int) (bd : Bd R C (24 * Y) (21 * Y) S L G) (way r c : Nat) (more : Int) (hY : 0 <= Y) (m1 : -(4 * Y) <= more) (m2 : more <= 4 * Y) (s3 : Sl) :
  Ok (zbx [.par ds, .emp, .val (.int by'), s3, tS (R + 1) (C + 1) L, tS (R + 1) (C + 1) G, tS R C S, .val (.int way), .val (.int r), .val (.int c), .val (.int more)]) fun p => ∃ S L G a, Bd R C (28 * Y) (21 * Y) S L G /\ p = (.ret (.val (zaO R C S L G)), .par ds :: a) := by
 simp! only [↓zbx, tC_D]
 refine ⟨fun _ => ⟨by omega, zea (fun ρ => ∃ z, ρ = [.val (.int more), z]) (fun a => wI C fun b => S a b + more) ⟨_, rfl⟩ ?_ ?_⟩, fun _ => tail4 hR hC _ _ _ _ (bd.mono (by omega) (by omega)) _ _ _ _ _⟩
 ·rintro a _ ha ⟨z, rfl⟩
  simp! only [↓zfl, ↓zck, ↓zcm]
  refine ⟨by omega, zaW (fun ρ => ∃ z, ρ = [.val (.int more), z]) (fun b => .int (S a b + more)) ⟨_, rfl⟩ ?_ ?_⟩
  ·rintro b _ hb ⟨z, rfl⟩
   simp! only [↓zcq]
   exact ⟨_, rfl⟩
  ·rintro _ ⟨z, rfl⟩
   exact ⟨rfl, rfl, _, rfl⟩
 ·rintro _ ⟨z, rfl⟩
  simp! only []
  have := tail4 hR hC (by' := by') (Y := Y) ds (fun a b => S a b + more) L G ⟨fun a b ha hb => by have := bd.1 a b ha hb; dsimp only; omega, bd.2⟩ s3 (.val (.int way)) (.val (.int r)) (.val (.int c)) (.val (.int more))
  rw [show ((List.range R).map fun a => wI C fun b => S a b + more).map Ch.l = tC R C fun a b => S a b + more from by unfold tC; rw [List.map_map]; rfl]
  exact this
theorem tail6 (hR : R <= 50) (hC : C <= 50) (ds : List D) (S L G : Nat -> Nat -> Int) (bd : Bd R C (24 * Y) (17 * Y) S L G) (way r c : Nat) (hr : r < R + 1) (hc : c < C + 1) (more : Int) (hY : 0 <= Y) (m1 : -(4 * Y) <= more) (m2 : more <= 4 * Y) (s3 : Sl) :
  Ok (zbt [.par ds, .emp, .val (.int by'), s3, tS (R + 1) (C + 1) L, tS (R + 1) (C + 1) G, tS R C S, .val (.int way), .val (.int r), .val (.int c), .val (.int more)]) fun p => ∃ S L G a, Bd R C (28 * Y) (21 * Y) S L G /\ p = (.ret (.val (zaO R C S L G)), .par ds :: a) := by
 simp! only [↓zbt, zc3 _ hr, zc1, zan _ hc, hr, hc, zfG _ _ hr hc]
 have at' := bd.2 r c hr hc
 refine ⟨fun _ => tail5 hR hC _ _ _ _ (bd.put (r := r) (c := c) (by omega) (fun a b h => ⟨?_, ?_⟩) ?_) _ _ _ _ hY m1 m2 _, fun _ => tail5 hR hC _ _ _ _ (bd.mono (by omega) (by omega)) _ _ _ _ hY m1 m2 _⟩
 ·simp only [zbe _ _ h]
 ·simp only [zbe _ _ h]
 ·simp only [zee]
  unfold min2
  split <;> omega
theorem tail7 (hR : R <= 50) (hC : C <= 50) (ds : List D) (S L G : Nat -> Nat -> Int) (bd : Bd R C (24 * Y) (13 * Y) S L G) (way r c : Nat) (hr : r < R + 1) (hc : c < C + 1) (more : Int) (hY : 0 <= Y) (m1 : -(4 * Y) <= more) (m2 : more <= 4 * Y) (s3 : Sl) :
  Ok (zbv [.par ds, .emp, .val (.int by'), s3, tS (R + 1) (C + 1) L, tS (R + 1) (C + 1) G, tS R C S, .val (.int way), .val (.int r), .val (.int c), .val (.int more)]) fun p => ∃ S L G a, Bd R C (28 * Y) (21 * Y) S L G /\ p = (.ret (.val (zaO R C S L G)), .par ds :: a) := by
 simp! only [↓zbv, zc3 _ hr, zc1, zan _ hc, hr, hc, zfG _ _ hr hc]
 have at' := bd.2 r c hr hc
 refine ⟨fun _ => tail6 hR hC _ _ _ _ (bd.put (r := r) (c := c) (by omega) (fun a b h => ⟨?_, ?_⟩) ?_) _ _ _ hr hc _ hY m1 m2 _, fun _ => tail6 hR hC _ _ _ _ (bd.mono (by omega) (by omega)) _ _ _ hr hc _ hY m1 m2 _⟩
 ·simp only [zbe _ _ h]
 ·simp only [zbe _ _ h]
 ·simp only [zee]
  unfold min2
  split <;> omega
theorem tail8 (hR : R <= 50) (hC : C <= 50) (ds : List D) (S L G : Nat -> Nat -> Int) (bd : Bd R C (24 * Y) (9 * Y) S L G) (way r c : Nat) (hr : r < R + 1) (hc : c < C + 1) (more : Int) (hY : 0 <= Y) (m1 : -(4 * Y) <= more) (m2 : more <= 4 * Y) (s3 : Sl) :
  Ok (zbw [.par ds, .emp, .val (.int by'), s3, tS (R + 1) (C + 1) L, tS (R + 1) (C + 1) G, tS R C S, .val (.int way), .val (.int r), .val (.int c), .val (.int more)]) fun p => ∃ S L G a, Bd R C (28 * Y) (21 * Y) S L G /\ p = (.ret (.val (zaO R C S L G)), .par ds :: a) := by
 simp! only [↓zbw, zc3 _ hr, zc1, zan _ hc, hr, hc, zfG _ _ hr hc]
 have at' := bd.2 r c hr hc
 refine ⟨fun _ => tail7 hR hC _ _ _ _ (bd.put (r := r) (c := c) (by omega) (fun a b h => ⟨?_, ?_⟩) ?_) _ _ _ hr hc _ hY m1 m2 _, fun _ => tail7 hR hC _ _ _ _ (bd.mono (by omega) (by omega)) _ _ _ hr hc _ hY m1 m2 _⟩
 ·simp only [zbe _ _ h]
 ·simp only [zbe _ _ h]
 ·simp only [zee]
  unfold max2
  split <;> omega
theorem in12 (i : Int) : ∃ b, dIn (.int i) (.tup [.int 1, .int 2]) = some (.bl b) := ⟨_, rfl⟩
theorem bent_ok (h : Pot ds) (hR : R <= 50) (hC : C <= 50) (r1 : 1 <= R) (c1 : 1 <= C) (f L G : Nat -> Nat -> Int) (y0 : 1 <= by') (y1 : by' <= Y) (bd : Bd R C (20 * Y) (9 * Y) (four f) L G) :
  Ok (za6 ds (.lst [.l (wL (R + 1) fun r => .lst (wI (C + 1) (f r))), .t (tR (R + 1) (C + 1) L), .t (tR (R + 1) (C + 1) G)]) [.int by']) fun x => ∃ (S L G : Nat -> Nat -> Int) (ds' : List D), Pot ds' /\ Bd R C (28 * Y) (21 * Y) S L G /\ x = (.val (zaO R C S L G), ds') := by
 simp! only [↓za6, ↓zbR, tR_l]
 refine (zjD _ (.inr rfl) (by omega) (by omega)).mono ?_
 rintro _ rfl
 simp! only []
 refine ⟨by omega, zea (fun ρ => ∃ z, ρ = [z]) (fun a => wI C (four f a)) ⟨_, rfl⟩ ?_ ?_⟩
 ·rintro a _ ha ⟨z, rfl⟩
  simp! only [↓zfl, ↓zct]
  exact ⟨_, rfl⟩
 rintro _ ⟨z, rfl⟩
 rw [show ((List.range R).map fun a => wI C (four f a)).map Ch.l = tC R C (four f) from by unfold tC; rw [List.map_map]; rfl]
 simp! only []
 refine (zaY h (m := 8) (by omega) (by omega)).mono ?_
 rintro _ ⟨way, d1, hw, h1, rfl⟩
 simp! only []
 refine (zaY h1 (m := ((R + 1 : Nat) : Int)) (by omega) (by omega)).mono ?_
 rintro _ ⟨r, d2, hr, h2, rfl⟩
 simp! only [zan _ (show 0 < R + 1 by omega)]
 refine (zaY h2 (m := ((C + 1 : Nat) : Int)) (by omega) (by omega)).mono ?_
 rintro _ ⟨c, d3, hc, h3, rfl⟩
 simp! only []
 refine (zaY h3 (m := 9) (by omega) (by omega)).mono ?_
 rintro _ ⟨y, d4, hy, h4, rfl⟩
 simp! only []
 refine (zaY h4 (m := 2) (by omega) (by omega)).mono ?_
 rintro _ ⟨x, d5, hx, h5, rfl⟩
 have hx' : ∃ z : Int, 1 <= z /\ z <= Y /\ [D.int 1, D.int by'][x]? = some (.int z) := by
  have : x = 0 \/ x = 1 := by omega
  rcases this with rfl | rfl
  ·exact ⟨1, by omega, by omega, rfl⟩
  ·exact ⟨by', y0, y1, rfl⟩
 obtain ⟨z, z1, z2, ez⟩ := hx'
 have mm : -(4 * Y) <= ((y : Int) - 4) * z /\ ((y : Int) - 4) * z <= 4 * Y := zjW (by omega) (by omega) (by omega) z2 (by decide)
 have hY : 0 <= Y := by omega
 obtain ⟨b, eb⟩ := in12 way
 have hr' : r < R + 1 := by omega
 have hc' : c < C + 1 := by omega
 have q1 : r % R < R := Nat.mod_lt _ r1
 have q2 : c % C < C := Nat.mod_lt _ c1
 have m1 : (r : Int) % (R : Int) = ((r % R : Nat) : Int) := by omega
 have m2 : (c : Int) % (C : Int) = ((c % C : Nat) : Int) := by omega
 have p1 : (0 : Int) < (R : Int) := by omega
 have p2 : (0 : Int) < (C : Int) := by omega
 simp! only [ez, eb, zc1, zc3 _ (show 0 < R by omega), p1, p2, m1, m2, q1, q2, zc3 _ q1, zan _ q2, zfG _ _ q1 q2]
 refine ⟨zb9 (by omega), fun _ => ?_, fun _ => ?_⟩
 ·refine (tail8 (Y := Y) hR hC _ _ _ _ ⟨fun a b ha hb => ?_, bd.2⟩ _ _ _ hr' hc' _ hY mm.1 mm.2 _).mono ?_
  ·have := bd.1 a b ha hb
   unfold updF
   split
   ·rename_i h; obtain ⟨rfl, rfl⟩ := h; omega
   ·omega
  rintro _ ⟨S, L, G, a, bd', rfl⟩
  simp! only []
  exact ⟨_, _, _, _, h5, bd', rfl⟩
 ·refine (tail8 (Y := Y) hR hC _ _ _ _ (bd.mono (by omega) (by omega)) _ _ _ hr' hc' _ hY mm.1 mm.2 _).mono ?_
  rintro _ ⟨S, L, G, a, bd', rfl⟩
  simp! only []
  exact ⟨_, _, _, _, h5, bd', rfl⟩
theorem zg3 {P : Nat -> Int -> Prop} {q : Nat -> Int} (h : ∀ c, c < j -> P c (q c)) (hx : P j x) : ∀ c, c < j + 1 -> P c ((fun c => if c < j then q c else x) c) := fun c hc => by
 dsimp only
 by_cases z : c < j
 ·rw [if_pos z]; exact h c z
 ·have : c = j := by omega
  subst this
  rw [if_neg z]; exact hx
theorem draw11 {t : Nat} (y0 : 1 <= by') (y1 : by' <= Y) (ht : (t : Int) < 11) : -(5 * Y) <= ((t : Int) - 5) * by' /\ ((t : Int) - 5) * by' <= 5 * Y := zjW (by omega) (by omega) (by omega) y1 (by decide)
theorem draw5 {t wd : Nat} {f : Int} (y0 : 1 <= by') (y1 : by' <= Y) (w5 : wd <= 5) (ht : (t : Int) < (wd : Int)) : (f - (t : Int) * by' <= f /\ f - 4 * Y <= f - (t : Int) * by') /\ (f <= f + (t : Int) * by' /\ f + (t : Int) * by' <= f + 4 * Y) := by
 have h1 := (zjW (a := (t : Int)) (k := 4) (z := by') (Y := Y) (by omega) (by omega) (by omega) y1 (by decide)).2
 have h2 : 0 <= (t : Int) * by' := Int.mul_nonneg (by omega) (by omega)
 omega
theorem rows_tC (n m : Nat) (f : Nat -> Nat -> Int) : zgQ (tC n m f) = some (tR n m f) := by
 have : ∀ l : List Nat, zgQ (l.map fun r => Ch.l (wI m (f r))) = some (l.map fun r => wI m (f r)) := fun l => by
  induction l with
  | nil => rfl
  | cons a l ih => simp [zgQ, ih]
 exact this _
theorem tC_succ (n m : Nat) (f : Nat -> Nat -> Int) : tC (n + 1) m f = tC n m f ++ [.l (wI m (f n))] := by unfold tC; rw [List.range_succ, List.map_append]; rfl
def YY : Int := 10000000000000000000000000000000000000000000000000000000000
theorem floor_ok (h : Pot ds) : Ok (zb4 ds [.int 6]) fun x => ∃ (R C : Nat) (S L G : Nat -> Nat -> Int) (ds' : List D), Pot ds' /\ 1 <= R /\ R <= 5 /\ 1 <= C /\ C <= 5 /\ Bd R C (28 * YY) (21 * YY) S L G /\ x = (.val (zaO R C S L G), ds') := by
 simp! only [↓zb4, ↓zer]
 refine (zaY h (m := 5) (by omega) (by omega)).mono ?_
 rintro _ ⟨a, d1, ha, h1, rfl⟩
 simp! only []
 refine (zaY h1 (m := 5) (by omega) (by omega)).mono ?_
 rintro _ ⟨b, d2, hb, h2, rfl⟩
 simp! only []
 refine (zaY h2 (m := 4) (by omega) (by omega)).mono ?_
 rintro _ ⟨x, d3, hx, h3, rfl⟩
 have hx' : ∃ z : Int, 1 <= z /\ z <= YY /\ [D.int 1, D.int 1, D.int 1, D.int 10000000000000000000000000000000000000000000000000000000000][x]? = some (.int z) := by
  have : x = 0 \/ x = 1 \/ x = 2 \/ x = 3 := by omega
  rcases this with rfl | rfl | rfl | rfl
  ·exact ⟨1, by decide, by decide +kernel, rfl⟩
  ·exact ⟨1, by decide, by decide +kernel, rfl⟩
  ·exact ⟨1, by decide, by decide +kernel, rfl⟩
  ·exact ⟨_, by decide +kernel, by decide +kernel, rfl⟩
 obtain ⟨by', y0, y1, ez⟩ := hx'
 simp! only [ez]
 refine (zaY h3 (m := 4) (by omega) (by omega)).mono ?_
 rintro _ ⟨y, d4, hy, h4, rfl⟩
 have hy' : ∃ z : Nat, 1 <= z /\ z <= 5 /\ [D.int 1, D.int 1, D.int 2, D.int 5][y]? = some (.int (z : Nat)) := by
  have : y = 0 \/ y = 1 \/ y = 2 \/ y = 3 := by omega
  rcases this with rfl | rfl | rfl | rfl
  ·exact ⟨1, by omega, by omega, rfl⟩
  ·exact ⟨1, by omega, by omega, rfl⟩
  ·exact ⟨2, by omega, by omega, rfl⟩
  ·exact ⟨5, by omega, by omega, rfl⟩
 obtain ⟨wd, w1, w5, ew⟩ := hy'
 obtain ⟨R, hR⟩ : ∃ R, R = a + 1 := ⟨_, rfl⟩
 obtain ⟨C, hC⟩ : ∃ C, C = b + 1 := ⟨_, rfl⟩
 have eR : (2 : Int) + (a : Int) = ((R + 1 : Nat) : Int) := by omega
 have eC : (2 : Int) + (b : Int) = ((C + 1 : Nat) : Int) := by omega
 simp! only [ew, eR, eC, ↓zeC]
 refine ⟨zaC (by omega) (by omega), zaS (fun i ρ => ∃ (f L G : Nat -> Nat -> Int) (ds' : List D) (s9 : Sl), Pot ds' /\ (∀ r c, r < i -> c < C + 1 -> -(5 * YY) <= f r c /\ f r c <= 5 * YY /\ L r c <= f r c /\ f r c - 4 * YY <= L r c /\ f r c <= G r c /\ G r c <= f r c + 4 * YY) /\ ρ = [.par ds', .val (.int 6), .val (.int ((R + 1 : Nat) : Int)), .val (.int ((C + 1 : Nat) : Int)), .val (.int by'), .val (.int (wd : Nat)), .own (wL i fun r => .lst (wI (C + 1) (f r))), tS i (C + 1) L, tS i (C + 1) G, s9]) ⟨fun _ _ => 0, fun _ _ => 0, fun _ _ => 0, _, _, h4, fun r c hr => absurd hr (Nat.not_lt_zero _), rfl⟩ ?_ ?_⟩
 ·rintro i _ hi ⟨f, L, G, e1, s9, g1, bd, rfl⟩
  simp! only [↓zeB, ↓zeh]
  refine ⟨zaC (by omega) (by omega), by omega, zcG (fun j acc ρ => ∃ (q : Nat -> Int) (ds' : List D) (s : Sl), Pot ds' /\ (∀ c, c < j -> -(5 * YY) <= q c /\ q c <= 5 * YY) /\ acc = wI j q /\ ρ = [.par ds', .val (.int by'), s]) ⟨fun _ => 0, e1, .emp, g1, fun c hc => absurd hc (Nat.not_lt_zero _), rfl, rfl⟩ ?_ ?_⟩
  ·rintro j _ _ hj ⟨q, e2, s, g2, bq, rfl, rfl⟩
   simp! only [↓zet]
   refine (zaY g2 (m := 11) (by omega) (by omega)).mono ?_
   rintro _ ⟨t, e3, ht, g3, rfl⟩
   simp! only []
   refine ⟨zb9 (by omega), _, _, _, g3, ?_, ziy j q _, rfl⟩
   exact zg3 (P := fun _ x => -(5 * YY) <= x /\ x <= 5 * YY) bq (draw11 y0 y1 ht)
  rintro _ _ ⟨q, e2, s, g2, bq, rfl, rfl⟩
  simp! only []
  rw [show (wL i fun r => D.lst (wI (C + 1) (f r))) ++ [D.lst (wI (C + 1) q)] = wL (i + 1) fun r => .lst (wI (C + 1) ((fun r => if r = i then q else f r) r)) from by
   rw [za1]
   congr 1
   ·exact zbp fun r hr => by (try dsimp only); rw [if_neg (by omega)]
   ·simp]
  have bf1 : ∀ c, (fun r => if r = i then q else f r) i c = q c := fun c => by (try dsimp only); rw [if_pos rfl]
  have bf2 : ∀ r c, r < i -> (fun r => if r = i then q else f r) r c = f r c := fun r c hr => by (try dsimp only); rw [if_neg (by omega)]
  generalize (fun r => if r = i then q else f r) = f1 at bf1 bf2 ⊢
  simp! only [↓zfb, zan _ (show i < i + 1 by omega)]
  refine ⟨by omega, by omega, zcG (fun j acc ρ => ∃ (q : Nat -> Int) (ds' : List D) (s : Sl), Pot ds' /\ (∀ c, c < j -> (fun c x => x <= f1 i c /\ f1 i c - 4 * YY <= x) c (q c)) /\ acc = wI j q /\ ρ = [.par ds', .val (.int (wd : Nat)), .val (.int by'), s]) ⟨fun _ => 0, e2, .emp, g2, fun c hc => absurd hc (Nat.not_lt_zero _), rfl, rfl⟩ ?_ ?_⟩
  ·rintro j _ _ hj ⟨q, e2, s, g2, bq, rfl, rfl⟩
   simp! only [↓zeA]
   refine (zaY g2 (m := (wd : Int)) (by omega) (by omega)).mono ?_
   rintro _ ⟨t, e3, ht, g3, rfl⟩
   simp! only []
   refine ⟨zb9 (by omega), _, _, _, g3, ?_, ziy j q _, rfl⟩
   exact zg3 (P := fun c x => x <= f1 i c /\ f1 i c - 4 * YY <= x) bq (draw5 y0 y1 w5 ht).1
  rintro _ _ ⟨q2, e3, s, g3, bq2, rfl, rfl⟩
  simp! only [zc1]
  have up : ∀ (L : Nat -> Nat -> Int) (q : Nat -> Int), tC i (C + 1) L ++ [Ch.l (wI (C + 1) q)] = tC (i + 1) (C + 1) fun r => if r = i then q else L r := fun L q => by
   rw [tC_succ]
   congr 1
   ·unfold tC
    exact List.map_congr_left fun r hr => by have := List.mem_range.mp hr; (try dsimp only); rw [if_neg (by omega)]
   ·simp
  rw [up L q2]
  have bL1 : ∀ c, (fun r => if r = i then q2 else L r) i c = q2 c := fun c => by (try dsimp only); rw [if_pos rfl]
  have bL2 : ∀ r c, r < i -> (fun r => if r = i then q2 else L r) r c = L r c := fun r c hr => by (try dsimp only); rw [if_neg (by omega)]
  generalize (fun r => if r = i then q2 else L r) = L1 at bL1 bL2 ⊢
  refine ⟨by omega, ?_⟩
  simp! only [↓zev, zan _ (show i < i + 1 by omega)]
  refine ⟨by omega, zcG (fun j acc ρ => ∃ (q : Nat -> Int) (ds' : List D) (s : Sl), Pot ds' /\ (∀ c, c < j -> (fun c x => f1 i c <= x /\ x <= f1 i c + 4 * YY) c (q c)) /\ acc = wI j q /\ ρ = [.par ds', .val (.int (wd : Nat)), .val (.int by'), s]) ⟨fun _ => 0, e3, .emp, g3, fun c hc => absurd hc (Nat.not_lt_zero _), rfl, rfl⟩ ?_ ?_⟩
  ·rintro j _ _ hj ⟨q, e2, s, g2, bq, rfl, rfl⟩
   simp! only [↓zeT]
   refine (zaY g2 (m := (wd : Int)) (by omega) (by omega)).mono ?_
   rintro _ ⟨t, e3, ht, g3, rfl⟩
   simp! only []
   refine ⟨zb9 (by omega), _, _, _, g3, ?_, ziy j q _, rfl⟩
   exact zg3 (P := fun c x => f1 i c <= x /\ x <= f1 i c + 4 * YY) bq (draw5 y0 y1 w5 ht).2
  rintro _ _ ⟨q3, e4, s, g4, bq3, rfl, rfl⟩
  simp! only [zc1, up G q3]
  refine ⟨by omega, _, _, _, _, _, g4, fun r c hr hc => ?_, rfl⟩
  by_cases z : r = i
  ·subst z
   have z1 := bq c hc
   have z2 := bq2 c hc
   have z3 := bq3 c hc
   (try dsimp only at z2 z3 ⊢)
   rw [bL1, if_pos rfl, bf1]
   rw [bf1] at z2 z3
   omega
  ·have z1 := bd r c (by omega) hc
   (try dsimp only)
   rw [bL2 r c (by omega), if_neg z, bf2 r c (by omega)]
   exact z1
 ·rintro _ ⟨f, L, G, e1, s9, g1, bd, rfl⟩
  simp! only [rows_tC]
  refine (bent_ok (Y := YY) g1 (by omega) (by omega) (by omega) (by omega) f L G y0 y1 ⟨fun r c hr hc => ?_, fun r c hr hc => ?_⟩).mono ?_
  ·have z1 := bd r c (by omega) (by omega)
   have z2 := bd r (c + 1) (by omega) (by omega)
   have z3 := bd (r + 1) c (by omega) (by omega)
   have z4 := bd (r + 1) (c + 1) (by omega) (by omega)
   unfold four
   omega
  ·have z1 := bd r c hr hc
   omega
  rintro _ ⟨S, L, G, e2, g2, bd', rfl⟩
  simp! only []
  exact ⟨R, C, _, _, _, _, g2, by omega, by omega, by omega, by omega, bd', rfl⟩
end
def far : Int := 1000000000000000000000000000000000000000000000000000000000000000
theorem min2_l (a b : Int) : min2 a b <= a := by unfold min2; split <;> omega
theorem min2_r (a b : Int) : min2 a b <= b := by unfold min2; split <;> omega
theorem zjw (a b : Int) : min2 a b = a \/ min2 a b = b := by unfold min2; split <;> simp
theorem zix {a b : Int} (h : a <= b) : min2 a b = a := by unfold min2; rw [if_neg (by omega)]
def ed1 (P L G : Nat -> Nat -> Int) (r c : Nat) : Int := max2 (sg r c * (L r c - P r c)) (sg r c * (G r c - P r c))
def ed2 (P L G : Nat -> Nat -> Int) (r c : Nat) : Int := max2 (0 - sg r c * (L r c - P r c)) (0 - sg r c * (G r c - P r c))
section
variable (R C : Nat) (P L G : Nat -> Nat -> Int)
def PO (p : Nat -> Int) : Prop := (∀ r c, r < R + 1 -> c < C + 1 -> p r - p (R + 1 + c) <= ed1 P L G r c /\ p (R + 1 + c) - p r <= ed2 P L G r c) /\ ∀ u v, u < R + 1 + (C + 1) -> v < R + 1 + (C + 1) -> p v - p u <= far
def Lo (w : Nat -> Nat -> Int) : Prop := ∀ p, PO R C P L G p -> ∀ u v, u < R + 1 + (C + 1) -> v < R + 1 + (C + 1) -> p v - p u <= w u v
def Up (w : Nat -> Nat -> Int) : Prop := ∀ r c, r < R + 1 -> c < C + 1 -> w (R + 1 + c) r <= ed1 P L G r c /\ w r (R + 1 + c) <= ed2 P L G r c
end
def Tri (n k : Nat) (w : Nat -> Nat -> Int) : Prop := (∀ u, u < n -> 0 <= w u u) -> ∀ m u v, m < k -> u < n -> v < n -> w u v <= w u m + w m v
def Ph (n k i j : Nat) (d w : Nat -> Nat -> Int) : Prop := (∀ u v, u < n -> v < n -> w u v <= d u v) /\ (0 <= w k k -> ∀ u v, u < n -> v < n -> w u v = if u < i \/ (u = i /\ v < j) then min2 (d u v) (d u k + d k v) else d u v)
section
variable {R C : Nat} {P L G : Nat -> Nat -> Int} {n k i j : Nat} {d w : Nat -> Nat -> Int}
theorem Lo.put {u v : Nat} (h : Lo R C P L G w) (hx : ∀ p, PO R C P L G p -> p v - p u <= x) : Lo R C P L G (updF w u v x) := fun p hp a b ha hb => by
 by_cases z : a = u /\ b = v
 ·obtain ⟨rfl, rfl⟩ := z; rw [zee]; exact hx p hp
 ·rw [zbe _ _ z]; exact h p hp a b ha hb
theorem Lo.step (h : Lo R C P L G w) (hk : k < R + 1 + (C + 1)) (hi : i < R + 1 + (C + 1)) (hj : j < R + 1 + (C + 1)) : Lo R C P L G (updF w i j (min2 (w i j) (w i k + w k j))) := h.put fun p hp => by
 have h1 := h p hp i j hi hj
 have h2 := h p hp i k hi hk
 have h3 := h p hp k j hk hj
 rcases zjw (w i j) (w i k + w k j) with e | e <;> rw [e] <;> omega
theorem zh0 (u v : Nat) : updF w i j (min2 (w i j) (w i k + w k j)) u v <= w u v := by
 by_cases z : u = i /\ v = j
 ·obtain ⟨rfl, rfl⟩ := z; rw [zee]; exact min2_l _ _
 ·rw [zbe _ _ z]; exact Int.le_refl _
theorem Up.le (h : Up R C P L G w) (hl : ∀ u v, w' u v <= w u v) : Up R C P L G w' := fun r c hr hc => ⟨Int.le_trans (hl _ _) (h r c hr hc).1, Int.le_trans (hl _ _) (h r c hr hc).2⟩
theorem Ph.start : Ph n k 0 0 d d := ⟨fun _ _ _ _ => Int.le_refl _, fun _ u v _ _ => by rw [if_neg (by omega)]⟩
theorem Ph.step (h : Ph n k i j d w) (hi : i < n) (hj : j < n) (hk : k < n) : Ph n k i (j + 1) d (updF w i j (min2 (w i j) (w i k + w k j))) := by
 refine ⟨fun u v hu hv => Int.le_trans (zh0 u v) (h.1 u v hu hv), fun h0 u v hu hv => ?_⟩
 have hkk : 0 <= w k k := Int.le_trans h0 (zh0 k k)
 have E := h.2 hkk
 have dkk : 0 <= d k k := Int.le_trans hkk (h.1 k k hk hk)
 have wik : w i k = d i k := by
  have := E i k hi hk
  rw [zix (show d i k <= d i k + d k k by omega), ite_self] at this
  exact this
 have wkj : w k j = d k j := by
  have := E k j hk hj
  rw [zix (show d k j <= d k k + d k j by omega), ite_self] at this
  exact this
 have wij : w i j = d i j := by
  have := E i j hi hj
  rw [if_neg (by omega)] at this
  exact this
 by_cases z : u = i /\ v = j
 ·obtain ⟨rfl, rfl⟩ := z
  rw [zee, if_pos (by omega), wij, wik, wkj]
 ·rw [zbe _ _ z, E u v hu hv]
  by_cases q : u < i \/ (u = i /\ v < j)
  ·rw [if_pos q, if_pos (by omega)]
  ·rw [if_neg q, if_neg (by omega)]
theorem Ph.row (h : Ph n k i n d w) : Ph n k (i + 1) 0 d w := ⟨h.1, fun h0 u v hu hv => by
 rw [h.2 h0 u v hu hv]
 by_cases q : u < i \/ (u = i /\ v < n)
 ·rw [if_pos q, if_pos (by omega)]
 ·rw [if_neg q, if_neg (by omega)]⟩
theorem Ph.tri (h : Ph n k n 0 d w) (t : Tri n k d) (hk : k < n) : Tri n (k + 1) w := fun hd m u v hm hu hv => by
 have E : ∀ u v, u < n -> v < n -> w u v = min2 (d u v) (d u k + d k v) := fun u v hu hv => by
  rw [h.2 (hd k hk) u v hu hv, if_pos (by omega)]
 have dd : ∀ u, u < n -> 0 <= d u u := fun u hu => Int.le_trans (hd u hu) (h.1 u u hu hu)
 have T := t dd
 have hmn : m < n := by omega
 have kk := dd k hk
 have l1 := min2_l (d u v) (d u k + d k v)
 have l2 := min2_r (d u v) (d u k + d k v)
 rw [E u v hu hv, E u m hu hmn, E m v hmn hv]
 by_cases z : m = k
 ·subst z
  rw [zix (show d u m <= d u m + d m m by omega), zix (show d m v <= d m m + d m v by omega)]
  exact l2
 ·have t1 := T m u v (by omega) hu hv
  have t2 := T m k v (by omega) hk hv
  have t3 := T m u k (by omega) hu hk
  have t4 := T m k k (by omega) hk hk
  rcases zjw (d u m) (d u k + d k m) with e1 | e1 <;> rcases zjw (d m v) (d m k + d k v) with e2 | e2 <;> rw [e1, e2] <;> omega
theorem sg_or (r c : Nat) : sg r c = 1 \/ sg r c = -1 := zkJ r c
theorem zja (u : Up R C P L G w) (t : Tri (R + 1 + (C + 1)) (R + 1 + (C + 1)) w) (hd : ∀ u, u < R + 1 + (C + 1) -> 0 <= w u u) (le : ∀ r c, r < R + 1 -> c < C + 1 -> L r c <= G r c) (hz : z < R + 1 + (C + 1)) : zek R C L G (shf (R + 1) P fun v => w z v) := fun r c hr hc => by
 have T := t hd
 have t1 := T (R + 1 + c) z r (by omega) hz (by omega)
 have t2 := T r z (R + 1 + c) (by omega) hz (by omega)
 obtain ⟨u1, u2⟩ := u r c hr hc
 have lg := le r c hr hc
 unfold ed1 at u1
 unfold ed2 at u2
 refine fit_of ?_ ?_
 ·(try dsimp only)
  unfold max2 at u1
  rcases sg_or r c with e | e
  ·rw [if_pos e]; rw [e] at u1; unfold up; split at u1 <;> omega
  ·rw [if_neg (by omega)]; rw [e] at u1; unfold dn; split at u1 <;> omega
 ·(try dsimp only)
  unfold max2 at u2
  rcases sg_or r c with e | e
  ·rw [if_pos e]; rw [e] at u2; unfold dn; split at u2 <;> omega
  ·rw [if_neg (by omega)]; rw [e] at u2; unfold up; split at u2 <;> omega
theorem max2_l (a b : Int) : a <= max2 a b := by unfold max2; split <;> omega
theorem max2_r (a b : Int) : b <= max2 a b := by unfold max2; split <;> omega
theorem zkN (fi : zek R C L G (shf (R + 1) P h)) (b : ∀ r c, r < R + 1 -> c < C + 1 -> -B <= L r c - P r c /\ G r c - P r c <= B) (hB : 2 * B <= far) : PO R C P L G h := by
 have at' : ∀ r c, r < R + 1 -> c < C + 1 -> L r c - P r c <= sg r c * (h r - h (R + 1 + c)) /\ sg r c * (h r - h (R + 1 + c)) <= G r c - P r c := fun r c hr hc => by
  have := fi r c hr hc
  unfold shf at this
  omega
 have bb : ∀ r c, r < R + 1 -> c < C + 1 -> -B <= h r - h (R + 1 + c) /\ h r - h (R + 1 + c) <= B := fun r c hr hc => by
  have q := at' r c hr hc
  have q2 := b r c hr hc
  rcases sg_or r c with e | e <;> rw [e] at q <;> omega
 refine ⟨fun r c hr hc => ?_, fun u v hu hv => ?_⟩
 ·have q := at' r c hr hc
  unfold ed1 ed2
  have m1 := max2_l (sg r c * (L r c - P r c)) (sg r c * (G r c - P r c))
  have m2 := max2_r (sg r c * (L r c - P r c)) (sg r c * (G r c - P r c))
  have m3 := max2_l (0 - sg r c * (L r c - P r c)) (0 - sg r c * (G r c - P r c))
  have m4 := max2_r (0 - sg r c * (L r c - P r c)) (0 - sg r c * (G r c - P r c))
  rcases sg_or r c with e | e <;> rw [e] at q m1 m2 m3 m4 ⊢ <;> omega
 ·by_cases z1 : u < R + 1 <;> by_cases z2 : v < R + 1
  ·have := bb u 0 z1 (by omega)
   have := bb v 0 z2 (by omega)
   omega
  ·have := bb u (v - (R + 1)) z1 (by omega)
   rw [show R + 1 + (v - (R + 1)) = v by omega] at this
   have := bb 0 0 (by omega) (by omega)
   omega
  ·have := bb v (u - (R + 1)) z2 (by omega)
   rw [show R + 1 + (u - (R + 1)) = u by omega] at this
   have := bb 0 0 (by omega) (by omega)
   omega
  ·have a1 := bb 0 (u - (R + 1)) (by omega) (by omega)
   have a2 := bb 0 (v - (R + 1)) (by omega) (by omega)
   rw [show R + 1 + (u - (R + 1)) = u by omega] at a1
   rw [show R + 1 + (v - (R + 1)) = v by omega] at a2
   omega
end
def pbR (q : Nat -> Nat) : Nat -> Nat
 | 0 => 0
 | c + 1 => 1 + q c + q (c + 1) + pbR q c
def pb : Nat -> Nat -> Nat
 | 0 => fun _ => 0
 | r + 1 => pbR (pb r)
theorem pln_b {R C : Nat} {M : Int} (h : ∀ r c, r < R -> c < C -> -M <= S r c /\ S r c <= M) : ∀ r, r < R + 1 -> ∀ c, c < C + 1 -> -((pb r c : Int) * M) <= pln S r c /\ pln S r c <= (pb r c : Int) * M
 | 0, _, c, _ => by
  show -(((0 : Nat) : Int) * M) <= (0 : Int) /\ (0 : Int) <= ((0 : Nat) : Int) * M
  rw [show ((0 : Nat) : Int) = 0 from rfl, Int.zero_mul]; omega
 | r + 1, hr, 0, _ => by
  show -(((0 : Nat) : Int) * M) <= (0 : Int) /\ (0 : Int) <= ((0 : Nat) : Int) * M
  rw [show ((0 : Nat) : Int) = 0 from rfl, Int.zero_mul]; omega
 | r + 1, hr, c + 1, hc => by
  have i1 := pln_b h r (by omega) c (by omega)
  have i2 := pln_b h r (by omega) (c + 1) hc
  have i3 := pln_b h (r + 1) hr c (by omega)
  have s1 := h r c (by omega) (by omega)
  show -(((1 + pb r c + pb r (c + 1) + pb (r + 1) c : Nat) : Int) * M) <= S r c - pln S r c - pln S r (c + 1) - pln S (r + 1) c /\ S r c - pln S r c - pln S r (c + 1) - pln S (r + 1) c <= ((1 + pb r c + pb r (c + 1) + pb (r + 1) c : Nat) : Int) * M
  rw [show ((1 + pb r c + pb r (c + 1) + pb (r + 1) c : Nat) : Int) * M = M + (pb r c : Int) * M + (pb r (c + 1) : Int) * M + (pb (r + 1) c : Int) * M by
   push_cast; rw [Int.add_mul, Int.add_mul, Int.add_mul, Int.one_mul]]
  omega
 termination_by r _ c _ => (r, c)
theorem pb_le : ∀ r, r < 6 -> ∀ c, c < 6 -> pb r c <= 841 := by decide
theorem room_of {R C : Nat} (hR : R <= 5) (hC : C <= 5) (bd : Bd R C (28 * YY) (21 * YY) S L G) : ∀ r c, r < R + 1 -> c < C + 1 -> -(23569 * YY) <= L r c - pln S r c /\ G r c - pln S r c <= 23569 * YY := fun r c hr hc => by
 have h1 := pln_b bd.1 r hr c hc
 have h2 := bd.2 r c hr hc
 have h3 : (pb r c : Int) * (28 * YY) <= 841 * (28 * YY) := Int.mul_le_mul_of_nonneg_right (by have := pb_le r (by omega) c (by omega); omega) (by decide +kernel)
 omega
def Upp (R C : Nat) (P L G : Nat -> Nat -> Int) (i j : Nat) (w : Nat -> Nat -> Int) : Prop := ∀ r c, r < R + 1 -> c < C + 1 -> (r < i \/ (r = i /\ c < j)) -> w (R + 1 + c) r <= ed1 P L G r c /\ w r (R + 1 + c) <= ed2 P L G r c
theorem Upp.row {R C i : Nat} {P L G w : Nat -> Nat -> Int} (h : Upp R C P L G i (C + 1) w) : Upp R C P L G (i + 1) 0 w := fun r c hr hc z => h r c hr hc (by omega)
theorem Upp.step {R C i j : Nat} {P L G w : Nat -> Nat -> Int} (h : Upp R C P L G i j w) (hi : i < R + 1) : Upp R C P L G i (j + 1) (updF (updF w (R + 1 + j) i (ed1 P L G i j)) i (R + 1 + j) (ed2 P L G i j)) := fun r c hr hc z => by
 by_cases e : r = i /\ c = j
 ·obtain ⟨rfl, rfl⟩ := e
  rw [zbe _ _ (by omega), zee, zee]
  exact ⟨Int.le_refl _, Int.le_refl _⟩
 ·rw [zbe _ _ (by omega), zbe _ _ (by omega), zbe _ _ (by omega), zbe _ _ (by omega)]
  exact h r c hr hc (by omega)
def Dg (n : Nat) (w : Nat -> Nat -> Int) : Prop := ∀ u, u < n -> w u u <= 0
section
variable {R C n : Nat} {S L G : Nat -> Nat -> Int}
theorem floyd_ok (hn : n = R + 1 + (C + 1)) (h9 : n <= 12) {P w : Nat -> Nat -> Int} (s0 s1 s2 s3 s4 s5 s7 s9 s10 s11 s12 s13 s14 s15 s16 s17 : Sl) (lo : Lo R C P L G w) (up : Up R C P L G w) (dg : Dg n w) (Q : Fl × M.R -> Prop)
  (hQ : ∀ w s9 s15 s16 s17, Lo R C P L G w -> Up R C P L G w -> Dg n w -> Tri n n w -> Q (.next, [s0, s1, s2, s3, s4, s5, .val (.int (n : Nat)), s7, tS n n w, s9, s10, s11, s12, s13, s14, s15, s16, s17])) :
  Ok (zdi [s0, s1, s2, s3, s4, s5, .val (.int (n : Nat)), s7, tS n n w, s9, s10, s11, s12, s13, s14, s15, s16, s17]) Q := by
 have sm : zd4 (n : Int) = true := zaC (by omega) (by omega)
 simp! only [↓zdi]
 refine ⟨sm, zaS (fun k ρ => ∃ (w : Nat -> Nat -> Int) (s9 s15 s16 s17 : Sl), Lo R C P L G w /\ Up R C P L G w /\ Dg n w /\ Tri n k w /\ ρ = [s0, s1, s2, s3, s4, s5, .val (.int (n : Nat)), s7, tS n n w, s9, s10, s11, s12, s13, s14, s15, s16, s17]) ⟨_, _, _, _, _, lo, up, dg, fun _ m _ _ hm => absurd hm (Nat.not_lt_zero _), rfl⟩ ?_ ?_⟩
 ·rintro k _ hk ⟨d, s9, s15, s16, s17, lo, up, dg, tri, rfl⟩
  simp! only [↓zfy, ↓zfs]
  refine ⟨sm, zaS (fun i ρ => ∃ (w : Nat -> Nat -> Int) (s9 s16 s17 : Sl), Lo R C P L G w /\ Up R C P L G w /\ Dg n w /\ Ph n k i 0 d w /\ ρ = [s0, s1, s2, s3, s4, s5, .val (.int (n : Nat)), s7, tS n n w, s9, s10, s11, s12, s13, s14, .val (.int (k : Nat)), s16, s17]) ⟨_, _, _, _, lo, up, dg, Ph.start, rfl⟩ ?_ ?_⟩
  ·rintro i _ hi ⟨w, s9, s16, s17, lo, up, dg, ph, rfl⟩
   simp! only [↓zft, ↓zfA]
   refine ⟨sm, zaS (fun j ρ => ∃ (w : Nat -> Nat -> Int) (s16 s17 : Sl), Lo R C P L G w /\ Up R C P L G w /\ Dg n w /\ Ph n k i j d w /\ ρ = [s0, s1, s2, s3, s4, s5, .val (.int (n : Nat)), s7, tS n n w, .val (.int (i : Nat)), s10, s11, s12, s13, s14, .val (.int (k : Nat)), s16, s17]) ⟨_, _, _, lo, up, dg, ph, rfl⟩ ?_ ?_⟩
   ·rintro j _ hj ⟨w, s16, s17, lo, up, dg, ph, rfl⟩
    simp! only [↓zfD, zc1, hi, hj, hk, zc3 _ hi, zc3 _ hk, zan _ hi, zan _ hj, zan _ hk, zfG _ _ hi hj]
    exact ⟨_, _, _, lo.step (by omega) (by omega) (by omega), up.le fun u v => zh0 u v, fun u hu => Int.le_trans (zh0 u u) (dg u hu), ph.step hi hj hk, rfl⟩
   ·rintro _ ⟨w, s16, s17, lo, up, dg, ph, rfl⟩
    exact ⟨_, _, _, _, lo, up, dg, ph.row, rfl⟩
  ·rintro _ ⟨w, s9, s16, s17, lo, up, dg, ph, rfl⟩
   exact ⟨_, _, _, _, _, lo, up, dg, ph.tri tri hk, rfl⟩
 ·rintro _ ⟨w, s9, s15, s16, s17, lo, up, dg, tri, rfl⟩
  exact hQ _ _ _ _ _ lo up dg tri
theorem edges_ok (hn : n = R + 1 + (C + 1)) (h9 : n <= 12) {P w : Nat -> Nat -> Int} (s0 s1 s6 s7 s9 s10 s11 s12 s13 s14 s15 s16 s17 : Sl) (lo : Lo R C P L G w) (dg : Dg n w) (Q : Fl × M.R -> Prop)
  (hQ : ∀ w s9 s10 s11 s12 s13 s14, Lo R C P L G w -> Up R C P L G w -> Dg n w -> Q (.next, [s0, s1, .val (tT (R + 1) (C + 1) L), .val (tT (R + 1) (C + 1) G), .val (tL (R + 1) (C + 1) P), .val (.int ((R + 1 : Nat) : Int)), s6, s7, tS n n w, s9, s10, s11, s12, s13, s14, s15, s16, s17])) :
  Ok (zdh [s0, s1, .val (tT (R + 1) (C + 1) L), .val (tT (R + 1) (C + 1) G), .val (tL (R + 1) (C + 1) P), .val (.int ((R + 1 : Nat) : Int)), s6, s7, tS n n w, s9, s10, s11, s12, s13, s14, s15, s16, s17]) Q := by
 simp! only [↓zdh]
 refine ⟨zaC (by omega) (by omega), zaS (fun i ρ => ∃ (w : Nat -> Nat -> Int) (s9 s10 s11 s12 s13 s14 : Sl), Lo R C P L G w /\ Dg n w /\ Upp R C P L G i 0 w /\ ρ = [s0, s1, .val (tT (R + 1) (C + 1) L), .val (tT (R + 1) (C + 1) G), .val (tL (R + 1) (C + 1) P), .val (.int ((R + 1 : Nat) : Int)), s6, s7, tS n n w, s9, s10, s11, s12, s13, s14, s15, s16, s17]) ⟨_, _, _, _, _, _, _, lo, dg, fun r c _ _ h => absurd h (by omega), rfl⟩ ?_ ?_⟩
 ·rintro i _ hi ⟨w, s9, s10, s11, s12, s13, s14, lo, dg, up, rfl⟩
  simp! only [↓zfp, ↓zfq, zan _ (show 0 < R + 1 by omega)]
  refine ⟨zaC (by omega) (by omega), zaS (fun j ρ => ∃ (w : Nat -> Nat -> Int) (s9 s11 s12 s13 s14 : Sl), Lo R C P L G w /\ Dg n w /\ Upp R C P L G i j w /\ ρ = [s0, s1, .val (tT (R + 1) (C + 1) L), .val (tT (R + 1) (C + 1) G), .val (tL (R + 1) (C + 1) P), .val (.int ((R + 1 : Nat) : Int)), s6, s7, tS n n w, s9, .val (.int (i : Nat)), s11, s12, s13, s14, s15, s16, s17]) ⟨_, _, _, _, _, _, lo, dg, up, rfl⟩ ?_ ?_⟩
  ·rintro j _ hj ⟨w, s9, s11, s12, s13, s14, lo, dg, up, rfl⟩
   have ea : ((R + 1 : Nat) : Int) + (j : Int) = ((R + 1 + j : Nat) : Int) := by omega
   have hi' : i < n := by omega
   have hj' : R + 1 + j < n := by omega
   simp! only [↓zfu]
   refine (zj9 i j).mono ?_
   rintro _ rfl
   simp! only [zan _ hi, zan _ hj, ea, zc1, hi', hj', zc3 _ hj', zc3 _ hi', zan _ hi', zan _ hj', zfG _ _ hj' hi', zfG _ _ hi' hj']
   have mp := fun x => mul_pm (x := x) (zkJ i j)
   exact ⟨mp _, mp _, mp _, mp _, _, _, _, _, _, _, (lo.put (u := R + 1 + j) (v := i) fun p hp => (hp.1 i j hi hj).1).put fun p hp => (hp.1 i j hi hj).2, fun u hu => by rw [zbe _ _ (by omega), zbe _ _ (by omega)]; exact dg u hu, up.step hi, rfl⟩
  ·rintro _ ⟨w, s9, s11, s12, s13, s14, lo, dg, up, rfl⟩
   exact ⟨_, _, _, _, _, _, _, lo, dg, up.row, rfl⟩
 rintro _ ⟨w, s9, s10, s11, s12, s13, s14, lo, dg, up, rfl⟩
 exact hQ _ _ _ _ _ _ _ lo (fun r c hr hc => up r c hr hc (.inl hr)) dg
theorem ways_ok (hR : R <= 5) (hC : C <= 5) : Ok (zcJ [zaO R C S L G]) fun x => ∃ w, Lo R C (pln S) L G w /\ Up R C (pln S) L G w /\ Dg (R + 1 + (C + 1)) w /\ Tri (R + 1 + (C + 1)) (R + 1 + (C + 1)) w /\ x = tS (R + 1 + (C + 1)) (R + 1 + (C + 1)) w := by
 simp! only [↓zcJ, ↓zfT]
 refine (zi1 (by omega) (by omega)).mono ?_
 rintro _ rfl
 obtain ⟨n, hn⟩ : ∃ n, n = R + 1 + (C + 1) := ⟨_, rfl⟩
 have en : ((R + 1 : Nat) : Int) + ((C + 1 : Nat) : Int) = ((n : Nat) : Int) := by omega
 have sm : zd4 (n : Int) = true := zaC (by omega) (by omega)
 simp! only [zan _ (show 0 < R + 1 by omega), en]
 refine ⟨sm, by omega, zea (fun ρ => ∃ z, ρ = [.val (.int 1000000000000000000000000000000000000000000000000000000000000000), .val (.int (n : Nat)), z]) (fun a => wI n fun b => far) ⟨_, rfl⟩ ?_ ?_⟩
 ·rintro a _ ha ⟨z, rfl⟩
  simp! only [↓zfl, ↓zfB]
  exact ⟨⟨sm, by omega⟩, by rw [zjQ]; rfl, _, rfl⟩
 rintro _ ⟨z, rfl⟩
 rw [show ((List.range n).map fun a => wI n fun b => far).map Ch.l = tC n n (fun _ _ => far) from by unfold tC; rw [List.map_map]; rfl]
 simp! only [↓zfv]
 refine ⟨sm, zaS (fun i ρ => ∃ (w : Nat -> Nat -> Int) (s9 : Sl), Lo R C (pln S) L G w /\ (∀ u, u < i -> w u u <= 0) /\ ρ = [.val (zaO R C S L G), .val (tT R C S), .val (tT (R + 1) (C + 1) L), .val (tT (R + 1) (C + 1) G), .val (tL (R + 1) (C + 1) (pln S)), .val (.int ((R + 1 : Nat) : Int)), .val (.int (n : Nat)), .val (.int 1000000000000000000000000000000000000000000000000000000000000000), tS n n w, s9, .emp, .emp, .emp, .emp, .emp, .emp, .emp, .emp]) ⟨_, _, ?_, fun u hu => absurd hu (Nat.not_lt_zero _), rfl⟩ ?_ ?_⟩
 ·exact fun p hp u v hu hv => hp.2 u v hu hv
 ·rintro i _ hi ⟨w, s9, lo, dg, rfl⟩
  simp! only [↓zfH, zc1, zc3 _ hi, hi, zan _ hi, zfG _ _ hi hi]
  refine ⟨_, _, lo.put fun p _ => by omega, fun u hu => ?_, rfl⟩
  by_cases z : u = i
  ·subst z; rw [zee]; exact Int.le_refl _
  ·rw [zbe _ _ (by omega)]; exact dg u (by omega)
 rintro _ ⟨w, s9, lo, dg, rfl⟩
 simp! only []
 refine edges_ok hn (by omega) _ _ _ _ _ _ _ _ _ _ _ _ _ lo dg _ fun w s9 s10 s11 s12 s13 s14 lo up dg => ?_
 simp! only []
 refine floyd_ok hn (by omega) _ _ _ _ _ _ _ _ _ _ _ _ _ _ _ _ lo up dg _ fun w s9 s15 s16 s17 lo up dg tri => ?_
 simp! only []
 rw [<- hn]
 exact ⟨_, lo, up, dg, tri, rfl⟩
theorem can_ok (hn : n <= 1000) : Ok (zbg [tL n n w]) fun x => x = .val (.bl ((List.range n).all fun u => decide (0 <= w u u))) := by
 simp! only [↓zbg, ↓zcc, ↓zcU]
 refine ⟨zaC (by omega) (by omega), by omega, zaW (fun ρ => ∃ z, ρ = [.val (tL n n w), z]) (fun u => .bl (decide (0 <= w u u))) ⟨_, rfl⟩ ?_ ?_⟩
 ·rintro i _ hi ⟨z, rfl⟩
  simp! only [↓zcL, zan _ hi]
  exact ⟨_, rfl⟩
 ·rintro _ ⟨z, rfl⟩
  simp! only [zdD, List.all_map]
  rfl
end
structure Ways (R C : Nat) (P L G w : Nat -> Nat -> Int) : Prop where
 lo : Lo R C P L G w
 up : Up R C P L G w
 dg : Dg (R + 1 + (C + 1)) w
 tri : Tri (R + 1 + (C + 1)) (R + 1 + (C + 1)) w
 hd : ∀ u, u < R + 1 + (C + 1) -> 0 <= w u u
 le : ∀ r c, r < R + 1 -> c < C + 1 -> L r c <= G r c
 room : ∃ B : Int, 2 * B <= far /\ ∀ r c, r < R + 1 -> c < C + 1 -> -B <= L r c - P r c /\ G r c - P r c <= B
theorem ne_ff : dNe (.str "floor") (.str "floor") = some (.bl false) := rfl
section
variable {R C : Nat} {S L G P w : Nat -> Nat -> Int}
theorem Ways.fits (y : Ways R C P L G w) (hz : z < R + 1 + (C + 1)) : zek R C L G (shf (R + 1) P fun v => w z v) := zja y.up y.tri y.hd y.le hz
theorem Ways.nought (y : Ways R C P L G w) (hz : z < R + 1 + (C + 1)) : w z z = 0 := Int.le_antisymm (y.dg z hz) (y.hd z hz)
theorem Ways.eq (y : Ways R C P L G w) (hs : s < R + 1 + (C + 1)) (fg : zek R C L G (shf (R + 1) P g)) (mx : ∀ p, zek R C L G (shf (R + 1) P p) -> ∀ v, v < R + 1 + (C + 1) -> p v - p s <= g v) (g0 : g s <= 0) : ∀ v, v < R + 1 + (C + 1) -> g v = w s v := fun v hv => by
 have h0 := mx g fg s hs
 obtain ⟨B, hB, rm⟩ := y.room
 have h1 := y.lo g (zkN fg rm hB) s v hs hv
 have h2 := mx _ (y.fits hs) v hv
 have h3 := y.nought hs
 (try dsimp only at h2)
 omega
theorem zhP (y : Ways R C (pln S) L G w) (hR : R <= 20) (hC : C <= 20) (hs : s < R + 1 + (C + 1)) : zaP [zaO R C S L G, .int s] = some (.val (.lst (wI (R + 1 + (C + 1)) (w s)))) := by
 obtain ⟨_, hx, g, ⟨fg, mx, g0⟩, rfl⟩ := zlK hR hC (y.fits hs) hs
 rw [hx]
 have := y.eq hs fg mx g0
 rw [show wI (R + 1 + (C + 1)) g = wI (R + 1 + (C + 1)) (w s) from zbp fun v hv => by (try dsimp only); rw [this v hv]]
theorem refuse_f (hR : R <= 20) (hC : C <= 20) (fi : zek R C L G (shf (R + 1) (pln S) p)) : Ok (zbm [zaO R C S L G]) fun x => x = .val .non := by
 simp! only [↓zbm, ↓zcP]
 refine (zmu hR hC).mono ?_
 rintro _ (⟨h, t, _, rfl⟩ | ⟨no, t, rfl⟩)
 ·simp! only [ne_ff]
 ·exact (no p fi).elim
theorem best2 (lt : Int -> Int -> Bool) (a b : Int) : zly lt [.lst [.int a, .int b]] = some (.int (if lt b a then b else a)) := by
 cases h : lt b a <;> simp [zly, za9, zbO, zjI, argBest, h]
theorem ends_val (hR : R <= 50) (hC : C <= 50) {r c : Nat} (hr : r < R + 1) (hc : c < C + 1) : Ok (zbD [zaO R C S L G, tL (R + 1 + (C + 1)) (R + 1 + (C + 1)) w, .int (r : Nat), .int (c : Nat)]) fun x => x = .val (.tup [.int (if sg r c * w (R + 1 + c) r + pln S r c < sg r c * (0 - w r (R + 1 + c)) + pln S r c then sg r c * w (R + 1 + c) r + pln S r c else sg r c * (0 - w r (R + 1 + c)) + pln S r c), .int (if sg r c * w (R + 1 + c) r + pln S r c > sg r c * (0 - w r (R + 1 + c)) + pln S r c then sg r c * w (R + 1 + c) r + pln S r c else sg r c * (0 - w r (R + 1 + c)) + pln S r c)]) := by
 obtain ⟨n, hn⟩ : ∃ n, n = R + 1 + (C + 1) := ⟨_, rfl⟩
 have e2 : ((R + 1 : Nat) : Int) + (c : Int) = ((R + 1 + c : Nat) : Int) := by omega
 rw [<- hn]
 simp! only [↓zbD, ↓zdf]
 refine (zi1 (by omega) (by omega)).mono ?_
 rintro _ rfl
 simp! only [↓zdK, e2, zan _ (show r < n by omega), zan _ (show R + 1 + c < n by omega)]
 rw [show [D.int (0 - w r (R + 1 + c)), D.int (w (R + 1 + c) r)] = wL 2 fun i => .int (if i = 0 then 0 - w r (R + 1 + c) else w (R + 1 + c) r) from rfl]
 refine zaW (fun ρ => ∃ s, ρ = [.val (.int (r : Nat)), .val (.int (c : Nat)), .val (tL (R + 1) (C + 1) (pln S)), s]) (fun i => .int (sg r c * (if i = 0 then 0 - w r (R + 1 + c) else w (R + 1 + c) r) + pln S r c)) ⟨_, rfl⟩ ?_ ?_
 ·rintro i _ hi ⟨s, rfl⟩
  simp! only [↓zdL]
  refine (zj9 r c).mono ?_
  rintro _ rfl
  simp! only [zan _ hr, zan _ hc]
  exact ⟨mul_pm (zkJ r c), _, rfl⟩
 rintro _ ⟨s, rfl⟩
 rw [show (wL 2 fun i => D.int (sg r c * (if i = 0 then 0 - w r (R + 1 + c) else w (R + 1 + c) r) + pln S r c)) = [.int (sg r c * (0 - w r (R + 1 + c)) + pln S r c), .int (sg r c * w (R + 1 + c) r + pln S r c)] from rfl]
 simp! only [best2]
end
theorem zf1 (n : Nat) : ((List.range n).map fun _ => true).all id = true := by simp
theorem whole_ok (i : Int) : zde [.int i] = some (.val (.bl true)) := by rfl
section
variable {R C : Nat} {S L G w f : Nat -> Nat -> Int}
theorem lfits_ok (hR : R <= 50) (hC : C <= 50) (fi : zek R C L G f) (fo : four f = S) : Ok (za7 [zaO R C S L G, tT (R + 1) (C + 1) f]) fun x => x = .val (.bl true) := by
 simp! only [↓za7, ↓zbS, zl0, ↓zce]
 refine ⟨by omega, zaW (fun ρ => ∃ z, ρ = [.val (tT (R + 1) (C + 1) L), z]) (fun _ => .bl true) ⟨_, rfl⟩ ?_ ?_⟩
 ·rintro i _ hi ⟨z, rfl⟩
  simp! only [↓zcv, zan _ (show 0 < R + 1 by omega), beq_self_eq_true]
  exact ⟨_, rfl⟩
 rintro _ ⟨z, rfl⟩
 simp! only [zdD, zf1, ↓zcj, ↓zcr]
 refine ⟨zaC (by omega) (by omega), zaS (fun i ρ => ∃ s5 s6, ρ = [.val (zaO R C S L G), .val (tT (R + 1) (C + 1) f), .val (tT R C S), .val (tT (R + 1) (C + 1) L), .val (tT (R + 1) (C + 1) G), s5, s6]) ⟨_, _, rfl⟩ ?_ ?_⟩
 ·rintro r _ hr ⟨s5, s6, rfl⟩
  simp! only [↓zcx, ↓zcp, zan _ (show 0 < R + 1 by omega)]
  refine ⟨zaC (by omega) (by omega), zaS (fun i ρ => ∃ s6, ρ = [.val (zaO R C S L G), .val (tT (R + 1) (C + 1) f), .val (tT R C S), .val (tT (R + 1) (C + 1) L), .val (tT (R + 1) (C + 1) G), .val (.int (r : Nat)), s6]) ⟨_, rfl⟩ ?_ ?_⟩
  ·rintro k _ hk ⟨s6, rfl⟩
   have lg := fi r k hr hk
   simp! only [↓zcw, zan _ hr, zan _ hk, lg.1, lg.2]
   exact ⟨_, rfl⟩
  ·rintro _ ⟨s6, rfl⟩
   simp! only []
   exact ⟨_, _, rfl⟩
 ·rintro _ ⟨s5, s6, rfl⟩
  simp! only []
  refine (zjD _ (.inl rfl) (by omega) (by omega)).mono ?_
  rintro _ rfl
  rw [fo]
  simp! only [(zma R C S).eq (by decide)]
theorem nums_ok (q : Nat -> Int) (hn : n <= 1000) : Ok (zbA [.tup (wI n q)]) fun x => x = .val (.bl true) := by
 have tc : (["int", "bool", "tuple", "list", "str"] : List String).contains "tuple" = true := by decide
 have tt : (("tuple" : String) == "tuple") = true := by decide
 simp! only [↓zbA, ↓zdg, tc, tt, ↓zdu]
 refine ⟨by omega, zaW (fun ρ => ∃ z, ρ = [z]) (fun _ => .bl true) ⟨_, rfl⟩ ?_ ?_⟩
 ·rintro i _ hi ⟨z, rfl⟩
  simp! only [↓zdx, whole_ok]
  exact ⟨_, rfl⟩
 ·rintro _ ⟨z, rfl⟩
  simp! only [zdD, zf1]
theorem table_ok (hn : n <= 1000) (hm : m <= 1000) : Ok (zb6 [tT n m f]) fun x => x = .val (.bl true) := by
 have tc : (["int", "bool", "tuple", "list", "str"] : List String).contains "tuple" = true := by decide
 have tt : (("tuple" : String) == "tuple") = true := by decide
 simp! only [↓zb6, ↓zeg, tc, tt, ↓zeY]
 refine ⟨by omega, zaW (fun ρ => ∃ z, ρ = [z]) (fun _ => .bl true) ⟨_, rfl⟩ ?_ ?_⟩
 ·rintro i _ hi ⟨z, rfl⟩
  simp! only [↓zen]
  refine (nums_ok _ hm).mono ?_
  rintro _ rfl
  simp! only []
  exact ⟨_, rfl⟩
 ·rintro _ ⟨z, rfl⟩
  simp! only [zdD, zf1]
theorem cell_in {r k : Nat} (hr : r < R + 1) (hc : k < C + 1) : Ok (zej [tT (R + 1) (C + 1) f, .int (r : Nat), .int (k : Nat)]) fun x => x = .val (.bl true) := by
 simp! only [↓zej, ↓zhi, zan _ (show 0 < R + 1 by omega)]
 exact ⟨fun _ => ⟨fun _ => ⟨fun _ => by rw [decide_eq_true (by omega)], fun z => absurd z (by omega)⟩, fun z => absurd z (by omega)⟩, fun z => absurd z (by omega)⟩
theorem pl2 {a b : Int} : Pl 1 (.tup [.int a, .int b]) := zkz fun x hx => by
 rcases List.mem_cons.mp hx with rfl | hx
 ·exact zlS 0 _
 ·rw [List.mem_singleton.mp hx]; exact zlS 0 _
def endF (R : Nat) (P w : Nat -> Nat -> Int) (r c : Nat) (t : Bool) : Nat -> Nat -> Int := shf (R + 1) P (w (if (sg r c = 1) = (t = true) then r else R + 1 + c))
abbrev toldD (R C : Nat) (P w : Nat -> Nat -> Int) (r c : Nat) : D := .tup [tT (R + 1) (C + 1) (endF R P w r c true), tT (R + 1) (C + 1) (endF R P w r c false)]
theorem ziK (y : Ways R C (pln S) L G w) (hR : R <= 20) (hC : C <= 20) {r c : Nat} (hr : r < R + 1) (hc : c < C + 1) : Ok (zbr [zaO R C S L G, .int (r : Nat), .int (c : Nat)]) fun x => x = .val (toldD R C (pln S) w r c) := by
 have ea : ((R + 1 : Nat) : Int) + (c : Int) = ((R + 1 + c : Nat) : Int) := by omega
 simp! only [↓zbr, ↓zdM]
 refine (cell_in hr hc).mono ?_
 rintro _ rfl
 simp! only [↓zd1]
 refine (refuse_f hR hC (y.fits (show 0 < R + 1 + (C + 1) by omega))).mono ?_
 rintro _ rfl
 simp! only []
 refine (ziu (by omega) (by omega)).mono ?_
 rintro _ rfl
 simp! only [ea, zhP y hR hC (show R + 1 + c < R + 1 + (C + 1) by omega)]
 refine (ziA (by omega) (by omega)).mono ?_
 rintro _ rfl
 simp! only [zhP y hR hC (show r < R + 1 + (C + 1) by omega)]
 refine (ziA (by omega) (by omega)).mono ?_
 rintro _ rfl
 simp! only []
 refine (zjB r c).mono ?_
 rintro _ rfl
 simp! only []
 unfold toldD endF
 refine ⟨fun z => ?_, fun z => ?_⟩
 ·rw [if_pos (by simp [z]), if_neg (by simp [z])]
 ·rw [if_neg (by simp [z]), if_pos (by simp [z])]
theorem end_lt (r c : Nat) (t : Bool) (hr : r < R + 1) (hc : c < C + 1) : (if (sg r c = 1) = (t = true) then r else R + 1 + c) < R + 1 + (C + 1) := by split <;> omega
theorem right_ok (y : Ways R C (pln S) L G w) (hR : R <= 5) (hC : C <= 5) {r c : Nat} (hr : r < R + 1) (hc : c < C + 1) : Ok (zbZ [zaO R C S L G, tL (R + 1 + (C + 1)) (R + 1 + (C + 1)) w, .int (r : Nat), .int (c : Nat)]) fun x => x = .val (.bl true) := by
 have ft := fun t => y.fits (end_lt (R := R) (C := C) r c t hr hc)
 have fo : ∀ h, four (shf (R + 1) (pln S) h) = S := fun h => funext fun r => funext fun c => by rw [four_shf, four_pln]
 have pt : Pl 3 (toldD R C (pln S) w r c) := zkz fun d hd => by
  rcases List.mem_cons.mp hd with rfl | hd
  ·exact zma _ _ _
  ·rw [List.mem_singleton.mp hd]; exact zma _ _ _
 have tt : ("tuple" == "tuple") = true := by decide
 simp! only [↓zbZ, ↓zec]
 refine (ziK y (by omega) (by omega) hr hc).mono ?_
 rintro _ rfl
 simp! only [tt, ↓zeU]
 have two : [tT (R + 1) (C + 1) (endF R (pln S) w r c true), tT (R + 1) (C + 1) (endF R (pln S) w r c false)] = wL 2 fun i => tT (R + 1) (C + 1) (endF R (pln S) w r c (decide (i = 0))) := rfl
 refine ⟨by decide, fun z => absurd rfl z, fun _ => ?_⟩
 rw [two]
 refine zaW (fun ρ => ∃ s, ρ = [s]) (fun _ => .bl true) ⟨_, rfl⟩ ?_ ?_
 ·rintro i _ hi ⟨s, rfl⟩
  simp! only [↓zez]
  refine (table_ok (by omega) (by omega)).mono ?_
  rintro _ rfl
  simp! only []
  exact ⟨_, rfl⟩
 rintro _ ⟨s, rfl⟩
 simp! only [zdD, zf1, ↓zeJ, ↓zeO]
 rw [two]
 refine zaW (fun ρ => ∃ s, ρ = [.val (zaO R C S L G), s]) (fun _ => .bl true) ⟨_, rfl⟩ ?_ ?_
 ·rintro i _ hi ⟨s, rfl⟩
  simp! only [↓zeu]
  refine (lfits_ok (by omega) (by omega) (ft _) (fo _)).mono ?_
  rintro _ rfl
  simp! only []
  exact ⟨_, rfl⟩
 rintro _ ⟨s, rfl⟩
 simp! only [zdD, zf1, ↓zeK]
 refine (ziK y (by omega) (by omega) hr hc).mono ?_
 rintro _ rfl
 simp! only [pt.ne (by decide), ↓zd8, zan _ hr, zan _ hc]
 refine (ends_val (by omega) (by omega) hr hc).mono ?_
 rintro _ rfl
 have n1 := y.nought (show r < R + 1 + (C + 1) by omega)
 have n2 := y.nought (show R + 1 + c < R + 1 + (C + 1) by omega)
 have t1 := y.tri y.hd (R + 1 + c) r r (by omega) (by omega) (by omega)
 have eA : endF R (pln S) w r c true r c = if sg r c * w (R + 1 + c) r + pln S r c < sg r c * (0 - w r (R + 1 + c)) + pln S r c then sg r c * w (R + 1 + c) r + pln S r c else sg r c * (0 - w r (R + 1 + c)) + pln S r c := by
  unfold endF shf
  rcases zkJ r c with e | e <;> rw [e] <;> simp <;> split <;> omega
 have eB : endF R (pln S) w r c false r c = if sg r c * w (R + 1 + c) r + pln S r c > sg r c * (0 - w r (R + 1 + c)) + pln S r c then sg r c * w (R + 1 + c) r + pln S r c else sg r c * (0 - w r (R + 1 + c)) + pln S r c := by
  unfold endF shf
  rcases zkJ r c with e | e <;> rw [e] <;> simp <;> split <;> omega
 rw [<- eA, <- eB]
 simp! only [pl2.eq (by decide)]
end
def Below (m n : Nat) (ds : List D) : Prop := ∃ q : Nat -> Nat, (∀ i, i < n -> q i < m) /\ ds = wL n fun i => .int ((q i : Nat) : Int)
theorem Below.erase (h : Below m (n + 1) ds) (hk : k < n + 1) : (∃ x : Nat, x < m /\ ds[k]? = some (.int (x : Nat))) /\ Below m n (ds.eraseIdx k) := by
 obtain ⟨q, hq, rfl⟩ := h
 refine ⟨⟨q k, hq k hk, zan _ hk⟩, fun i => if i < k then q i else q (i + 1), fun i hi => ?_, ?_⟩
 ·dsimp only; split
  ·exact hq i (by omega)
  ·exact hq (i + 1) (by omega)
 ·apply List.ext_getElem?
  intro i
  rw [List.getElem?_eraseIdx]
  by_cases hi : i < n
  ·rw [zan _ hi]
   by_cases z : i < k
   ·rw [if_pos z, zan _ (show i < n + 1 by omega)]; (try dsimp only); rw [if_pos z]
   ·rw [if_neg z, zan _ (show i + 1 < n + 1 by omega)]; (try dsimp only); rw [if_neg z]
  ·rw [List.getElem?_eq_none (show (wL n _).length <= i by rw [za8]; omega)]
   rw [if_neg (by omega), List.getElem?_eq_none (by rw [za8]; omega)]
theorem zj2 (h : Pot ds) {m n : Nat} (nm : n <= m) (m9 : m <= 100) : Ok (zbG ds [.int (m : Nat), .int (n : Nat)]) fun x => ∃ (ls ds' : List D), Pot ds' /\ Below m n ls /\ x = (.own ls, ds') := by
 simp! only [↓zbG, ↓zeX, ↓zfc]
 refine ⟨zaC (by omega) (by omega), by omega, zaC (by omega) (by omega), by omega, zcG (fun j acc ρ => ∃ (lf ds' : List D) (s : Sl), zcY [s] = true /\ Pot ds' /\ Below m j acc /\ Below m (m - j) lf /\ ρ = [.par lf, .par ds', s]) ⟨_, ds, .emp, rfl, h, ⟨fun _ => 0, fun i hi => absurd hi (Nat.not_lt_zero _), rfl⟩, ⟨fun i => i, fun i hi => by omega, rfl⟩, rfl⟩ ?_ ?_⟩
 ·rintro j acc _ hj ⟨lf, d1, s, no, h1, ba, bl, rfl⟩
  have ll : lf.length = m - j := by obtain ⟨q, _, rfl⟩ := bl; rw [za8]
  simp! only [↓ze5, ll]
  refine (zaY h1 (m := ((m - j : Nat) : Int)) (by omega) (by omega)).mono ?_
  rintro _ ⟨k, d2, hk, h2, rfl⟩
  obtain ⟨e, he⟩ : ∃ e, m - j = e + 1 := ⟨m - j - 1, by omega⟩
  rw [he] at bl
  obtain ⟨⟨x, hx, ex⟩, bl'⟩ := bl.erase (k := k) (by omega)
  simp! only [ll, ex]
  refine ⟨⟨by omega, hk, by omega⟩, _, _, _, rfl, h2, ?_, by rw [show m - (j + 1) = e by omega]; exact bl', rfl⟩
  obtain ⟨q, hq, rfl⟩ := ba
  refine ⟨fun i => if i < j then q i else x, fun i hi => ?_, ?_⟩
  ·dsimp only; split
   ·exact hq i (by assumption)
   ·exact hx
  ·rw [za1]
   show (wL j _) ++ [.int (x : Nat)] = _
   congr 1
   ·exact zbp fun i hi => by (try dsimp only); rw [if_pos hi]
   ·(try dsimp only); rw [if_neg (by omega)]
 ·rintro acc _ ⟨lf, d1, s, no, h1, ba, bl, rfl⟩
  simp! only []
  exact ⟨_, _, h1, ba, rfl⟩
def Sand (R C : Nat) (Y : Int) (f L G : Nat -> Nat -> Int) : Prop := ∀ r c, r < R + 1 -> c < C + 1 -> -Y <= L r c /\ L r c <= f r c /\ f r c <= G r c /\ G r c <= Y
theorem Sand.putL {R C r c : Nat} (h : Sand R C Y f L G) : Sand R C Y f (updF L r c (f r c)) G := fun a b ha hb => by
 have := h a b ha hb
 by_cases z : a = r /\ b = c
 ·obtain ⟨rfl, rfl⟩ := z; rw [zee]; omega
 ·rw [zbe _ _ z]; exact this
theorem Sand.putG {R C r c : Nat} (h : Sand R C Y f L G) : Sand R C Y f L (updF G r c (f r c)) := fun a b ha hb => by
 have := h a b ha hb
 by_cases z : a = r /\ b = c
 ·obtain ⟨rfl, rfl⟩ := z; rw [zee]; omega
 ·rw [zbe _ _ z]; exact this
def Cells (R C k : Nat) (ds : List D) : Prop := ∃ a b : Nat -> Nat, (∀ i, i < k -> a i < R + 1 /\ b i < C + 1) /\ ds = wL k fun i => .tup [.int ((a i : Nat) : Int), .int ((b i : Nat) : Int)]
section
variable {R C : Nat}
theorem zlr (hc : Cells R C k cs) {y : Nat} (hy : y < 2) (s0 s1 s2 s3 s5 s6 s7 s8 s9 s14 s15 s16 s17 : Sl) (sd : Sand R C YY f L G) (Q : Fl × M.R -> Prop)
  (hQ : ∀ L G s14 s15 s16, Sand R C YY f L G -> Q (.next, [s0, s1, s2, s3, .val (tL (R + 1) (C + 1) f), s5, s6, s7, s8, s9, tS (R + 1) (C + 1) L, tS (R + 1) (C + 1) G, .val (.int (y : Nat)), .val (.lst cs), s14, s15, s16, s17])) :
  Ok (zb8 [s0, s1, s2, s3, .val (tL (R + 1) (C + 1) f), s5, s6, s7, s8, s9, tS (R + 1) (C + 1) L, tS (R + 1) (C + 1) G, .val (.int (y : Nat)), .val (.lst cs), s14, s15, s16, s17]) Q := by
 obtain ⟨a, b, hab, rfl⟩ := hc
 simp! only [↓zb8, ↓zeP]
 refine zaS (fun i ρ => ∃ L G s14 s15 s16, Sand R C YY f L G /\ ρ = [s0, s1, s2, s3, .val (tL (R + 1) (C + 1) f), s5, s6, s7, s8, s9, tS (R + 1) (C + 1) L, tS (R + 1) (C + 1) G, .val (.int (y : Nat)), .val (.lst (wL k fun i => .tup [.int ((a i : Nat) : Int), .int ((b i : Nat) : Int)])), s14, s15, s16, s17]) ⟨L, G, _, _, _, sd, rfl⟩ ?_ ?_
 ·rintro i _ hi ⟨L, G, s14, s15, s16, sd, rfl⟩
  obtain ⟨ha, hb⟩ := hab i hi
  simp! only [↓ze3]
  by_cases z : (((a i : Nat) : Int) + ((b i : Nat) : Int) + (y : Int)) % 2 = 0
  ·rw [if_pos z]
   simp! only [zan _ ha, zan _ hb, zc1, zc3 _ ha, zfG _ _ ha hb, ha, hb]
   exact ⟨_, _, _, _, _, sd.putG, rfl⟩
  ·rw [if_neg z, if_pos (by omega)]
   simp! only [zan _ ha, zan _ hb, zc1, zc3 _ ha, zfG _ _ ha hb, ha, hb]
   exact ⟨_, _, _, _, _, sd.putL, rfl⟩
 ·rintro _ ⟨L, G, s14, s15, s16, sd, rfl⟩
  exact hQ _ _ _ _ _ sd
theorem zkY (h : Pot ds) (hR : R <= 50) (hC : C <= 50) {z : Int} (z0 : 0 <= z) (z1 : 100 * z <= YY) (s4 s5 s6 s7 s8 s9 s10 s11 s12 s13 s14 s15 s16 s17 : Sl) (Q : List D × M.R -> Prop)
  (hQ : ∀ (f : Nat -> Nat -> Int) ds', Pot ds' -> (∀ r c, r < R + 1 -> c < C + 1 -> -(9 * z) <= f r c /\ f r c <= 9 * z) -> Q (wL (R + 1) fun r => .lst (wI (C + 1) (f r)), [.par ds', .val (.int ((R + 1 : Nat) : Int)), .val (.int ((C + 1 : Nat) : Int)), .val (.int z), s4, s5, s6, s7, s8, s9, s10, s11, s12, s13, s14, s15, s16, s17])) :
  Ok (zcE [.par ds, .val (.int ((R + 1 : Nat) : Int)), .val (.int ((C + 1 : Nat) : Int)), .val (.int z), s4, s5, s6, s7, s8, s9, s10, s11, s12, s13, s14, s15, s16, s17]) Q := by
 simp! only [↓zcE]
 refine ⟨zaC (by omega) (by omega), by omega, zcG (fun i acc ρ => ∃ (f : Nat -> Nat -> Int) (ds' : List D) (s : Sl), Pot ds' /\ (∀ r c, r < i -> c < C + 1 -> -(9 * z) <= f r c /\ f r c <= 9 * z) /\ acc = (wL i fun r => .lst (wI (C + 1) (f r))) /\ ρ = [.val (.int ((C + 1 : Nat) : Int)), .par ds', .val (.int z), s]) ⟨fun _ _ => 0, ds, .emp, h, fun r c hr => absurd hr (Nat.not_lt_zero _), rfl, rfl⟩ ?_ ?_⟩
 ·rintro i _ _ hi ⟨f, d1, s, h1, bf, rfl, rfl⟩
  simp! only [↓ze7, ↓zeD]
  refine ⟨zaC (by omega) (by omega), by omega, zcG (fun j acc ρ => ∃ (q : Nat -> Int) (ds' : List D) (s : Sl), Pot ds' /\ (∀ c, c < j -> -(9 * z) <= q c /\ q c <= 9 * z) /\ acc = wI j q /\ ρ = [.par ds', .val (.int z), s]) ⟨fun _ => 0, d1, .emp, h1, fun c hc => absurd hc (Nat.not_lt_zero _), rfl, rfl⟩ ?_ ?_⟩
  ·rintro j _ _ hj ⟨q, d2, s, h2, bq, rfl, rfl⟩
   simp! only [↓zeM]
   refine (zaY h2 (m := 19) (by omega) (by omega)).mono ?_
   rintro _ ⟨t, d3, ht, h3, rfl⟩
   simp! only []
   refine ⟨zb9 (by omega), _, _, _, h3, ?_, ziy j q _, rfl⟩
   exact zg3 (P := fun _ x => -(9 * z) <= x /\ x <= 9 * z) bq (zjW (by omega) (by omega) z0 (Int.le_refl z) (by decide))
  rintro _ _ ⟨q, d2, s, h2, bq, rfl, rfl⟩
  simp! only []
  refine ⟨fun r => if r = i then q else f r, _, _, h2, fun r c hr hc => ?_, ?_, rfl⟩
  ·(try dsimp only)
   by_cases e : r = i
   ·rw [if_pos e]; exact bq c hc
   ·rw [if_neg e]; exact bf r c (by omega) hc
  ·show _ ++ [_] = _
   rw [za1]
   congr 1
   ·exact zbp fun r hr => by (try dsimp only); rw [if_neg (by omega)]
   ·simp
 ·rintro _ _ ⟨f, d1, s, h1, bf, rfl, rfl⟩
  simp! only []
  exact hQ _ _ h1 bf
theorem zme {q1 q2 : Nat -> Nat} {cs1 cs2 : List D} {z : Int} {d7 : List D} (r5 : R <= 5) (c5 : C <= 5) (n1 : 1 <= n) (hc1 : Cells R C n cs1) (hc2 : Cells R C k cs2) (z0 : 0 <= z) (z1 : 100 * z <= YY) (bf : ∀ r c, r < R + 1 -> c < C + 1 -> -(9 * z) <= f r c /\ f r c <= 9 * z) :
  Ok (zca [.par d7, .val (.int ((R + 1 : Nat) : Int)), .val (.int ((C + 1 : Nat) : Int)), .val (.int z), .val (tL (R + 1) (C + 1) f), .val (.int (n : Nat)), .val (.lst (wL n fun i => .int ((q1 i : Nat) : Int))), .val (.lst (wL n fun i => .int ((q2 i : Nat) : Int))), .val (.lst cs1), .own cs2, .emp, .emp, .emp, .emp, .emp, .emp, .emp, .emp])
   fun p => ∃ L G a, Bd R C (28 * YY) (21 * YY) (four f) L G /\ p = (.ret (.val (.tup [zaO R C (four f) L G, .tup [.int ((q1 0 : Nat) : Int), .int ((q2 (n - 1) : Nat) : Int)]])), .par d7 :: a) := by
 simp! only [↓zca]
 refine ⟨by omega, zea (fun ρ => ∃ s, ρ = [.val (.int z), s]) (fun a => wI (C + 1) fun b => f a b - 50 * z) ⟨_, rfl⟩ ?_ ?_⟩
 ·rintro a _ ha ⟨s, rfl⟩
  simp! only [↓zfl, ↓zeq, ↓zeN]
  refine ⟨by omega, zaW (fun ρ => ∃ s, ρ = [.val (.int z), s]) (fun b => .int (f a b - 50 * z)) ⟨_, rfl⟩ ?_ ?_⟩
  ·rintro b _ hb ⟨s, rfl⟩
   simp! only [↓ze9]
   exact ⟨zb9 (by decide), _, rfl⟩
  ·rintro _ ⟨s, rfl⟩
   exact ⟨rfl, rfl, _, rfl⟩
 rintro _ ⟨s, rfl⟩
 rw [show ((List.range (R + 1)).map fun a => wI (C + 1) fun b => f a b - 50 * z).map Ch.l = tC (R + 1) (C + 1) fun a b => f a b - 50 * z from by unfold tC; rw [List.map_map]; rfl]
 simp! only []
 refine ⟨by omega, zea (fun ρ => ∃ s, ρ = [.val (.int z), s]) (fun a => wI (C + 1) fun b => f a b + 50 * z) ⟨_, rfl⟩ ?_ ?_⟩
 ·rintro a _ ha ⟨s, rfl⟩
  simp! only [↓zfl, ↓zew, ↓zeb]
  refine ⟨by omega, zaW (fun ρ => ∃ s, ρ = [.val (.int z), s]) (fun b => .int (f a b + 50 * z)) ⟨_, rfl⟩ ?_ ?_⟩
  ·rintro b _ hb ⟨s, rfl⟩
   simp! only [↓zeV]
   exact ⟨zb9 (by decide), _, rfl⟩
  ·rintro _ ⟨s, rfl⟩
   exact ⟨rfl, rfl, _, rfl⟩
 rintro _ ⟨s, rfl⟩
 rw [show ((List.range (R + 1)).map fun a => wI (C + 1) fun b => f a b + 50 * z).map Ch.l = tC (R + 1) (C + 1) fun a b => f a b + 50 * z from by unfold tC; rw [List.map_map]; rfl]
 have sd : Sand R C YY f (fun a b => f a b - 50 * z) (fun a b => f a b + 50 * z) := fun r c hr hc => by
  have := bf r c hr hc; (try dsimp only); omega
 simp! only [↓zd3]
 rw [show [D.tup [.int 0, .lst cs1], .tup [.int 1, .lst cs2]] = wL 2 fun i => D.tup [.int (i : Nat), .lst (if i = 0 then cs1 else cs2)] from rfl]
 refine zaS (fun i ρ => ∃ L G s12 s13 s14 s15 s16, Sand R C YY f L G /\ ρ = [.par d7, .val (.int ((R + 1 : Nat) : Int)), .val (.int ((C + 1 : Nat) : Int)), .val (.int z), .val (tL (R + 1) (C + 1) f), .val (.int (n : Nat)), .val (.lst (wL n fun i => .int ((q1 i : Nat) : Int))), .val (.lst (wL n fun i => .int ((q2 i : Nat) : Int))), .val (.lst cs1), .val (.lst cs2), tS (R + 1) (C + 1) L, tS (R + 1) (C + 1) G, s12, s13, s14, s15, s16, .emp]) ⟨_, _, _, _, _, _, _, sd, rfl⟩ ?_ ?_
 ·rintro i _ hi ⟨L, G, s12, s13, s14, s15, s16, sd, rfl⟩
  simp! only []
  have : i = 0 \/ i = 1 := by omega
  rcases this with rfl | rfl
  ·exact zlr hc1 (by decide) _ _ _ _ _ _ _ _ _ _ _ _ _ sd _ fun L G s14 s15 s16 sd => ⟨_, _, _, _, _, _, _, sd, rfl⟩
  ·exact zlr hc2 (by decide) _ _ _ _ _ _ _ _ _ _ _ _ _ sd _ fun L G s14 s15 s16 sd => ⟨_, _, _, _, _, _, _, sd, rfl⟩
 rintro _ ⟨L, G, s12, s13, s14, s15, s16, sd, rfl⟩
 obtain ⟨e, rfl⟩ : ∃ e, n = e + 1 := ⟨n - 1, by omega⟩
 simp! only [tC_D]
 refine (zjD _ (.inr rfl) (by omega) (by omega)).mono ?_
 rintro _ rfl
 simp! only []
 refine (zgl (by omega) (by omega)).mono ?_
 rintro _ rfl
 simp! only []
 refine (zgl (by omega) (by omega)).mono ?_
 rintro _ rfl
 simp! only [zan _ (show 0 < e + 1 by omega), zlx]
 have y0 : (0 : Int) <= YY := by decide +kernel
 refine ⟨_, _, _, ⟨fun r c hr hc => ?_, fun r c hr hc => ?_⟩, rfl⟩
 ·have z1 := bf r c (by omega) (by omega)
  have z2 := bf r (c + 1) (by omega) (by omega)
  have z3 := bf (r + 1) c (by omega) (by omega)
  have z4 := bf (r + 1) (c + 1) (by omega) (by omega)
  unfold four
  omega
 ·have := sd r c hr hc
  omega
theorem stair_ok (h : Pot ds) : Ok (zb5 ds []) fun x => ∃ (R C : Nat) (S L G : Nat -> Nat -> Int) (r c : Nat) (ds' : List D), Pot ds' /\ 1 <= R /\ R <= 5 /\ 1 <= C /\ C <= 5 /\ r < R + 1 /\ c < C + 1 /\ Bd R C (28 * YY) (21 * YY) S L G /\ x = (.val (.tup [zaO R C S L G, .tup [.int (r : Nat), .int (c : Nat)]]), ds') := by
 simp! only [↓zb5, ↓ze1]
 refine (zaY h (m := 5) (by omega) (by omega)).mono ?_
 rintro _ ⟨a, d1, ha, h1, rfl⟩
 simp! only []
 refine (zaY h1 (m := 5) (by omega) (by omega)).mono ?_
 rintro _ ⟨b, d2, hb, h2, rfl⟩
 simp! only []
 refine (zaY h2 (m := 2) (by omega) (by omega)).mono ?_
 rintro _ ⟨x, d3, hx, h3, rfl⟩
 have hx' : ∃ z : Int, 0 <= z /\ 100 * z <= YY /\ [D.int 1, D.int 100000000000000000000000000000000000000000000000000000000][x]? = some (.int z) := by
  have : x = 0 \/ x = 1 := by omega
  rcases this with rfl | rfl
  ·exact ⟨1, by decide, by decide +kernel, rfl⟩
  ·exact ⟨_, by decide +kernel, by decide +kernel, rfl⟩
 obtain ⟨z, z0, z1, ez⟩ := hx'
 obtain ⟨R, hR⟩ : ∃ R, R = a + 1 := ⟨_, rfl⟩
 obtain ⟨C, hC⟩ : ∃ C, C = b + 1 := ⟨_, rfl⟩
 have eR : (2 : Int) + (a : Int) = ((R + 1 : Nat) : Int) := by omega
 have eC : (2 : Int) + (b : Int) = ((C + 1 : Nat) : Int) := by omega
 simp! only [ez, eR, eC]
 refine zkY h3 (by omega) (by omega) z0 z1 _ _ _ _ _ _ _ _ _ _ _ _ _ _ _ fun f d4 h4 bf => ?_
 obtain ⟨n, hn⟩ : ∃ n : Nat, min2 ((R + 1 : Nat) : Int) ((C + 1 : Nat) : Int) = (n : Nat) /\ 2 <= n /\ n <= R + 1 /\ n <= C + 1 := by
  unfold min2
  split
  ·exact ⟨C + 1, rfl, by omega, by omega, by omega⟩
  ·exact ⟨R + 1, rfl, by omega, by omega, by omega⟩
 obtain ⟨en, n2, nR, nC⟩ := hn
 simp! only [en]
 refine (zj2 h4 nR (by omega)).mono ?_
 rintro _ ⟨l1, d5, h5, b1, rfl⟩
 simp! only []
 refine (zj2 h5 nC (by omega)).mono ?_
 rintro _ ⟨l2, d6, h6, b2, rfl⟩
 obtain ⟨q1, hq1, rfl⟩ := b1
 obtain ⟨q2, hq2, rfl⟩ := b2
 have en1 : ((n : Nat) : Int) - 1 = ((n - 1 : Nat) : Int) := by omega
 simp! only [↓zeZ]
 refine ⟨zaC (by omega) (by omega), by omega, zaW (fun ρ => ∃ s, ρ = [.val (.lst (wL n fun i => .int ((q1 i : Nat) : Int))), .val (.lst (wL n fun i => .int ((q2 i : Nat) : Int))), s]) (fun i => .tup [.int ((q1 i : Nat) : Int), .int ((q2 i : Nat) : Int)]) ⟨_, rfl⟩ ?_ ?_⟩
 ·rintro i _ hi ⟨s, rfl⟩
  simp! only [↓ze0, zan _ hi]
  exact ⟨_, rfl⟩
 rintro _ ⟨s, rfl⟩
 simp! only [↓ze8, en1]
 refine ⟨zaC (by omega) (by omega), by omega, zaW (fun ρ => ∃ s, ρ = [.val (.lst (wL n fun i => .int ((q1 i : Nat) : Int))), .val (.lst (wL n fun i => .int ((q2 i : Nat) : Int))), s]) (fun i => .tup [.int ((q1 (i + 1) : Nat) : Int), .int ((q2 i : Nat) : Int)]) ⟨_, rfl⟩ ?_ ?_⟩
 ·rintro i _ hi ⟨s, rfl⟩
  have e1 : (i : Int) + 1 = ((i + 1 : Nat) : Int) := by omega
  simp! only [↓zeR, e1, zan _ (show i < n by omega), zan _ (show i + 1 < n by omega)]
  exact ⟨_, rfl⟩
 rintro _ ⟨s, rfl⟩
 simp! only []
 refine (zaY h6 (m := 2) (by omega) (by omega)).mono ?_
 rintro _ ⟨y, d7, hy, h7, rfl⟩
 obtain ⟨e, rfl⟩ : ∃ e, n = e + 1 := ⟨n - 1, by omega⟩
 have hc1 : Cells R C (e + 1) (wL (e + 1) fun i => .tup [.int ((q1 i : Nat) : Int), .int ((q2 i : Nat) : Int)]) := ⟨q1, q2, fun i hi => ⟨hq1 i hi, hq2 i hi⟩, rfl⟩
 have hc2 : Cells R C (e + 1 - 1) (wL (e + 1 - 1) fun i => .tup [.int ((q1 (i + 1) : Nat) : Int), .int ((q2 i : Nat) : Int)]) := ⟨fun i => q1 (i + 1), q2, fun i hi => ⟨hq1 (i + 1) (by omega), hq2 i (by omega)⟩, rfl⟩
 have hc3 : Cells R C (e + 1 - 1 + 1) ((wL (e + 1 - 1) fun i => .tup [.int ((q1 (i + 1) : Nat) : Int), .int ((q2 i : Nat) : Int)]) ++ [.tup [.int ((q1 0 : Nat) : Int), .int ((q2 e : Nat) : Int)]]) := by
  refine ⟨fun i => if i < e then q1 (i + 1) else q1 0, fun i => if i < e then q2 i else q2 e, fun i hi => ?_, ?_⟩
  ·(try dsimp only)
   split
   ·exact ⟨hq1 _ (by omega), hq2 _ (by omega)⟩
   ·exact ⟨hq1 0 (by omega), hq2 e (by omega)⟩
  ·rw [za1]
   congr 1
   ·exact zbp fun i hi => by (try dsimp only); rw [if_pos (by omega), if_pos (by omega)]
   ·(try dsimp only); rw [if_neg (by omega), if_neg (by omega)]
 simp! only [zan _ (show 0 < e + 1 by omega), zlx]
 refine ⟨fun _ => ⟨by omega, ?_⟩, fun _ => ?_⟩
 ·refine (zme (by omega) (by omega) (by omega) hc1 hc3 z0 z1 bf).mono ?_
  rintro _ ⟨L, G, a, bd, rfl⟩
  simp! only []
  exact ⟨R, C, _, _, _, _, _, _, h7, by omega, by omega, by omega, by omega, hq1 0 (by omega), hq2 _ (by omega), bd, rfl⟩
 ·refine (zme (by omega) (by omega) (by omega) hc1 hc2 z0 z1 bf).mono ?_
  rintro _ ⟨L, G, a, bd, rfl⟩
  simp! only []
  exact ⟨R, C, _, _, _, _, _, _, h7, by omega, by omega, by omega, by omega, hq1 0 (by omega), hq2 _ (by omega), bd, rfl⟩
end
section
variable {R C : Nat} {S L G w : Nat -> Nat -> Int}
theorem Cells.snoc (h : Cells R C k ds) {r c : Nat} (hr : r < R + 1) (hc : c < C + 1) : Cells R C (k + 1) (ds ++ [.tup [.int (r : Nat), .int (c : Nat)]]) := by
 obtain ⟨a, b, hab, rfl⟩ := h
 refine ⟨fun i => if i < k then a i else r, fun i => if i < k then b i else c, fun i hi => ?_, ?_⟩
 ·(try dsimp only)
  split
  ·exact hab i (by assumption)
  ·exact ⟨hr, hc⟩
 ·rw [za1]
  congr 1
  ·exact zbp fun i hi => by (try dsimp only); rw [if_pos hi, if_pos hi]
  ·(try dsimp only); rw [if_neg (Nat.lt_irrefl _), if_neg (Nat.lt_irrefl _)]
theorem ways_of (r5 : R <= 5) (c5 : C <= 5) (bd : Bd R C (28 * YY) (21 * YY) S L G) (lo : Lo R C (pln S) L G w) (up : Up R C (pln S) L G w) (dg : Dg (R + 1 + (C + 1)) w) (tri : Tri (R + 1 + (C + 1)) (R + 1 + (C + 1)) w) (h : ((List.range (R + 1 + (C + 1))).all fun u => decide (0 <= w u u)) = true) : Ways R C (pln S) L G w :=
 ⟨lo, up, dg, tri, fun u hu => of_decide_eq_true (List.all_eq_true.mp h u (List.mem_range.mpr hu)), fun r c hr hc => (bd.2 r c hr hc).1, _, by decide +kernel, room_of r5 c5 bd⟩
theorem zhs (hc : Cells R C k cs) (r5 : R <= 5) (c5 : C <= 5) (bd : Bd R C (28 * YY) (21 * YY) S L G) : Ok (zaM [zaO R C S L G, .lst cs]) fun x => x = .val (.bl true) := by
 obtain ⟨a, b, hab, rfl⟩ := hc
 simp! only [↓zaM, ↓zbK]
 refine (ways_ok r5 c5).mono ?_
 rintro _ ⟨w, lo, up, dg, tri, rfl⟩
 simp! only [tC_D]
 refine (can_ok (by omega)).mono ?_
 rintro _ rfl
 cases hcan : (List.range (R + 1 + (C + 1))).all fun u => decide (0 <= w u u) with
 | false => simp! only [↓zbl]
 | true =>
  have y := ways_of r5 c5 bd lo up dg tri hcan
  simp! only [↓zb1]
  refine zaS (fun i ρ => ∃ s3 s4, ρ = [.val (zaO R C S L G), .val (.lst (wL k fun i => .tup [.int ((a i : Nat) : Int), .int ((b i : Nat) : Int)])), .val (tL (R + 1 + (C + 1)) (R + 1 + (C + 1)) w), s3, s4]) ⟨_, _, rfl⟩ ?_ ?_
  ·rintro i _ hi ⟨s3, s4, rfl⟩
   simp! only [↓zb2]
   refine (right_ok y r5 c5 (hab i hi).1 (hab i hi).2).mono ?_
   rintro _ rfl
   simp! only []
   exact ⟨_, _, rfl⟩
  ·rintro _ ⟨s3, s4, rfl⟩
   simp! only [↓zbl]
end
theorem math (ns : List Int) (hl : ns.length <= 63) : zjd [.scr ns] = some (.val (.bl true)) := by
 have : Ok (zjd [.scr ns]) fun r => r = .val (.bl true) := by
  have ct : cutD ns none (some 4) = ns.take 4 := zkB ns 4
  have len : (ns.take 4).length <= 4 := by rw [List.length_take]; omega
  simp! only [↓zjd, ↓m_law, ↓zkn, ct]
  refine ⟨by omega, ?_⟩
  rw [show (ns.take 4).map D.int ++ [D.int 0] = (ns.take 4 ++ [0]).map D.int by simp]
  refine ok_for (enc := D.int) (l := ns.take 4 ++ [0]) (fun _ ρ => ∃ s1 s2 s3 s4 s5 s6 s7, ρ = [.val (.scr ns), s1, s2, s3, s4, s5, s6, s7]) ⟨_, _, _, _, _, _, _, rfl⟩ ?_ ?_
  ·rintro i c _ _ ⟨s1, s2, s3, s4, s5, s6, s7, rfl⟩
   simp! only [↓zkv]
   refine (deal_ok c).mono ?_
   rintro _ ⟨d1, h1, rfl⟩
   simp! only []
   refine (floor_ok h1).mono ?_
   rintro _ ⟨R, C, S, L, G, d2, h2, r1, r5, c1, c5, bd, rfl⟩
   simp! only [zan _ (show 0 < R + 1 by omega), ↓zku]
   refine ⟨rfl, zcG (fun j acc ρ => ∃ (ds' : List D) (s : Sl), Pot ds' /\ Cells R C j acc /\ ρ = [.par ds', .val (.int ((R + 1 : Nat) : Int)), .val (.int ((C + 1 : Nat) : Int)), s]) ⟨d2, .emp, h2, ⟨fun _ => 0, fun _ => 0, fun i hi => absurd hi (Nat.not_lt_zero _), rfl⟩, rfl⟩ ?_ ?_⟩
   ·rintro j _ _ hj ⟨e2, s, g2, ca, rfl⟩
    simp! only [↓zjV]
    refine (zaY g2 (m := ((R + 1 : Nat) : Int)) (by omega) (by omega)).mono ?_
    rintro _ ⟨r, e3, hr, g3, rfl⟩
    simp! only []
    refine (zaY g3 (m := ((C + 1 : Nat) : Int)) (by omega) (by omega)).mono ?_
    rintro _ ⟨k, e4, hk, g4, rfl⟩
    simp! only []
    exact ⟨_, _, g4, ca.snoc (by omega) (by omega), rfl⟩
   rintro _ _ ⟨d3, s, h3, ca, rfl⟩
   have eR : ((R + 1 : Nat) : Int) - 1 = ((R : Nat) : Int) := by omega
   have eC : ((C + 1 : Nat) : Int) - 1 = ((C : Nat) : Int) := by omega
   have cl : ∀ {ds : List D}, Cells R C 4 ds -> ds.length = 4 := fun {ds} h => by obtain ⟨a, b, _, rfl⟩ := h; rw [za8]
   simp! only [eR, eC, cl ca]
   refine (zhs (ca.snoc (r := R) (c := C) (by omega) (by omega)) r5 c5 bd).mono ?_
   rintro _ rfl
   simp! only [↓zj8]
   refine (stair_ok h3).mono ?_
   rintro _ ⟨R', C', S', L', G', r, k, d4, h4, r1', r5', c1', c5', hr, hk, bd', rfl⟩
   simp! only []
   refine (zaY h4 (m := ((R' + 1 : Nat) : Int)) (by omega) (by omega)).mono ?_
   rintro _ ⟨a, d5, ha, h5, rfl⟩
   simp! only [zan _ (show 0 < R' + 1 by omega)]
   refine (zaY h5 (m := ((C' + 1 : Nat) : Int)) (by omega) (by omega)).mono ?_
   rintro _ ⟨b, d6, hb, h6, rfl⟩
   simp! only []
   have c0 : Cells R' C' 0 [] := ⟨fun _ => 0, fun _ => 0, fun i hi => absurd hi (Nat.not_lt_zero _), rfl⟩
   refine (zhs ((c0.snoc hr hk).snoc (r := a) (c := b) (by omega) (by omega)) r5' c5' bd').mono ?_
   rintro _ rfl
   simp! only []
   exact ⟨_, _, _, _, _, _, _, rfl⟩
  ·rintro _ ⟨s1, s2, s3, s4, s5, s6, s7, rfl⟩
   simp! only []
 obtain ⟨_, e, rfl⟩ := this
 exact e
end Prf
def PySem.W.Fast.tw17916416863737377304 : Nat := 0
def PySem.W.Fast.tw4869002049964617427 : Nat := 0
def PySem.W.Fast.tw16310311835888570107 : Nat := 0
def PySem.W.Fast.tw9637632557842556298 : Nat := 0
def PySem.W.Fast.tw4550933710600122773 : Nat := 0
def PySem.W.Fast.tw12819181270928112836 : Nat := 0
def PySem.W.Fast.tw2223530179279631754 : Nat := 0
def PySem.W.Fast.tw7612673615153186511 : Nat := 0
def PySem.W.Fast.tw4672339941220150637 : Nat := 0
def PySem.W.Fast.tw5269727933521608224 : Nat := 0
def PySem.W.Fast.tw14096831169594527365 : Nat := 0
def PySem.W.Fast.tw5519634656656568854 : Nat := 0
def PySem.W.Fast.tw15810976086296838884 : Nat := 0
def PySem.W.Fast.tw15846860153198563536 : Nat := 0
def PySem.W.Fast.tw1681531365166183397 : Nat := 0
def PySem.W.Fast.tw1562146032715996004 : Nat := 0
def PySem.W.Fast.tw1525989862320545712 : Nat := 0
def PySem.W.Fast.tw9541705947386316668 : Nat := 0
def PySem.W.Fast.tw11483074991986797576 : Nat := 0
def PySem.W.Fast.tw7052278034447276860 : Nat := 0
def PySem.W.Fast.tw10686714662491222642 : Nat := 0
def PySem.W.Fast.tw3462012028392959324 : Nat := 0
def PySem.W.Fast.tw8251065733070132466 : Nat := 0
def PySem.W.Fast.tw2056886710339289271 : Nat := 0
def PySem.W.Fast.tw52909747121400096 : Nat := 0
def PySem.W.Fast.tw12352889764976592804 : Nat := 0
def PySem.W.Fast.tw5212755102382388294 : Nat := 0
def PySem.W.Fast.tw13338351995813235448 : Nat := 0
def PySem.W.Fast.tw15082748848410457373 : Nat := 0
def PySem.W.Fast.tw8037738435053971646 : Nat := 0
def PySem.W.Fast.tw9417360099602298103 : Nat := 0
def PySem.W.Fast.tw11837514271979073444 : Nat := 0
def PySem.W.Fast.tw222307675050284346 : Nat := 0
def PySem.W.Fast.tw4540710481436311690 : Nat := 0
def PySem.W.Fast.tw8441927789019775102 : Nat := 0
def PySem.W.Fast.tw14850551498284050229 : Nat := 0
def PySem.W.Fast.tw639666362707012078 : Nat := 0
def PySem.W.Fast.tw7651303852183262117 : Nat := 0
def PySem.W.Fast.tw13817342880504989431 : Nat := 0
def PySem.W.Fast.tw12371976329062296433 : Nat := 0
def PySem.W.Fast.tw8981022440314862330 : Nat := 0
def PySem.W.Fast.tw3368340952061080678 : Nat := 0
def PySem.W.Fast.tw13282973296101404080 : Nat := 0
def PySem.W.Fast.tw2003745921511661636 : Nat := 0
def PySem.W.Fast.tw13355988603810625625 : Nat := 0
def PySem.W.Fast.tw11920425204387539539 : Nat := 0
def PySem.W.Fast.tw12743159616331628160 : Nat := 0
def PySem.W.Fast.tw3702214666842675040 : Nat := 0
def PySem.W.Fast.tw14954685122486780755 : Nat := 0
def PySem.W.Fast.tw743594984840380897 : Nat := 0
def PySem.W.Fast.tw10291657980406291756 : Nat := 0
def PySem.W.Fast.tw4284565171320760809 : Nat := 0
def PySem.W.Fast.tw7589593613110823478 : Nat := 0
def PySem.W.Fast.tw14191395829082240664 : Nat := 0
def PySem.W.Fast.tw17849072435145587299 : Nat := 0
def PySem.W.Fast.tw16133403148262556516 : Nat := 0
def PySem.W.Fast.tw3094419557563092175 : Nat := 0
def PySem.W.Fast.tw5739614304894441569 : Nat := 0
def PySem.W.Fast.tw17171173889015131893 : Nat := 0
def PySem.W.Fast.tw9593683986870785078 : Nat := 0
def PySem.W.Fast.tw3478289598898879422 : Nat := 0
def PySem.W.Fast.tw3309431330492734074 : Nat := 0
def PySem.W.Fast.tw15476619522275674939 : Nat := 0
def PySem.W.Fast.tw16407941775170689305 : Nat := 0
def PySem.W.Fast.tw11747799681737315381 : Nat := 0
def PySem.W.Fast.tw7154159544769688024 : Nat := 0
def PySem.W.Fast.tw5761996936503685481 : Nat := 0
def PySem.W.Fast.tw9089114819545170967 : Nat := 0
def PySem.W.Fast.tw11830959349473574062 : Nat := 0
def PySem.W.Fast.tw9183387748468921950 : Nat := 0
def PySem.W.Fast.tw2059292228507227847 : Nat := 0
def PySem.W.Fast.tw7126054418728981510 : Nat := 0
def PySem.W.Fast.tw11296340058177439092 : Nat := 0
def PySem.W.Fast.tw16976287728537719577 : Nat := 0
def PySem.W.Fast.tw17053321686912552387 : Nat := 0
def PySem.W.Fast.tw16911808740265427857 : Nat := 0
def PySem.W.Fast.tw16856428093435143262 : Nat := 0
def PySem.W.Fast.tw6567379245518375049 : Nat := 0
def PySem.W.Fast.tw5775373471613444090 : Nat := 0
def PySem.W.Fast.tw9668935241558950061 : Nat := 0
def PySem.W.Fast.tw17925615031256193584 : Nat := 0
def PySem.W.Fast.tw11340070225620535652 : Nat := 0
def PySem.W.Fast.tw12396066921519720301 : Nat := 0
def PySem.W.Fast.tw17611406621168199663 : Nat := 0
def PySem.W.Fast.tw4795077973787637398 : Nat := 0
def PySem.W.Fast.tw8154006089788321988 : Nat := 0
def PySem.W.Fast.tw13329501955873447194 : Nat := 0
def PySem.W.Fast.tw15303128923452725150 : Nat := 0
def PySem.W.Fast.tw7533802614720549911 : Nat := 0
def PySem.W.Fast.tw13407127926487790393 : Nat := 0
def PySem.W.Fast.tw15770187493422251336 : Nat := 0
def PySem.W.Fast.tw10880970944838483658 : Nat := 0
def PySem.W.Fast.tw5671846225195257492 : Nat := 0
def PySem.W.Fast.tw5194603852213906832 : Nat := 0
def PySem.W.Fast.tw17632660961041491661 : Nat := 0
def PySem.W.Fast.tw17919884738381638073 : Nat := 0
def PySem.W.Fast.tw2931340686417176113 : Nat := 0
def PySem.W.Fast.tw159883796843256303 : Nat := 0
def PySem.W.Fast.tw17967943940351332661 : Nat := 0
def PySem.W.Fast.tw7246900329498334697 : Nat := 0
def PySem.W.Fast.tw9259272463081133082 : Nat := 0
def PySem.W.Fast.tw11669497157760645981 : Nat := 0
def PySem.W.Fast.tw16109344245251470446 : Nat := 0
def PySem.W.Fast.tw14870048185115666376 : Nat := 0
def PySem.W.Fast.tw3107086706498454524 : Nat := 0
def PySem.W.Fast.tw1220254866587684379 : Nat := 0
def PySem.W.Fast.tw1823077877741088950 : Nat := 0
def PySem.W.Fast.tw15941164624005336132 : Nat := 0
def PySem.W.Fast.tw8107890708181589601 : Nat := 0
def PySem.W.Fast.tw675881799984341127 : Nat := 0
def PySem.W.Fast.tw8232032711021055428 : Nat := 0
def PySem.W.Fast.tw16940742001306137516 : Nat := 0
def PySem.W.Fast.tw15748689585745322452 : Nat := 0
def PySem.W.Fast.tw4196198087500404774 : Nat := 0
def PySem.W.Fast.tw619148612850544641 : Nat := 0
def PySem.W.Fast.tw2742037686833096700 : Nat := 0
def PySem.W.Fast.tw6657733595802866788 : Nat := 0
def PySem.W.Fast.tw18393474744626882975 : Nat := 0
def PySem.W.Fast.tw16471757479672149509 : Nat := 0
def PySem.W.Fast.tw10525023634837450629 : Nat := 0
def PySem.W.Fast.tw10446804055484631438 : Nat := 0
def PySem.W.Fast.tw16983868411643919690 : Nat := 0
def PySem.W.Fast.tw6162720182029919630 : Nat := 0
def PySem.W.Fast.tw11081738272753524698 : Nat := 0
def PySem.W.Fast.tw12092033759945606 : Nat := 0
def PySem.W.Fast.tw11136109382615267247 : Nat := 0
def PySem.W.Fast.tw16036440899934111167 : Nat := 0
def PySem.W.Fast.tw14269721617297173697 : Nat := 0
def PySem.W.Fast.tw8887738600782344962 : Nat := 0
def PySem.W.Fast.tw307777468510413558 : Nat := 0
def PySem.W.Fast.tw8863570206436450084 : Nat := 0
def PySem.W.Fast.tw388318465864273125 : Nat := 0
def PySem.W.Fast.tw7337214931147590347 : Nat := 0
def PySem.W.Fast.tw4068179906109582907 : Nat := 0
def PySem.W.Fast.tw18367442663726226939 : Nat := 0
def PySem.W.Fast.tw12342699807121856790 : Nat := 0
def PySem.W.Fast.tw11825971536352648313 : Nat := 0
def PySem.W.Fast.tw3481975651457333770 : Nat := 0
def PySem.W.Fast.tw5220680294537723844 : Nat := 0
def PySem.W.Fast.tw8388625381035931116 : Nat := 0
def PySem.W.Fast.tw14607139034066783757 : Nat := 0
def PySem.W.Fast.tw10274933177228320301 : Nat := 0
def PySem.W.Fast.tw6276003491730736304 : Nat := 0
def PySem.W.Fast.tw2824567836839844253 : Nat := 0
def PySem.W.Fast.tw3340192646645738796 : Nat := 0
def PySem.W.Fast.tw11236851146650381674 : Nat := 0
def PySem.W.Fast.tw18372349766246754588 : Nat := 0
def PySem.W.Fast.tw5022518195652307312 : Nat := 0
def PySem.W.Fast.tw14181063371051811878 : Nat := 0
def PySem.W.Fast.tw9311955205142618483 : Nat := 0
def PySem.W.Fast.tw9084292278911249040 : Nat := 0
def PySem.W.Fast.tw15976870334738997955 : Nat := 0
def PySem.W.Fast.tw3068450665905099679 : Nat := 0
def PySem.W.Fast.tw5437158396974569803 : Nat := 0
def PySem.W.Fast.tw1309435100812286318 : Nat := 0
def PySem.W.Fast.tw5378810996104223714 : Nat := 0
def PySem.W.Fast.tw17504851825632089286 : Nat := 0
open PyProof.Rows PySem PySem.W
set_option maxRecDepth 100000 in
set_option maxHeartbeats 0 in
theorem PySem.Challenge.cw_tellsum_k43_ranges_told_holds : PySem.Challenge.rw_tellsum_k43_ranges_told.Holds := by
  w_on; o_law; k_head; (case hw => w_witness2)
  k_fill
  refine Prf.walk (l := PySem.Challenge.rw_tellsum_k43_ranges_told) rfl rfl Prf.math (fun w h Y => W.kIn_of Y) ?F
  case F =>
    intro w mg fa h KX G hmg
    refine' Prf.all_mk KX G hmg ?h1 ?h2 ?h3 ?h4 ?h5 ?h6 ?h7 ?h8 ?h9 ?h10 ?h11 ?h12 ?h13 ?h14 ?h15 ?h16 ?h17 ?h18 ?h19 ?h20 ?h21 ?h22 ?h23 ?h24 ?h25 ?h26 ?h27 ?h28 ?h29 ?h30 ?h31 ?h32 ?h33 ?h34 ?h35 ?h36 ?h37 ?z0 ?z1 ?z2 ?z3 ?z4 ?z5 ?z6 ?z7 ?z8 ?z9 ?z10 ?z11 ?z12
    (case h1 | h2 | h3 | h4 | h5 | h6 | h7 | h8 | h9 | h10 | h11 | h12 | h13 | h14 | h15 | h16 | h17 | h18 | h19 | h20 | h21 | h22 | h23 | h24 | h25 | h26 | h27 | h28 | h29 | h30 | h31 | h32 | h33 | h34 | h35 | h36 | h37 =>
      refine' M.FnAt.mk ?a ?l ?c ?k
      (case a => k_is)
      (case l => k_is)
      (case c => k_is)
      (case k => k_is))
    (case z0 | z1 | z2 | z3 | z4 | z5 | z6 | z7 | z8 | z9 | z10 | z11 | z12 => k_is)
end
