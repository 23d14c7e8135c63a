import PyProof.Rows.All
import Wide.All
import OpenK.AllK
import Wide.FinOn
import Lean
import PyProof.EqAt
import PyProof.EqKinds
import PyProof.TupleCall
import PyProof.Rows.Range3
import PyProof.ZipIter
import PyProof.Draws
import PyProof.EnumMake
import PyProof.Rows.FactsTup
import PyProof.LayNew
import PyProof.Rows.SeqMore2
import PyProof.Rows.RuleIs
import KE.KRevIter
import PyProof.P3In
import PySem.Challenge.RW_tellsum_k42_whole_long_tours
set_option Elab.async false
set_option linter.all false
set_option bootstrap.genMatcherCode false
set_option compiler.extract_closed false
set_option maxRecDepth 100000
noncomputable section
namespace L2
open PyProof.Rows PySem PySem.Spec
variable {xs vs : List V} {us its : List Value} {x qual : Str} {u v cd : Value} {H : Hp} {a b it : Addr} {o : Obj} {w : World} {h base : Heap} {g' : Array GenState} {t' i j k n : Nat} {d' : Drawn} {ch fp : List Addr} {e c tg : Expr} {pins' pins pl : List (Addr × Obj)} {N ps : List Str} {A : Around} {E : Value -> Shared -> Prop} {Q : Unit -> Shared -> Prop} {X : Cx} {t : TSet} {s s' : Shared} {pos pos' : Pos} {σ : St} {K : W.Frag} {f : Value -> Value -> Sem Value} {tc : TT} {es : List Expr} {te : TE} {g : Int -> Int -> Int} {op op' : CmpOp} {tget : V -> V -> Hp -> VK -> Prop} {body : List Stmt} {tb : TS} {p : Addr × Obj} {r : V -> Hp -> VK -> Prop} {C : Int -> Int -> Prop} {fd : FuncData} {kindOf : Str -> Option NameKind} {sc scope : Scope} {CX : CXT} {mg : Str -> Option Value} {outer : List Env} {params : Arguments}
abbrev Key := Sum Int Str
def zj9 : Key -> Value -> Bool
 | .inl k, v => Value.isInt k v
 | .inr x, v => Value.isStrOf x v
def keyH (w : World) : Key -> Int
 | .inl k => hashInt k
 | .inr x => hashStr w x
theorem za1 : ∀ {k : Key} {v : Value}, zj9 k v = true -> (∃ i t, k = Sum.inl i /\ v = Value.int i t) \/ (∃ x t, k = Sum.inr x /\ v = Value.str x t)
 | .inl i, v, h => by
  obtain ⟨t, e⟩ := Value.isInt_shape (k := i) (v := v) h
  exact .inl ⟨i, t, rfl, e⟩
 | .inr x, v, h => by
  obtain ⟨t, e⟩ := Value.isStrOf_shape (x := x) (v := v) h
  exact .inr ⟨x, t, rfl, e⟩
theorem zlk (i : Int) (t : Tok) : zj9 (.inl i) (.int i t) = true := by simp [zj9, Value.isInt]
theorem zlr (x : Str) (t : Tok) : zj9 (.inr x) (.str x t) = true := by simp [zj9, Value.isStrOf]
theorem key_ll (a b : Int) : decide ((Sum.inl a : Key) = Sum.inl b) = (a == b) := by
 by_cases e : a = b
 ·subst e; simp
 ·have h : ¬ (Sum.inl a : Key) = Sum.inl b := fun q => e (Sum.inl.inj q)
  rw [decide_eq_false h]
  exact (beq_eq_false_iff_ne.mpr e).symm
theorem key_rr (a b : Str) : decide ((Sum.inr a : Key) = Sum.inr b) = decide (a = b) := by
 by_cases e : a = b
 ·subst e; simp
 ·have h : ¬ (Sum.inr a : Key) = Sum.inr b := fun q => e (Sum.inr.inj q)
  rw [decide_eq_false h, decide_eq_false e]
theorem key_lr (a : Int) (b : Str) : decide ((Sum.inl a : Key) = Sum.inr b) = false := decide_eq_false (fun q => nomatch q)
theorem key_rl (a : Str) (b : Int) : decide ((Sum.inr a : Key) = Sum.inl b) = false := decide_eq_false (fun q => nomatch q)
def zbj (prog : Program) (w : World) : PySem.KeyKind prog w Key where
 is := zj9
 hash := keyH w
 inj := fun v a b ha hb => by
  rcases za1 ha with ⟨i, t, rfl, rfl⟩ | ⟨x, t, rfl, rfl⟩
  ·rcases za1 hb with ⟨j, u, rfl, e⟩ | ⟨y, u, rfl, e⟩
   ·injection e with e1 _; rw [e1]
   ·exact nomatch e
  ·rcases za1 hb with ⟨j, u, rfl, e⟩ | ⟨y, u, rfl, e⟩
   ·exact nomatch e
   ·injection e with e1 _; rw [e1]
 byValue := fun k v h => by
  rcases za1 h with ⟨i, t, rfl, rfl⟩ | ⟨x, t, rfl, rfl⟩ <;> rfl
 pyHash := fun hv h => by
  rcases za1 hv with ⟨i, t, rfl, rfl⟩ | ⟨x, t, rfl, rfl⟩
  ·exact wpAny_pyHash_int h
  ·exact wpAny_pyHash_str h
 eqBool := fun hu hv h => by
  rcases za1 hu with ⟨i, t, rfl, rfl⟩ | ⟨x, t, rfl, rfl⟩
  ·rcases za1 hv with ⟨j, u, rfl, rfl⟩ | ⟨y, u, rfl, rfl⟩
   ·rw [key_ll] at h; exact wpAny_eqBool_int h
   ·rw [key_lr] at h; exact SeqAt.EqAt.int_str i t y u _ _ _ _ h
  ·rcases za1 hv with ⟨j, u, rfl, rfl⟩ | ⟨y, u, rfl, rfl⟩
   ·rw [key_rl] at h; exact SeqAt.EqAt.str_int x t j u _ _ _ _ h
   ·rw [key_rr] at h; exact wpAny_eqBool_str h
 «strs» := fun k x t v h => by
  rcases za1 h with ⟨i, u, rfl, e⟩ | ⟨y, u, rfl, e⟩
  ·exact nomatch e
  ·injection e with e1 _
   subst e1
   cases v <;> rfl
theorem ziZ (prog : Program) (w : World) (i : Int) (t : Tok) : (zbj prog w).is (.inl i) (.int i t) = true := zlk i t
theorem ziR (prog : Program) (w : World) (x : Str) (t : Tok) : (zbj prog w).is (.inr x) (.str x t) = true := zlr x t
inductive V where
 | non | bl (b : Bool) | int (i : Int) | str (x : Str) | byt (b : Array UInt8) | flt (b : UInt64) | ref (a : Addr) | ty (n : String)
 deriving DecidableEq
def RelV : V -> Value -> Prop
 | .non, u => u = Value.none
 | .bl b, u => u = Value.bool b
 | .int i, u => ∃ t, u = Value.int i t
 | .str x, u => ∃ t, u = Value.str x t
 | .byt b, u => ∃ t, u = Value.bytes b t
 | .flt b, u => ∃ t, u = Value.float b t
 | .ref a, u => u = Value.ref a
 | .ty n, u => u = Value.type n
abbrev Vals : List V -> List Value -> Prop := Paired RelV
theorem Vals.length (r : Vals xs us) : xs.length = us.length := Paired.length r
theorem Vals.get : ∀ {xs : List V} {us : List Value} {i : Nat} {x : V}, Vals xs us -> xs[i]? = some x -> ∃ u, us[i]? = some u /\ RelV x u
 | _, _, _, _, .nil, e => by simp at e
 | _, _, 0, _, .cons r _, e => by simp at e; subst e; exact ⟨_, rfl, r⟩
 | _, _, i + 1, x, .cons _ t, e => by
  obtain ⟨u, h1, h2⟩ := Vals.get (i := i) (x := x) t (by simpa using e)
  exact ⟨u, by simpa using h1, h2⟩
theorem Vals.set {x : V} (r : RelV x u) : ∀ {xs : List V} {us : List Value} (i : Nat), Vals xs us -> Vals (xs.set i x) (us.set i u)
 | _, _, _, .nil => .nil
 | _, _, 0, .cons _ t => .cons r t
 | _, _, i + 1, .cons q t => .cons q (Vals.set r i t)
theorem Vals.append : ∀ {xs ys : List V} {us ws : List Value}, Vals xs us -> Vals ys ws -> Vals (xs ++ ys) (us ++ ws)
 | _, _, _, _, .nil, s => s
 | _, _, _, _, .cons r t, s => .cons r (Vals.append t s)
theorem Vals.take : ∀ {xs : List V} {us : List Value} (n : Nat), Vals xs us -> Vals (xs.take n) (us.take n)
 | _, _, 0, _ => .nil
 | _, _, _ + 1, .nil => .nil
 | _, _, n + 1, .cons r t => .cons r (Vals.take n t)
theorem Vals.drop : ∀ {xs : List V} {us : List Value} (n : Nat), Vals xs us -> Vals (xs.drop n) (us.drop n)
 | _, _, 0, r => r
 | _, _, _ + 1, .nil => .nil
 | _, _, n + 1, .cons _ t => Vals.drop n t
def RelO : Option V -> Option Value -> Prop
 | some v, some u => RelV v u
 | none, none => True
 | _, _ => False
def KV {κ : Type} : List (κ × V) -> List (κ × Value) -> Prop := Paired fun (p : κ × V) (q : κ × Value) => p.1 = q.1 /\ RelV p.2 q.2
def kV : Key -> V
 | .inl i => .int i
 | .inr x => .str x
inductive HO where
 /-- a list -/
 | lst (xs : List V)
 /-- a tuple (never changes) -/
 | tup (xs : List V)
 /-- a dict whose keys are ints and texts; one whose keys are tuples of ints and texts (the empty one is both) -/
 | dK (kvs : List (Key × V)) | dT (kvs : List (List Key × V))
 /-- a set of ints: its members, its size -/
 | set (S : Int -> Bool) (n : Nat)
 /-- an instance of the class at C, its dict at dx, its attributes -/
 | ins (C dx : Addr) (fs : List (Str × V))
 /-- the dict of the instance at x -/
 | own (x : Addr)
 /-- the dict of an exception -/
 | xd (fs : List (Str × V))
 /-- a bound method, f of x -/
 | met (f x : Addr)
 /-- a range object lo, lo + 1, .. below hi -/
 | rng (lo hi : Int)
 /-- a thing that is known to the object (the script; a dict while a loop walks it): read, never written while it is so -/
 | frz (o : Obj) (u : HO)
 /-- a code object's table -/
 | tbl (ps : Array Value)
 /-- any other thing, by what is true of its one object (a def of one's own: SetO a S n := HO.ext fun h => ..) -/
 | ext (φ : Heap -> Prop)
abbrev Hp := Addr -> Option HO
def upd (H : Hp) (a : Addr) (o : HO) : Hp := fun b => if b = a then some o else H b
theorem zar {o : HO} : upd H a o a = some o := by unfold upd; rw [if_pos rfl]
theorem zam {o : HO} (h : b ≠ a) : upd H a o b = H b := by unfold upd; rw [if_neg h]
theorem zaq {o : HO} (h : H a = some o) (h' : H b = none) : a ≠ b := by
 intro e; subst e; rw [h] at h'; cases h'
section
variable (P : Program) (w : World)
def ObjOk (H : Hp) (h : Heap) (a : Addr) : HO -> Prop
 | .lst xs => xs.length <= sizeLine /\ ∃ (its : List Value) (n : Nat), Vals xs its /\ h.get? a = some { cls := .type "list", data := .seq its.toArray n }
 | .tup xs => xs.length <= sizeLine /\ ∃ its : List Value, Vals xs its /\ IsTup h a its.toArray
 | .dK kvs => kvs.length <= sizeLine /\ (a == sysModules) = false /\ ∃ vs, KV kvs vs /\ h.DictOf (zbj P w) a vs
 | .dT kvs => kvs.length <= sizeLine /\ (a == sysModules) = false /\ ∃ xs : List (List Key × Addr × Value),
   Paired (fun (p : List Key × V) (q : List Key × Addr × Value) => p.1 = q.1 /\ H q.2.1 = some (.tup (p.1.map kV)) /\ RelV p.2 q.2.2) kvs xs /\
   ∃ o es ep, h.get? a = some o /\ o.ExactDict /\ o.data = .dict es ep /\ es.toList = xs.map (entryOfKey (tupleKind (zbj P w))) /\ (xs.map (·.1)).Nodup
 | .set S n => h.SetOf (intKind P w) a S n
 | .ins C dx fs => H dx = some (.own a) /\ fs.length <= 1000 /\ dx ≠ a /\ h.get? a = some (W.instObj C dx) /\
   ∃ mA, h.Ns1 dx mA /\ (∀ f, RelO (fs.lookup f) (mA f)) /\ PySem.Within mA (fs.map (·.1))
 | .own _ => ∃ o, h.get? a = some o
 | .xd fs => ∃ mA, h.Ns1 a mA /\ ∀ f, RelO (fs.lookup f) (mA f)
 | .rng lo hi => ∃ t u v, h.get? a = some { cls := .type "range", data := .fields #[.int lo t, .int hi u, .int 1 v] }
 | .frz o u => h.get? a = some o /\ ObjOk H h a u
 | .tbl ps => h.get? a = some { cls := .none, data := .fields ps }
 | .met f x => h.get? a = some (W.methodObj (.ref f) (.ref x))
 | .ext φ => φ h /\ (∃ o, h.get? a = some o) /\ ∀ h1 h2 : Heap, φ h1 -> (∀ o, h1.get? a = some o -> h2.get? a = some o) -> φ h2
def HOk (H : Hp) (h : Heap) : Prop := ∀ a o, H a = some o -> ObjOk P w H h a o
end
section
variable {P : Program} {w : World} {H H' : Hp} {h h' : Heap} {a : Addr} {o : HO}
theorem ObjOk.lt (x : ObjOk P w H h a o) : a < h.objs.size := by
 cases o with
 | lst xs => obtain ⟨_, _, _, _, e⟩ := x; exact Heap.lt_size e
 | tup xs => obtain ⟨_, _, _, p⟩ := x; exact p.lt
 | dK kvs => obtain ⟨_, _, _, _, o, _, _, e, _⟩ := x; exact Heap.lt_size e
 | dT kvs => obtain ⟨_, _, _, _, o, _, _, e, _⟩ := x; exact Heap.lt_size e
 | set S n => obtain ⟨o, _, _, _, e, _⟩ := x; exact Heap.lt_size e
 | ins C dx fs => obtain ⟨_, _, _, e, _⟩ := x; exact Heap.lt_size e
 | own y => obtain ⟨_, e⟩ := x; exact Heap.lt_size e
 | xd fs => obtain ⟨_, ⟨_, _, _, e, _⟩, _⟩ := x; exact Heap.lt_size e
 | rng lo hi => obtain ⟨_, _, _, e⟩ := x; exact Heap.lt_size e
 | frz ob u => obtain ⟨e, _⟩ := x; exact Heap.lt_size e
 | tbl ps => exact Heap.lt_size (show h.get? a = some _ from x)
 | met f y => exact Heap.lt_size (show h.get? a = some _ from x)
 | ext φ => obtain ⟨_, ⟨_, e⟩, _⟩ := x; exact Heap.lt_size e
theorem Paired.mapP {α β : Type} {F G : α -> β -> Prop} : ∀ {l₁ : List α} {l₂ : List β}, Paired F l₁ l₂ -> (∀ a b, F a b -> G a b) -> Paired G l₁ l₂
 | _, _, .nil, _ => .nil
 | _, _, .cons r t, f => .cons (f _ _ r) (Paired.mapP t f)
theorem ObjOk.stay (x : ObjOk P w H h a o) (k : ∀ b u, (b = a \/ H b = some (.own a)) -> h.get? b = some u -> h'.get? b = some u)
  (ho : ∀ b, H b = some (.own a) -> H' b = some (.own a)) (ht : ∀ b xs, H b = some (.tup xs) -> H' b = some (.tup xs)) : ObjOk P w H' h' a o := by
 induction o with
 | lst xs => obtain ⟨z, its, n, r, e⟩ := x; exact ⟨z, its, n, r, k _ _ (.inl rfl) e⟩
 | tup xs => obtain ⟨z, its, r, ob, e, c⟩ := x; exact ⟨z, its, r, ob, k _ _ (.inl rfl) e, c⟩
 | dK kvs => obtain ⟨z, y, vs, r, ob, es, ep, e, c⟩ := x; exact ⟨z, y, vs, r, ob, es, ep, k _ _ (.inl rfl) e, c⟩
 | dT kvs =>
  obtain ⟨z, y, xs, r, ob, es, ep, e, c⟩ := x
  exact ⟨z, y, xs, Paired.mapP r fun p q z => ⟨z.1, ht _ _ z.2.1, z.2.2⟩, ob, es, ep, k _ _ (.inl rfl) e, c⟩
 | set S n => obtain ⟨ob, es, ep, t, e, c⟩ := x; exact ⟨ob, es, ep, t, k _ _ (.inl rfl) e, c⟩
 | ins C dx fs =>
  obtain ⟨d, z, ne, e, mA, ⟨od, es, ep, e2, c⟩, r⟩ := x
  exact ⟨ho _ d, z, ne, k _ _ (.inl rfl) e, mA, ⟨od, es, ep, k _ _ (.inr d) e2, c⟩, r⟩
 | own y => obtain ⟨ob, e⟩ := x; exact ⟨ob, k _ _ (.inl rfl) e⟩
 | xd fs => obtain ⟨mA, ⟨od, es, ep, e, c⟩, r⟩ := x; exact ⟨mA, ⟨od, es, ep, k _ _ (.inl rfl) e, c⟩, r⟩
 | rng lo hi => obtain ⟨t, u, v, e⟩ := x; exact ⟨t, u, v, k _ _ (.inl rfl) e⟩
 | frz ob u ih => obtain ⟨e, q⟩ := x; exact ⟨k _ _ (.inl rfl) e, ih q⟩
 | tbl ps =>
  have e : h.get? a = some { cls := .none, data := .fields ps } := x
  show h'.get? a = some { cls := .none, data := .fields ps }
  exact k a _ (.inl rfl) e
 | met f y =>
  have e : h.get? a = some (W.methodObj (.ref f) (.ref y)) := x
  show h'.get? a = some (W.methodObj (.ref f) (.ref y))
  exact k a _ (.inl rfl) e
 | ext φ => obtain ⟨p, ⟨o, e⟩, st⟩ := x; exact ⟨st _ _ p fun o q => k _ _ (.inl rfl) q, ⟨o, k _ _ (.inl rfl) e⟩, st⟩
theorem HOk.lt (x : HOk P w H h) (e : H a = some o) : a < h.objs.size := (x a o e).lt
theorem HOk.fresh (x : HOk P w H h) (e : h.objs.size <= a) : H a = none := by
 cases q : H a with
 | none => rfl
 | some u => exact absurd (Nat.lt_of_lt_of_le (x.lt q) e) (Nat.lt_irrefl _)
theorem HOk.kept (x : HOk P w H h) (k : ∀ b u, h.get? b = some u -> h'.get? b = some u) : HOk P w H h' := fun a o e =>
 (x a o e).stay (fun b u _ q => k b u q) (fun _ q => q) fun _ _ q => q
theorem HOk.laid (x : HOk P w H h) (k : ∀ b u, h.get? b = some u -> h'.get? b = some u) (hp : h.objs.size <= a) (new : ObjOk P w (upd H a o) h' a o) : HOk P w (upd H a o) h' := fun b u e => by
 have hn := x.fresh hp
 by_cases hb : b = a
 ·subst hb; rw [zar] at e; cases e; exact new
 ·rw [zam hb] at e
  exact (x b u e).stay (fun c v _ q => k c v q) (fun c q => by rw [zam (zaq q hn)]; exact q) fun c xs q => by rw [zam (zaq q hn)]; exact q
end
def Rd (H : Hp) (a : Addr) (u : HO) : Prop := H a = some u \/ ∃ o, H a = some (.frz o u)
theorem Rd.ok {P : Program} {u : HO} (r : Rd H a u) (x : HOk P w H h) : ObjOk P w H h a u := by
 rcases r with r | ⟨o, r⟩
 ·exact x a u r
 ·obtain ⟨_, q⟩ := x a _ r
  exact q
def Mut : Option HO -> Prop
 | some (.lst _) => True
 | some (.dK _) => True
 | some (.dT _) => True
 | some (.set _ _) => True
 | some (.ins _ _ _) => True
 | some (.ext _) => True
 | _ => False
section
variable {P : Program} {w : World} {H : Hp} {h h' : Heap} {x e : Addr} {o' : HO}
theorem HOk.write (ok : HOk P w H h) (mu : Mut (H x)) (he : e = x \/ H e = some (.own x)) (k : ∀ b u, b ≠ e -> h.get? b = some u -> h'.get? b = some u) (heo : ∃ u, h'.get? e = some u)
  (new : ObjOk P w (upd H x o') h' x o') : HOk P w (upd H x o') h' := fun b u q => by
 have nown : ∀ c y, H c = some (.own y) -> c ≠ x := fun c y r z => by subst z; rw [r] at mu; exact mu
 have ntup : ∀ c xs, H c = some (.tup xs) -> c ≠ x := fun c xs r z => by subst z; rw [r] at mu; exact mu
 by_cases hb : b = x
 ·subst hb; rw [zar] at q; cases q; exact new
 ·rw [zam hb] at q
  by_cases hbe : b = e
  ·have q' : H b = some (.own x) := by
    rcases he with z | z
    ·exact absurd (hbe.trans z) hb
    ·rw [hbe]; exact z
   rw [q] at q'; cases q'
   obtain ⟨v, hv⟩ := heo
   exact ⟨v, by rw [hbe]; exact hv⟩
  ·refine (ok b u q).stay (fun c v hc r => k c v ?_ r) (fun c r => by rw [zam (nown c b r)]; exact r) fun c xs r => by rw [zam (ntup c xs r)]; exact r
   rcases hc with rfl | hc
   ·exact hbe
   ·rintro rfl
    rcases he with z | z
    ·exact nown c b hc z
    ·rw [hc] at z; cases z; exact hb rfl
end
structure Un (fs ex : List Addr) (H H' : Hp) (h h' : Heap) : Prop where
 keep : ∀ b o, h.get? b = some o -> H b = none -> b ∉ fs -> b ∉ ex -> h'.get? b = some o
 slot : ∀ b o, h.get? b = some o -> H b = none -> b ∈ fs -> b ∉ ex -> ∃ sl, h'.get? b = some { o with slots := sl }
 free : ∀ b o, h.get? b = some o -> H b = none -> b ∉ ex -> H' b = none
 there : ∀ b o, h.get? b = some o -> b ∉ ex -> ∃ o', h'.get? b = some o'
 tups : ∀ b xs, H b = some (.tup xs) -> H' b = some (.tup xs)
 frzs : ∀ b o u, H b = some (.frz o u) -> H' b = some (.frz o u)
 tbls : ∀ b ps, H b = some (.tbl ps) -> ∃ more, H' b = some (.tbl (ps ++ more))
section
variable {fs fs' ex ex' : List Addr} {H H1 H2 : Hp} {h h1 h2 h' : Heap} {a x e : Addr} {o : HO}
theorem Un.any (u : Un fs ex H H1 h h1) {ob : Obj} (q : h.get? b = some ob) (n : H b = none) (hx : b ∉ ex) : ∃ sl, h1.get? b = some { ob with slots := sl } := by
 by_cases hb : b ∈ fs
 ·exact u.slot b ob q n hb hx
 ·exact ⟨ob.slots, u.keep b ob q n hb hx⟩
theorem Un.kept (k : ∀ b u, h.get? b = some u -> h'.get? b = some u) : Un fs ex H H h h' :=
 ⟨fun b ob q _ _ _ => k b ob q, fun b ob q _ _ _ => ⟨ob.slots, k b ob q⟩, fun _ _ _ n _ => n, fun b ob q _ => ⟨ob, k b ob q⟩, fun _ _ q => q, fun _ _ _ q => q, fun _ ps q => ⟨#[], by rw [q]; simp⟩⟩
theorem Un.refl : Un fs ex H H h h := Un.kept fun _ _ q => q
theorem Un.laid (k : ∀ b u, h.get? b = some u -> h'.get? b = some u) (hp : h.objs.size <= a) (hn : H a = none) : Un fs ex H (upd H a o) h h' where
 keep := fun b u q _ _ _ => k b u q
 slot := fun b u q _ _ _ => ⟨u.slots, k b u q⟩
 free := fun b u q n _ => by rw [zam (Nat.ne_of_lt (Nat.lt_of_lt_of_le (Heap.lt_size q) hp))]; exact n
 there := fun b u q _ => ⟨u, k b u q⟩
 tups := fun b xs q => by rw [zam (zaq q hn)]; exact q
 frzs := fun b u xs q => by rw [zam (zaq q hn)]; exact q
 tbls := fun b ps q => ⟨#[], by rw [zam (zaq q hn), q]; simp⟩
theorem Un.write (mu : Mut (H x)) (he : e = x \/ H e = some (.own x)) (k : ∀ b u, b ≠ e -> h.get? b = some u -> h'.get? b = some u) (heo : ∃ u, h'.get? e = some u) : Un fs ex H (upd H x o) h h' := by
 have hx : ∀ b, H b = none -> b ≠ x := fun b n z => by subst z; rw [n] at mu; exact mu
 have hb : ∀ b, H b = none -> b ≠ e := fun b n z => by
  subst z
  rcases he with r | r
  ·exact hx b n r
  ·rw [n] at r; cases r
 have hm : ∀ b u, H b = some u -> ¬ Mut (some u) -> b ≠ x := fun b u q nm z => by subst z; rw [q] at mu; exact nm mu
 refine ⟨fun b u q n _ _ => k b u (hb b n) q, fun b u q n _ _ => ⟨u.slots, k b u (hb b n) q⟩, fun b u q n _ => by rw [zam (hx b n)]; exact n, fun b u q _ => ?_,
  fun b xs q => by rw [zam (hm b _ q fun z => z)]; exact q, fun b u xs q => by rw [zam (hm b _ q fun z => z)]; exact q, fun b ps q => ⟨#[], by rw [zam (hm b _ q fun z => z), q]; simp⟩⟩
 by_cases hbe : b = e
 ·subst hbe; exact heo
 ·exact ⟨u, k b u hbe q⟩
end
def trk (h : Heap) (H : Hp) : List Addr := (List.range h.objs.size).filter fun a => (H a).isSome
def hidT (h : Heap) (H : Hp) : Heap := W.hideAll h (trk h H)
theorem zkH (h : Heap) (H : Hp) : (hidT h H).objs.size = h.objs.size := W.hideAll_size _ _
theorem hidT_get (e : h.get? b = some o) (n : H b = none) : (hidT h H).get? b = some o :=
 W.hideAll_get _ e fun hm => by
  have q : (H b).isSome = true := (List.mem_filter.mp hm).2
  rw [n] at q; simp at q
theorem of_hidT (e : (hidT h H).get? b = some o) : h.get? b = some o /\ H b = none := by
 have e' : h.get? b = some o := W.of_hideAll (trk h H) e
 refine ⟨e', ?_⟩
 cases q : H b with
 | none => rfl
 | some x =>
  have hm : b ∈ trk h H := List.mem_filter.mpr ⟨List.mem_range.mpr (Heap.lt_size e'), by simp [q]⟩
  have z : (hidT h H).get? b = none := W.hideAll_none (trk h H) hm
  rw [z] at e; cases e
def allNews (g h : Heap) (L : Addr) : List (Addr × Obj) := (List.range h.objs.size).filterMap fun a => if a = L \/ (g.get? a).isSome = true then none else (h.get? a).map fun o => (a, o)
def rest (g h : Heap) (L d : Addr) : List (Addr × Obj) := (allNews g h L).filter fun p => decide (p.1 ≠ d)
structure Mod (K : W.Frag) (mg : Str -> Option Value) (base : Heap) : Prop where
 kin : K.In base
 glob : base.Ns mainGlobals mg
 blt : ∃ mb, base.Ns builtinsNs mb /\ ∀ x : Str, x ≠ "__name__" -> mb x = bootBuiltins x
 nolimit : base.NoLimit
structure Cx where
 prog : Program
 w : World
 K : W.Frag
 mg : Str -> Option Value
 base : Heap
 A : Around
 N : List Str
 s₀ : Shared
 H₀ : Hp
 env : Env
 outer : List Env
 stack : List Env
 ex : List Addr
 fn : Str -> Bool
 calm : Bool
 pn : List (Addr × Obj)
 xe : Value -> Shared -> Prop
def frs (l : List Env) : List Addr := l.filterMap (·.frame)
abbrev Cx.fs (X : Cx) : List Addr := frs X.outer
def Vis (sc : Scope) (x : Str) : Prop := sc.names.lookup x = some .local \/ sc.names.lookup x = some .cell \/ sc.names.lookup x = some .free
def Loc (sc : Scope) (x : Str) : Prop := sc.names.lookup x = some .local \/ sc.names.lookup x = some .cell
def Look (env : Env) (h : Heap) (m : Str -> Option Value) (x : Str) (u : Value) : Prop :=
 (env.kindOf x = some .local /\ m x = some u) \/ ((env.kindOf x = some .cell \/ env.kindOf x = some .free) /\ ∃ c, env.cells.lookup x = some c /\ h.IsCell c (some u))
structure Cx.Ok (X : Cx) : Prop where
 mod : Mod X.K X.mg X.base
 kind : X.env.scope.kind = .function
 glob : X.env.globals = mainGlobals
 blt : X.env.builtins = builtinsNs
 above : X.s₀.heap.objs.size <= X.env.locals
 inj : ∀ x y c, X.env.cells.lookup x = some c -> X.env.cells.lookup y = some c -> x = y
 has : ∀ x, (X.env.kindOf x = some .cell \/ X.env.kindOf x = some .free) -> ∃ c, X.env.cells.lookup x = some c
 cab : ∀ x c, X.fn x = true -> X.env.cells.lookup x = some c -> X.s₀.heap.objs.size <= c
 hd : X.calm = true -> X.A.handled = none
 frames : X.A.frames = some X.stack
 stk : X.stack = X.outer \/ (X.stack = X.env :: X.outer /\ X.env.frame = some X.env.locals)
 exf : ∀ b ∈ X.ex, b ≠ X.env.locals /\ ∀ x c, X.env.cells.lookup x = some c -> c ≠ b
 bs : ∀ b o, X.base.get? b = some o -> X.s₀.heap.get? b = some o /\ X.H₀ b = none
 bsz : X.base.objs.size <= X.s₀.heap.objs.size
 noex : ∀ b o, X.base.get? b = some o -> b ∉ X.ex
 exfs : ∀ b ∈ X.ex, b ∉ X.fs
 funs : X.s₀.heap.FunFrames X.base X.outer
 frf : ∀ b ∈ X.fs, X.H₀ b = none
structure Inv (X : Cx) (pins : List (Addr × Obj)) (σ : List (Option V)) (H : Hp) (s : Shared) : Prop where
 ok : X.Ok
 os : s.os = X.s₀.os
 bare : AllBare s.gens
 base : Un X.fs X.ex X.H₀ H X.s₀.heap s.heap
 loc : ∃ m, s.heap.Ns X.env.locals m /\ ∀ (i : Nat) (x : Str) (v : V), X.N[i]? = some x -> σ[i]? = some (some v) -> Vis X.env.scope x -> ∃ u, RelV v u /\ Look X.env s.heap m x u
 cell : ∀ x c, X.env.cells.lookup x = some c -> ∃ v, s.heap.IsCell c v
 free : H X.env.locals = none
 freeC : ∀ x c, X.env.cells.lookup x = some c -> H c = none
 pin : ∀ p ∈ X.pn ++ pins, s.heap.get? p.1 = some p.2 /\ H p.1 = none /\ p.1 ≠ X.env.locals /\ p.1 ∉ X.fs /\ ∀ v, p.2.data ≠ .cell v
 hok : HOk X.prog X.w H s.heap
 len : σ.length = X.N.length
section
variable {X : Cx} {pins : List (Addr × Obj)} {σ : List (Option V)} {H H' : Hp} {s : Shared} {h' : Heap}
theorem Cx.Ok.nofr (ok : X.Ok) (e : X.base.get? b = some o) : b ∉ X.fs := fun hb => by
 have := (ok.funs.mem hb).1
 rw [e] at this; cases this
theorem Inv.bs (I : Inv X pins σ H s) : ∀ b o, X.base.get? b = some o -> s.heap.get? b = some o /\ H b = none := fun b o e =>
 ⟨I.base.keep b o (I.ok.bs b o e).1 (I.ok.bs b o e).2 (I.ok.nofr e) (I.ok.noex b o e), I.base.free b o (I.ok.bs b o e).1 (I.ok.bs b o e).2 (I.ok.noex b o e)⟩
theorem Inv.bk (I : Inv X pins σ H s) : ∀ b o, X.base.get? b = some o -> s.heap.get? b = some o := fun b o e => (I.bs b o e).1
theorem Inv.mod (I : Inv X pins σ H s) : Mod X.K X.mg X.base := I.ok.mod
theorem Inv.kIn (I : Inv X pins σ H s) : X.K.In s.heap := I.ok.mod.kin.keeps I.bk
theorem Inv.lt (I : Inv X pins σ H s) : X.env.locals < s.heap.objs.size := let ⟨_, hn, _⟩ := I.loc; hn.lt
theorem Inv.sz (I : Inv X pins σ H s) : X.s₀.heap.objs.size <= s.heap.objs.size := Nat.le_trans I.ok.above (Nat.le_of_lt I.lt)
theorem Inv.nofs (I : Inv X pins σ H s) (h : s.heap.objs.size <= a) : a ∉ X.fs := fun hb => by
 obtain ⟨_, o, ho, _⟩ := I.ok.funs.mem hb
 exact absurd (Nat.lt_of_lt_of_le (Heap.lt_size ho) (Nat.le_trans I.sz h)) (Nat.lt_irrefl _)
theorem Inv.cne (I : Inv X pins σ H s) : ∀ x c, X.env.cells.lookup x = some c -> c ≠ X.env.locals := fun x c e z => by
 obtain ⟨v, o, ho, hd⟩ := I.cell x c e
 obtain ⟨m, ⟨o', es, ep, ho', hd', _⟩, _⟩ := I.loc
 rw [z, ho'] at ho; cases ho; rw [hd'] at hd; cases hd
theorem Inv.funs (I : Inv X pins σ H s) : s.heap.FunFrames X.base X.outer := by
 have all : ∀ (l : List Env), (∀ b ∈ frs l, b ∈ X.fs) -> X.s₀.heap.FunFrames X.base l -> s.heap.FunFrames X.base l := by
  intro l
  induction l with
  | nil => intro _ _; trivial
  | cons env r ih =>
   intro hs hl
   obtain ⟨hk, ⟨L, o, hf, hn, ho, hd⟩, hr⟩ := hl
   have hL : L ∈ X.fs := hs L (by unfold frs; rw [List.filterMap_cons, hf]; exact List.mem_cons_self)
   obtain ⟨sl, e⟩ := I.base.slot L o ho (I.ok.frf L hL) hL fun z => I.ok.exfs L z hL
   exact ⟨hk, ⟨L, _, hf, hn, e, hd⟩, ih (fun b hb => hs b (by unfold frs; rw [List.filterMap_cons, hf]; exact List.mem_cons_of_mem _ hb)) hr⟩
 exact all X.outer (fun _ hb => hb) I.ok.funs
theorem Inv.stack (I : Inv X pins σ H s) : s.heap.FunFrames X.base X.stack := by
 rcases I.ok.stk with e | ⟨e, hf⟩
 ·rw [e]; exact I.funs
 ·rw [e]
  obtain ⟨m, hn, _⟩ := I.loc
  refine .cons (by rw [I.ok.kind]; decide) hf hn ?_ I.funs
  exact Heap.get?_none_of_le (Nat.le_trans I.ok.bsz I.ok.above)
theorem Inv.stkSub (I : Inv X pins σ H s) : ∀ b ∈ frs X.stack, b ∈ X.env.locals :: X.fs := fun b hb => by
 rcases I.ok.stk with e | ⟨e, hf⟩
 ·rw [e] at hb; exact List.mem_cons_of_mem _ hb
 ·rw [e] at hb
  unfold frs at hb
  rw [List.filterMap_cons, hf] at hb
  exact hb
theorem Inv.stkFree (I : Inv X pins σ H s) : ∀ b ∈ frs X.stack, H b = none := fun b hb => by
 rcases List.mem_cons.mp (I.stkSub b hb) with e | hb
 ·rw [e]; exact I.free
 ·obtain ⟨_, o, ho, _⟩ := I.ok.funs.mem hb
  exact I.base.free b o ho (I.ok.frf b hb) fun z => I.ok.exfs b z hb
theorem Inv.step (I : Inv X pins σ H s)
  (hch : ∀ b ∈ ch, (b ∈ X.ex \/ X.s₀.heap.objs.size <= b) /\ b ≠ X.env.locals /\ (∀ x c, X.env.cells.lookup x = some c -> c ≠ b) /\ ∀ p ∈ X.pn ++ pins, p.1 ≠ b)
  (keep : ∀ b o, b ≠ X.env.locals -> b ∉ X.fs -> b ∉ ch -> s.heap.get? b = some o -> H b = none -> h'.get? b = some o)
  (slot : ∀ b o, b ≠ X.env.locals -> b ∈ X.fs -> b ∉ ch -> s.heap.get? b = some o -> H b = none -> ∃ sl, h'.get? b = some { o with slots := sl }) (free : ∀ b o, b ∉ ch -> s.heap.get? b = some o -> H b = none -> H' b = none)
  (there : ∀ b o, b ∉ ch -> s.heap.get? b = some o -> ∃ o', h'.get? b = some o')
  (tups : ∀ b xs, H b = some (.tup xs) -> H' b = some (.tup xs)) (frzs : ∀ b o u, H b = some (.frz o u) -> H' b = some (.frz o u)) (tbls : ∀ b ps, H b = some (.tbl ps) -> ∃ more, H' b = some (.tbl (ps ++ more)))
  (ns : ∀ m, s.heap.Ns X.env.locals m -> h'.Ns X.env.locals m) (hok : HOk X.prog X.w H' h') (hg : AllBare g') :
  Inv X pins σ H' { s with heap := h', gens := g', drawn := d', toks := t' } := by
 have neL : ∀ b o, X.s₀.heap.get? b = some o -> b ≠ X.env.locals := fun b o e => Nat.ne_of_lt (Nat.lt_of_lt_of_le (Heap.lt_size e) I.ok.above)
 have neC : ∀ b o, X.s₀.heap.get? b = some o -> b ∉ X.ex -> b ∉ ch := fun b o e hx hb => by
  rcases (hch b hb).1 with z | z
  ·exact hx z
  ·exact absurd (Nat.lt_of_lt_of_le (Heap.lt_size e) z) (Nat.lt_irrefl _)
 have cellK : ∀ x c, X.env.cells.lookup x = some c -> ∀ v, s.heap.IsCell c v -> h'.IsCell c v := fun x c e v ⟨o, ho, hd⟩ => by
  have nch : c ∉ ch := fun z => (hch c z).2.2.1 x c e rfl
  by_cases hc : c ∈ X.fs
  ·obtain ⟨sl, q⟩ := slot c o (I.cne x c e) hc nch ho (I.freeC x c e)
   exact ⟨_, q, hd⟩
  ·exact ⟨o, keep c o (I.cne x c e) hc nch ho (I.freeC x c e), hd⟩
 refine ⟨I.ok, I.os, hg, ⟨fun b o e n hb hx => ?_, fun b o e n hb hx => ?_, fun b o e n hx => ?_, fun b o e hx => ?_, fun b xs e => tups b xs (I.base.tups b xs e), fun b o xs e => frzs b o xs (I.base.frzs b o xs e), fun b ps e => ?_⟩, ?_, fun x c e => ?_, ?_, fun x c e => ?_, fun p hp => ?_, hok, I.len⟩
 ·exact keep b o (neL b o e) hb (neC b o e hx) (I.base.keep b o e n hb hx) (I.base.free b o e n hx)
 ·obtain ⟨sl, e1⟩ := I.base.slot b o e n hb hx
  obtain ⟨sl', e2⟩ := slot b _ (neL b o e) hb (neC b o e hx) e1 (I.base.free b o e n hx)
  exact ⟨sl', e2⟩
 ·obtain ⟨o', e1⟩ := I.base.there b o e hx
  exact free b o' (neC b o e hx) e1 (I.base.free b o e n hx)
 ·obtain ⟨o', e1⟩ := I.base.there b o e hx
  exact there b o' (neC b o e hx) e1
 ·obtain ⟨m1, e1⟩ := I.base.tbls b ps e
  obtain ⟨m2, e2⟩ := tbls b _ e1
  exact ⟨m1 ++ m2, by rw [e2, Array.append_assoc]⟩
 ·obtain ⟨m, hn, hl⟩ := I.loc
  refine ⟨m, ns m hn, fun i x v e1 e2 e3 => ?_⟩
  obtain ⟨u, r, l⟩ := hl i x v e1 e2 e3
  refine ⟨u, r, ?_⟩
  rcases l with l | ⟨k, c, e, z⟩
  ·exact .inl l
  ·exact .inr ⟨k, c, e, cellK x c e _ z⟩
 ·obtain ⟨v, z⟩ := I.cell x c e
  exact ⟨v, cellK x c e v z⟩
 ·obtain ⟨m, ⟨o, _, _, ho, _⟩, _⟩ := I.loc
  exact free _ o (fun z => (hch _ z).2.1 rfl) ho I.free
 ·obtain ⟨v, o, ho, hd⟩ := I.cell x c e
  exact free c o (fun z => (hch c z).2.2.1 x c e rfl) ho (I.freeC x c e)
 ·obtain ⟨e, n, ne, nf, d⟩ := I.pin p hp
  have nch : p.1 ∉ ch := fun z => (hch p.1 z).2.2.2 p hp rfl
  exact ⟨keep p.1 p.2 ne nf nch e n, free p.1 p.2 nch e n, ne, nf, d⟩
theorem Inv.un (I : Inv X pins σ H s) (u : Un X.fs [] H H' s.heap h') (hok : HOk X.prog X.w H' h') : Inv X pins σ H' { s with heap := h', toks := t' } := by
  obtain ⟨m, ⟨o, es, ep, ho, r⟩, _⟩ := id I.loc
  obtain ⟨sl, hL⟩ := u.any ho I.free (by simp)
  exact I.step (g' := s.gens) (d' := s.drawn) (ch := []) (fun _ z => nomatch z) (fun b o _ hb _ e n => u.keep b o e n hb (by simp)) (fun b o _ hb _ e n => u.slot b o e n hb (by simp)) (fun b o _ e n => u.free b o e n (by simp)) (fun b o _ e => u.there b o e (by simp)) u.tups u.frzs u.tbls (fun m' hm => by
    obtain ⟨o', es', ep', ho', r'⟩ := hm
    rw [ho] at ho'; cases ho'
    exact ⟨_, es', ep', hL, r'⟩) hok I.bare
theorem Inv.call {ch : List Addr} (I : Inv X pins σ H s) (u : Un (frs X.stack) ch H H' s.heap h') (hok : HOk X.prog X.w H' h') (hg : AllBare g')
  (hch : ∀ b ∈ ch, (b ∈ X.ex \/ X.s₀.heap.objs.size <= b) /\ b ≠ X.env.locals /\ (∀ x c, X.env.cells.lookup x = some c -> c ≠ b) /\ ∀ p ∈ X.pn ++ pins, p.1 ≠ b) :
  Inv X pins σ H' { s with heap := h', gens := g', drawn := d', toks := t' } := by
 obtain ⟨m, ⟨o, es, ep, ho, r⟩, _⟩ := id I.loc
 obtain ⟨sl, hL⟩ := u.any ho I.free fun z => (hch _ z).2.1 rfl
 exact I.step (ch := ch) hch (fun b o hL hb hc e n => u.keep b o e n (fun z => (List.mem_cons.mp (I.stkSub b z)).elim hL hb) hc) (fun b o _ _ hc e n => u.any e n hc) (fun b o hc e n => u.free b o e n hc) (fun b o hc e => u.there b o e hc) u.tups u.frzs u.tbls (fun m' hm => by
  obtain ⟨o', es', ep', ho', r'⟩ := hm
  rw [ho] at ho'; cases ho'
  exact ⟨_, es', ep', hL, r'⟩) hok hg
theorem Inv.turned (I : Inv X pins σ H s) (k : ∀ b o, b ≠ it -> s.heap.get? b = some o -> h'.get? b = some o) (hn : H it = none) (hL : it ≠ X.env.locals)
  (h1 : it ∈ X.ex \/ X.s₀.heap.objs.size <= it) (h2 : ∀ x c, X.env.cells.lookup x = some c -> c ≠ it) (h3 : ∀ p ∈ X.pn ++ pins, p.1 ≠ it) : Inv X pins σ H { s with heap := h', toks := t' } := by
 have nit : ∀ b u, H b = some u -> b ≠ it := fun b u e z => by rw [z, hn] at e; cases e
 refine I.step (g' := s.gens) (d' := s.drawn) (ch := [it]) (fun b hb => ?_) (fun b o _ _ hc e _ => k b o (fun z => hc (by simp [z])) e) (fun b o _ _ hc e _ => ⟨o.slots, k b o (fun z => hc (by simp [z])) e⟩) (fun _ _ _ _ n => n)
  (fun b o hc e => ⟨o, k b o (fun z => hc (by simp [z])) e⟩) (fun _ _ e => e) (fun _ _ _ e => e) (fun b ps e => ⟨#[], by rw [e]; simp⟩) (fun m hm => ?_) (fun b u e => ?_) I.bare
 ·have e : b = it := by simpa using hb
  subst e
  exact ⟨h1, hL, h2, h3⟩
 ·obtain ⟨o, es, ep, ho, r⟩ := hm
  exact ⟨o, es, ep, k _ o (Ne.symm hL) ho, r⟩
 ·refine (I.hok b u e).stay (fun c v hc q => k c v ?_ q) (fun _ q => q) fun _ _ q => q
  rcases hc with z | z
  ·rw [z]; exact nit b u e
  ·exact nit c _ z
theorem Inv.tok (I : Inv X pins σ H s) (t : Nat) : Inv X pins σ H { s with toks := t } := I.un (h' := s.heap) (t' := t) Un.refl I.hok
theorem Inv.kept (I : Inv X pins σ H s) (k : ∀ b u, s.heap.get? b = some u -> h'.get? b = some u) : Inv X pins σ H { s with heap := h', toks := t' } := I.un (Un.kept k) (I.hok.kept k)
theorem Inv.laid {o : HO} (I : Inv X pins σ H s) (k : ∀ b u, s.heap.get? b = some u -> h'.get? b = some u) (hp : s.heap.objs.size <= a) (new : ObjOk X.prog X.w (upd H a o) h' a o) :
  Inv X pins σ (upd H a o) { s with heap := h', toks := t' } := I.un (Un.laid k hp (I.hok.fresh hp)) (I.hok.laid k hp new)
theorem Inv.write {x e : Addr} {o : HO} (I : Inv X pins σ H s) (mu : Mut (H x)) (he : e = x \/ H e = some (.own x)) (k : ∀ b u, b ≠ e -> s.heap.get? b = some u -> h'.get? b = some u) (heo : ∃ u, h'.get? e = some u)
  (new : ObjOk X.prog X.w (upd H x o) h' x o) : Inv X pins σ (upd H x o) { s with heap := h', toks := t' } := I.un (Un.write mu he k heo) (I.hok.write mu he k heo new)
theorem Inv.pins_of (I : Inv X pins σ H s) (h : ∀ p ∈ pins', s.heap.get? p.1 = some p.2 /\ H p.1 = none /\ p.1 ≠ X.env.locals /\ p.1 ∉ X.fs /\ ∀ v, p.2.data ≠ .cell v) : Inv X pins' σ H s :=
 ⟨I.ok, I.os, I.bare, I.base, I.loc, I.cell, I.free, I.freeC, fun p hp => (List.mem_append.mp hp).elim (fun z => I.pin p (List.mem_append_left _ z)) (h p), I.hok, I.len⟩
theorem zjx (hN : N.Nodup) (a : N[i]? = some x) (b : N[j]? = some x) : i = j := by
 obtain ⟨h1, e1⟩ := List.getElem?_eq_some_iff.mp a
 obtain ⟨h2, e2⟩ := List.getElem?_eq_some_iff.mp b
 exact (List.getElem_inj hN).mp (e1.trans e2.symm)
theorem zk0 {M : Model} {v : V} (I : Inv X pins σ H s) (hN : X.N.Nodup) (hi : X.N[i]? = some x) (hx : Loc X.env.scope x) (r : RelV v u)
    (h : ∀ s', Inv X pins (σ.set i (some v)) H s' -> (∃ a, Heap.SameBut a s.heap s'.heap /\ (a = X.env.locals \/ X.env.cells.lookup x = some a)) -> Q () s') (hf : X.fn x = true \/ X.env.scope.names.lookup x = some .local := by first | exact .inl rfl | exact .inr rfl | assumption) : wpAny M A (storeName X.env x u) Q E s := by
  obtain ⟨m, hn, hl⟩ := id I.loc
  have hcls : (X.env.scope.kind == .class || (X.env.scope.kind == .module && X.env.locals != X.env.globals)) = false := by rw [I.ok.kind]; rfl
  have hiσ : i < σ.length := by rw [I.len]; exact (List.getElem?_eq_some_iff.mp hi).1
  have cne := I.cne
  have tracked : ∀ {a : Addr} {h' : Heap}, (∃ o, s.heap.get? a = some o /\ H a = none) -> Heap.SameBut a s.heap h' -> HOk X.prog X.w H h' := fun {a h'} ha hs b ob e => by
    obtain ⟨_, _, hfree⟩ := ha
    refine (I.hok b ob e).stay (fun c w' hc q => (hs.2 c ?_).trans q) (fun _ q => q) fun _ _ q => q
    rintro rfl
    rcases hc with rfl | hc
    . rw [hfree] at e; cases e
    . rw [hfree] at hc; cases hc
  rcases hx with hk | hk
  . refine wpAny_storeName_local hk hn (fun h' hn' hs => ?_) hcls
    obtain ⟨oL, _, _, hoL, _⟩ := id hn
    refine h _ ⟨I.ok, I.os, I.bare, ⟨fun b o e n hb hx => ?_, fun b o e n hb hx => ?_, I.base.free, fun b o e hx => ?_, I.base.tups, I.base.frzs, I.base.tbls⟩, ⟨_, hn', fun j y v' e1 e2 e3 => ?_⟩, fun y c e => ?_, I.free, I.freeC, fun p hp => ?_, tracked ⟨oL, hoL, I.free⟩ hs, by simpa using I.len⟩ ⟨_, hs, .inl rfl⟩
    . exact (hs.2 b (Nat.ne_of_lt (Nat.lt_of_lt_of_le (Heap.lt_size e) I.ok.above))).trans (I.base.keep b o e n hb hx)
    . obtain ⟨sl, e1⟩ := I.base.slot b o e n hb hx
      exact ⟨sl, (hs.2 b (Nat.ne_of_lt (Nat.lt_of_lt_of_le (Heap.lt_size e) I.ok.above))).trans e1⟩
    . obtain ⟨o', e1⟩ := I.base.there b o e hx
      exact ⟨o', (hs.2 b (Nat.ne_of_lt (Nat.lt_of_lt_of_le (Heap.lt_size e) I.ok.above))).trans e1⟩
    . by_cases hj : j = i
      . subst hj
        rw [hi] at e1; cases e1
        rw [List.getElem?_set_self hiσ] at e2
        cases e2
        exact ⟨u, r, .inl ⟨hk, by simp⟩⟩
      . rw [List.getElem?_set_ne (Ne.symm hj)] at e2
        obtain ⟨u', r', q⟩ := hl j y v' e1 e2 e3
        refine ⟨u', r', ?_⟩
        rcases q with ⟨k, e⟩ | ⟨k, c, e, z⟩
        . refine .inl ⟨k, ?_⟩
          have : y ≠ x := fun e => hj (zjx hN e1 (e ▸ hi))
          simp [this, e]
        . exact .inr ⟨k, c, e, z.sameBut hs (cne y c e)⟩
    . obtain ⟨w', z⟩ := I.cell y c e
      exact ⟨w', z.sameBut hs (cne y c e)⟩
    . obtain ⟨e, n, ne, nf, d⟩ := I.pin p hp
      exact ⟨(hs.2 p.1 ne).trans e, n, ne, nf, d⟩
  . have hfn : X.fn x = true := by
      rcases hf with z | z
      . exact z
      . rw [z] at hk; cases hk
    obtain ⟨c, hc⟩ := I.ok.has x (.inl hk)
    obtain ⟨w', z⟩ := I.cell x c hc
    refine wpAny_storeName_cell I.ok.kind hk hc z (fun h' hc' hs => ?_)
    obtain ⟨oc, hoc, hocd⟩ := id z
    refine h { s with heap := h' } ⟨I.ok, I.os, I.bare, ⟨fun b o e n hb hx => ?_, fun b o e n hb hx => ?_, I.base.free, fun b o e hx => ?_, I.base.tups, I.base.frzs, I.base.tbls⟩, ⟨m, hn.sameBut hs (Ne.symm (cne x c hc)), fun j y v' e1 e2 e3 => ?_⟩, fun y c' e => ?_, I.free, I.freeC, fun p hp => ?_, tracked ⟨oc, hoc, I.freeC x c hc⟩ hs, by simpa using I.len⟩ ⟨c, hs, .inr hc⟩
    . exact (hs.2 b (Nat.ne_of_lt (Nat.lt_of_lt_of_le (Heap.lt_size e) (I.ok.cab x c hfn hc)))).trans (I.base.keep b o e n hb hx)
    . obtain ⟨sl, e1⟩ := I.base.slot b o e n hb hx
      exact ⟨sl, (hs.2 b (Nat.ne_of_lt (Nat.lt_of_lt_of_le (Heap.lt_size e) (I.ok.cab x c hfn hc)))).trans e1⟩
    . obtain ⟨o', e1⟩ := I.base.there b o e hx
      exact ⟨o', (hs.2 b (Nat.ne_of_lt (Nat.lt_of_lt_of_le (Heap.lt_size e) (I.ok.cab x c hfn hc)))).trans e1⟩
    . by_cases hj : j = i
      . subst hj
        rw [hi] at e1; cases e1
        rw [List.getElem?_set_self hiσ] at e2
        cases e2
        exact ⟨u, r, .inr ⟨.inl hk, c, hc, hc'⟩⟩
      . rw [List.getElem?_set_ne (Ne.symm hj)] at e2
        obtain ⟨u', r', q⟩ := hl j y v' e1 e2 e3
        refine ⟨u', r', ?_⟩
        rcases q with q | ⟨k, c', e, z'⟩
        . exact .inl q
        . refine .inr ⟨k, c', e, z'.sameBut hs ?_⟩
          rintro rfl
          exact hj (zjx hN e1 (I.ok.inj _ _ _ e hc ▸ hi))
    . by_cases hcc : c' = c
      . subst hcc; exact ⟨_, hc'⟩
      . obtain ⟨w2, z2⟩ := I.cell y c' e
        exact ⟨w2, z2.sameBut hs hcc⟩
    . obtain ⟨e, n, ne, nf, d⟩ := I.pin p hp
      refine ⟨(hs.2 p.1 ?_).trans e, n, ne, nf, d⟩
      intro q
      rw [q, hoc] at e
      have q' : oc = p.2 := Option.some.inj e
      exact d w' (by rw [<- q']; exact hocd)
theorem zhx {M : Model} {v : V} (I : Inv X pins σ H s) (hN : X.N.Nodup) (hi : X.N[i]? = some x) (hx : Loc X.env.scope x) (r : RelV v u)
  (h : ∀ s', Inv X pins (σ.set i (some v)) H s' -> Q () s') (hf : X.fn x = true \/ X.env.scope.names.lookup x = some .local := by first | exact .inl rfl | exact .inr rfl | assumption) : wpAny M A (storeName X.env x u) Q E s :=
 zk0 I hN hi hx r (fun s' I' _ => h s' I') hf
end
abbrev XK := Value -> Option Addr -> Hp -> Prop
abbrev St := List (Option V)
abbrev VK := V -> Hp -> Prop
abbrev TE := St -> Hp -> VK -> Prop
abbrev TT := St -> Hp -> (Bool -> Hp -> Prop) -> Prop
abbrev TA := St -> Hp -> (List V -> Hp -> Prop) -> Prop
structure Ends where
 nx : St -> Hp -> Prop
 rt : VK
 bk : St -> Hp -> Prop := fun _ _ => False
 ct : St -> Hp -> Prop := fun _ _ => False
abbrev TS := Ends -> St -> Hp -> Prop
def EP (X : Cx) (pins : List (Addr × Obj)) (σ : St) (Q : VK) (u : Value) (s' : Shared) : Prop := ∃ v H', Inv X pins σ H' s' /\ RelV v u /\ Q v H'
def TP (X : Cx) (pins : List (Addr × Obj)) (σ : St) (Q : Bool -> Hp -> Prop) (b : Bool) (s' : Shared) : Prop := ∃ H', Inv X pins σ H' s' /\ Q b H'
def AP (X : Cx) (pins : List (Addr × Obj)) (σ : St) (Q : List V -> Hp -> Prop) (us : List Value) (s' : Shared) : Prop := ∃ vs H', Inv X pins σ H' s' /\ Vals vs us /\ Q vs H'
def SP (X : Cx) (pins : List (Addr × Obj)) (D : Ends) (f : Flow) (s' : Shared) : Prop :=
 match f with
 | .next => ∃ σ' H', Inv X pins σ' H' s' /\ D.nx σ' H'
 | .brk => ∃ σ' H', Inv X pins σ' H' s' /\ D.bk σ' H'
 | .cont => ∃ σ' H', Inv X pins σ' H' s' /\ D.ct σ' H'
 | .ret u => ∃ v σ' H', Inv X pins σ' H' s' /\ RelV v u /\ D.rt v H'
def PE (X : Cx) (e : Expr) (t : TE) : Prop :=
 ∀ (pins : List (Addr × Obj)) (s : Shared) (σ : St) (H : Hp) (Q : VK), Inv X pins σ H s -> t σ H Q -> wpAny (model X.prog X.w) X.A (eval e X.env) (EP X pins σ Q) X.xe s
def PT (X : Cx) (e : Expr) (t : TT) : Prop :=
 ∀ (pins : List (Addr × Obj)) (s : Shared) (σ : St) (H : Hp) (Q : Bool -> Hp -> Prop), Inv X pins σ H s -> t σ H Q -> wpAny (model X.prog X.w) X.A (isTrue e X.env (eval e X.env)) (TP X pins σ Q) X.xe s
def PW (X : Cx) (e : Expr) (t : TT) : Prop :=
 ∀ (whole : Sem Value) (pins : List (Addr × Obj)) (s : Shared) (σ : St) (H : Hp) (Q : Bool -> Hp -> Prop), Inv X pins σ H s -> t σ H Q -> wpAny (model X.prog X.w) X.A (isTrue e X.env whole) (TP X pins σ Q) X.xe s
theorem PW.pt {t : TT} (h : PW X e t) : PT X e t := h _
def PA (X : Cx) (es : List Expr) (t : TA) : Prop :=
 ∀ (pos : Pos) (pins : List (Addr × Obj)) (s : Shared) (σ : St) (H : Hp) (Q : List V -> Hp -> Prop), Inv X pins σ H s -> t σ H Q -> wpAny (model X.prog X.w) X.A (spliced (backTo pos (starEach es X.env))) (AP X pins σ Q) X.xe s
def PS (X : Cx) (st : Stmt) (t : TS) : Prop :=
 ∀ (pins : List (Addr × Obj)) (s : Shared) (σ : St) (H : Hp) (D : Ends), Inv X pins σ H s -> t D σ H -> wpAny (model X.prog X.w) X.A (exec st X.env) (SP X pins D) X.xe s
def PSs (X : Cx) (st : List Stmt) (t : TS) : Prop :=
 ∀ (pins : List (Addr × Obj)) (s : Shared) (σ : St) (H : Hp) (D : Ends), Inv X pins σ H s -> t D σ H -> wpAny (model X.prog X.w) X.A (execs st X.env) (SP X pins D) X.xe s
theorem thn {α : Type} {t : Sem α} {Q Q' : α -> Shared -> Prop} {M : Model} (h : wpAny M A t Q E s) (hQ : ∀ a s, Q a s -> Q' a s) : wpAny M A t Q' E s := wpAny_mono h hQ fun _ _ x => x
section
variable {X : Cx}
def tVar (i : Nat) : TE := fun σ H Q => ∃ v, σ[i]? = some (some v) /\ Q v H
def tC (v : V) : TE := fun _ H Q => Q v H
theorem zbw (hN : X.N[i]? = some x) (hv : Vis X.env.scope x) (hd : (x == ("__debug__" : Str)) = false := by decide) (hcd : (x == ("__classdict__" : Str)) = false := by decide) : PE X (.Name x pos) (tVar i) := by
 intro pins s σ H Q I h
 obtain ⟨v, e, h⟩ := h
 obtain ⟨m, hn, hl⟩ := I.loc
 obtain ⟨u, r, l⟩ := hl i x v hN e hv
 have fin : EP X pins σ Q u s := ⟨v, H, I, r, h⟩
 rcases l with ⟨hk, hm⟩ | ⟨hk, c, hc, hcell⟩
 ·exact wpAny_Name (wpAny_loadName_local I.ok.kind hk hn hm fin) hd
 ·rcases hk with hk | hk
  ·exact wpAny_Name (wpAny_loadName_cell I.ok.kind hk hc hcell fin) hd
  ·exact wpAny_Name (wpAny_loadName_free I.ok.kind hk hc hcell fin hcd) hd
theorem pe_int {i j pos} : PE X (.Constant (.int i) j pos) (tC (.int i)) := fun _ _ _ H _ I h => wpAny_Constant_int ⟨.int i, H, I.tok _, ⟨_, rfl⟩, h⟩
theorem pe_bl {b j pos} : PE X (.Constant (.bool b) j pos) (tC (.bl b)) := fun _ _ _ H _ I h => Constant_bool ⟨.bl b, H, I, rfl, h⟩
theorem pe_non {j pos} : PE X (.Constant .none j pos) (tC .non) := fun _ _ _ H _ I h => Constant_none ⟨.non, H, I, rfl, h⟩
theorem pe_str {x j pos} : PE X (.Constant (.str x) j pos) (tC (.str x)) := fun _ _ _ H _ I h => Calls.Constant_str ⟨.str x, H, I.tok _, ⟨_, rfl⟩, h⟩
def Gl (X : Cx) (x : Str) : Prop := X.env.kindOf x = some .globalImplicit
theorem ld_glob {Q : Value -> Shared -> Prop} (I : Inv X pins σ H s) (hg : Gl X x) (hm : X.mg x = some u) (h : Q u s)
  (hd : (x == ("__debug__" : Str)) = false := by decide) : wpAny (model X.prog X.w) X.A (eval (.Name x pos) X.env) Q E s :=
 Calls.Name_function_global I.ok.kind hg (Calls.loadGlobal_global (by rw [I.ok.glob]; exact I.mod.glob.keeps I.bk) hm h) hd
theorem zhf {Q : Value -> Shared -> Prop} (I : Inv X pins σ H s) (hg : Gl X x) (hm : X.mg x = none) (hv : bootBuiltins x = some u) (h : Q u s)
  (hn : x ≠ "__name__" := by decide) (hd : (x == ("__debug__" : Str)) = false := by decide) : wpAny (model X.prog X.w) X.A (eval (.Name x pos) X.env) Q E s := by
 obtain ⟨mb, h1, h2⟩ := I.mod.blt
 exact Calls.Name_function_global I.ok.kind hg (Calls.loadGlobal_builtin (by rw [I.ok.glob]; exact I.mod.glob.keeps I.bk) hm (by rw [I.ok.blt]; exact h1.keeps I.bk) ((h2 x hn).trans hv) h) hd
variable {a b : Expr} {ta tb : TE} {pos : Pos}
variable {tA tB' : TT} {rest : List Expr}
def tAnd (t u : TT) : TT := fun σ H Q => t σ H fun c H1 => if c = true then u σ H1 Q else Q false H1
def tOr (t u : TT) : TT := fun σ H Q => t σ H fun c H1 => if c = true then Q true H1 else u σ H1 Q
def tNot (t : TT) : TT := fun σ H Q => t σ H fun c H1 => Q (!c) H1
theorem pw_and1 (ha : PT X a tA) : PW X (.BoolOp .And [a] pos) tA := by
 intro wh pins s σ H Q I h
 refine isTrue_and (thn (ha pins s σ H Q I h) fun c s1 e => ?_)
 cases c with
 | true => exact isTrue_and_nil e
 | false => exact e
theorem pw_or1 (ha : PT X a tA) : PW X (.BoolOp .Or [a] pos) tA := by
 intro wh pins s σ H Q I h
 refine isTrue_or (thn (ha pins s σ H Q I h) fun c s1 e => ?_)
 cases c with
 | false => exact isTrue_or_nil e
 | true => exact e
theorem pw_and (ha : PT X a tA) (hb : PW X (.BoolOp .And (b :: rest) pos) tB') : PW X (.BoolOp .And (a :: b :: rest) pos) (tAnd tA tB') := by
 intro wh pins s σ H Q I h
 refine isTrue_and (thn (ha pins s σ H _ I h) fun c s1 ⟨H1, I1, q1⟩ => ?_)
 cases c with
 | true => exact hb wh pins s1 σ H1 Q I1 q1
 | false => exact ⟨H1, I1, q1⟩
theorem pw_or (ha : PT X a tA) (hb : PW X (.BoolOp .Or (b :: rest) pos) tB') : PW X (.BoolOp .Or (a :: b :: rest) pos) (tOr tA tB') := by
 intro wh pins s σ H Q I h
 refine isTrue_or (thn (ha pins s σ H _ I h) fun c s1 ⟨H1, I1, q1⟩ => ?_)
 cases c with
 | true => exact ⟨H1, I1, q1⟩
 | false => exact hb wh pins s1 σ H1 Q I1 q1
theorem pt_not (ha : PT X a tA) : PT X (.UnaryOp .Not a pos) (tNot tA) := by
 intro pins s σ H Q I h
 exact isTrue_not (ha pins s σ H (fun c H1 => Q (!c) H1) I h)
def tAndV (ta tb : TE) : TE := fun σ H Q => ta σ H fun x H1 => ∃ c, x = .bl c /\ if c = true then tb σ H1 Q else Q (.bl false) H1
theorem pe_one {op} {t : TE} (h : PE X a t) : PE X (.BoolOp op [a] pos) t := fun pins s σ H Q I hw => BoolOp_one (h pins s σ H Q I hw)
theorem pe_and (ha : PE X a ta) (hb : PE X (.BoolOp .And (b :: rest) pos) tb) : PE X (.BoolOp .And (a :: b :: rest) pos) (tAndV ta tb) := by
 intro pins s σ H Q I h
 refine BoolOp_and (thn (ha pins s σ H _ I h) fun v s1 ⟨x, H1, I1, r1, q1⟩ => ?_)
 obtain ⟨c, rfl, q1⟩ := q1
 cases r1
 refine wpAny_truthy_bool ?_
 cases c with
 | true => exact hb pins s1 σ H1 Q I1 q1
 | false => exact ⟨.bl false, H1, I1, rfl, q1⟩
def tIf (t : TT) (ta tb : TE) : TE := fun σ H Q => t σ H fun c H1 => if c = true then ta σ H1 Q else tb σ H1 Q
theorem pe_ifExp (hc : PT X c tA) (ha : PE X a ta) (hb : PE X b tb) : PE X (.IfExp c a b pos) (tIf tA ta tb) := by
 intro pins s σ H Q I h
 refine wpAny_IfExp (thn (hc pins s σ H _ I h) fun d s1 ⟨H1, I1, q1⟩ => ?_)
 cases d with
 | true => exact ha pins s1 σ H1 Q I1 q1
 | false => exact hb pins s1 σ H1 Q I1 q1
end
def SqL (K : W.Frag) (H : Hp) (a : Addr) (xs : List V) : Prop :=
 Rd H a (.lst xs) \/
  ∃ (o : Obj) (its : Array Value) (n : Nat), K.lookup a = some o /\ o.cls = .type "list" /\ o.dict = none /\ o.data = .seq its n /\ its.size <= sizeLine /\ Vals xs its.toList
def SqT (K : W.Frag) (H : Hp) (a : Addr) (xs : List V) : Prop :=
 Rd H a (.tup xs) \/
  ∃ (o : Obj) (its : Array Value) (n : Nat), K.lookup a = some o /\ o.cls = .type "tuple" /\ o.data = .seq its n /\ its.size <= sizeLine /\ Vals xs its.toList
def absV : Value -> Option V
 | .none => some .non
 | .bool b => some (.bl b)
 | .int i _ => some (.int i)
 | .str x _ => some (.str x)
 | .bytes b _ => some (.byt b)
 | .float b _ => some (.flt b)
 | .ref a => some (.ref a)
 | .type n => some (.ty n)
 | _ => none
theorem RelV.abs {x : V} (r : RelV x u) : absV u = some x := by
 cases x with
 | non => cases r; rfl
 | bl _ => cases r; rfl
 | int _ => obtain ⟨t, rfl⟩ := r; rfl
 | str _ => obtain ⟨t, rfl⟩ := r; rfl
 | byt _ => obtain ⟨t, rfl⟩ := r; rfl
 | flt _ => obtain ⟨t, rfl⟩ := r; rfl
 | ref _ => cases r; rfl
 | ty _ => cases r; rfl
theorem RelV.inj {x y : V} (r : RelV x u) (q : RelV y u) : x = y := Option.some.inj (r.abs.symm.trans q.abs)
theorem Vals.inj : ∀ {xs ys : List V} {us : List Value}, Vals xs us -> Vals ys us -> xs = ys
 | _, _, _, .nil, .nil => rfl
 | _, _, _, .cons r t, .cons r' t' => by rw [r.inj r', Vals.inj t t']
section
variable {X : Cx} {pins : List (Addr × Obj)} {σ : St} {H : Hp} {s : Shared} {a : Addr} {xs ys : List V}
theorem SqL.of (h : H a = some (.lst xs)) : SqL K H a xs := .inl (.inl h)
theorem SqT.of (h : H a = some (.tup xs)) : SqT K H a xs := .inl (.inl h)
theorem Inv.list (I : Inv X pins σ H s) (h : SqL X.K H a xs) : ∃ its : List Value, Vals xs its /\ PlainL s.heap a its.toArray /\ xs.length <= sizeLine := by
 rcases h with h | ⟨o, its, n, hk, hc, hd, hs, hz, r⟩
 ·obtain ⟨z, its, n, r, e⟩ := h.ok I.hok
  exact ⟨its, r, ⟨_, n, e, rfl, rfl, rfl⟩, z⟩
 ·refine ⟨its.toList, r, ⟨o, n, I.kIn a o hk, hc, hd, by simpa using hs⟩, ?_⟩
  have e := r.length
  simp only [Array.length_toList] at e
  omega
theorem Inv.tuple (I : Inv X pins σ H s) (h : SqT X.K H a xs) : ∃ its : List Value, Vals xs its /\ IsTup s.heap a its.toArray /\ xs.length <= sizeLine := by
 rcases h with h | ⟨o, its, n, hk, hc, hs, hz, r⟩
 ·obtain ⟨z, its, r, p⟩ := h.ok I.hok
  exact ⟨its, r, p, z⟩
 ·refine ⟨its.toList, r, ⟨o, I.kIn a o hk, hc, n, by simpa using hs⟩, ?_⟩
  have e := r.length
  simp only [Array.length_toList] at e
  omega
theorem Inv.list_inj (I : Inv X pins σ H s) (h : SqL X.K H a xs) (h' : SqL X.K H a ys) : xs = ys := by
 obtain ⟨its, r, ⟨o, n, e, _, _, d⟩, _⟩ := I.list h
 obtain ⟨its', r', ⟨o', n', e', _, _, d'⟩, _⟩ := I.list h'
 rw [e] at e'; cases e'
 rw [d] at d'
 injection d' with d1 _
 have : its = its' := by simpa using congrArg Array.toList d1
 subst this
 exact r.inj r'
theorem Inv.tuple_inj (I : Inv X pins σ H s) (h : SqT X.K H a xs) (h' : SqT X.K H a ys) : xs = ys := by
 obtain ⟨its, r, ⟨o, e, _, n, d⟩, _⟩ := I.tuple h
 obtain ⟨its', r', ⟨o', e', _, n', d'⟩, _⟩ := I.tuple h'
 rw [e] at e'; cases e'
 rw [d] at d'
 injection d' with d1 _
 have : its = its' := by simpa using congrArg Array.toList d1
 subst this
 exact r.inj r'
end
abbrev Cx.wish (X : Cx) (E : Value -> Shared -> Prop) : Cx := { X with xe := E }
abbrev Cx.nox (X : Cx) : Cx := X.wish fun _ _ => False
theorem Cx.Ok.wish (ok : X.Ok) (E : Value -> Shared -> Prop) : (X.wish E).Ok :=
 ⟨ok.mod, ok.kind, ok.glob, ok.blt, ok.above, ok.inj, ok.has, ok.cab, ok.hd, ok.frames, ok.stk, ok.exf, ok.bs, ok.bsz, ok.noex, ok.exfs, ok.funs, ok.frf⟩
theorem Cx.Ok.unwish (ok : (X.wish E).Ok) : X.Ok :=
 ⟨ok.mod, ok.kind, ok.glob, ok.blt, ok.above, ok.inj, ok.has, ok.cab, ok.hd, ok.frames, ok.stk, ok.exf, ok.bs, ok.bsz, ok.noex, ok.exfs, ok.funs, ok.frf⟩
section
variable {X : Cx} {pins : List (Addr × Obj)} {σ : St} {H : Hp} {s : Shared} {E : Value -> Shared -> Prop}
theorem Inv.wish (I : Inv X pins σ H s) (E : Value -> Shared -> Prop) : Inv (X.wish E) pins σ H s := ⟨I.ok.wish E, I.os, I.bare, I.base, I.loc, I.cell, I.free, I.freeC, I.pin, I.hok, I.len⟩
theorem Inv.unwish (I : Inv (X.wish E) pins σ H s) : Inv X pins σ H s := ⟨I.ok.unwish, I.os, I.bare, I.base, I.loc, I.cell, I.free, I.freeC, I.pin, I.hok, I.len⟩
theorem SP.unwish {D : Ends} {f : Flow} (h : SP (X.wish E) pins D f s') : SP X pins D f s' := by
 cases f with
 | next => obtain ⟨σ', H', I, q⟩ := h; exact ⟨σ', H', I.unwish, q⟩
 | brk => obtain ⟨σ', H', I, q⟩ := h; exact ⟨σ', H', I.unwish, q⟩
 | cont => obtain ⟨σ', H', I, q⟩ := h; exact ⟨σ', H', I.unwish, q⟩
 | ret u => obtain ⟨v, σ', H', I, r, q⟩ := h; exact ⟨v, σ', H', I.unwish, r, q⟩
theorem PSs.nox {st : List Stmt} {t : TS} (h : PSs X.nox st t) : PSs X st t := fun pins s σ H D I hw =>
 wpAny_mono (h pins s σ H D (I.wish _) hw) (fun _ _ q => q.unwish) fun _ _ z => False.elim z
end
section
variable {X : Cx} {st : Stmt} {rest : List Stmt} {t u : TS} {e : Expr} {te : TE} {pos : Pos}
def tNext : TS := fun D σ H => D.nx σ H
def tSeq (t u : TS) : TS := fun D σ H => t { D with nx := u D } σ H
theorem pss_nil : PSs X [] tNext := fun _ _ σ H _ I h => wpAny_execs_nil ⟨σ, H, I, h⟩
theorem pss_cons (h1 : PS X st t) (h2 : PSs X rest u) : PSs X (st :: rest) (tSeq t u) := by
 intro pins s σ H D I h
 refine wpAny_execs_cons (thn (h1 pins s σ H { D with nx := u D } I h) fun f s1 q => ?_)
 cases f with
 | next =>
  obtain ⟨σ', H', I', q⟩ := q
  exact h2 pins s1 σ' H' D I' q
 | ret v => exact q
 | brk => exact q
 | cont => exact q
theorem pss_one (h1 : PS X st t) : PSs X [st] t := by
 intro pins s σ H D I h
 refine wpAny_execs_cons (thn (h1 pins s σ H D I h) fun f s1 q => ?_)
 cases f with
 | next => exact wpAny_execs_nil q
 | ret v => exact q
 | brk => exact q
 | cont => exact q
theorem Inv.quiet (I : Inv X pins σ H s) : interactive X.env = false := by simp [interactive, I.ok.kind]
def tDrop (te : TE) : TS := fun D σ H => te σ H fun _ H1 => D.nx σ H1
theorem zll (he : PE X e te) (hs : swapsWith e none pos.line X.env = pure false := by rfl) : PS X (.Expr e pos) (tDrop te) := by
 intro pins s σ H D I h
 exact wpAny_Expr_any (thn (he pins s σ H _ I h) fun v s1 ⟨x, H1, I1, r1, q1⟩ => ⟨σ, H1, I1, q1⟩) I.quiet hs
def tRet (te : TE) : TS := fun D σ H => te σ H D.rt
theorem ziI (he : PE X e te) : PS X (.Return (some e) pos) (tRet te) := by
 intro pins s σ H D I h
 exact wpAny_Return_some (thn (he pins s σ H _ I h) fun v s1 ⟨x, H1, I1, r1, q1⟩ => ⟨x, σ, H1, I1, r1, q1⟩)
def tIfS (c : TT) (t u : TS) : TS := fun D σ H => c σ H fun b H1 => if b = true then t D σ H1 else u D σ H1
theorem ps_if {a b : List Stmt} (hc : PT X c tc) (ha : PSs X a t) (hb : PSs X b u) : PS X (.If c a b pos) (tIfS tc t u) := by
 intro pins s σ H D I h
 refine wpAny_If (thn (hc pins s σ H _ I h) fun d s1 ⟨H1, I1, q1⟩ => ?_)
 cases d with
 | true => exact ha pins s1 σ H1 D I1 q1
 | false => exact hb pins s1 σ H1 D I1 q1
def tNever : TS := fun _ _ _ => False
theorem ps_never : PS X st tNever := fun _ _ _ _ _ _ h => h.elim
end
abbrev TG := V -> St -> Hp -> (St -> Hp -> Prop) -> Prop
abbrev TGs := List V -> St -> Hp -> (St -> Hp -> Prop) -> Prop
def PG (X : Cx) (target : Expr) (t : TG) : Prop :=
 ∀ (pins : List (Addr × Obj)) (s : Shared) (σ : St) (H : Hp) (v : V) (u : Value) (Q : St -> Hp -> Prop), Inv X pins σ H s -> RelV v u -> t v σ H Q ->
  wpAny (model X.prog X.w) X.A (assign target X.env u) (fun _ s' => ∃ σ' H', Inv X pins σ' H' s' /\ Q σ' H') X.xe s
def PGs (X : Cx) (ts : List Expr) (t : TGs) : Prop :=
 ∀ (pins : List (Addr × Obj)) (s : Shared) (σ : St) (H : Hp) (vs : List V) (us : List Value) (Q : St -> Hp -> Prop), Inv X pins σ H s -> Vals vs us -> t vs σ H Q ->
  wpAny (model X.prog X.w) X.A (assignInOrder ((assignEach ts X.env).map (·.2)) us) (fun _ s' => ∃ σ' H', Inv X pins σ' H' s' /\ Q σ' H') X.xe s
abbrev TSet := V -> V -> V -> Hp -> (Hp -> Prop) -> Prop
def PSet (X : Cx) (t : TSet) : Prop :=
 ∀ (pins : List (Addr × Obj)) (s : Shared) (σ : St) (H : Hp) (o i v : V) (ov iv u : Value) (Q : Hp -> Prop), Inv X pins σ H s -> RelV o ov -> RelV i iv -> RelV v u -> t o i v H Q ->
  wpAny (model X.prog X.w) X.A (setItem ov iv u) (fun _ s' => ∃ H', Inv X pins σ H' s' /\ Q H') X.xe s
abbrev TIp := V -> V -> Hp -> VK -> Prop
def PIp (X : Cx) (op : Operator) (t : TIp) : Prop :=
 ∀ (pins : List (Addr × Obj)) (s : Shared) (σ : St) (H : Hp) (x y : V) (v u : Value) (Q : VK), Inv X pins σ H s -> RelV x v -> RelV y u -> t x y H Q ->
  wpAny (model X.prog X.w) X.A (inplaceOp op v u) (EP X pins σ Q) X.xe s
section
variable {X : Cx} {pos : Pos}
def gName (i : Nat) : TG := fun v σ H Q => Q (σ.set i (some v)) H
theorem zh2 (hN : X.N.Nodup) (hi : X.N[i]? = some x) (hx : Loc X.env.scope x) (hf : X.fn x = true \/ X.env.scope.names.lookup x = some .local := by first | exact .inl rfl | exact .inr rfl | assumption) : PG X (.Name x pos) (gName i) := by
  intro pins s σ H v u Q I r h
  exact wpAny_assign_Name (zhx I hN hi hx r (fun s' I' => ⟨_, H, I', h⟩) hf)
def gNil : TGs := fun vs σ H Q => vs = [] /\ Q σ H
def gCons (t : TG) (u : TGs) : TGs := fun vs σ H Q => ∃ v r, vs = v :: r /\ t v σ H fun σ' H' => u r σ' H' Q
theorem zkV : PGs X [] gNil := by
 intro pins s σ H vs us Q I r h
 obtain ⟨e, h⟩ := h
 subst e
 cases r
 exact assignInOrder_nil ⟨σ, H, I, h⟩
theorem zhq {t : TG} {u : TGs} (h1 : PG X e t) (h2 : PGs X es u)
  (hs : (assignEach (e :: es) X.env).map (·.2) = assign e X.env :: (assignEach es X.env).map (·.2) := by rfl) : PGs X (e :: es) (gCons t u) := by
 intro pins s σ H vs us Q I r h
 obtain ⟨v, vr, e1, h⟩ := h
 subst e1
 cases r with
 | cons r rr =>
  rw [hs]
  refine assignInOrder_cons (thn (h1 pins s σ H _ _ _ I r h) fun _ s1 ⟨σ1, H1, I1, q1⟩ => ?_)
  exact h2 pins s1 σ1 H1 _ _ Q I1 rr q1
def gTup (K : W.Frag) (n : Nat) (t : TGs) : TG := fun v σ H Q => ∃ a xs, v = .ref a /\ SqT K H a xs /\ xs.length = n /\ t xs σ H Q
theorem pg_tup {t : TGs} (hc : X.calm = true) (h : PGs X es t)
  (hn : (assignEach es X.env).length = n := by rfl) (hst : (assignEach es X.env).findIdx? (·.1) = none := by rfl) : PG X (.Tuple es k pos) (gTup X.K n t) := by
 intro pins s σ H v u Q I r hw
 obtain ⟨a, xs, e1, hq, hl, hw⟩ := hw
 subst e1
 cases r
 obtain ⟨its, rv, ht, hz⟩ := I.tuple hq
 refine assign_Tuple_tuple (I.ok.hd hc) ht (by simp [hn, <- hl, rv.length]) hst fun h' hx => ?_
 have I1 : Inv X pins σ H { s with heap := h' } := I.kept (t' := s.toks) fun b o e => hx b o (Nat.ne_of_lt (Heap.lt_size e)) e
 exact h pins _ σ H xs _ Q I1 (by simpa using rv) hw
def gSub (to ti : TE) (t : TSet) : TG := fun v σ H Q => to σ H fun o H1 => ti σ H1 fun i H2 => t o i v H2 fun H3 => Q σ H3
theorem pg_sub {o i : Expr} {to ti : TE} (ho : PE X o to) (hi : PE X i ti) (hs : PSet X t)
    (ha : ∀ v, assign (.Subscript o i pos) X.env v = (do
      let ov <- holding [v] (eval o X.env)
      let iv <- holding [v, ov] (eval i X.env)
      standAt pos
      holding [v, ov, iv] (setItem ov iv v)
      release [v, ov, iv] []) := by intro _; rfl) : PG X (.Subscript o i pos) (gSub to ti t) := by
  intro pins s σ H v u Q I r h
  rw [ha]
  refine wpAny_bind (wpAny_holding (thn (ho pins s σ H _ I h) fun ov s1 ⟨x, H1, I1, r1, q1⟩ => ?_))
  refine wpAny_bind (wpAny_holding (thn (hi pins s1 σ H1 _ I1 q1) fun iv s2 ⟨y, H2, I2, r2, q2⟩ => ?_))
  refine wpAny_bind (wpAny_standAt (wpAny_bind (wpAny_holding (thn (hs pins s2 σ H2 x y v ov iv u _ I2 r1 r2 r q2) fun _ s3 ⟨H3, I3, q3⟩ => ?_))))
  exact wpAny_release ⟨σ, H3, I3, q3⟩
def tAsg (te : TE) (g : TG) : TS := fun D σ H => te σ H fun x H1 => g x σ H1 D.nx
theorem zjp {g : TG} (he : PE X e te) (hg : PG X tg g) (hs : swapsWithSole [tg] e pos.line X.env = pure false := by rfl) (hw : swappedStores [tg] e X.env = pure none := by rfl)
  (h1 : (assignEach [tg] X.env).map (·.2) = [assign tg X.env] := by rfl) : PS X (.Assign [tg] e pos) (tAsg te g) := by
 intro pins s σ H D I h
 refine wpAny_Assign_stores (thn (he pins s σ H _ I h) fun v s1 ⟨x, H1, I1, r1, q1⟩ => ?_) hs hw
 rw [h1]
 exact thn (hg pins s1 σ H1 x v _ I1 r1 q1) fun _ s2 q => q
theorem zlR (hN : X.N.Nodup) (hi : X.N[i]? = some x) (hx : Loc X.env.scope x) (he : PE X e te) (hs : swapsWith e (some (.Name x pos')) pos.line X.env = pure false := by rfl) (hf : X.fn x = true \/ X.env.scope.names.lookup x = some .local := by first | exact .inl rfl | exact .inr rfl | assumption) :
  PS X (.Assign [.Name x pos'] e pos) (tAsg te (gName i)) := by
 intro pins s σ H D I h
 refine wpAny_Assign_Name (thn (he pins s σ H _ I h) fun v s1 ⟨y, H1, I1, r1, q1⟩ => ?_) hs
 exact zhx I1 hN hi hx r1 (fun s2 I2 => ⟨_, H1, I2, q1⟩) hf
def tAug (i : Nat) (te : TE) (ti : TIp) : TS := fun D σ H => ∃ x, σ[i]? = some (some x) /\ te σ H fun y H1 => ti x y H1 fun z H2 => D.nx (σ.set i (some z)) H2
theorem ps_aug {op : Operator} {ti : TIp} (hN : X.N.Nodup) (hi : X.N[i]? = some x) (hx : Loc X.env.scope x) (he : PE X e te) (ho : PIp X op ti) (hf : X.fn x = true \/ X.env.scope.names.lookup x = some .local := by first | exact .inl rfl | exact .inr rfl | assumption) :
  PS X (.AugAssign (.Name x pos') op e pos) (tAug i te ti) := by
 intro pins s σ H D I h
 obtain ⟨v, e1, h⟩ := h
 obtain ⟨m, hn, hl⟩ := I.loc
 have vis : Vis X.env.scope x := by rcases hx with k | k; exact .inl k; exact .inr (.inl k)
 obtain ⟨u, r, l⟩ := hl i x v hi e1 vis
 refine wpAny_AugAssign_Name ?_
 have go : wpAny (model X.prog X.w) X.A (eval e X.env) (fun w s₂ => wpAny (model X.prog X.w) X.A (inplaceOp op u w) (fun r s₃ => wpAny (model X.prog X.w) X.A (storeName X.env x r) (fun _ => SP X pins D .next) X.xe s₃) X.xe s₂) X.xe s := by
  refine thn (he pins s σ H _ I h) fun w s1 ⟨y, H1, I1, r1, q1⟩ => ?_
  refine thn (ho pins s1 σ H1 v y u w _ I1 r r1 q1) fun z s2 ⟨zv, H2, I2, r2, q2⟩ => ?_
  exact zhx I2 hN hi hx r2 (fun s3 I3 => ⟨_, H2, I3, q2⟩) hf
 rcases l with ⟨hk, hm⟩ | ⟨hk, c, hc, hcell⟩
 ·exact wpAny_loadName_local I.ok.kind hk hn hm go
 ·rcases hk with hk | hk
  ·exact wpAny_loadName_cell I.ok.kind hk hc hcell go
  ·rcases hx with k | k
   ·have : X.env.scope.names.lookup x = some .free := hk
    rw [k] at this; cases this
   ·have : X.env.scope.names.lookup x = some .free := hk
    rw [k] at this; cases this
def tAugS (to ti te : TE) (tget : V -> V -> Hp -> VK -> Prop) (tip : TIp) (tset : TSet) : TS := fun D σ H => to σ H fun o H1 => ti σ H1 fun i H2 => tget o i H2 fun x H3 => te σ H3 fun y H4 => tip x y H4 fun z H5 => tset o i z H5 fun H6 => D.nx σ H6
def PGet (X : Cx) (t : V -> V -> Hp -> VK -> Prop) : Prop :=
 ∀ (pins : List (Addr × Obj)) (s : Shared) (σ : St) (H : Hp) (o i : V) (ov iv : Value) (Q : VK), Inv X pins σ H s -> RelV o ov -> RelV i iv -> t o i H Q ->
  wpAny (model X.prog X.w) X.A (getItem ov iv) (EP X pins σ Q) X.xe s
theorem ps_augS {o i e : Expr} {to ti te : TE} {tip : TIp} {tset : TSet} {op : Operator} {tpos : Pos} (ho : PE X o to) (hi : PE X i ti) (hg : PGet X tget) (he : PE X e te) (hp : PIp X op tip) (hs : PSet X tset)
  (ha : ∀ ov iv new, augStore i ov iv new = (do holding [new, ov, iv] (setItem ov iv new); release [new, ov, iv] []; pure .next) := by intros; rfl) : PS X (.AugAssign (.Subscript o i tpos) op e pos) (tAugS to ti te tget tip tset) := by
 intro pins s σ H D I h
 refine wpAny_AugAssign_SubscriptAny (thn (ho pins s σ H _ I h) fun ov s1 ⟨x1, H1, I1, r1, q1⟩ => ?_) ha
 refine thn (hi pins s1 σ H1 _ I1 q1) fun iv s2 ⟨x2, H2, I2, r2, q2⟩ => ?_
 refine thn (hg pins s2 σ H2 x1 x2 ov iv _ I2 r1 r2 q2) fun old s3 ⟨x3, H3, I3, r3, q3⟩ => ?_
 refine thn (he pins s3 σ H3 _ I3 q3) fun v s4 ⟨x4, H4, I4, r4, q4⟩ => ?_
 refine thn (hp pins s4 σ H4 x3 x4 old v _ I4 r3 r4 q4) fun new s5 ⟨x5, H5, I5, r5, q5⟩ => ?_
 exact thn (hs pins s5 σ H5 x1 x2 x5 ov iv new _ I5 r1 r2 r5 q5) fun _ s6 ⟨H6, I6, q6⟩ => ⟨σ, H6, I6, q6⟩
def ipI (f : Int -> Int -> Int) : TIp := fun x y H Q => ∃ i j, x = .int i /\ y = .int j /\ Q (.int (f i j)) H
theorem ip_add : PIp X .Add (ipI fun i j => i + j) := by
 intro pins s σ H x y v u Q I r1 r2 h
 obtain ⟨i, j, e1, e2, q⟩ := h
 subst e1; subst e2
 obtain ⟨t, rfl⟩ := r1
 obtain ⟨t', rfl⟩ := r2
 exact iadd_int ⟨.int _, H, I.tok _, ⟨_, rfl⟩, q⟩
end
section
variable {X : Cx} {pos : Pos}
def tWhile (c : TT) (tb : TS) : TS := fun D σ H => ∃ W : Nat -> St -> Hp -> Prop, (∃ m, W m σ H) /\ ∀ m σ H, W m σ H ->
 c σ H fun b H1 => if b = true then ∃ N : St -> Hp -> Prop, (∀ σ' H', N σ' H' -> ∃ m', m' < m /\ W m' σ' H') /\ tb { D with nx := N, ct := N, bk := D.nx } σ H1 else D.nx σ H1
theorem ps_while (hp : PassesOwn (model X.prog X.w) X.A X.env X.xe) (hc : PT X c tc) (hb : PSs X body tb) : PS X (.While c body [] pos) (tWhile tc tb) := by
 intro pins s σ H D I h
 obtain ⟨W, ⟨m0, w0⟩, turn⟩ := h
 refine wpAny_While (codeAny_whileLoop (fun n s' => ∃ σ' H', Inv X pins σ' H' s' /\ W n σ' H') ?_ m0 ⟨σ, H, I, w0⟩)
 rintro n s1 ⟨σ1, H1, I1, w1⟩
 refine wpAny_passesOwn hp (thn (hc pins s1 σ1 H1 _ I1 (turn n σ1 H1 w1)) fun b s2 ⟨H2, I2, q2⟩ => ?_)
 cases b with
 | true =>
  obtain ⟨N, hN, q2⟩ := q2
  rw [if_pos rfl]
  refine wpAny_passesOwn hp (thn (hb pins s2 σ1 H2 _ I2 q2) fun f s3 q3 => ?_)
  cases f with
  | next =>
   obtain ⟨σ3, H3, I3, n3⟩ := q3
   obtain ⟨m', hm, w3⟩ := hN σ3 H3 n3
   exact ⟨m', hm, σ3, H3, I3, w3⟩
  | cont =>
   obtain ⟨σ3, H3, I3, n3⟩ := q3
   obtain ⟨m', hm, w3⟩ := hN σ3 H3 n3
   exact ⟨m', hm, σ3, H3, I3, w3⟩
  | brk => exact q3
  | ret v => exact q3
 | false =>
  rw [if_neg Bool.false_ne_true]
  exact wpAny_execs_nil ⟨σ1, H2, I2, q2⟩
end
structure It where
 go : Nat -> Hp -> Prop
 yld : Nat -> Hp -> V -> Hp -> Prop
 stop : Nat -> Hp -> Prop
def FpOk (X : Cx) (pins : List (Addr × Obj)) (H : Hp) (b : Addr) : Prop :=
 H b = none /\ b ≠ X.env.locals /\ b ∉ X.fs /\ (b ∈ X.ex \/ X.s₀.heap.objs.size <= b) /\ (∀ x c, X.env.cells.lookup x = some c -> c ≠ b) /\ ∀ p ∈ X.pn ++ pins, p.1 ≠ b
theorem Inv.fpOk {H H' : Hp} (I : Inv X pins σ H s) (hb : s.heap.objs.size <= b) (hn : H' b = none) : FpOk X pins H' b := by
 refine ⟨hn, Nat.ne_of_gt (Nat.lt_of_lt_of_le I.lt hb), I.nofs hb, .inr (Nat.le_trans I.sz hb), fun x c e z => ?_, fun p hp z => ?_⟩
 ·obtain ⟨v, q⟩ := I.cell x c e
  exact absurd (Nat.lt_of_lt_of_le q.lt (by rw [z]; exact hb)) (Nat.lt_irrefl _)
 ·exact absurd (Nat.lt_of_lt_of_le (Heap.lt_size (I.pin p hp).1) (by rw [z]; exact hb)) (Nat.lt_irrefl _)
structure Turn (P : Program) (w : World) (K : W.Frag) (tg : Expr) (J : It) (fp : List Addr) (it : Addr) (tn : Nat -> Heap -> Prop) : Prop where
 mem : it ∈ fp
 obj : ∀ i h, tn i h -> ∀ b ∈ fp, ∃ o, h.get? b = some o /\ ∀ v, o.data ≠ .cell v
 keep : ∀ i h h', tn i h -> (∀ b ∈ fp, ∀ o, h.get? b = some o -> h'.get? b = some o) -> tn i h'
 item : ∀ (X : Cx), X.prog = P -> X.w = w -> X.K = K -> X.calm = true -> ∀ (i : Nat) (pins : List (Addr × Obj)) (s : Shared) (σ : St) (H : Hp) (E : Value -> Shared -> Prop), Inv X pins σ H s -> (∀ b ∈ fp, FpOk X pins H b) -> tn i s.heap -> J.go i H ->
  wpAny (model P w) X.A (pyNext (.ref it)) (fun r s1 => ∃ u, r = some u /\
   wpAny (model P w) X.A (letOwnedTupleGo tg (.ref it) u) (fun _ s2 => ∃ x H', Inv X pins σ H' s2 /\ RelV x u /\ J.yld i H x H' /\ tn (i + 1) s2.heap /\ ∀ b ∈ fp, H' b = none) E s1) E s
 done : ∀ (X : Cx), X.prog = P -> X.w = w -> X.K = K -> X.calm = true -> ∀ (i : Nat) (pins : List (Addr × Obj)) (s : Shared) (σ : St) (H : Hp) (E : Value -> Shared -> Prop), Inv X pins σ H s -> (∀ b ∈ fp, FpOk X pins H b) -> tn i s.heap -> J.stop i H ->
  wpAny (model P w) X.A (pyNext (.ref it)) (fun r s1 => r = none /\ Inv X pins σ H s1) E s
 self : ∀ (A : Around) (i : Nat) (s : Shared) (Q : Value -> Shared -> Prop) (E : Value -> Shared -> Prop), tn i s.heap -> Q (.ref it) s -> wpAny (model P w) A (pyIter (.ref it)) Q E s
abbrev TI := St -> Hp -> (It -> Hp -> Prop) -> Prop
def PIE (X : Cx) (pins : List (Addr × Obj)) (σ : St) (tg : Expr) (R : It -> Hp -> Prop) (itv : Value) (s2 : Shared) : Prop :=
 ∃ (it : Addr) (fp : List Addr) (tn : Nat -> Heap -> Prop) (J : It) (H' : Hp), itv = .ref it /\ Inv X pins σ H' s2 /\ Turn X.prog X.w X.K tg J fp it tn /\ tn 0 s2.heap /\ (∀ b ∈ fp, FpOk X pins H' b) /\ R J H'
def PI (X : Cx) (tg iter : Expr) (wi : TI) : Prop :=
 ∀ (pins : List (Addr × Obj)) (s : Shared) (σ : St) (H : Hp) (R : It -> Hp -> Prop), Inv X pins σ H s -> wi σ H R ->
  wpAny (model X.prog X.w) X.A (eval iter X.env) (fun v s1 => wpAny (model X.prog X.w) X.A (pyIter v) (PIE X pins σ tg R) X.xe s1) X.xe s
theorem go_of {M : Model} {n : String} {vs : Array Value} (ho : s.heap.get? it = some o) (hc : o.cls = .type n) (hd : o.data = .fields vs)
    (hn : ["enumerate", "zip", "dict_itemiterator", "dict_reverseitemiterator", "odict_iterator", "itertools.zip_longest", "itertools.pairwise"].contains n = false) (hQ : Q () s) : wpAny M A (letOwnedTupleGo tg (.ref it) u) Q E s := by
  unfold letOwnedTupleGo
  cases tg <;> first
    | exact wpAny_pure hQ
    | (cases u <;> first
        | exact wpAny_pure hQ
        | (refine wpAny_bind (wpAny_load ho ?_)
           rw [hc, hd]
           show wpAny M A (if (["enumerate", "zip", "dict_itemiterator", "dict_reverseitemiterator", "odict_iterator", "itertools.zip_longest", "itertools.pairwise"].contains n && vs[0]? == some (rawInt _)) = true then _ else _) Q E s
           rw [if_neg (by intro h; rw [hn, Bool.false_and] at h; cases h)]
           exact wpAny_pure hQ))
def Itl (K : W.Frag) (a : Addr) : It :=
 ⟨fun i H => ∃ xs x, SqL K H a xs /\ xs[i]? = some x, fun i H x H' => H' = H /\ ∀ xs, SqL K H a xs -> xs[i]? = some x, fun i H => ∃ xs, SqL K H a xs /\ xs.length <= i⟩
def Itt (K : W.Frag) (a : Addr) : It :=
 ⟨fun i H => ∃ xs x, SqT K H a xs /\ xs[i]? = some x, fun i H x H' => H' = H /\ ∀ xs, SqT K H a xs -> xs[i]? = some x, fun i H => ∃ xs, SqT K H a xs /\ xs.length <= i⟩
def Itr (lo : Int) (n : Nat) : It := ⟨fun i _ => i < n, fun i H x H' => H' = H /\ x = .int (lo + i), fun i _ => n <= i⟩
theorem zle {P : Program} (a it : Addr) : Turn P w K tg (Itl K a) [it] it (fun i h => h.IsListIter it a i) where
 mem := by simp
 obj := fun i h st b hb => by
  have e : b = it := by simpa using hb
  subst e
  obtain ⟨o, e, c, d⟩ := st
  exact ⟨o, e, fun v z => by rw [d] at z; cases z⟩
 keep := fun i h h' st k => st.at fun o e => k it (by simp) o e
 item := by
  intro X hP hw hK hc i pins s σ H E I hf st hg
  subst hP hw hK
  obtain ⟨xs, x, hq, hx⟩ := hg
  obtain ⟨its, rv, p, hz⟩ := I.list hq
  obtain ⟨u, hu, ru⟩ := rv.get hx
  obtain ⟨f0, f1, f2, f3, f4, f5⟩ := hf it (by simp)
  refine wpAny_pyNext_list_item st p.isList (x := u) (by simpa using hu) fun h' st' sb => ?_
  have I1 : Inv X pins σ H { s with heap := h' } := I.turned (t' := s.toks) (fun b o hb e => (sb.2 b hb).trans e) f0 f1 f3 f4 f5
  obtain ⟨o, e, c, d⟩ := id st'
  exact ⟨u, rfl, go_of (s := { s with heap := h' }) e c d (by decide) ⟨x, H, I1, ru, ⟨rfl, fun ys hy => by rw [I.list_inj hy hq]; exact hx⟩, st', fun b hb => (hf b hb).1⟩⟩
 done := by
  intro X hP hw hK hc i pins s σ H E I hf st hg
  subst hP hw hK
  obtain ⟨xs, hq, hx⟩ := hg
  obtain ⟨its, rv, p, hz⟩ := I.list hq
  obtain ⟨f0, f1, f2, f3, f4, f5⟩ := hf it (by simp)
  have hl := rv.length
  exact wpAny_pyNext_list_end (I.ok.hd hc) st p.isList (by simp; omega) fun h' eb => ⟨rfl, I.turned (t' := s.toks) (fun b o hb e => eb b o hb e) f0 f1 f3 f4 f5⟩
 self := fun _ _ _ _ _ st h => wpAny_pyIter_listiter st h
theorem zkF {P : Program} (a it : Addr) : Turn P w K tg (Itt K a) [it] it (fun i h => h.IsTupleIter it a i) where
 mem := by simp
 obj := fun i h st b hb => by
  have e : b = it := by simpa using hb
  subst e
  obtain ⟨o, e, c, d⟩ := st
  exact ⟨o, e, fun v z => by rw [d] at z; cases z⟩
 keep := fun i h h' st k => st.at fun o e => k it (by simp) o e
 item := by
  intro X hP hw hK hc i pins s σ H E I hf st hg
  subst hP hw hK
  obtain ⟨xs, x, hq, hx⟩ := hg
  obtain ⟨its, rv, p, hz⟩ := I.tuple hq
  obtain ⟨u, hu, ru⟩ := rv.get hx
  obtain ⟨f0, f1, f2, f3, f4, f5⟩ := hf it (by simp)
  refine wpAny_pyNext_tuple_item st (show s.heap.IsTuple a its.toArray from p) (x := u) (by simpa using hu) fun h' st' sb => ?_
  have I1 : Inv X pins σ H { s with heap := h' } := I.turned (t' := s.toks) (fun b o hb e => (sb.2 b hb).trans e) f0 f1 f3 f4 f5
  obtain ⟨o, e, c, d⟩ := id st'
  exact ⟨u, rfl, go_of (s := { s with heap := h' }) e c d (by decide) ⟨x, H, I1, ru, ⟨rfl, fun ys hy => by rw [I.tuple_inj hy hq]; exact hx⟩, st', fun b hb => (hf b hb).1⟩⟩
 done := by
  intro X hP hw hK hc i pins s σ H E I hf st hg
  subst hP hw hK
  obtain ⟨xs, hq, hx⟩ := hg
  obtain ⟨its, rv, p, hz⟩ := I.tuple hq
  obtain ⟨f0, f1, f2, f3, f4, f5⟩ := hf it (by simp)
  have hl := rv.length
  exact wpAny_pyNext_tuple_end (I.ok.hd hc) st (show s.heap.IsTuple a its.toArray from p) (by simp; omega) fun h' eb => ⟨rfl, I.turned (t' := s.toks) (fun b o hb e => eb b o hb e) f0 f1 f3 f4 f5⟩
 self := fun _ _ _ _ _ st h => wpAny_pyIter_tupleiter st h
theorem zkt {P : Program} {w : World} (it : Addr) (lo : Int) (n : Nat) : Turn P w K tg (Itr lo n) [it] it (fun i h => IsRangeIter h it (lo + (i : Nat) * 1) ((n : Int) - (i : Nat)) 1) where
 mem := by simp
 obj := fun i h st b hb => by
  have e : b = it := by simpa using hb
  subst e
  exact ⟨_, st, fun v z => by
   have z' : Data.fields _ = Data.cell v := z
   cases z'⟩
 keep := fun i h h' st k => k it (by simp) _ st
 item := by
  intro X hP hw hK hc i pins s σ H E I hf st hg
  subst hP hw hK
  obtain ⟨f0, f1, f2, f3, f4, f5⟩ := hf it (by simp)
  have W := Walks.range (prog := X.prog) (w := X.w) (I.ok.hd hc) it lo 1 n
  refine W.item i s _ _ hg st fun v h' tk hv st' kk => ?_
  obtain ⟨t, rfl⟩ := hv
  have I1 : Inv X pins σ H { s with heap := h', toks := tk } := I.turned (fun b o hb e => kk b o (by simpa using hb) e) f0 f1 f3 f4 f5
  refine ⟨_, rfl, go_of (s := { s with heap := h', toks := tk }) (n := "range_iterator") st' rfl rfl (by decide) ⟨.int (lo + i), H, I1, ⟨t, ?_⟩, ⟨rfl, rfl⟩, st', fun b hb => (hf b hb).1⟩⟩
  rw [Int.mul_one]
 done := by
  intro X hP hw hK hc i pins s σ H E I hf st hg
  subst hP hw hK
  obtain ⟨f0, f1, f2, f3, f4, f5⟩ := hf it (by simp)
  exact wpAny_pyNext_range_end (I.ok.hd hc) st (by have : n <= i := hg; omega) fun h' eb => ⟨rfl, I.turned (t' := s.toks) (fun b o hb e => eb b o hb e) f0 f1 f3 f4 f5⟩
 self := fun _ _ _ _ _ st h => wpAny_pyIter_rangeiter st h
section
variable {X : Cx} {tg : Expr}
theorem range_it {R : It -> Hp -> Prop} {lo hi : Int} {t u v : Tok} {tk : Nat} (I : Inv X pins σ H s) (h1 : -(2 ^ 62) <= lo) (h2 : lo < 2 ^ 62) (h3 : -(2 ^ 62) <= hi) (h4 : hi < 2 ^ 62)
  (q : R (Itr lo (hi - lo).toNat) H) : wpAny (model X.prog X.w) X.A (pyIter (.ref s.heap.objs.size)) (PIE X pins σ tg R) E { s with heap := s.heap.push { cls := .type "range", data := .fields #[.int lo t, .int hi u, .int 1 v] }, toks := tk } := by
 refine wpAny_pyIter_range (IsRange.new ..) (small_one h1 h2 h3 h4) ?_
 have I1 : Inv X pins σ H { s with heap := s.heap.push { cls := .type "range", data := .fields #[.int lo t, .int hi u, .int 1 v] }, toks := tk } := I.kept fun b o e => Heap.get?_push_of_some _ e
 refine ⟨(s.heap.push { cls := .type "range", data := .fields #[.int lo t, .int hi u, .int 1 v] }).objs.size, [(s.heap.push { cls := .type "range", data := .fields #[.int lo t, .int hi u, .int 1 v] }).objs.size], _, _, H, rfl,
  I1.kept (t' := tk) fun b o e => Heap.get?_push_of_some _ e, zkt _ lo (hi - lo).toNat, ?_, fun b hb => ?_, q⟩
 ·have e1 : lo + ((0 : Nat) : Int) * 1 = lo := by simp
  have e2 : (((hi - lo).toNat : Nat) : Int) - ((0 : Nat) : Int) = Builtin.Range.rangeSize lo hi 1 := by rw [rangeSize_one]; split <;> omega
  show IsRangeIter _ _ (lo + ((0 : Nat) : Int) * 1) ((((hi - lo).toNat : Nat) : Int) - ((0 : Nat) : Int)) 1
  rw [e1, e2]
  exact Heap.get?_push_size _ rfl
 ·have e : b = (s.heap.push { cls := .type "range", data := .fields #[.int lo t, .int hi u, .int 1 v] }).objs.size := by simpa using hb
  subst e
  exact I1.fpOk (Nat.le_refl _) (I1.hok.fresh (Nat.le_refl _))
def iRng1 (ta : TA) : TI := fun σ H R => ta σ H fun vs H1 => ∃ j : Int, vs = [.int j] /\ -(2 ^ 62) <= j /\ j < 2 ^ 62 /\ R (Itr 0 j.toNat) H1
theorem zkP {a : Expr} {ta : TA} {p pos : Pos} (hg : Gl X "range") (hm : X.mg "range" = none) (ha : PA X [a] ta) (hs : starEach [a] X.env = [(false, eval a X.env)] := by rfl) : PI X tg (.Call (.Name "range" p) [a] [] pos) (iRng1 ta) := by
 intro pins s σ H R I h
 refine Call_ (zhf I hg hm boot_range (PyProof.Rows.callWith_type1 (thn (ha pos pins s σ H _ I h) fun us s1 ⟨vs, H1, I1, r1, q1⟩ => ?_) hs rfl))
 obtain ⟨j, e, q1, q2, q⟩ := q1
 subst e
 cases r1 with
 | cons r rr =>
  cases rr
  obtain ⟨t, rfl⟩ := r
  exact call_range_1 (range_it I1 (by omega) (by omega) q1 q2 (by simpa using q))
def tFor (wi : TI) (g : TG) (tb : TS) : TS := fun D σ H => wi σ H fun J H1 => ∃ W : Nat -> Nat -> St -> Hp -> Prop, (∃ m, W 0 m σ H1) /\ ∀ i m σ H, W i m σ H ->
 (J.stop i H /\ D.nx σ H) \/ (J.go i H /\ ∃ N : St -> Hp -> Prop, (∀ σ' H', N σ' H' -> ∃ m', m' < m /\ W (i + 1) m' σ' H') /\ ∀ x H', J.yld i H x H' -> g x σ H' fun σ2 H2 => tb { D with nx := N, ct := N, bk := D.nx } σ2 H2)
def zii (fp : List Addr) (h : Heap) : List (Addr × Obj) := fp.filterMap fun b => (h.get? b).map fun o => (b, o)
theorem zez (hb : b ∈ fp) (e : h.get? b = some o) : (b, o) ∈ zii fp h := List.mem_filterMap.mpr ⟨b, hb, by rw [e]; rfl⟩
theorem zl4 (hp : p ∈ zii fp h) : p.1 ∈ fp /\ h.get? p.1 = some p.2 := by
 obtain ⟨b, hb, e⟩ := List.mem_filterMap.mp hp
 cases q : h.get? b with
 | none => rw [q] at e; cases e
 | some o =>
  rw [q] at e
  have e' : (b, o) = p := Option.some.inj e
  subst e'
  exact ⟨hb, q⟩
theorem Inv.pinned (I : Inv X pins σ H s) (hf : ∀ b ∈ fp, FpOk X pins H b) (ho : ∀ b ∈ fp, ∃ o, s.heap.get? b = some o /\ ∀ v, o.data ≠ .cell v) : Inv X (pins ++ zii fp s.heap) σ H s :=
 I.pins_of fun p hp => (List.mem_append.mp hp).elim (fun z => I.pin p (List.mem_append_right _ z)) fun z => by
  obtain ⟨hb, e⟩ := zl4 z
  obtain ⟨f0, f1, f2, _⟩ := hf p.1 hb
  obtain ⟨o, e', d⟩ := ho p.1 hb
  rw [e] at e'; cases e'
  exact ⟨e, f0, f1, f2, d⟩
theorem Inv.unpinned (I : Inv X (pins ++ pl) σ H s) : Inv X pins σ H s := I.pins_of fun p hp => I.pin p (List.mem_append_right _ (List.mem_append_left _ hp))
theorem ps_for {iter : Expr} {wi : TI} {g : TG} (hp : PassesOwn (model X.prog X.w) X.A X.env X.xe) (hc : X.calm = true) (hi : PI X tg iter wi) (hg : PG X tg g) (hb : PSs X body tb)
    (hs : ∀ x, foldedSetIterable iter X.env x = pure x := by intro _; rfl) : PS X (.For tg iter body [] pos) (tFor wi g tb) := by
  intro pins s σ H D I h
  refine wpAny_For (thn (hi pins s σ H _ I h) fun v s1 h1 => thn h1 fun itv s2 h2 => ?_) hs
  obtain ⟨it, fp, tn, J, H2, e, I2, T, st2, f2, W, ⟨m0, w0⟩, turn⟩ := h2
  subst e
  have stat : ∀ {H' : Hp}, (∀ b ∈ fp, H' b = none) -> ∀ b ∈ fp, FpOk X pins H' b := fun hn b hb => ⟨hn b hb, (f2 b hb).2⟩
  refine codeAny_forLoop_any (fun n s' => ∃ i σ' H', Inv X pins σ' H' s' /\ tn i s'.heap /\ (∀ b ∈ fp, H' b = none) /\ W i n σ' H') ?_ m0 ⟨0, σ, H2, I2, st2, fun b hb => (f2 b hb).1, w0⟩
  rintro n s3 ⟨i, σ3, H3, I3, st3, fr3, w3⟩
  rcases turn i n σ3 H3 w3 with ⟨stop, qn⟩ | ⟨go, N, hN, step⟩
  . refine wpAny_passesOwn hp (thn (T.done X rfl rfl rfl hc i pins s3 σ3 H3 X.xe I3 (stat fr3) st3 stop) fun r s4 ⟨hr, I4⟩ => ?_)
    subst hr
    exact wpAny_execs_nil ⟨σ3, H3, I4, qn⟩
  . refine wpAny_passesOwn hp (thn (T.item X rfl rfl rfl hc i pins s3 σ3 H3 X.xe I3 (stat fr3) st3 go) fun r s4 ⟨u, hr, h4⟩ => ?_)
    subst hr
    refine wpAny_passesOwn hp (thn h4 fun _ s5 ⟨x, H5, I5, r5, y5, st5, fr5⟩ => ?_)
    have I5' := I5.pinned (stat fr5) (T.obj _ _ st5)
    refine wpAny_passesOwn hp (thn (hg _ s5 σ3 H5 x u _ I5' r5 (step x H5 y5)) fun _ s6 ⟨σ6, H6, I6, q6⟩ => ?_)
    refine wpAny_passesOwn hp (thn (hb _ s6 σ6 H6 _ I6 q6) fun f s7 q7 => ?_)
    have again : ∀ {σ7 : St} {H7 : Hp}, Inv X (pins ++ zii fp s5.heap) σ7 H7 s7 -> N σ7 H7 -> ∃ m, m < n /\ ∃ i σ' H', Inv X pins σ' H' s7 /\ tn i s7.heap /\ (∀ b ∈ fp, H' b = none) /\ W i m σ' H' := fun {σ7 H7} I7 n7 => by
      obtain ⟨m', hm, w7⟩ := hN σ7 H7 n7
      refine ⟨m', hm, i + 1, σ7, H7, I7.unpinned, T.keep _ _ _ st5 fun b hb o e => (I7.pin (b, o) (List.mem_append_right _ (List.mem_append_right _ (zez hb e)))).1, fun b hb => ?_, w7⟩
      obtain ⟨o, e, d⟩ := T.obj _ _ st5 b hb
      exact (I7.pin (b, o) (List.mem_append_right _ (List.mem_append_right _ (zez hb e)))).2.1
    cases f with
    | next => obtain ⟨σ7, H7, I7, n7⟩ := q7; exact again I7 n7
    | cont => obtain ⟨σ7, H7, I7, n7⟩ := q7; exact again I7 n7
    | brk => obtain ⟨σ7, H7, I7, q7⟩ := q7; exact ⟨σ7, H7, I7.unpinned, q7⟩
    | ret v => obtain ⟨x7, σ7, H7, I7, r7, q7⟩ := q7; exact ⟨x7, σ7, H7, I7.unpinned, r7, q7⟩
end
abbrev R2 := V -> V -> Hp -> VK -> Prop
def OpR (X : Cx) (f : Value -> Value -> Sem Value) (r : R2) : Prop :=
 ∀ (pins : List (Addr × Obj)) (s : Shared) (σ : St) (H : Hp) (x y : V) (v u : Value) (Q : VK), Inv X pins σ H s -> RelV x v -> RelV y u -> r x y H Q ->
  wpAny (model X.prog X.w) X.A (f v u) (EP X pins σ Q) X.xe s
def UnR (X : Cx) (f : Value -> Sem Value) (r : V -> Hp -> VK -> Prop) : Prop :=
 ∀ (pins : List (Addr × Obj)) (s : Shared) (σ : St) (H : Hp) (x : V) (v : Value) (Q : VK), Inv X pins σ H s -> RelV x v -> r x H Q ->
  wpAny (model X.prog X.w) X.A (f v) (EP X pins σ Q) X.xe s
def zgb (X : Cx) (f : Value) (r : List V -> Hp -> VK -> Prop) : Prop :=
 ∀ (pins : List (Addr × Obj)) (s : Shared) (σ : St) (H : Hp) (xs : List V) (us : List Value) (Q : VK), Inv X pins σ H s -> Vals xs us -> r xs H Q ->
  wpAny (model X.prog X.w) X.A (call f us) (EP X pins σ Q) X.xe s
def TruR (X : Cx) (r : V -> Hp -> (Bool -> Hp -> Prop) -> Prop) : Prop :=
 ∀ (pins : List (Addr × Obj)) (s : Shared) (σ : St) (H : Hp) (x : V) (v : Value) (Q : Bool -> Hp -> Prop), Inv X pins σ H s -> RelV x v -> r x H Q ->
  wpAny (model X.prog X.w) X.A (truthy v) (TP X pins σ Q) X.xe s
def tOp (r : R2) (ta tb : TE) : TE := fun σ H Q => ta σ H fun x H1 => tb σ H1 fun y H2 => r x y H2 Q
def tUn (r : V -> Hp -> VK -> Prop) (ta : TE) : TE := fun σ H Q => ta σ H fun x H1 => r x H1 Q
def rI (C : Int -> Int -> Prop) (g : Int -> Int -> V) : R2 := fun x y H Q => ∃ i j, x = .int i /\ y = .int j /\ C i j /\ Q (g i j) H
def rI0 (g : Int -> Int -> V) : R2 := fun x y H Q => ∃ i j, x = .int i /\ y = .int j /\ Q (g i j) H
def rU (g : Int -> V) : V -> Hp -> VK -> Prop := fun x H Q => ∃ i, x = .int i /\ Q (g i) H
section
variable {X : Cx} {a b c : Expr} {ta tb tc : TE} {pos : Pos}
theorem binT (ha : PE X a ta) (hb : PE X b tb) {R : V -> V -> Hp -> Prop} (I : Inv X pins σ H s)
  (h : ta σ H fun x H1 => tb σ H1 fun y H2 => R x y H2) {Q : Value -> Shared -> Prop} {f : Value -> Value -> Sem Value}
  (hf : ∀ v u s2 x y H2, Inv X pins σ H2 s2 -> RelV x v -> RelV y u -> R x y H2 -> wpAny (model X.prog X.w) X.A (f v u) Q X.xe s2) :
  wpAny (model X.prog X.w) X.A (eval a X.env) (fun v s₁ => wpAny (model X.prog X.w) X.A (eval b X.env) (fun u s₂ => wpAny (model X.prog X.w) X.A (f v u) Q X.xe s₂) X.xe s₁) X.xe s := by
 refine thn (ha pins s σ H _ I h) fun v s1 ⟨x, H1, I1, r1, q1⟩ => ?_
 refine thn (hb pins s1 σ H1 _ I1 q1) fun u s2 ⟨y, H2, I2, r2, q2⟩ => ?_
 exact hf v u s2 x y H2 I2 r1 r2 q2
theorem pe_op {op : Operator} {r : R2} (ho : OpR X (binaryOp op) r) (ha : PE X a ta) (hb : PE X b tb) : PE X (.BinOp a op b pos) (tOp r ta tb) := by
 intro pins s σ H Q I h
 exact wpAny_BinOp (binT ha hb I h fun v u s2 x y H2 I2 rx ry q => ho pins s2 σ H2 x y v u Q I2 rx ry q)
theorem pe_un {op : UnaryOp} (ho : UnR X (unaryOp op) r) (ha : PE X a ta) : PE X (.UnaryOp op a pos) (tUn r ta) := by
 intro pins s σ H Q I h
 exact UnaryOp_ (thn (ha pins s σ H _ I h) fun v s1 ⟨x, H1, I1, r1, q1⟩ => ho pins s1 σ H1 x v Q I1 r1 q1)
theorem opI 
  (rule : ∀ (i j : Int) (t u : Tok) (s : Shared) (Q : Value -> Shared -> Prop) (E : Value -> Shared -> Prop), C i j -> Q (.int (g i j) s.toks) { s with toks := s.toks + 1 } -> wpAny (model X.prog X.w) X.A (f (.int i t) (.int j u)) Q E s) :
  OpR X f (rI C fun i j => .int (g i j)) := by
 intro pins s σ H x y v u Q I rx ry h
 obtain ⟨i, j, rfl, rfl, hc, q⟩ := h
 obtain ⟨t, rfl⟩ := rx
 obtain ⟨t', rfl⟩ := ry
 exact rule i j t t' s _ _ hc ⟨.int (g i j), H, I.tok _, ⟨_, rfl⟩, q⟩
theorem opI0 
  (rule : ∀ (i j : Int) (t u : Tok) (s : Shared) (Q : Value -> Shared -> Prop) (E : Value -> Shared -> Prop), Q (.int (g i j) s.toks) { s with toks := s.toks + 1 } -> wpAny (model X.prog X.w) X.A (f (.int i t) (.int j u)) Q E s) :
  OpR X f (rI0 fun i j => .int (g i j)) := by
 intro pins s σ H x y v u Q I rx ry h
 obtain ⟨i, j, rfl, rfl, q⟩ := h
 obtain ⟨t, rfl⟩ := rx
 obtain ⟨t', rfl⟩ := ry
 exact rule i j t t' s _ _ ⟨.int (g i j), H, I.tok _, ⟨_, rfl⟩, q⟩
theorem opB0 {g : Int -> Int -> Bool}
  (rule : ∀ (i j : Int) (t u : Tok) (s : Shared) (Q : Value -> Shared -> Prop) (E : Value -> Shared -> Prop), Q (.bool (g i j)) s -> wpAny (model X.prog X.w) X.A (f (.int i t) (.int j u)) Q E s) :
  OpR X f (rI0 fun i j => .bl (g i j)) := by
 intro pins s σ H x y v u Q I rx ry h
 obtain ⟨i, j, rfl, rfl, q⟩ := h
 obtain ⟨t, rfl⟩ := rx
 obtain ⟨t', rfl⟩ := ry
 exact rule i j t t' s _ _ ⟨.bl (g i j), H, I, rfl, q⟩
def CPow (i j : Int) : Prop := 0 <= j /\ j <= 1000000 /\ i.natAbs < 2 ^ 64
theorem op_add : OpR X (binaryOp .Add) (rI0 fun i j => .int (i + j)) := opI0 fun _ _ _ _ _ _ _ q => add_int q
theorem op_sub : OpR X (binaryOp .Sub) (rI0 fun i j => .int (i - j)) := opI0 fun _ _ _ _ _ _ _ q => sub_int q
theorem op_mod : OpR X (binaryOp .Mod) (rI (fun _ j => 0 < j) fun i j => .int (i % j)) := opI fun i j _ _ _ _ _ hc q => by
 have h1 : (0 : Int) < j := hc
 exact mod_int' (by omega) (by rw [Int.fmod_eq_emod_of_nonneg i (by omega)]; exact q)
theorem op_pow : OpR X (binaryOp .Pow) (rI CPow fun i j => .int (i ^ j.toNat)) := opI fun _ _ _ _ _ _ _ hc q => pow_int_small hc.1 hc.2.1 hc.2.2 q
theorem unI {f : Value -> Sem Value} {g : Int -> Int}
  (rule : ∀ (i : Int) (t : Tok) (s : Shared) (Q : Value -> Shared -> Prop) (E : Value -> Shared -> Prop), Q (.int (g i) s.toks) { s with toks := s.toks + 1 } -> wpAny (model X.prog X.w) X.A (f (.int i t)) Q E s) :
  UnR X f (rU fun i => .int (g i)) := by
 intro pins s σ H x v Q I rx h
 obtain ⟨i, rfl, q⟩ := h
 obtain ⟨t, rfl⟩ := rx
 exact rule i t s _ _ ⟨.int (g i), H, I.tok _, ⟨_, rfl⟩, q⟩
theorem un_neg : UnR X (unaryOp .USub) (rU fun i => .int (-i)) := unI fun _ _ _ _ _ q => neg_int q
end
section
variable {X : Cx} {a b c : Expr} {ta tb tc : TE} {pos : Pos}
theorem zkY {Q : VK} {k k' : Bool} (I : Inv X pins σ H s) (q : Q (.bl k) H) (e : k = k') : EP X pins σ Q (.bool k') s := by
 subst e
 exact ⟨.bl k, H, I, rfl, q⟩
theorem op_lt : OpR X (compareOp .Lt) (rI0 fun i j => .bl (decide (i < j))) := opB0 fun _ _ _ _ _ _ _ q => lt_int q
theorem ziB : OpR X (compareOp .LtE) (rI0 fun i j => .bl (decide (i <= j))) := opB0 fun _ _ _ _ _ _ _ q => le_int q
theorem op_gt : OpR X (compareOp .Gt) (rI0 fun i j => .bl (decide (j < i))) := opB0 fun _ _ _ _ _ _ _ q => gt_int q
theorem op_ge : OpR X (compareOp .GtE) (rI0 fun i j => .bl (decide (j <= i))) := opB0 fun _ _ _ _ _ _ _ q => ge_int q
theorem op_isN : OpR X (compareOp .Is) (fun x y H Q => y = .non /\ Q (.bl (decide (x = .non))) H) := by
 intro pins s σ H x y v u Q I rx ry h
 obtain ⟨rfl, q⟩ := h
 cases ry
 refine is_none_gen (zkY I q ?_)
 cases x <;> first
  | (cases rx; rfl)
  | (obtain ⟨t, rfl⟩ := rx; rfl)
theorem op_notN : OpR X (compareOp .IsNot) (fun x y H Q => y = .non /\ Q (.bl (!decide (x = .non))) H) := by
 intro pins s σ H x y v u Q I rx ry h
 obtain ⟨rfl, q⟩ := h
 cases ry
 refine isnot_none_gen (zkY I q ?_)
 cases x <;> first
  | (cases rx; rfl)
  | (obtain ⟨t, rfl⟩ := rx; rfl)
theorem OpR.or {r r' : R2} (h : OpR X f r) (h' : OpR X f r') : OpR X f (fun x y H Q => r x y H Q \/ r' x y H Q) := by
 intro pins s σ H x y v u Q I rx ry q
 rcases q with q | q
 ·exact h pins s σ H x y v u Q I rx ry q
 ·exact h' pins s σ H x y v u Q I rx ry q
theorem zfU (b : Expr) (h : op ≠ .In := by decide) (h2 : op ≠ .NotIn := by decide) : behindInMarks op b = false := by
 have e1 : (op == CmpOp.In) = false := by cases op <;> first | rfl | exact absurd rfl h
 have e2 : (op == CmpOp.NotIn) = false := by cases op <;> first | rfl | exact absurd rfl h2
 cases b <;> simp [behindInMarks, e1, e2]
theorem pe_cmpR {r : R2} (ho : OpR X (compareOp op) r) (ha : PE X a ta) (hb : PE X b tb) (hm : behindInMarks op b = false) : PE X (.Compare a [op] [b] pos) (tOp r ta tb) := by
 intro pins s σ H Q I h
 exact wpAny_Compare1 (binT ha hb I h fun v u s2 x y H2 I2 rx ry q => ho pins s2 σ H2 x y v u Q I2 rx ry q) hm
def tTest (t : TE) : TT := fun σ H Q => t σ H fun x H' => ∃ k, x = .bl k /\ Q k H'
theorem pt_cmpR {r : R2} (ho : OpR X (compareOp op) r) (ha : PE X a ta) (hb : PE X b tb) (hm : behindInMarks op b = false) : PT X (.Compare a [op] [b] pos) (tTest (tOp r ta tb)) := by
 intro pins s σ H Q I h
 refine wpAny_isTrue_Compare1 (thn (ha pins s σ H _ I h) fun v s1 ⟨x, H1, I1, r1, q1⟩ => thn (hb pins s1 σ H1 _ I1 q1) fun u s2 ⟨y, H2, I2, r2, q2⟩ =>
  thn (ho pins s2 σ H2 x y v u _ I2 r1 r2 q2) fun c s3 ⟨z, H3, I3, r3, k, e, q3⟩ => ?_) hm
 subst e
 cases r3
 exact wpAny_truthy_bool ⟨H3, I3, q3⟩
def zl1 (r r' : R2) (ta tb tc : TE) : TE := fun σ H Q => ta σ H fun x H1 => tb σ H1 fun y H2 => r x y H2 fun z H3 => ∃ k, z = .bl k /\
 (if k = true then tc σ H3 fun w' H4 => r' y w' H4 Q else Q (.bl false) H3)
theorem pe_chain {r r' : R2} (ho : OpR X (compareOp op) r) (ho' : OpR X (compareOp op') r') (ha : PE X a ta) (hb : PE X b tb) (hc : PE X c tc)
  (hm : lastMarks [op, op'] [b, c] = false := by with_unfolding_all rfl) : PE X (.Compare a [op, op'] [b, c] pos) (zl1 r r' ta tb tc) := by
 intro pins s σ H Q I h
 refine Compare_chain (thn (ha pins s σ H _ I h) fun v s1 ⟨x, H1, I1, r1, q1⟩ => chain_link (thn (hb pins s1 σ H1 _ I1 q1) fun u s2 ⟨y, H2, I2, r2, q2⟩ =>
  thn (ho pins s2 σ H2 x y v u _ I2 r1 r2 q2) fun d s3 ⟨z, H3, I3, r3, k, e, q3⟩ => ?_)) hm
 subst e
 cases r3
 refine wpAny_truthy_bool ?_
 cases k with
 | false => exact ite_ff ⟨.bl false, H3, I3, rfl, q3⟩
 | true => exact ite_tt (chain_last (thn (hc pins s3 σ H3 _ I3 q3) fun w' s4 ⟨z', H4, I4, r4, q4⟩ => ho' pins s4 σ H4 y z' u w' Q I4 r2 r4 q4))
theorem pt_chain {r r' : R2} (ho : OpR X (compareOp op) r) (ho' : OpR X (compareOp op') r') (ha : PE X a ta) (hb : PE X b tb) (hc : PE X c tc)
  (hm : lastMarks [op, op'] [b, c] = false := by with_unfolding_all rfl) : PT X (.Compare a [op, op'] [b, c] pos) (tTest (zl1 r r' ta tb tc)) := by
 intro pins s σ H Q I h
 refine isTrue_chain (thn (ha pins s σ H _ I h) fun v s1 ⟨x, H1, I1, r1, q1⟩ => test_link (thn (hb pins s1 σ H1 _ I1 q1) fun u s2 ⟨y, H2, I2, r2, q2⟩ =>
  thn (ho pins s2 σ H2 x y v u _ I2 r1 r2 q2) fun d s3 ⟨z, H3, I3, r3, k, e, q3⟩ => ?_)) hm
 subst e
 cases r3
 refine wpAny_truthy_bool ?_
 cases k with
 | false =>
  obtain ⟨k', e', q'⟩ := q3
  cases e'
  exact ite_ff ⟨H3, I3, q'⟩
 | true =>
  refine ite_tt (test_last (thn (hc pins s3 σ H3 _ I3 q3) fun w' s4 ⟨z', H4, I4, r4, q4⟩ => thn (ho' pins s4 σ H4 y z' u w' _ I4 r2 r4 q4) fun d' s5 ⟨z2, H5, I5, r5, k2, e2, q5⟩ => ?_))
  subst e2
  cases r5
  exact wpAny_truthy_bool ⟨H5, I5, q5⟩
def TruV (K : W.Frag) (x : V) (H : Hp) (k : Bool) : Prop :=
 match x with
 | .non => k = false
 | .bl b => k = b
 | .int i => k = (i != 0)
 | .str y => y.length <= sizeLine /\ k = ((y.length : Int) != 0)
 | .byt y => y.size <= sizeLine /\ k = ((y.size : Int) != 0)
 | .ref p => (∃ xs, SqL K H p xs /\ k = !xs.isEmpty) \/ (∃ xs, SqT K H p xs /\ k = !xs.isEmpty) \/ ∃ kvs, H p = some (.dK kvs) /\ k = !kvs.isEmpty
 | _ => False
theorem zkg {κ : Type} {kvs : List (κ × V)} {vs : List (κ × Value)} (r : KV kvs vs) : (!vs.isEmpty) = !kvs.isEmpty := by
 cases r <;> rfl
theorem zg8 (r : Vals xs its) : (!its.toArray.isEmpty) = !xs.isEmpty := by
 cases r <;> simp
theorem zgH : (sizeLine : Nat) < 2 ^ 63 := by rw [sizeLine_eq]; decide
theorem tru_ok : TruR X (fun x H Q => ∃ k, TruV X.K x H k /\ Q k H) := by
 intro pins s σ H x v Q I rx h
 obtain ⟨k, e, q⟩ := h
 have hl := zgH
 have hs : sizeLine = 16777216 := sizeLine_eq
 cases x with
 | non =>
  cases rx
  have e' : k = false := e
  subst e'
  exact truthy_none ⟨H, I, q⟩
 | bl b =>
  cases rx
  have e' : k = b := e
  subst e'
  exact wpAny_truthy_bool ⟨H, I, q⟩
 | int i =>
  obtain ⟨t, rfl⟩ := rx
  have e' : k = (i != 0) := e
  subst e'
  exact PySem.P.truthy_int ⟨H, I, q⟩
 | str y =>
  obtain ⟨t, rfl⟩ := rx
  obtain ⟨hy, e'⟩ : y.length <= sizeLine /\ k = ((y.length : Int) != 0) := e
  subst e'
  exact PySem.P.truthy_str (by omega) ⟨H, I.tok _, q⟩
 | byt y =>
  obtain ⟨t, rfl⟩ := rx
  obtain ⟨hy, e'⟩ : y.size <= sizeLine /\ k = ((y.size : Int) != 0) := e
  subst e'
  exact W.truthy_bytes (by omega) ⟨H, I.tok _, q⟩
 | ref p =>
  cases rx
  have e' : (∃ xs, SqL X.K H p xs /\ k = !xs.isEmpty) \/ (∃ xs, SqT X.K H p xs /\ k = !xs.isEmpty) \/ ∃ kvs, H p = some (.dK kvs) /\ k = !kvs.isEmpty := e
  rcases e' with ⟨xs, hx, e'⟩ | ⟨xs, hx, e'⟩ | ⟨kvs, hx, e'⟩
  ·subst e'
   obtain ⟨its, r, pl, hz⟩ := I.list hx
   have hlen := r.length
   exact wpAny_truthy_list pl.isList (by simp only [List.size_toArray]; omega) ⟨H, I.tok _, by rw [zg8 r]; exact q⟩
  ·subst e'
   obtain ⟨its, r, pl, hz⟩ := I.tuple hx
   have hlen := r.length
   exact truthy_tuple pl (by simp only [List.size_toArray]; omega) ⟨H, I.tok _, by rw [zg8 r]; exact q⟩
  ·subst e'
   obtain ⟨hz, hS, vs, r, m⟩ : kvs.length <= sizeLine /\ (p == sysModules) = false /\ ∃ vs, KV kvs vs /\ s.heap.DictOf (zbj X.prog X.w) p vs := I.hok p _ hx
   have hlen : kvs.length = vs.length := Paired.length r
   exact wpAny_truthy_dict hS m (by omega) ⟨H, I.tok _, by rw [zkg r]; exact q⟩
 | _ => exact (show False from e).elim
theorem pt_truth (ha : PE X a ta) (he : ∀ whole, isTrue a X.env whole = (do let v <- whole; standAt a.pos; holding [v] (truthy v))) :
  PT X a (fun σ H Q => ta σ H fun x H' => ∃ k, TruV X.K x H' k /\ Q k H') := by
 intro pins s σ H Q I h
 exact isTrue_plain (thn (ha pins s σ H _ I h) fun v s1 ⟨x, H1, I1, r1, q1⟩ => tru_ok pins s1 σ H1 x v Q I1 r1 q1) (he _)
theorem zka : OpR X (binaryOp .Add) (fun x y H Q => ∃ i j, x = .str i /\ y = .str j /\ i.length + j.length <= sizeLine /\ Q (.str (i ++ j)) H) := by
 intro pins s σ H x y v u Q I rx ry h
 obtain ⟨i, j, rfl, rfl, hz, q⟩ := h
 obtain ⟨t, rfl⟩ := rx
 obtain ⟨t', rfl⟩ := ry
 exact add_str (fun t' tk => ⟨.str (i ++ j), H, I.tok _, ⟨_, rfl⟩, q⟩) hz
theorem zki {x : V} (r : Vals [x] us) : ∃ u, us = [u] /\ RelV x u := by
 cases r with
 | cons r1 r2 => cases r2; exact ⟨_, rfl, r1⟩
theorem vals2 {x y : V} (r : Vals [x, y] us) : ∃ u w', us = [u, w'] /\ RelV x u /\ RelV y w' := by
 cases r with
 | cons r1 r2 =>
  cases r2 with
  | cons r3 r4 => cases r4; exact ⟨_, _, rfl, r1, r3⟩
theorem zk3 (hc : X.calm = true) : zgb X (.builtin "max") (fun xs H Q => ∃ i j, xs = [.int i, .int j] /\ Q (.int (if j > i then j else i)) H) := by
 intro pins s σ H xs us Q I r h
 obtain ⟨i, j, rfl, q⟩ := h
 obtain ⟨u, w', rfl, ⟨t, rfl⟩, ⟨t', rfl⟩⟩ := vals2 r
 refine max_two_ints (I.ok.hd hc) fun h' tk k => ⟨_, H, I.kept k, ?_, q⟩
 by_cases hj : j > i
 ·rw [if_pos hj, if_pos hj]; exact ⟨_, rfl⟩
 ·rw [if_neg hj, if_neg hj]; exact ⟨_, rfl⟩
theorem zlM (hc : X.calm = true) : zgb X (.builtin "min") (fun xs H Q => ∃ i j, xs = [.int i, .int j] /\ Q (.int (if j < i then j else i)) H) := by
 intro pins s σ H xs us Q I r h
 obtain ⟨i, j, rfl, q⟩ := h
 obtain ⟨u, w', rfl, ⟨t, rfl⟩, ⟨t', rfl⟩⟩ := vals2 r
 refine min_two_ints (I.ok.hd hc) fun h' tk k => ⟨_, H, I.kept k, ?_, q⟩
 by_cases hj : j < i
 ·rw [if_pos hj, if_pos hj]; exact ⟨_, rfl⟩
 ·rw [if_neg hj, if_neg hj]; exact ⟨_, rfl⟩
end
structure Room (k : Nat) (A : Around) : Prop where
 hd : A.handled = none
 dp : A.depth + 3 * k + 5 < recursionLimit
 un : A.units + 16 * k + 200 < cLine
 gd : A.guards = some []
theorem Room.mono (r : Room k A) (h : j <= k) : Room j A := ⟨r.hd, by have := r.dp; omega, by have := r.un; omega, r.gd⟩
theorem Room.deeper (r : Room (k + 1) A) (env : Env) : Room k (A.deeper env) :=
 ⟨r.hd, by have := r.dp; show A.depth + 1 + 3 * k + 5 < _; omega, by have := r.un; show A.units + 3 + 16 * k + 200 < _; omega, r.gd⟩
theorem Room.depth (r : Room k A) : A.depth < recursionLimit := by have := r.dp; omega
theorem Room.units (r : Room k A) : A.units + 64 < cLine := by have := r.un; omega
def tNil : TA := fun _ H Q => Q [] H
def tCons (ta : TE) (tr : TA) : TA := fun σ H Q => ta σ H fun x H1 => tr σ H1 fun xs H2 => Q (x :: xs) H2
section
variable {X : Cx} {e : Expr} {es : List Expr} {te : TE} {t : TA} {pos : Pos}
theorem zgj : PA X [] tNil := fun _ _ _ _ H Q I h => Calls.spliced_nil ⟨[], H, I, .nil, h⟩
theorem zdh (ha : PE X e te) (hr : PA X es t) (hs : starEach (e :: es) X.env = (false, eval e X.env) :: starEach es X.env := by rfl) : PA X (e :: es) (tCons te t) := by
 intro pos pins s σ H Q I h
 rw [hs]
 show wpAny _ _ (spliced ((false, eval e X.env) :: backTo pos (starEach es X.env))) _ _ s
 refine Calls.spliced_cons (thn (ha pins s σ H _ I h) fun u s1 ⟨x, H1, I1, r1, q1⟩ => ?_)
 exact thn (hr pos pins s1 σ H1 _ I1 q1) fun us s2 ⟨xs, H2, I2, r2, q2⟩ => ⟨x :: xs, H2, I2, .cons r1 r2, q2⟩
def tTup (t : TA) : TE := fun σ H Q => t σ H fun xs H1 => xs.length <= sizeLine /\ ∀ p, H1 p = none -> Q (.ref p) (upd H1 p (.tup xs))
def tLst (t : TA) : TE := fun σ H Q => t σ H fun xs H1 => xs.length <= sizeLine /\ ∀ p, H1 p = none -> Q (.ref p) (upd H1 p (.lst xs))
theorem pe_tup {x1} (h : PA X es t) : PE X (.Tuple es x1 pos) (tTup t) := by
 intro pins s σ H Q I hq
 refine wpAny_Tuple_spliced (thn (h pos pins s σ H _ I hq) fun us s1 ⟨xs, H1, I1, r, z, q⟩ => ⟨by rw [<- r.length]; exact z, ?_⟩)
 have hf : H1 s1.heap.objs.size = none := I1.hok.fresh (Nat.le_refl _)
 refine ⟨.ref s1.heap.objs.size, upd H1 s1.heap.objs.size (.tup xs), I1.laid (t' := s1.toks) (fun b u e => Heap.get?_push_of_some _ e) (Nat.le_refl _) ?_, rfl, q _ hf⟩
 exact ⟨z, us, r, ⟨_, Heap.get?_push_size _ rfl, rfl, _, rfl⟩⟩
theorem pe_lst (h : PA X es t) : PE X (.List es pos) (tLst t) := by
 intro pins s σ H Q I hq
 refine wpAny_List_spliced (thn (h pos pins s σ H _ I hq) fun us s1 ⟨xs, H1, I1, r, z, q⟩ => ⟨by rw [<- r.length]; exact z, ?_⟩)
 have hf : H1 s1.heap.objs.size = none := I1.hok.fresh (Nat.le_refl _)
 refine ⟨.ref s1.heap.objs.size, upd H1 s1.heap.objs.size (.lst xs), I1.laid (t' := s1.toks) (fun b u e => Heap.get?_push_of_some _ e) (Nat.le_refl _) ?_, rfl, q _ hf⟩
 exact ⟨z, us, 0, r, Heap.get?_push_size _ rfl⟩
end
abbrev Sp := List V -> Hp -> VK -> XK -> Prop
abbrev CXT := List Env -> Hp -> Shared -> XK -> Value -> Shared -> Prop
structure Env0 (P : Program) (w : World) (K : W.Frag) (mg : Str -> Option Value) (base : Heap) (A : Around) (outer : List Env) (s : Shared) (H : Hp) : Prop where
 frames : A.frames = some outer
 mod : Mod K mg base
 bs : ∀ b o, base.get? b = some o -> s.heap.get? b = some o /\ H b = none
 bsz : base.objs.size <= s.heap.objs.size
 funs : s.heap.FunFrames base outer
 frf : ∀ b ∈ frs outer, H b = none
 hok : HOk P w H s.heap
 bare : AllBare s.gens
def CE (outer : List Env) (P : Program) (w : World) (H : Hp) (s : Shared) (Q : VK) (u : Value) (s' : Shared) : Prop :=
 ∃ v H', s'.os = s.os /\ AllBare s'.gens /\ Un (frs outer) [] H H' s.heap s'.heap /\ HOk P w H' s'.heap /\ RelV v u /\ Q v H'
def CR (CX : CXT) (outer : List Env) (P : Program) (w : World) (H : Hp) (s : Shared) (Q : VK) (E : XK) (r : Result) (s' : Shared) : Prop :=
 match r with
 | .ok (.ret u) => CE outer P w H s Q u s'
 | .ok _ => False
 | .error e => CX outer H s E e s'
structure FnOk (P : Program) (w : World) (K : W.Frag) (mg : Str -> Option Value) (base : Heap) (CX : CXT) (k : Nat) (f : Addr) (fd : FuncData) (ps : List Str) (sp : Sp) : Prop where
 len : ∀ vs H Q E, sp vs H Q E -> vs.length = ps.length
 run : ∀ (A : Around) (outer : List Env) (s : Shared) (H : Hp) (args : Args) (us : List Value) (vs : List V) (Q : VK) (E : XK), Room k A -> Env0 P w K mg base A outer s H -> BindsTo s fd args (ps.zip us) -> Vals vs us -> sp vs H Q E ->
  codeAny (model P w) A (.call (.ref f) args) (CR CX outer P w H s Q E) s
section
variable {X : Cx} {pins : List (Addr × Obj)} {σ : St} {H : Hp} {s s' : Shared}
theorem Inv.env0 (I : Inv X pins σ H s) : Env0 X.prog X.w X.K X.mg X.base X.A X.stack s H :=
 ⟨I.ok.frames, I.ok.mod, I.bs, Nat.le_trans I.ok.bsz I.sz, I.stack, I.stkFree, I.hok, I.bare⟩
theorem Inv.after {Q : VK} (I : Inv X pins σ H s) (h : CE X.stack X.prog X.w H s Q u s') : EP X pins σ Q u s' := by
 obtain ⟨v, H', os, bare, un, hok, r, q⟩ := h
 obtain ⟨hh, g, d, t, os'⟩ := s'
 obtain rfl : os' = s.os := os
 exact ⟨v, H', I.call (h' := hh) (g' := g) (d' := d) (t' := t) (ch := []) un hok bare (fun b z => absurd z (by simp)), r, q⟩
end
def tCall (sp : Sp) (dvs : List V) (E : XK) (t : TA) : TE := fun σ H Q => t σ H fun vs H1 => sp (vs ++ dvs) H1 Q E
def Binds (K : W.Frag) (fd : FuncData) (ps : List Str) (ds : List Value) : Prop :=
 ∀ (s : Shared) (us : List Value), K.In s.heap -> (us ++ ds).length = ps.length -> BindsTo s fd ⟨us, []⟩ (ps.zip (us ++ ds))
theorem Binds.all (h : ∀ us : List Value, us.length = ps.length -> bindArgs fd ⟨us, []⟩ = pure (ps.zip us)) : Binds K fd ps [] := fun s us _ hl => by
 rw [List.append_nil] at hl ⊢
 exact .of_eq (h us hl)
def zla (CX : CXT) (X : Cx) (E : XK) : Prop := ∀ (pins : List (Addr × Obj)) (σ : St) (H : Hp) (s : Shared) (e : Value) (s' : Shared), Inv X pins σ H s -> CX X.stack H s E e s' -> X.xe e s'
section
variable {X : Cx} {CX : CXT} {k : Nat} {f C : Addr} {fd : FuncData} {ps : List Str} {sp : Sp} {dvs : List V} {ds : List Value} {E : XK} {x m : Str} {p pos apos : Pos} {e o : Expr} {es : List Expr} {ta : TE} {t : TA}
theorem run_fn {Q : VK} (F : FnOk X.prog X.w X.K X.mg X.base CX k f fd ps sp) (hr : Room k X.A) (hb : Binds X.K fd ps ds) (hd : Vals dvs ds) (hx : zla CX X E)
  (I : Inv X pins σ H s) (r : Vals vs us) (h : sp (vs ++ dvs) H Q E) : wpAny (model X.prog X.w) X.A (call (.ref f) us) (EP X pins σ Q) X.xe s := by
 have r2 : Vals (vs ++ dvs) (us ++ ds) := r.append hd
 have hl : (us ++ ds).length = ps.length := by rw [<- r2.length]; exact F.len _ _ _ _ h
 refine wpAny_call (codeAny_mono (F.run X.A X.stack s H ⟨us, []⟩ (us ++ ds) (vs ++ dvs) Q E hr I.env0 (hb s us I.kIn hl) r2 h) fun r s' hq => ?_)
 cases r with
 | error e => exact hx pins σ H s e s' I hq
 | ok fl =>
  cases fl with
  | ret u => exact I.after hq
  | next => exact False.elim hq
  | brk => exact False.elim hq
  | cont => exact False.elim hq
theorem zgV (F : FnOk X.prog X.w X.K X.mg X.base CX k f fd ps sp) (hr : Room k X.A) (hg : Gl X x) (hm : X.mg x = some (.ref f)) (hk : W.keepIn X.K (.ref f) = true) (hb : Binds X.K fd ps ds) (hd : Vals dvs ds) (hx : zla CX X E)
  (ha : PA X (e :: es) t) (hdb : (x == ("__debug__" : Str)) = false := by decide) (he : starEach (e :: es) X.env = (false, eval e X.env) :: starEach es X.env := by rfl) (hpl : (backTo pos (starEach es X.env)).any (·.1) = false := by rfl) :
  PE X (.Call (.Name x p) (e :: es) [] pos) (tCall sp dvs E t) := by
 intro pins s σ H Q I h
 refine wpAny_Call_Name_kw (ld_glob I hg hm ?_ hdb)
 refine W.callWith_K (h₀ := X.base) I.ok.mod.kin hk (thn (ha pos pins s σ H _ I h) fun us s1 ⟨vs, H1, I1, r, q⟩ => ⟨I1.kIn, ?_⟩) he hpl
 exact run_fn F hr hb hd hx I1 r q
end
structure FnScope (N P : List Str) (sc : Scope) : Prop where
 kind : sc.kind = .function
 co : sc.isCoroutine = false
 gen : sc.isGenerator = false
 nd : N.Nodup
 pre : N.take P.length = P
 par : ∀ x ∈ P, sc.names.lookup x = some .local \/ sc.names.lookup x = some .cell
 nofree : ∀ y ∈ sc.names, y.2 ≠ .free
theorem ziM : ∀ {binds : List (Str × Value)} {m : Str -> Option Value}, (∀ v, (x, v) ∉ binds) -> bindL kindOf binds m x = m x
 | [], _, _ => rfl
 | (n, v) :: r, m, h => by
  unfold bindL
  rw [ziM fun w hw => h w (List.mem_cons_of_mem _ hw)]
  split
  ·have : x ≠ n := by rintro rfl; exact h v List.mem_cons_self
   simp [this]
  ·rfl
theorem ziq : ∀ {binds : List (Str × Value)} {m : Str -> Option Value}, (∀ v, (x, v) ∉ binds) -> bindC kindOf binds m x = m x
 | [], _, _ => rfl
 | (n, v) :: r, m, h => by
  unfold bindC
  rw [ziq fun w hw => h w (List.mem_cons_of_mem _ hw)]
  split
  ·rfl
  ·have : x ≠ n := by rintro rfl; exact h v List.mem_cons_self
   simp [this]
theorem zim : ∀ {P : List Str} {vs : List Value} {i : Nat} {m : Str -> Option Value}, P.Nodup -> P[i]? = some x -> vs[i]? = some v -> kindOf x = some .local ->
  bindL kindOf (P.zip vs) m x = some v
 | [], _, _, _, _, h, _, _ => by simp at h
 | _ :: _, [], _, _, _, _, h, _ => by simp at h
 | p :: P, w :: vs, 0, m, nd, h1, h2, hk => by
  simp at h1 h2; subst h1; subst h2
  show bindL kindOf ((p, w) :: P.zip vs) m p = _
  unfold bindL
  rw [ziM fun v hv => (List.nodup_cons.mp nd).1 (List.of_mem_zip hv).1, if_pos hk]
  simp
 | p :: P, w :: vs, i + 1, m, nd, h1, h2, hk => by
  show bindL kindOf ((p, w) :: P.zip vs) m x = _
  unfold bindL
  exact zim (i := i) (List.nodup_cons.mp nd).2 (by simpa using h1) (by simpa using h2) hk
theorem zib : ∀ {P : List Str} {vs : List Value} {i : Nat} {m : Str -> Option Value}, P.Nodup -> P[i]? = some x -> vs[i]? = some v -> kindOf x ≠ some .local ->
  bindC kindOf (P.zip vs) m x = some v
 | [], _, _, _, _, h, _, _ => by simp at h
 | _ :: _, [], _, _, _, _, h, _ => by simp at h
 | p :: P, w :: vs, 0, m, nd, h1, h2, hk => by
  simp at h1 h2; subst h1; subst h2
  show bindC kindOf ((p, w) :: P.zip vs) m p = _
  unfold bindC
  rw [ziq fun v hv => (List.nodup_cons.mp nd).1 (List.of_mem_zip hv).1, if_neg hk]
  simp
 | p :: P, w :: vs, i + 1, m, nd, h1, h2, hk => by
  show bindC kindOf ((p, w) :: P.zip vs) m x = _
  unfold bindC
  exact zib (i := i) (List.nodup_cons.mp nd).2 (by simpa using h1) (by simpa using h2) hk
def start (N : List Str) (vs : List V) : St := vs.map some ++ List.replicate (N.length - vs.length) none
def cxOf (CX : CXT) (P : Program) (w : World) (K : W.Frag) (mg : Str -> Option Value) (base : Heap) (N : List Str) (qual : Str) (scope : Scope) (f : Addr) (cd : Value) (A : Around) (outer : List Env) (s : Shared) (H : Hp) (E : XK) : Cx where
 prog := P
 w := w
 K := K
 mg := mg
 base := base
 A := A.deeper (envOfC qual scope s.heap.objs.size f cd)
 N := N
 s₀ := s
 H₀ := H
 env := envOfC qual scope s.heap.objs.size f cd
 outer := outer
 stack := envOfC qual scope s.heap.objs.size f cd :: outer
 ex := []
 calm := true
 fn := fun _ => true
 pn := []
 xe := fun e s' => wpAny (model P w) (A.deeper (envOfC qual scope s.heap.objs.size f cd)) (leaving (envOfC qual scope s.heap.objs.size f cd) e) (fun _ s'' => CX outer H s E e s'') (fun e' s'' => CX outer H s E e' s'') s'
theorem zjG (h : sc.names.lookup x = some .cell) : ∃ c, (cellsFrom n sc.names []).lookup x = some c := by
 have q := W.cellsFrom_some sc.names n [] (.inl h)
 exact Option.isSome_iff_exists.mp q
theorem zlG {P : Program} {f : Addr} {s s1 : Shared} {E : XK} 
  (S : FnScope N ps scope) (hd : A.handled = none) (e0 : Env0 P w K mg base A outer s H) (hl : vs.length = ps.length) (r : Vals vs us)
  (x : InCallC s s.heap.objs.size (bindL (envOfC qual scope s.heap.objs.size f cd).kindOf (ps.zip us) fun _ => none) (cellsFrom (s.heap.objs.size + 1) scope.names []) (bindC (envOfC qual scope s.heap.objs.size f cd).kindOf (ps.zip us) fun _ => none) s1) :
  Inv (cxOf CX P w K mg base N qual scope f cd A outer s H E) [] (start N vs) H s1 := by
 have hpl : ps.length <= N.length := by have := congrArg List.length S.pre; rw [List.length_take] at this; omega
 obtain ⟨h1, tk, rfl, hk⟩ := x.done
 have noA : ∀ b : Addr, b ∉ (cxOf CX P w K mg base N qual scope f cd A outer s H E).ex := fun b z => absurd (show b ∈ ([] : List Addr) from z) (by simp)
 refine ⟨⟨e0.mod, S.kind, rfl, rfl, Nat.le_refl _, fun y z c h1 h2 => ?_, fun y hy => ?_, fun y c _ h => ?_, fun _ => hd, Around.frames_deeper e0.frames, .inr ⟨rfl, rfl⟩, fun b z => absurd z (noA b), e0.bs, e0.bsz, fun b _ _ => noA b, fun b z => absurd z (noA b), e0.funs, e0.frf⟩,
  rfl, e0.bare, Un.kept hk, ⟨_, x.toInCall.ns, fun i y v h1 h2 h3 => ?_⟩, fun y c h => ⟨_, x.cell y c h⟩, e0.hok.fresh (Nat.le_refl _), fun y c h => ?_, fun p hp => absurd (show p ∈ ([] : List (Addr × Obj)) from hp) (by simp), e0.hok.kept hk, ?_⟩
 ·exact name_of_addr x.apart (PySem.mem_of_lookup h1) (PySem.mem_of_lookup h2)
 ·have hy : scope.names.lookup y = some .cell \/ scope.names.lookup y = some .free := hy
  rcases hy with hy | hy
  ·exact zjG hy
  ·exact absurd rfl (S.nofree _ (PySem.mem_of_lookup hy))
 ·exact Nat.le_of_lt (x.above y c (PySem.mem_of_lookup h))
 ·have hi : i < vs.length := by
   unfold start at h2
   by_cases hi : i < vs.length
   ·exact hi
   ·rw [List.getElem?_append_right (by simpa using hi)] at h2
    rw [List.getElem?_replicate] at h2
    split at h2 <;> cases h2
  have ha : vs[i]? = some v := by
   unfold start at h2
   rw [List.getElem?_append_left (by simpa using hi), List.getElem?_map] at h2
   cases e : vs[i]? with
   | none => rw [e] at h2; cases h2
   | some a => rw [e] at h2; cases h2; rfl
  obtain ⟨u, hu, rv⟩ := r.get ha
  have hp : ps[i]? = some y := by
   rw [<- S.pre, List.getElem?_take_of_lt (by omega)]; exact h1
  have ndP : ps.Nodup := by rw [<- S.pre]; exact S.nd.sublist (List.take_sublist _ _)
  refine ⟨u, rv, ?_⟩
  rcases S.par y (List.mem_of_getElem? hp) with k | k
  ·exact .inl ⟨k, zim ndP hp hu k⟩
  ·obtain ⟨c, e⟩ := zjG (n := s.heap.objs.size + 1) k
   refine .inr ⟨.inl k, c, e, ?_⟩
   have q := x.cell y c e
   rw [zib ndP hp hu (by show scope.names.lookup y ≠ _; rw [k]; decide)] at q
   exact q
 ·exact e0.hok.fresh (Nat.le_of_lt (x.above y c (PySem.mem_of_lookup h)))
 ·unfold start
  show _ = N.length
  rw [List.length_append, List.length_map, List.length_replicate]
  omega
theorem fn_of {P : Program} {f : Addr} {name qual : Str} {dV kV doc pm cdv ct oc : Value} {an od : Option Addr}
  {osl : Array (Option Value)} {N ps : List Str} {sp : Sp} (lk : K.lookup f = some ⟨oc, od, .func (W.fnOf name qual params body scope dV kV doc pm an cdv ct), osl⟩) (hcd : W.codeIn K cdv qual = true) (S : FnScope N ps scope)
  (len : ∀ vs H Q E, sp vs H Q E -> vs.length = ps.length)
  (hbody : ∀ (A : Around) (outer : List Env) (s : Shared) (H : Hp) (vs : List V) (Q : VK) (E : XK), Room k (A.deeper (envOfC qual scope s.heap.objs.size f cdv)) -> sp vs H Q E ->
   ∃ t, PSs (cxOf CX P w K mg base N qual scope f cdv A outer s H E) body t /\ t { nx := fun _ H' => Q .non H', rt := Q } (start N vs) H) :
  FnOk P w K mg base CX (k + 1) f (W.fnOf name qual params body scope dV kV doc pm an cdv ct) ps sp := by
 refine ⟨len, fun A outer s H args us vs Q E hr e0 hb r hsp => ?_⟩
 have hl := len _ _ _ _ hsp
 have KX : K.In s.heap := e0.mod.kin.keeps fun b o e => (e0.bs b o e).1
 have lim : s.heap.NoLimit := e0.mod.nolimit.keeps fun b o e => (e0.bs b o e).1
 have hkind : ∀ y ∈ ps.zip us, scope.names.lookup y.1 = some .local \/ (scope.names.lookup y.1 = some .cell /\ ((cellsFrom (s.heap.objs.size + 1) scope.names []).lookup y.1).isSome = true) := fun ⟨n, v⟩ hy => by
  rcases S.par n (List.of_mem_zip hy).1 with q | q
  ·exact .inl q
  ·exact .inr ⟨q, W.cellsFrom_some _ _ _ (.inl q)⟩
 refine codeAny_call_function hr.depth (KX _ _ lk) rfl S.co S.gen rfl (W.codeRec_of KX hcd) (hb _ _ _ _ ?_)
 refine wpAny_newFunctionEnv_cells S.kind hkind fun env he s1 x => ?_
 subst he
 refine ⟨lim.keeps x.toInCall.keep, codeAny_func ?_⟩
 obtain ⟨t, ht, hq⟩ := hbody A outer s H vs Q E (hr.deeper _) hsp
 have I : Inv (cxOf CX P w K mg base N qual scope f cdv A outer s H E) [] (start N vs) H s1 := zlG S hr.hd e0 hl r x
 refine wpAny_mono (ht [] s1 (start N vs) H _ I hq) (fun fl s' hs => ?_) fun e s' hs => hs
 have fin : ∀ {σ' : St} {H' : Hp} {v : V} {u : Value}, Inv (cxOf CX P w K mg base N qual scope f cdv A outer s H E) [] σ' H' s' -> RelV v u -> Q v H' -> CE outer P w H s Q u s' :=
  fun {σ' H' v u} J rv q => ⟨v, H', J.os, J.bare, J.base, J.hok, rv, q⟩
 cases fl with
 | ret u =>
  obtain ⟨v, σ', H', J, rv, q⟩ := hs
  exact fin J rv q
 | next =>
  obtain ⟨σ', H', J, q⟩ := hs
  exact fin (v := V.non) (u := Value.none) J rfl q
 | brk =>
  obtain ⟨_, _, _, q⟩ := hs
  exact False.elim q
 | cont =>
  obtain ⟨_, _, _, q⟩ := hs
  exact False.elim q
section
variable {X : Cx} {x : Str} {p pos : Pos} {e : Expr} {es : List Expr} {t : TA} {id T : String} {r : List V -> Hp -> VK -> Prop}
def tCB (r : List V -> Hp -> VK -> Prop) (t : TA) : TE := fun σ H Q => t σ H fun vs H1 => r vs H1 Q
theorem zjm (hc : zgb X (.builtin id) r) (hg : Gl X x) (hm : X.mg x = none) (hv : bootBuiltins x = some (.builtin id)) (ha : PA X (e :: es) t) (hn : x ≠ "__name__" := by decide) (hdb : (x == ("__debug__" : Str)) = false := by decide)
  (he : starEach (e :: es) X.env = (false, eval e X.env) :: starEach es X.env := by rfl) (hpl : (backTo pos (starEach es X.env)).any (·.1) = false := by rfl) : PE X (.Call (.Name x p) (e :: es) [] pos) (tCB r t) := by
 intro pins s σ H Q I h
 refine wpAny_Call_Name_kw (zhf I hg hm hv ?_ hn hdb)
 exact PyProof.Rows.callWith_builtin1 (thn (ha pos pins s σ H _ I h) fun us s1 ⟨vs, H1, I1, r1, q1⟩ => hc pins s1 σ H1 vs us Q I1 r1 q1) he hpl
theorem zgW (hc : zgb X (.type T) r) (hg : Gl X x) (hm : X.mg x = none) (hv : bootBuiltins x = some (.type T)) (ha : PA X (e :: es) t) (hn : x ≠ "__name__" := by decide) (hdb : (x == ("__debug__" : Str)) = false := by decide)
  (he : starEach (e :: es) X.env = (false, eval e X.env) :: starEach es X.env := by rfl) (hpl : (backTo pos (starEach es X.env)).any (·.1) = false := by rfl) : PE X (.Call (.Name x p) (e :: es) [] pos) (tCB r t) := by
 intro pins s σ H Q I h
 refine wpAny_Call_Name_kw (zhf I hg hm hv ?_ hn hdb)
 exact PyProof.Rows.callWith_type1 (thn (ha pos pins s σ H _ I h) fun us s1 ⟨vs, H1, I1, r1, q1⟩ => hc pins s1 σ H1 vs us Q I1 r1 q1) he hpl
end
end L2
namespace HT
open PyProof.Rows PySem
section
variable {prog : Program} {w : World} {A : Around} {E : Value -> Shared -> Prop} {s : Shared}
theorem cat_tup {t b : Addr} {vs ws : List Value} {Q : Value -> Shared -> Prop} (ht : IsTup s.heap t vs.toArray) (hb : IsTup s.heap b ws.toArray) (hv : vs ≠ [])
  (h1 : ws = [] -> Q (.ref t) s) (h2 : ws ≠ [] -> Q (.ref s.heap.objs.size) { s with heap := s.heap.push { cls := .type "tuple", data := .seq (vs ++ ws).toArray } })
  (hsz : vs.length + ws.length <= sizeLine) : wpAny (model prog w) A (binaryOp .Add (.ref t) (.ref b)) Q E s := by
 obtain ⟨⟨cls, dd, data, sl⟩, ho, hc, n, hd⟩ := id ht
 obtain ⟨⟨cls2, dd2, data2, sl2⟩, ho2, hc2, n2, hd2⟩ := id hb
 simp only at hc hd hc2 hd2
 subst hc hd hc2 hd2
 have e : vs.toArray ++ ws.toArray = (vs ++ ws).toArray := by simp
 by_cases hw : ws = []
 ·exact concat_meets ⟨_, ho, rfl⟩ ⟨_, ho2, rfl⟩ noFill_tuple_add seq_tuple_add PySem.F.slot_tuple_add PySem.F.entry_tuple_add (PySem.F.args_tuple_add_2 _ _)
   (tuple_addW1 t b vs.toArray ws.toArray n n2 dd dd2 sl sl2 (by simpa using hv) (by simp [hw])) ⟨ho, ho2, h1 hw⟩
 ·refine concat_meets ⟨_, ho, rfl⟩ ⟨_, ho2, rfl⟩ noFill_tuple_add seq_tuple_add PySem.F.slot_tuple_add PySem.F.entry_tuple_add (PySem.F.args_tuple_add_2 _ _)
   (tuple_addW2 t b vs.toArray ws.toArray n n2 dd dd2 sl sl2 (by simpa using hv) (by simpa using hw) (by rw [List.size_toArray, List.size_toArray]; exact hsz)) ⟨ho, ho2, ?_⟩
  rw [e]
  exact h2 hw
def sIx (n d : Nat) : Option Int -> Nat
 | none => d
 | some v => if v < 0 then (v + (n : Int)).toNat else min v.toNat n
theorem zjh (n d : Nat) : sIx n d none = d := rfl
theorem zkJ (n d k : Nat) : sIx n d (some (k : Int)) = min k n := by
 show (if (k : Int) < 0 then ((k : Int) + (n : Int)).toNat else min (k : Int).toNat n) = min k n
 rw [if_neg (by omega), Int.toNat_natCast]
theorem sIx_le (n d : Nat) (hd : d <= n) (o : Option Int) : sIx n d o <= n := by
 cases o with
 | none => exact hd
 | some v =>
  show (if v < 0 then (v + (n : Int)).toNat else min v.toNat n) <= n
  by_cases hv : v < 0
  ·rw [if_pos hv]; omega
  ·rw [if_neg hv]; exact Nat.min_le_right _ _
theorem zk9 (v : Int) (n d : Nat) : (if v < 0 then max (v + (n : Int)) 0 else min v (n : Int)) = ((sIx n d (some v) : Nat) : Int) := by
 show (if v < 0 then max (v + (n : Int)) 0 else min v (n : Int)) = (((if v < 0 then (v + (n : Int)).toNat else min v.toNat n) : Nat) : Int)
 by_cases hv : v < 0
 ·simp only [if_pos hv]; omega
 ·simp only [if_neg hv]; omega
theorem zkm (lo hi : Option Int) (n : Nat) : Builtin.Slice.sliceAdjust lo hi 1 (n : Int) = (((sIx n 0 lo : Nat) : Int), ((sIx n n hi : Nat) : Int)) := by
 have h1 : ¬ ((1 : Int) < 0) := by omega
 unfold Builtin.Slice.sliceAdjust
 simp only [h1, if_false]
 refine Prod.ext ?_ ?_
 ·cases lo with
  | none => rfl
  | some v => exact zk9 v n 0
 ·cases hi with
  | none => rfl
  | some v => exact zk9 v n n
theorem zkp (i j : Nat) : Builtin.Slice.slicePlaces (i : Int) (j : Int) 1 = j - i := by
 unfold Builtin.Slice.slicePlaces
 have h1 : (1 : Int) > 0 := by omega
 simp only [h1, if_true, Int.ediv_one]
 split <;> omega
theorem zhd {v : Value} {o : Option Int} {Q : Option Int -> Shared -> Prop} (p : IsPart v o) (h : Q o s) : wpAny (model prog w) A (Builtin.Slice.slicePartIndex v) Q E s := by
 cases p with
 | none => exact slicePart_none h
 | int i t => exact slicePart_int h
theorem zdB {sl : Addr} {vl vu : Value} {lo hi : Option Int} {n : Nat} {Q : Int × Int × Nat -> Shared -> Prop} (hs : s.heap.IsSliceOf sl vl vu .none) (pl : IsPart vl lo) (pu : IsPart vu hi)
  (h : Q (((sIx n 0 lo : Nat) : Int), 1, sIx n n hi - sIx n 0 lo) s) : wpAny (model prog w) A (Builtin.Slice.sliceApplied (.ref sl) (pure (n : Int))) Q E s := by
 obtain ⟨os, hos, hcs, hds⟩ := id hs
 unfold Builtin.Slice.sliceApplied Builtin.Slice.sliceFields
 refine wpAny_bind (wpAny_bind (wpAny_field hos hds (x := vl) rfl (wpAny_bind (wpAny_field hos hds (x := vu) rfl (wpAny_bind (wpAny_field hos hds (x := .none) rfl (wpAny_pure ?_)))))))
 refine wpAny_bind (slicePart_none ?_)
 show wpAny _ _ (if ((1 : Int) == 0) = true then _ else _) _ _ s
 rw [if_neg (by decide)]
 refine wpAny_bind (zhd pl (wpAny_bind (zhd pu (wpAny_bind (wpAny_pure ?_)))))
 show wpAny _ _ (match Builtin.Slice.sliceAdjust lo hi 1 (n : Int) with | (lo, hi) => pure (lo, (1 : Int), Builtin.Slice.slicePlaces lo hi 1)) _ _ s
 rw [zkm lo hi n]
 show wpAny _ _ (pure (((sIx n 0 lo : Nat) : Int), (1 : Int), Builtin.Slice.slicePlaces ((sIx n 0 lo : Nat) : Int) ((sIx n n hi : Nat) : Int) 1)) _ _ s
 rw [zkp]
 exact wpAny_pure h
theorem pick_gen (xs : Array Value) (i k : Nat) : ((List.range k).filterMap fun (m : Nat) => xs[((i : Int) + (m : Int) * 1).toNat]?).toArray = ((xs.toList.drop i).take k).toArray := by
 have e : (fun (m : Nat) => xs[((i : Int) + (m : Int) * 1).toNat]?) = fun m => xs[i + m]? := by
  funext m
  have : ((i : Int) + (m : Int) * 1).toNat = i + m := by omega
  rw [this]
 rw [e]
 have := pick_run xs i k
 rw [List.filterMap_map] at this
 have e2 : ((fun x => xs[x]?) ∘ fun x => i + x) = fun m => xs[i + m]? := rfl
 rw [e2] at this
 rw [this]
theorem zfN {t sl : Addr} {items : Array Value} {vl vu : Value} {lo hi : Option Int} {Q : Value -> Shared -> Prop} (ht : IsTup s.heap t items) (hs : s.heap.IsSliceOf sl vl vu .none) (pl : IsPart vl lo) (pu : IsPart vu hi)
  (hw : ¬ (sIx items.size 0 lo = 0 /\ sIx items.size items.size hi = items.size))
  (h : Q (.ref s.heap.objs.size) { s with heap := s.heap.push { cls := .type "tuple", data := .seq ((items.toList.drop (sIx items.size 0 lo)).take (sIx items.size items.size hi - sIx items.size 0 lo)).toArray } })
  (hsz : items.size <= sizeLine) : wpAny (model prog w) A (getItem (.ref t) (.ref sl)) Q E s := by
 have htake : sizeOk (.seq ((items.toList.drop (sIx items.size 0 lo)).take (sIx items.size items.size hi - sIx items.size 0 lo)).toArray) := by
  show ((items.toList.drop (sIx items.size 0 lo)).take (sIx items.size items.size hi - sIx items.size 0 lo)).toArray.size <= sizeLine
  rw [List.size_toArray, List.length_take, List.length_drop, Array.length_toList]
  omega
 have hj : sIx items.size items.size hi <= items.size := sIx_le _ _ (Nat.le_refl _) hi
 obtain ⟨os, hos, hcs, hds⟩ := id hs
 have hTs : s.TypeIs (.ref sl) "slice" := ⟨os, hos, hcs⟩
 unfold getItem
 try with_reducible refine wpAny_holding ?_
 first | refine wpAny_bind (wpAny_pure ?_) | skip
 refine wpAny_bind (wpAny_sequenceKey ht.typeIs (by decide) ?_)
 refine wpAny_bind (wpAny_callSpecial?_slot (name := Str.ofString "__getitem__") ht.typeIs PyProof.Rows.slot_tuple_getitem
  (wpAny_call_entry PyProof.Rows.slot_tuple_getitem ht.typeIs entry_tuple_getitem ?_ (args_tuple_getitem _ _)))
 show wpAny _ _ (Builtin.Tuple.tupleItemsOf (.ref t) >>= _) _ _ s
 refine wpAny_bind (tupleItemsOf_ ht ?_)
 refine wpAny_bind (wpAny_typeOf hTs ?_)
 rw [if_pos (by decide)]
 refine wpAny_bind (zdB hs pl pu ?_)
 have hno : ¬ ((((sIx items.size 0 lo : Nat) : Int) == 0 && (1 : Int) == 1 && (sIx items.size items.size hi - sIx items.size 0 lo) == items.size) = true) := by
  intro q
  rw [Bool.and_eq_true, Bool.and_eq_true] at q
  have q1 : ((sIx items.size 0 lo : Nat) : Int) = 0 := eq_of_beq q.1.1
  have q2 : sIx items.size items.size hi - sIx items.size 0 lo = items.size := eq_of_beq q.2
  exact hw ⟨by omega, by omega⟩
 show wpAny _ _ (if (((sIx items.size 0 lo : Nat) : Int) == 0 && (1 : Int) == 1 && (sIx items.size items.size hi - sIx items.size 0 lo) == items.size) = true then _ else _) _ _ s
 rw [if_neg hno, pick_gen]
 first
  | exact wpAny_bind (m := Builtin.Tuple.tupleExact _) (wpAny_newObj_type (wpAny_pure ⟨_, rfl, wpAny_pure h⟩) htake)
  | exact wpAny_bind (m := Builtin.Tuple.tupleExact _) (wpAny_newObj_type (wpAny_bind (wpAny_pure (wpAny_pure ⟨_, rfl, wpAny_pure h⟩))) htake)
  | exact wpAny_bind (wpAny_bind (m := Builtin.Tuple.tupleExact _) (wpAny_newObj_type (wpAny_pure (wpAny_pure ⟨_, rfl, wpAny_pure h⟩)) htake))
  | exact wpAny_bind (wpAny_bind (m := Builtin.Tuple.tupleExact _) (wpAny_newObj_type (wpAny_pure ⟨_, rfl, wpAny_pure h⟩) htake))
end
end HT
namespace L2
open PyProof.Rows PySem PySem.Spec
variable {r r' : V -> Option Int -> Option Int -> Hp -> VK -> Prop} {xs : List V} {us its its' : List Value} {n j t' : Nat} {i : Int} {pins : List (Addr × Obj)} {σ : St} {H : Hp} {s : Shared} {p : Addr} {f : Array Value -> Array Value} {A : Around} {y x : V} {u v : Value}
abbrev TO := St -> Hp -> (Option Int -> Hp -> Prop) -> Prop
def PO (X : Cx) (e : Option Expr) (t : TO) : Prop :=
 ∀ (pins : List (Addr × Obj)) (s : Shared) (σ : St) (H : Hp) (Q : Option Int -> Hp -> Prop), Inv X pins σ H s -> t σ H Q ->
  wpAny (model X.prog X.w) X.A (evalPart e X.env) (fun u s' => ∃ o H', Inv X pins σ H' s' /\ IsPart u o /\ Q o H') X.xe s
def tNoPart : TO := fun _ H Q => Q none H
def tPart (t : TE) : TO := fun σ H Q => t σ H fun x H1 => ∃ i, x = .int i /\ Q (some i) H1
section
variable {X : Cx} {e : Expr} {te : TE} {lo hi : Option Expr} {tl th : TO} {pos p2 : Pos}
theorem po_none : PO X none tNoPart := by
 intro pins s σ H Q I h
 rw [evalPart_none]
 exact wpAny_pure ⟨none, H, I, .none, h⟩
theorem po_some (h : PE X e te) : PO X (some e) (tPart te) := by
 intro pins s σ H Q I hw
 rw [evalPart_some]
 refine thn (h pins s σ H _ I hw) fun u s1 ⟨x, H1, I1, r1, q1⟩ => ?_
 obtain ⟨i, rfl, q⟩ := q1
 obtain ⟨t, rfl⟩ := r1
 exact ⟨some i, H1, I1, .int i t, q⟩
def SlR (X : Cx) (r : V -> Option Int -> Option Int -> Hp -> VK -> Prop) : Prop :=
 ∀ (pins : List (Addr × Obj)) (s : Shared) (σ : St) (H : Hp) (x : V) (v vl vu : Value) (lo hi : Option Int) (sl : Addr) (Q : VK), Inv X pins σ H s -> RelV x v -> s.heap.IsSliceOf sl vl vu .none -> IsPart vl lo -> IsPart vu hi -> r x lo hi H Q ->
  ∃ T id, typeLookup (.type T) "__getitem__" = pure (some (.builtin id)) /\ s.TypeIs v T /\ wpAny (model X.prog X.w) X.A (getItem v (.ref sl)) (EP X pins σ Q) X.xe s
theorem SlR.or (h : SlR X r) (h' : SlR X r') : SlR X (fun x lo hi H Q => r x lo hi H Q \/ r' x lo hi H Q) := by
 intro pins s σ H x v vl vu lo hi sl Q I rx hs pl pu q
 rcases q with q | q
 ·exact h pins s σ H x v vl vu lo hi sl Q I rx hs pl pu q
 ·exact h' pins s σ H x v vl vu lo hi sl Q I rx hs pl pu q
def tSl (r : V -> Option Int -> Option Int -> Hp -> VK -> Prop) (te : TE) (tl th : TO) : TE := fun σ H Q => te σ H fun x H1 => tl σ H1 fun l H2 => th σ H2 fun u H3 => r x l u H3 Q
theorem pe_slice (hr : SlR X r) (he : PE X e te) (hl : PO X lo tl) (hu : PO X hi th) : PE X (.Subscript e (.Slice lo hi none p2) pos) (tSl r te tl th) := by
 intro pins s σ H Q I h
 refine Subscript_ (thn (he pins s σ H _ I h) fun v s1 ⟨x, H1, I1, r1, q1⟩ => ?_)
 refine wpAny_Slice (thn (hl pins s1 σ H1 _ I1 q1) fun vl s2 ⟨l, H2, I2, pl, q2⟩ => thn (hu pins s2 σ H2 _ I2 q2) fun vu s3 ⟨u, H3, I3, pu, q3⟩ => ?_)
 rw [evalPart_none]
 refine wpAny_pure ?_
 have I4 : Inv X pins σ H3 { s3 with heap := s3.heap.push { cls := .type "slice", data := .fields #[vl, vu, .none] } } := I3.kept (t' := s3.toks) fun b ob q => Heap.get?_push_of_some _ q
 obtain ⟨T, id, hT, ht, hg⟩ := hr pins { s3 with heap := s3.heap.push { cls := .type "slice", data := .fields #[vl, vu, .none] } } σ H3 x v vl vu l u s3.heap.objs.size Q I4 r1 (Heap.IsSliceOf.new ..) pl pu q3
 show wpAny (model X.prog X.w) X.A (subscriptTail e (.Slice lo hi none p2) v (.ref s3.heap.objs.size)) (EP X pins σ Q) X.xe { s3 with heap := s3.heap.push { cls := .type "slice", data := .fields #[vl, vu, .none] } }
 exact tail_any (ops := [.ref s3.heap.objs.size, v]) ht hT hg (by with_unfolding_all rfl)
def cutV (xs : List V) (lo hi : Option Int) : List V := (xs.drop (HT.sIx xs.length 0 lo)).take (HT.sIx xs.length xs.length hi - HT.sIx xs.length 0 lo)
theorem zgJ (xs : List V) (lo hi : Option Int) : (cutV xs lo hi).length <= xs.length := by
 unfold cutV
 rw [List.length_take, List.length_drop]
 omega
def rSlT (K : W.Frag) : V -> Option Int -> Option Int -> Hp -> VK -> Prop := fun x lo hi H Q => ∃ a xs, x = .ref a /\ SqT K H a xs /\
 ¬ (HT.sIx xs.length 0 lo = 0 /\ HT.sIx xs.length xs.length hi = xs.length) /\ ∀ p, H p = none -> Q (.ref p) (upd H p (.tup (cutV xs lo hi)))
theorem sl_tup : SlR X (rSlT X.K) := by
 intro pins s σ H x v vl vu lo hi sl Q I rx hs pl pu h
 obtain ⟨a, xs, rfl, hx, hw, q⟩ := h
 cases rx
 obtain ⟨its, r, ht, hz⟩ := I.tuple hx
 have hlen : its.toArray.size = xs.length := by rw [List.size_toArray]; exact r.length.symm
 refine ⟨"tuple", _, PyProof.Rows.slot_tuple_getitem.lookup, ht.typeIs, ?_⟩
 refine HT.zfN ht hs pl pu (by rw [hlen]; exact hw) ?_ (by rw [hlen]; exact hz)
 rw [hlen]
 refine ⟨.ref s.heap.objs.size, _, I.laid (t' := s.toks) (o := .tup (cutV xs lo hi)) (fun b ob q => Heap.get?_push_of_some _ q) (Nat.le_refl _) ?_, rfl, q _ (I.hok.fresh (Nat.le_refl _))⟩
 exact ⟨Nat.le_trans (zgJ xs lo hi) hz, _, (r.drop (HT.sIx xs.length 0 lo)).take (HT.sIx xs.length xs.length hi - HT.sIx xs.length 0 lo), IsTup.new _ _⟩
def rCatT (K : W.Frag) : R2 := fun x y H Q => ∃ a b xs ys, x = .ref a /\ y = .ref b /\ SqT K H a xs /\ SqT K H b ys /\ xs ≠ [] /\ xs.length + ys.length <= sizeLine /\
 (ys = [] -> Q (.ref a) H) /\ (ys ≠ [] -> ∀ p, H p = none -> Q (.ref p) (upd H p (.tup (xs ++ ys))))
theorem Vals.nil_iff (r : Vals xs us) : us = [] ↔ xs = [] := by
 cases r with
 | nil => simp
 | cons _ _ => simp
theorem op_catT : OpR X (binaryOp .Add) (rCatT X.K) := by
 intro pins s σ H x y v u Q I rx ry h
 obtain ⟨a, b, xs, ys, rfl, rfl, ha, hb, hx, hz, q1, q2⟩ := h
 cases rx
 cases ry
 obtain ⟨its, r1, p1, _⟩ := I.tuple ha
 obtain ⟨its2, r2, p2, _⟩ := I.tuple hb
 refine HT.cat_tup p1 p2 (fun z => hx (r1.nil_iff.mp z)) (fun z => ⟨.ref a, H, I, rfl, q1 (r2.nil_iff.mp z)⟩) (fun z => ?_) (by rw [<- r1.length, <- r2.length]; exact hz)
 refine ⟨.ref s.heap.objs.size, _, I.laid (t' := s.toks) (o := .tup (xs ++ ys)) (fun b ob q => Heap.get?_push_of_some _ q) (Nat.le_refl _) ?_, rfl, q2 (fun w => z (r2.nil_iff.mpr w)) _ (I.hok.fresh (Nat.le_refl _))⟩
 exact ⟨by rw [List.length_append]; exact hz, _, r1.append r2, IsTup.new _ _⟩
end
def ixN (n : Nat) (i : Int) : Option Nat := if 0 <= i then (if i < n then some i.toNat else none) else if -(n : Int) <= i then some (i + n).toNat else none
def atI {α : Type} (xs : List α) (i : Int) : Option α := (ixN xs.length i).bind fun j => xs[j]?
theorem zld {n : Nat} (h : ixN n i = some j) : seqIndex? i n = some j /\ j < n /\ -(n : Int) <= i /\ i < n := by
 unfold ixN at h
 by_cases h0 : 0 <= i
 ·rw [if_pos h0] at h
  by_cases h1 : i < n
  ·rw [if_pos h1] at h
   have e : i.toNat = j := Option.some.inj h
   exact ⟨by rw [seqIndex_of h0 h1, e], by omega, by omega, h1⟩
  ·rw [if_neg h1] at h; cases h
 ·rw [if_neg h0] at h
  by_cases h1 : -(n : Int) <= i
  ·rw [if_pos h1] at h
   have e : (i + n).toNat = j := Option.some.inj h
   exact ⟨by rw [seqIndex_neg (by omega) h1, e], by omega, h1, by omega⟩
  ·rw [if_neg h1] at h; cases h
theorem zhK {α : Type} {xs : List α} {v : α} (h : atI xs i = some v) : ∃ j, seqIndex? i xs.length = some j /\ xs[j]? = some v /\ j < xs.length /\ -(xs.length : Int) <= i /\ i < xs.length := by
 unfold atI at h
 cases e : ixN xs.length i with
 | none => rw [e] at h; cases h
 | some j =>
  rw [e] at h
  obtain ⟨h1, h2, h3, h4⟩ := zld e
  exact ⟨j, h1, h, h2, h3, h4⟩
theorem zja {α : Type} (xs : List α) (v : α) : atI (xs ++ [v]) (-1) = some v := by
 have hl : (xs ++ [v]).length = xs.length + 1 := by simp
 have e : ixN (xs ++ [v]).length (-1) = some xs.length := by
  unfold ixN
  rw [hl, if_neg (by decide), if_pos (by omega)]
  congr 1
  omega
 unfold atI
 rw [e]
 show (xs ++ [v])[xs.length]? = some v
 simp
def zdX (b : Expr) : Prop := ∀ o i, subscripted b false o i = operate [o, i] (getItem o i)
def IxR (X : Cx) (r : R2) : Prop :=
 ∀ (value slice : Expr) (pins : List (Addr × Obj)) (s : Shared) (σ : St) (H : Hp) (x y : V) (v u : Value) (Q : VK), Inv X pins σ H s -> RelV x v -> RelV y u -> r x y H Q ->
  subscripted slice false v u = operate [v, u] (getItem v u) -> wpAny (model X.prog X.w) X.A (subscriptTail value slice v u) (EP X pins σ Q) X.xe s
def MtR (X : Cx) (id : String) (r : V -> List V -> Hp -> VK -> Prop) : Prop :=
 ∀ (pins : List (Addr × Obj)) (s : Shared) (σ : St) (H : Hp) (x : V) (xs : List V) (v : Value) (us : List Value) (Q : VK), Inv X pins σ H s -> RelV x v -> Vals xs us -> r x xs H Q ->
  wpAny (model X.prog X.w) X.A (call (.builtin id) (v :: us)) (EP X pins σ Q) X.xe s
section
variable {X : Cx} {a b : Expr} {ta tb : TE} {pos : Pos}
theorem IxR.or {r r' : R2} (h : IxR X r) (h' : IxR X r') : IxR X (fun x y H Q => r x y H Q \/ r' x y H Q) := by
 intro value slice pins s σ H x y v u Q I rx ry q hs
 rcases q with q | q
 ·exact h value slice pins s σ H x y v u Q I rx ry q hs
 ·exact h' value slice pins s σ H x y v u Q I rx ry q hs
theorem zkA {r : R2} (hr : IxR X r) (ha : PE X a ta) (hb : PE X b tb) (hs : zdX b) : PE X (.Subscript a b pos) (tOp r ta tb) := by
 intro pins s σ H Q I h
 exact Subscript_ (binT ha hb I h fun v u s2 x y H2 I2 rx ry q => hr a b pins s2 σ H2 x y v u Q I2 rx ry q (hs _ _))
def rIxL (K : W.Frag) : R2 := fun x y H Q => ∃ p xs i v, x = .ref p /\ y = .int i /\ SqL K H p xs /\ atI xs i = some v /\ Q v H
def rIxT (K : W.Frag) : R2 := fun x y H Q => ∃ p xs i v, x = .ref p /\ y = .int i /\ SqT K H p xs /\ atI xs i = some v /\ Q v H
def rIxS : R2 := fun x y H Q => ∃ z i c, x = .str z /\ y = .int i /\ z.length <= sizeLine /\ atI z.cps.toList i = some c /\ Q (.str ⟨#[c]⟩) H
theorem ix_list : IxR X (rIxL X.K) := by
 intro value slice pins s σ H x y v u Q I rx ry h hs
 obtain ⟨p, xs, i, z, rfl, rfl, hq, he, q⟩ := h
 cases rx
 obtain ⟨t, rfl⟩ := ry
 obtain ⟨its, r, pl, hz⟩ := I.list hq
 obtain ⟨j, h1, h2, h3, h4, h5⟩ := zhK he
 obtain ⟨w, ew, rw'⟩ := r.get h2
 have hl := r.length
 have hn := zgH
 have fin : EP X pins σ Q w s := ⟨z, H, I, rw', q⟩
 by_cases h0 : 0 <= i
 ·have hj : i.toNat = j := by
   rw [seqIndex_of h0 h5] at h1
   exact Option.some.inj h1
  exact item_listR pl.isList h0 (by omega) (by rw [hj]; simpa using ew) fin hs
 ·have hj : (i + (its.toArray.size : Int)).toNat = j := by
   rw [seqIndex_neg (by omega) h4] at h1
   rw [List.size_toArray, <- hl]
   exact Option.some.inj h1
  exact subscriptTail_builtinR (x := w) pl.isList.typeIs slot_list_getitem.lookup
   (wpAny_getItem_list_neg (Q := fun r s' => r = w /\ EP X pins σ Q r s') pl.isList (by omega) (by rw [List.size_toArray] <;> omega) (by omega) (by rw [hj]; simpa using ew) ⟨rfl, fin⟩) hs
theorem ix_tup : IxR X (rIxT X.K) := by
 intro value slice pins s σ H x y v u Q I rx ry h hs
 obtain ⟨p, xs, i, z, rfl, rfl, hq, he, q⟩ := h
 cases rx
 obtain ⟨t, rfl⟩ := ry
 obtain ⟨its, r, pl, hz⟩ := I.tuple hq
 obtain ⟨j, h1, h2, h3, h4, h5⟩ := zhK he
 obtain ⟨w, ew, rw'⟩ := r.get h2
 have hl := r.length
 have hn := zgH
 have fin : EP X pins σ Q w s := ⟨z, H, I, rw', q⟩
 exact subscriptTail_builtinR (x := w) pl.typeIs slot_tuple_getitem.lookup
  (getItem_tuple (j := j) (Q := fun r s' => r = w /\ EP X pins σ Q r s') pl (by omega) (by omega) (by rw [List.size_toArray, <- hl]; exact h1) (by simpa using ew) ⟨rfl, fin⟩) hs
theorem ix_str : IxR X rIxS := by
 intro value slice pins s σ H x y v u Q I rx ry h hs
 obtain ⟨z, i, c, rfl, rfl, hz, he, q⟩ := h
 obtain ⟨t, rfl⟩ := rx
 obtain ⟨t', rfl⟩ := ry
 obtain ⟨j, h1, h2, h3, h4, h5⟩ := zhK he
 have hl : z.cps.toList.length = z.length := by simp [Str.length]
 rw [hl] at h1 h4 h5
 have hn := zgH
 exact tail_any (typeIs_str s z t) slot_str_getitem.lookup (getItem_str (c := c) (by
  have e1 : decide (i < -(2 ^ 63 : Int)) = false := decide_eq_false (by omega)
  have e2 : decide (i >= 2 ^ 63) = false := decide_eq_false (by omega)
  rw [e1, e2, Bool.or_false]) (by rw [h1]; simpa using h2) ⟨.str ⟨#[c]⟩, H, I.tok _, ⟨_, rfl⟩, q⟩) hs
def rIx (K : W.Frag) : R2 := fun x y H Q => rIxL K x y H Q \/ rIxT K x y H Q \/ rIxS x y H Q
theorem ix_seq : IxR X (rIx X.K) := ix_list.or (ix_tup.or ix_str)
theorem zkr (its : List Value) (n j : Nat) (u : Value) : Obj.mapSeq (·.setIfInBounds j u) { cls := .type "list", data := .seq its.toArray n } = { cls := .type "list", data := .seq (its.set j u).toArray n } := by
 simp [Obj.mapSeq]
theorem Inv.lst (I : Inv X pins σ H s) (h : H p = some (.lst xs)) :
  ∃ (its : List Value) (n : Nat), Vals xs its /\ s.heap.get? p = some { cls := .type "list", data := .seq its.toArray n } /\ xs.length <= sizeLine := by
 obtain ⟨z, its, n, r, e⟩ := I.hok p _ h
 exact ⟨its, n, r, e, z⟩
theorem Inv.lstUpd {xs ys : List V} {n n' : Nat} {f : Obj -> Obj} (I : Inv X pins σ H s) (h : H p = some (.lst xs))
  (ho : s.heap.get? p = some { cls := .type "list", data := .seq its.toArray n }) (hf : f { cls := .type "list", data := .seq its.toArray n } = { cls := .type "list", data := .seq its'.toArray n' }) (r : Vals ys its') (hz : ys.length <= sizeLine) (t : Nat) :
  Inv X pins σ (upd H p (.lst ys)) { s with heap := s.heap.update p f, toks := t } := by
 have e : (s.heap.update p f).get? p = some { cls := .type "list", data := .seq its'.toArray n' } := by
  rw [Heap.get?_update_self f ho (by rw [hf] <;> rfl), hf]
 refine I.write (x := p) (e := p) (by rw [h]; trivial) (.inl rfl) (fun b u hb q => (Heap.get?_update_other _ _ (Ne.symm hb)).trans q) ⟨_, e⟩ ?_
 exact ⟨hz, its', n', r, e⟩
def rSetL : V -> V -> V -> Hp -> (Hp -> Prop) -> Prop := fun o i v H Q => ∃ p xs k j, o = .ref p /\ i = .int k /\ H p = some (.lst xs) /\ ixN xs.length k = some j /\ Q (upd H p (.lst (xs.set j v)))
theorem zhB : PSet X rSetL := by
 intro pins s σ H o i v ov iv u Q I ro ri rv h
 obtain ⟨p, xs, k, j, rfl, rfl, hp, hj, q⟩ := h
 cases ro
 obtain ⟨t, rfl⟩ := ri
 obtain ⟨its, n, r, ho, hz⟩ := I.lst hp
 obtain ⟨h1, h2, h3, h4⟩ := zld hj
 have hl := r.length
 have hn := zgH
 have I' : Inv X pins σ (upd H p (.lst (xs.set j v))) { s with heap := s.heap.update p (Obj.mapSeq (·.setIfInBounds j u)) } :=
  I.lstUpd hp ho (zkr its n j u) (r.set rv j) (by rw [List.length_set]; exact hz) s.toks
 by_cases h0 : 0 <= k
 ·have hk : k.toNat = j := by
   rw [seqIndex_of h0 h4] at h1
   exact Option.some.inj h1
  exact W.ki_setAt ho h0 (by omega) (by rw [List.size_toArray, <- hl]; exact h4) (by rw [hk]; exact ⟨_, I', q⟩)
 ·have hk : (k + (its.toArray.size : Int)).toNat = j := by
   rw [seqIndex_neg (by omega) h3] at h1
   rw [List.size_toArray, <- hl]
   exact Option.some.inj h1
  exact W.ki_setBack ho (by omega) (by rw [List.size_toArray, <- hl]; exact h3) (by omega) (by rw [hk]; exact ⟨_, I', q⟩)
theorem zin (lo hi : Option Int) (n : Nat) : (sliceBounds lo hi none n).1 = ((HT.sIx n 0 lo : Nat) : Int) /\ (sliceBounds lo hi none n).2.1 = ((HT.sIx n n hi : Nat) : Int) /\ (sliceBounds lo hi none n).2.2 = 1 := by
 refine ⟨?_, ?_, rfl⟩
 ·cases lo with
  | none => simp [sliceBounds, HT.sIx]
  | some i =>
   simp only [sliceBounds, HT.sIx, Option.getD_none, show (1 : Int) > 0 by decide, if_true]
   by_cases h : i < 0
   ·simp only [h, if_true] <;> omega
   ·simp only [h, if_false] <;> omega
 ·cases hi with
  | none => simp [sliceBounds, HT.sIx]
  | some i =>
   simp only [sliceBounds, HT.sIx, Option.getD_none, show (1 : Int) > 0 by decide, if_true]
   by_cases h : i < 0
   ·simp only [h, if_true] <;> omega
   ·simp only [h, if_false] <;> omega
theorem zh5 (its : List Value) (lo hi : Option Int) : slicePick its.toArray lo hi none = ((its.drop (HT.sIx its.length 0 lo)).take (HT.sIx its.length its.length hi - HT.sIx its.length 0 lo)).toArray := by
 obtain ⟨h1, h2, h3⟩ := zin lo hi its.toArray.size
 unfold slicePick
 rw [h1, h2, h3]
 simp only [sliceRange_one, pick_run, List.size_toArray] <;> rfl
def rSlL (K : W.Frag) : V -> Option Int -> Option Int -> Hp -> VK -> Prop := fun x lo hi H Q => ∃ a xs, x = .ref a /\ SqL K H a xs /\ ∀ p, H p = none -> Q (.ref p) (upd H p (.lst (cutV xs lo hi)))
theorem sl_list : SlR X (rSlL X.K) := by
 intro pins s σ H x v vl vu lo hi sl Q I rx hs pl pu h
 obtain ⟨a, xs, rfl, hx, q⟩ := h
 cases rx
 obtain ⟨its, r, ht, hz⟩ := I.list hx
 have hlen := r.length
 refine ⟨"list", _, slot_list_getitem.lookup, ht.isList.typeIs, ?_⟩
 refine wpAny_getItem_list_slice ht.isList hs pl pu .none (by simp) ?_ (by rw [List.size_toArray] <;> omega)
 rw [zh5, <- hlen]
 refine ⟨.ref s.heap.objs.size, _, I.laid (t' := s.toks) (o := .lst (cutV xs lo hi)) (fun b ob q => Heap.get?_push_of_some _ q) (Nat.le_refl _) ?_, rfl, q _ (I.hok.fresh (Nat.le_refl _))⟩
 exact ⟨Nat.le_trans (zgJ xs lo hi) hz, _, 0, (r.drop (HT.sIx xs.length 0 lo)).take (HT.sIx xs.length xs.length hi - HT.sIx xs.length 0 lo), Heap.get?_push_size _ rfl⟩
def zgY : V -> Bool
 | .non => true
 | .bl _ => true
 | .int _ => true
 | .str _ => true
 | _ => false
def eqV : V -> V -> Bool
 | .non, .non => true
 | .bl a, .bl b => a == b
 | .bl a, .int b => (if a then 1 else 0) == b
 | .int a, .bl b => a == (if b then 1 else 0)
 | .int a, .int b => a == b
 | .str a, .str b => a == b
 | _, _ => false
theorem eqAt_V (ry : RelV y u) (rx : RelV x v) (fy : zgY y = true) (fx : zgY x = true) : SeqAt.EqAt A s u v (eqV y x) := by
 cases y with
 | non =>
  cases ry
  cases x with
  | non => cases rx; exact SeqAt.EqAt.same _
  | bl b => cases rx; exact SeqAt.EqAt.none_bool b
  | int b => obtain ⟨t, rfl⟩ := rx; exact SeqAt.EqAt.none_int b t
  | str b => obtain ⟨t, rfl⟩ := rx; exact SeqAt.EqAt.none_str b t
  | _ => exact absurd (show false = true from fx) Bool.false_ne_true
 | bl a =>
  cases ry
  cases x with
  | non => cases rx; exact SeqAt.EqAt.bool_none a
  | bl b => cases rx; exact SeqAt.EqAt.bool_bool a b
  | int b => obtain ⟨t, rfl⟩ := rx; exact SeqAt.EqAt.bool_int a b t
  | str b => obtain ⟨t, rfl⟩ := rx; exact SeqAt.EqAt.bool_str a b t
  | _ => exact absurd (show false = true from fx) Bool.false_ne_true
 | int a =>
  obtain ⟨t', rfl⟩ := ry
  cases x with
  | non => cases rx; exact SeqAt.EqAt.int_none a t'
  | bl b => cases rx; exact SeqAt.EqAt.int_bool a t' b
  | int b => obtain ⟨t, rfl⟩ := rx; exact SeqAt.EqAt.int_int a t' b t
  | str b => obtain ⟨t, rfl⟩ := rx; exact SeqAt.EqAt.int_str a t' b t
  | _ => exact absurd (show false = true from fx) Bool.false_ne_true
 | str a =>
  obtain ⟨t', rfl⟩ := ry
  cases x with
  | non => cases rx; exact SeqAt.EqAt.str_none a t'
  | bl b => cases rx; exact SeqAt.EqAt.str_bool a t' b
  | int b => obtain ⟨t, rfl⟩ := rx; exact SeqAt.EqAt.str_int a t' b t
  | str b => obtain ⟨t, rfl⟩ := rx; exact SeqAt.EqAt.str_str a t' b t
  | _ => exact absurd (show false = true from fx) Bool.false_ne_true
 | _ => exact absurd (show false = true from fy) Bool.false_ne_true
def eqU (x : V) (u : Value) : Bool := match u with
 | .none => eqV .non x
 | .bool b => eqV (.bl b) x
 | .int i _ => eqV (.int i) x
 | .str z _ => eqV (.str z) x
 | _ => false
theorem eqU_of (r : RelV y u) (f : zgY y = true) : eqU x u = eqV y x := by
 cases y with
 | non => cases r; rfl
 | bl b => cases r; rfl
 | int i => obtain ⟨t, rfl⟩ := r; rfl
 | str z => obtain ⟨t, rfl⟩ := r; rfl
 | _ => exact absurd (show false = true from f) Bool.false_ne_true
theorem ziV : ∀ {xs : List V} {us : List Value}, Vals xs us -> xs.all zgY = true -> us.any (eqU x) = xs.any fun y => eqV y x
 | _, _, .nil, _ => rfl
 | y :: xs, u :: us, .cons r t, f => by
  rw [List.all_cons, Bool.and_eq_true] at f
  rw [List.any_cons, List.any_cons, eqU_of r f.1, ziV t f.2]
theorem zh4 (rx : RelV x v) (fx : zgY x = true) : ∀ {xs : List V} {us : List Value}, Vals xs us -> xs.all zgY = true -> ∀ u ∈ us, SeqAt.EqAt A s u v (eqU x u)
 | _, _, .nil, _ => fun u hu => by cases hu
 | y :: xs, u :: us, .cons r t, f => fun u' hu => by
  rw [List.all_cons, Bool.and_eq_true] at f
  rcases List.mem_cons.mp hu with rfl | hu
  ·rw [eqU_of r f.1]; exact eqAt_V r rx f.1 fx
  ·exact zh4 rx fx t f.2 u' hu
def inV (x : V) (xs : List V) : Bool := xs.any fun y => eqV y x
def rIn (K : W.Frag) (neg : Bool) : R2 := fun x y H Q => ∃ p xs, y = .ref p /\ (SqL K H p xs \/ SqT K H p xs) /\ zgY x = true /\ xs.all zgY = true /\ Q (.bl (if neg then !inV x xs else inV x xs)) H
theorem zkS : OpR X (compareOp .In) (rIn X.K false) := by
 intro pins s σ H x y v u Q I rx ry h
 obtain ⟨p, xs, rfl, hq, fx, fs, q⟩ := h
 cases ry
 rcases hq with hq | hq
 ·obtain ⟨its, r, pl, hz⟩ := I.list hq
  refine SeqAt.in_listAt (eqU x) pl.isList (fun w hw => zh4 rx fx r fs w (by simpa using hw)) ⟨.bl _, H, I, rfl, ?_⟩
  rw [show its.toArray.any (eqU x) = its.any (eqU x) by simp, ziV r fs]
  exact q
 ·obtain ⟨its, r, pl, hz⟩ := I.tuple hq
  refine SeqAt.in_tupleAt (eqU x) pl (fun w hw => zh4 rx fx r fs w (by simpa using hw)) ⟨.bl _, H, I, rfl, ?_⟩
  rw [show its.toArray.any (eqU x) = its.any (eqU x) by simp, ziV r fs]
  exact q
theorem zf6 : zgb X (.builtin "len") (fun xs H Q => ∃ p ys, xs = [.ref p] /\ (SqL X.K H p ys \/ SqT X.K H p ys) /\ Q (.int ys.length) H) := by
 intro pins s σ H xs us Q I r h
 obtain ⟨p, ys, rfl, hq, q⟩ := h
 obtain ⟨u, rfl, rx⟩ := zki r
 cases rx
 have hn := zgH
 rcases hq with hq | hq
 ·obtain ⟨its, r', pl, hz⟩ := I.list hq
  have hlen := r'.length
  exact Calls.call_len_list pl.isList (by simp only [List.size_toArray] <;> omega) ⟨.int ys.length, H, I.tok _, ⟨s.toks + 1, by rw [List.size_toArray, hlen]⟩, q⟩
 ·obtain ⟨its, r', pl, hz⟩ := I.tuple hq
  have hlen := r'.length
  exact len_tuple pl (by simp only [List.size_toArray] <;> omega) ⟨.int ys.length, H, I.tok _, ⟨s.toks + 1, by rw [List.size_toArray, hlen]⟩, q⟩
theorem zhT : zgb X (.type "tuple") (fun xs H Q => ∃ p ys, xs = [.ref p] /\ ((SqL X.K H p ys /\ ∀ l, H l = none -> Q (.ref l) (upd H l (.tup ys))) \/ (SqT X.K H p ys /\ Q (.ref p) H))) := by
 intro pins s σ H xs us Q I r h
 obtain ⟨p, ys, rfl, h⟩ := h
 obtain ⟨u, rfl, rx⟩ := zki r
 cases rx
 rcases h with ⟨hq, q⟩ | ⟨hq, q⟩
 ·obtain ⟨its, r', pl, hz⟩ := I.list hq
  have hlen := r'.length
  refine call_tuple_list pl.isList (fun h' kp => ?_) (by simp only [List.size_toArray] <;> omega)
  have I1 : Inv X pins σ H { s with heap := h' } := I.kept (t' := s.toks) kp
  have I2 : Inv X pins σ (upd H h'.objs.size (.tup ys)) { s with heap := h'.push { cls := .type "tuple", data := .seq its.toArray } } :=
   I1.laid (t' := s.toks) (fun b o e => Heap.get?_push_of_some _ e) (Nat.le_refl _) (show ObjOk X.prog X.w _ _ _ (.tup ys) from ⟨hz, its, r', IsTup.new _ _⟩)
  exact ⟨.ref h'.objs.size, _, I2, rfl, q _ (I1.hok.fresh (Nat.le_refl _))⟩
 ·obtain ⟨its, r', pl, hz⟩ := I.tuple hq
  exact call_tuple_same pl ⟨.ref p, H, I, rfl, q⟩
def tyV (K : W.Frag) (T : String) (x : V) (H : Hp) : Prop := match x with
 | .str _ => T = "str"
 | .int _ => T = "int"
 | .ref p => (T = "list" /\ ∃ xs, SqL K H p xs) \/ (T = "tuple" /\ ∃ o, K.lookup p = some o /\ o.cls = .type "tuple" /\ o.dict = none) \/
   (T = "dict" /\ ((∃ kvs, H p = some (.dK kvs)) \/ ∃ kvs, H p = some (.dT kvs))) \/ (T = "set" /\ ∃ S n, H p = some (.set S n))
 | _ => False
theorem tyV_is {T : String} (I : Inv X pins σ H s) (r : RelV x v) (ty : tyV X.K T x H) :
  s.TypeIs v T /\ ∀ a, v = .ref a -> ∃ ob, s.heap.get? a = some ob /\ ob.dict = none := by
 cases x with
 | str z =>
  obtain ⟨t, rfl⟩ := r
  cases (show T = "str" from ty)
  exact ⟨typeIs_str s z t, fun _ e => nomatch e⟩
 | int i =>
  obtain ⟨t, rfl⟩ := r
  cases (show T = "int" from ty)
  exact ⟨typeIs_int s i t, fun _ e => nomatch e⟩
 | ref p =>
  cases r
  rcases ty with ⟨rfl, xs, hq⟩ | ⟨rfl, o, hk, hc, hd⟩ | ⟨rfl, hk⟩ | ⟨rfl, S, n, hk⟩
  ·obtain ⟨its, _, pl, _⟩ := I.list hq
   refine ⟨pl.isList.typeIs, fun a e => ?_⟩
   cases e
   obtain ⟨o, n, e, c, hd, _⟩ := pl
   exact ⟨o, e, hd⟩
  ·refine ⟨⟨o, I.kIn p o hk, hc⟩, fun a e => ?_⟩
   cases e
   exact ⟨o, I.kIn _ o hk, hd⟩
  ·have z : ∃ o, s.heap.get? p = some o /\ o.ExactDict := by
    rcases hk with ⟨kvs, hk⟩ | ⟨kvs, hk⟩
    ·obtain ⟨_, _, _, _, o, _, _, e, ex, _⟩ := I.hok p _ hk
     exact ⟨o, e, ex⟩
    ·obtain ⟨_, _, _, _, o, _, _, e, ex, _⟩ := I.hok p _ hk
     exact ⟨o, e, ex⟩
   obtain ⟨o, e, ex⟩ := z
   refine ⟨⟨o, e, ex.1⟩, fun a e2 => ?_⟩
   cases e2
   exact ⟨o, e, ex.2.1⟩
  ·obtain ⟨o, _, _, _, e, ex, _⟩ := I.hok p _ hk
   refine ⟨⟨o, e, ex.1⟩, fun a e2 => ?_⟩
   cases e2
   exact ⟨o, e, ex.2.1⟩
 | _ => exact False.elim ty
def tBM (K : W.Frag) (T : String) (r : V -> List V -> Hp -> VK -> Prop) (to : TE) (t : TA) : TE := fun σ H Q => to σ H fun x H1 => tyV K T x H1 /\ t σ H1 fun xs H2 => r x xs H2 Q
variable {o e : Expr} {es : List Expr} {to : TE} {t : TA} {name : Str} {apos cpos : Pos} {T id : String} {r : V -> List V -> Hp -> VK -> Prop}
theorem pe_bm (pa : PlainAttrs T) (slot : Slot T name id) (hty : typeOf (.builtin id) = pure (.type "method_descriptor")) (hm : MtR X id r) (ho : PE X o to) (ha : PA X (e :: es) t)
  (hbase : attributeBase o name X.env (eval o X.env) = eval o X.env := by rfl)
  (hfew : ((backTo cpos (starEach (e :: es) X.env)).all (fun x => !x.1) && (backToKw cpos (keywordEach [] X.env)).all (fun x => x.1.isSome)
   && decide ((e :: es).length + ([] : List Keyword).length + (if ([] : List Keyword).isEmpty then 0 else 1) < 30)) = true := by rfl)
  (hline : (apos.endLine == cpos.line) = true := by rfl) (hs : starEach (e :: es) X.env = (false, eval e X.env) :: starEach es X.env := by rfl) (hplain : (backTo cpos (starEach es X.env)).any (·.1) = false := by rfl) :
  PE X (.Call (.Attribute o name apos) (e :: es) [] cpos) (tBM X.K T r to t) := by
 intro pins s σ H Q I h
 refine wpAny_Call_method_late hbase hfew hline rfl (thn (ho pins s σ H _ I h) fun v s1 ⟨x, H1, I1, r1, ty, q1⟩ => ?_)
 obtain ⟨h1, h2⟩ := tyV_is I1 r1 ty
 refine ⟨T, id, pa, slot, hty, h1, h2, ?_⟩
 have hA := ha cpos pins s1 σ H1 _ I1 q1
 rw [hs] at hA ⊢
 refine Calls.callWith_builtin (by show (false || (backTo cpos (starEach es X.env)).any (·.1)) = false; rw [hplain] <;> rfl) (Calls.evalArgs_plain ?_)
 exact thn hA fun us s2 ⟨vs, H2, I2, r2, q2⟩ => hm pins s2 σ H2 x vs v us Q I2 r1 r2 q2
end
def MtM (X : Cx) (id : String) (r : V -> List V -> Hp -> VK -> Prop) : Prop :=
 ∀ (pins : List (Addr × Obj)) (s : Shared) (σ : St) (H : Hp) (x : V) (xs : List V) (v : Value) (us : List Value) (Q : VK), Inv X pins σ H s -> RelV x v -> Vals xs us -> r x xs H Q ->
  wpAny (model X.prog X.w) X.A (call (.builtin id) (v :: us)) (EP X pins σ Q) X.xe s
theorem Vals.one : ∀ {x : V} {us : List Value}, Vals [x] us -> ∃ u, us = [u] /\ RelV x u
 | _, _, .cons r .nil => ⟨_, rfl, r⟩
theorem Vals.eraseIdx : ∀ {xs : List V} {us : List Value} (i : Nat), Vals xs us -> Vals (xs.eraseIdx i) (us.eraseIdx i)
 | _, _, _, .nil => .nil
 | _, _, 0, .cons _ t => t
 | _, _, i + 1, .cons r t => .cons r (Vals.eraseIdx i t)
theorem Vals.rep (h : Vals xs us) : ∀ k : Nat, Vals (List.replicate k xs).flatten (List.replicate k us).flatten
 | 0 => .nil
 | k + 1 => by
  rw [List.replicate_succ, List.replicate_succ, List.flatten_cons, List.flatten_cons]
  exact Vals.append h (Vals.rep h k)
theorem zix {α : Type} : ∀ (l : List α) (i : Nat), (l.eraseIdx i).length <= l.length
 | [], _ => Nat.le_refl _
 | _ :: _, 0 => Nat.le_succ _
 | _ :: r, i + 1 => Nat.succ_le_succ (zix r i)
theorem ziz (its : List Value) : ∀ (k : Nat) (acc : List Value),
  List.foldl (fun x1 x2 => x1 ++ x2) acc.toArray (List.replicate k its.toArray) = (acc ++ (List.replicate k its).flatten).toArray
 | 0, acc => by simp
 | k + 1, acc => by
  have e : acc.toArray ++ its.toArray = (acc ++ its).toArray := by simp
  have e2 : (acc ++ its) ++ (List.replicate k its).flatten = acc ++ (List.replicate (k + 1) its).flatten := by
   rw [List.replicate_succ, List.flatten_cons, List.append_assoc]
  rw [<- e2, <- ziz its k (acc ++ its), <- e, List.replicate_succ, List.foldl_cons]
section
variable {X : Cx} {pins : List (Addr × Obj)} {σ : St} {H : Hp} {s : Shared} {l b : Addr} {xs ys zs : List V}
theorem Inv.lset (I : Inv X pins σ H s) (hH : H l = some (.lst xs))
  (e : s.heap.get? l = some { cls := .type "list", data := .seq its.toArray n }) (hf : f its.toArray = its'.toArray) (hv : Vals ys its') (hz : ys.length <= sizeLine) :
  Inv X pins σ (upd H l (.lst ys)) { s with heap := s.heap.update l (Obj.mapSeq f), toks := t' } := by
 have q := PySem.IsL.update e f
 rw [hf] at q
 refine I.write (x := l) (e := l) (by rw [hH]; exact trivial) (.inl rfl) (fun b' u hb hu => (Heap.get?_update_other s.heap (Obj.mapSeq f) (Ne.symm hb)).trans hu) ⟨_, q⟩ ?_
 exact ⟨hz, its', _, hv, q⟩
theorem Inv.lnew (I : Inv X pins σ H s) (hv : Vals ys its) (hz : ys.length <= sizeLine) :
  Inv X pins σ (upd H s.heap.objs.size (.lst ys)) { s with heap := s.heap.push { cls := .type "list", data := .seq its.toArray }, toks := t' } :=
 I.laid (fun _ _ q => Heap.get?_push_of_some _ q) (Nat.le_refl _) ⟨hz, its, 0, hv, Heap.get?_push_size _ rfl⟩
theorem Inv.fresh (I : Inv X pins σ H s) : H s.heap.objs.size = none := I.hok.fresh (Nat.le_refl _)
theorem Inv.lstM (I : Inv X pins σ H s) (hH : H l = some (.lst xs)) : xs.length <= sizeLine /\ ∃ (its : List Value) (n : Nat), Vals xs its /\ xs.length = its.length /\ s.heap.get? l = some { cls := .type "list", data := .seq its.toArray n } := by
 obtain ⟨z, its, n, r, e⟩ := I.hok l _ hH
 exact ⟨z, its, n, r, r.length, e⟩
theorem zjI (h : n <= sizeLine) : Builtin.List.listTooLong n = false := by
 unfold Builtin.List.listTooLong
 exact decide_eq_false (by omega)
end
section
variable {X : Cx}
def rAppend : V -> List V -> Hp -> VK -> Prop := fun x vs H Q => ∃ l xs y, x = .ref l /\ vs = [y] /\ H l = some (.lst xs) /\ xs.length < sizeLine /\ Q .non (upd H l (.lst (xs ++ [y])))
theorem zio : MtM X "list.append" rAppend := by
 intro pins s σ H x vs v us Q I rx rv h
 obtain ⟨l, xs, y, rfl, rfl, hH, hz, q⟩ := h
 cases rx
 obtain ⟨u, rfl, ru⟩ := rv.one
 obtain ⟨z, its, n, r, hl, e⟩ := I.lstM hH
 refine call_meets F.slot_list_append ⟨_, e, rfl⟩ F.entry_list_append (F.args_list_append_2 _ _) (PySem.list_append l its.toArray n u (by rw [List.size_toArray]; omega)) ⟨e, ?_⟩
 refine ⟨.non, _, I.lset (its' := its ++ [u]) hH e (by simp) (r.append (.cons ru .nil)) ?_, rfl, q⟩
 rw [List.length_append, List.length_singleton]
 omega
def rExtend : V -> List V -> Hp -> VK -> Prop := fun x vs H Q => ∃ l b xs zs, x = .ref l /\ vs = [.ref b] /\ H l = some (.lst xs) /\ H b = some (.lst zs) /\ xs.length + zs.length <= sizeLine /\ Q .non (upd H l (.lst (xs ++ zs)))
theorem zlt : MtM X "list.extend" rExtend := by
 intro pins s σ H x vs v us Q I rx rv h
 obtain ⟨l, b, xs, zs, rfl, rfl, hH, hB, hz, q⟩ := h
 cases rx
 obtain ⟨u, rfl, ru⟩ := rv.one
 cases ru
 obtain ⟨z, its, n, r, hl, e⟩ := I.lstM hH
 obtain ⟨z2, its2, n2, r2, hl2, e2⟩ := I.lstM hB
 have hsz : its.toArray.size + its2.toArray.size <= sizeLine := by rw [List.size_toArray, List.size_toArray]; omega
 have hlong : ¬ (!its.toArray.isEmpty && Builtin.List.listTooLong (its.toArray.size + its2.toArray.size)) = true := by
  rw [zjI hsz, Bool.and_false]
  exact Bool.false_ne_true
 refine call_meets F.slot_list_extend ⟨_, e, rfl⟩ F.entry_list_extend (F.args_list_extend_2 _ _)
  (AutoSeq1.list_extend_list_list_0 l its.toArray n b its2.toArray n2 hlong (by rw [List.size_toArray]; omega) (by omega)) ⟨e, e2, ?_⟩
 refine ⟨.non, _, I.lset (its' := its ++ its2) hH e (by simp) (r.append r2) ?_, rfl, q⟩
 rw [List.length_append]
 omega
def rPopAt : V -> List V -> Hp -> VK -> Prop := fun x vs H Q => ∃ l xs i k y, x = .ref l /\ vs = [.int i] /\ H l = some (.lst xs) /\ -(2 ^ 63) <= i /\ i < 2 ^ 63 /\ seqIndex? i xs.length = some k /\ xs[k]? = some y /\ Q y (upd H l (.lst (xs.eraseIdx k)))
theorem mt_popAt : MtM X "list.pop" rPopAt := by
 intro pins s σ H x vs v us Q I rx rv h
 obtain ⟨l, xs, i, k, y, rfl, rfl, hH, h1, h2, hk, hy, q⟩ := h
 cases rx
 obtain ⟨u, rfl, ru⟩ := rv.one
 obtain ⟨t, rfl⟩ := ru
 obtain ⟨z, its, n, r, hl, e⟩ := I.lstM hH
 obtain ⟨w, hw, rw'⟩ := r.get hy
 refine call_meets F.slot_list_pop ⟨_, e, rfl⟩ F.entry_list_pop (F.args_list_pop_2 _ _)
  (MeetsSeq.list_pop_at l its.toArray n i t k w (fitsIndex_both h1 h2) (by rw [List.size_toArray, <- hl]; exact hk) (by rw [<- Array.getElem?_toList]; exact hw) (by rw [List.size_toArray]; omega)) ⟨e, ?_⟩
 refine ⟨y, _, I.lset (its' := its.eraseIdx k) hH e ?_ (r.eraseIdx k) ?_, rw', q⟩
 ·show its.toArray.eraseIdxIfInBounds k = (its.eraseIdx k).toArray
  rw [List.eraseIdxIfInBounds_toArray]
 ·have := zix xs k
  omega
def rCat : R2 := fun x y H Q => ∃ l b xs zs, x = .ref l /\ y = .ref b /\ H l = some (.lst xs) /\ H b = some (.lst zs) /\ xs.length + zs.length <= sizeLine /\ ∀ p, H p = none -> Q (.ref p) (upd H p (.lst (xs ++ zs)))
theorem op_cat : OpR X (binaryOp .Add) rCat := by
 intro pins s σ H x y v u Q I rx ry h
 obtain ⟨l, b, xs, zs, rfl, rfl, hH, hB, hz, q⟩ := h
 cases rx
 cases ry
 obtain ⟨z, its, n, r, hl, e⟩ := I.lstM hH
 obtain ⟨z2, its2, n2, r2, hl2, e2⟩ := I.lstM hB
 refine PySem.P.add_list e e2 ?_ (by rw [List.size_toArray, List.size_toArray]; omega)
 have ea : its.toArray ++ its2.toArray = (its ++ its2).toArray := by simp
 rw [ea]
 exact ⟨.ref _, _, I.lnew (t' := s.toks) (r.append r2) (by rw [List.length_append]; omega), rfl, q _ I.fresh⟩
def rRep : R2 := fun x y H Q => ∃ l k xs, x = .ref l /\ y = .int k /\ H l = some (.lst xs) /\ -(2 ^ 63) <= k /\ k < 2 ^ 63 /\ xs.length * k.toNat <= sizeLine /\
 ∀ p, H p = none -> Q (.ref p) (upd H p (.lst (List.replicate k.toNat xs).flatten))
theorem len_rep {α : Type} (xs : List α) (k : Nat) : (List.replicate k xs).flatten.length = k * xs.length := by
 induction k with
 | zero => simp
 | succ k ih => rw [List.replicate_succ, List.flatten_cons, List.length_append, ih, Nat.succ_mul, Nat.add_comm]
theorem op_rep : OpR X (binaryOp .Mult) rRep := by
 intro pins s σ H x y v u Q I rx ry h
 obtain ⟨l, k, xs, rfl, rfl, hH, h1, h2, hz, q⟩ := h
 cases rx
 obtain ⟨t, rfl⟩ := ry
 obtain ⟨z, its, n, r, hl, e⟩ := I.lstM hH
 have hlen : its.toArray.size * k.toNat <= sizeLine := by rw [List.size_toArray, <- hl]; exact hz
 have hcap : ¬ its.toArray.size * k.toNat > (2 ^ 63 - 1) / 8 := by
  have : (sizeLine : Nat) <= (2 ^ 63 - 1) / 8 := by decide
  omega
 have hfit : ¬ (!Builtin.List.listFitsIndex k) = true := by
  rw [fitsIndex_both h1 h2]
  exact Bool.false_ne_true
 have hlong : ¬ Builtin.List.listTooLong (its.toArray.size * k.toNat) = true := by
  rw [zjI hlen]
  exact Bool.false_ne_true
 have hnew : List.foldl (fun x1 x2 => x1 ++ x2) #[] (List.replicate (if its.toArray.isEmpty = true then 0 else k.toNat) its.toArray) = (List.replicate k.toNat its).flatten.toArray := by
  have f0 : ∀ m : Nat, List.foldl (fun x1 x2 => x1 ++ x2) #[] (List.replicate m its.toArray) = (List.replicate m its).flatten.toArray := fun m => by
   have := ziz its m []
   rw [List.nil_append] at this
   exact this
  rw [f0]
  cases its with
  | nil => simp
  | cons a r' => rw [if_neg (by simp)]
 refine wpAny_binaryOp_repeat_ref (T := "list") (U := "int") (by decide) ⟨_, e, rfl⟩ (fun s' => typeIs_int s' k t) noFill_list_mul F.fills_int_mul F.slot_int_rmul repeat_list F.slot_int_index.lookup
  (call_meets F.slot_int_rmul (typeIs_int s k t) F.entry_int_rmul (F.args_int_rmul_2 _ _) (int___rmul___int_list k t l its.toArray n)
   ⟨e, rfl, ⟨_, e, rfl⟩, call_meets F.slot_list_mul ⟨_, e, rfl⟩ F.entry_list_mul (F.args_list_mul_2 _ _) (AutoListH.list___mul___list_int_3 l its.toArray n k t hfit hcap hlong) ⟨e, ?_⟩⟩)
 rw [hnew]
 exact ⟨.ref _, _, I.lnew (t' := s.toks) (r.rep k.toNat) (by rw [len_rep, Nat.mul_comm]; exact hz), rfl, q _ I.fresh⟩
end
end L2
namespace Att
open PyProof.Rows PySem PySem.Calls PySem.W
theorem zgz {P : Params} {h : Heap} : ∀ (ns : List Int) (vs : List Value), WellAll P h vs (ns.map WData.int) -> IntsAre vs ns := by
 intro ns
 induction ns with
 | nil =>
  intro vs w
  rw [List.map_nil] at w
  cases w
  exact .nil
 | cons n ns ih =>
  intro vs w
  rw [List.map_cons] at w
  cases w with
  | cons a b =>
   cases a
   exact .cons _ _ (ih _ b)
theorem zli {l : OpenLaw} {n : Nat} (hn : l.most = some n) {P : Params} {h : Heap} {args : List WData} {vals : List Value}
  (hpre : l.row.toRowW.claim.pre args = true) (hwl : WellAll P h vals args) :
  ∃ a vs ns, vals = [Value.ref a] /\ args = [WData.list (ns.map WData.int)] /\ h.get? a = some { cls := .type "list", data := .seq vs.toArray } /\ IntsAre vs ns /\ ns.length <= n := by
 have hsh : WShape.hasAll [] args [.list .int] = true := (pre_splitW hpre).1
 have hc : l.pre.holds [] { args := args } = true := (pre_splitW hpre).2
 obtain ⟨d, r, rfl, h1, h2⟩ := hasAllW_cons hsh
 obtain rfl := hasAllW_nil h2
 obtain ⟨xs, rfl, h3⟩ := hasW_list h1
 obtain ⟨ns, rfl⟩ := items_int h3
 have hlen : ns.length <= n := by
  unfold OpenLaw.pre at hc
  have h4 : (WTm.not (.lt (.lit (.int (n : Int))) (.len (.arg 0)))).holds [] { args := [.list (ns.map .int)] } = true := by
   have h4 := (holds_andW hc).1
   rw [hn] at h4
   exact h4
  have h5 := condW_of h4 (w_not (w_lt w_lit (w_len_list (w_arg rfl))))
  rw [List.length_map] at h5
  refine Nat.le_of_not_lt fun q => ?_
  have q' : (n : Int) < ((ns.length : Nat) : Int) := by omega
  first
   | (rw [decide_eq_true q'] at h5; exact absurd h5 (by decide))
   | (simp at h5; omega)
 cases hwl with
 | cons w1 w2 =>
  cases w2
  cases w1 with
  | list ho hall => exact ⟨_, _, ns, rfl, rfl, ho, zgz ns _ hall, hlen⟩
theorem zlA (l : OpenLaw) (args : List WData) : l.row.toRowW.claim.post args (.bool true) args = true :=
 postW_of (r := l.row.toRowW) (X := (true == true))
  (show WShape.has [] (.bool true) .bool = true by first | rfl | decide | simp [WShape.has, WShape.arms, WShape.armsAll])
  (show (WTm.eq .res (.lit (.bool true))).value [] { args := args, res := some (.bool true), after := args } = some (.bool (true == true)) from w_eq_bool (w_res rfl) w_lit) rfl
theorem attach_call {l : OpenLaw} {n : Nat} {q : Program} {loose : List Str} {XP : (Str -> Option Value) -> Heap -> Prop} {YP : World -> Heap -> Prop} {d : DefRec}
  (hn : l.most = some n) (hdf : d.params.defaults = [])
  (call : ∀ (w : World) (s₀ s₁ : Shared) (mg mb : Str -> Option Value) (fa : Addr) (o : Obj) (pm cd doc : Value) (a : Addr) (vs : List Value) (ns : List Int),
   Ground q loose [] XP w s₀ mg mb s₁.heap -> YP w s₁.heap ->
   s₁.heap.get? fa = some o -> o.data = .func (docDef d.name d.params d.body d.scope pm cd doc) -> s₁.heap.CodeRec cd d.name -> mg d.name = some (.ref fa) ->
   s₁.heap.get? a = some { cls := .type "list", data := .seq vs.toArray } -> IntsAre vs ns -> ns.length <= n -> s₁.gens = #[] ->
   codeAny (model l.prog w) callerA (.call (.ref fa) ⟨[.ref a], []⟩) (fun r s' => r = .ok (.ret (.bool true)) /\ OldK s₁.heap s'.heap /\ s'.os = s₁.os /\ AllBare s'.gens) s₁) :
  WalkO q loose XP YP l.row.toRowW d [] (fun f vs => PySem.call f vs) := by
 intro w s₀ s₁ mg mb G Y fa o pm cd doc dV kV ho hd hcd hD hmg hg args vals as hpre hlay hrd hwl hlo
 obtain rfl : dV = .none := Dflts.none hD hdf
 obtain rfl : kV = .none := Dflts.noKw hD
 obtain ⟨a, vs, ns, rfl, rfl, hobj, hints, hlen⟩ := zli hn hpre hwl
 refine enter_call (codeAny_mono (call w s₀ s₁ mg mb fa o pm cd doc a vs ns G Y ho (fd_plain hd) hcd hmg hobj hints hlen hg) fun r s' hq => ?_)
 obtain ⟨rfl, h2, h3, h4⟩ := hq
 exact ⟨.inl ⟨.bool true, .bool true, [], rfl, fun _ => rfl, .bool true, zlA l _, fun _ => ⟨List.Pairwise.nil, fun _ hm => (nomatch hm)⟩⟩, h2, h3, h4⟩
end Att
namespace L2
open PyProof.Rows PySem PySem.Spec
variable {w : World} {K : W.Frag} {mg mb : Str -> Option Value} {CX : World -> CXT} {k : Nat} {a f b : Addr} {fd : FuncData} {x qual : Str} {sp : Sp} {vs : List Value} {ns : List Int} {l : W.OpenLaw} {q : Program} {loose ps : List Str} {XP : (Str -> Option Value) -> Heap -> Prop} {YP : World -> Heap -> Prop} {d : DefRec} {oc d' : Value} {osl : Array (Option Value)} {H : Hp} {xs : List (List Key × Addr × Value)} {o : Option V} {u : Option Value} {kvs : List (List Key × V)} {y : V} {ks : List Key} {h' : Heap}
theorem zij : ∀ {vs : List Value} {ns : List Int}, IntsAre vs ns -> Vals (ns.map V.int) vs
 | _, _, .nil => .nil
 | _, _, .cons n t h => .cons ⟨t, rfl⟩ (zij h)
def Only (H : Hp) : Prop := ∀ b, H b = none \/ ∃ o xs, H b = some (.frz o (.lst xs))
theorem law_call {P : Program} {CX : CXT} {fa a : Addr} {s₁ : Shared} 
  (KX : K.In s₁.heap) (hns : s₁.heap.Ns mainGlobals mg) (hb : s₁.heap.Ns builtinsNs mb) (hbb : ∀ x : Str, x ≠ "__name__" -> mb x = bootBuiltins x) (hlim : s₁.heap.NoLimit) (hg : s₁.gens = #[])
  (ha : s₁.heap.get? a = some { cls := .type "list", data := .seq vs.toArray }) (hi : IntsAre vs ns) (hl : ns.length <= sizeLine) (hr : Room k callerA)
  (F : ∀ base : Heap, K.In base -> base.Ns mainGlobals mg -> FnOk P w K mg base CX k fa fd [x] sp) (hbind : ∀ (s : Shared) (u : Value), BindsTo s fd ⟨[u], []⟩ [(x, u)])
  (hsp : ∀ H : Hp, Only H -> SqL K H a (ns.map V.int) -> sp [.ref a] H (fun v _ => v = .bl true) fun _ _ _ => False)
  (hCX : ∀ H e s', CX [] H s₁ (fun _ _ _ => False) e s' -> False) :
  codeAny (model P w) callerA (.call (.ref fa) ⟨[.ref a], []⟩) (fun r s' => r = .ok (.ret (.bool true)) /\ OldK s₁.heap s'.heap /\ s'.os = s₁.os /\ AllBare s'.gens) s₁ := by
 have rv := zij hi
 have lenV := hi.length
 have core : ∀ H : Hp, Only H -> SqL K H a (ns.map V.int) -> HOk P w H s₁.heap -> (∀ b, H b ≠ none -> b = a) -> (H a ≠ none -> K.lookup a = none) ->
   codeAny (model P w) callerA (.call (.ref fa) ⟨[.ref a], []⟩) (fun r s' => r = .ok (.ret (.bool true)) /\ OldK s₁.heap s'.heap /\ s'.os = s₁.os /\ AllBare s'.gens) s₁ := by
  intro H hO hS hok hA hK
  have base_of : ∀ {b : Addr} {o : Obj}, s₁.heap.get? b = some o -> H b = none -> (hidT s₁.heap H).get? b = some o := fun e n => hidT_get e n
  have noA : ∀ {b : Addr} {o : Obj} {es : Array DictEntry} {ep : Nat}, s₁.heap.get? b = some o -> o.data = .dict es ep -> H b = none := fun {b o es ep} e d => by
   cases q : H b with
   | none => rfl
   | some u =>
    have e' : b = a := hA b (by rw [q]; simp)
    subst e'
    rw [ha] at e; cases e
    have d' : Data.seq vs.toArray _ = Data.dict es ep := d
    cases d'
  have nsK : ∀ {b : Addr} {m : Str -> Option Value}, s₁.heap.Ns b m -> (hidT s₁.heap H).Ns b m := fun {b m} ⟨o, es, ep, e, d, r⟩ => ⟨o, es, ep, base_of e (noA e d), d, r⟩
  have hKb : K.In (hidT s₁.heap H) := fun b o e => base_of (KX b o e) (by
   cases q : H b with
   | none => rfl
   | some u =>
    have e' : b = a := hA b (by rw [q]; simp)
    subst e'
    rw [hK (by rw [q]; simp)] at e; cases e)
  have hM : Mod K mg (hidT s₁.heap H) := ⟨hKb, nsK hns, ⟨mb, nsK hb, hbb⟩, let ⟨mc, h1, h2⟩ := hlim; ⟨mc, nsK h1, h2⟩⟩
  have e0 : Env0 P w K mg (hidT s₁.heap H) callerA [] s₁ H := ⟨rfl, hM, fun b o e => of_hidT e, Nat.le_of_eq (zkH _ _), trivial, fun b hb => absurd (show b ∈ ([] : List Addr) from hb) (by simp), hok, .of_eq hg⟩
  refine codeAny_mono ((F _ hKb (nsK hns)).run callerA [] s₁ H ⟨[.ref a], []⟩ [.ref a] [.ref a] _ _ hr e0 (hbind s₁ (.ref a)) (.cons rfl .nil) (hsp H hO hS)) fun r s' h => ?_
  cases r with
  | error e => exact (hCX H e s' h).elim
  | ok fl =>
   cases fl with
   | next => exact False.elim h
   | brk => exact False.elim h
   | cont => exact False.elim h
   | ret u =>
    obtain ⟨v, H', os, bare, un, hok', r', q⟩ := h
    have q' : v = .bl true := q
    subst q'
    obtain rfl : u = Value.bool true := r'
    refine ⟨rfl, OldK.of_keep fun b o e => ?_, os, bare⟩
    cases q : H b with
    | none => exact un.keep b o e q (by intro z; exact absurd (show b ∈ ([] : List Addr) from z) (by simp)) (by simp)
    | some u =>
     rcases hO b with z | ⟨ob, xs, z⟩
     ·rw [q] at z; cases z
     ·have z2 := un.frzs b ob _ z
      obtain ⟨e1, _⟩ := hok b _ z
      obtain ⟨e2, _⟩ := hok' b _ z2
      rw [e] at e1; cases e1
      exact e2
 cases hk : K.lookup a with
 | some o =>
  have e := KX a o hk
  rw [ha] at e
  cases e
  refine core (fun _ => none) (fun _ => .inl rfl) (.inr ⟨_, vs.toArray, _, hk, rfl, rfl, rfl, by rw [List.size_toArray, lenV]; exact hl, by simpa using rv⟩) (fun b u z => by have z' : (none : Option HO) = some u := z; cases z') (fun b z => absurd rfl z) fun z => absurd rfl z
 | none =>
  refine core (fun b => if b = a then some (.frz { cls := .type "list", data := .seq vs.toArray } (.lst (ns.map V.int))) else none) (fun b => ?_) (.inl (.inr ⟨{ cls := .type "list", data := .seq vs.toArray }, if_pos rfl⟩)) (fun b u z => ?_) (fun b z => ?_) fun _ => hk
  ·by_cases hb : b = a
   ·exact .inr ⟨_, _, if_pos hb⟩
   ·exact .inl (if_neg hb)
  ·by_cases hb : b = a
   ·have z' := (if_pos hb).symm.trans z
    cases z'
    subst hb
    exact ⟨ha, by rw [List.length_map]; exact hl, vs, _, rv, ha⟩
   ·have z' := (if_neg hb).symm.trans z
    cases z'
  ·by_cases hb : b = a
   ·exact hb
   ·exact absurd (if_neg hb) z
theorem walk_of {n k : Nat} {K : Params -> W.Frag} {sp : World -> Sp} 
  (hn : l.most = some n) (hn2 : n <= sizeLine) (hdf : d.params.defaults = []) (hr : Room k callerA)
  (hY : ∀ (w : World) (h : Heap), YP w h -> (K w.params).In h)
  (F : ∀ (w : World) (mg : Str -> Option Value) (fa : Addr) (h : Heap), (K w.params).In h -> h.Ns mainGlobals mg -> mg d.name = some (.ref fa) ->
   ∃ fd : FuncData, (∀ (s : Shared) (u : Value), BindsTo s fd ⟨[u], []⟩ [(x, u)]) /\
    ∀ base : Heap, (K w.params).In base -> base.Ns mainGlobals mg -> FnOk l.prog w (K w.params) mg base (CX w) k fa fd [x] (sp w))
  (hsp : ∀ (w : World) (H : Hp) (a : Addr) (ns : List Int), ns.length <= n -> Only H -> SqL (K w.params) H a (ns.map V.int) -> sp w [.ref a] H (fun v _ => v = .bl true) fun _ _ _ => False)
  (hCX : ∀ (w : World) (H : Hp) (s : Shared) (e : Value) (s' : Shared), CX w [] H s (fun _ _ _ => False) e s' -> False) :
  W.WalkO q loose XP YP l.row.toRowW d [] (fun f vs => PySem.call f vs) := by
 refine Att.attach_call hn hdf fun w s₀ s₁ mg mb fa o pm cd doc a vs ns G Y ho hd hcd hmg hobj hints hlen hg => ?_
 have KX := hY w _ Y
 obtain ⟨fd, hb, hF⟩ := F w mg fa _ KX G.T.g hmg
 exact law_call KX G.T.g G.T.b G.T.builtins G.T.nolimit hg hobj hints (Nat.le_trans hlen hn2) hr hF hb (fun H hO hS => hsp w H a ns hlen hO hS) fun H e s' => hCX w H s₁ e s'
def zdZ (s : Stmt) : Arguments := match s with
 | .FunctionDef _ a _ _ _ _ _ _ _ _ => a
 | _ => { posonlyargs := [], args := [], vararg := none, kwonlyargs := [], kw_defaults := [], kwarg := none, defaults := [] }
def zb1 (s : Stmt) : List Stmt := match s with
 | .FunctionDef _ _ b _ _ _ _ _ _ _ => b
 | _ => []
def zaB (s : Stmt) : Scope := match s with
 | .FunctionDef _ _ _ _ _ _ sc _ _ _ => sc
 | _ => { kind := .function, names := [], isGenerator := false, isCoroutine := false }
abbrev CX0 : CXT := fun _ _ _ _ _ _ => False
abbrev E0 : XK := fun _ _ _ => False
theorem zlc {X : Cx} : zla CX0 X E0 := fun _ _ _ _ _ _ _ h => h.elim
structure Fun (K : W.Frag) (x qual : Str) (st : Stmt) (f : Addr) (fd : FuncData) : Prop where
 ex : ∃ (oc : Value) (od : Option Addr) (kV doc pm : Value) (an : Option Addr) (cdv ct : Value) (osl : Array (Option Value)),
  fd = W.fnOf x qual (zdZ st) (zb1 st) (zaB st) .none kV doc pm an cdv ct /\ K.lookup f = some ⟨oc, od, .func fd, osl⟩ /\ W.codeIn K cdv qual = true
 kp : W.keepIn K (.ref f) = true
section
variable {P : Program} {w : World} {K : W.Frag} {mg : Str -> Option Value} {base : Heap}
theorem Fun.ok {st : Stmt} {N ps : List Str} (F : Fun K x qual st f fd) (S : FnScope N ps (zaB st)) (len : ∀ vs H Q E, sp vs H Q E -> vs.length = ps.length)
  (hbody : ∀ (cdv : Value) (A : Around) (outer : List Env) (s : Shared) (H : Hp) (vs : List V) (Q : VK) (E : XK), Room k (A.deeper (envOfC qual (zaB st) s.heap.objs.size f cdv)) -> sp vs H Q E ->
   ∃ t, PSs (cxOf CX0 P w K mg base N qual (zaB st) f cdv A outer s H E).nox (zb1 st) t /\ t { nx := fun _ H' => Q .non H', rt := Q } (start N vs) H) : FnOk P w K mg base CX0 (k + 1) f fd ps sp := by
 obtain ⟨oc, od, kV, doc, pm, an, cdv, ct, osl, rfl, lk, hcd⟩ := F.ex
 refine fn_of lk hcd S len fun A outer s H vs Q E hr hsp => ?_
 obtain ⟨t, h, q⟩ := hbody cdv A outer s H vs Q E hr hsp
 exact ⟨t, h.nox, q⟩
theorem Fun.binds {st : Stmt} (F : Fun K x qual st f fd)
  (h : ∀ (kV doc pm : Value) (an : Option Addr) (cdv ct : Value) (us : List Value), us.length = ps.length -> bindArgs (W.fnOf x qual (zdZ st) (zb1 st) (zaB st) .none kV doc pm an cdv ct) ⟨us, []⟩ = pure (ps.zip us)) : Binds K fd ps [] := by
 obtain ⟨oc, od, kV, doc, pm, an, cdv, ct, osl, rfl, lk, hcd⟩ := F.ex
 exact .all (h kV doc pm an cdv ct)
theorem fun_mk {st : Stmt} {od an : Option Addr} {kV doc pm cdv ct : Value} (l : K.lookup f = some ⟨oc, od, .func (W.fnOf x qual (zdZ st) (zb1 st) (zaB st) .none kV doc pm an cdv ct), osl⟩)
  (c : W.codeIn K cdv qual = true) (k : W.keepIn K (.ref f) = true) : Fun K x qual st f (W.fnOf x qual (zdZ st) (zb1 st) (zaB st) .none kV doc pm an cdv ct) := ⟨⟨oc, od, kV, doc, pm, an, cdv, ct, osl, rfl, l, c⟩, k⟩
end
def Same (H H' : Hp) : Prop := ∀ b o, H b = some o -> H' b = some o
theorem Same.seq {H H' : Hp} {xs : List V} (e : Same H H') (h : SqL K H a xs) : SqL K H' a xs := by
 rcases h with (h | ⟨o, h⟩) | h
 ·exact .inl (.inl (e _ _ h))
 ·exact .inl (.inr ⟨o, e _ _ h⟩)
 ·exact .inr h
section
variable {κ : Type} [DecidableEq κ]
def valV (kvs : List (κ × V)) (k : κ) : Option V := (kvs.find? fun kv => decide (kv.1 = k)).map (·.2)
def putK (kvs : List (κ × V)) (k : κ) (v : V) : List (κ × V) :=
 if (kvs.any fun kv => decide (kv.1 = k)) = true then kvs.map (fun kv => if kv.1 = k then (kv.1, v) else kv) else kvs ++ [(k, v)]
theorem zhE {p : κ × V} {r : List (κ × V)} {k : κ} (e : p.1 = k) : valV (p :: r) k = some p.2 := by simp [valV, List.find?_cons, e]
theorem zgf {p : κ × V} {r : List (κ × V)} {k : κ} (e : ¬ p.1 = k) : valV (p :: r) k = valV r k := by simp [valV, List.find?_cons, e]
theorem zjH (k : κ) : ∀ kvs : List (κ × V), (kvs.any fun kv => decide (kv.1 = k)) = (valV kvs k).isSome
 | [] => rfl
 | p :: r => by
  rw [List.any_cons]
  by_cases e : p.1 = k
  ·simp only [zhE e, decide_eq_true e, Bool.true_or, Option.isSome_some]
  ·rw [zgf e, decide_eq_false e, Bool.false_or]; exact zjH k r
theorem ziU (kvs : List (κ × V)) (k : κ) (v : V) : (putK kvs k v).length <= kvs.length + 1 := by
 unfold putK
 split
 ·rw [List.length_map]; omega
 ·rw [List.length_append, List.length_cons, List.length_nil]; omega
theorem RelO.isSome_eq (r : RelO o u) : o.isSome = u.isSome := by
 cases o with
 | none => cases u with
  | none => rfl
  | some _ => exact (show False from r).elim
 | some _ => cases u with
  | none => exact (show False from r).elim
  | some _ => rfl
theorem RelO.getD {d : V} (r : RelO o u) (rd : RelV d d') : RelV (o.getD d) (u.getD d') := by
 cases o with
 | none => cases u with
  | none => exact rd
  | some _ => exact (show False from r).elim
 | some _ => cases u with
  | none => exact (show False from r).elim
  | some _ => exact r
end
theorem kV_is {P : Program} {k : Key} {u : Value} (r : RelV (kV k) u) : (zbj P w).is k u = true := by
 cases k with
 | inl i => obtain ⟨t, e⟩ := (show ∃ t, u = Value.int i t from r); subst e; exact ziZ P w i t
 | inr x => obtain ⟨t, e⟩ := (show ∃ t, u = Value.str x t from r); subst e; exact ziR P w x t
theorem ziE {P : Program} : ∀ {ks : List Key} {us : List Value}, Vals (ks.map kV) us -> ItemsAre (zbj P w) ks us
 | [], _, r => by rw [List.map_nil] at r; cases r; exact .nil
 | k :: ks, _, r => by
  rw [List.map_cons] at r
  cases r with
  | cons h t => exact .cons (kV_is h) (ziE t)
abbrev KT (H : Hp) : List (List Key × V) -> List (List Key × Addr × Value) -> Prop := Paired fun p q => p.1 = q.1 /\ H q.2.1 = some (.tup (p.1.map kV)) /\ RelV p.2 q.2.2
theorem KT.val (r : KT H kvs xs) (k : List Key) : RelO (valV kvs k) ((atKey xs k).map (·.2)) := by
 induction r with
 | nil => exact True.intro
 | @cons p q ps qs h t ih =>
  obtain ⟨h1, _, h2⟩ := h
  by_cases e : p.1 = k
  ·have e' : q.1 = k := h1.symm.trans e
   have b : atKey (q :: qs) k = some q.2 := by simp [atKey, List.find?_cons, e']
   rw [zhE e, b]; exact h2
  ·have e' : ¬ q.1 = k := fun z => e (h1.trans z)
   have b : atKey (q :: qs) k = atKey qs k := by simp [atKey, List.find?_cons, e']
   rw [zgf e, b]; exact ih
theorem KT.repl (r : KT H kvs xs) (k : List Key) {u : Value} (ry : RelV y u) :
  KT H (kvs.map fun kv => if kv.1 = k then (kv.1, y) else kv) (xs.map (putAt k u)) := by
 induction r with
 | nil => exact .nil
 | @cons p q ps qs h t ih =>
  rw [List.map_cons, List.map_cons]
  refine .cons ?_ ih
  obtain ⟨h1, h2, h3⟩ := h
  unfold putAt
  by_cases e : p.1 = k
  ·rw [if_pos e, if_pos (h1.symm.trans e)]; exact ⟨h1, h2, ry⟩
  ·rw [if_neg e, if_neg (fun z => e (h1.trans z))]; exact ⟨h1, h2, h3⟩
theorem KT.put (r : KT H kvs xs) (k : List Key) {u : Value} (hb : H b = some (.tup (k.map kV))) (ry : RelV y u) :
  KT H (putK kvs k y) (storedH xs k b u) := by
 have e : (kvs.any fun kv => decide (kv.1 = k)) = (atKey xs k).isSome := by
  rw [zjH, (r.val k).isSome_eq, Option.isSome_map]
 unfold putK storedH
 rw [e]
 by_cases q : (atKey xs k).isSome = true
 ·rw [if_pos q, if_pos q]; exact r.repl k ry
 ·rw [if_neg q, if_neg q]; exact Paired.snoc r ⟨rfl, hb, ry⟩
section
variable {P : Program} {w : World} {H : Hp} {h : Heap} {a : Addr}
theorem zk8 (ok : HOk P w H h) (e : H a = some (.tup (ks.map kV))) : (tupleKind (zbj P w)).is h ks a := by
 obtain ⟨_, its, r, o, h1, h2, n, h3⟩ := (show ObjOk P w H h a (.tup (ks.map kV)) from ok a _ e)
 exact ⟨o, its.toArray, n, h1, h2, h3, by simpa using ziE r⟩
end
section
variable {X : Cx} {pins : List (Addr × Obj)} {σ : St} {H : Hp} {s : Shared} {a : Addr} {y v : V} {u r : Value} {o : Option V} {A : Around} {E : Value -> Shared -> Prop}
theorem Inv.big (I : Inv X pins σ H s) : sysModules < s.heap.objs.size := by
 have h : mainGlobals < s.heap.objs.size := (I.mod.glob.keeps I.bk).lt
 exact Nat.lt_trans (by decide) h
theorem d_write {t' : Nat} {ob : HO} (I : Inv X pins σ H s) (mu : Mut (H a)) (hs : Heap.SameBut a s.heap h') (he : ∃ q, h'.get? a = some q) (new : ObjOk X.prog X.w (upd H a ob) h' a ob) :
  Inv X pins σ (upd H a ob) { s with heap := h', toks := t' } :=
 I.write (x := a) (e := a) mu (.inl rfl) (fun b q hb z => (hs.2 b hb).trans z) he new
end
structure M2 (X : Cx) (o : Expr) (m : Str) (apos : Pos) (e f : Expr) (cpos : Pos) : Prop where
 base : attributeBase o m X.env (eval o X.env) = eval o X.env
 few : ((backTo cpos (starEach [e, f] X.env)).all (fun x => !x.1) && (backToKw cpos (keywordEach [] X.env)).all (fun x => x.1.isSome)
  && decide (([e, f] : List Expr).length + ([] : List Keyword).length + (if ([] : List Keyword).isEmpty then 0 else 1) < 30)) = true
 line : (apos.endLine == cpos.line) = true
 trees : backTo cpos (starEach [e, f] X.env) = [(false, eval e X.env), (false, eval f X.env)]
end L2
namespace M
open L2 PySem
variable {G G' H : Hp} {a p l : Addr} {o : Obj} {xs ys : List V} {ks : List (List Int)} {A A' : List Addr} {K : W.Frag} {x v : V} {d : D} {ds es : List D} {i : Nat} {c : Ch} {t : T} {ov : Option (Option V)} {s : Sl} {ρ ρ' : R} {e : Expr} {b : Bool} {f : D -> D -> Option D} {ma : ME} {op : Operator} {r : V -> Hp -> VK -> Prop} {g : D -> Option D}
inductive D where
 | non | bl (b : Bool) | int (i : Int) | str (x : Str) | lst (ds : List D) | tup (ds : List D) | scr (ns : List Int) | exc (c : Str) | dic (ks : List Int) (ds : List D) | dit (ks : List (List Int)) (ds : List D)
def ExcIs (a C : Addr) (h : Heap) : Prop := ∃ o, h.get? a = some o /\ o.cls = .ref C
def kI (n : Int) : Key := Sum.inl n
def kn (a : Addr) (o : Obj) : HO := .ext (fun h => h.get? a = some o)
def hI : Key -> Int
 | .inl k => hashInt k
 | .inr _ => 0
def DtN (o : Obj) (xs : List (List Key × Addr × Value)) : Prop := o.ExactDict /\ (∃ es ep, o.data = .dict es ep /\ es.toList = xs.map fun x => ⟨reduceHash (Builtin.Tuple.tupleHashOf (x.1.map hI)), .ref x.2.1, x.2.2⟩) /\ (xs.map (·.1)).Nodup
structure DtI (G : Hp) (a : Addr) (o : Obj) (xs : List (List Key × Addr × Value)) (ks : List (List Int)) (ys : List (List Key × V)) : Prop where
 sys : (a == sysModules) = false
 dn : DtN o xs
 len : ys.length <= sizeLine
 key : ys.map (·.1) = ks.map (·.map kI)
 kt : Paired (fun (p : List Key × V) (q : List Key × Addr × Value) => p.1 = q.1 /\ G q.2.1 = some (.tup (p.1.map kV)) /\ RelV p.2 q.2.2) ys xs
mutual
def RepD (K : W.Frag) (G : Hp) (v : V) : D -> Prop
 | .non => v = .non
 | .bl b => v = .bl b
 | .int i => v = .int i
 | .str x => v = .str x
 | .lst ds => ∃ a xs, v = .ref a /\ G a = some (.lst xs) /\ RepL K G xs ds
 | .tup ds => ∃ a xs, v = .ref a /\ G a = some (.tup xs) /\ RepL K G xs ds
 | .scr ns => ∃ a, v = .ref a /\ SqL K G a (ns.map V.int)
 | .exc c => ∃ a C, v = .ref a /\ W.nsIn K mainGlobals c = some (some (.ref C)) /\ G a = some (.ext (ExcIs a C))
 | .dic ks ds => ∃ a ys, v = .ref a /\ Rd G a (.dK ys) /\ ys.map (·.1) = ks.map kI /\ RepL K G (ys.map (·.2)) ds
 | .dit ks ds => ∃ a ys o xs, v = .ref a /\ G a = some (kn a o) /\ DtI G a o xs ks ys /\ RepL K G (ys.map (·.2)) ds
def RepL (K : W.Frag) (G : Hp) (xs : List V) : List D -> Prop
 | [] => xs = []
 | d :: ds => ∃ x ys, xs = x :: ys /\ RepD K G x d /\ RepL K G ys ds
end
def Fz (G H : Hp) : Prop := ∀ a o, G a = some o -> H a = some o
theorem DtI.mono {xs : List (List Key × Addr × Value)} {ys : List (List Key × V)} (d : DtI G a o xs ks ys) (h : Fz G G') : DtI G' a o xs ks ys := { d with kt := Paired.mapP d.kt fun _ _ z => ⟨z.1, h _ _ z.2.1, z.2.2⟩ }
theorem Fz.refl (G : Hp) : Fz G G := fun _ _ h => h
theorem Fz.trans {A B C : Hp} (h : Fz A B) (k : Fz B C) : Fz A C := fun a o e => k a o (h a o e)
theorem Fz.free (h : Fz G H) (e : H p = none) : G p = none := by
 cases q : G p with
 | none => rfl
 | some o => rw [h p o q] at e; cases e
theorem Fz.new (e : G p = none) (o : HO) : Fz G (upd G p o) := fun a u q => by
 rw [zam (zaq q e)]; exact q
theorem Fz.upd2 (h : Fz G H) (p : Addr) (o : HO) : Fz (upd G p o) (upd H p o) := fun a u q => by
 by_cases e : a = p
 ·subst e; rw [zar] at q ⊢; exact q
 ·rw [zam e] at q ⊢; exact h a u q
theorem Fz.right (h : Fz G H) (e : G p = none) (o : HO) : Fz G (upd H p o) := fun a u q => by
 rw [zam (zaq q e)]; exact h a u q
theorem Fz.sql {G H : Hp} (h : Fz G H) (q : SqL K G a xs) : SqL K H a xs := Same.seq (H := G) (H' := H) h q
mutual
theorem RepD.mono (h : Fz G G') : ∀ {v : V} {d : D}, RepD K G v d -> RepD K G' v d
 | _, .non, e => e
 | _, .bl _, e => e
 | _, .int _, e => e
 | _, .str _, e => e
 | _, .lst _, ⟨a, xs, e, q, r⟩ => ⟨a, xs, e, h a _ q, RepL.mono h r⟩
 | _, .tup _, ⟨a, xs, e, q, r⟩ => ⟨a, xs, e, h a _ q, RepL.mono h r⟩
 | _, .scr _, ⟨a, e, q⟩ => ⟨a, e, h.sql q⟩
 | _, .exc _, ⟨a, C, e, n, q⟩ => ⟨a, C, e, n, h a _ q⟩
 | _, .dic _ _, ⟨a, ys, e, q, f, r⟩ => ⟨a, ys, e, q.imp (h a _) fun ⟨o, z⟩ => ⟨o, h a _ z⟩, f, RepL.mono h r⟩
 | _, .dit _ _, ⟨a, ys, o, xs, e, q, f, r⟩ => ⟨a, ys, o, xs, e, h a _ q, f.mono h, RepL.mono h r⟩
theorem RepL.mono (h : Fz G G') : ∀ {xs : List V} {ds : List D}, RepL K G xs ds -> RepL K G' xs ds
 | _, [], e => e
 | _, _ :: _, ⟨x, ys, e, q, r⟩ => ⟨x, ys, e, RepD.mono h q, RepL.mono h r⟩
end
section
variable {K : W.Frag} {G : Hp}
theorem RepL.nil : RepL K G [] [] := rfl
theorem RepL.cons {x : V} {d : D} (h : RepD K G x d) (t : RepL K G xs ds) : RepL K G (x :: xs) (d :: ds) := ⟨x, xs, rfl, h, t⟩
theorem RepL.length : ∀ {xs : List V} {ds : List D}, RepL K G xs ds -> xs.length = ds.length
 | _, [], e => by cases e; rfl
 | _, _ :: _, ⟨x, ys, e, _, r⟩ => by subst e; rw [List.length_cons, List.length_cons, RepL.length r]
theorem RepL.get : ∀ {xs : List V} {ds : List D} {i : Nat} {d : D}, RepL K G xs ds -> ds[i]? = some d -> ∃ x, xs[i]? = some x /\ RepD K G x d
 | _, [], _, _, _, h => by simp at h
 | _, _ :: _, 0, _, ⟨x, ys, e, q, r⟩, h => by subst e; simp at h; subst h; exact ⟨x, rfl, q⟩
 | _, _ :: _, i + 1, _, ⟨x, ys, e, q, r⟩, h => by
  subst e
  obtain ⟨y, h1, h2⟩ := RepL.get (i := i) r (by simpa using h)
  exact ⟨y, by simpa using h1, h2⟩
theorem RepL.append : ∀ {xs ys : List V} {ds es : List D}, RepL K G xs ds -> RepL K G ys es -> RepL K G (xs ++ ys) (ds ++ es)
 | _, _, [], _, e, r => by cases e; exact r
 | _, _, _ :: _, _, ⟨x, zs, e, q, r⟩, s => by subst e; exact ⟨x, zs ++ _, rfl, q, RepL.append r s⟩
theorem RepL.snoc (h : RepL K G xs ds) (q : RepD K G x d) : RepL K G (xs ++ [x]) (ds ++ [d]) := h.append (.cons q .nil)
theorem RepL.take : ∀ {xs : List V} {ds : List D} (n : Nat), RepL K G xs ds -> RepL K G (xs.take n) (ds.take n)
 | _, _, 0, _ => by simp; exact .nil
 | _, [], n + 1, e => by cases e; exact .nil
 | _, _ :: _, n + 1, ⟨x, zs, e, q, r⟩ => by subst e; exact ⟨x, zs.take n, rfl, q, RepL.take n r⟩
theorem RepL.drop : ∀ {xs : List V} {ds : List D} (n : Nat), RepL K G xs ds -> RepL K G (xs.drop n) (ds.drop n)
 | _, _, 0, r => by simpa using r
 | _, [], n + 1, e => by cases e; exact .nil
 | _, _ :: _, n + 1, ⟨x, zs, e, q, r⟩ => by subst e; exact RepL.drop n r
theorem RepL.set : ∀ {xs : List V} {ds : List D} (i : Nat) {x : V} {d : D}, RepL K G xs ds -> RepD K G x d -> RepL K G (xs.set i x) (ds.set i d)
 | _, [], _, _, _, e, _ => by cases e; exact .nil
 | _, _ :: _, 0, _, _, ⟨x, zs, e, q, r⟩, h => by subst e; exact ⟨_, zs, rfl, h, r⟩
 | _, _ :: _, i + 1, _, _, ⟨x, zs, e, q, r⟩, h => by subst e; exact ⟨x, _, rfl, q, RepL.set i r h⟩
theorem RepL.rep (h : RepL K G xs ds) : ∀ k : Nat, RepL K G (List.replicate k xs).flatten (List.replicate k ds).flatten
 | 0 => .nil
 | k + 1 => by rw [List.replicate_succ, List.replicate_succ, List.flatten_cons, List.flatten_cons]; exact h.append (RepL.rep h k)
theorem RepL.ints : ∀ (ns : List Int), RepL K G (ns.map V.int) (ns.map D.int)
 | [] => .nil
 | n :: ns => ⟨.int n, ns.map V.int, rfl, rfl, RepL.ints ns⟩
theorem RepL.ints_eq : ∀ {ns : List Int} {xs : List V}, RepL K G xs (ns.map D.int) -> xs = ns.map V.int
 | [], _, e => e
 | n :: ns, _, ⟨x, ys, e, q, r⟩ => by subst e; cases (show x = V.int n from q); rw [RepL.ints_eq r]; rfl
theorem RepL.at {i : Int} (h : RepL K G xs ds) (e : atI ds i = some d) : ∃ x, atI xs i = some x /\ RepD K G x d := by
 unfold atI at e ⊢
 rw [h.length]
 cases q : ixN ds.length i with
 | none => rw [q] at e; cases e
 | some j => rw [q] at e; exact h.get e
end
inductive Ch where
 | d (x : D) | l (xs : List D) | t (xss : List (List D))
inductive T where
 | lst (cs : List Ch) | tup (cs : List Ch) | ins (c : Str) (fs : List (Str × Ch)) | dic (ks : List Int) (ds : List D) | dit (ks : List (List Int)) (ds : List D)
inductive Sl where
 | emp | val (d : D) | own (ds : List D) | par (ds : List D) | two (ds es : List D) | tre (t : T) | ptr (t : T)
abbrev R := List Sl
def Sl.items : Sl -> Option (List D)
 | .own ds => some ds
 | .par ds => some ds
 | _ => none
structure Bs where
 G : Hp
 H : Hp
 O : List (Nat × Addr)
def RepTb (K : W.Frag) (G H : Hp) : List V -> List (List D) -> List Addr -> Prop
 | [], [], A => A = []
 | x :: xs, ds :: dss, A => ∃ r ys A2, x = .ref r /\ H r = some (.lst ys) /\ RepL K G ys ds /\ RepTb K G H xs dss A2 /\ A = r :: A2
 | _, _, _ => False
def RepC (K : W.Frag) (G H : Hp) (x : V) : Ch -> List Addr -> Prop
 | .d y, A => RepD K G x y /\ A = []
 | .l ds, A => ∃ l xs, x = .ref l /\ H l = some (.lst xs) /\ RepL K G xs ds /\ A = [l]
 | .t xss, A => ∃ p xs A', x = .ref p /\ H p = some (.lst xs) /\ RepTb K G H xs xss A' /\ A = p :: A'
def RepCs (K : W.Frag) (G H : Hp) : List V -> List Ch -> List Addr -> Prop
 | [], [], A => A = []
 | x :: xs, c :: cs, A => ∃ A1 A2, RepC K G H x c A1 /\ RepCs K G H xs cs A2 /\ A = A1 ++ A2
 | _, _, _ => False
def RepT (K : W.Frag) (G H : Hp) (v : V) : T -> List Addr -> Prop
 | .lst cs, A => ∃ p xs A', v = .ref p /\ H p = some (.lst xs) /\ RepCs K G H xs cs A' /\ A = p :: A'
 | .tup cs, A => ∃ p xs A', v = .ref p /\ H p = some (.tup xs) /\ RepCs K G H xs cs A' /\ A = p :: A'
 | .ins c fs, A => ∃ p C dx vs A', v = .ref p /\ W.nsIn K mainGlobals c = some (some (.ref C)) /\ H p = some (.ins C dx vs) /\ H dx = some (.own p) /\ vs.map (·.1) = fs.map (·.1) /\ RepCs K G H (vs.map (·.2)) (fs.map (·.2)) A' /\ A = p :: dx :: A'
 | .dic ks ds, A => ∃ p ys, v = .ref p /\ H p = some (.dK ys) /\ ys.map (·.1) = ks.map kI /\ RepL K G (ys.map (·.2)) ds /\ A = [p]
 | .dit ks ds, A => ∃ p ys o xs, v = .ref p /\ H p = some (kn p o) /\ DtI G p o xs ks ys /\ RepL K G (ys.map (·.2)) ds /\ A = [p]
section
variable {K : W.Frag} {G G' H H' : Hp}
theorem RepTb.move : ∀ {xs : List V} {dss : List (List D)} {A : List Addr}, RepTb K G H xs dss A -> Fz G G' -> (∀ a ∈ A, H' a = H a) -> RepTb K G' H' xs dss A
 | [], [], _, h, _, _ => h
 | x :: xs, ds :: dss, A, ⟨r, ys, A2, e1, e2, e3, e4, e5⟩, hg, hh => ⟨r, ys, A2, e1, by rw [hh r (by rw [e5]; simp)]; exact e2, e3.mono hg, e4.move hg fun a m => hh a (by rw [e5]; simp [m]), e5⟩
 | [], _ :: _, _, h, _, _ => h.elim
 | _ :: _, [], _, h, _, _ => h.elim
theorem RepTb.det : ∀ {xs : List V} {dss : List (List D)} {A A' : List Addr}, RepTb K G H xs dss A -> RepTb K G' H' xs dss A' -> A = A'
 | [], [], _, _, h, h' => by rw [show _ = [] from h, show _ = [] from h']
 | x :: xs, ds :: dss, _, _, ⟨r, ys, A2, e1, _, _, e4, e5⟩, ⟨r', ys', A2', e1', _, _, e4', e5'⟩ => by
  rw [e1] at e1'; cases e1'
  rw [e5, e5', e4.det e4']
 | [], _ :: _, _, _, h, _ => h.elim
 | _ :: _, [], _, _, h, _ => h.elim
theorem RepTb.here : ∀ {xs : List V} {dss : List (List D)} {A : List Addr}, RepTb K G H xs dss A -> ∀ {a : Addr}, a ∈ A -> ∃ xs, H a = some (.lst xs)
 | [], [], _, h, a, m => by rw [show _ = [] from h] at m; cases m
 | x :: xs, ds :: dss, _, ⟨r, ys, A2, e1, e2, _, e4, e5⟩, a, m => by
  rw [e5] at m
  rcases List.mem_cons.mp m with rfl | m
  ·exact ⟨ys, e2⟩
  ·exact e4.here m
 | [], _ :: _, _, h, _, _ => h.elim
 | _ :: _, [], _, h, _, _ => h.elim
theorem RepC.move (h : RepC K G H x c A) (hg : Fz G G') (hh : ∀ a ∈ A, H' a = H a) : RepC K G' H' x c A := by
 cases c with
 | d y => exact ⟨h.1.mono hg, h.2⟩
 | l ds => obtain ⟨l, xs, e, q, r, rfl⟩ := h; exact ⟨l, xs, e, by rw [hh l (by simp)]; exact q, r.mono hg, rfl⟩
 | t xss => obtain ⟨p, xs, A', e, q, r, rfl⟩ := h; exact ⟨p, xs, A', e, by rw [hh p (by simp)]; exact q, r.move hg fun a m => hh a (by simp [m]), rfl⟩
theorem RepCs.move : ∀ {xs : List V} {cs : List Ch} {A : List Addr}, RepCs K G H xs cs A -> Fz G G' -> (∀ a ∈ A, H' a = H a) -> RepCs K G' H' xs cs A
 | [], [], _, h, _, _ => h
 | x :: xs, c :: cs, A, ⟨A1, A2, h1, h2, e⟩, hg, hh => ⟨A1, A2, h1.move hg fun a m => hh a (by rw [e]; exact List.mem_append_left _ m), h2.move hg fun a m => hh a (by rw [e]; exact List.mem_append_right _ m), e⟩
 | [], _ :: _, _, h, _, _ => h.elim
 | _ :: _, [], _, h, _, _ => h.elim
theorem RepT.move (h : RepT K G H v t A) (hg : Fz G G') (hh : ∀ a ∈ A, H' a = H a) : RepT K G' H' v t A := by
 cases t with
 | lst cs => obtain ⟨p, xs, A', e, q, r, rfl⟩ := h; exact ⟨p, xs, A', e, by rw [hh p (by simp)]; exact q, r.move hg fun a m => hh a (by simp [m]), rfl⟩
 | tup cs => obtain ⟨p, xs, A', e, q, r, rfl⟩ := h; exact ⟨p, xs, A', e, by rw [hh p (by simp)]; exact q, r.move hg fun a m => hh a (by simp [m]), rfl⟩
 | ins c fs => obtain ⟨p, C, dx, vs, A', e, n, q, q2, f, r, rfl⟩ := h; exact ⟨p, C, dx, vs, A', e, n, by rw [hh p (by simp)]; exact q, by rw [hh dx (by simp)]; exact q2, f, r.move hg fun a m => hh a (by simp [m]), rfl⟩
 | dic ks ds => obtain ⟨p, ys, e, q, f, r, rfl⟩ := h; exact ⟨p, ys, e, by rw [hh p (by simp)]; exact q, f, r.mono hg, rfl⟩
 | dit ks ds => obtain ⟨p, ys, o, xs, e, q, f, r, rfl⟩ := h; exact ⟨p, ys, o, xs, e, by rw [hh p (by simp)]; exact q, f.mono hg, r.mono hg, rfl⟩
theorem RepC.det (h : RepC K G H x c A) (h' : RepC K G' H' x c A') (hh : ∀ a ∈ A, H' a = H a) : A = A' := by
 cases c with
 | d y => rw [h.2, h'.2]
 | l ds => obtain ⟨l, xs, e, _, _, rfl⟩ := h; obtain ⟨l', xs', e', _, _, rfl⟩ := h'; rw [e] at e'; cases e'; rfl
 | t xss =>
  obtain ⟨p, xs, B, e, q, r, rfl⟩ := h; obtain ⟨p', xs', B', e', q', r', rfl⟩ := h'
  rw [e] at e'; cases e'
  rw [hh p (by simp), q] at q'; cases q'
  rw [r.det r']
theorem RepCs.det : ∀ {xs : List V} {cs : List Ch} {A A' : List Addr}, RepCs K G H xs cs A -> RepCs K G' H' xs cs A' -> (∀ a ∈ A, H' a = H a) -> A = A'
 | [], [], _, _, h, h', _ => by rw [show _ = [] from h, show _ = [] from h']
 | x :: xs, c :: cs, _, _, ⟨A1, A2, h1, h2, e⟩, ⟨B1, B2, k1, k2, e'⟩, hh => by rw [e, e', h1.det k1 fun a m => hh a (by rw [e]; exact List.mem_append_left _ m), h2.det k2 fun a m => hh a (by rw [e]; exact List.mem_append_right _ m)]
 | [], _ :: _, _, _, h, _, _ => h.elim
 | _ :: _, [], _, _, h, _, _ => h.elim
theorem RepT.det (h : RepT K G H v t A) (h' : RepT K G' H' v t A') (hh : ∀ a ∈ A, H' a = H a) : A = A' := by
 cases t with
 | lst cs =>
  obtain ⟨p, xs, B, e, q, r, rfl⟩ := h; obtain ⟨p', xs', B', e', q', r', rfl⟩ := h'
  rw [e] at e'; cases e'
  rw [hh p (by simp), q] at q'; cases q'
  rw [r.det r' fun a m => hh a (by simp [m])]
 | tup cs =>
  obtain ⟨p, xs, B, e, q, r, rfl⟩ := h; obtain ⟨p', xs', B', e', q', r', rfl⟩ := h'
  rw [e] at e'; cases e'
  rw [hh p (by simp), q] at q'; cases q'
  rw [r.det r' fun a m => hh a (by simp [m])]
 | ins c fs =>
  obtain ⟨p, C, dx, vs, B, e, n, q, q2, f, r, rfl⟩ := h; obtain ⟨p', C', dx', vs', B', e', n', q', q2', f', r', rfl⟩ := h'
  rw [e] at e'; cases e'
  rw [hh p (by simp), q] at q'; cases q'
  rw [r.det r' fun a m => hh a (by simp [m])]
 | dic ks ds => obtain ⟨p, ys, e, q, f, r, rfl⟩ := h; obtain ⟨p', ys', e', q', f', r', rfl⟩ := h'; rw [e] at e'; cases e'; rfl
 | dit ks ds => obtain ⟨p, ys, o, xs, e, q, f, r, rfl⟩ := h; obtain ⟨p', ys', o', xs', e', q', f', r', rfl⟩ := h'; rw [e] at e'; cases e'; rfl
theorem RepC.here (h : RepC K G H x c A) (m : a ∈ A) : ∃ xs, H a = some (.lst xs) := by
 cases c with
 | d y => rw [h.2] at m; cases m
 | l ds => obtain ⟨l, xs, _, q, _, rfl⟩ := h; simp at m; subst m; exact ⟨xs, q⟩
 | t xss =>
  obtain ⟨p, xs, A', _, q, r, rfl⟩ := h
  rcases List.mem_cons.mp m with rfl | m
  ·exact ⟨xs, q⟩
  ·exact r.here m
theorem RepCs.here : ∀ {xs : List V} {cs : List Ch} {A : List Addr}, RepCs K G H xs cs A -> ∀ {a : Addr}, a ∈ A -> ∃ xs, H a = some (.lst xs)
 | [], [], _, h, a, m => by rw [show _ = [] from h] at m; cases m
 | x :: xs, c :: cs, _, ⟨A1, A2, h1, h2, e⟩, a, m => by
  rw [e] at m
  rcases List.mem_append.mp m with m | m
  ·exact h1.here m
  ·exact h2.here m
 | [], _ :: _, _, h, _, _ => h.elim
 | _ :: _, [], _, h, _, _ => h.elim
theorem RepT.here (h : RepT K G H v t A) (m : a ∈ A) : H a ≠ none := by
 cases t with
 | lst cs =>
  obtain ⟨p, xs, B, e, q, r, rfl⟩ := h
  rcases List.mem_cons.mp m with rfl | m
  ·rw [q]; simp
  ·obtain ⟨ys, z⟩ := r.here m; rw [z]; simp
 | tup cs =>
  obtain ⟨p, xs, B, e, q, r, rfl⟩ := h
  rcases List.mem_cons.mp m with rfl | m
  ·rw [q]; simp
  ·obtain ⟨ys, z⟩ := r.here m; rw [z]; simp
 | ins c fs =>
  obtain ⟨p, C, dx, vs, B, e, n, q, q2, f, r, rfl⟩ := h
  rcases List.mem_cons.mp m with rfl | m
  ·rw [q]; simp
  rcases List.mem_cons.mp m with rfl | m
  ·rw [q2]; simp
  ·obtain ⟨ys, z⟩ := r.here m; rw [z]; simp
 | dic ks ds => obtain ⟨p, ys, e, q, f, r, rfl⟩ := h; simp at m; subst m; rw [q]; simp
 | dit ks ds => obtain ⟨p, ys, o, xs, e, q, f, r, rfl⟩ := h; simp at m; subst m; rw [q]; simp
end
def SlotOk (K : W.Frag) (B : Bs) (G H : Hp) (i : Nat) (ov : Option (Option V)) : Sl -> Prop
 | .emp => True
 | .two _ _ => True
 | .val d => ∃ v, ov = some (some v) /\ RepD K G v d
 | .own ds => ∃ l xs, ov = some (some (.ref l)) /\ G l = none /\ H l = some (.lst xs) /\ RepL K G xs ds /\ B.H l = none
 | .par ds => ∃ l xs, ov = some (some (.ref l)) /\ G l = none /\ H l = some (.lst xs) /\ RepL K G xs ds /\ (i, l) ∈ B.O
 | .tre t => ∃ v A, ov = some (some v) /\ RepT K G H v t A /\ A.Nodup /\ ∀ a ∈ A, G a = none /\ B.H a = none
 | .ptr t => ∃ v A, ov = some (some v) /\ RepT K G H v t A /\ A.Nodup /\ ∀ a ∈ A, G a = none /\ (B.H a = none \/ (i, a) ∈ B.O)
def Wr (ρ : R) (i : Nat) : Prop := ∃ s ds, ρ[i]? = some s /\ s.items = some ds
def OwS (K : W.Frag) (G H : Hp) (ov : Option (Option V)) (a : Addr) : Sl -> Prop
 | .own _ => ov = some (some (.ref a))
 | .par _ => ov = some (some (.ref a))
 | .tre t => ∃ v A, ov = some (some v) /\ RepT K G H v t A /\ a ∈ A
 | .ptr t => ∃ v A, ov = some (some v) /\ RepT K G H v t A /\ a ∈ A
 | _ => False
def Nw (K : W.Frag) (G H : Hp) (σ : St) (ρ : R) (a : Addr) : Prop := ∀ (i : Nat) (s : Sl), ρ[i]? = some s -> ¬ OwS K G H σ[i]? a s
structure SI (K : W.Frag) (B : Bs) (G H : Hp) (σ : St) (ρ : R) : Prop where
 fz : Fz G H
 g0 : Fz B.G G
 new : ∀ b o, G b = some o -> B.G b ≠ none \/ B.H b = none
 keep : ∀ b o, B.H b = some o -> (∀ i, (i, b) ∉ B.O) -> H b = some o
 there : ∀ b, H b = none -> B.H b = none
 len : σ.length = ρ.length
 ob : ∀ i b, (i, b) ∈ B.O -> B.H b ≠ none
 slot : ∀ i s, ρ[i]? = some s -> SlotOk K B G H i σ[i]? s
 dis : ∀ (i j : Nat) (s t : Sl) (a : Addr), i ≠ j -> ρ[i]? = some s -> ρ[j]? = some t -> OwS K G H σ[i]? a s -> ¬ OwS K G H σ[j]? a t
section
variable {K : W.Frag} {B : Bs} {G G' H H' : Hp} {σ : St} {ρ : R}
theorem SlotOk.own (h : SlotOk K B G H i ov s) (w : OwS K G H ov a s) : G a = none /\ H a ≠ none /\ (B.H a = none \/ (i, a) ∈ B.O) := by
 cases s with
 | emp => exact w.elim
 | two _ _ => exact w.elim
 | val d => exact w.elim
 | own ds => obtain ⟨l, xs, e, g, k, r, n⟩ := h; rw [show ov = _ from w] at e; cases e; exact ⟨g, by rw [k]; simp, .inl n⟩
 | par ds => obtain ⟨l, xs, e, g, k, r, n⟩ := h; rw [show ov = _ from w] at e; cases e; exact ⟨g, by rw [k]; simp, .inr n⟩
 | tre t =>
  obtain ⟨v, A, e, r, nd, f⟩ := h
  obtain ⟨v', A', e', r', m⟩ := w
  rw [e] at e'; cases e'
  rw [<- r.det r' fun _ _ => rfl] at m
  exact ⟨(f a m).1, r.here m, .inl (f a m).2⟩
 | ptr t =>
  obtain ⟨v, A, e, r, nd, f⟩ := h
  obtain ⟨v', A', e', r', m⟩ := w
  rw [e] at e'; cases e'
  rw [<- r.det r' fun _ _ => rfl] at m
  exact ⟨(f a m).1, r.here m, (f a m).2⟩
theorem SlotOk.mono (h : SlotOk K B G H i ov s) (hg : Fz G G') (hw : ∀ a, OwS K G H ov a s -> G a = none -> H a ≠ none -> G' a = none /\ H' a = H a) : SlotOk K B G' H' i ov s := by
 have ow := fun a (w : OwS K G H ov a s) => h.own w
 cases s with
 | emp => trivial
 | two _ _ => trivial
 | val d => obtain ⟨v, e, r⟩ := h; exact ⟨v, e, r.mono hg⟩
 | own ds =>
  obtain ⟨l, xs, e, g, k, r, n⟩ := h
  obtain ⟨h1, h2⟩ := hw l e g (by rw [k]; simp)
  exact ⟨l, xs, e, h1, h2.trans k, r.mono hg, n⟩
 | par ds =>
  obtain ⟨l, xs, e, g, k, r, n⟩ := h
  obtain ⟨h1, h2⟩ := hw l e g (by rw [k]; simp)
  exact ⟨l, xs, e, h1, h2.trans k, r.mono hg, n⟩
 | tre t =>
  obtain ⟨v, A, e, r, nd, f⟩ := h
  have w := fun a m => hw a ⟨v, A, e, r, m⟩ (f a m).1 (r.here m)
  exact ⟨v, A, e, r.move hg fun a m => (w a m).2, nd, fun a m => ⟨(w a m).1, (f a m).2⟩⟩
 | ptr t =>
  obtain ⟨v, A, e, r, nd, f⟩ := h
  have w := fun a m => hw a ⟨v, A, e, r, m⟩ (f a m).1 (r.here m)
  exact ⟨v, A, e, r.move hg fun a m => (w a m).2, nd, fun a m => ⟨(w a m).1, (f a m).2⟩⟩
theorem SlotOk.back (h : SlotOk K B G H i ov s) (hw : ∀ a, OwS K G H ov a s -> G a = none -> H a ≠ none -> G' a = none /\ H' a = H a) (w : OwS K G' H' ov a s) : OwS K G H ov a s := by
 cases s with
 | emp => exact w
 | two _ _ => exact w
 | val d => exact w
 | own ds => exact w
 | par ds => exact w
 | tre t =>
  obtain ⟨v, A, e, r, nd, f⟩ := h
  obtain ⟨v', A', e', r', m⟩ := w
  rw [e] at e'; cases e'
  have q := r.det r' fun a m => (hw a ⟨v, A, e, r, m⟩ (f a m).1 (r.here m)).2
  subst q
  exact ⟨v, A, e, r, m⟩
 | ptr t =>
  obtain ⟨v, A, e, r, nd, f⟩ := h
  obtain ⟨v', A', e', r', m⟩ := w
  rw [e] at e'; cases e'
  have q := r.det r' fun a m => (hw a ⟨v, A, e, r, m⟩ (f a m).1 (r.here m)).2
  subst q
  exact ⟨v, A, e, r, m⟩
theorem SI.move (I : SI K B G H σ ρ) (fz : Fz G' H') (fg : Fz G G') (new : ∀ b o, G' b = some o -> B.G b ≠ none \/ B.H b = none) (keep : ∀ b o, B.H b = some o -> (∀ i, (i, b) ∉ B.O) -> H' b = some o) (there : ∀ b, H' b = none -> B.H b = none)
  (ow : ∀ (i : Nat) (s : Sl) (a : Addr), ρ[i]? = some s -> OwS K G H σ[i]? a s -> G a = none -> H a ≠ none -> G' a = none /\ H' a = H a) : SI K B G' H' σ ρ where
 fz := fz
 g0 := I.g0.trans fg
 new := new
 keep := keep
 there := there
 len := I.len
 ob := I.ob
 slot := fun i s e => (I.slot i s e).mono fg fun a w g h => ow i s a e w g h
 dis := fun i j s t a n e1 e2 w1 w2 => I.dis i j s t a n e1 e2 ((I.slot i s e1).back (fun a w g h => ow i s a e1 w g h) w1) ((I.slot j t e2).back (fun a w g h => ow j t a e2 w g h) w2)
theorem SI.chg (I : SI K B G H σ ρ) {ov : Option V} {s' : Sl} (fz : Fz G' H') (fg : Fz G G') (new : ∀ b o, G' b = some o -> B.G b ≠ none \/ B.H b = none) (keep : ∀ b o, B.H b = some o -> (∀ i, (i, b) ∉ B.O) -> H' b = some o) (there : ∀ b, H' b = none -> B.H b = none)
  (ow : ∀ (j : Nat) (s : Sl) (a : Addr), j ≠ i -> ρ[j]? = some s -> OwS K G H σ[j]? a s -> G a = none -> H a ≠ none -> G' a = none /\ H' a = H a /\ ¬ OwS K G' H' (some ov) a s') (sl : SlotOk K B G' H' i (some ov) s') : SI K B G' H' (σ.set i ov) (ρ.set i s') := by
 have atI : ∀ {s}, (ρ.set i s')[i]? = some s -> s = s' /\ (σ.set i ov)[i]? = some ov := fun {s} e => by
  rw [List.getElem?_set, if_pos rfl] at e ⊢
  split at e
  ·rename_i h; cases e; rw [if_pos (by rw [I.len]; exact h)]; exact ⟨rfl, rfl⟩
  ·cases e
 have atJ : ∀ {j s}, j ≠ i -> (ρ.set i s')[j]? = some s -> ρ[j]? = some s /\ (σ.set i ov)[j]? = σ[j]? := fun {j s} n e => by
  rw [List.getElem?_set_ne (Ne.symm n)] at e ⊢
  exact ⟨e, rfl⟩
 refine ⟨fz, I.g0.trans fg, new, keep, there, by rw [List.length_set, List.length_set]; exact I.len, I.ob, fun j s e => ?_, fun j k s t a n e1 e2 w1 w2 => ?_⟩
 ·by_cases z : j = i
  ·subst z; obtain ⟨rfl, q⟩ := atI e; rw [q]; exact sl
  ·obtain ⟨e1, q⟩ := atJ z e
   rw [q]
   exact (I.slot j s e1).mono fg fun a w g h => ⟨(ow j s a z e1 w g h).1, (ow j s a z e1 w g h).2.1⟩
 ·have one : ∀ j s, j ≠ i -> (ρ.set i s')[j]? = some s -> OwS K G' H' (σ.set i ov)[j]? a s -> ρ[j]? = some s /\ OwS K G H σ[j]? a s := fun j s z e w => by
   obtain ⟨e1, q⟩ := atJ z e
   rw [q] at w
   exact ⟨e1, (I.slot j s e1).back (fun a w g h => ⟨(ow j s a z e1 w g h).1, (ow j s a z e1 w g h).2.1⟩) w⟩
  by_cases z1 : j = i
  ·subst z1
   obtain ⟨rfl, q1⟩ := atI e1
   obtain ⟨f2, w2⟩ := one k t (Ne.symm n) e2 w2
   obtain ⟨o1, o2, _⟩ := (I.slot k t f2).own w2
   rw [q1] at w1
   exact (ow k t a (Ne.symm n) f2 w2 o1 o2).2.2 w1
  ·have p1 := one j s z1 e1 w1
   by_cases z2 : k = i
   ·subst z2
    obtain ⟨rfl, q2⟩ := atI e2
    obtain ⟨o1, o2, _⟩ := (I.slot j s p1.1).own p1.2
    rw [q2] at w2
    exact (ow j s a z1 p1.1 p1.2 o1 o2).2.2 w2
   ·have p2 := one k t z2 e2 w2
    exact I.dis j k s t a n p1.1 p2.1 p1.2 p2.2
theorem SI.nw (I : SI K B G H σ ρ) (hp : H p = none) : Nw K G H σ ρ p := fun i s e w => ((I.slot i s e).own w).2.1 hp
theorem SI.nw_move (I : SI K B G H σ ρ) (n : Nw K G H σ ρ p) (ow : ∀ (i : Nat) (s : Sl) (a : Addr), ρ[i]? = some s -> OwS K G H σ[i]? a s -> G a = none -> H a ≠ none -> G' a = none /\ H' a = H a) : Nw K G' H' σ ρ p :=
 fun i s e w => n i s e ((I.slot i s e).back (fun a w g h => ow i s a e w g h) w)
theorem SI.allocF (I : SI K B G H σ ρ) (hp : H p = none) (o : HO) : SI K B (upd G p o) (upd H p o) σ ρ :=
 I.move (I.fz.upd2 p o) (Fz.new (I.fz.free hp) o) (fun b u e => by
  by_cases q : b = p
  ·subst q; exact .inr (I.there b hp)
  ·rw [zam q] at e; exact I.new b u e) (fun b u e n => by
  have q := I.keep b u e n
  rw [zam (zaq q hp)]; exact q) (fun b e => by
  by_cases q : b = p
  ·subst q; rw [zar] at e; cases e
  ·rw [zam q] at e; exact I.there b e) (fun i s a _ _ g h => by
  have q : a ≠ p := fun z => h (by rw [z]; exact hp)
  rw [zam q, zam q]; exact ⟨g, rfl⟩)
theorem SI.allocO (I : SI K B G H σ ρ) (hp : H p = none) (o : HO) : SI K B G (upd H p o) σ ρ :=
 I.move (I.fz.right (I.fz.free hp) o) (Fz.refl G) I.new (fun b u e n => by
  have q := I.keep b u e n
  rw [zam (zaq q hp)]; exact q) (fun b e => by
  by_cases q : b = p
  ·subst q; rw [zar] at e; cases e
  ·rw [zam q] at e; exact I.there b e) (fun i s a _ _ g h => by
  have q : a ≠ p := fun z => h (by rw [z]; exact hp)
  rw [zam q]; exact ⟨g, rfl⟩)
theorem SI.frz (I : SI K B G H σ ρ) {o : HO} (hl : H l = some o) (hB : B.H l = none) (hn : Nw K G H σ ρ l) (hg : G l = none) : SI K B (upd G l o) H σ ρ :=
 I.move (fun a u q => by
  by_cases e : a = l
  ·subst e; rw [zar] at q; cases q; exact hl
  ·rw [zam e] at q; exact I.fz a u q) (Fz.new hg o) (fun b u e => by
  by_cases q : b = l
  ·subst q; exact .inr hB
  ·rw [zam q] at e; exact I.new b u e) I.keep I.there (fun i s a e w g _ => by
  refine ⟨?_, rfl⟩
  rw [zam (fun z => ?_)]
  ·exact g
  ·subst z; exact hn i s e w)
theorem SI.set (I : SI K B G H σ ρ) (h : RepD K G v d) : SI K B G H (σ.set i (some v)) (ρ.set i (.val d)) :=
 I.chg I.fz (Fz.refl G) I.new I.keep I.there (fun _ _ _ _ _ _ g _ => ⟨g, rfl, id⟩) ⟨v, rfl, h⟩
theorem SI.setO (I : SI K B G H σ ρ) (hg : G l = none) (hl : H l = some (.lst xs)) (h : RepL K G xs ds) (hB : B.H l = none) (hn : Nw K G H σ ρ l) :
  SI K B G H (σ.set i (some (.ref l))) (ρ.set i (.own ds)) :=
 I.chg I.fz (Fz.refl G) I.new I.keep I.there (fun j s a _ e w g _ => ⟨g, rfl, fun z => by cases (show some (some (V.ref l)) = some (some (.ref a)) from z); exact hn j s e w⟩) ⟨l, xs, rfl, hg, hl, h, hB⟩
theorem SI.wr (I : SI K B G H σ ρ) (e : ρ[i]? = some s) (q : s.items = some ds) : ∃ l xs, σ[i]? = some (some (.ref l)) /\ G l = none /\ H l = some (.lst xs) /\ RepL K G xs ds := by
 have h := I.slot i s e
 cases s with
 | emp => cases q
 | two _ _ => cases q
 | val d => cases q
 | tre _ => cases q
 | ptr _ => cases q
 | own es => cases q; obtain ⟨l, xs, h1, h2, h3, h4, _⟩ := h; exact ⟨l, xs, h1, h2, h3, h4⟩
 | par es => cases q; obtain ⟨l, xs, h1, h2, h3, h4, _⟩ := h; exact ⟨l, xs, h1, h2, h3, h4⟩
def Sl.put (s : Sl) (ds : List D) : Sl := match s with
 | .own _ => .own ds
 | .par _ => .par ds
 | s => s
theorem zaT (q : s.items = some ds) : OwS K G H ov a s ↔ ov = some (some (.ref a)) := by
 cases s with
 | own _ => exact Iff.rfl
 | par _ => exact Iff.rfl
 | _ => cases q
theorem ze5 (q : s.items = some ds) (es : List D) : (s.put es).items = some es := by
 cases s with
 | own _ => rfl
 | par _ => rfl
 | _ => cases q
theorem zgp {α : Type} {l : List α} {x : α} (e : l[i]? = some x) : l.set i x = l := by
 obtain ⟨h, rfl⟩ := List.getElem?_eq_some_iff.mp e
 exact List.set_getElem_self h
theorem SI.chgW (I : SI K B G H σ ρ) {i : Nat} (e : ρ[i]? = some s) (q : s.items = some ds) (hl : σ[i]? = some (some (.ref l))) (fz : Fz G' H') (fg : Fz G G') (nw : ∀ b o, G' b = some o -> G b ≠ none \/ H b = none)
  (kp : ∀ b o, b ≠ l -> H b = some o -> H' b = some o) (gl : G' l = none) (hl' : H' l = some (.lst ys)) (r : RepL K G' ys es) : SI K B G' H' σ (ρ.set i (s.put es)) := by
 obtain ⟨l', xs, e1, e2, e3, e4⟩ := I.wr e q
 rw [hl] at e1; cases e1
 have sl := I.slot i s e
 have nb : ∀ b o, B.H b = some o -> (∀ i, (i, b) ∉ B.O) -> b ≠ l := fun b o h1 h2 z => by
  subst z
  rcases (sl.own ((zaT q).mpr hl)).2.2 with z | z
  ·rw [h1] at z; cases z
  ·exact h2 i z
 have h := I.chg (i := i) (ov := some (.ref l)) (s' := s.put es) (G' := G') (H' := H') fz fg (fun b o k => ?_) (fun b o k1 k2 => kp b o (nb b o k1 k2) (I.keep b o k1 k2)) (fun b k => ?_) (fun j t a z ej w g ha => ?_) ?_
 ·rwa [zgp hl] at h
 ·rcases nw b o k with h | h
  ·cases q2 : G b with
   | none => exact absurd q2 h
   | some u => exact I.new b u q2
  ·exact .inr (I.there b h)
 ·refine I.there b ?_
  cases q2 : H b with
  | none => rfl
  | some u =>
   by_cases z : b = l
   ·subst z; rw [hl'] at k; cases k
   ·rw [kp b u z q2] at k; cases k
 ·have na : a ≠ l := fun w' => by subst w'; exact I.dis j i t s a z ej e w ((zaT q).mpr hl)
  obtain ⟨u, hu⟩ := Option.ne_none_iff_exists'.mp ha
  refine ⟨?_, (kp a u na hu).trans hu.symm, fun z => na ?_⟩
  ·cases q2 : G' a with
   | none => rfl
   | some u =>
    rcases nw a u q2 with z | z
    ·exact absurd g z
    ·exact absurd z ha
  ·cases (zaT (ze5 q es)).mp z; rfl
 ·cases s with
  | own es' => obtain ⟨l', xs', k1, k2, k3, k4, k5⟩ := sl; rw [hl] at k1; cases k1; exact ⟨_, ys, rfl, gl, hl', r, k5⟩
  | par es' => obtain ⟨l', xs', k1, k2, k3, k4, k5⟩ := sl; rw [hl] at k1; cases k1; exact ⟨_, ys, rfl, gl, hl', r, k5⟩
  | _ => cases q
theorem SI.write (I : SI K B G H σ ρ) (e : ρ[i]? = some s) (q : s.items = some ds) (hl : σ[i]? = some (some (.ref l))) (h : RepL K G ys es) :
  SI K B G (upd H l (.lst ys)) σ (ρ.set i (s.put es)) := by
 obtain ⟨l', xs, e1, e2, e3, e4⟩ := I.wr e q
 rw [hl] at e1; cases e1
 exact I.chgW e q hl (I.fz.right e2 _) (Fz.refl G) (fun b o k => .inl (by rw [k]; simp)) (fun b o z k => by rw [zam z]; exact k) e2 zar h
theorem SI.freeze (I : SI K B G H σ ρ) {i : Nat} (e : ρ[i]? = some (.own ds)) : ∃ l xs, σ[i]? = some (some (.ref l)) /\ Fz G (upd G l (.lst xs)) /\ RepD K (upd G l (.lst xs)) (.ref l) (.lst ds) /\
  SI K B (upd G l (.lst xs)) H σ (ρ.set i (.val (.lst ds))) := by
 obtain ⟨l, xs, h1, h2, h3, h4, h5⟩ := I.slot i _ e
 have fz := Fz.new h2 (.lst xs)
 have rep : RepD K (upd G l (.lst xs)) (.ref l) (.lst ds) := ⟨l, xs, rfl, zar, h4.mono fz⟩
 refine ⟨l, xs, h1, fz, rep, ?_⟩
 have h := I.chg (i := i) (ov := some (.ref l)) (s' := .val (.lst ds)) (G' := upd G l (.lst xs)) (H' := H) (fun a u q => ?_) fz (fun b u q => ?_) I.keep I.there (fun j t a z ej w g _ => ⟨?_, rfl, id⟩) ⟨.ref l, rfl, rep⟩
 ·rwa [zgp h1] at h
 ·by_cases z : a = l
  ·subst z; rw [zar] at q; cases q; exact h3
  ·rw [zam z] at q; exact I.fz a u q
 ·by_cases z : b = l
  ·subst z; exact .inr h5
  ·rw [zam z] at q; exact I.new b u q
 ·rw [zam (fun q => by subst q; exact I.dis j i t _ a z ej e w h1)]; exact g
end
abbrev ME := R -> Option (D × R)
abbrev MO := R -> Option (List D × R)
abbrev MT := R -> Option (Bool × R)
abbrev MA := R -> Option (List D × R)
def SE (X : Cx) (e : Expr) (m : ME) : Prop :=
 ∃ t, PE X e t /\ ∀ B G H σ ρ d ρ' (Q : VK), SI X.K B G H σ ρ -> m ρ = some (d, ρ') -> (∀ G' H' v, SI X.K B G' H' σ ρ' -> Fz G G' -> RepD X.K G' v d -> Q v H') -> t σ H Q
def SO (X : Cx) (e : Expr) (m : MO) : Prop :=
 ∃ t, PE X e t /\ ∀ B G H σ ρ ds ρ' (Q : VK), SI X.K B G H σ ρ -> m ρ = some (ds, ρ') ->
  (∀ G' H' l xs, SI X.K B G' H' σ ρ' -> Fz G G' -> G' l = none -> H' l = some (.lst xs) -> RepL X.K G' xs ds -> B.H l = none -> Nw X.K G' H' σ ρ' l -> Q (.ref l) H') -> t σ H Q
def STt (X : Cx) (e : Expr) (m : MT) : Prop :=
 ∃ t, PT X e t /\ ∀ B G H σ ρ d ρ' (Q : Bool -> Hp -> Prop), SI X.K B G H σ ρ -> m ρ = some (d, ρ') -> (∀ G' H', SI X.K B G' H' σ ρ' -> Fz G G' -> Q d H') -> t σ H Q
def SA (X : Cx) (es : List Expr) (m : MA) : Prop :=
 ∃ t, PA X es t /\ ∀ B G H σ ρ ds ρ' (Q : List V -> Hp -> Prop), SI X.K B G H σ ρ -> m ρ = some (ds, ρ') -> (∀ G' H' vs, SI X.K B G' H' σ ρ' -> Fz G G' -> RepL X.K G' vs ds -> Q vs H') -> t σ H Q
theorem zjJ {B : Bs} {σ : St} (I : SI K B G H σ ρ) (hg : G l = none) (hl : H l = some (.lst xs)) (h : RepL K G xs ds) (hB : B.H l = none) (hn : Nw K G H σ ρ l) :
  SI K B (upd G l (.lst xs)) H σ ρ /\ Fz G (upd G l (.lst xs)) /\ RepD K (upd G l (.lst xs)) (.ref l) (.lst ds) :=
 ⟨I.frz hl hB hn hg, Fz.new hg _, ⟨l, xs, rfl, zar, h.mono (Fz.new hg _)⟩⟩
def eFz (m : MO) : ME := fun ρ => (m ρ).map fun p => (.lst p.1, p.2)
theorem SO.se {X : Cx} {m : MO} (h : SO X e m) : SE X e (eFz m) := by
 obtain ⟨t, p, s⟩ := h
 refine ⟨t, p, fun B G H σ ρ d ρ' Q I hm k => ?_⟩
 unfold eFz at hm
 cases q : m ρ with
 | none => rw [q] at hm; cases hm
 | some r =>
  obtain ⟨ds, ρ1⟩ := r
  rw [q] at hm
  cases hm
  refine s B G H σ ρ ds _ Q I q fun G' H' l xs I' fz hg hl hr hB hn => ?_
  obtain ⟨I2, f2, r2⟩ := zjJ I' hg hl hr hB hn
  exact k _ _ _ I2 (fz.trans f2) r2
def eC (d : D) : ME := fun ρ => some (d, ρ)
def eVar (i : Nat) : ME := fun ρ => match ρ[i]? with
 | some (.val d) => some (d, ρ)
 | some (.own ds) => some (.lst ds, ρ.set i (.val (.lst ds)))
 | _ => none
section
variable {X : Cx} {pos : Pos}
theorem zab (i : Nat) {x : Str} (hN : X.N[i]? = some x := by rfl) (hv : Vis X.env.scope x := by first | exact Or.inl rfl | exact Or.inr (Or.inl rfl) | exact Or.inr (Or.inr rfl)) (hd : (x == ("__debug__" : Str)) = false := by decide)
  (hcd : (x == ("__classdict__" : Str)) = false := by decide) : SE X (.Name x pos) (eVar i) := by
 refine ⟨_, zbw hN hv hd hcd, fun B G H σ ρ d ρ' Q I hm k => ?_⟩
 unfold eVar at hm
 cases e : ρ[i]? with
 | none => rw [e] at hm; cases hm
 | some s =>
  rw [e] at hm
  cases s with
  | emp => cases hm
  | two _ _ => cases hm
  | tre _ => cases hm
  | ptr _ => cases hm
  | par ds => cases hm
  | val d' =>
   cases hm
   obtain ⟨v, h1, h2⟩ := I.slot i _ e
   exact ⟨v, h1, k G H v I (Fz.refl G) h2⟩
  | own ds =>
   cases hm
   obtain ⟨l, xs, h1, f, r, I'⟩ := I.freeze e
   exact ⟨.ref l, h1, k _ H _ I' f r⟩
theorem zah {i : Int} {j} : SE X (.Constant (.int i) j pos) (eC (.int i)) := ⟨_, pe_int, fun B G H σ ρ d ρ' Q I hm k => by cases hm; exact k G H _ I (Fz.refl G) rfl⟩
theorem ze8 {j} : SE X (.Constant (.bool b) j pos) (eC (.bl b)) := ⟨_, pe_bl, fun B G H σ ρ d ρ' Q I hm k => by cases hm; exact k G H _ I (Fz.refl G) rfl⟩
theorem zgq {j} : SE X (.Constant .none j pos) (eC .non) := ⟨_, pe_non, fun B G H σ ρ d ρ' Q I hm k => by cases hm; exact k G H _ I (Fz.refl G) rfl⟩
theorem zho {x : Str} {j} : SE X (.Constant (.str x) j pos) (eC (.str x)) := ⟨_, pe_str, fun B G H σ ρ d ρ' Q I hm k => by cases hm; exact k G H _ I (Fz.refl G) rfl⟩
end
def aNil : MA := fun ρ => some ([], ρ)
def zaf (m : ME) (r : MA) : MA := fun ρ => (m ρ).bind fun p => (r p.2).map fun q => (p.1 :: q.1, q.2)
section
variable {X : Cx} {e : Expr} {es : List Expr} {m : ME} {r : MA}
theorem zag : SA X [] aNil := ⟨_, zgj, fun B G H σ ρ ds ρ' Q I hm k => by cases hm; exact k G H [] I (Fz.refl G) .nil⟩
theorem zaa (h : SE X e m) (hr : SA X es r) (hs : starEach (e :: es) X.env = (false, eval e X.env) :: starEach es X.env := by rfl) : SA X (e :: es) (zaf m r) := by
 obtain ⟨t, p, s⟩ := h
 obtain ⟨u, q, z⟩ := hr
 refine ⟨_, zdh p q hs, fun B G H σ ρ ds ρ' Q I hm k => ?_⟩
 unfold zaf at hm
 cases e1 : m ρ with
 | none => rw [e1] at hm; cases hm
 | some a =>
  obtain ⟨d, ρ1⟩ := a
  rw [e1] at hm
  cases e2 : r ρ1 with
  | none => simp [e2] at hm
  | some b =>
   obtain ⟨es', ρ2⟩ := b
   simp only [Option.bind_some, e2, Option.map_some, Option.some.injEq, Prod.mk.injEq] at hm
   obtain ⟨rfl, rfl⟩ := hm
   exact s B G H σ ρ d ρ1 _ I e1 fun G1 H1 v I1 f1 r1 => z B G1 H1 σ ρ1 es' ρ2 _ I1 e2 fun G2 H2 vs I2 f2 r2 => k G2 H2 (v :: vs) I2 (f1.trans f2) (.cons (r1.mono f2) r2)
end
def V2 (X : Cx) (r : R2) (f : D -> D -> Option D) : Prop := ∀ B G H σ ρ x y a b d (Q : VK), SI X.K B G H σ ρ -> RepD X.K G x a -> RepD X.K G y b -> f a b = some d -> (∀ G' H' v, SI X.K B G' H' σ ρ -> Fz G G' -> RepD X.K G' v d -> Q v H') -> r x y H Q
def V1 (X : Cx) (r : V -> Hp -> VK -> Prop) (f : D -> Option D) : Prop := ∀ B G H σ ρ x a d (Q : VK), SI X.K B G H σ ρ -> RepD X.K G x a -> f a = some d -> (∀ G' H' v, SI X.K B G' H' σ ρ -> Fz G G' -> RepD X.K G' v d -> Q v H') -> r x H Q
def VC (X : Cx) (r : List V -> Hp -> VK -> Prop) (f : List D -> Option D) : Prop := ∀ B G H σ ρ xs ds d (Q : VK), SI X.K B G H σ ρ -> RepL X.K G xs ds -> f ds = some d -> (∀ G' H' v, SI X.K B G' H' σ ρ -> Fz G G' -> RepD X.K G' v d -> Q v H') -> r xs H Q
def m2 (f : D -> D -> Option D) (ma mb : ME) : ME := fun ρ => (ma ρ).bind fun p => (mb p.2).bind fun q => (f p.1 q.1).map fun d => (d, q.2)
def m1 (f : D -> Option D) (ma : ME) : ME := fun ρ => (ma ρ).bind fun p => (f p.1).map fun d => (d, p.2)
def mC (f : List D -> Option D) (ma : MA) : ME := fun ρ => (ma ρ).bind fun p => (f p.1).map fun d => (d, p.2)
theorem m2_inv {ma mb : ME} (h : m2 f ma mb ρ = some (d, ρ')) : ∃ a ρ1 b, ma ρ = some (a, ρ1) /\ mb ρ1 = some (b, ρ') /\ f a b = some d := by
 unfold m2 at h
 cases e1 : ma ρ with
 | none => rw [e1] at h; cases h
 | some p =>
  obtain ⟨a, ρ1⟩ := p
  rw [e1] at h
  cases e2 : mb ρ1 with
  | none => simp [e2] at h
  | some q =>
   obtain ⟨b, ρ2⟩ := q
   simp only [Option.bind_some, e2] at h
   cases e3 : f a b with
   | none => rw [e3] at h; cases h
   | some c => rw [e3] at h; cases h; exact ⟨a, ρ1, b, rfl, e2, e3⟩
theorem m1_inv {f : D -> Option D} (h : m1 f ma ρ = some (d, ρ')) : ∃ a, ma ρ = some (a, ρ') /\ f a = some d := by
 unfold m1 at h
 cases e1 : ma ρ with
 | none => rw [e1] at h; cases h
 | some p =>
  obtain ⟨a, ρ1⟩ := p
  rw [e1] at h
  simp only [Option.bind_some] at h
  cases e3 : f a with
  | none => rw [e3] at h; cases h
  | some c => rw [e3] at h; cases h; exact ⟨a, rfl, e3⟩
theorem mC_inv {f : List D -> Option D} {ma : MA} (h : mC f ma ρ = some (d, ρ')) : ∃ a, ma ρ = some (a, ρ') /\ f a = some d := by
 unfold mC at h
 cases e1 : ma ρ with
 | none => rw [e1] at h; cases h
 | some p =>
  obtain ⟨a, ρ1⟩ := p
  rw [e1] at h
  simp only [Option.bind_some] at h
  cases e3 : f a with
  | none => rw [e3] at h; cases h
  | some c => rw [e3] at h; cases h; exact ⟨a, rfl, e3⟩
section
variable {X : Cx} {a b : Expr} {ma mb : ME} {pos : Pos} {f : D -> D -> Option D}
theorem zjr {r : R2} {ta tb : TE} (hv : V2 X r f)
  (sa : ∀ B G H σ ρ d ρ' (Q : VK), SI X.K B G H σ ρ -> ma ρ = some (d, ρ') -> (∀ G' H' v, SI X.K B G' H' σ ρ' -> Fz G G' -> RepD X.K G' v d -> Q v H') -> ta σ H Q)
  (sb : ∀ B G H σ ρ d ρ' (Q : VK), SI X.K B G H σ ρ -> mb ρ = some (d, ρ') -> (∀ G' H' v, SI X.K B G' H' σ ρ' -> Fz G G' -> RepD X.K G' v d -> Q v H') -> tb σ H Q) :
  ∀ B G H σ ρ d ρ' (Q : VK), SI X.K B G H σ ρ -> m2 f ma mb ρ = some (d, ρ') -> (∀ G' H' v, SI X.K B G' H' σ ρ' -> Fz G G' -> RepD X.K G' v d -> Q v H') -> tOp r ta tb σ H Q := by
 intro B G H σ ρ d ρ' Q I hm k
 obtain ⟨x, ρ1, y, e1, e2, e3⟩ := m2_inv hm
 exact sa B G H σ ρ x ρ1 _ I e1 fun G1 H1 v I1 f1 r1 => sb B G1 H1 σ ρ1 y ρ' _ I1 e2 fun G2 H2 u I2 f2 r2 =>
  hv B G2 H2 σ ρ' v u x y d Q I2 (r1.mono f2) r2 e3 fun G3 H3 z I3 f3 r3 => k G3 H3 z I3 (f1.trans (f2.trans f3)) r3
theorem zkb {r : R2} (ho : OpR X (binaryOp op) r) (hv : V2 X r f) (ha : SE X a ma) (hb : SE X b mb) : SE X (.BinOp a op b pos) (m2 f ma mb) := by
 obtain ⟨ta, pa, sa⟩ := ha
 obtain ⟨tb, pb, sb⟩ := hb
 exact ⟨_, pe_op ho pa pb, zjr hv sa sb⟩
theorem zlw {op : CmpOp} {r : R2} (ho : OpR X (compareOp op) r) (hv : V2 X r f) (ha : SE X a ma) (hb : SE X b mb) (hm : behindInMarks op b = false) : SE X (.Compare a [op] [b] pos) (m2 f ma mb) := by
 obtain ⟨ta, pa, sa⟩ := ha
 obtain ⟨tb, pb, sb⟩ := hb
 exact ⟨_, pe_cmpR ho pa pb hm, zjr hv sa sb⟩
theorem se_un {op : UnaryOp} (ho : UnR X (unaryOp op) r) (hv : V1 X r g) (ha : SE X a ma) : SE X (.UnaryOp op a pos) (m1 g ma) := by
 obtain ⟨ta, pa, sa⟩ := ha
 refine ⟨_, pe_un ho pa, fun B G H σ ρ d ρ' Q I hm k => ?_⟩
 obtain ⟨x, e1, e2⟩ := m1_inv hm
 exact sa B G H σ ρ x ρ' _ I e1 fun G1 H1 v I1 f1 r1 => hv B G1 H1 σ ρ' v x d Q I1 r1 e2 fun G2 H2 z I2 f2 r2 => k G2 H2 z I2 (f1.trans f2) r2
theorem se_ix {r : R2} (hr : IxR X r) (hv : V2 X r f) (ha : SE X a ma) (hb : SE X b mb) (hs : zdX b) : SE X (.Subscript a b pos) (m2 f ma mb) := by
 obtain ⟨ta, pa, sa⟩ := ha
 obtain ⟨tb, pb, sb⟩ := hb
 exact ⟨_, zkA hr pa pb hs, zjr hv sa sb⟩
end
section
variable {X : Cx} {x : Str} {p pos : Pos} {e : Expr} {es : List Expr} {ma : MA} {id T : String} {r : List V -> Hp -> VK -> Prop} {f : List D -> Option D}
theorem soundC {t : TA} (hv : VC X r f) (sa : ∀ B G H σ ρ ds ρ' (Q : List V -> Hp -> Prop), SI X.K B G H σ ρ -> ma ρ = some (ds, ρ') -> (∀ G' H' vs, SI X.K B G' H' σ ρ' -> Fz G G' -> RepL X.K G' vs ds -> Q vs H') -> t σ H Q) :
  ∀ B G H σ ρ d ρ' (Q : VK), SI X.K B G H σ ρ -> mC f ma ρ = some (d, ρ') -> (∀ G' H' v, SI X.K B G' H' σ ρ' -> Fz G G' -> RepD X.K G' v d -> Q v H') -> tCB r t σ H Q := by
 intro B G H σ ρ d ρ' Q I hm k
 obtain ⟨ds, e1, e2⟩ := mC_inv hm
 exact sa B G H σ ρ ds ρ' _ I e1 fun G1 H1 vs I1 f1 r1 => hv B G1 H1 σ ρ' vs ds d Q I1 r1 e2 fun G2 H2 z I2 f2 r2 => k G2 H2 z I2 (f1.trans f2) r2
theorem zfe (hc : zgb X (.builtin id) r) (hv : VC X r f) (hb : bootBuiltins x = some (.builtin id)) (hm : X.mg x = none) (ha : SA X (e :: es) ma) (hg : Gl X x := by rfl) (hn : x ≠ "__name__" := by decide) (hdb : (x == ("__debug__" : Str)) = false := by decide)
  (he : starEach (e :: es) X.env = (false, eval e X.env) :: starEach es X.env := by rfl) (hpl : (backTo pos (starEach es X.env)).any (·.1) = false := by rfl) : SE X (.Call (.Name x p) (e :: es) [] pos) (mC f ma) := by
 obtain ⟨t, pa, sa⟩ := ha
 exact ⟨_, zjm hc hg hm hb pa hn hdb he hpl, soundC hv sa⟩
theorem zlK (hc : zgb X (.type T) r) (hv : VC X r f) (hb : bootBuiltins x = some (.type T)) (hm : X.mg x = none) (ha : SA X (e :: es) ma) (hg : Gl X x := by rfl) (hn : x ≠ "__name__" := by decide) (hdb : (x == ("__debug__" : Str)) = false := by decide)
  (he : starEach (e :: es) X.env = (false, eval e X.env) :: starEach es X.env := by rfl) (hpl : (backTo pos (starEach es X.env)).any (·.1) = false := by rfl) : SE X (.Call (.Name x p) (e :: es) [] pos) (mC f ma) := by
 obtain ⟨t, pa, sa⟩ := ha
 exact ⟨_, zgW hc hg hm hb pa hn hdb he hpl, soundC hv sa⟩
end
end M
namespace M
open L2 PySem PySem.Spec
open PyProof.Rows hiding St
variable {v : V} {ds cs out : List D} {p c l : Addr} {xs vs ys : List V} {X : Cx} {C : Int -> Int -> Prop} {g : D -> R -> Option R} {a b e : Expr} {ma : MA} {pos pos' : Pos} {k i j n t : Nat} {mb : ME} {K : W.Frag} {G H H' G' : Hp} {us its : List Value} {u : Value} {d : D} {B : Bs} {σ σc : St} {ρ : R} {s : Sl} {x qual : Str} {Q E : Value -> Shared -> Prop} {op op' : CmpOp} {f : D -> D -> Option D} {m : MS} {mc : MT} {es ifs : List Expr} {h : List D -> R -> Option R} {body : List Stmt} {N ps : List Str} {fd : FuncData} {env : Env} {scope : Scope} {A : Around} {cl : List (Str × Addr)} {h' : Heap} {prog : Program} {w : World} {use : Option (Value -> Sem Unit)} {ov : Option (Option V)} {cap : List Nat} {wi : TI} {tg' : Addr -> Shared -> Hp -> List Addr -> TG} {tt : Addr -> Shared -> Hp -> List Addr -> TT} {te : Addr -> Shared -> Hp -> List Addr -> TE} {ns : List Int}
section
variable {X : Cx} {K : W.Frag} {B : Bs} {G H : Hp} {σ : St} {ρ : R}
theorem SI.lst (I : SI K B G H σ ρ) (h : RepD K G v (.lst ds)) : ∃ a xs, v = .ref a /\ H a = some (.lst xs) /\ RepL K G xs ds := by
 obtain ⟨a, xs, e, q, r⟩ := h
 exact ⟨a, xs, e, I.fz a _ q, r⟩
theorem SI.tup (I : SI K B G H σ ρ) (h : RepD K G v (.tup ds)) : ∃ a xs, v = .ref a /\ H a = some (.tup xs) /\ RepL K G xs ds := by
 obtain ⟨a, xs, e, q, r⟩ := h
 exact ⟨a, xs, e, I.fz a _ q, r⟩
theorem SI.newT (I : SI K B G H σ ρ) (hp : H p = none) (h : RepL K G xs ds) : SI K B (upd G p (.tup xs)) (upd H p (.tup xs)) σ ρ /\ Fz G (upd G p (.tup xs)) /\ RepD K (upd G p (.tup xs)) (.ref p) (.tup ds) :=
 ⟨I.allocF hp _, Fz.new (I.fz.free hp) _, ⟨p, xs, rfl, zar, h.mono (Fz.new (I.fz.free hp) _)⟩⟩
theorem SI.newL (I : SI K B G H σ ρ) (hp : H p = none) (h : RepL K G xs ds) : SI K B (upd G p (.lst xs)) (upd H p (.lst xs)) σ ρ /\ Fz G (upd G p (.lst xs)) /\ RepD K (upd G p (.lst xs)) (.ref p) (.lst ds) :=
 ⟨I.allocF hp _, Fz.new (I.fz.free hp) _, ⟨p, xs, rfl, zar, h.mono (Fz.new (I.fz.free hp) _)⟩⟩
end
def dI2 (c : Int -> Int -> Bool) (g : Int -> Int -> D) : D -> D -> Option D
 | .int i, .int j => if c i j then some (g i j) else none
 | _, _ => none
theorem zk7 {c : Int -> Int -> Bool} {g : Int -> Int -> Int} (hc : ∀ i j, c i j = true -> C i j) : V2 X (rI C fun i j => .int (g i j)) (dI2 c fun i j => .int (g i j)) := by
 intro B G H σ ρ x y a b d Q I ra rb hf k
 cases a <;> cases b <;> simp only [dI2] at hf <;> try cases hf
 rename_i i j
 split at hf
 ·rename_i h
  cases hf
  exact ⟨i, j, ra, rb, hc i j h, k G H _ I (Fz.refl G) rfl⟩
 ·cases hf
theorem v2_int0 {g : Int -> Int -> Int} : V2 X (rI0 fun i j => .int (g i j)) (dI2 (fun _ _ => true) fun i j => .int (g i j)) := by
 intro B G H σ ρ x y a b d Q I ra rb hf k
 cases a <;> cases b <;> simp only [dI2] at hf <;> try cases hf
 rename_i i j
 exact ⟨i, j, ra, rb, k G H _ I (Fz.refl G) rfl⟩
theorem zcJ {g : Int -> Int -> Bool} : V2 X (rI0 fun i j => .bl (g i j)) (dI2 (fun _ _ => true) fun i j => .bl (g i j)) := by
 intro B G H σ ρ x y a b d Q I ra rb hf k
 cases a <;> cases b <;> simp only [dI2] at hf <;> try cases hf
 rename_i i j
 exact ⟨i, j, ra, rb, k G H _ I (Fz.refl G) rfl⟩
def dSub : D -> D -> Option D := dI2 (fun _ _ => true) fun i j => .int (i - j)
def divOk (j : Int) : Bool := decide (0 < j) && decide (j.natAbs.log2 < 9000)
theorem op_fdivW : OpR X (binaryOp .FloorDiv) (rI (fun _ j => 0 < j /\ j.natAbs.log2 < 9000) fun i j => .int (i / j)) := opI fun i j _ _ _ _ _ hc q => by
 have h1 : (0 : Int) < j := hc.1
 exact PyProof.Rows.floordiv_int (by omega) (by rw [Int.fdiv_eq_ediv_of_nonneg i (by omega)]; exact q) (.inl (PyProof.noPylong_of_log2 hc.2))
def dDiv : D -> D -> Option D := dI2 (fun _ j => divOk j) fun i j => .int (i / j)
def dMod : D -> D -> Option D := dI2 (fun _ j => decide (0 < j)) fun i j => .int (i % j)
def dPow : D -> D -> Option D := dI2 (fun i j => decide (0 <= j) && decide (j <= 1000000) && decide (i.natAbs < 2 ^ 64)) fun i j => .int (i ^ j.toNat)
def dLt : D -> D -> Option D := dI2 (fun _ _ => true) fun i j => .bl (decide (i < j))
def dLe : D -> D -> Option D := dI2 (fun _ _ => true) fun i j => .bl (decide (i <= j))
def dGt : D -> D -> Option D := dI2 (fun _ _ => true) fun i j => .bl (decide (j < i))
def dGe : D -> D -> Option D := dI2 (fun _ _ => true) fun i j => .bl (decide (j <= i))
section
variable {X : Cx} {a b : Expr} {ma mb : ME} {pos : Pos}
theorem zbm (ha : SE X a ma) (hb : SE X b mb) : SE X (.BinOp a .Sub b pos) (m2 dSub ma mb) := zkb op_sub v2_int0 ha hb
theorem se_div (ha : SE X a ma) (hb : SE X b mb) : SE X (.BinOp a .FloorDiv b pos) (m2 dDiv ma mb) := zkb op_fdivW (zk7 fun i j h => by simpa [divOk] using h) ha hb
theorem zec (ha : SE X a ma) (hb : SE X b mb) : SE X (.BinOp a .Mod b pos) (m2 dMod ma mb) := zkb op_mod (zk7 fun i j h => by simpa using h) ha hb
theorem zhm (ha : SE X a ma) (hb : SE X b mb) : SE X (.BinOp a .Pow b pos) (m2 dPow ma mb) := zkb op_pow (zk7 fun i j h => by simp only [Bool.and_eq_true, decide_eq_true_eq] at h; exact ⟨h.1.1, h.1.2, h.2⟩) ha hb
theorem se_gt (ha : SE X a ma) (hb : SE X b mb) : SE X (.Compare a [.Gt] [b] pos) (m2 dGt ma mb) := zlw op_gt zcJ ha hb (zfU _)
end
def dNeg : D -> Option D
 | .int i => some (.int (-i))
 | _ => none
theorem zf1 {ma : ME} (ha : SE X a ma) : SE X (.UnaryOp .USub a pos) (m1 dNeg ma) :=
 se_un un_neg (fun B G H σ ρ x a d Q I ra hf k => by
  cases a <;> simp only [dNeg] at hf <;> try cases hf
  exact ⟨_, ra, k G H _ I (Fz.refl G) rfl⟩) ha
def zhW (i j : Int) : Bool := (decide (i.natAbs < 2 ^ 64) || decide (j.natAbs < 2 ^ 64)) || (decide (i.natAbs < 2 ^ 4000) && decide (j.natAbs < 2 ^ 4000))
def dMul : D -> D -> Option D
 | .int i, .int j => if zhW i j then some (.int (i * j)) else none
 | .lst ds, .int k => if decide (-1000000 <= k) && decide (k <= 1000000) && decide (ds.length * k.toNat <= 1000000) then some (.lst (List.replicate k.toNat ds).flatten) else none
 | _, _ => none
theorem zhg {k : Int} (h : k.natAbs < 2 ^ 4000) : Builtin.Int.intBits k <= 4000 := by
 unfold Builtin.Int.intBits
 split
 ·exact Nat.zero_le _
 ·have : k.natAbs.log2 < 4000 := by
   rcases Nat.eq_zero_or_pos k.natAbs with h0 | hp
   ·rw [h0]; decide
   ·exact (Nat.log2_lt (Nat.ne_of_gt hp)).mpr h
  omega
theorem mulOk_ok {i j : Int} (h : zhW i j = true) : IntMulOk i j := by
 unfold zhW at h
 simp only [Bool.or_eq_true, Bool.and_eq_true, decide_eq_true_eq] at h
 rcases h with (h | h) | ⟨h1, h2⟩
 ·exact .of_left (intBits_le_64 (by omega) (by omega))
 ·exact .of_right (intBits_le_64 (by omega) (by omega))
 ·have b1 := zhg h1
  have b2 := zhg h2
  unfold IntMulOk
  intro z
  simp only [Bool.and_eq_true] at z
  have z2 := z.2
  unfold Builtin.Int.intTooBig at z2
  revert z2
  generalize Builtin.Int.intBits i = p at *
  generalize Builtin.Int.intBits j = q at *
  intro z2
  have z3 := of_decide_eq_true z2
  have hb := bitsLine_eq
  omega
theorem op_mulG : OpR X (binaryOp .Mult) (rI IntMulOk fun i j => .int (i * j)) := opI fun _ _ _ _ _ _ _ hc q => mul_int q hc
theorem zbd {ma mb : ME} (ha : SE X a ma) (hb : SE X b mb) : SE X (.BinOp a .Mult b pos) (m2 dMul ma mb) := by
 refine zkb (op_mulG.or op_rep) (fun B G H σ ρ x y a b d Q I ra rb hf k => ?_) ha hb
 cases a <;> cases b <;> simp only [dMul] at hf <;> try cases hf
 ·rename_i i j
  split at hf
  ·rename_i h
   cases hf
   exact .inl ⟨i, j, ra, rb, mulOk_ok h, k G H _ I (Fz.refl G) rfl⟩
  ·cases hf
 ·rename_i ds j
  split at hf
  ·rename_i h
   cases hf
   simp only [Bool.and_eq_true, decide_eq_true_eq] at h
   obtain ⟨a, xs, rfl, ha, r⟩ := I.lst ra
   have hl := r.length
   refine .inr ⟨a, j, xs, rfl, rb, ha, by omega, by omega, by rw [hl, sizeLine_eq]; omega, fun p hp => ?_⟩
   obtain ⟨I2, f2, r2⟩ := I.newL hp (r.rep j.toNat)
   exact k _ _ _ I2 f2 r2
  ·cases hf
def dAdd : D -> D -> Option D
 | .int i, .int j => some (.int (i + j))
 | .tup a, .tup b => if a.length + b.length <= 16777216 then some (.tup (a ++ b)) else none
 | .lst a, .lst b => if a.length + b.length <= 16777216 then some (.lst (a ++ b)) else none
 | .str a, .str b => if a.length + b.length <= 16777216 then some (.str (a ++ b)) else none
 | _, _ => none
theorem op_catT0 : OpR X (binaryOp .Add) (fun x y H Q => ∃ a b ys, x = .ref a /\ y = .ref b /\ SqT X.K H a [] /\ SqT X.K H b ys /\ Q (.ref b) H) := by
 intro pins s σ H x y v u Q I rx ry h
 obtain ⟨a, b, ys, rfl, rfl, ha, hb, q⟩ := h
 cases rx
 cases ry
 obtain ⟨its, r1, p1, _⟩ := I.tuple ha
 obtain ⟨its2, r2, p2, _⟩ := I.tuple hb
 obtain rfl : its = [] := by cases r1; rfl
 obtain ⟨⟨cls, dd, data, sl⟩, ho, hc, n, hd⟩ := id p1
 obtain ⟨⟨cls2, dd2, data2, sl2⟩, ho2, hc2, n2, hd2⟩ := id p2
 simp only at hc hd hc2 hd2
 subst hc hd hc2 hd2
 exact concat_meets ⟨_, ho, rfl⟩ ⟨_, ho2, rfl⟩ noFill_tuple_add seq_tuple_add PySem.F.slot_tuple_add PySem.F.entry_tuple_add (PySem.F.args_tuple_add_2 _ _)
   (tuple_addW0 a b _ _ n n2 dd dd2 sl sl2 (by simp)) ⟨ho, ho2, ⟨.ref b, H, I, rfl, q⟩⟩
theorem zaD {ma mb : ME} (ha : SE X a ma) (hb : SE X b mb) : SE X (.BinOp a .Add b pos) (m2 dAdd ma mb) := by
 refine zkb (op_add.or (op_catT.or (op_catT0.or (op_cat.or zka)))) (fun B G H σ ρ x y a b d Q I ra rb hf k => ?_) ha hb
 cases a <;> cases b <;> simp only [dAdd] at hf <;> try cases hf
 ·exact .inl ⟨_, _, ra, rb, k G H _ I (Fz.refl G) rfl⟩
 ·rename_i i j
  split at hf
  ·rename_i h
   cases hf
   exact .inr (.inr (.inr (.inr ⟨i, j, ra, rb, by rw [sizeLine_eq]; exact h, k G H _ I (Fz.refl G) rfl⟩)))
  ·cases hf
 ·rename_i as bs
  split at hf
  ·rename_i h
   cases hf
   obtain ⟨a, xs, rfl, ha, r⟩ := I.lst ra
   obtain ⟨b, ys, rfl, hb, r2⟩ := I.lst rb
   refine .inr (.inr (.inr (.inl ⟨a, b, xs, ys, rfl, rfl, ha, hb, by rw [r.length, r2.length, sizeLine_eq]; exact h, fun p hp => ?_⟩)))
   obtain ⟨I2, f2, r2⟩ := I.newL hp (r.append r2)
   exact k _ _ _ I2 f2 r2
  ·cases hf
 ·rename_i as bs
  split at hf
  ·rename_i h
   cases hf
   obtain ⟨a, xs, rfl, ha, r⟩ := I.tup ra
   obtain ⟨b, ys, rfl, hb, r2⟩ := I.tup rb
   by_cases z : xs = []
   ·subst z
    have z' : as = [] := List.eq_nil_of_length_eq_zero r.length.symm
    subst z'
    exact .inr (.inr (.inl ⟨a, b, ys, rfl, rfl, SqT.of ha, SqT.of hb, k G H _ I (Fz.refl G) rb⟩))
   ·refine .inr (.inl ⟨a, b, xs, ys, rfl, rfl, SqT.of ha, SqT.of hb, z, by rw [r.length, r2.length, sizeLine_eq]; exact h, fun w => ?_, fun w p hp => ?_⟩)
    ·subst w
     have w' : bs = [] := List.eq_nil_of_length_eq_zero r2.length.symm
     subst w'
     rw [List.append_nil] at k
     exact k G H _ I (Fz.refl G) ra
    ·obtain ⟨I2, f2, r2⟩ := I.newT hp (r.append r2)
     exact k _ _ _ I2 f2 r2
  ·cases hf
mutual
def noS : D -> Bool
 | .scr _ => false
 | .exc _ => false
 | .dic _ _ => false
 | .dit _ _ => false
 | .lst ds => noSL ds
 | .tup ds => noSL ds
 | _ => true
def noSL : List D -> Bool
 | [] => true
 | d :: ds => noS d && noSL ds
end
mutual
def eqB : D -> D -> Bool
 | .non, .non => true
 | .bl a, .bl b => a == b
 | .int a, .int b => a == b
 | .str a, .str b => a == b
 | .bl a, .int b => (if a then 1 else 0) == b
 | .int a, .bl b => a == (if b then 1 else 0)
 | .lst a, .lst b => eqBL a b
 | .tup a, .tup b => eqBL a b
 | _, _ => false
def eqBL : List D -> List D -> Bool
 | [], [] => true
 | a :: as, b :: bs => eqB a b && eqBL as bs
 | _, _ => false
end
theorem zfv : ∀ {as bs : List D}, as.length ≠ bs.length -> eqBL as bs = false
 | [], [], h => absurd rfl h
 | [], _ :: _, _ => rfl
 | _ :: _, [], _ => rfl
 | a :: as, b :: bs, h => by
  have := zfv (as := as) (bs := bs) (fun e => h (by simp [e]))
  simp [eqBL, this]
mutual
theorem zht : ∀ d, noS d = true -> eqB d d = true
 | .non, _ => rfl
 | .bl b, _ => by simp [eqB]
 | .int b, _ => by simp [eqB]
 | .str b, _ => by simp [eqB]
 | .lst ds, h => by simp only [noS] at h; simp only [eqB]; exact zgT ds h
 | .tup ds, h => by simp only [noS] at h; simp only [eqB]; exact zgT ds h
 | .scr _, h => by simp [noS] at h
 | .exc _, h => by simp [noS] at h
 | (.dic _ _), h => by simp [noS] at h
 | (.dit _ _), h => by simp [noS] at h
theorem zgT : ∀ ds, noSL ds = true -> eqBL ds ds = true
 | [], _ => rfl
 | d :: ds, h => by
  simp only [noSL, Bool.and_eq_true] at h
  simp only [eqBL, Bool.and_eq_true]
  exact ⟨zht d h.1, zgT ds h.2⟩
end
mutual
def depth : D -> Nat
 | .lst ds => zeE ds + 1
 | .tup ds => zeE ds + 1
 | _ => 0
def zeE : List D -> Nat
 | [] => 0
 | d :: ds => max (depth d) (zeE ds)
end
theorem zfL : ∀ {l : List D} {i : Nat} {d : D}, l[i]? = some d -> depth d <= zeE l
 | [], _, _, h => by simp at h
 | c :: l, 0, d, h => by simp at h; subst h; simp only [zeE]; omega
 | c :: l, i + 1, d, h => by
  have := zfL (l := l) (i := i) (d := d) (by simpa using h)
  simp only [zeE]; omega
theorem zfr : ∀ {l : List D} {i : Nat} {d : D}, l[i]? = some d -> noSL l = true -> noS d = true
 | [], _, _, h, _ => by simp at h
 | c :: l, 0, d, h, z => by simp at h; subst h; simp only [noSL, Bool.and_eq_true] at z; exact z.1
 | c :: l, i + 1, d, h, z => by simp only [noSL, Bool.and_eq_true] at z; exact zfr (l := l) (i := i) (by simpa using h) z.2
mutual
theorem RepD.inj : ∀ {a b : D} {x : V}, noS a = true -> noS b = true -> RepD K G x a -> RepD K G x b -> a = b
 | .non, b, x, _, nb, ra, rb => by
  cases (show x = V.non from ra)
  cases b <;> simp_all [RepD, noS]
 | .bl c, b, x, _, nb, ra, rb => by
  cases (show x = V.bl c from ra)
  cases b <;> simp_all [RepD, noS]
 | .int c, b, x, _, nb, ra, rb => by
  cases (show x = V.int c from ra)
  cases b <;> simp_all [RepD, noS]
 | .str c, b, x, _, nb, ra, rb => by
  cases (show x = V.str c from ra)
  cases b <;> simp_all [RepD, noS]
 | .lst ds, b, x, na, nb, ra, rb => by
  obtain ⟨p, xs, rfl, q, r⟩ := ra
  cases b with
  | lst es =>
   obtain ⟨p2, ys, e, q2, r2⟩ := rb
   cases e
   rw [q] at q2
   cases q2
   simp only [noS] at na nb
   rw [RepL.inj na nb r r2]
  | tup es =>
   obtain ⟨p2, ys, e, q2, r2⟩ := rb
   cases e
   rw [q] at q2
   cases q2
  | scr _ => simp [noS] at nb
  | exc _ => simp [noS] at nb
  | dic _ _ => simp [noS] at nb
  | dit _ _ => simp [noS] at nb
  | non => simp [RepD] at rb
  | bl _ => simp [RepD] at rb
  | int _ => simp [RepD] at rb
  | str _ => simp [RepD] at rb
 | .tup ds, b, x, na, nb, ra, rb => by
  obtain ⟨p, xs, rfl, q, r⟩ := ra
  cases b with
  | tup es =>
   obtain ⟨p2, ys, e, q2, r2⟩ := rb
   cases e
   rw [q] at q2
   cases q2
   simp only [noS] at na nb
   rw [RepL.inj na nb r r2]
  | lst es =>
   obtain ⟨p2, ys, e, q2, r2⟩ := rb
   cases e
   rw [q] at q2
   cases q2
  | scr _ => simp [noS] at nb
  | exc _ => simp [noS] at nb
  | dic _ _ => simp [noS] at nb
  | dit _ _ => simp [noS] at nb
  | non => simp [RepD] at rb
  | bl _ => simp [RepD] at rb
  | int _ => simp [RepD] at rb
  | str _ => simp [RepD] at rb
 | .scr _, _, _, na, _, _, _ => by simp [noS] at na
 | .exc _, _, _, na, _, _, _ => by simp [noS] at na
 | (.dic _ _), _, _, na, _, _, _ => by simp [noS] at na
 | (.dit _ _), _, _, na, _, _, _ => by simp [noS] at na
theorem RepL.inj : ∀ {as bs : List D} {xs : List V}, noSL as = true -> noSL bs = true -> RepL K G xs as -> RepL K G xs bs -> as = bs
 | [], [], _, _, _, _, _ => rfl
 | [], _ :: _, xs, _, _, e, h => by
  obtain ⟨_, _, e2, _⟩ := h
  cases (show xs = [] from e)
  cases e2
 | _ :: _, [], xs, _, _, h, e => by
  obtain ⟨_, _, e2, _⟩ := h
  cases (show xs = [] from e)
  cases e2
 | a :: as, b :: bs, xs, na, nb, h, h2 => by
  obtain ⟨x, ys, e, q, r⟩ := h
  obtain ⟨x2, ys2, e2, q2, r2⟩ := h2
  subst e
  cases e2
  simp only [noSL, Bool.and_eq_true] at na nb
  rw [RepD.inj na.1 nb.1 q q2, RepL.inj na.2 nb.2 r r2]
end
def eqJ (ds es : List D) (j : Nat) : Bool := match ds[j]?, es[j]? with
 | some a, some b => eqB a b
 | _, _ => false
theorem zc9 : ∀ (as bs : List D), as.length = bs.length -> (List.range as.length).all (eqJ as bs) = eqBL as bs
 | [], [], _ => by simp [eqBL]
 | a :: as, b :: bs, h => by
  have ih := zc9 as bs (by simpa using h)
  rw [List.length_cons, List.range_succ_eq_map, List.all_cons, List.all_map]
  simp only [eqBL, <- ih]
  congr 1
 | [], _ :: _, h => by simp at h
 | _ :: _, [], h => by simp at h
section
variable {X : Cx} {pins : List (Addr × Obj)} {σ : St} {H G : Hp} {s : Shared}
theorem zhZ (r : Vals xs us) (h : RepL X.K G xs ds) (e : us[j]? = some u) : ∃ x d, ds[j]? = some d /\ RelV x u /\ RepD X.K G x d := by
 have hl := r.length
 have hl2 := h.length
 have hj : j < us.length := (List.getElem?_eq_some_iff.mp e).1
 have ej : ds[j]? = some ds[j] := List.getElem?_eq_getElem (by omega)
 obtain ⟨x, q1, q2⟩ := h.get ej
 obtain ⟨u', h1, h2⟩ := r.get q1
 have : u' = u := by rw [h1] at e; exact Option.some.inj e
 subst this
 exact ⟨x, _, ej, h2, q2⟩
theorem eqAt_D (I : Inv X pins σ H s) (fz : Fz G H) : ∀ (n : Nat) (A : Around) (a b : D) (x y : V) (u v : Value), depth a <= n -> noS a = true -> noS b = true -> A.units + n + 1 < cLine -> RepD X.K G x a -> RepD X.K G y b -> RelV x u -> RelV y v ->
  SeqAt.EqAt A s u v (eqB a b) /\ SeqAt.RcAt A s u v (eqB a b) := by
 intro n
 induction n with
 | zero =>
  intro A a b x y u v hd na nb hu ra rb rx ry
  have hu' : A.units < cLine := by omega
  cases a with
  | non =>
   cases (show x = V.non from ra); cases (show u = Value.none from rx)
   cases b with
   | non => cases (show y = V.non from rb); cases (show v = Value.none from ry); exact ⟨.same _, .none_none⟩
   | bl c => cases (show y = V.bl c from rb); cases (show v = Value.bool c from ry); exact ⟨.none_bool _, .none_bool _⟩
   | int c => cases (show y = V.int c from rb); obtain ⟨t, rfl⟩ := ry; exact ⟨.none_int _ _, .none_int _ _⟩
   | str c => cases (show y = V.str c from rb); obtain ⟨t, rfl⟩ := ry; exact ⟨.none_str _ _, .none_str _ _⟩
   | lst ds =>
    obtain ⟨p, xs, rfl, q, r⟩ := rb
    cases (show v = Value.ref p from ry)
    obtain ⟨its, rv, pl, hz⟩ := I.list (SqL.of (fz _ _ q))
    exact ⟨.none_list pl.isList hu', .none_list pl.isList hu'⟩
   | tup ds =>
    obtain ⟨p, xs, rfl, q, r⟩ := rb
    cases (show v = Value.ref p from ry)
    obtain ⟨its, rv, pl, hz⟩ := I.tuple (SqT.of (fz _ _ q))
    exact ⟨.none_tuple pl hu', .none_tuple pl hu'⟩
   | scr _ => simp [noS] at nb
   | exc _ => simp [noS] at nb
   | dic _ _ => simp [noS] at nb
   | dit _ _ => simp [noS] at nb
  | bl c0 =>
   cases (show x = V.bl c0 from ra); cases (show u = Value.bool c0 from rx)
   cases b with
   | non => cases (show y = V.non from rb); cases (show v = Value.none from ry); exact ⟨.bool_none _, .bool_none _⟩
   | bl c => cases (show y = V.bl c from rb); cases (show v = Value.bool c from ry); exact ⟨.bool_bool _ _, .bool_bool _ _⟩
   | int c => cases (show y = V.int c from rb); obtain ⟨t, rfl⟩ := ry; exact ⟨.bool_int _ _ _, .bool_int _ _ _⟩
   | str c => cases (show y = V.str c from rb); obtain ⟨t, rfl⟩ := ry; exact ⟨.bool_str _ _ _, .bool_str _ _ _⟩
   | lst ds =>
    obtain ⟨p, xs, rfl, q, r⟩ := rb
    cases (show v = Value.ref p from ry)
    obtain ⟨its, rv, pl, hz⟩ := I.list (SqL.of (fz _ _ q))
    exact ⟨.bool_list _ pl.isList hu', .bool_list _ pl.isList hu'⟩
   | tup ds =>
    obtain ⟨p, xs, rfl, q, r⟩ := rb
    cases (show v = Value.ref p from ry)
    obtain ⟨its, rv, pl, hz⟩ := I.tuple (SqT.of (fz _ _ q))
    exact ⟨.bool_tuple _ pl hu', .bool_tuple _ pl hu'⟩
   | scr _ => simp [noS] at nb
   | exc _ => simp [noS] at nb
   | dic _ _ => simp [noS] at nb
   | dit _ _ => simp [noS] at nb
  | int c0 =>
   cases (show x = V.int c0 from ra); obtain ⟨t0, rfl⟩ := rx
   cases b with
   | non => cases (show y = V.non from rb); cases (show v = Value.none from ry); exact ⟨.int_none _ _, .int_none _ _⟩
   | bl c => cases (show y = V.bl c from rb); cases (show v = Value.bool c from ry); exact ⟨.int_bool _ _ _, .int_bool _ _ _⟩
   | int c => cases (show y = V.int c from rb); obtain ⟨t, rfl⟩ := ry; exact ⟨.int_int _ _ _ _, .int_int _ _ _ _⟩
   | str c => cases (show y = V.str c from rb); obtain ⟨t, rfl⟩ := ry; exact ⟨.int_str _ _ _ _, .int_str _ _ _ _⟩
   | lst ds =>
    obtain ⟨p, xs, rfl, q, r⟩ := rb
    cases (show v = Value.ref p from ry)
    obtain ⟨its, rv, pl, hz⟩ := I.list (SqL.of (fz _ _ q))
    exact ⟨.int_list _ _ pl.isList hu', .int_list _ _ pl.isList hu'⟩
   | tup ds =>
    obtain ⟨p, xs, rfl, q, r⟩ := rb
    cases (show v = Value.ref p from ry)
    obtain ⟨its, rv, pl, hz⟩ := I.tuple (SqT.of (fz _ _ q))
    exact ⟨.int_tuple _ _ pl hu', .int_tuple _ _ pl hu'⟩
   | scr _ => simp [noS] at nb
   | exc _ => simp [noS] at nb
   | dic _ _ => simp [noS] at nb
   | dit _ _ => simp [noS] at nb
  | str c0 =>
   cases (show x = V.str c0 from ra); obtain ⟨t0, rfl⟩ := rx
   cases b with
   | non => cases (show y = V.non from rb); cases (show v = Value.none from ry); exact ⟨.str_none _ _, .str_none _ _⟩
   | bl c => cases (show y = V.bl c from rb); cases (show v = Value.bool c from ry); exact ⟨.str_bool _ _ _, .str_bool _ _ _⟩
   | int c => cases (show y = V.int c from rb); obtain ⟨t, rfl⟩ := ry; exact ⟨.str_int _ _ _ _, .str_int _ _ _ _⟩
   | str c => cases (show y = V.str c from rb); obtain ⟨t, rfl⟩ := ry; exact ⟨.str_str _ _ _ _, .str_str _ _ _ _⟩
   | lst ds =>
    obtain ⟨p, xs, rfl, q, r⟩ := rb
    cases (show v = Value.ref p from ry)
    obtain ⟨its, rv, pl, hz⟩ := I.list (SqL.of (fz _ _ q))
    exact ⟨.str_list _ _ pl.isList hu', .str_list _ _ pl.isList hu'⟩
   | tup ds =>
    obtain ⟨p, xs, rfl, q, r⟩ := rb
    cases (show v = Value.ref p from ry)
    obtain ⟨its, rv, pl, hz⟩ := I.tuple (SqT.of (fz _ _ q))
    exact ⟨.str_tuple _ _ pl hu', .str_tuple _ _ pl hu'⟩
   | scr _ => simp [noS] at nb
   | exc _ => simp [noS] at nb
   | dic _ _ => simp [noS] at nb
   | dit _ _ => simp [noS] at nb
  | lst ds => simp [depth] at hd
  | tup ds => simp [depth] at hd
  | scr _ => simp [noS] at na
  | exc _ => simp [noS] at na
  | dic _ _ => simp [noS] at na
  | dit _ _ => simp [noS] at na
 | succ n ih =>
  intro A a b x y u v hd na nb hu ra rb rx ry
  have hu' : A.units < cLine := by omega
  have items : ∀ (ds es : List D) (xs ys : List V) (its its2 : List Value), zeE ds <= n -> noSL ds = true -> noSL es = true -> RepL X.K G xs ds -> RepL X.K G ys es -> Vals xs its -> Vals ys its2 ->
    ∀ j (h1 : j < its.toArray.size) (h2 : j < its2.toArray.size), SeqAt.EqAt A.in1 s its.toArray[j] its2.toArray[j] (eqJ ds es j) := by
   intro ds es xs ys its its2 hd nd ne r r2 rv rv2 j h1 h2
   simp only [List.size_toArray] at h1 h2
   obtain ⟨x1, d1, e1, k1, m1⟩ := zhZ rv r (j := j) (u := its[j]) (List.getElem?_eq_getElem h1)
   obtain ⟨x2, d2, e2, k2, m2⟩ := zhZ rv2 r2 (j := j) (u := its2[j]) (List.getElem?_eq_getElem h2)
   have e : eqJ ds es j = eqB d1 d2 := by unfold eqJ; rw [e1, e2]
   rw [e]
   have := zfL e1
   simpa using (ih A.in1 d1 d2 x1 x2 _ _ (by omega) (zfr e1 nd) (zfr e2 ne) (by show A.units + 1 + n + 1 < cLine; omega) m1 m2 k1 k2).1
  cases a with
  | scr _ => simp [noS] at na
  | exc _ => simp [noS] at na
  | dic _ _ => simp [noS] at na
  | dit _ _ => simp [noS] at na
  | non => exact ih A .non b x y u v (Nat.zero_le _) na nb (by omega) ra rb rx ry
  | bl c => exact ih A (.bl c) b x y u v (Nat.zero_le _) na nb (by omega) ra rb rx ry
  | int c => exact ih A (.int c) b x y u v (Nat.zero_le _) na nb (by omega) ra rb rx ry
  | str c => exact ih A (.str c) b x y u v (Nat.zero_le _) na nb (by omega) ra rb rx ry
  | lst ds =>
   have ra0 := ra
   obtain ⟨p, xs, rfl, q, r⟩ := ra
   cases (show u = Value.ref p from rx)
   obtain ⟨its, rv, pl, hz⟩ := I.list (SqL.of (fz _ _ q))
   cases b with
   | non => cases (show y = V.non from rb); cases (show v = Value.none from ry); exact ⟨.list_none pl.isList hu', .list_none pl.isList hu'⟩
   | bl c => cases (show y = V.bl c from rb); cases (show v = Value.bool c from ry); exact ⟨.list_bool _ pl.isList hu', .list_bool _ pl.isList hu'⟩
   | int c => cases (show y = V.int c from rb); obtain ⟨t, rfl⟩ := ry; exact ⟨.list_int _ _ pl.isList hu', .list_int _ _ pl.isList hu'⟩
   | str c => cases (show y = V.str c from rb); obtain ⟨t, rfl⟩ := ry; exact ⟨.list_str _ _ pl.isList hu', .list_str _ _ pl.isList hu'⟩
   | scr _ => simp [noS] at nb
   | exc _ => simp [noS] at nb
   | dic _ _ => simp [noS] at nb
   | dit _ _ => simp [noS] at nb
   | tup es =>
    obtain ⟨p2, ys, rfl, q2, r2⟩ := rb
    cases (show v = Value.ref p2 from ry)
    obtain ⟨its2, rv2, pl2, hz2⟩ := I.tuple (SqT.of (fz _ _ q2))
    exact ⟨.list_tuple pl.isList pl2 hu', .list_tuple pl.isList pl2 hu'⟩
   | lst es =>
    have rb0 := rb
    obtain ⟨p2, ys, rfl, q2, r2⟩ := rb
    cases (show v = Value.ref p2 from ry)
    obtain ⟨its2, rv2, pl2, hz2⟩ := I.list (SqL.of (fz _ _ q2))
    simp only [depth] at hd
    have l1 := rv.length; have l2 := r.length; have l3 := rv2.length; have l4 := r2.length
    have rc : SeqAt.RcAt A s (.ref p) (.ref p2) (eqBL ds es) := by
     by_cases hl : ds.length = es.length
     ·have z := SeqAt.RcAt.lists (A := A) (s := s) (e := eqJ ds es) pl.isList pl2.isList (by simp only [List.size_toArray]; omega) hu' (items ds es xs ys its its2 (by omega) (by simpa only [noS] using na) (by simpa only [noS] using nb) r r2 rv rv2)
      rw [List.size_toArray, <- l1, l2, zc9 ds es hl] at z
      exact z
     ·rw [zfv hl]
      refine .lists_lengths pl.isList pl2.isList ?_ hu'
      simp only [List.size_toArray, bne_iff_ne, ne_eq]
      omega
    refine ⟨?_, by simp only [eqB]; exact rc⟩
    by_cases hp : p = p2
    ·subst hp
     have e := RepD.inj na nb ra0 rb0
     cases e
     rw [zht _ na]
     exact .same _
    ·simp only [eqB]
     exact .of_refs hp rc
  | tup ds =>
   have ra0 := ra
   obtain ⟨p, xs, rfl, q, r⟩ := ra
   cases (show u = Value.ref p from rx)
   obtain ⟨its, rv, pl, hz⟩ := I.tuple (SqT.of (fz _ _ q))
   cases b with
   | non => cases (show y = V.non from rb); cases (show v = Value.none from ry); exact ⟨.tuple_none pl hu', .tuple_none pl hu'⟩
   | bl c => cases (show y = V.bl c from rb); cases (show v = Value.bool c from ry); exact ⟨.tuple_bool _ pl hu', .tuple_bool _ pl hu'⟩
   | int c => cases (show y = V.int c from rb); obtain ⟨t, rfl⟩ := ry; exact ⟨.tuple_int _ _ pl hu', .tuple_int _ _ pl hu'⟩
   | str c => cases (show y = V.str c from rb); obtain ⟨t, rfl⟩ := ry; exact ⟨.tuple_str _ _ pl hu', .tuple_str _ _ pl hu'⟩
   | scr _ => simp [noS] at nb
   | exc _ => simp [noS] at nb
   | dic _ _ => simp [noS] at nb
   | dit _ _ => simp [noS] at nb
   | lst es =>
    obtain ⟨p2, ys, rfl, q2, r2⟩ := rb
    cases (show v = Value.ref p2 from ry)
    obtain ⟨its2, rv2, pl2, hz2⟩ := I.list (SqL.of (fz _ _ q2))
    exact ⟨.tuple_list pl pl2.isList hu', .tuple_list pl pl2.isList hu'⟩
   | tup es =>
    have rb0 := rb
    obtain ⟨p2, ys, rfl, q2, r2⟩ := rb
    cases (show v = Value.ref p2 from ry)
    obtain ⟨its2, rv2, pl2, hz2⟩ := I.tuple (SqT.of (fz _ _ q2))
    simp only [depth] at hd
    have l1 := rv.length; have l2 := r.length; have l3 := rv2.length; have l4 := r2.length
    have rc : SeqAt.RcAt A s (.ref p) (.ref p2) (eqBL ds es) := by
     have z := SeqAt.RcAt.tuples (A := A) (s := s) (e := eqJ ds es) pl pl2 hu' (items ds es xs ys its its2 (by omega) (by simpa only [noS] using na) (by simpa only [noS] using nb) r r2 rv rv2)
     simp only [List.size_toArray] at z
     by_cases hl : ds.length = es.length
     ·have e1 : min its.length its2.length = ds.length := by omega
      have e2 : (its.length == its2.length) = true := by simp; omega
      rw [e1, e2, Bool.and_true, zc9 ds es hl] at z
      exact z
     ·have e2 : (its.length == its2.length) = false := by simp; omega
      rw [e2, Bool.and_false] at z
      rw [zfv hl]
      exact z
    refine ⟨?_, by simp only [eqB]; exact rc⟩
    by_cases hp : p = p2
    ·subst hp
     have e := RepD.inj na nb ra0 rb0
     cases e
     rw [zht _ na]
     exact .same _
    ·simp only [eqB]
     exact .of_refs hp rc
end
def dEq (a b : D) : Option D := if noS a && noS b && decide (depth a <= 50) then some (.bl (eqB a b)) else none
def dNe (a b : D) : Option D := if noS a && noS b && decide (depth a <= 50) then some (.bl (!eqB a b)) else none
def rEqD (K : W.Frag) (c : Bool -> Bool) : R2 := fun x y H Q => ∃ G a b, Fz G H /\ RepD K G x a /\ RepD K G y b /\ noS a = true /\ noS b = true /\ depth a <= 50 /\ Q (.bl (c (eqB a b))) H
theorem op_eqD (hu : X.A.units + 64 < cLine) : OpR X (compareOp .Eq) (rEqD X.K id) := by
 intro pins s σ H x y v u Q I rx ry h
 obtain ⟨G, a, b, fz, ra, rb, na, nb, hd, q⟩ := h
 exact (eqAt_D I fz 50 X.A a b x y v u hd na nb (by omega) ra rb rx ry).2 _ _ _ _ ⟨.bl _, H, I, rfl, q⟩
theorem se_eq {ma mb : ME} (hu : X.A.units + 64 < cLine) (ha : SE X a ma) (hb : SE X b mb) : SE X (.Compare a [.Eq] [b] pos) (m2 dEq ma mb) := by
 refine zlw (op_eqD hu) (fun B G H σ ρ x y a b d Q I ra rb hf k => ?_) ha hb (zfU _)
 unfold dEq at hf
 split at hf
 ·rename_i h
  simp only [Bool.and_eq_true, decide_eq_true_eq] at h
  cases hf
  exact ⟨G, a, b, I.fz, ra, rb, h.1.1, h.1.2, h.2, k G H _ I (Fz.refl G) rfl⟩
 ·cases hf
section
variable {X : Cx} {pins : List (Addr × Obj)} {σ : St} {H G : Hp} {s : Shared}
theorem neAt_D (I : Inv X pins σ H s) (fz : Fz G H) (A : Around) (a b : D) (x y : V) (u v : Value) (hd : depth a <= 50) (na : noS a = true) (nb : noS b = true) (hu : A.units + 64 < cLine) (ra : RepD X.K G x a) (rb : RepD X.K G y b) (rx : RelV x u) (ry : RelV y v) :
  SeqAt.RcNeAt A s u v (!eqB a b) := by
 have hu' : A.units < cLine := by omega
 have items : ∀ (ds es : List D) (xs ys : List V) (its its2 : List Value), zeE ds <= 49 -> noSL ds = true -> noSL es = true -> RepL X.K G xs ds -> RepL X.K G ys es -> Vals xs its -> Vals ys its2 ->
   ∀ j (h1 : j < its.toArray.size) (h2 : j < its2.toArray.size), SeqAt.EqAt A.in1 s its.toArray[j] its2.toArray[j] (eqJ ds es j) := by
  intro ds es xs ys its its2 hd nd ne r r2 rv rv2 j h1 h2
  simp only [List.size_toArray] at h1 h2
  obtain ⟨x1, d1, e1, k1, m1⟩ := zhZ rv r (j := j) (u := its[j]) (List.getElem?_eq_getElem h1)
  obtain ⟨x2, d2, e2, k2, m2⟩ := zhZ rv2 r2 (j := j) (u := its2[j]) (List.getElem?_eq_getElem h2)
  have e : eqJ ds es j = eqB d1 d2 := by unfold eqJ; rw [e1, e2]
  rw [e]
  have := zfL e1
  simpa using (eqAt_D I fz 49 A.in1 d1 d2 x1 x2 _ _ (by omega) (zfr e1 nd) (zfr e2 ne) (by show A.units + 1 + 49 + 1 < cLine; omega) m1 m2 k1 k2).1
 cases a with
 | scr _ => simp [noS] at na
 | exc _ => simp [noS] at na
 | dic _ _ => simp [noS] at na
 | dit _ _ => simp [noS] at na
 | non =>
  cases (show x = V.non from ra); cases (show u = Value.none from rx)
  cases b with
  | non => cases (show y = V.non from rb); cases (show v = Value.none from ry); exact .none_none
  | bl c => cases (show y = V.bl c from rb); cases (show v = Value.bool c from ry); exact .none_bool _
  | int c => cases (show y = V.int c from rb); obtain ⟨t, rfl⟩ := ry; exact .none_int _ _
  | str c => cases (show y = V.str c from rb); obtain ⟨t, rfl⟩ := ry; exact .none_str _ _
  | lst ds =>
   obtain ⟨p, xs, rfl, q, r⟩ := rb
   cases (show v = Value.ref p from ry)
   obtain ⟨its, rv, pl, hz⟩ := I.list (SqL.of (fz _ _ q))
   exact .none_list pl.isList hu'
  | tup ds =>
   obtain ⟨p, xs, rfl, q, r⟩ := rb
   cases (show v = Value.ref p from ry)
   obtain ⟨its, rv, pl, hz⟩ := I.tuple (SqT.of (fz _ _ q))
   exact .none_tuple pl hu'
  | scr _ => simp [noS] at nb
  | exc _ => simp [noS] at nb
  | dic _ _ => simp [noS] at nb
  | dit _ _ => simp [noS] at nb
 | bl c0 =>
  cases (show x = V.bl c0 from ra); cases (show u = Value.bool c0 from rx)
  cases b with
  | non => cases (show y = V.non from rb); cases (show v = Value.none from ry); exact .bool_none _
  | bl c => cases (show y = V.bl c from rb); cases (show v = Value.bool c from ry); exact .bool_bool _ _
  | int c => cases (show y = V.int c from rb); obtain ⟨t, rfl⟩ := ry; exact .bool_int _ _ _
  | str c => cases (show y = V.str c from rb); obtain ⟨t, rfl⟩ := ry; exact .bool_str _ _ _
  | lst ds =>
   obtain ⟨p, xs, rfl, q, r⟩ := rb
   cases (show v = Value.ref p from ry)
   obtain ⟨its, rv, pl, hz⟩ := I.list (SqL.of (fz _ _ q))
   exact .bool_list _ pl.isList hu'
  | tup ds =>
   obtain ⟨p, xs, rfl, q, r⟩ := rb
   cases (show v = Value.ref p from ry)
   obtain ⟨its, rv, pl, hz⟩ := I.tuple (SqT.of (fz _ _ q))
   exact .bool_tuple _ pl hu'
  | scr _ => simp [noS] at nb
  | exc _ => simp [noS] at nb
  | dic _ _ => simp [noS] at nb
  | dit _ _ => simp [noS] at nb
 | int c0 =>
  cases (show x = V.int c0 from ra); obtain ⟨t0, rfl⟩ := rx
  cases b with
  | non => cases (show y = V.non from rb); cases (show v = Value.none from ry); exact .int_none _ _
  | bl c => cases (show y = V.bl c from rb); cases (show v = Value.bool c from ry); exact .int_bool _ _ _
  | int c => cases (show y = V.int c from rb); obtain ⟨t, rfl⟩ := ry; exact .int_int _ _ _ _
  | str c => cases (show y = V.str c from rb); obtain ⟨t, rfl⟩ := ry; exact .int_str _ _ _ _
  | lst ds =>
   obtain ⟨p, xs, rfl, q, r⟩ := rb
   cases (show v = Value.ref p from ry)
   obtain ⟨its, rv, pl, hz⟩ := I.list (SqL.of (fz _ _ q))
   exact .int_list _ _ pl.isList hu'
  | tup ds =>
   obtain ⟨p, xs, rfl, q, r⟩ := rb
   cases (show v = Value.ref p from ry)
   obtain ⟨its, rv, pl, hz⟩ := I.tuple (SqT.of (fz _ _ q))
   exact .int_tuple _ _ pl hu'
  | scr _ => simp [noS] at nb
  | exc _ => simp [noS] at nb
  | dic _ _ => simp [noS] at nb
  | dit _ _ => simp [noS] at nb
 | str c0 =>
  cases (show x = V.str c0 from ra); obtain ⟨t0, rfl⟩ := rx
  cases b with
  | non => cases (show y = V.non from rb); cases (show v = Value.none from ry); exact .str_none _ _
  | bl c => cases (show y = V.bl c from rb); cases (show v = Value.bool c from ry); exact .str_bool _ _ _
  | int c => cases (show y = V.int c from rb); obtain ⟨t, rfl⟩ := ry; exact .str_int _ _ _ _
  | str c => cases (show y = V.str c from rb); obtain ⟨t, rfl⟩ := ry; exact .str_str _ _ _ _
  | lst ds =>
   obtain ⟨p, xs, rfl, q, r⟩ := rb
   cases (show v = Value.ref p from ry)
   obtain ⟨its, rv, pl, hz⟩ := I.list (SqL.of (fz _ _ q))
   exact .str_list _ _ pl.isList hu'
  | tup ds =>
   obtain ⟨p, xs, rfl, q, r⟩ := rb
   cases (show v = Value.ref p from ry)
   obtain ⟨its, rv, pl, hz⟩ := I.tuple (SqT.of (fz _ _ q))
   exact .str_tuple _ _ pl hu'
  | scr _ => simp [noS] at nb
  | exc _ => simp [noS] at nb
  | dic _ _ => simp [noS] at nb
  | dit _ _ => simp [noS] at nb
 | lst ds =>
  obtain ⟨p, xs, rfl, q, r⟩ := ra
  cases (show u = Value.ref p from rx)
  obtain ⟨its, rv, pl, hz⟩ := I.list (SqL.of (fz _ _ q))
  cases b with
  | non => cases (show y = V.non from rb); cases (show v = Value.none from ry); exact .list_none pl.isList hu'
  | bl c => cases (show y = V.bl c from rb); cases (show v = Value.bool c from ry); exact .list_bool _ pl.isList hu'
  | int c => cases (show y = V.int c from rb); obtain ⟨t, rfl⟩ := ry; exact .list_int _ _ pl.isList hu'
  | str c => cases (show y = V.str c from rb); obtain ⟨t, rfl⟩ := ry; exact .list_str _ _ pl.isList hu'
  | scr _ => simp [noS] at nb
  | exc _ => simp [noS] at nb
  | dic _ _ => simp [noS] at nb
  | dit _ _ => simp [noS] at nb
  | tup es =>
   obtain ⟨p2, ys, rfl, q2, r2⟩ := rb
   cases (show v = Value.ref p2 from ry)
   obtain ⟨its2, rv2, pl2, hz2⟩ := I.tuple (SqT.of (fz _ _ q2))
   exact .list_tuple pl.isList pl2 hu'
  | lst es =>
   obtain ⟨p2, ys, rfl, q2, r2⟩ := rb
   cases (show v = Value.ref p2 from ry)
   obtain ⟨its2, rv2, pl2, hz2⟩ := I.list (SqL.of (fz _ _ q2))
   simp only [depth] at hd
   have l1 := rv.length; have l2 := r.length; have l3 := rv2.length; have l4 := r2.length
   simp only [eqB]
   by_cases hl : ds.length = es.length
   ·have z := SeqAt.RcNeAt.lists (A := A) (s := s) (e := eqJ ds es) pl.isList pl2.isList (by simp only [List.size_toArray]; omega) hu' (items ds es xs ys its its2 (by omega) (by simpa only [noS] using na) (by simpa only [noS] using nb) r r2 rv rv2)
    rw [List.size_toArray, <- l1, l2, zc9 ds es hl] at z
    exact z
   ·rw [zfv hl]
    refine .lists_lengths pl.isList pl2.isList ?_ hu'
    simp only [List.size_toArray, bne_iff_ne, ne_eq]
    omega
 | tup ds =>
  obtain ⟨p, xs, rfl, q, r⟩ := ra
  cases (show u = Value.ref p from rx)
  obtain ⟨its, rv, pl, hz⟩ := I.tuple (SqT.of (fz _ _ q))
  cases b with
  | non => cases (show y = V.non from rb); cases (show v = Value.none from ry); exact .tuple_none pl hu'
  | bl c => cases (show y = V.bl c from rb); cases (show v = Value.bool c from ry); exact .tuple_bool _ pl hu'
  | int c => cases (show y = V.int c from rb); obtain ⟨t, rfl⟩ := ry; exact .tuple_int _ _ pl hu'
  | str c => cases (show y = V.str c from rb); obtain ⟨t, rfl⟩ := ry; exact .tuple_str _ _ pl hu'
  | scr _ => simp [noS] at nb
  | exc _ => simp [noS] at nb
  | dic _ _ => simp [noS] at nb
  | dit _ _ => simp [noS] at nb
  | lst es =>
   obtain ⟨p2, ys, rfl, q2, r2⟩ := rb
   cases (show v = Value.ref p2 from ry)
   obtain ⟨its2, rv2, pl2, hz2⟩ := I.list (SqL.of (fz _ _ q2))
   exact .tuple_list pl pl2.isList hu'
  | tup es =>
   obtain ⟨p2, ys, rfl, q2, r2⟩ := rb
   cases (show v = Value.ref p2 from ry)
   obtain ⟨its2, rv2, pl2, hz2⟩ := I.tuple (SqT.of (fz _ _ q2))
   simp only [depth] at hd
   have l1 := rv.length; have l2 := r.length; have l3 := rv2.length; have l4 := r2.length
   have z := SeqAt.RcNeAt.tuples (A := A) (s := s) (e := eqJ ds es) pl pl2 hu' (items ds es xs ys its its2 (by omega) (by simpa only [noS] using na) (by simpa only [noS] using nb) r r2 rv rv2)
   simp only [List.size_toArray] at z
   simp only [eqB]
   by_cases hl : ds.length = es.length
   ·have e1 : min its.length its2.length = ds.length := by omega
    have e2 : (its.length == its2.length) = true := by simp; omega
    rw [e1, e2, Bool.and_true, zc9 ds es hl] at z
    exact z
   ·have e2 : (its.length == its2.length) = false := by simp; omega
    rw [e2, Bool.and_false] at z
    rw [zfv hl]
    exact z
end
theorem op_neD (hu : X.A.units + 64 < cLine) : OpR X (compareOp .NotEq) (rEqD X.K not) := by
 intro pins s σ H x y v u Q I rx ry h
 obtain ⟨G, a, b, fz, ra, rb, na, nb, hd, q⟩ := h
 exact neAt_D I fz X.A a b x y v u hd na nb hu ra rb rx ry _ _ _ _ ⟨.bl _, H, I, rfl, q⟩
theorem v2_ne : V2 X (rEqD X.K not) dNe := by
 intro B G H σ ρ x y a b d Q I ra rb hf k
 unfold dNe at hf
 split at hf
 ·rename_i h
  simp only [Bool.and_eq_true, decide_eq_true_eq] at h
  cases hf
  exact ⟨G, a, b, I.fz, ra, rb, h.1.1, h.1.2, h.2, k G H _ I (Fz.refl G) rfl⟩
 ·cases hf
theorem v2_eq : V2 X (rEqD X.K id) dEq := by
 intro B G H σ ρ x y a b d Q I ra rb hf k
 unfold dEq at hf
 split at hf
 ·rename_i h
  simp only [Bool.and_eq_true, decide_eq_true_eq] at h
  cases hf
  exact ⟨G, a, b, I.fz, ra, rb, h.1.1, h.1.2, h.2, k G H _ I (Fz.refl G) rfl⟩
 ·cases hf
theorem se_ne {ma mb : ME} (hu : X.A.units + 64 < cLine) (ha : SE X a ma) (hb : SE X b mb) : SE X (.Compare a [.NotEq] [b] pos) (m2 dNe ma mb) :=
 zlw (op_neD hu) v2_ne ha hb (zfU _)
def dIx : D -> D -> Option D
 | .lst ds, .int i => atI ds i
 | .tup ds, .int i => atI ds i
 | .scr ns, .int i => (atI ns i).map .int
 | _, _ => none
theorem atI_map {α β : Type} (f : α -> β) {xs : List α} {i : Int} {v : α} (h : atI xs i = some v) : atI (xs.map f) i = some (f v) := by
 unfold atI at h ⊢
 rw [List.length_map]
 cases q : ixN xs.length i with
 | none => rw [q] at h; cases h
 | some j =>
  rw [q] at h
  show (xs.map f)[j]? = _
  rw [List.getElem?_map, show xs[j]? = some v from h]
  rfl
def ReadD (K : W.Frag) (G H : Hp) (v : V) : D -> Prop
 | .lst ds => ∃ a xs, v = .ref a /\ H a = some (.lst xs) /\ RepL K G xs ds
 | d => RepD K G v d
theorem ReadD.of (fz : Fz G H) (h : RepD K G v d) : ReadD K G H v d := by
 cases d with
 | lst ds => obtain ⟨a, xs, e, q, r⟩ := h; exact ⟨a, xs, e, fz a _ q, r⟩
 | _ => exact h
def Sl.read : Sl -> Option D
 | .emp => none
 | .two _ _ => none
 | .tre _ => none
 | .ptr _ => none
 | .val d => some d
 | .own ds => some (.lst ds)
 | .par ds => some (.lst ds)
def hasV (ρ : R) (j : Nat) : Bool := match ρ[j]? with
 | some (.val _) => true
 | some (.own _) => true
 | some (.par _) => true
 | _ => false
theorem SI.has (I : SI K B G H σ ρ) (h : hasV ρ j = true) : ∃ v, σ[j]? = some (some v) := by
 unfold hasV at h
 cases e : ρ[j]? with
 | none => rw [e] at h; cases h
 | some s =>
  rw [e] at h
  have q := I.slot j s e
  cases s with
  | emp => cases h
  | two _ _ => cases h
  | tre _ => cases h
  | ptr _ => cases h
  | val d => obtain ⟨v, e, _⟩ := q; exact ⟨v, e⟩
  | own d => obtain ⟨l, _, e, _⟩ := q; exact ⟨_, e⟩
  | par d => obtain ⟨l, _, e, _⟩ := q; exact ⟨_, e⟩
theorem SI.read (I : SI K B G H σ ρ) (hv : σ[j]? = some (some v)) (e : ρ[j]? = some s) (q : s.read = some d) : ReadD K G H v d := by
 have h := I.slot j s e
 cases s with
 | emp => cases q
 | two _ _ => cases q
 | tre _ => cases q
 | ptr _ => cases q
 | val d' =>
  cases q
  obtain ⟨w, e1, r⟩ := h
  rw [hv] at e1; cases e1
  exact .of I.fz r
 | own ds =>
  cases q
  obtain ⟨l, xs, e1, _, h3, h4, _⟩ := h
  rw [hv] at e1; cases e1
  exact ⟨l, xs, rfl, h3, h4⟩
 | par ds =>
  cases q
  obtain ⟨l, xs, e1, _, h3, h4, _⟩ := h
  rw [hv] at e1; cases e1
  exact ⟨l, xs, rfl, h3, h4⟩
theorem zl5 {x y : V} {a b d : D} {Q : VK} (I : SI K B G H σ ρ) (ra : ReadD K G H x a) (rb : RepD K G y b) (hf : dIx a b = some d) (k : ∀ v, RepD K G v d -> Q v H) : rIx K x y H Q := by
 cases a <;> cases b <;> simp only [dIx] at hf <;> try cases hf
 ·rename_i ds i
  obtain ⟨p, xs, rfl, hp, r⟩ := ra
  obtain ⟨v, e, q⟩ := r.at hf
  exact .inl ⟨p, xs, i, v, rfl, rb, SqL.of hp, e, k _ q⟩
 ·rename_i ds i
  obtain ⟨p, xs, rfl, hp, r⟩ := I.tup ra
  obtain ⟨v, e, q⟩ := r.at hf
  exact .inr (.inl ⟨p, xs, i, v, rfl, rb, SqT.of hp, e, k _ q⟩)
 ·rename_i ns i
  obtain ⟨p, rfl, hp⟩ := ra
  cases e : atI ns i with
  | none => rw [e] at hf; cases hf
  | some n =>
   rw [e] at hf
   cases hf
   exact .inl ⟨p, _, i, .int n, rfl, rb, I.fz.sql hp, atI_map V.int e, k _ rfl⟩
theorem v2_ix : V2 X (rIx X.K) dIx := fun B G H σ ρ x y a b d Q I ra rb hf k => zl5 I (.of I.fz ra) rb hf fun v q => k G H v I (Fz.refl G) q
theorem zaY {ma mb : ME} (ha : SE X a ma) (hb : SE X b mb) (hs : zdX b := by exact fun _ _ => rfl) : SE X (.Subscript a b pos) (m2 dIx ma mb) := se_ix ix_seq v2_ix ha hb hs
def eIxV (j : Nat) (mi : ME) : ME := fun ρ => if hasV ρ j then (mi ρ).bind fun p => (p.2[j]?.bind Sl.read).bind fun d => (dIx d p.1).map fun e => (e, p.2) else none
theorem zai (j : Nat) (hb : SE X b mb) (hN : X.N[j]? = some x := by rfl) (hv : Vis X.env.scope x := by first | exact Or.inl rfl | exact Or.inr (Or.inl rfl) | exact Or.inr (Or.inr rfl)) (hd : (x == ("__debug__" : Str)) = false := by decide)
    (hcd : (x == ("__classdict__" : Str)) = false := by decide) (hs : zdX b := by exact fun _ _ => rfl) : SE X (.Subscript (.Name x pos') b pos) (eIxV j mb) := by
  obtain ⟨tb, pb, sb⟩ := hb
  refine ⟨_, zkA ix_seq (zbw hN hv hd hcd) pb hs, fun B G H σ ρ d ρ' Q I hm k => ?_⟩
  unfold eIxV at hm
  split at hm
  . rename_i hh
    obtain ⟨v, ev⟩ := I.has hh
    cases e1 : mb ρ with
    | none => rw [e1] at hm; cases hm
    | some q =>
      obtain ⟨i, ρ1⟩ := q
      rw [e1] at hm
      simp only [Option.bind_some] at hm
      cases e2 : ρ1[j]? with
      | none => rw [e2] at hm; cases hm
      | some s =>
        rw [e2] at hm
        simp only [Option.bind_some] at hm
        cases e3 : s.read with
        | none => rw [e3] at hm; cases hm
        | some a =>
          rw [e3] at hm
          simp only [Option.bind_some] at hm
          cases e4 : dIx a i with
          | none => rw [e4] at hm; cases hm
          | some c =>
            rw [e4] at hm
            cases hm
            exact ⟨v, ev, sb B G H σ ρ i ρ' _ I e1 fun G1 H1 y I1 f1 r1 => zl5 I1 (I1.read ev e2 e3) r1 e4 fun w q => k G1 H1 w I1 f1 q⟩
  . cases hm
def dLen : List D -> Option D
 | [.lst ds] => some (.int ds.length)
 | [.tup ds] => some (.int ds.length)
 | [.scr ns] => some (.int ns.length)
 | _ => none
theorem zjV {x : V} {a d : D} {Q : VK} (I : SI K B G H σ ρ) (ra : ReadD K G H x a) (hf : dLen [a] = some d) (k : ∀ v, RepD K G v d -> Q v H) :
  ∃ p ys, [x] = [V.ref p] /\ (SqL K H p ys \/ SqT K H p ys) /\ Q (.int ys.length) H := by
 cases a <;> simp only [dLen] at hf <;> try cases hf
 ·obtain ⟨p, xs, rfl, hp, r⟩ := ra
  exact ⟨p, xs, rfl, .inl (SqL.of hp), by rw [r.length]; exact k _ rfl⟩
 ·obtain ⟨p, xs, rfl, hp, r⟩ := I.tup ra
  exact ⟨p, xs, rfl, .inr (SqT.of hp), by rw [r.length]; exact k _ rfl⟩
 ·obtain ⟨p, rfl, hp⟩ := ra
  exact ⟨p, _, rfl, .inl (I.fz.sql hp), by rw [List.length_map]; exact k _ rfl⟩
theorem RepL.one (h : RepL K G xs [d]) : ∃ x, xs = [x] /\ RepD K G x d := by
 obtain ⟨x, ys, e, q, r⟩ := h
 cases (show ys = [] from r)
 exact ⟨x, e, q⟩
theorem RepL.two {a b : D} (h : RepL K G xs [a, b]) : ∃ x y, xs = [x, y] /\ RepD K G x a /\ RepD K G y b := by
 obtain ⟨x, ys, e, q, r⟩ := h
 obtain ⟨y, e2, q2⟩ := r.one
 subst e2
 exact ⟨x, y, e, q, q2⟩
theorem dLen_one (h : dLen ds = some d) : ∃ a, ds = [a] := by
 match ds, h with
 | [a], _ => exact ⟨a, rfl⟩
 | [], h => cases h
 | _ :: _ :: _, h => simp [dLen] at h
theorem vc_len : VC X (fun xs H Q => ∃ p ys, xs = [.ref p] /\ (SqL X.K H p ys \/ SqT X.K H p ys) /\ Q (.int ys.length) H) dLen := by
 intro B G H σ ρ xs ds d Q I r hf k
 obtain ⟨a, rfl⟩ := dLen_one hf
 obtain ⟨x, rfl, ra⟩ := r.one
 exact zjV I (.of I.fz ra) hf fun v q => k G H v I (Fz.refl G) q
theorem zfi {p pos : Pos} (ml : X.mg "len" = none) (ha : SA X [e] ma) (hg : Gl X "len" := by rfl) (he : starEach [e] X.env = (false, eval e X.env) :: starEach [] X.env := by rfl) : SE X (.Call (.Name "len" p) [e] [] pos) (mC dLen ma) :=
 zfe zf6 vc_len PySem.boot_len ml ha hg (by decide) (by decide) he rfl
def zcC (j : Nat) : ME := fun ρ => (ρ[j]?.bind Sl.read).bind fun d => (dLen [d]).map fun e => (e, ρ)
theorem zaV {p pos pos' : Pos} (j : Nat) (ml : X.mg "len" = none) (hN : X.N[j]? = some x := by rfl) (hv : Vis X.env.scope x := by first | exact Or.inl rfl | exact Or.inr (Or.inl rfl) | exact Or.inr (Or.inr rfl)) (hd : (x == ("__debug__" : Str)) = false := by decide)
  (hcd : (x == ("__classdict__" : Str)) = false := by decide) (hg : Gl X "len" := by rfl) (he : starEach [.Name x pos'] X.env = (false, eval (.Name x pos') X.env) :: starEach [] X.env := by rfl) : SE X (.Call (.Name "len" p) [.Name x pos'] [] pos) (zcC j) := by
 refine ⟨_, zjm zf6 hg ml PySem.boot_len (zdh (zbw hN hv hd hcd) zgj he) (by decide) (by decide) he rfl, fun B G H σ ρ d ρ' Q I hm k => ?_⟩
 unfold zcC at hm
 cases e2 : ρ[j]? with
 | none => rw [e2] at hm; cases hm
 | some s =>
  rw [e2] at hm
  simp only [Option.bind_some] at hm
  cases e3 : s.read with
  | none => rw [e3] at hm; cases hm
  | some a =>
   rw [e3] at hm
   simp only [Option.bind_some] at hm
   cases e4 : dLen [a] with
   | none => rw [e4] at hm; cases hm
   | some c =>
    rw [e4] at hm
    cases hm
    have hh : hasV ρ j = true := by
     unfold hasV
     rw [e2]
     cases s <;> first | rfl | cases e3
    obtain ⟨v, ev⟩ := I.has hh
    exact ⟨v, ev, zjV I (I.read ev e2 e3) e4 fun w q => k G H w I (Fz.refl G) q⟩
def zb9 : List D -> Option D
 | [.lst ds] => some (.tup ds)
 | [.tup ds] => some (.tup ds)
 | [.scr ns] => some (.tup (ns.map .int))
 | _ => none
theorem vc_tuple : VC X (fun xs H Q => ∃ p ys, xs = [.ref p] /\ ((SqL X.K H p ys /\ ∀ l, H l = none -> Q (.ref l) (upd H l (.tup ys))) \/ (SqT X.K H p ys /\ Q (.ref p) H))) zb9 := by
 intro B G H σ ρ xs ds d Q I r hf k
 match ds, hf with
 | [a], hf =>
  obtain ⟨x, rfl, ra⟩ := r.one
  cases a <;> simp only [zb9] at hf <;> try cases hf
  ·obtain ⟨p, ys, rfl, hp, q⟩ := I.lst ra
   refine ⟨p, ys, rfl, .inl ⟨SqL.of hp, fun l hl => ?_⟩⟩
   obtain ⟨I2, f2, r2⟩ := I.newT hl q
   exact k _ _ _ I2 f2 r2
  ·obtain ⟨p, ys, e, hp, q⟩ := I.tup ra
   subst e
   exact ⟨p, ys, rfl, .inr ⟨SqT.of hp, k G H _ I (Fz.refl G) ra⟩⟩
  ·obtain ⟨p, rfl, hp⟩ := ra
   refine ⟨p, _, rfl, .inl ⟨I.fz.sql hp, fun l hl => ?_⟩⟩
   obtain ⟨I2, f2, r2⟩ := I.newT hl (RepL.ints _)
   exact k _ _ _ I2 f2 r2
 | [], hf => cases hf
 | _ :: _ :: _, hf => simp [zb9] at hf
theorem zcm {p pos : Pos} (ml : X.mg "tuple" = none) (ha : SA X [e] ma) (hg : Gl X "tuple" := by rfl) (he : starEach [e] X.env = (false, eval e X.env) :: starEach [] X.env := by rfl) (hb : bootBuiltins "tuple" = some (.type "tuple") := by decide +kernel) :
  SE X (.Call (.Name "tuple" p) [e] [] pos) (mC zb9 ma) :=
 zlK zhT vc_tuple hb ml ha hg (by decide) (by decide) he rfl
def zaX : List D -> Option (List D)
 | [.lst ds] => some ds
 | [.tup ds] => some ds
 | [.scr ns] => some (ns.map .int)
 | _ => none
theorem SI.newO (I : SI K B G H σ ρ) (hp : H p = none) (xs : List V) : SI K B G (upd H p (.lst xs)) σ ρ /\ G p = none /\ (upd H p (.lst xs)) p = some (.lst xs) /\ B.H p = none /\ Nw K G (upd H p (.lst xs)) σ ρ p :=
 ⟨I.allocO hp _, I.fz.free hp, zar, I.there p hp, I.nw_move (I.nw hp) fun i s a _ _ g h => ⟨g, zam fun z => h (by rw [z]; exact hp)⟩⟩
section
variable {X : Cx} {es : List Expr} {ma : MA} {pos : Pos}
def eTup (ma : MA) : ME := fun ρ => (ma ρ).bind fun p => if p.1.length <= 16777216 then some (.tup p.1, p.2) else none
theorem zcq {x1} (h : SA X es ma) : SE X (.Tuple es x1 pos) (eTup ma) := by
 obtain ⟨t, pa, sa⟩ := h
 refine ⟨_, pe_tup pa, fun B G H σ ρ d ρ' Q I hm k => ?_⟩
 unfold eTup at hm
 cases e1 : ma ρ with
 | none => rw [e1] at hm; cases hm
 | some q =>
  obtain ⟨ds, ρ1⟩ := q
  rw [e1] at hm
  simp only [Option.bind_some] at hm
  split at hm
  ·rename_i hl
   cases hm
   refine sa B G H σ ρ ds ρ' _ I e1 fun G1 H1 vs I1 f1 r1 => ⟨by rw [r1.length, sizeLine_eq]; exact hl, fun p hp => ?_⟩
   obtain ⟨I2, f2, r2⟩ := I1.newT hp r1
   exact k _ _ _ I2 (f1.trans f2) r2
  ·cases hm
def oLst (ma : MA) : MO := fun ρ => (ma ρ).bind fun p => if p.1.length <= 16777216 then some (p.1, p.2) else none
theorem zbh (h : SA X es ma) : SO X (.List es pos) (oLst ma) := by
 obtain ⟨t, pa, sa⟩ := h
 refine ⟨_, pe_lst pa, fun B G H σ ρ d ρ' Q I hm k => ?_⟩
 unfold oLst at hm
 cases e1 : ma ρ with
 | none => rw [e1] at hm; cases hm
 | some q =>
  obtain ⟨ds, ρ1⟩ := q
  rw [e1] at hm
  simp only [Option.bind_some] at hm
  split at hm
  ·rename_i hl
   cases hm
   refine sa B G H σ ρ _ ρ' _ I e1 fun G1 H1 vs I1 f1 r1 => ⟨by rw [r1.length, sizeLine_eq]; exact hl, fun p hp => ?_⟩
   obtain ⟨I2, g2, h2, b2, n2⟩ := I1.newO hp vs
   exact k G1 _ p vs I2 f1 g2 h2 r1 b2 n2
  ·cases hm
end
theorem zad {α β : Type} {o : Option α} {f : α -> Option β} {b : β} (h : o.bind f = some b) : ∃ a, o = some a /\ f a = some b := by
 cases o with
 | none => cases h
 | some a => exact ⟨a, rfl, h⟩
theorem zas {α β : Type} {o : Option α} {f : α -> β} {b : β} (h : o.map f = some b) : ∃ a, o = some a /\ f a = b := by
 cases o with
 | none => cases h
 | some a => cases h; exact ⟨a, rfl, rfl⟩
def dTru : D -> Option Bool
 | .bl b => some b
 | .int i => some (i != 0)
 | .non => some false
 | .lst ds => some (!ds.isEmpty)
 | .tup ds => some (!ds.isEmpty)
 | _ => none
def tTru (ma : ME) : MT := fun ρ => (ma ρ).bind fun p => (dTru p.1).map fun b => (b, p.2)
section
variable {X : Cx} {a b c : Expr} {ma mb mc : ME} {pos : Pos}
theorem zlO (h : RepL K G xs ds) : (!xs.isEmpty) = !ds.isEmpty := by
 have := h.length
 cases xs <;> cases ds <;> simp_all
theorem zjs (ha : SE X a ma) (he : ∀ whole, isTrue a X.env whole = (do let v <- whole; standAt a.pos; holding [v] (truthy v)) := by exact fun _ => rfl) : STt X a (tTru ma) := by
  obtain ⟨ta, pa, sa⟩ := ha
  refine ⟨_, pt_truth pa he, fun B G H σ ρ d ρ' Q I hm k => ?_⟩
  obtain ⟨⟨x, ρ1⟩, e1, e2⟩ := zad hm
  obtain ⟨t, e3, e4⟩ := zas e2
  obtain ⟨rfl, rfl⟩ := Prod.mk.inj e4
  refine sa B G H σ ρ x ρ1 _ I e1 fun G1 H1 v I1 f1 r1 => ⟨t, ?_, k G1 H1 I1 f1⟩
  cases x <;> simp only [dTru] at e3 <;> try cases e3
  . cases r1; exact rfl
  . cases r1; exact rfl
  . cases r1; exact rfl
  . obtain ⟨p, xs, rfl, hp, r⟩ := I1.lst r1
    exact .inl ⟨xs, SqL.of hp, (zlO r).symm⟩
  . obtain ⟨p, xs, rfl, hp, r⟩ := I1.tup r1
    exact .inr (.inl ⟨xs, SqT.of hp, (zlO r).symm⟩)
theorem zfA {r : R2} (ho : OpR X (compareOp op) r) (hv : V2 X r f) (hB : ∀ x y d, f x y = some d -> ∃ t, d = .bl t) (ha : SE X a ma) (hb : SE X b mb) (hm : behindInMarks op b = false) : STt X (.Compare a [op] [b] pos) (tTru (m2 f ma mb)) := by
 obtain ⟨ta, pa, sa⟩ := ha
 obtain ⟨tb, pb, sb⟩ := hb
 refine ⟨_, pt_cmpR ho pa pb hm, fun B G H σ ρ d ρ' Q I hm k => ?_⟩
 obtain ⟨⟨x, ρ1⟩, e1, e2⟩ := zad hm
 obtain ⟨t, e3, e4⟩ := zas e2
 obtain ⟨rfl, rfl⟩ := Prod.mk.inj e4
 obtain ⟨_, _, _, _, _, e5⟩ := m2_inv e1
 obtain ⟨t', rfl⟩ := hB _ _ _ e5
 obtain rfl : t' = t := Option.some.inj e3
 refine zjr hv sa sb B G H σ ρ (.bl t') ρ1 _ I e1 fun G1 H1 v I1 f1 r1 => ?_
 cases (show v = V.bl t' from r1)
 exact ⟨t', rfl, k G1 H1 I1 f1⟩
theorem ziN {g : Int -> Int -> Bool} (x y d : D) (h : dI2 (fun _ _ => true) (fun i j => .bl (g i j)) x y = some d) : ∃ t, d = .bl t := by
 cases x <;> cases y <;> simp only [dI2] at h <;> try cases h
 exact ⟨_, rfl⟩
theorem bl_eq (x y d : D) (h : dEq x y = some d) : ∃ t, d = .bl t := by
 unfold dEq at h
 split at h
 ·cases h; exact ⟨_, rfl⟩
 ·cases h
theorem bl_ne (x y d : D) (h : dNe x y = some d) : ∃ t, d = .bl t := by
 unfold dNe at h
 split at h
 ·cases h; exact ⟨_, rfl⟩
 ·cases h
theorem st_lt (ha : SE X a ma) (hb : SE X b mb) : STt X (.Compare a [.Lt] [b] pos) (tTru (m2 dLt ma mb)) := zfA op_lt zcJ ziN ha hb (zfU _)
theorem st_gt (ha : SE X a ma) (hb : SE X b mb) : STt X (.Compare a [.Gt] [b] pos) (tTru (m2 dGt ma mb)) := zfA op_gt zcJ ziN ha hb (zfU _)
theorem st_ge (ha : SE X a ma) (hb : SE X b mb) : STt X (.Compare a [.GtE] [b] pos) (tTru (m2 dGe ma mb)) := zfA op_ge zcJ ziN ha hb (zfU _)
theorem st_eq (hu : X.A.units + 64 < cLine) (ha : SE X a ma) (hb : SE X b mb) : STt X (.Compare a [.Eq] [b] pos) (tTru (m2 dEq ma mb)) := zfA (op_eqD hu) v2_eq bl_eq ha hb (zfU _)
theorem zit (hu : X.A.units + 64 < cLine) (ha : SE X a ma) (hb : SE X b mb) : STt X (.Compare a [.NotEq] [b] pos) (tTru (m2 dNe ma mb)) := zfA (op_neD hu) v2_ne bl_ne ha hb (zfU _)
end
def STw (X : Cx) (e : Expr) (m : MT) : Prop :=
 ∃ t, PW X e t /\ ∀ B G H σ ρ d ρ' (Q : Bool -> Hp -> Prop), SI X.K B G H σ ρ -> m ρ = some (d, ρ') -> (∀ G' H', SI X.K B G' H' σ ρ' -> Fz G G' -> Q d H') -> t σ H Q
theorem STw.st {m : MT} (h : STw X e m) : STt X e m := let ⟨t, p, s⟩ := h; ⟨t, p.pt, s⟩
def tAndM (a b : MT) : MT := fun ρ => (a ρ).bind fun p => if p.1 then b p.2 else some (false, p.2)
def tOrM (a b : MT) : MT := fun ρ => (a ρ).bind fun p => if p.1 then some (true, p.2) else b p.2
def zkl (a : MT) : MT := fun ρ => (a ρ).map fun p => (!p.1, p.2)
section
variable {X : Cx} {a b c : Expr} {ma mb : MT} {pos : Pos} {rest : List Expr}
theorem sw_and1 (h : STt X a ma) : STw X (.BoolOp .And [a] pos) ma := let ⟨t, p, s⟩ := h; ⟨t, pw_and1 p, s⟩
theorem zjy (h : STt X a ma) : STw X (.BoolOp .Or [a] pos) ma := let ⟨t, p, s⟩ := h; ⟨t, pw_or1 p, s⟩
theorem sw_and (ha : STt X a ma) (hb : STw X (.BoolOp .And (b :: rest) pos) mb) : STw X (.BoolOp .And (a :: b :: rest) pos) (tAndM ma mb) := by
 obtain ⟨ta, pa, sa⟩ := ha
 obtain ⟨tb, pb, sb⟩ := hb
 refine ⟨_, pw_and pa pb, fun B G H σ ρ d ρ' Q I hm k => ?_⟩
 obtain ⟨⟨x, ρ1⟩, e1, e2⟩ := zad hm
 refine sa B G H σ ρ x ρ1 _ I e1 fun G1 H1 I1 f1 => ?_
 cases x with
 | true => exact sb B G1 H1 σ ρ1 d ρ' Q I1 e2 fun G2 H2 I2 f2 => k G2 H2 I2 (f1.trans f2)
 | false => cases e2; exact k G1 H1 I1 f1
theorem sw_or (ha : STt X a ma) (hb : STw X (.BoolOp .Or (b :: rest) pos) mb) : STw X (.BoolOp .Or (a :: b :: rest) pos) (tOrM ma mb) := by
 obtain ⟨ta, pa, sa⟩ := ha
 obtain ⟨tb, pb, sb⟩ := hb
 refine ⟨_, pw_or pa pb, fun B G H σ ρ d ρ' Q I hm k => ?_⟩
 obtain ⟨⟨x, ρ1⟩, e1, e2⟩ := zad hm
 refine sa B G H σ ρ x ρ1 _ I e1 fun G1 H1 I1 f1 => ?_
 cases x with
 | false => exact sb B G1 H1 σ ρ1 d ρ' Q I1 e2 fun G2 H2 I2 f2 => k G2 H2 I2 (f1.trans f2)
 | true => cases e2; exact k G1 H1 I1 f1
theorem zjW (ha : STt X a ma) : STt X (.UnaryOp .Not a pos) (zkl ma) := by
 obtain ⟨ta, pa, sa⟩ := ha
 refine ⟨_, pt_not pa, fun B G H σ ρ d ρ' Q I hm k => ?_⟩
 obtain ⟨⟨x, ρ1⟩, e1, e2⟩ := zas hm
 cases e2
 exact sa B G H σ ρ x ρ1 _ I e1 fun G1 H1 I1 f1 => k G1 H1 I1 f1
end
def eAnd (a b : ME) : ME := fun ρ => (a ρ).bind fun p => match p.1 with
 | .bl true => b p.2
 | .bl false => some (.bl false, p.2)
 | _ => none
def eOr (a b : ME) : ME := fun ρ => (a ρ).bind fun p => match p.1 with
 | .bl true => some (.bl true, p.2)
 | .bl false => b p.2
 | _ => none
section
variable {X : Cx} {a b c : Expr} {ma mb : ME} {pos : Pos} {rest : List Expr} {op : BoolOp}
theorem zhh (h : SE X a ma) : SE X (.BoolOp op [a] pos) ma := let ⟨t, p, s⟩ := h; ⟨t, pe_one p, s⟩
theorem zg9 (ha : SE X a ma) (hb : SE X (.BoolOp .And (b :: rest) pos) mb) : SE X (.BoolOp .And (a :: b :: rest) pos) (eAnd ma mb) := by
 obtain ⟨ta, pa, sa⟩ := ha
 obtain ⟨tb, pb, sb⟩ := hb
 refine ⟨_, pe_and pa pb, fun B G H σ ρ d ρ' Q I hm k => ?_⟩
 obtain ⟨⟨x, ρ1⟩, e1, e2⟩ := zad hm
 refine sa B G H σ ρ x ρ1 _ I e1 fun G1 H1 v I1 f1 r1 => ?_
 cases x <;> try cases e2
 rename_i y
 refine ⟨y, r1, ?_⟩
 cases y with
 | true => exact sb B G1 H1 σ ρ1 d ρ' Q I1 e2 fun G2 H2 v I2 f2 r2 => k G2 H2 v I2 (f1.trans f2) r2
 | false => cases e2; exact k G1 H1 _ I1 f1 rfl
def eIf (c : MT) (a b : ME) : ME := fun ρ => (c ρ).bind fun p => if p.1 then a p.2 else b p.2
theorem zjg (hc : STt X c mc) (ha : SE X a ma) (hb : SE X b mb) : SE X (.IfExp c a b pos) (eIf mc ma mb) := by
 obtain ⟨tc, pc, sc⟩ := hc
 obtain ⟨ta, pa, sa⟩ := ha
 obtain ⟨tb, pb, sb⟩ := hb
 refine ⟨_, pe_ifExp pc pa pb, fun B G H σ ρ d ρ' Q I hm k => ?_⟩
 obtain ⟨⟨x, ρ1⟩, e1, e2⟩ := zad hm
 refine sc B G H σ ρ x ρ1 _ I e1 fun G1 H1 I1 f1 => ?_
 cases x with
 | true => exact sa B G1 H1 σ ρ1 d ρ' Q I1 e2 fun G2 H2 v I2 f2 r2 => k G2 H2 v I2 (f1.trans f2) r2
 | false => exact sb B G1 H1 σ ρ1 d ρ' Q I1 e2 fun G2 H2 v I2 f2 r2 => k G2 H2 v I2 (f1.trans f2) r2
end
def zeM (f g : D -> D -> Option D) (a b c : ME) : ME := fun ρ => (a ρ).bind fun p => (b p.2).bind fun q => (f p.1 q.1).bind fun t => match t with
 | .bl true => (c q.2).bind fun r => (g q.1 r.1).map fun d => (d, r.2)
 | .bl false => some (.bl false, q.2)
 | _ => none
section
variable {X : Cx} {a b c : Expr} {ma mb mc : ME} {pos : Pos}
theorem zgS {r r' : R2} {f g : D -> D -> Option D} {ta tb tc : TE} (hv : V2 X r f) (hw : V2 X r' g)
  (sa : ∀ B G H σ ρ d ρ' (Q : VK), SI X.K B G H σ ρ -> ma ρ = some (d, ρ') -> (∀ G' H' v, SI X.K B G' H' σ ρ' -> Fz G G' -> RepD X.K G' v d -> Q v H') -> ta σ H Q)
  (sb : ∀ B G H σ ρ d ρ' (Q : VK), SI X.K B G H σ ρ -> mb ρ = some (d, ρ') -> (∀ G' H' v, SI X.K B G' H' σ ρ' -> Fz G G' -> RepD X.K G' v d -> Q v H') -> tb σ H Q)
  (sc : ∀ B G H σ ρ d ρ' (Q : VK), SI X.K B G H σ ρ -> mc ρ = some (d, ρ') -> (∀ G' H' v, SI X.K B G' H' σ ρ' -> Fz G G' -> RepD X.K G' v d -> Q v H') -> tc σ H Q) :
  ∀ B G H σ ρ d ρ' (Q : VK), SI X.K B G H σ ρ -> zeM f g ma mb mc ρ = some (d, ρ') -> (∀ G' H' v, SI X.K B G' H' σ ρ' -> Fz G G' -> RepD X.K G' v d -> Q v H') -> zl1 r r' ta tb tc σ H Q := by
 intro B G H σ ρ d ρ' Q I hm k
 obtain ⟨⟨x, ρ1⟩, e1, h1⟩ := zad hm
 obtain ⟨⟨y, ρ2⟩, e2, h2⟩ := zad h1
 obtain ⟨t, e3, h3⟩ := zad h2
 refine sa B G H σ ρ x ρ1 _ I e1 fun G1 H1 v I1 f1 r1 => sb B G1 H1 σ ρ1 y ρ2 _ I1 e2 fun G2 H2 u I2 f2 r2 => hv B G2 H2 σ ρ2 v u x y t _ I2 (r1.mono f2) r2 e3 fun G3 H3 z I3 f3 r3 => ?_
 cases t <;> try cases h3
 rename_i t
 refine ⟨t, r3, ?_⟩
 cases t with
 | true =>
  obtain ⟨⟨w, ρ3⟩, e4, h4⟩ := zad h3
  obtain ⟨d', e5, e6⟩ := zas h4
  cases e6
  exact sc B G3 H3 σ ρ2 w ρ3 _ I3 e4 fun G4 H4 s I4 f4 r4 => hw B G4 H4 σ ρ3 u s y w d Q I4 (r2.mono (f3.trans f4)) r4 e5 fun G5 H5 z5 I5 f5 r5 => k G5 H5 z5 I5 (f1.trans (f2.trans (f3.trans (f4.trans f5)))) r5
 | false => cases h3; exact k G3 H3 _ I3 (f1.trans (f2.trans f3)) rfl
theorem zhy {r r' : R2} {f g : D -> D -> Option D} (ho : OpR X (compareOp op) r) (ho' : OpR X (compareOp op') r') (hv : V2 X r f) (hw : V2 X r' g) (ha : SE X a ma) (hb : SE X b mb) (hc : SE X c mc)
  (hm : lastMarks [op, op'] [b, c] = false := by with_unfolding_all rfl) : SE X (.Compare a [op, op'] [b, c] pos) (zeM f g ma mb mc) := by
 obtain ⟨ta, pa, sa⟩ := ha
 obtain ⟨tb, pb, sb⟩ := hb
 obtain ⟨tc, pc, sc⟩ := hc
 exact ⟨_, pe_chain ho ho' pa pb pc hm, zgS hv hw sa sb sc⟩
theorem zjd {r r' : R2} {f g : D -> D -> Option D} (ho : OpR X (compareOp op) r) (ho' : OpR X (compareOp op') r') (hv : V2 X r f) (hw : V2 X r' g) (hB : ∀ x y d, g x y = some d -> ∃ t, d = .bl t) (ha : SE X a ma) (hb : SE X b mb) (hc : SE X c mc)
  (hm : lastMarks [op, op'] [b, c] = false := by with_unfolding_all rfl) : STt X (.Compare a [op, op'] [b, c] pos) (tTru (zeM f g ma mb mc)) := by
 obtain ⟨ta, pa, sa⟩ := ha
 obtain ⟨tb, pb, sb⟩ := hb
 obtain ⟨tc, pc, sc⟩ := hc
 refine ⟨_, pt_chain ho ho' pa pb pc hm, fun B G H σ ρ d ρ' Q I hm k => ?_⟩
 obtain ⟨⟨x, ρ1⟩, e1, e2⟩ := zad hm
 obtain ⟨t, e3, e4⟩ := zas e2
 obtain ⟨rfl, rfl⟩ := Prod.mk.inj e4
 have hx : ∃ t', x = .bl t' := by
  obtain ⟨⟨x', ρ1'⟩, _, h1⟩ := zad e1
  obtain ⟨⟨y', ρ2'⟩, _, h2⟩ := zad h1
  obtain ⟨t', et', h3⟩ := zad h2
  clear et'
  cases t' <;> try cases h3
  rename_i t'
  cases t' with
  | true =>
   obtain ⟨⟨w, ρ3⟩, e4, h4⟩ := zad h3
   obtain ⟨d', e5, e6⟩ := zas h4
   cases e6
   exact hB _ _ _ e5
  | false => cases h3; exact ⟨_, rfl⟩
 obtain ⟨t', rfl⟩ := hx
 obtain rfl : t' = t := Option.some.inj e3
 refine zgS hv hw sa sb sc B G H σ ρ (.bl t') ρ1 _ I e1 fun G1 H1 v I1 f1 r1 => ?_
 cases (show v = V.bl t' from r1)
 exact ⟨t', rfl, k G1 H1 I1 f1⟩
end
inductive Fl where
 | next | brk | cont | ret (r : Sl)
abbrev MS := R -> Option (Fl × R)
def ResOk (K : W.Frag) (B : Bs) (G H : Hp) (v : V) : Sl -> Prop
 | .val d => RepD K G v d
 | .own ds => ∃ l xs, v = .ref l /\ G l = none /\ H l = some (.lst xs) /\ RepL K G xs ds /\ B.H l = none
 | .tre t => ∃ A, RepT K G H v t A /\ A.Nodup /\ ∀ a ∈ A, G a = none /\ B.H a = none
 | .two ds es => ∃ t l xs m ys, v = .ref t /\ H t = some (.tup [.ref l, .ref m]) /\ l ≠ m /\ G l = none /\ H l = some (.lst xs) /\ RepL K G xs ds /\ B.H l = none /\ G m = none /\ H m = some (.lst ys) /\ RepL K G ys es /\ B.H m = none
 | _ => False
def Post (K : W.Frag) (B : Bs) (G : Hp) (E : Ends) (fl : Fl) (ρ' : R) : Prop := match fl with
 | .next => ∀ G' H' σ', SI K B G' H' σ' ρ' -> Fz G G' -> E.nx σ' H'
 | .brk => ∀ G' H' σ', SI K B G' H' σ' ρ' -> Fz G G' -> E.bk σ' H'
 | .cont => ∀ G' H' σ', SI K B G' H' σ' ρ' -> Fz G G' -> E.ct σ' H'
 | .ret r => ∀ G' H' σ' v, SI K B G' H' σ' ρ' -> Fz G G' -> ResOk K B G' H' v r -> E.rt v H'
theorem Post.mono {G G1 : Hp} {E : Ends} {fl : Fl} {ρ' : R} (h : Post K B G E fl ρ') (f : Fz G G1) : Post K B G1 E fl ρ' := by
 cases fl with
 | next => exact fun G' H' σ' I g => h G' H' σ' I (f.trans g)
 | brk => exact fun G' H' σ' I g => h G' H' σ' I (f.trans g)
 | cont => exact fun G' H' σ' I g => h G' H' σ' I (f.trans g)
 | ret r => exact fun G' H' σ' v I g => h G' H' σ' v I (f.trans g)
def SS (X : Cx) (st : Stmt) (m : MS) : Prop := ∃ t, PS X st t /\ ∀ B G H σ ρ fl ρ' (E : Ends), SI X.K B G H σ ρ -> m ρ = some (fl, ρ') -> Post X.K B G E fl ρ' -> t E σ H
def SSs (X : Cx) (st : List Stmt) (m : MS) : Prop := ∃ t, PSs X st t /\ ∀ B G H σ ρ fl ρ' (E : Ends), SI X.K B G H σ ρ -> m ρ = some (fl, ρ') -> Post X.K B G E fl ρ' -> t E σ H
def zds : MS := fun ρ => some (.next, ρ)
def sSeq (a b : MS) : MS := fun ρ => (a ρ).bind fun p => match p.1 with
 | .next => b p.2
 | f => some (f, p.2)
section
variable {X : Cx} {st : Stmt} {rest : List Stmt} {m n : MS} {e : Expr} {me : ME} {pos : Pos}
theorem zbb : SSs X [] zds := ⟨_, pss_nil, fun B G H σ ρ fl ρ' E I hm k => by cases hm; exact k G H σ I (Fz.refl G)⟩
theorem zak (h : SS X st m) : SSs X [st] m := let ⟨t, p, s⟩ := h; ⟨t, pss_one p, s⟩
theorem zae (h : SS X st m) (hr : SSs X rest n) : SSs X (st :: rest) (sSeq m n) := by
 obtain ⟨t, p, s⟩ := h
 obtain ⟨u, q, z⟩ := hr
 refine ⟨_, pss_cons p q, fun B G H σ ρ fl ρ' E I hm k => ?_⟩
 obtain ⟨⟨f, ρ1⟩, e1, e2⟩ := zad hm
 refine s B G H σ ρ f ρ1 _ I e1 ?_
 cases f with
 | next => exact fun G1 H1 σ1 I1 f1 => z B G1 H1 σ1 ρ1 fl ρ' E I1 e2 (k.mono f1)
 | brk => cases e2; exact k
 | cont => cases e2; exact k
 | ret r => cases e2; exact k
def sRet (m : ME) : MS := fun ρ => (m ρ).map fun p => (.ret (.val p.1), p.2)
theorem zax (h : SE X e me) : SS X (.Return (some e) pos) (sRet me) := by
 obtain ⟨t, p, s⟩ := h
 refine ⟨_, ziI p, fun B G H σ ρ fl ρ' E I hm k => ?_⟩
 obtain ⟨⟨d, ρ1⟩, e1, e2⟩ := zas hm
 cases e2
 exact s B G H σ ρ d ρ1 _ I e1 fun G1 H1 v I1 f1 r1 => k G1 H1 σ v I1 f1 r1
def zhs (m : MO) : MS := fun ρ => (m ρ).map fun p => (.ret (.own p.1), p.2)
theorem zeW {mo : MO} (h : SO X e mo) : SS X (.Return (some e) pos) (zhs mo) := by
 obtain ⟨t, p, s⟩ := h
 refine ⟨_, ziI p, fun B G H σ ρ fl ρ' E I hm k => ?_⟩
 obtain ⟨⟨d, ρ1⟩, e1, e2⟩ := zas hm
 cases e2
 exact s B G H σ ρ d ρ1 _ I e1 fun G1 H1 l xs I1 f1 g1 h1 r1 b1 _ => k G1 H1 σ _ I1 f1 ⟨l, xs, rfl, g1, h1, r1, b1⟩
theorem SI.emp (I : SI K B G H σ ρ) (i : Nat) : SI K B G H σ (ρ.set i .emp) := by
 by_cases hi : i < ρ.length
 ·have hs : σ[i]? = some (σ[i]'(by rw [I.len]; exact hi)) := List.getElem?_eq_getElem _
  have h := I.chg (i := i) (ov := σ[i]'(by rw [I.len]; exact hi)) (s' := .emp) I.fz (Fz.refl G) I.new I.keep I.there (fun _ _ _ _ _ _ g _ => ⟨g, rfl, id⟩) trivial
  rwa [zgp hs] at h
 ·rw [List.set_eq_of_length_le (by omega)]; exact I
def zg3 (i : Nat) : MS := fun ρ => match ρ[i]? with
 | some (.val d) => some (.ret (.val d), ρ)
 | some (.own ds) => some (.ret (.own ds), ρ.set i .emp)
 | _ => none
theorem zeZ (i : Nat) (hN : X.N[i]? = some x := by rfl) (hv : Vis X.env.scope x := by first | exact Or.inl rfl | exact Or.inr (Or.inl rfl) | exact Or.inr (Or.inr rfl)) (hd : (x == ("__debug__" : Str)) = false := by decide)
  (hcd : (x == ("__classdict__" : Str)) = false := by decide) : SS X (.Return (some (.Name x pos')) pos) (zg3 i) := by
 refine ⟨_, ziI (zbw hN hv hd hcd), fun B G H σ ρ fl ρ' E I hm k => ?_⟩
 unfold zg3 at hm
 cases e : ρ[i]? with
 | none => rw [e] at hm; cases hm
 | some s =>
  rw [e] at hm
  have h := I.slot i s e
  cases s with
  | emp => cases hm
  | two _ _ => cases hm
  | tre _ => cases hm
  | ptr _ => cases hm
  | par ds => cases hm
  | val d => cases hm; obtain ⟨v, h1, h2⟩ := h; exact ⟨v, h1, k G H σ v I (Fz.refl G) h2⟩
  | own ds =>
   cases hm
   obtain ⟨l, xs, h1, h2, h3, h4, h5⟩ := h
   exact ⟨.ref l, h1, k G H σ _ (I.emp i) (Fz.refl G) ⟨l, xs, rfl, h2, h3, h4, h5⟩⟩
def sIf (c : MT) (a b : MS) : MS := fun ρ => (c ρ).bind fun p => if p.1 then a p.2 else b p.2
theorem zew {c : Expr} {a b : List Stmt} {ma mb : MS} (hc : STt X c mc) (ha : SSs X a ma) (hb : SSs X b mb) : SS X (.If c a b pos) (sIf mc ma mb) := by
 obtain ⟨tc, pc, sc⟩ := hc
 obtain ⟨ta, pa, sa⟩ := ha
 obtain ⟨tb, pb, sb⟩ := hb
 refine ⟨_, ps_if pc pa pb, fun B G H σ ρ fl ρ' E I hm k => ?_⟩
 obtain ⟨⟨x, ρ1⟩, e1, e2⟩ := zad hm
 refine sc B G H σ ρ x ρ1 _ I e1 fun G1 H1 I1 f1 => ?_
 cases x with
 | true => exact sa B G1 H1 σ ρ1 fl ρ' E I1 e2 (k.mono f1)
 | false => exact sb B G1 H1 σ ρ1 fl ρ' E I1 e2 (k.mono f1)
end
def SG (X : Cx) (tg : Expr) (g : D -> R -> Option R) : Prop := ∃ t, PG X tg t /\ ∀ B G H σ ρ v d ρ' (Q : St -> Hp -> Prop), SI X.K B G H σ ρ -> RepD X.K G v d -> g d ρ = some ρ' -> (∀ G' H' σ', SI X.K B G' H' σ' ρ' -> Fz G G' -> Q σ' H') -> t v σ H Q
def SGs (X : Cx) (tgs : List Expr) (g : List D -> R -> Option R) : Prop := ∃ t, PGs X tgs t /\ ∀ B G H σ ρ vs ds ρ' (Q : St -> Hp -> Prop), SI X.K B G H σ ρ -> RepL X.K G vs ds -> g ds ρ = some ρ' -> (∀ G' H' σ', SI X.K B G' H' σ' ρ' -> Fz G G' -> Q σ' H') -> t vs σ H Q
def gN (i : Nat) : D -> R -> Option R := fun d ρ => some (ρ.set i (.val d))
def zda : List D -> R -> Option R := fun ds ρ => match ds with
 | [] => some ρ
 | _ => none
def zau (g : D -> R -> Option R) (h : List D -> R -> Option R) : List D -> R -> Option R := fun ds ρ => match ds with
 | d :: ds => (g d ρ).bind fun ρ1 => h ds ρ1
 | [] => none
def gT (n : Nat) (g : List D -> R -> Option R) : D -> R -> Option R := fun d ρ => match d with
 | .tup ds => if ds.length = n then g ds ρ else none
 | _ => none
section
variable {X : Cx} {pos : Pos}
theorem zal (i : Nat) (hN : X.N.Nodup) (hi : X.N[i]? = some x := by rfl) (hx : Loc X.env.scope x := by first | exact Or.inl rfl | exact Or.inr rfl) (hf : X.fn x = true \/ X.env.scope.names.lookup x = some .local := by first | exact Or.inl rfl | exact Or.inr rfl) : SG X (.Name x pos) (gN i) :=
 ⟨_, zh2 hN hi hx hf, fun B G H σ ρ v d ρ' Q I r hm k => by cases hm; exact k G H _ (I.set r) (Fz.refl G)⟩
theorem za6 : SGs X [] zda := ⟨_, zkV, fun B G H σ ρ vs ds ρ' Q I r hm k => by
 cases ds with
 | nil => cases hm; exact ⟨r, k G H σ I (Fz.refl G)⟩
 | cons => cases hm⟩
theorem zan {e : Expr} (h1 : SG X e g) (h2 : SGs X es h) (hs : (assignEach (e :: es) X.env).map (·.2) = assign e X.env :: (assignEach es X.env).map (·.2) := by rfl) : SGs X (e :: es) (zau g h) := by
 obtain ⟨t, p, s⟩ := h1
 obtain ⟨u, q, z⟩ := h2
 refine ⟨_, zhq p q hs, fun B G H σ ρ vs ds ρ' Q I r hm k => ?_⟩
 cases ds with
 | nil => cases hm
 | cons d ds =>
  obtain ⟨x, ys, rfl, rx, ry⟩ := r
  obtain ⟨ρ1, e1, e2⟩ := zad hm
  exact ⟨x, ys, rfl, s B G H σ ρ x d ρ1 _ I rx e1 fun G1 H1 σ1 I1 f1 => z B G1 H1 σ1 ρ1 ys ds ρ' Q I1 (ry.mono f1) e2 fun G2 H2 σ2 I2 f2 => k G2 H2 σ2 I2 (f1.trans f2)⟩
theorem zbF {g : List D -> R -> Option R} (hc : X.calm = true) (h : SGs X es g) (hn : (assignEach es X.env).length = n := by rfl) (hst : (assignEach es X.env).findIdx? (·.1) = none := by rfl) : SG X (.Tuple es k pos) (gT n g) := by
 obtain ⟨t, p, s⟩ := h
 refine ⟨_, pg_tup hc p hn hst, fun B G H σ ρ v d ρ' Q I r hm k => ?_⟩
 cases d <;> try cases hm
 rename_i ds
 simp only [gT] at hm
 split at hm
 ·rename_i hl
  obtain ⟨a, xs, e, ha, rx⟩ := I.tup r
  exact ⟨a, xs, e, SqT.of ha, by rw [rx.length]; exact hl, s B G H σ ρ xs ds ρ' Q I rx hm k⟩
 ·cases hm
variable {e tg : Expr} {me : ME} {mo : MO}
def sAsg (m : ME) (g : D -> R -> Option R) : MS := fun ρ => (m ρ).bind fun p => (g p.1 p.2).map fun ρ' => (.next, ρ')
theorem ss_asg (he : SE X e me) (hg : SG X tg g) (hs : swapsWithSole [tg] e pos.line X.env = pure false := by rfl) (hw : swappedStores [tg] e X.env = pure none := by rfl)
  (h1 : (assignEach [tg] X.env).map (·.2) = [assign tg X.env] := by rfl) : SS X (.Assign [tg] e pos) (sAsg me g) := by
 obtain ⟨t, p, s⟩ := he
 obtain ⟨u, q, z⟩ := hg
 refine ⟨_, zjp p q hs hw h1, fun B G H σ ρ fl ρ' E I hm k => ?_⟩
 obtain ⟨⟨d, ρ1⟩, e1, h2⟩ := zad hm
 obtain ⟨ρ2, e2, e3⟩ := zas h2
 obtain ⟨rfl, rfl⟩ := Prod.mk.inj e3
 exact s B G H σ ρ d ρ1 _ I e1 fun G1 H1 v I1 f1 r1 => z B G1 H1 σ ρ1 v d ρ2 _ I1 r1 e2 fun G2 H2 σ2 I2 f2 => k G2 H2 σ2 I2 (f1.trans f2)
def sSet (i : Nat) (m : ME) : MS := fun ρ => (m ρ).map fun p => (.next, p.2.set i (.val p.1))
theorem zat (i : Nat) (he : SE X e me) (hN : X.N.Nodup) (hi : X.N[i]? = some x := by rfl) (hx : Loc X.env.scope x := by first | exact Or.inl rfl | exact Or.inr rfl) (hs : swapsWith e (some (.Name x pos')) pos.line X.env = pure false := by rfl)
    (hf : X.fn x = true \/ X.env.scope.names.lookup x = some .local := by first | exact Or.inl rfl | exact Or.inr rfl) : SS X (.Assign [.Name x pos'] e pos) (sSet i me) := by
  obtain ⟨t, p, s⟩ := he
  refine ⟨_, zlR hN hi hx p hs hf, fun B G H σ ρ fl ρ' E I hm k => ?_⟩
  obtain ⟨⟨d, ρ1⟩, e1, e3⟩ := zas hm
  cases e3
  exact s B G H σ ρ d ρ1 _ I e1 fun G1 H1 v I1 f1 r1 => k G1 H1 _ (I1.set r1) f1
def zfp (i : Nat) (m : MO) : MS := fun ρ => (m ρ).map fun p => (.next, p.2.set i (.own p.1))
theorem zb3 (i : Nat) (he : SO X e mo) (hN : X.N.Nodup) (hi : X.N[i]? = some x := by rfl) (hx : Loc X.env.scope x := by first | exact Or.inl rfl | exact Or.inr rfl) (hs : swapsWith e (some (.Name x pos')) pos.line X.env = pure false := by rfl)
    (hf : X.fn x = true \/ X.env.scope.names.lookup x = some .local := by first | exact Or.inl rfl | exact Or.inr rfl) : SS X (.Assign [.Name x pos'] e pos) (zfp i mo) := by
  obtain ⟨t, p, s⟩ := he
  refine ⟨_, zlR hN hi hx p hs hf, fun B G H σ ρ fl ρ' E I hm k => ?_⟩
  obtain ⟨⟨d, ρ1⟩, e1, e3⟩ := zas hm
  cases e3
  exact s B G H σ ρ d ρ1 _ I e1 fun G1 H1 l xs I1 f1 g1 h1 r1 b1 n1 => k G1 H1 _ (I1.setO g1 h1 r1 b1 n1) f1
def sApp (i : Nat) (m : ME) : MS := fun ρ => if (ρ[i]?.bind Sl.items).isSome then (m ρ).bind fun p => p.2[i]?.bind fun s => s.items.bind fun ds => if ds.length < 16777216 then some (.next, p.2.set i (s.put (ds ++ [p.1]))) else none else none
theorem zgA (i : Nat) {pos' apos cpos : Pos} (he : SE X e me) (hN : X.N[i]? = some x := by rfl) (hv : Vis X.env.scope x := by first | exact Or.inl rfl | exact Or.inr (Or.inl rfl) | exact Or.inr (Or.inr rfl)) (hd : (x == ("__debug__" : Str)) = false := by decide)
  (hcd : (x == ("__classdict__" : Str)) = false := by decide)
  (hbase : attributeBase (.Name x pos') "append" X.env (eval (.Name x pos') X.env) = eval (.Name x pos') X.env := by rfl)
  (hfew : ((backTo cpos (starEach [e] X.env)).all (fun x => !x.1) && (backToKw cpos (keywordEach [] X.env)).all (fun x => x.1.isSome)
   && decide ([e].length + ([] : List Keyword).length + (if ([] : List Keyword).isEmpty then 0 else 1) < 30)) = true := by rfl)
  (hline : (apos.endLine == cpos.line) = true := by rfl) (hs : starEach [e] X.env = (false, eval e X.env) :: starEach [] X.env := by rfl) : SS X (.Expr (.Call (.Attribute (.Name x pos') "append" apos) [e] [] cpos) pos) (sApp i me) := by
 obtain ⟨t, p, s⟩ := he
 refine ⟨_, zll (pe_bm PySem.F.plainAttrs_list PySem.F.slot_list_append PySem.F.type_list_append zio (zbw hN hv hd hcd) (zdh p zgj hs) hbase hfew hline hs rfl) (by rfl), fun B G H σ ρ fl ρ' E I hm k => ?_⟩
 unfold sApp at hm
 split at hm
 ·rename_i hso
  obtain ⟨ds0, hso⟩ := Option.isSome_iff_exists.mp hso
  obtain ⟨s0, e0, q0⟩ := zad hso
  obtain ⟨l, xs0, h1, h2, h3, h4⟩ := I.wr e0 q0
  obtain ⟨⟨d, ρ1⟩, e1, hm⟩ := zad hm
  obtain ⟨s1, e2, hm⟩ := zad hm
  obtain ⟨ds, e3, hm⟩ := zad hm
  split at hm
  ·rename_i hl
   cases hm
   refine ⟨.ref l, h1, .inl ⟨rfl, _, SqL.of h3⟩, s B G H σ ρ d ρ1 _ I e1 fun G1 H1 v I1 f1 r1 => ?_⟩
   obtain ⟨l', xs, k1, k2, k3, k4⟩ := I1.wr e2 e3
   rw [h1] at k1; cases k1
   refine ⟨l, xs, v, rfl, rfl, k3, by rw [k4.length, sizeLine_eq]; exact hl, ?_⟩
   exact k G1 _ σ (I1.write e2 e3 h1 (k4.snoc r1)) f1
  ·cases hm
 ·cases hm
def sPut (j : Nat) (mi me : ME) : MS := fun ρ => (me ρ).bind fun p => if hasV p.2 j then (mi p.2).bind fun q => match q.1 with
 | .int k => q.2[j]?.bind fun s => s.items.bind fun ds => (ixN ds.length k).bind fun n => some (.next, q.2.set j (s.put (ds.set n p.1)))
 | _ => none else none
theorem zjB (j : Nat) {i : Expr} {mi : ME} {pos' tpos : Pos} (he : SE X e me) (hi : SE X i mi) (hN : X.N[j]? = some x := by rfl) (hv : Vis X.env.scope x := by first | exact Or.inl rfl | exact Or.inr (Or.inl rfl) | exact Or.inr (Or.inr rfl)) (hd : (x == ("__debug__" : Str)) = false := by decide)
  (hcd : (x == ("__classdict__" : Str)) = false := by decide)
  (ha : ∀ v, assign (.Subscript (.Name x pos') i tpos) X.env v = (do
   let ov <- holding [v] (eval (.Name x pos') X.env)
   let iv <- holding [v, ov] (eval i X.env)
   standAt tpos
   holding [v, ov, iv] (setItem ov iv v)
   release [v, ov, iv] []) := by exact fun _ => rfl)
  (hs : swapsWithSole [.Subscript (.Name x pos') i tpos] e pos.line X.env = pure false := by rfl) (hw : swappedStores [.Subscript (.Name x pos') i tpos] e X.env = pure none := by rfl)
  (h1 : (assignEach [.Subscript (.Name x pos') i tpos] X.env).map (·.2) = [assign (.Subscript (.Name x pos') i tpos) X.env] := by rfl) : SS X (.Assign [.Subscript (.Name x pos') i tpos] e pos) (sPut j mi me) := by
 obtain ⟨t, p, s⟩ := he
 obtain ⟨u, q, z⟩ := hi
 refine ⟨_, zjp p (pg_sub (zbw hN hv hd hcd) q zhB ha) hs hw h1, fun B G H σ ρ fl ρ' E I hm k => ?_⟩
 obtain ⟨⟨d, ρ1⟩, e1, hm⟩ := zad hm
 refine s B G H σ ρ d ρ1 _ I e1 fun G1 H1 v I1 f1 r1 => ?_
 split at hm
 ·rename_i hh
  obtain ⟨w, ew⟩ := I1.has hh
  obtain ⟨⟨kd, ρ2⟩, e2, hm⟩ := zad hm
  cases kd <;> try cases hm
  rename_i kk
  obtain ⟨s2, e3, hm⟩ := zad hm
  obtain ⟨ds, e4, hm⟩ := zad hm
  obtain ⟨n, e5, hm⟩ := zad hm
  cases hm
  refine ⟨w, ew, z B G1 H1 σ ρ1 (.int kk) ρ2 _ I1 e2 fun G2 H2 y I2 f2 r2 => ?_⟩
  obtain ⟨l, xs, k1, k2, k3, k4⟩ := I2.wr e3 e4
  rw [ew] at k1; cases k1
  refine ⟨l, xs, kk, n, rfl, r2, k3, by rw [k4.length]; exact e5, ?_⟩
  exact k G2 _ σ (I2.write e3 e4 ew (k4.set n (r1.mono f2))) (f1.trans f2)
 ·cases hm
end
structure Itm (K : W.Frag) (J : It) (G : Hp) (items : List D) : Prop where
 go : ∀ H i, Fz G H -> i < items.length -> J.go i H
 yld : ∀ H i x H', Fz G H -> J.yld i H x H' -> ∀ d, items[i]? = some d -> (H' = H /\ RepD K G x d) \/ ∃ p xs ds, H p = none /\ H' = upd H p (.tup xs) /\ x = .ref p /\ d = .tup ds /\ RepL K G xs ds
 stop : ∀ H i, Fz G H -> items.length <= i -> J.stop i H
def SIt (X : Cx) (tg it : Expr) (m : MA) : Prop := ∃ wi, PI X tg it wi /\ ∀ B G H σ ρ ds ρ' (Q : It -> Hp -> Prop), SI X.K B G H σ ρ -> m ρ = some (ds, ρ') -> (∀ J G' H', SI X.K B G' H' σ ρ' -> Fz G G' -> Itm X.K J G' ds -> Q J H') -> wi σ H Q
def forM (f : D -> R -> Option (Fl × R)) : List D -> R -> Option (Fl × R)
 | [], ρ => some (.next, ρ)
 | d :: ds, ρ => (f d ρ).bind fun p => match p.1 with
  | .next => forM f ds p.2
  | .cont => forM f ds p.2
  | .brk => some (.next, p.2)
  | .ret r => some (.ret r, p.2)
def sFor (mi : MA) (g : D -> R -> Option R) (mb : MS) : MS := fun ρ => (mi ρ).bind fun p => forM (fun d ρ => (g d ρ).bind fun ρ' => mb ρ') p.1 p.2
theorem SI.yld {x : V} (I : SI K B G H σ ρ)
  (h : (H' = H /\ RepD K G x d) \/ ∃ p xs ds, H p = none /\ H' = upd H p (.tup xs) /\ x = .ref p /\ d = .tup ds /\ RepL K G xs ds) : ∃ G', SI K B G' H' σ ρ /\ Fz G G' /\ RepD K G' x d := by
 rcases h with ⟨rfl, r⟩ | ⟨p, xs, ds, hp, rfl, rfl, rfl, r⟩
 ·exact ⟨G, I, Fz.refl G, r⟩
 ·obtain ⟨I2, f2, r2⟩ := I.newT hp r
  exact ⟨_, I2, f2, r2⟩
theorem zbR {tg it : Expr} {mi : MA} {mb : MS} (hp : PassesOwn (model X.prog X.w) X.A X.env X.xe) (hc : X.calm = true) (hi : SIt X tg it mi) (hg : SG X tg g) (hb : SSs X body mb)
    (hs : ∀ x, foldedSetIterable it X.env x = pure x := by exact fun _ => rfl) : SS X (.For tg it body [] pos) (sFor mi g mb) := by
  obtain ⟨wi, pi, si⟩ := hi
  obtain ⟨tg', pg, sg⟩ := hg
  obtain ⟨tb, pb, sb⟩ := hb
  refine ⟨_, ps_for hp hc pi pg pb hs, fun B G H σ ρ fl ρ' E I hm k => ?_⟩
  obtain ⟨⟨ds, ρ1⟩, e1, hm⟩ := zad hm
  refine si B G H σ ρ ds ρ1 _ I e1 fun J G1 H1 I1 f1 IT => ?_
  refine ⟨fun i m σ H => m = ds.length - i /\ i <= ds.length /\ ∃ G2 ρ2, SI X.K B G2 H σ ρ2 /\ Fz G1 G2 /\ forM (fun d ρ => (g d ρ).bind fun ρ' => mb ρ') (ds.drop i) ρ2 = some (fl, ρ'), ⟨ds.length, by simp, Nat.zero_le _, G1, ρ1, I1, Fz.refl _, by simpa using hm⟩, ?_⟩
  rintro i m σ2 H2 ⟨rfl, hi, G2, ρ2, I2, f2, e2⟩
  by_cases hlt : i < ds.length
  . rw [List.drop_eq_getElem_cons hlt] at e2
    simp only [forM] at e2
    obtain ⟨⟨f, ρ3⟩, e3, e4⟩ := zad e2
    obtain ⟨ρ2', e5, e6⟩ := zad e3
    have fz2 : Fz G1 H2 := f2.trans I2.fz
    refine .inr ⟨IT.go H2 i fz2 hlt, fun σ' H' => (∃ G3, SI X.K B G3 H' σ' ρ3 /\ Fz G1 G3) /\ (f = .next \/ f = .cont), ?_, fun x H' y => ?_⟩
    . rintro σ' H' ⟨⟨G3, I3, f3⟩, hf⟩
      refine ⟨ds.length - (i + 1), by omega, rfl, hlt, G3, ρ3, I3, f3, ?_⟩
      rcases hf with rfl | rfl <;> exact e4
    . have yy := IT.yld H2 i x H' fz2 y ds[i] (List.getElem?_eq_getElem hlt)
      have yy2 : (H' = H2 /\ RepD X.K G2 x ds[i]) \/ ∃ p xs es, H2 p = none /\ H' = upd H2 p (.tup xs) /\ x = .ref p /\ ds[i] = .tup es /\ RepL X.K G2 xs es := by
        rcases yy with ⟨a, b⟩ | ⟨p, xs, es, a, b, c, d, e⟩
        . exact .inl ⟨a, b.mono f2⟩
        . exact .inr ⟨p, xs, es, a, b, c, d, e.mono f2⟩
      obtain ⟨G3, I3, f3, r3⟩ := I2.yld yy2
      refine sg B G3 H' σ2 ρ2 x ds[i] ρ2' _ I3 r3 e5 fun G4 H4 σ4 I4 f4 => sb B G4 H4 σ4 ρ2' f ρ3 _ I4 e6 ?_
      have ff : Fz G1 G4 := f2.trans (f3.trans f4)
      cases f with
      | next => exact fun G5 H5 σ5 I5 f5 => ⟨⟨G5, I5, ff.trans f5⟩, .inl rfl⟩
      | cont => exact fun G5 H5 σ5 I5 f5 => ⟨⟨G5, I5, ff.trans f5⟩, .inr rfl⟩
      | brk => cases e4; exact fun G5 H5 σ5 I5 f5 => k G5 H5 σ5 I5 (f1.trans (ff.trans f5))
      | ret r => cases e4; exact fun G5 H5 σ5 v I5 f5 => k G5 H5 σ5 v I5 (f1.trans (ff.trans f5))
  . have e : i = ds.length := by omega
    subst e
    rw [List.drop_length] at e2
    cases e2
    exact .inl ⟨IT.stop H2 _ (f2.trans I2.fz) (Nat.le_refl _), k G2 H2 σ2 I2 (f1.trans f2)⟩
section
variable {X : Cx} {tg it : Expr} {me : ME}
def iSeq (m : ME) : MA := fun ρ => (m ρ).bind fun p => (zaX [p.1]).map fun ds => (ds, p.2)
theorem pi_or {l : Expr} {tl : TE} (hl : PE X l tl) : PI X tg l (fun σ H R => tl σ H fun x H1 => ∃ a, x = .ref a /\ (((∃ xs, SqL X.K H1 a xs) /\ R (Itl X.K a) H1) \/ ((∃ xs, SqT X.K H1 a xs) /\ R (Itt X.K a) H1))) := by
 intro pins s σ H R I h
 refine thn (hl pins s σ H _ I h) fun v s1 ⟨x, H1, I1, r1, q1⟩ => ?_
 obtain ⟨a, e, q⟩ := q1
 subst e
 cases r1
 rcases q with ⟨⟨xs, hq⟩, q⟩ | ⟨⟨xs, hq⟩, q⟩
 ·obtain ⟨its, rv, p, hz⟩ := I1.list hq
  refine wpAny_pyIter_list p.isList ?_
  refine ⟨s1.heap.objs.size, [s1.heap.objs.size], _, _, H1, rfl, I1.kept (t' := s1.toks) fun b o e => Heap.get?_push_of_some _ e, zle a _, ⟨_, Heap.get?_push_size _ rfl, rfl, rfl⟩, fun b hb => ?_, q⟩
  have e : b = s1.heap.objs.size := by simpa using hb
  subst e
  exact I1.fpOk (Nat.le_refl _) (I1.hok.fresh (Nat.le_refl _))
 ·obtain ⟨its, rv, p, hz⟩ := I1.tuple hq
  refine wpAny_pyIter_tuple (show s1.heap.IsTuple a its.toArray from p) ?_
  refine ⟨s1.heap.objs.size, [s1.heap.objs.size], _, _, H1, rfl, I1.kept (t' := s1.toks) fun b o e => Heap.get?_push_of_some _ e, zkF a _, ⟨_, Heap.get?_push_size _ rfl, rfl, rfl⟩, fun b hb => ?_, q⟩
  have e : b = s1.heap.objs.size := by simpa using hb
  subst e
  exact I1.fpOk (Nat.le_refl _) (I1.hok.fresh (Nat.le_refl _))
theorem zjT {a : Addr} (hg : SqL K G a xs) (r : RepL K G xs ds) : Itm K (Itl K a) G ds where
 go := fun H i f hi => by
  have hl := r.length
  exact ⟨xs, xs[i], f.sql hg, List.getElem?_eq_getElem (by omega)⟩
 yld := fun H i x H' f y d e => by
  obtain ⟨rfl, y⟩ := y
  have hx := y xs (f.sql hg)
  obtain ⟨x', h1, h2⟩ := r.get e
  rw [hx] at h1; cases h1
  exact .inl ⟨rfl, h2⟩
 stop := fun H i f hi => ⟨xs, f.sql hg, by rw [r.length]; exact hi⟩
theorem itm_tup {a : Addr} (hg : G a = some (.tup xs)) (r : RepL K G xs ds) : Itm K (Itt K a) G ds where
 go := fun H i f hi => by
  have hl := r.length
  exact ⟨xs, xs[i], SqT.of (f _ _ hg), List.getElem?_eq_getElem (by omega)⟩
 yld := fun H i x H' f y d e => by
  obtain ⟨rfl, y⟩ := y
  have hx := y xs (SqT.of (f _ _ hg))
  obtain ⟨x', h1, h2⟩ := r.get e
  rw [hx] at h1; cases h1
  exact .inl ⟨rfl, h2⟩
 stop := fun H i f hi => ⟨xs, SqT.of (f _ _ hg), by rw [r.length]; exact hi⟩
theorem zcj (h : SE X it me) : SIt X tg it (iSeq me) := by
 obtain ⟨t, p, s⟩ := h
 refine ⟨_, pi_or p, fun B G H σ ρ ds ρ' Q I hm k => ?_⟩
 obtain ⟨⟨d, ρ1⟩, e1, hm⟩ := zad hm
 obtain ⟨es, e2, e3⟩ := zas hm
 cases e3
 refine s B G H σ ρ d ρ1 _ I e1 fun G1 H1 v I1 f1 r1 => ?_
 cases d <;> simp only [zaX] at e2 <;> try cases e2
 ·obtain ⟨a, xs, rfl, ha, r⟩ := r1
  exact ⟨a, rfl, .inl ⟨⟨xs, SqL.of (I1.fz _ _ ha)⟩, k _ G1 H1 I1 f1 (zjT (SqL.of ha) r)⟩⟩
 ·obtain ⟨a, xs, rfl, ha, r⟩ := r1
  exact ⟨a, rfl, .inr ⟨⟨xs, SqT.of (I1.fz _ _ ha)⟩, k _ G1 H1 I1 f1 (itm_tup ha r)⟩⟩
 ·obtain ⟨a, rfl, ha⟩ := r1
  exact ⟨a, rfl, .inl ⟨⟨_, I1.fz.sql ha⟩, k _ G1 H1 I1 f1 (zjT ha (RepL.ints _))⟩⟩
end
def zcP (lo : Int) (n : Nat) : List D := (List.range n).map fun (i : Nat) => D.int (lo + (i : Int))
theorem zk4 (lo : Int) (n : Nat) : Itm K (Itr lo n) G (zcP lo n) where
 go := fun H i f hi => by show i < n; simpa [zcP] using hi
 yld := fun H i x H' f y d e => by
  obtain ⟨rfl, rfl⟩ := y
  unfold zcP at e
  rw [List.getElem?_map] at e
  cases q : (List.range n)[i]? with
  | none => rw [q] at e; cases e
  | some j =>
   rw [q] at e
   have hj : j = i := by
    have := List.getElem?_eq_some_iff.mp q
    obtain ⟨h1, h2⟩ := this
    simpa using h2.symm
   subst hj
   cases e
   exact .inl ⟨rfl, rfl⟩
 stop := fun H i f hi => by show n <= i; simpa [zcP] using hi
def zeH (j : Int) : Bool := decide (-1000000000000 <= j) && decide (j <= 1000000000000)
theorem zee {j : Int} (h : zeH j = true) : -(2 ^ 62) <= j /\ j < 2 ^ 62 := by
 unfold zeH at h
 simp only [Bool.and_eq_true, decide_eq_true_eq] at h
 omega
def iR1 (ma : MA) : MA := fun ρ => (ma ρ).bind fun p => match p.1 with
 | [.int j] => if zeH j then some (zcP 0 j.toNat, p.2) else none
 | _ => none
section
variable {X : Cx} {tg a b : Expr} {ma : MA} {p pos : Pos}
theorem zaQ (hm : X.mg "range" = none) (ha : SA X [a] ma) (hg : Gl X "range" := by rfl) (hs : starEach [a] X.env = [(false, eval a X.env)] := by rfl) : SIt X tg (.Call (.Name "range" p) [a] [] pos) (iR1 ma) := by
 obtain ⟨t, pa, sa⟩ := ha
 refine ⟨_, zkP hg hm pa hs, fun B G H σ ρ ds ρ' Q I hm k => ?_⟩
 obtain ⟨⟨es, ρ1⟩, e1, h2⟩ := zad hm
 dsimp only at h2
 refine sa B G H σ ρ es ρ1 _ I e1 fun G1 H1 vs I1 f1 r1 => ?_
 split at h2
 ·rename_i j
  split at h2
  ·rename_i hj
   cases h2
   obtain ⟨x, rfl, rx⟩ := r1.one
   cases (show x = V.int j from rx)
   exact ⟨j, rfl, (zee hj).1, (zee hj).2, k _ G1 H1 I1 f1 (zk4 0 _)⟩
  ·cases h2
 ·cases h2
end
def ResF (K : W.Frag) (G' H' H : Hp) (v : V) : Sl -> Prop
 | .val d => RepD K G' v d
 | .own ds => ∃ l xs, v = .ref l /\ G' l = none /\ H' l = some (.lst xs) /\ RepL K G' xs ds /\ H l = none
 | .tre t => ∃ A, RepT K G' H' v t A /\ A.Nodup /\ ∀ a ∈ A, G' a = none /\ H a = none
 | .two ds es => ∃ t l xs m ys, v = .ref t /\ H' t = some (.tup [.ref l, .ref m]) /\ l ≠ m /\ G' l = none /\ H' l = some (.lst xs) /\ RepL K G' xs ds /\ H l = none /\ G' m = none /\ H' m = some (.lst ys) /\ RepL K G' ys es /\ H m = none
 | _ => False
def spP (K : W.Frag) (n : Nat) (F : List D -> Option Sl) : Sp := fun vs H Q _ => ∃ G ds r, F ds = some r /\ ds.length = n /\ Fz G H /\ RepL K G vs ds /\
 ∀ G' H' v, Fz G G' -> Fz G' H' -> (∀ b o, G' b = some o -> G b ≠ none \/ H b = none) -> Fz H H' -> ResF K G' H' H v r -> Q v H'
def spM (K : W.Frag) (n : Nat) (F : List D -> List D -> Option (Sl × List D)) : Sp := fun vs H Q _ => ∃ G l xs cs ws ds r out, vs = .ref l :: ws /\ F cs ds = some (r, out) /\ ds.length + 1 = n /\ Fz G H /\ G l = none /\ H l = some (.lst xs) /\ RepL K G xs cs /\ RepL K G ws ds /\
 ∀ G' H' v ys, Fz G G' -> Fz G' H' -> (∀ b o, G' b = some o -> G b ≠ none \/ H b = none) -> (∀ b o, b ≠ l -> H b = some o -> H' b = some o) -> G' l = none -> H' l = some (.lst ys) -> RepL K G' ys out -> ResF K G' H' H v r -> Q v H'
def fP (N : Nat) (m : MS) : List D -> Option Sl := fun ds => (m (ds.map .val ++ List.replicate (N - ds.length) .emp)).bind fun p => match p.1 with
 | .ret r => some r
 | .next => some (.val .non)
 | _ => none
def fM (N : Nat) (m : MS) : List D -> List D -> Option (Sl × List D) := fun cs ds => (m (.par cs :: (ds.map .val ++ List.replicate (N - (ds.length + 1)) .emp))).bind fun p => match p.1, (p.2[0]? : Option Sl) with
 | Fl.ret r, some (Sl.par out) => some (r, out)
 | Fl.next, some (Sl.par out) => some (.val .non, out)
 | _, _ => none
theorem ziG (h : vs.length <= N.length) : (L2.start N vs).length = N.length := by
 unfold L2.start
 rw [List.length_append, List.length_map, List.length_replicate]
 omega
theorem SI.start (fz : Fz G H) (r : RepL K G vs ds) (h : ds.length <= N.length) :
  SI K ⟨G, H, []⟩ G H (L2.start N vs) (ds.map .val ++ List.replicate (N.length - ds.length) .emp) where
 fz := fz
 g0 := Fz.refl G
 new := fun b o e => .inl (by show G b ≠ none; rw [e]; simp)
 keep := fun b o e _ => e
 there := fun b e => e
 ob := fun i b m => by cases m
 len := by rw [ziG (by rw [r.length]; exact h), List.length_append, List.length_map, List.length_replicate]; omega
 slot := fun i s e => by
  by_cases hi : i < ds.length
  ·rw [List.getElem?_append_left (by simpa using hi), List.getElem?_map, List.getElem?_eq_getElem hi] at e
   cases e
   obtain ⟨x, h1, h2⟩ := r.get (List.getElem?_eq_getElem hi)
   refine ⟨x, ?_, h2⟩
   unfold L2.start
   rw [List.getElem?_append_left (by rw [List.length_map, r.length]; exact hi), List.getElem?_map, h1]
   rfl
  ·rw [List.getElem?_append_right (by simpa using hi), List.getElem?_replicate] at e
   split at e
   ·cases e; trivial
   ·cases e
 dis := fun i j s _ a _ e _ w => by
  exfalso
  by_cases hi : i < ds.length
  ·rw [List.getElem?_append_left (by simpa using hi), List.getElem?_map, List.getElem?_eq_getElem hi] at e
   cases e; exact w
  ·rw [List.getElem?_append_right (by simpa using hi), List.getElem?_replicate] at e
   split at e
   ·cases e; exact w
   ·cases e
theorem SI.startM (fz : Fz G H) (hg : G l = none) (hl : H l = some (.lst xs)) (rc : RepL K G xs cs) (r : RepL K G vs ds) (h : ds.length + 1 <= N.length) :
  SI K ⟨G, H, [(0, l)]⟩ G H (L2.start N (.ref l :: vs)) (.par cs :: (ds.map .val ++ List.replicate (N.length - (ds.length + 1)) .emp)) where
 fz := fz
 g0 := Fz.refl G
 new := fun b o e => .inl (by show G b ≠ none; rw [e]; simp)
 keep := fun b o e _ => e
 there := fun b e => e
 ob := fun i b m => by
  have : b = l := ((by simpa using m) : i = 0 /\ b = l).2
  subst this
  show H b ≠ none
  rw [hl]; simp
 len := by
  have := r.length
  rw [ziG (by rw [List.length_cons, r.length]; exact h), List.length_cons, List.length_append, List.length_map, List.length_replicate]; omega
 slot := fun i s e => by
  cases i with
  | zero => simp at e; subst e; exact ⟨l, xs, rfl, hg, hl, rc, by simp⟩
  | succ i =>
   rw [List.getElem?_cons_succ] at e
   by_cases hi : i < ds.length
   ·rw [List.getElem?_append_left (by simpa using hi), List.getElem?_map, List.getElem?_eq_getElem hi] at e
    cases e
    obtain ⟨x, h1, h2⟩ := r.get (List.getElem?_eq_getElem hi)
    refine ⟨x, ?_, h2⟩
    unfold L2.start
    rw [List.map_cons, List.cons_append, List.getElem?_cons_succ, List.getElem?_append_left (by rw [List.length_map, r.length]; exact hi), List.getElem?_map, h1]
    rfl
   ·rw [List.getElem?_append_right (by simpa using hi), List.getElem?_replicate] at e
    split at e
    ·cases e; trivial
    ·cases e
 dis := fun i j s t a hij hi hj w1 w2 => by
  have z : ∀ (i : Nat) (s : Sl), (Sl.par cs :: (ds.map .val ++ List.replicate (N.length - (ds.length + 1)) .emp))[i]? = some s -> OwS K G H (L2.start N (.ref l :: vs))[i]? a s -> i = 0 := fun i s e q => by
   cases i with
   | zero => rfl
   | succ i =>
    exfalso
    rw [List.getElem?_cons_succ] at e
    by_cases hi : i < ds.length
    ·rw [List.getElem?_append_left (by simpa using hi), List.getElem?_map, List.getElem?_eq_getElem hi] at e
     cases e; exact q
    ·rw [List.getElem?_append_right (by simpa using hi), List.getElem?_replicate] at e
     split at e
     ·cases e; exact q
     ·cases e
  exact hij ((z i s hi w1).trans (z j t hj w2).symm)
section
variable {P : Program} {w : World} {K : W.Frag} {mg : Str -> Option Value} {base : Heap}
theorem fnP_ok {st : Stmt} {f : Addr} (F : Fun K x qual st f fd) (S : FnScope N ps (zaB st)) (hn : ps.length = n) (hN : n <= N.length)
  (body : ∀ (cdv : Value) (A : Around) (outer : List Env) (s : Shared) (H : Hp) (E : XK), Room k (A.deeper (envOfC qual (zaB st) s.heap.objs.size f cdv)) -> SSs (cxOf CX0 P w K mg base N qual (zaB st) f cdv A outer s H E).nox (zb1 st) m) :
  FnOk P w K mg base CX0 (k + 1) f fd ps (spP K n (fP N.length m)) := by
 refine F.ok S (fun vs H Q E h => ?_) (fun cdv A outer s H vs Q E hr h => ?_)
 ·obtain ⟨G, ds, r, _, h2, _, h4, _⟩ := h
  rw [h4.length, h2, hn]
 ·obtain ⟨G, ds, r, e1, h2, fz, h4, kk⟩ := h
  obtain ⟨t, pt, so⟩ := body cdv A outer s H E hr
  refine ⟨t, pt, ?_⟩
  obtain ⟨⟨fl, ρ'⟩, e2, e3⟩ := zad e1
  refine so ⟨G, H, []⟩ G H (L2.start N vs) _ fl ρ' _ (SI.start fz h4 (by omega)) e2 ?_
  have fin : ∀ G' H' σ' v, SI K ⟨G, H, []⟩ G' H' σ' ρ' -> Fz G G' -> ResF K G' H' H v r -> Q v H' := fun G' H' σ' v I f rr => kk G' H' v f I.fz I.new (fun b o e => I.keep b o e (by simp)) rr
  cases fl with
  | next => cases e3; exact fun G' H' σ' I f => fin G' H' σ' .non I f rfl
  | brk => cases e3
  | cont => cases e3
  | ret r' =>
   cases e3
   refine fun G' H' σ' v I f rr => fin G' H' σ' v I f ?_
   cases r with
   | val d => exact rr
   | own ds => exact rr
   | emp => exact rr
   | two _ _ => exact rr
   | tre _ => exact rr
   | ptr _ => exact rr
   | par ds => exact rr
theorem fnM_ok {st : Stmt} {f : Addr} (F : Fun K x qual st f fd) (S : FnScope N ps (zaB st)) (hn : ps.length = n) (hN : n <= N.length)
  (body : ∀ (cdv : Value) (A : Around) (outer : List Env) (s : Shared) (H : Hp) (E : XK), Room k (A.deeper (envOfC qual (zaB st) s.heap.objs.size f cdv)) -> SSs (cxOf CX0 P w K mg base N qual (zaB st) f cdv A outer s H E).nox (zb1 st) m) :
  FnOk P w K mg base CX0 (k + 1) f fd ps (spM K n (fM N.length m)) := by
 refine F.ok S (fun vs H Q E h => ?_) (fun cdv A outer s H vs Q E hr h => ?_)
 ·obtain ⟨G, l, xs, cs, ws, ds, r, out, rfl, _, h2, _, _, _, _, h4, _⟩ := h
  rw [List.length_cons, h4.length, h2, hn]
 ·obtain ⟨G, l, xs, cs, ws, ds, r, out, rfl, e1, h2, fz, hg, hl, rc, h4, kk⟩ := h
  obtain ⟨t, pt, so⟩ := body cdv A outer s H E hr
  refine ⟨t, pt, ?_⟩
  obtain ⟨⟨fl, ρ'⟩, e2, e3⟩ := zad e1
  refine so ⟨G, H, [(0, l)]⟩ G H _ _ fl ρ' _ (SI.startM fz hg hl rc h4 (by omega)) e2 ?_
  have fin : ∀ G' H' σ' v, ρ'[0]? = some (.par out) -> SI K ⟨G, H, [(0, l)]⟩ G' H' σ' ρ' -> Fz G G' -> ResF K G' H' H v r -> Q v H' := fun G' H' σ' v e0 I f rr => by
   obtain ⟨l', ys, k1, k2, k3, k4, k5⟩ := I.slot 0 _ e0
   have : l' = l := by simpa using k5
   subst this
   exact kk G' H' v ys f I.fz I.new (fun b o hb e => I.keep b o e (fun i hm => by simp at hm; exact hb hm.2)) k2 k3 k4 rr
  cases e0 : ρ'[0]? with
  | none => rw [e0] at e3; cases fl <;> cases e3
  | some s0 =>
   rw [e0] at e3
   cases s0 with
   | emp => cases fl <;> cases e3
   | two _ _ => cases fl <;> cases e3
   | tre _ => cases fl <;> cases e3
   | ptr _ => cases fl <;> cases e3
   | val d => cases fl <;> cases e3
   | own d => cases fl <;> cases e3
   | par o2 =>
    cases fl with
    | next => cases e3; exact fun G' H' σ' I f => fin G' H' σ' .non e0 I f rfl
    | brk => cases e3
    | cont => cases e3
    | ret r' =>
     cases e3
     refine fun G' H' σ' v I f rr => fin G' H' σ' v e0 I f ?_
     cases r with
     | val d => exact rr
     | own ds => exact rr
     | emp => exact rr
     | two _ _ => exact rr
     | tre _ => exact rr
     | ptr _ => exact rr
     | par ds => exact rr
end
structure FD (P : Program) (w : World) (K : W.Frag) (mg : Str -> Option Value) (base : Heap) (k : Nat) (x : Str) (sp : Sp) : Prop where
 ex : ∃ f fd ps, FnOk P w K mg base CX0 k f fd ps sp /\ mg x = some (.ref f) /\ W.keepIn K (.ref f) = true /\ Binds K fd ps []
theorem zlQ (nw : ∀ b o, G' b = some o -> G b ≠ none \/ H b = none) (kp : Fz H H') : ∀ (i : Nat) (s : Sl) (a : Addr), ρ[i]? = some s -> OwS K G H σ[i]? a s -> G a = none -> H a ≠ none -> G' a = none /\ H' a = H a := fun i s a _ _ g h => by
 obtain ⟨u, hu⟩ := Option.ne_none_iff_exists'.mp h
 refine ⟨?_, (kp a u hu).trans hu.symm⟩
 cases q : G' a with
 | none => rfl
 | some u =>
  rcases nw a u q with z | z
  ·exact absurd g z
  ·exact absurd z h
theorem SI.grow (I : SI K B G H σ ρ) (f : Fz G G') (fz : Fz G' H') (nw : ∀ b o, G' b = some o -> G b ≠ none \/ H b = none) (kp : Fz H H') : SI K B G' H' σ ρ :=
 I.move fz f (fun b o e => by
  rcases nw b o e with h | h
  ·cases q : G b with
   | none => exact absurd q h
   | some u => exact I.new b u q
  ·exact .inr (I.there b h)) (fun b o e n => kp b o (I.keep b o e n)) (fun b e => I.there b (kp.free e)) (zlQ nw kp)
theorem SI.own_ne (I : SI K B G H σ ρ) (hp : H p = none) (nw : ∀ b o, G' b = some o -> G b ≠ none \/ H b = none) (kp : Fz H H') : Nw K G' H' σ ρ p := I.nw_move (I.nw hp) (zlQ nw kp)
def zaC (F : List D -> Option Sl) (ma : MA) : ME := fun ρ => (ma ρ).bind fun p => (F p.1).bind fun r => match r with
 | .val d => some (d, p.2)
 | .own ds => some (.lst ds, p.2)
 | _ => none
def oCall (F : List D -> Option Sl) (ma : MA) : MO := fun ρ => (ma ρ).bind fun p => (F p.1).bind fun r => match r with
 | .own ds => some (ds, p.2)
 | _ => none
section
variable {X : Cx} {x : Str} {p pos : Pos} {e : Expr} {es : List Expr} {ma : MA} {k k' n : Nat} {F : List D -> Option Sl}
theorem zao (fd : FD X.prog X.w X.K X.mg X.base k x (spP X.K n F)) (hr : Room k' X.A) (ha : SA X (e :: es) ma) (hn : (e :: es).length = n := by rfl) (hk : k <= k' := by decide) (hg : Gl X x := by rfl) (hdb : (x == ("__debug__" : Str)) = false := by decide)
  (he : starEach (e :: es) X.env = (false, eval e X.env) :: starEach es X.env := by rfl) (hpl : (backTo pos (starEach es X.env)).any (·.1) = false := by rfl) (hlen : ∀ ρ as ρ', ma ρ = some (as, ρ') -> as.length = n) : SE X (.Call (.Name x p) (e :: es) [] pos) (zaC F ma) := by
 obtain ⟨f, fdd, ps, G0, h1, h2, h3⟩ := fd.ex
 obtain ⟨t, pa, sa⟩ := ha
 refine ⟨_, zgV G0 (hr.mono hk) hg h1 h2 h3 .nil zlc pa hdb he hpl, fun B G H σ ρ d ρ' Q I hm kk => ?_⟩
 obtain ⟨⟨as, ρ1⟩, e1, hm⟩ := zad hm
 obtain ⟨r, e2, hm⟩ := zad hm
 refine sa B G H σ ρ as ρ1 _ I e1 fun G1 H1 vs I1 f1 r1 => ?_
 show spP X.K n F (vs ++ []) H1 Q E0
 rw [List.append_nil]
 refine ⟨G1, as, r, e2, hlen ρ as ρ1 e1, I1.fz, r1, fun G2 H2 v f2 fz2 nw kp rr => ?_⟩
 have I2 := I1.grow f2 fz2 nw kp
 cases r with
 | val d' => cases hm; exact kk G2 H2 v I2 (f1.trans f2) rr
 | own ds =>
  cases hm
  obtain ⟨l, xs, rfl, g3, h3, r3, b3⟩ := rr
  obtain ⟨I3, f3, r4⟩ := zjJ I2 g3 h3 r3 (I1.there l b3) (I1.own_ne b3 nw kp)
  exact kk _ H2 _ I3 (f1.trans (f2.trans f3)) r4
 | emp => cases hm
 | two _ _ => cases hm
 | tre _ => cases hm
 | ptr _ => cases hm
 | par _ => cases hm
theorem so_call (fd : FD X.prog X.w X.K X.mg X.base k x (spP X.K n F)) (hr : Room k' X.A) (ha : SA X (e :: es) ma) (hn : (e :: es).length = n := by rfl) (hk : k <= k' := by decide) (hg : Gl X x := by rfl) (hdb : (x == ("__debug__" : Str)) = false := by decide)
  (he : starEach (e :: es) X.env = (false, eval e X.env) :: starEach es X.env := by rfl) (hpl : (backTo pos (starEach es X.env)).any (·.1) = false := by rfl) (hlen : ∀ ρ as ρ', ma ρ = some (as, ρ') -> as.length = n) : SO X (.Call (.Name x p) (e :: es) [] pos) (oCall F ma) := by
 obtain ⟨f, fdd, ps, G0, h1, h2, h3⟩ := fd.ex
 obtain ⟨t, pa, sa⟩ := ha
 refine ⟨_, zgV G0 (hr.mono hk) hg h1 h2 h3 .nil zlc pa hdb he hpl, fun B G H σ ρ d ρ' Q I hm kk => ?_⟩
 obtain ⟨⟨as, ρ1⟩, e1, hm⟩ := zad hm
 obtain ⟨r, e2, hm⟩ := zad hm
 refine sa B G H σ ρ as ρ1 _ I e1 fun G1 H1 vs I1 f1 r1 => ?_
 show spP X.K n F (vs ++ []) H1 Q E0
 rw [List.append_nil]
 refine ⟨G1, as, r, e2, hlen ρ as ρ1 e1, I1.fz, r1, fun G2 H2 v f2 fz2 nw kp rr => ?_⟩
 have I2 := I1.grow f2 fz2 nw kp
 cases r with
 | val d' => cases hm
 | own ds =>
  cases hm
  obtain ⟨l, xs, rfl, g3, h3, r3, b3⟩ := rr
  exact kk G2 H2 l xs I2 (f1.trans f2) g3 h3 r3 (I1.there l b3) (I1.own_ne b3 nw kp)
 | emp => cases hm
 | two _ _ => cases hm
 | tre _ => cases hm
 | ptr _ => cases hm
 | par _ => cases hm
end
def aLen (ma : MA) (n : Nat) : Prop := ∀ ρ as ρ', ma ρ = some (as, ρ') -> as.length = n
theorem zaj : aLen aNil 0 := fun ρ as ρ' h => by cases h; rfl
theorem zac {m : ME} {r : MA} (h : aLen r n) : aLen (zaf m r) (n + 1) := fun ρ as ρ' e => by
 obtain ⟨⟨d, ρ1⟩, _, h2⟩ := zad e
 obtain ⟨⟨ds, ρ2⟩, e3, e4⟩ := zas h2
 cases e4
 rw [List.length_cons, h ρ1 ds ρ2 e3]
def zcM (F : List D -> List D -> Option (Sl × List D)) (j : Nat) (ma : MA) : ME := fun ρ => if (ρ[j]?.bind Sl.items).isSome then (ma ρ).bind fun p => p.2[j]?.bind fun s => s.items.bind fun cs => (F cs p.1).bind fun r => match r.1 with
 | .val d => some (d, p.2.set j (s.put r.2))
 | .own ds => some (.lst ds, p.2.set j (s.put r.2))
 | _ => none else none
theorem SI.growW (I : SI K B G H σ ρ) (e : ρ[j]? = some s) (q : s.items = some cs) (hl : σ[j]? = some (some (.ref l)))
  (f : Fz G G') (fz : Fz G' H') (nw : ∀ b o, G' b = some o -> G b ≠ none \/ H b = none) (kp : ∀ b o, b ≠ l -> H b = some o -> H' b = some o) (gl : G' l = none) (hl' : H' l = some (.lst ys)) (r : RepL K G' ys out) : SI K B G' H' σ (ρ.set j (s.put out)) :=
 I.chgW e q hl fz f nw kp gl hl' r
theorem SI.own_neW (I : SI K B G H σ ρ) (e : ρ[j]? = some s) (q : s.items = some cs) (hl : σ[j]? = some (some (.ref l))) (hp : H p = none)
  (nw : ∀ b o, G' b = some o -> G b ≠ none \/ H b = none) (kp : ∀ b o, b ≠ l -> H b = some o -> H' b = some o) : Nw K G' H' σ (ρ.set j (s.put out)) p := fun i t et w => by
 obtain ⟨l', xs, e1, e2, e3, e4⟩ := I.wr e q
 rw [hl] at e1; cases e1
 have hpl : p ≠ l := fun z => by rw [z, e3] at hp; cases hp
 by_cases z : i = j
 ·subst z
  rw [List.getElem?_set, if_pos rfl] at et
  split at et
  ·cases et
   have := (zaT (ze5 q out)).mp w
   rw [hl] at this
   exact hpl (V.ref.inj (Option.some.inj (Option.some.inj this))).symm
  ·cases et
 ·rw [List.getElem?_set_ne (Ne.symm z)] at et
  have sl := I.slot i t et
  refine (sl.own (sl.back (fun a w g h => ?_) w)).2.1 hp
  have na : a ≠ l := fun w' => by subst w'; exact I.dis i j t s a z et e w ((zaT q).mpr hl)
  obtain ⟨u, hu⟩ := Option.ne_none_iff_exists'.mp h
  refine ⟨?_, (kp a u na hu).trans hu.symm⟩
  cases q2 : G' a with
  | none => rfl
  | some u =>
   rcases nw a u q2 with z | z
   ·exact absurd g z
   ·exact absurd z h
section
variable {X : Cx} {x y : Str} {p py pos : Pos} {es : List Expr} {ma : MA} {k k' n : Nat} {F : List D -> List D -> Option (Sl × List D)}
theorem soundM {t : TA} {Q : VK} (sa : ∀ B G H σ ρ ds ρ' (Q : List V -> Hp -> Prop), SI X.K B G H σ ρ -> ma ρ = some (ds, ρ') -> (∀ G' H' vs, SI X.K B G' H' σ ρ' -> Fz G G' -> RepL X.K G' vs ds -> Q vs H') -> t σ H Q)
  (hlen : ∀ ρ as ρ', ma ρ = some (as, ρ') -> as.length + 1 = n) (I : SI X.K B G H σ ρ) {ds0 : List D} (h0 : ρ[j]?.bind Sl.items = some ds0) {as : List D} {ρ1 : R} (e1 : ma ρ = some (as, ρ1)) {s : Sl} (e2 : ρ1[j]? = some s) {cs : List D} (e3 : s.items = some cs)
  {r : Sl} {out : List D} (e4 : F cs as = some (r, out))
  (kk : ∀ G' H' v, SI X.K B G' H' σ (ρ1.set j (s.put out)) -> Fz G G' -> True -> (∃ H1, ResF X.K G' H' H1 v r /\ (∀ b, H1 b = none -> B.H b = none) /\ ∀ b, H1 b = none -> Nw X.K G' H' σ (ρ1.set j (s.put out)) b) -> Q v H') :
  tCall (spM X.K n F) [] E0 (tCons (tVar j) t) σ H Q := by
 obtain ⟨s0, k0, q0⟩ := zad h0
 obtain ⟨l, xs0, h1, h2, h3, h4⟩ := I.wr k0 q0
 refine ⟨.ref l, h1, sa B G H σ ρ as ρ1 _ I e1 fun G1 H1 vs I1 f1 r1 => ?_⟩
 show spM X.K n F ((.ref l :: vs) ++ []) H1 Q E0
 rw [List.append_nil]
 obtain ⟨l', xs, m1, m2, m3, m4⟩ := I1.wr e2 e3
 rw [h1] at m1; cases m1
 refine ⟨G1, l, xs, cs, vs, as, r, out, rfl, e4, hlen ρ as ρ1 e1, I1.fz, m2, m3, m4, r1, fun G2 H2 v ys f2 fz2 nw kp gl hl r2 rr => ?_⟩
 exact kk G2 H2 v (I1.growW e2 e3 h1 f2 fz2 nw kp gl hl r2) (f1.trans f2) trivial ⟨H1, rr, fun b hb => I1.there b hb, fun b hb => I1.own_neW e2 e3 h1 hb nw kp⟩
theorem zbr (j : Nat) (fd : FD X.prog X.w X.K X.mg X.base k x (spM X.K n F)) (hr : Room k' X.A) (ha : SA X es ma) (hlen : ∀ ρ as ρ', ma ρ = some (as, ρ') -> as.length + 1 = n) (hN : X.N[j]? = some y := by rfl) (hv : Vis X.env.scope y := by first | exact Or.inl rfl | exact Or.inr (Or.inl rfl) | exact Or.inr (Or.inr rfl)) (hd : (y == ("__debug__" : Str)) = false := by decide)
  (hcd : (y == ("__classdict__" : Str)) = false := by decide) (hk : k <= k' := by decide) (hg : Gl X x := by rfl) (hdb : (x == ("__debug__" : Str)) = false := by decide)
  (he : starEach (.Name y py :: es) X.env = (false, eval (.Name y py) X.env) :: starEach es X.env := by rfl) (hpl : (backTo pos (starEach es X.env)).any (·.1) = false := by rfl) : SE X (.Call (.Name x p) (.Name y py :: es) [] pos) (zcM F j ma) := by
 obtain ⟨f, fdd, ps, G0, h1, h2, h3⟩ := fd.ex
 obtain ⟨t, pa, sa⟩ := ha
 refine ⟨_, zgV G0 (hr.mono hk) hg h1 h2 h3 .nil zlc (zdh (zbw hN hv hd hcd) pa he) hdb he hpl, fun B G H σ ρ d ρ' Q I hm kk => ?_⟩
 unfold zcM at hm
 split at hm
 ·rename_i hso
  obtain ⟨ds0, hso⟩ := Option.isSome_iff_exists.mp hso
  obtain ⟨⟨as, ρ1⟩, e1, hm⟩ := zad hm
  obtain ⟨s, e2, hm⟩ := zad hm
  obtain ⟨cs, e3, hm⟩ := zad hm
  obtain ⟨⟨r, out⟩, e4, hm⟩ := zad hm
  refine soundM sa hlen I hso e1 e2 e3 e4 fun G' H' v I' f' _ ⟨H1, rr, bb, nn⟩ => ?_
  cases r with
  | val d' => cases hm; exact kk G' H' v I' f' rr
  | own ds =>
   cases hm
   obtain ⟨l, xs, rfl, g3, h3, r3, b3⟩ := rr
   obtain ⟨I3, f3, r4⟩ := zjJ I' g3 h3 r3 (bb l b3) (nn l b3)
   exact kk _ H' _ I3 (f'.trans f3) r4
  | emp => cases hm
  | two _ _ => cases hm
  | tre _ => cases hm
  | ptr _ => cases hm
  | par _ => cases hm
 ·cases hm
end
def zed (env : Env) (cs : List (Str × Addr)) (x : Str × NameKind) : List (Str × Addr) := if x.2 == .free then (x.1, (env.cells.lookup x.1).getD 0) :: cs else cs
def clOf (scope : Scope) (env : Env) : List (Str × Addr) := scope.names.foldl (zed env) []
theorem zfV : ∀ (names : List (Str × NameKind)) (cs : List (Str × Addr)), (∀ y ∈ names, y.2 = .free -> ∃ c, env.cells.lookup y.1 = some c) ->
  (forIn names cs (fun x r => if x.2 == NameKind.free then do let a <- cellOf env x.1; pure (ForInStep.yield ((x.1, a) :: r)) else pure (ForInStep.yield r)) : Sem (List (Str × Addr))) = pure (names.foldl (zed env) cs)
 | [], cs, _ => rfl
 | (n, k) :: r, cs, h => by
  have ih := fun cs' => zfV r cs' (fun y hy => h y (List.mem_cons_of_mem _ hy))
  rw [List.forIn_cons, List.foldl_cons]
  by_cases hk : (k == NameKind.free) = true
  ·obtain ⟨c, hc⟩ := h (n, k) List.mem_cons_self (by simpa using hk)
   have e : zed env cs (n, k) = (n, c) :: cs := by unfold zed; simp [hk, hc]
   rw [e, <- ih]
   simp only [hk, if_true]
   unfold cellOf
   simp only at hc
   rw [hc]
   rfl
  ·have e : zed env cs (n, k) = cs := by unfold zed; simp [hk]
   rw [e, <- ih]
   simp only [hk]
   rfl
theorem zj5 {env : Env} (h : ∀ y ∈ scope.names, y.2 = .free -> ∃ c, env.cells.lookup y.1 = some c) : closureFor scope env = pure (clOf scope env) := by
 unfold closureFor clOf
 have e := zfV (env := env) scope.names [] h
 simp only [bind_pure]
 exact e
theorem zcW : ∀ {names : List (Str × NameKind)} {cs : List (Str × Addr)}, (∀ y ∈ names, y.2 = .free -> ∃ c, env.cells.lookup y.1 = some c) -> (cs.lookup x = some c -> env.cells.lookup x = some c) ->
  (names.foldl (zed env) cs).lookup x = some c -> env.cells.lookup x = some c
 | [], cs, _, h0, h => h0 h
 | (n, k) :: r, cs, hn, h0, h => by
  rw [List.foldl_cons] at h
  refine zcW (names := r) (fun y hy => hn y (List.mem_cons_of_mem _ hy)) ?_ h
  intro q
  unfold zed at q
  split at q
  ·rename_i hk
   obtain ⟨c', hc⟩ := hn (n, k) List.mem_cons_self (by simpa using hk)
   rw [List.lookup_cons] at q
   simp only at hc
   by_cases z : (x == n) = true
   ·rw [z] at q
    have zz : x = n := by simpa using z
    subst zz
    simp only [hc, Option.getD_some] at q
    rw [hc]; exact q
   ·have z' : (x == n) = false := by simpa using z
    rw [z'] at q; exact h0 q
  ·exact h0 q
theorem zdL : ∀ {names : List (Str × NameKind)} {cs : List (Str × Addr)}, ((x, NameKind.free) ∈ names \/ (cs.lookup x).isSome = true) -> ((names.foldl (zed env) cs).lookup x).isSome = true
 | [], cs, h => by
  rcases h with h | h
  ·simp at h
  ·exact h
 | (n, k) :: r, cs, h => by
  rw [List.foldl_cons]
  refine zdL (names := r) ?_
  rcases h with h | h
  ·rcases List.mem_cons.mp h with h | h
   ·cases h
    refine .inr ?_
    unfold zed
    simp
   ·exact .inl h
  ·refine .inr ?_
   unfold zed
   split
   ·rw [List.lookup_cons]
    by_cases z : (x == n) = true
    ·rw [z]; rfl
    ·have z' : (x == n) = false := by simpa using z
     rw [z']; exact h
   ·exact h
theorem zgw : ∀ {names : List (Str × NameKind)} {n : Nat} {acc : List (Str × Addr)}, (cellsFrom n names acc).lookup x = some c -> (n <= c /\ (x, NameKind.cell) ∈ names) \/ acc.lookup x = some c
 | [], n, acc, h => .inr h
 | (m, k) :: r, n, acc, h => by
  unfold cellsFrom at h
  split at h
  ·rename_i hk
   have hk' : k = .cell := by simpa using hk
   subst hk'
   rcases zgw h with ⟨h1, h2⟩ | h1
   ·exact .inl ⟨Nat.le_of_succ_le h1, List.mem_cons_of_mem _ h2⟩
   ·rw [List.lookup_cons] at h1
    cases q : x == m with
    | true =>
     rw [q] at h1
     cases h1
     rw [beq_iff_eq.mp q]
     exact .inl ⟨Nat.le_refl _, List.mem_cons_self⟩
    | false => rw [q] at h1; exact .inr h1
  ·rcases zgw h with ⟨h1, h2⟩ | h1
   ·exact .inl ⟨h1, List.mem_cons_of_mem _ h2⟩
   ·exact .inr h1
theorem zjN : ∀ {names : List (Str × NameKind)} {n : Nat} {acc : List (Str × Addr)}, (x, NameKind.cell) ∉ names -> (cellsFrom n names acc).lookup x = acc.lookup x
 | [], n, acc, _ => rfl
 | (m, k) :: r, n, acc, h => by
  unfold cellsFrom
  split
  ·rename_i hk
   have hk' : k = .cell := by simpa using hk
   subst hk'
   rw [zjN fun z => h (List.mem_cons_of_mem _ z), List.lookup_cons]
   cases q : x == m with
   | true => exact absurd (by rw [beq_iff_eq.mp q]; exact List.mem_cons_self) h
   | false => rfl
  ·exact zjN fun z => h (List.mem_cons_of_mem _ z)
theorem zjF : ∀ {names : List (Str × NameKind)} {n : Nat} {acc : List (Str × Addr)}, (x, NameKind.cell) ∈ names -> ∃ c, (cellsFrom n names acc).lookup x = some c /\ n <= c
 | (m, k) :: r, n, acc, h => by
  unfold cellsFrom
  by_cases hr : (x, NameKind.cell) ∈ r
  ·split
   ·obtain ⟨c, h1, h2⟩ := zjF (n := n + 1) (acc := (m, n) :: acc) hr
    exact ⟨c, h1, Nat.le_of_succ_le h2⟩
   ·exact zjF hr
  ·rcases List.mem_cons.mp h with e | e
   ·cases e
    rw [if_pos (beq_self_eq_true _), zjN hr, List.lookup_cons, beq_self_eq_true]
    exact ⟨n, rfl, Nat.le_refl _⟩
   ·exact absurd e hr
theorem zls : ∀ {names : List (Str × NameKind)} {n : Nat} {acc : List (Str × Addr)}, (∀ x c, acc.lookup x = some c -> c < n) -> (∀ x y c, acc.lookup x = some c -> acc.lookup y = some c -> x = y) ->
  ∀ x y c, (cellsFrom n names acc).lookup x = some c -> (cellsFrom n names acc).lookup y = some c -> x = y
 | [], n, acc, _, hi => hi
 | (m, k) :: r, n, acc, hl, hi => by
  unfold cellsFrom
  split
  ·refine zls (fun x c h => ?_) (fun x y c h1 h2 => ?_)
   ·rw [List.lookup_cons] at h
    cases q : x == m with
    | true => rw [q] at h; cases h; exact Nat.lt_succ_self _
    | false => rw [q] at h; exact Nat.lt_succ_of_lt (hl x c h)
   ·rw [List.lookup_cons] at h1 h2
    cases q : x == m with
    | true =>
     rw [q] at h1
     cases h1
     cases q2 : y == m with
     | true => rw [beq_iff_eq.mp q, beq_iff_eq.mp q2]
     | false => rw [q2] at h2; exact absurd (hl y n h2) (Nat.lt_irrefl _)
    | false =>
     rw [q] at h1
     cases q2 : y == m with
     | true => rw [q2] at h2; cases h2; exact absurd (hl x n h1) (Nat.lt_irrefl _)
     | false => rw [q2] at h2; exact hi x y c h1 h2
  ·exact zls hl hi
theorem zi2 : ∀ {names : List (Str × NameKind)} {h : Heap} {acc : List (Str × Addr)}, (∀ x c, acc.lookup x = some c -> ∃ v, h.IsCell c v) -> ∀ x c, (cellsFrom h.objs.size names acc).lookup x = some c -> ∃ v, (pushCells h names).IsCell c v
 | [], h, acc, ha => ha
 | (m, k) :: r, h, acc, ha => by
  unfold cellsFrom pushCells
  split
  ·intro x c e
   rw [<- Heap.size_push h { cls := .type "cell", data := .cell none }] at e
   refine zi2 (fun y d q => ?_) x c e
   rw [List.lookup_cons] at q
   cases z : y == m with
   | true => rw [z] at q; cases q; exact ⟨none, _, Heap.get?_push_size _ rfl, rfl⟩
   | false =>
    rw [z] at q
    obtain ⟨v, hv⟩ := ha y d q
    exact ⟨v, hv.keeps fun b o e => Heap.get?_push_of_some _ e⟩
  ·exact zi2 ha
theorem ziY {M : Model} {s : Shared} {globals : Addr} {Q : Env -> Shared -> Prop}
  (hQ : ∀ h' : Heap, h'.Ns s.heap.objs.size (fun _ => none) -> (∀ a o, s.heap.get? a = some o -> h'.get? a = some o) ->
   ((∀ x c, cl.lookup x = some c -> ∃ v, s.heap.IsCell c v) -> ∀ x c, (cellsFrom (s.heap.objs.size + 1) scope.names cl).lookup x = some c -> ∃ v, h'.IsCell c v) ->
   Q (newEnv scope s.heap.objs.size globals (cellsFrom (s.heap.objs.size + 1) scope.names cl) qual none .none (some env) builtinsNs) { s with heap := h' }) :
  wpAny M A (newFunctionEnv scope globals cl [] qual none .none (some env)) Q E s := by
 simp only [newFunctionEnv, Option.isSome_some, if_true]
 refine wpAny_bind (wpAny_alloc ?_)
 refine wpAny_bind (wpAny_layCells _ (fun name kind cells => by cases hkc : kind == NameKind.cell <;> simp [hkc]) _ _ _ _ ?_)
 rw [show ({ s with heap := s.heap.push { cls := .type "dict", data := .dict #[] } } : Shared).heap.objs.size = s.heap.objs.size + 1 from Heap.size_push ..]
 refine wpAny_bind ?_
 rw [List.forIn_nil]
 refine wpAny_pure (wpAny_pure (hQ _ ((Heap.Ns.new s.heap (.type "dict")).keeps (pushCells_keeps _ _)) (fun a o e => pushCells_keeps _ _ a o (Heap.get?_push_of_some _ e)) fun hc x c e => ?_))
 rw [<- Heap.size_push s.heap { cls := .type "dict", data := .dict #[] }] at e
 refine zi2 (fun y d q => ?_) x c e
 obtain ⟨v, hv⟩ := hc y d q
 exact ⟨v, hv.keeps fun b o e => Heap.get?_push_of_some _ e⟩
def clC (scope : Scope) (env : Env) (C : Addr) : List (Str × Addr) := cellsFrom (C + 1) scope.names (clOf scope env)
def ownC (scope : Scope) (x : Str) : Bool := match scope.names.lookup x with
 | some .cell => true
 | _ => false
def cxC (X : Cx) (N : List Str) (scope : Scope) (C : Addr) (s : Shared) (H : Hp) (fp : List Addr) : Cx :=
 { X with N := N, s₀ := s, H₀ := H, env := compEnvC scope (clC scope X.env C) C X.env, outer := X.stack, ex := fp, fn := ownC scope, pn := [], xe := fun _ _ => False }
structure BlkOk (X : Cx) (scope : Scope) : Prop where
 kind : scope.kind = .function
 uniq : ∀ y ∈ scope.names, scope.names.lookup y.1 = some y.2
 free : ∀ y ∈ scope.names, y.2 = .free -> X.env.kindOf y.1 = some .cell \/ X.env.kindOf y.1 = some .free
theorem zey {α : Type} {v : α} : ∀ {l : List (Str × α)}, l.lookup x = some v -> (x, v) ∈ l
 | [], h => by simp at h
 | (n, w) :: r, h => by
  rw [List.lookup_cons] at h
  by_cases z : (x == n) = true
  ·rw [z] at h
   have zz : x = n := by simpa using z
   subst zz
   cases h
   exact List.mem_cons_self
  ·have z' : (x == n) = false := by simpa using z
   rw [z'] at h
   exact List.mem_cons_of_mem _ (zey h)
theorem zcV {env : Env} {x : Str} : ∀ {names : List (Str × NameKind)}, (names.map fun (n, k) => if (k == NameKind.free && env.scope.kind == .function && env.kindOf n == some .cell) then (n, NameKind.cell) else (n, k)).lookup x =
  (names.lookup x).map fun k => if (k == NameKind.free && env.scope.kind == .function && env.kindOf x == some .cell) then NameKind.cell else k
 | [] => rfl
 | (n, k) :: r => by
  have ih := zcV (env := env) (x := x) (names := r)
  show List.lookup x ((if (k == NameKind.free && env.scope.kind == .function && env.kindOf n == some .cell) = true then (n, NameKind.cell) else (n, k)) :: _) = _
  cases hx : x == n with
  | true =>
   have zz : x = n := by simpa using hx
   by_cases hc : (k == NameKind.free && env.scope.kind == .function && env.kindOf n == some .cell) = true
   ·rw [if_pos hc]
    simp only [List.lookup_cons, hx, Option.map_some]
    rw [zz, if_pos hc]
   ·rw [if_neg hc]
    simp only [List.lookup_cons, hx, Option.map_some]
    rw [zz, if_neg hc]
  | false =>
   by_cases hc : (k == NameKind.free && env.scope.kind == .function && env.kindOf n == some .cell) = true
   ·rw [if_pos hc]; simp only [List.lookup_cons, hx]; exact ih
   ·rw [if_neg hc]; simp only [List.lookup_cons, hx]; exact ih
section
variable {X : Cx} {pins : List (Addr × Obj)} {σ : St} {H : Hp} {s : Shared} {scope : Scope} {N : List Str} {fp : List Addr} {C : Addr}
theorem zgD (I : Inv X pins σ H s) (b : BlkOk X scope) : ∀ y ∈ scope.names, y.2 = .free -> ∃ c, X.env.cells.lookup y.1 = some c := fun y hy hf => I.ok.has y.1 (b.free y hy hf)
theorem blk_vis (h : (relabel scope X.env).names.lookup x = some .cell \/ (relabel scope X.env).names.lookup x = some .free) : (x, NameKind.free) ∈ scope.names \/ (x, NameKind.cell) ∈ scope.names := by
 have e : (relabel scope X.env).names.lookup x = (scope.names.lookup x).map fun k => if (k == NameKind.free && X.env.scope.kind == .function && X.env.kindOf x == some .cell) then NameKind.cell else k := zcV
 rw [e] at h
 cases q : scope.names.lookup x with
 | none => rw [q] at h; simp at h
 | some k =>
  have hm := zey q
  by_cases hk : k = .free
  ·subst hk; exact .inl hm
  ·rw [q] at h
   have hkf : (k == NameKind.free) = false := by simpa using hk
   simp only [Option.map_some, hkf, Bool.false_and, Bool.false_eq_true, if_false, Option.some.injEq] at h
   rcases h with h | h
   ·subst h; exact .inr hm
   ·exact absurd h hk
theorem zfx (I : Inv X pins σ H s) (b : BlkOk X scope) (h : (clOf scope X.env).lookup x = some c) : X.env.cells.lookup x = some c := zcW (zgD I b) (by simp) h
theorem zfD (I : Inv X pins σ H s) (b : BlkOk X scope) (h : (clC scope X.env C).lookup x = some c) : C < c \/ X.env.cells.lookup x = some c := by
 rcases zgw h with ⟨h1, _⟩ | h1
 ·exact .inl h1
 ·exact .inr (zfx I b h1)
theorem zjf (b : BlkOk X scope) (h : (x, NameKind.free) ∈ scope.names) : (clC scope X.env C).lookup x = (clOf scope X.env).lookup x := zjN fun z => by
 have h1 := b.uniq _ h
 have h2 := b.uniq _ z
 simp only at h1 h2
 rw [h1] at h2
 cases h2
theorem blk_ok (I : Inv X pins σ H s) (b : BlkOk X scope) (hC : s.heap.objs.size <= C) (hf : ∀ b ∈ fp, FpOk X pins H b) (hfC : ∀ b ∈ fp, b < C) : (cxC X N scope C s H fp).Ok where
 mod := I.ok.mod
 kind := b.kind
 glob := I.ok.glob
 blt := I.ok.blt
 above := hC
 inj := zls (fun x c h => by
  obtain ⟨v, hv⟩ := I.cell x c (zfx I b h)
  exact Nat.lt_succ_of_lt (Nat.lt_of_lt_of_le hv.lt hC)) fun x y c h1 h2 => I.ok.inj x y c (zfx I b h1) (zfx I b h2)
 has := fun x hx => by
  rcases blk_vis (x := x) hx with hm | hm
  ·show ∃ c, (clC scope X.env C).lookup x = some c
   rw [zjf b hm]
   exact Option.isSome_iff_exists.mp (zdL (.inl hm))
  ·obtain ⟨c, h, _⟩ := zjF (n := C + 1) (acc := clOf scope X.env) hm
   exact ⟨c, h⟩
 cab := fun x c h e => by
  have h' : ownC scope x = true := h
  unfold ownC at h'
  split at h'
  ·rename_i q
   obtain ⟨c', h1, h2⟩ := zjF (n := C + 1) (acc := clOf scope X.env) (zey q)
   have e' : some c' = some c := h1.symm.trans e
   cases e'
   exact Nat.le_trans hC (Nat.le_of_succ_le h2)
  ·cases h'
 hd := I.ok.hd
 frames := I.ok.frames
 stk := .inl rfl
 exf := fun a ha => ⟨Nat.ne_of_lt (hfC a ha), fun x c e z => by
  rcases zfD I b e with q | q
  ·exact Nat.lt_asymm q (z ▸ hfC a ha)
  ·exact (hf a ha).2.2.2.2.1 x c q z⟩
 bs := I.bs
 bsz := Nat.le_trans I.ok.bsz I.sz
 noex := fun a o e ha => by
  rcases (hf a ha).2.2.2.1 with z | z
  ·exact I.ok.noex a o e z
  ·exact absurd (Nat.lt_of_lt_of_le (Heap.lt_size e) (Nat.le_trans I.ok.bsz z)) (Nat.lt_irrefl _)
 exfs := fun a ha hs => by
  rcases List.mem_cons.mp (I.stkSub a hs) with z | z
  ·exact (hf a ha).2.1 z
  ·exact (hf a ha).2.2.1 z
 funs := I.stack
 frf := I.stkFree
theorem zlX {tk : Nat} (I : Inv X pins σ H s) (b : BlkOk X scope) (hf : ∀ b ∈ fp, FpOk X pins H b) (hfs : ∀ b ∈ fp, b < s.heap.objs.size)
  (hns : h'.Ns s.heap.objs.size (fun _ => none)) (hk : ∀ a o, s.heap.get? a = some o -> h'.get? a = some o) (hcl : ∀ x c, (clC scope X.env s.heap.objs.size).lookup x = some c -> ∃ v, h'.IsCell c v) (hl : σc.length = N.length)
  (hσ : ∀ (i : Nat) (x : Str) (v : V), N[i]? = some x -> σc[i]? = some (some v) -> (x, NameKind.free) ∈ scope.names /\ ∃ j : Nat, X.N[j]? = some x /\ σ[j]? = some (some v)) (hloc : ∀ (i : Nat) (x : Str) (v : V), N[i]? = some x -> σc[i]? = some (some v) -> ¬ (relabel scope X.env).names.lookup x = some .local) :
  Inv (cxC X N scope s.heap.objs.size s H fp) [] σc H { s with heap := h', toks := tk } := by
 have ok := blk_ok (N := N) I b (Nat.le_refl _) hf hfs
 refine ⟨ok, rfl, I.bare, Un.kept hk, ⟨_, hns, fun i x v h1 h2 h3 => ?_⟩, fun x c e => ?_, I.hok.fresh (Nat.le_refl _), fun x c e => ?_, fun p hp => absurd (show p ∈ ([] : List (Addr × Obj)) from hp) (by simp), I.hok.kept hk, hl⟩
 ·obtain ⟨hm, j, hj, hv⟩ := hσ i x v h1 h2
  have hkind := b.free _ hm rfl
  obtain ⟨m, hn, hloc'⟩ := I.loc
  have hvis : Vis X.env.scope x := by
   rcases hkind with z | z
   ·exact .inr (.inl z)
   ·exact .inr (.inr z)
  obtain ⟨u, ru, lk⟩ := hloc' j x v hj hv hvis
  refine ⟨u, ru, ?_⟩
  rcases lk with ⟨z, _⟩ | ⟨_, c, ec, hc⟩
  ·exfalso
   rcases hkind with w | w <;> simp only at w <;> rw [z] at w <;> cases w
  ·refine .inr ⟨?_, c, ?_, ?_⟩
   ·rcases h3 with z | z | z
    ·exact absurd z (hloc i x v h1 h2)
    ·exact .inl z
    ·exact .inr z
   ·have hs : ((clOf scope X.env).lookup x).isSome = true := zdL (.inl hm)
    obtain ⟨c', ec'⟩ := Option.isSome_iff_exists.mp hs
    have := zcW (zgD I b) (by simp) ec'
    rw [ec] at this
    cases this
    exact (zjf b hm).trans ec'
   ·obtain ⟨o, ho, hd⟩ := hc
    exact ⟨o, hk _ _ ho, hd⟩
 ·exact hcl x c e
 ·rcases zfD I b e with q | q
  ·exact I.hok.fresh (Nat.le_of_lt q)
  ·exact I.freeC x c q
theorem zlD {h' : Heap} {s1 : Shared} (I : Inv X pins σ H s) (hf : ∀ b ∈ fp, FpOk X pins H b) (J : Inv (cxC X N scope s.heap.objs.size s H fp) [] σc H' s1) (hs : Heap.SameBut s.heap.objs.size s1.heap h') : Inv X pins σ H' { s1 with heap := h' } := by
 have kp : ∀ a o, a ≠ s.heap.objs.size -> s1.heap.get? a = some o -> h'.get? a = some o := fun a o ha e => hs.extBut a o ha e
 have free : H' s.heap.objs.size = none := J.free
 have ntr : ∀ a u, H' a = some u -> a ≠ s.heap.objs.size := fun a u e z => by rw [z, free] at e; cases e
 have lt : ∀ a o, s.heap.get? a = some o -> a ≠ s.heap.objs.size := fun a o e => Nat.ne_of_lt (Heap.lt_size e)
 have u : Un (frs X.stack) fp H H' s.heap s1.heap := J.base
 have u' : Un (frs X.stack) fp H H' s.heap h' := by
  refine ⟨fun a o e n hb hx => kp a o (lt a o e) (u.keep a o e n hb hx), fun a o e n hb hx => ?_, u.free, fun a o e hx => ?_, u.tups, u.frzs, u.tbls⟩
  ·obtain ⟨sl, q⟩ := u.slot a o e n hb hx
   exact ⟨sl, kp a _ (lt a o e) q⟩
  ·obtain ⟨o', q⟩ := u.there a o e hx
   exact ⟨o', kp a _ (lt a o e) q⟩
 have hok : HOk X.prog X.w H' h' := fun a o e => (J.hok a o e).stay (fun c v hc q => by
  refine kp c v ?_ q
  rcases hc with rfl | hc
  ·exact ntr _ _ e
  ·exact ntr _ _ hc) (fun _ q => q) fun _ _ q => q
 obtain ⟨hh, g, d, t, os'⟩ := s1
 have os : os' = s.os := J.os
 subst os
 have z := I.call (h' := h') (g' := g) (d' := d) (t' := t) (ch := fp) u' hok J.bare (fun a ha => ⟨(hf a ha).2.2.2.1, (hf a ha).2.1, (hf a ha).2.2.2.2.1, (hf a ha).2.2.2.2.2⟩)
 exact z
end
def PTs (X : Cx) (ifs : List Expr) (t : TT) : Prop := ∀ (pins : List (Addr × Obj)) (s : Shared) (σ : St) (H : Hp) (Q : Bool -> Hp -> Prop), Inv X pins σ H s -> t σ H Q ->
 wpAny (model X.prog X.w) X.A (forIn ifs true fun c r => if r = true then do let ok <- isTrue c X.env (eval c X.env); pure (ForInStep.yield ok) else pure (ForInStep.yield r)) (TP X pins σ Q) X.xe s
theorem pts_nil : PTs X [] (fun _ H Q => Q true H) := fun pins s σ H Q I h => wpAny_tests_nil ⟨H, I, h⟩
theorem zi6 {R : Result -> Shared -> Prop} {s : Shared} {elt target iter : Expr} {it acc : Value} (I : Nat -> Shared -> Prop)
  (turn : ∀ n s, I n s -> wpAny (model prog w) A (pyNext it) (fun r s₁ => match r with
   | none => R (.ok .next) s₁
   | some v => wpAny (model prog w) A (letOwnedTupleGo target it v) (fun _ s₁' => wpAny (model prog w) A (assign target env v) (fun _ s₂ =>
     wpAny (model prog w) A (forIn ifs true fun c r => if r = true then do let ok <- isTrue c env (eval c env); pure (ForInStep.yield ok) else pure (ForInStep.yield r)) (fun ok s₃ =>
      if ok = true then wpAny (model prog w) A (eval elt env) (fun x s₄ =>
       wpAny (model prog w) A (call (.builtin "list.append") [acc, x]) (fun _ s₅ => ∃ m, m < n /\ I m s₅) (fun _ _ => False) s₄) (fun _ _ => False) s₃
      else ∃ m, m < n /\ I m s₃) (fun _ _ => False) s₂) (fun _ _ => False) s₁') (fun _ _ => False) s₁) (fun _ _ => False) s)
  (n : Nat) (h : I n s) : codeAny (model prog w) A (.compLoop (.ListComp elt [⟨target, iter, ifs, 0⟩] scope pos) 0 it acc env) R s := by
 refine codeAny_loop rfl I (fun n s hI => ?_) n h
 show wpAny _ A ((compTurn (.ListComp elt [⟨target, iter, ifs, 0⟩] scope pos) 0 it acc env).onRaise (fun x => do noteFrame x env; theTreesLotGoes x)) _ _ s
 refine wpAny_noted ?_
 rw [compTurn_list]
 have no : ∀ {E : Value -> Shared -> Prop}, ∀ x s', (fun (_ : Value) (_ : Shared) => False) x s' -> E x s' := fun _ _ z => z.elim
 refine wpAny_bind (wpAny_standAt (wpAny_bind (wpAny_mono (turn n s hI) (fun r s₁ h₁ => ?_) no)))
 cases r with
 | none => exact wpAny_pure h₁
 | some v =>
  refine wpAny_bind (wpAny_mono h₁ (fun _ s₁' h₁' => ?_) no)
  refine wpAny_bind (wpAny_mono h₁' (fun _ s₂ h₂ => wpAny_bind (wpAny_mono h₂ (fun ok s₃ h₃ => ?_) no)) no)
  cases ok with
  | false => exact wpAny_pure ⟨rfl, h₃⟩
  | true =>
   exact wpAny_bind (wpAny_bind (wpAny_mono h₃ (fun x s₄ h₄ => wpAny_bind (wpAny_mono h₄ (fun _ s₅ h₅ => wpAny_pure (wpAny_pure ⟨rfl, h₅⟩)) no)) no))
def tLC (σ0 : St -> St) (wi : TI) (g : Addr -> Shared -> Hp -> List Addr -> TG) (tt : Addr -> Shared -> Hp -> List Addr -> TT) (te : Addr -> Shared -> Hp -> List Addr -> TE) : TE := fun σ H Q => wi σ H fun J H1 => ∀ D, H1 D = none -> ∃ W : Nat -> Nat -> St -> Hp -> Prop, (∃ m, W 0 m (σ0 σ) (upd H1 D (.lst []))) /\ ∀ i m σ H, W i m σ H ->
 (J.stop i H /\ Q (.ref D) H) \/ (J.go i H /\ ∀ C s₀ H₀ fp x H', J.yld i H x H' -> g C s₀ H₀ fp x σ H' fun σ2 H2 => tt C s₀ H₀ fp σ2 H2 fun ok H3 => if ok = true then te C s₀ H₀ fp σ2 H3 fun v H4 => ∃ xs, H4 D = some (.lst xs) /\ xs.length < sizeLine /\ ∃ m', m' < m /\ W (i + 1) m' σ2 (upd H4 D (.lst (xs ++ [v])))
  else ∃ m', m' < m /\ W (i + 1) m' σ2 H3)
section
variable {X : Cx} {elt iter tg : Expr} {ifs : List Expr} {scope : Scope} {pos : Pos} {N : List Str} {σ0 : St -> St} {wi : TI} {g : Addr -> Shared -> Hp -> List Addr -> TG} {tt : Addr -> Shared -> Hp -> List Addr -> TT} {te : Addr -> Shared -> Hp -> List Addr -> TE}
structure Cap (X : Cx) (scope : Scope) (N : List Str) (σ0 : St -> St) : Prop where
 len : ∀ σ, (σ0 σ).length = N.length
 src : ∀ (σ : St) (i : Nat) (x : Str) (v : V), N[i]? = some x -> (σ0 σ)[i]? = some (some v) -> (x, NameKind.free) ∈ scope.names /\ ∃ j : Nat, X.N[j]? = some x /\ σ[j]? = some (some v)
 loc : ∀ (σ : St) (i : Nat) (x : Str) (v : V), N[i]? = some x -> (σ0 σ)[i]? = some (some v) -> ¬ (relabel scope X.env).names.lookup x = some .local
theorem zlf {E : Value -> Shared -> Prop} (hc : X.calm = true) (b : BlkOk X scope) (cap : Cap X scope N σ0) (hi : PI X tg iter wi) (hg : ∀ C s H fp, PG (cxC X N scope C s H fp) tg (g C s H fp)) (ht : ∀ C s H fp, PTs (cxC X N scope C s H fp) ifs (tt C s H fp)) (he : ∀ C s H fp, PE (cxC X N scope C s H fp) elt (te C s H fp))
  {pins : List (Addr × Obj)} {s : Shared} {σ : St} {H : Hp} {Q : VK} (I : Inv X pins σ H s) (h : tLC σ0 wi g tt te σ H Q) {QQ : Value -> Shared -> Prop} {p0 : Pos}
  (hs : ∀ x, foldedSetIterable iter X.env x = pure x)
  (fin : match use with
   | none => ∀ u s', EP X pins σ Q u s' -> QQ u s'
   | some f => ∀ (D : Addr) (fp : List Addr) (C : Addr) (H1 H' : Hp) (σc : St) (s1 s' : Shared), Inv X pins σ H1 s1 -> (∀ b ∈ fp, FpOk X pins H1 b) -> C = s1.heap.objs.size -> Inv (cxC X N scope C s1 H1 fp) [] σc H' s' -> Q (.ref D) H' ->
     wpAny (model X.prog X.w) X.A (f (.ref D)) (fun _ s'' => ∃ m, s''.heap.Ns C m /\ ∀ h', Heap.SameBut C s''.heap h' -> QQ .none { s'' with heap := h' }) X.xe s') :
  wpAny (model X.prog X.w) X.A (comprehension (.ListComp elt [⟨tg, iter, ifs, 0⟩] scope pos) scope X.env p0 (newList []) false (eval iter X.env) use) QQ X.xe s := by
 refine wpAny_comprehension_free (cl := clOf scope X.env) (g := ⟨tg, iter, ifs, 0⟩) (gs := []) rfl hs (zj5 (zgD I b)) b.kind (fun x hx hl => hl ▸ b.uniq x hx) ?_
 refine thn (hi pins s σ H _ I h) fun v s1 h1 => thn h1 fun itv s2 h2 => ?_
 obtain ⟨it, fp, tn, J, H2, e, I2, T, st2, f2, h3⟩ := h2
 subst e
 refine wpAny_newObj_type ?_ (by show (0 : Nat) <= sizeLine; exact Nat.zero_le _)
 have hD : H2 s2.heap.objs.size = none := I2.fresh
 obtain ⟨W, ⟨m0, w0⟩, turn⟩ := h3 _ hD
 have I3 : Inv X pins σ (upd H2 s2.heap.objs.size (.lst [])) { s2 with heap := s2.heap.push { cls := .type "list", data := .seq ([] : List Value).toArray } } := I2.lnew (t' := s2.toks) .nil (Nat.zero_le _)
 have f3 : ∀ b ∈ fp, FpOk X pins (upd H2 s2.heap.objs.size (.lst [])) b := fun b hb => by
  obtain ⟨a1, a2⟩ := f2 b hb
  obtain ⟨o, ho, _⟩ := T.obj _ _ st2 b hb
  exact ⟨by rw [zam (Nat.ne_of_lt (Heap.lt_size ho))]; exact a1, a2⟩
 have st3 : tn 0 (s2.heap.push { cls := .type "list", data := .seq ([] : List Value).toArray }) := T.keep _ _ _ st2 fun b hb o e => Heap.get?_push_of_some _ e
 generalize hs3 : ({ s2 with heap := s2.heap.push { cls := .type "list", data := .seq ([] : List Value).toArray } } : Shared) = s3 at I3
 have hs3' : s3.heap = s2.heap.push { cls := .type "list", data := .seq ([] : List Value).toArray } := by rw [<- hs3]
 rw [<- hs3'] at st3
 have hfs : ∀ b ∈ fp, b < s3.heap.objs.size := fun b hb => by
  obtain ⟨o, ho, _⟩ := T.obj _ _ st3 b hb
  exact Heap.lt_size ho
 show wpAny _ _ (newFunctionEnv scope X.env.globals (clOf scope X.env) [] X.env.qual none .none (some X.env)) _ _ s3
 refine ziY fun h' hns hk hcl => ?_
 have hcl := hcl fun x c e => I3.cell x c (zfx I3 b e)
 generalize hDD : s2.heap.objs.size = DD at *
 have B0 : Inv (cxC X N scope s3.heap.objs.size s3 (upd H2 DD (.lst [])) fp) [] (σ0 σ) (upd H2 DD (.lst [])) { s3 with heap := h' } :=
  zlX (tk := s3.toks) I3 b f3 hfs hns hk hcl (cap.len σ) (cap.src σ) (cap.loc σ)
 have stat : ∀ {H' : Hp}, (∀ b ∈ fp, H' b = none) -> ∀ b ∈ fp, FpOk (cxC X N scope s3.heap.objs.size s3 (upd H2 DD (.lst [])) fp) [] H' b := fun hn b' hb => by
  refine ⟨hn b' hb, Nat.ne_of_lt (hfs b' hb), fun z => ?_, .inl hb, fun x c e => ?_, fun p hp => absurd (show p ∈ ([] : List (Addr × Obj)) from hp) (by simp)⟩
  ·rcases List.mem_cons.mp (I3.stkSub b' z) with w | w
   ·exact (f3 b' hb).2.1 w
   ·exact (f3 b' hb).2.2.1 w
  ·intro z
   rcases zfD I3 b e with q | q
   ·exact Nat.lt_asymm q (z ▸ hfs b' hb)
   ·exact (f3 b' hb).2.2.2.2.1 x c q z
 have tn0 : tn 0 h' := T.keep _ _ _ st3 fun b' hb o e => hk b' o e
 have post : ∀ (s' : Shared) (σc : St) (H' : Hp), Inv (cxC X N scope s3.heap.objs.size s3 (upd H2 DD (.lst [])) fp) [] σc H' s' -> Q (.ref DD) H' -> compPost (model X.prog X.w) X.A X.xe use QQ (.ref DD) s3.heap.objs.size (.ok .next) s' := fun s' σc H' J' q => by
  cases use with
  | none =>
   obtain ⟨m, hn, _⟩ := J'.loc
   exact ⟨m, hn, fun h'' hs'' => fin _ _ ⟨.ref DD, H', zlD I3 f3 J' hs'', rfl, q⟩⟩
  | some f => exact fin DD fp _ _ H' σc s3 s' I3 f3 rfl J' q
 have loop : codeAny (model X.prog X.w) X.A (.compLoop (.ListComp elt [⟨tg, iter, ifs, 0⟩] scope pos) 0 (.ref it) (.ref DD) (compEnvC scope (clC scope X.env s3.heap.objs.size) s3.heap.objs.size X.env)) (compPost (model X.prog X.w) X.A X.xe use QQ (.ref DD) s3.heap.objs.size) { s3 with heap := h' } := by
  refine zi6 (fun n s' => ∃ i σ' H', Inv (cxC X N scope s3.heap.objs.size s3 (upd H2 DD (.lst [])) fp) [] σ' H' s' /\ tn i s'.heap /\ (∀ b ∈ fp, H' b = none) /\ W i n σ' H') ?_ m0 ⟨0, σ0 σ, _, B0, tn0, fun b' hb => (f3 b' hb).1, w0⟩
  rintro n s5 ⟨i, σ5, H5, I5, st5, fr5, w5⟩
  rcases turn i n σ5 H5 w5 with ⟨stop, qn⟩ | ⟨go, step⟩
  ·refine thn (T.done (cxC X N scope s3.heap.objs.size s3 (upd H2 DD (.lst [])) fp) rfl rfl rfl hc i [] s5 σ5 H5 (fun _ _ => False) I5 (stat fr5) st5 stop) fun r s6 ⟨hr, I6⟩ => ?_
   subst hr
   exact post s6 σ5 H5 I6 qn
  ·refine thn (T.item (cxC X N scope s3.heap.objs.size s3 (upd H2 DD (.lst [])) fp) rfl rfl rfl hc i [] s5 σ5 H5 (fun _ _ => False) I5 (stat fr5) st5 go) fun r s6 ⟨u, hr, h6⟩ => ?_
   subst hr
   refine thn h6 fun _ s7 ⟨x, H7, I7, r7, y7, st7, fr7⟩ => ?_
   have I7' := I7.pinned (stat fr7) (T.obj _ _ st7)
   have again : ∀ {σ8 : St} {H8 : Hp} {s8 : Shared} {m' : Nat}, Inv (cxC X N scope s3.heap.objs.size s3 (upd H2 DD (.lst [])) fp) ([] ++ zii fp s7.heap) σ8 H8 s8 -> m' < n -> W (i + 1) m' σ8 H8 ->
     ∃ m, m < n /\ ∃ i σ' H', Inv (cxC X N scope s3.heap.objs.size s3 (upd H2 DD (.lst [])) fp) [] σ' H' s8 /\ tn i s8.heap /\ (∀ b ∈ fp, H' b = none) /\ W i m σ' H' := fun {σ8 H8 s8 m'} I8 hm w8 => by
    refine ⟨m', hm, i + 1, σ8, H8, I8.unpinned, T.keep _ _ _ st7 fun b' hb o e => (I8.pin (b', o) (List.mem_append_right _ (List.mem_append_right _ (zez hb e)))).1, fun b' hb => ?_, w8⟩
    obtain ⟨o, e, d⟩ := T.obj _ _ st7 b' hb
    exact (I8.pin (b', o) (List.mem_append_right _ (List.mem_append_right _ (zez hb e)))).2.1
   refine thn (hg _ _ _ _ _ s7 σ5 H7 x u _ I7' r7 (step _ _ _ _ x H7 y7)) fun _ s8 ⟨σ8, H8, I8, q8⟩ => ?_
   refine thn (ht _ _ _ _ _ s8 σ8 H8 _ I8 q8) fun ok s9 ⟨H9, I9, q9⟩ => ?_
   cases ok with
   | false =>
    obtain ⟨m', hm, w9⟩ := q9
    exact again I9 hm w9
   | true =>
    refine thn (he _ _ _ _ _ s9 σ8 H9 _ I9 q9) fun u10 s10 ⟨v10, H10, I10, r10, xs, hx, hz, m', hm, w10⟩ => ?_
    refine thn (zio _ s10 σ8 H10 (.ref DD) [v10] (.ref DD) [u10] (fun v H' => v = .non /\ H' = upd H10 DD (.lst (xs ++ [v10]))) I10 rfl (.cons r10 .nil) ⟨DD, xs, v10, rfl, rfl, hx, hz, rfl, rfl⟩) fun _ s11 ⟨_, H11, I11, _, _, e11⟩ => ?_
    subst e11
    exact again I11 hm w10
 exact codeAny_compStart_list loop (T.self _ _ _ _ _ tn0 loop)
theorem pe_lc (hc : X.calm = true) (b : BlkOk X scope) (cap : Cap X scope N σ0) (hi : PI X tg iter wi) (hg : ∀ C s H fp, PG (cxC X N scope C s H fp) tg (g C s H fp)) (ht : ∀ C s H fp, PTs (cxC X N scope C s H fp) ifs (tt C s H fp)) (he : ∀ C s H fp, PE (cxC X N scope C s H fp) elt (te C s H fp))
    (hs : ∀ x, foldedSetIterable iter X.env x = pure x := by exact fun _ => rfl) : PE X (.ListComp elt [⟨tg, iter, ifs, 0⟩] scope pos) (tLC σ0 wi g tt te) := by
  intro pins s σ H Q I h
  rw [eval_ListComp]
  exact zlf (use := none) (E := X.xe) hc b cap hi hg ht he I h hs (fun u s' q => q)
end
def zbT (ρ : R) : Bool := ρ.all fun s => match s with
 | .own _ => false
 | .par _ => false
 | .tre _ => false
 | .ptr _ => false
 | _ => true
theorem zgg (h : zbT ρ = true) {a : Addr} (e : ρ[i]? = some s) : ¬ OwS K G H ov a s := fun w => by
 unfold zbT at h
 rw [List.all_eq_true] at h
 have := h s (List.mem_of_getElem? e)
 cases s with
 | emp => exact w
 | two _ _ => exact w
 | val d => exact w
 | _ => exact absurd (show false = true from this) Bool.false_ne_true
theorem zdi (h : zbT ρ = true) (e : ρ[i]? = some s) : (∀ t, s ≠ .tre t) /\ ∀ t, s ≠ .ptr t := by
 unfold zbT at h
 rw [List.all_eq_true] at h
 have := h s (List.mem_of_getElem? e)
 constructor
 ·rintro t rfl; exact absurd (show false = true from this) Bool.false_ne_true
 ·rintro t rfl; exact absurd (show false = true from this) Bool.false_ne_true
theorem zdy (h : zbT ρ = true) : ¬ Wr ρ i := fun ⟨s, ds, e, q⟩ => by
 unfold zbT at h
 rw [List.all_eq_true] at h
 have := h s (List.mem_of_getElem? e)
 cases s with
 | emp => cases q
 | two _ _ => cases q
 | tre _ => cases q
 | ptr _ => cases q
 | val d => cases q
 | own d => exact absurd (show false = true from this) Bool.false_ne_true
 | par d => exact absurd (show false = true from this) Bool.false_ne_true
structure VS (K : W.Frag) (G : Hp) (σ : St) (ρ : R) : Prop where
 len : σ.length = ρ.length
 no : zbT ρ = true
 val : ∀ (i : Nat) d, ρ[i]? = some (.val d) -> ∃ v, σ[i]? = some (some v) /\ RepD K G v d
theorem VS.si (h : VS K G σ ρ) (fz : Fz G H) : SI K ⟨G, H, []⟩ G H σ ρ where
 fz := fz
 g0 := Fz.refl G
 new := fun b o e => .inl (by show G b ≠ none; rw [e]; simp)
 keep := fun b o e _ => e
 there := fun b e => e
 ob := fun i b m => by cases m
 len := h.len
 slot := fun i s e => by
  cases s with
  | emp => trivial
  | two _ _ => trivial
  | tre t => exact absurd rfl ((zdi h.no e).1 t)
  | ptr t => exact absurd rfl ((zdi h.no e).2 t)
  | val d => exact h.val i d e
  | own ds => exact absurd ⟨_, ds, e, rfl⟩ (zdy h.no (i := i))
  | par ds => exact absurd ⟨_, ds, e, rfl⟩ (zdy h.no (i := i))
 dis := fun i j s _ a _ e _ w => absurd w (zgg h.no e)
theorem VS.of (I : SI K B G H σ ρ) (h : zbT ρ = true) : VS K G σ ρ := ⟨I.len, h, fun i d e => I.slot i _ e⟩
def fz1 (i : Nat) (ρ : R) : R := match ρ[i]? with
 | some (.own ds) => ρ.set i (.val (.lst ds))
 | _ => ρ
def fzL : List Nat -> R -> R
 | [], ρ => ρ
 | i :: is, ρ => fzL is (fz1 i ρ)
theorem SI.fz1 (I : SI K B G H σ ρ) (i : Nat) : ∃ G', SI K B G' H σ (M.fz1 i ρ) /\ Fz G G' := by
 unfold M.fz1
 cases e : ρ[i]? with
 | none => exact ⟨G, I, Fz.refl G⟩
 | some s =>
  cases s with
  | own ds => obtain ⟨l, xs, _, f, _, I'⟩ := I.freeze e; exact ⟨_, I', f⟩
  | emp => exact ⟨G, I, Fz.refl G⟩
  | two _ _ => exact ⟨G, I, Fz.refl G⟩
  | tre _ => exact ⟨G, I, Fz.refl G⟩
  | ptr _ => exact ⟨G, I, Fz.refl G⟩
  | val _ => exact ⟨G, I, Fz.refl G⟩
  | par _ => exact ⟨G, I, Fz.refl G⟩
theorem SI.fzL : ∀ (is : List Nat) {G : Hp} {ρ : R}, SI K B G H σ ρ -> ∃ G', SI K B G' H σ (M.fzL is ρ) /\ Fz G G'
 | [], G, ρ, I => ⟨G, I, Fz.refl G⟩
 | i :: is, G, ρ, I => by
  obtain ⟨G1, I1, f1⟩ := I.fz1 i
  obtain ⟨G2, I2, f2⟩ := SI.fzL is I1
  exact ⟨G2, I2, f1.trans f2⟩
def capS (ρ : R) (i : Nat) : Sl := match ρ[i]? with
 | some (.val d) => .val d
 | _ => .emp
theorem zky (ρ : R) (i : Nat) : capS ρ i = .emp \/ ∃ d, capS ρ i = .val d := by
 unfold capS
 split
 ·exact .inr ⟨_, rfl⟩
 ·exact .inl rfl
def capR (cap : List Nat) (t : Nat) (ρ : R) : R := cap.map (capS ρ) ++ List.replicate t .emp
def capσ (cap : List Nat) (t : Nat) (σ : St) : St := cap.map (fun i => (σ[i]?).join) ++ List.replicate t none
theorem zjM (I : SI K B G H σ ρ) (cap : List Nat) (t : Nat) : VS K G (capσ cap t σ) (capR cap t ρ) where
 len := by unfold capσ capR; simp
 no := by
  unfold zbT capR
  rw [List.all_eq_true]
  intro s hs
  rcases List.mem_append.mp hs with h | h
  ·obtain ⟨i, _, rfl⟩ := List.mem_map.mp h
   rcases zky ρ i with e | ⟨d, e⟩
   ·rw [e]
   ·rw [e]
  ·rw [List.eq_of_mem_replicate h]
 val := fun i d e => by
  unfold capR at e
  by_cases hi : i < cap.length
  ·rw [List.getElem?_append_left (by simpa using hi), List.getElem?_map, List.getElem?_eq_getElem hi] at e
   have e' : capS ρ cap[i] = .val d := by simpa using e
   unfold capS at e'
   split at e'
   ·rename_i d' q
    cases e'
    obtain ⟨v, h1, h2⟩ := I.slot _ _ q
    refine ⟨v, ?_, h2⟩
    unfold capσ
    rw [List.getElem?_append_left (by simpa using hi), List.getElem?_map, List.getElem?_eq_getElem hi]
    simp [h1]
   ·cases e'
  ·rw [List.getElem?_append_right (by simpa using hi), List.getElem?_replicate] at e
   split at e
   ·cases e
   ·cases e
def zcT (f : D -> R -> Option (Option D × R)) : List D -> R -> Option (List D × R)
 | [], ρ => some ([], ρ)
 | d :: ds, ρ => (f d ρ).bind fun p => (zcT f ds p.2).map fun q => (p.1.toList ++ q.1, q.2)
def zkB (g : D -> R -> Option R) (mt : MT) (me : ME) : D -> R -> Option (Option D × R) := fun d ρ => (g d ρ).bind fun ρ1 => (mt ρ1).bind fun p => if p.1 then (me p.2).bind fun q => if zbT q.2 then some (some q.1, q.2) else none else if zbT p.2 then some (none, p.2) else none
def oLC (cap : List Nat) (t : Nat) (mi : MA) (g : D -> R -> Option R) (mt : MT) (me : ME) : MO := fun ρ => (mi ρ).bind fun p => if p.1.length <= 16777216 then (zcT (zkB g mt me) p.1 (capR cap t (fzL cap p.2))).map fun q => (q.1, fzL cap p.2) else none
def STs (X : Cx) (ifs : List Expr) (m : MT) : Prop :=
 ∃ t, PTs X ifs t /\ ∀ B G H σ ρ d ρ' (Q : Bool -> Hp -> Prop), SI X.K B G H σ ρ -> m ρ = some (d, ρ') -> (∀ G' H', SI X.K B G' H' σ ρ' -> Fz G G' -> Q d H') -> t σ H Q
def zcl : MT := fun ρ => some (true, ρ)
theorem zaI : STs X [] zcl := ⟨_, pts_nil, fun B G H σ ρ d ρ' Q I hm k => by cases hm; exact k G H I (Fz.refl G)⟩
def blkB (env : Env) (scope : Scope) : Bool := (scope.names.all fun x => scope.names.lookup x.1 == some x.2 && (x.2 != .free || (env.kindOf x.1 == some .cell || env.kindOf x.1 == some .free)))
theorem ziA (hk : scope.kind = .function) (h : blkB X.env scope = true) : BlkOk X scope := by
 unfold blkB at h
 rw [List.all_eq_true] at h
 refine ⟨hk, fun x hx => ?_, fun x hx hf => ?_⟩
 ·have := h x hx
  simp only [Bool.and_eq_true, Bool.or_eq_true, bne_iff_ne, beq_iff_eq] at this
  exact this.1
 ·have := h x hx
  simp only [Bool.and_eq_true, Bool.or_eq_true, bne_iff_ne, beq_iff_eq] at this
  exact (this.2).resolve_left (fun z => z hf)
def capB (names : List (Str × NameKind)) (N XN : List Str) (cap : List Nat) (t : Nat) : Bool := N.length == cap.length + t && (cap.zip N).all fun p => XN[p.1]? == some p.2 && names.lookup p.2 == some .free
theorem ziC (h : capB scope.names N X.N cap t = true) : Cap X scope N (capσ cap t) := by
 unfold capB at h
 rw [Bool.and_eq_true, List.all_eq_true] at h
 obtain ⟨hl, h⟩ := h
 have hl : N.length = cap.length + t := by simpa using hl
 have key : ∀ (σ : St) (i : Nat) (x : Str) (v : V), N[i]? = some x -> (capσ cap t σ)[i]? = some (some v) -> ∃ j, cap[i]? = some j /\ σ[j]? = some (some v) /\ X.N[j]? = some x /\ scope.names.lookup x = some .free := fun σ i x v h1 h2 => by
  unfold capσ at h2
  by_cases hi : i < cap.length
  ·rw [List.getElem?_append_left (by simpa using hi), List.getElem?_map, List.getElem?_eq_getElem hi] at h2
   have h3 : (σ[cap[i]]?).join = some v := by simpa using h2
   have hz : (cap[i], x) ∈ cap.zip N := by
    refine List.mem_of_getElem? (i := i) ?_
    rw [List.getElem?_zip_eq_some]
    exact ⟨List.getElem?_eq_getElem hi, h1⟩
   have := h _ hz
   simp only [Bool.and_eq_true, beq_iff_eq] at this
   refine ⟨cap[i], List.getElem?_eq_getElem hi, ?_, this.1, this.2⟩
   cases q : σ[cap[i]]? with
   | none => rw [q] at h3; cases h3
   | some o => rw [q] at h3; rw [show o = some v from h3]
  ·rw [List.getElem?_append_right (by simpa using hi), List.getElem?_replicate] at h2
   split at h2 <;> cases h2
 refine ⟨fun σ => by unfold capσ; simp [hl], fun σ i x v h1 h2 => ?_, fun σ i x v h1 h2 z => ?_⟩
 ·obtain ⟨j, _, a, b, c⟩ := key σ i x v h1 h2
  exact ⟨zey c, j, b, a⟩
 ·obtain ⟨j, _, a, b, c⟩ := key σ i x v h1 h2
  have e : (relabel scope X.env).names.lookup x = (scope.names.lookup x).map fun k => if (k == NameKind.free && X.env.scope.kind == .function && X.env.kindOf x == some .cell) then NameKind.cell else k := zcV
  rw [e, c] at z
  simp only [Option.map_some, Option.some.injEq] at z
  split at z <;> cases z
structure LcV (K : W.Frag) (g : D -> R -> Option R) (mt : MT) (me : ME) (items all : List D) (G2 H1 : Hp) (DD : Addr) (i : Nat) (σc : St) (Hc Gc : Hp) (ρc : R) (acc : List D) (xs : List V) (rest : List D) (ρe : R) : Prop where
 fc : Fz G2 Gc
 fcH : Fz Gc Hc
 nw : ∀ b o, Gc b = some o -> G2 b ≠ none \/ H1 b = none
 kp : ∀ b o, H1 b = some o -> Hc b = some o
 gD : Gc DD = none
 hDc : Hc DD = some (.lst xs)
 ra : RepL K Gc xs acc
 hx : xs.length <= i
 vs : VS K Gc σc ρc
 ec : zcT (zkB g mt me) (items.drop i) ρc = some (rest, ρe)
 eall : all = acc ++ rest
section
variable {X : Cx} {elt iter tg : Expr} {ifs : List Expr} {scope : Scope} {pos : Pos} {N : List Str} {cap : List Nat} {t : Nat} {mi : MA} {g : D -> R -> Option R} {mt : MT} {me : ME}
theorem sound_lc 
  (si : ∀ B G H σ ρ ds ρ' (Q : It -> Hp -> Prop), SI X.K B G H σ ρ -> mi ρ = some (ds, ρ') -> (∀ J G' H', SI X.K B G' H' σ ρ' -> Fz G G' -> Itm X.K J G' ds -> Q J H') -> wi σ H Q)
  (sg : ∀ C s H₀ fp B G H σ ρ v d ρ' (Q : St -> Hp -> Prop), SI X.K B G H σ ρ -> RepD X.K G v d -> g d ρ = some ρ' -> (∀ G' H' σ', SI X.K B G' H' σ' ρ' -> Fz G G' -> Q σ' H') -> tg' C s H₀ fp v σ H Q)
  (st : ∀ C s H₀ fp B G H σ ρ d ρ' (Q : Bool -> Hp -> Prop), SI X.K B G H σ ρ -> mt ρ = some (d, ρ') -> (∀ G' H', SI X.K B G' H' σ ρ' -> Fz G G' -> Q d H') -> tt C s H₀ fp σ H Q)
  (se : ∀ C s H₀ fp B G H σ ρ d ρ' (Q : VK), SI X.K B G H σ ρ -> me ρ = some (d, ρ') -> (∀ G' H' v, SI X.K B G' H' σ ρ' -> Fz G G' -> RepD X.K G' v d -> Q v H') -> te C s H₀ fp σ H Q) :
  ∀ B G H σ ρ ds ρ' (Q : VK), SI X.K B G H σ ρ -> oLC cap t mi g mt me ρ = some (ds, ρ') ->
   (∀ G' H' l xs, SI X.K B G' H' σ ρ' -> Fz G G' -> G' l = none -> H' l = some (.lst xs) -> RepL X.K G' xs ds -> B.H l = none -> Nw X.K G' H' σ ρ' l -> Q (.ref l) H') -> tLC (capσ cap t) wi tg' tt te σ H Q := by
 intro B G H σ ρ ds ρ' Q I hm k
 obtain ⟨⟨items, ρ1⟩, e1, hm⟩ := zad hm
 refine si B G H σ ρ items ρ1 _ I e1 fun J G1 H1 I1 f1 IT DD hD => ?_
 dsimp only at hm
 split at hm
 ·rename_i hlen
  obtain ⟨⟨all, ρf⟩, e2, e3⟩ := zas hm
  obtain ⟨rfl, rfl⟩ := Prod.mk.inj e3
  obtain ⟨G2, I2, f2⟩ := SI.fzL cap I1
  have hDG : G2 DD = none := I2.fz.free hD
  refine ⟨fun i m σc Hc => m = items.length - i /\ i <= items.length /\ ∃ Gc ρc acc xs rest ρe, LcV X.K g mt me items all G2 H1 DD i σc Hc Gc ρc acc xs rest ρe,
   ⟨items.length, by simp, Nat.zero_le _, G2, capR cap t (M.fzL cap ρ1), [], [], all, ρf, { fc := Fz.refl _, fcH := I2.fz.right hDG _, nw := fun b o e => .inl (by rw [e]; simp), kp := fun b o e => by rw [zam (zaq e hD)]; exact e, gD := hDG, hDc := zar, ra := .nil, hx := Nat.le_refl _, vs := zjM I2 cap t, ec := by simpa using e2, eall := rfl }⟩, ?_⟩
  rintro i m σc Hc ⟨rfl, hi, Gc, ρc, acc, xs, rest, ρe, J0⟩
  obtain ⟨fc, fcH, nw, kp, gD, hDc, ra, hx, vs, ec, eall⟩ := J0
  by_cases hlt : i < items.length
  ·refine .inr ⟨IT.go Hc i (f2.trans (fc.trans fcH)) hlt, fun C s₀ H₀ fp x H' y => ?_⟩
   rw [List.drop_eq_getElem_cons hlt] at ec
   simp only [zcT] at ec
   obtain ⟨⟨o, ρ3⟩, h3, ec⟩ := zad ec
   obtain ⟨⟨rest2, ρ4⟩, h4, ec⟩ := zas ec
   obtain ⟨rfl, rfl⟩ := Prod.mk.inj ec
   dsimp only at h4
   unfold zkB at h3
   obtain ⟨ρ5, h5, h3⟩ := zad h3
   obtain ⟨⟨ok, ρ6⟩, h6, h3⟩ := zad h3
   dsimp only at h3
   have Ic : SI X.K ⟨Gc, Hc, []⟩ Gc Hc σc ρc := vs.si fcH
   have fz2 : Fz G1 Hc := f2.trans (fc.trans fcH)
   have yy := IT.yld Hc i x H' fz2 y items[i] (List.getElem?_eq_getElem hlt)
   have yy2 : (H' = Hc /\ RepD X.K Gc x items[i]) \/ ∃ p xs es, Hc p = none /\ H' = upd Hc p (.tup xs) /\ x = .ref p /\ items[i] = .tup es /\ RepL X.K Gc xs es := by
    rcases yy with ⟨a, b⟩ | ⟨p, xs, es, a, b, c, d, e⟩
    ·exact .inl ⟨a, b.mono (f2.trans fc)⟩
    ·exact .inr ⟨p, xs, es, a, b, c, d, e.mono (f2.trans fc)⟩
   obtain ⟨G3, I3, f3, r3⟩ := Ic.yld yy2
   refine sg C s₀ H₀ fp _ G3 H' σc ρc x items[i] ρ5 _ I3 r3 h5 fun G4 H4 σ4 I4 f4 => st C s₀ H₀ fp _ G4 H4 σ4 ρ5 ok ρ6 _ I4 h6 fun G5 H5 I5 f5 => ?_
   have facts : ∀ (G' H' : Hp) (σ' : St) (ρ' : R), SI X.K ⟨Gc, Hc, []⟩ G' H' σ' ρ' -> (∀ b o, G' b = some o -> G2 b ≠ none \/ H1 b = none) /\ (∀ b o, H1 b = some o -> H' b = some o) /\ G' DD = none /\ H' DD = some (.lst xs) := fun G' H' σ' ρ' I' => by
    refine ⟨fun b o e => ?_, fun b o e => I'.keep b o (kp b o e) (by simp), ?_, I'.keep DD _ hDc (by simp)⟩
    ·rcases I'.new b o e with h | h
     ·have h : Gc b ≠ none := h
      cases q : Gc b with
      | none => exact absurd q h
      | some u => exact nw b u q
     ·refine .inr ?_
      cases q : H1 b with
      | none => rfl
      | some u => have := kp b u q; rw [show Hc b = none from h] at this; cases this
    ·cases q : G' DD with
     | none => rfl
     | some u =>
      rcases I'.new DD u q with h | h
      ·exact absurd gD h
      ·rw [show Hc DD = none from h] at hDc; cases hDc
   cases ok with
   | false =>
    simp only [Bool.false_eq_true, if_false] at h3
    split at h3
    ·rename_i hno
     cases h3
     obtain ⟨a1, a2, a3, a4⟩ := facts G5 H5 σ4 _ I5
     exact ⟨items.length - (i + 1), by omega, rfl, hlt, G5, _, acc, xs, rest2, ρ4, { fc := fc.trans (f3.trans (f4.trans f5)), fcH := I5.fz, nw := a1, kp := a2, gD := a3, hDc := a4, ra := ra.mono (f3.trans (f4.trans f5)), hx := by omega, vs := VS.of I5 hno, ec := h4, eall := by simpa using eall }⟩
    ·cases h3
   | true =>
    simp only [if_true] at h3 ⊢
    obtain ⟨⟨dv, ρ7⟩, h7, h3⟩ := zad h3
    dsimp only at h3
    split at h3
    ·rename_i hno
     cases h3
     refine se C s₀ H₀ fp _ G5 H5 σ4 ρ6 dv _ _ I5 h7 fun G6 H6 v I6 f6 r6 => ?_
     obtain ⟨a1, a2, a3, a4⟩ := facts G6 H6 σ4 _ I6
     have ff : Fz Gc G6 := f3.trans (f4.trans (f5.trans f6))
     exact ⟨xs, a4, by rw [sizeLine_eq]; omega, items.length - (i + 1), by omega, rfl, hlt, G6, _, acc ++ [dv], xs ++ [v], rest2, ρ4, { fc := fc.trans ff, fcH := I6.fz.right a3 _, nw := a1, kp := fun b o e => by rw [zam (zaq e hD)]; exact a2 b o e, gD := a3, hDc := zar, ra := (ra.mono ff).snoc r6, hx := by rw [List.length_append, List.length_singleton]; omega, vs := VS.of I6 hno, ec := h4, eall := by rw [eall]; simp }⟩
    ·cases h3
  ·have e : i = items.length := by omega
   subst e
   rw [List.drop_length] at ec
   cases ec
   have hall : all = acc := by rw [eall, List.append_nil]
   refine .inl ⟨IT.stop Hc _ (f2.trans (fc.trans fcH)) (Nat.le_refl _), ?_⟩
   rw [<- hall] at ra
   exact k Gc Hc DD xs (I2.grow fc fcH nw kp) (f1.trans (f2.trans fc)) gD hDc ra (I2.there DD hD) (I2.own_ne hD nw kp)
 ·cases hm
theorem zeB (cap : List Nat) (t : Nat) (N : List Str) (hc : X.calm = true) (hi : SIt X tg iter mi) (hg : ∀ C s H fp, SG (cxC X N scope C s H fp) tg g) (ht : ∀ C s H fp, STs (cxC X N scope C s H fp) ifs mt) (he : ∀ C s H fp, SE (cxC X N scope C s H fp) elt me)
    (hk : scope.kind = .function := by rfl) (hb : blkB X.env scope = true := by kernel_rfl) (hcap : capB scope.names N X.N cap t = true := by kernel_rfl)
    (hs : ∀ x, foldedSetIterable iter X.env x = pure x := by exact fun _ => rfl) : SO X (.ListComp elt [⟨tg, iter, ifs, 0⟩] scope pos) (oLC cap t mi g mt me) := by
  obtain ⟨wi, pi, si⟩ := hi
  exact ⟨_, pe_lc hc (ziA hk hb) (ziC hcap) pi (fun C s H fp => (hg C s H fp).choose_spec.1) (fun C s H fp => (ht C s H fp).choose_spec.1) (fun C s H fp => (he C s H fp).choose_spec.1) hs,
    sound_lc si (fun C s H fp => (hg C s H fp).choose_spec.2) (fun C s H fp => (ht C s H fp).choose_spec.2) (fun C s H fp => (he C s H fp).choose_spec.2)⟩
end
section
variable {X : Cx} {elt iter tg : Expr} {ifs : List Expr} {scope : Scope} {pos lpos pos' : Pos} {N : List Str} {cap : List Nat} {t : Nat} {mi : MA} {g : D -> R -> Option R} {mt : MT} {me : ME}
theorem zjY {σ0 : St -> St} (hN : X.N.Nodup) (hxi : X.N[i]? = some x) (hx : Loc X.env.scope x) (hf : X.fn x = true \/ X.env.scope.names.lookup x = some .local)
  (hsw : swapsWith (.ListComp elt [⟨tg, iter, ifs, 0⟩] scope lpos) (some (.Name x pos')) pos.line X.env = pure true) (hc : X.calm = true) (b : BlkOk X scope) (cap : Cap X scope N σ0) (hi : PI X tg iter wi) (hg : ∀ C s H fp, PG (cxC X N scope C s H fp) tg (tg' C s H fp)) (ht : ∀ C s H fp, PTs (cxC X N scope C s H fp) ifs (tt C s H fp)) (he : ∀ C s H fp, PE (cxC X N scope C s H fp) elt (te C s H fp))
  (hs : ∀ x, foldedSetIterable iter X.env x = pure x) : PS X (.Assign [.Name x pos'] (.ListComp elt [⟨tg, iter, ifs, 0⟩] scope lpos) pos) (fun E σ H => tLC σ0 wi tg' tt te σ H fun v H' => E.nx (σ.set i (some v)) H') := by
 intro pins s σ H E I h
 rw [exec_Assign_Name_used _ _ _ _ hsw]
 refine wpAny_bind (wpAny_standAt (wpAny_bind ?_))
 show wpAny _ _ (do let _ <- comprehension (.ListComp elt [⟨tg, iter, ifs, 0⟩] scope lpos) scope X.env _ (newList []) false (eval iter X.env) (some (assign (.Name x pos') X.env))) _ _ s
 refine wpAny_bind (thn (zlf (use := some (assign (.Name x pos') X.env)) (QQ := fun _ s' => SP X pins E .next s') (E := X.xe) hc b cap hi hg ht he I h hs ?_) fun _ s' hq => wpAny_pure (wpAny_pure hq))
 intro D fp C H1 H' σc s1 s' I1 f1 eC J q
 subst eC
 have I2 : Inv X pins σ H' s' := by
  have z := zlD (h' := s'.heap) I1 f1 J (Heap.SameBut.refl _ _)
  exact z
 obtain ⟨m, ⟨o, es, ep, ho, hd, hrest⟩, _⟩ := J.loc
 have fpk : FpOk X pins H' s1.heap.objs.size := I1.fpOk (Nat.le_refl _) J.free
 have I3 : Inv X (pins ++ [(s1.heap.objs.size, o)]) σ H' s' := I2.pins_of fun p hp => by
  rcases List.mem_append.mp hp with hp | hp
  ·exact I2.pin p (List.mem_append_right _ hp)
  ·have e : p = (s1.heap.objs.size, o) := by simpa using hp
   subst e
   exact ⟨ho, fpk.1, fpk.2.1, fpk.2.2.1, fun v z => by rw [hd] at z; cases z⟩
 refine thn (zh2 hN hxi hx hf (pins ++ [(s1.heap.objs.size, o)]) s' σ H' (.ref D) (.ref D) (fun σ2 H2 => E.nx σ2 H2) I3 rfl q) fun _ s'' ⟨σ2, H2, I4, q4⟩ => ?_
 have pC := I4.pin (s1.heap.objs.size, o) (List.mem_append_right _ (List.mem_append_right _ (by simp)))
 refine ⟨m, ⟨o, es, ep, pC.1, hd, hrest⟩, fun h' hs' => ?_⟩
 have I5 : Inv X pins σ2 H2 s'' := I4.unpinned
 have fp2 : FpOk X pins H2 s1.heap.objs.size := I1.fpOk (Nat.le_refl _) pC.2.1
 have I6 := I5.turned (t' := s''.toks) (h' := h') (it := s1.heap.objs.size) (fun b' o' hb e => hs'.extBut b' o' hb e) fp2.1 fp2.2.1 fp2.2.2.2.1 fp2.2.2.2.2.1 fp2.2.2.2.2.2
 exact ⟨σ2, H2, I6, q4⟩
end
section
variable {X : Cx} {pins : List (Addr × Obj)} {σ : St} {H : Hp} {s : Shared}
theorem zjc {A : Around} (hh : A.handled = none) (I : Inv X pins σ H s) (hq : SqL X.K H p ys \/ SqT X.K H p ys)
  (k : ∀ (its : List Value) (s₂ : Shared) (St : Nat -> Heap -> Prop), Vals ys its -> Walks X.prog X.w A s.heap.objs.size [s.heap.objs.size, p] [s.heap.objs.size] its.length (fun i v => its[i]? = some v) St -> St 0 s₂.heap -> (∀ b ∈ [s.heap.objs.size, p], b < s₂.heap.objs.size) ->
   (∀ h' tk, (∀ b o, b ∉ [s.heap.objs.size] -> s₂.heap.get? b = some o -> h'.get? b = some o) -> Inv X pins σ H { s₂ with heap := h', toks := tk }) -> Q (.ref s.heap.objs.size) s₂) : wpAny (model X.prog X.w) A (pyIter (.ref p)) Q E s := by
 have fin : ∀ (o : Obj), ∀ h' tk, (∀ b o', b ∉ [s.heap.objs.size] -> (s.heap.push o).get? b = some o' -> h'.get? b = some o') -> Inv X pins σ H { ({ s with heap := s.heap.push o } : Shared) with heap := h', toks := tk } := fun o h' tk hk => by
  have z := I.kept (h' := h') (t' := tk) fun b o' e => hk b o' (by simpa using Nat.ne_of_lt (Heap.lt_size e)) (Heap.get?_push_of_some _ e)
  exact z
 rcases hq with hq | hq
 ·obtain ⟨its, r, pl, hz⟩ := I.list hq
  have hlt : p < s.heap.objs.size := by obtain ⟨_, _, e, _⟩ := pl; exact Heap.lt_size e
  refine wpAny_pyIter_list pl.isList (k its _ (fun i h => h.IsListIter s.heap.objs.size p i /\ h.IsList p its.toArray) r ?_ ⟨⟨_, Heap.get?_push_size _ rfl, rfl, rfl⟩, pl.isList.push _⟩ (fun b hb => ?_) (fin _))
  ·have w := Walks.list (prog := X.prog) (w := X.w) (A := A) hh s.heap.objs.size p (Nat.ne_of_lt hlt) its.toArray
   simpa using w
  ·show b < (s.heap.push _).objs.size
   rw [Heap.size_push]
   simp at hb
   rcases hb with z | z
   ·rw [z]; exact Nat.lt_succ_self _
   ·rw [z]; exact Nat.lt_succ_of_lt hlt
 ·obtain ⟨its, r, pl, hz⟩ := I.tuple hq
  have hlt : p < s.heap.objs.size := pl.lt
  refine wpAny_pyIter_tuple (show s.heap.IsTuple p its.toArray from pl) (k its _ (fun i h => h.IsTupleIter s.heap.objs.size p i /\ h.IsTuple p its.toArray) r ?_ ⟨⟨_, Heap.get?_push_size _ rfl, rfl, rfl⟩, (show s.heap.IsTuple p its.toArray from pl).push _⟩ (fun b hb => ?_) (fin _))
  ·have w := Walks.tuple (prog := X.prog) (w := X.w) (A := A) hh s.heap.objs.size p (Nat.ne_of_lt hlt) its.toArray
   simpa using w
  ·show b < (s.heap.push _).objs.size
   rw [Heap.size_push]
   simp at hb
   rcases hb with z | z
   ·rw [z]; exact Nat.lt_succ_self _
   ·rw [z]; exact Nat.lt_succ_of_lt hlt
end
theorem zhe (ns : List Int) : ∀ j, preSum (fun i => ns.getD i 0) j = (ns.take j).sum
 | 0 => by simp [preSum]
 | j + 1 => by
  rw [preSum, zhe ns j]
  by_cases h : j < ns.length
  ·rw [List.take_succ_eq_append_getElem h, List.sum_append]
   simp [h]
  ·rw [List.take_of_length_le (by omega), List.take_of_length_le (by omega)]
   simp [List.getElem?_eq_none (by omega : ns.length <= j)]
theorem ints_get (r : Vals (ns.map V.int) its) {v : Value} (e : its[i]? = some v) : ∃ t, v = .int (ns.getD i 0) t := by
 have hl := r.length
 have hi : i < its.length := (List.getElem?_eq_some_iff.mp e).1
 rw [List.length_map] at hl
 have e2 : (ns.map V.int)[i]? = some (.int ns[i]) := by rw [List.getElem?_map, List.getElem?_eq_getElem (by omega)]; rfl
 obtain ⟨u, h1, t, h2⟩ := r.get e2
 rw [e] at h1; cases h1
 exact ⟨t, by rw [h2]; simp [show i < ns.length by omega]⟩
def rSum (K : W.Frag) : List V -> Hp -> VK -> Prop := fun xs H Q => ∃ (p : Addr) (ns : List Int), xs = [.ref p] /\ (SqL K H p (ns.map V.int) \/ SqT K H p (ns.map V.int)) /\ Q (.int ns.sum) H
theorem zkI (hc : X.calm = true) : zgb X (.builtin "sum") (rSum X.K) := by
 intro pins s σ H xs us Q I r h
 obtain ⟨p, ns, rfl, hq, q⟩ := h
 obtain ⟨u, rfl, ru⟩ := zki r
 cases ru
 refine call_sum_walkG (zjc (A := X.A.in1) (I.ok.hd hc) I hq fun its s₂ St rv W st hfp fin => ?_)
 refine ⟨_, _, _, _, _, _, fun i => ns.getD i 0, rfl, W, st, hfp, fun i v e => ints_get rv e, fun h' tk t' hk => ⟨.int ns.sum, H, fin h' tk hk, ⟨t', ?_⟩, q⟩⟩
 have hl := rv.length
 rw [List.length_map] at hl
 rw [zhe, <- hl, List.take_of_length_le (Nat.le_refl _)]
def zba : List D -> Option (List Int)
 | [] => some []
 | .int i :: ds => (zba ds).map (i :: ·)
 | _ => none
theorem zgO : ∀ {ds : List D} {ns : List Int}, zba ds = some ns -> ds = ns.map .int
 | [], ns, h => by cases h; rfl
 | d :: ds, ns, h => by
  cases d <;> simp only [zba] at h <;> try cases h
  obtain ⟨ms, e1, e2⟩ := zas h
  subst e2
  rw [zgO e1]; rfl
@[simp] theorem intsOf_map : ∀ (ns : List Int), zba (ns.map .int) = some ns
 | [] => rfl
 | n :: ns => by simp [zba, intsOf_map ns]
def dSum : List D -> Option D
 | [d] => (zaX [d]).bind fun ds => (zba ds).map fun ns => .int ns.sum
 | _ => none
theorem zhp (I : SI K B G H σ ρ) {x : V} (r : RepD K G x d) (e : zaX [d] = some ds) : ∃ p ys, x = .ref p /\ (SqL K H p ys \/ SqT K H p ys) /\ RepL K G ys ds := by
 cases d <;> simp only [zaX] at e <;> try cases e
 ·obtain ⟨p, ys, ex, hp, q⟩ := I.lst r
  exact ⟨p, ys, ex, .inl (SqL.of hp), q⟩
 ·obtain ⟨p, ys, ex, hp, q⟩ := I.tup r
  exact ⟨p, ys, ex, .inr (SqT.of hp), q⟩
 ·obtain ⟨p, ex, hp⟩ := r
  exact ⟨p, _, ex, .inl (I.fz.sql hp), RepL.ints _⟩
theorem vc_sum : VC X (rSum X.K) dSum := by
 intro B G H σ ρ xs ds d Q I r hf k
 match ds, hf with
 | [a], hf =>
  obtain ⟨es, e1, hf⟩ := zad hf
  obtain ⟨ns, e2, e3⟩ := zas hf
  subst e3
  obtain ⟨x, rfl, ra⟩ := r.one
  obtain ⟨p, ys, rfl, hq, ry⟩ := zhp I ra e1
  rw [zgO e2] at ry
  rw [RepL.ints_eq ry] at hq
  exact ⟨p, ns, rfl, hq, k G H _ I (Fz.refl G) rfl⟩
 | [], hf => cases hf
 | _ :: _ :: _, hf => cases hf
theorem zi9 {p pos : Pos} (hc : X.calm = true) (ml : X.mg "sum" = none) (ha : SA X [e] ma) (hg : Gl X "sum" := by rfl) (he : starEach [e] X.env = (false, eval e X.env) :: starEach [] X.env := by rfl) : SE X (.Call (.Name "sum" p) [e] [] pos) (mC dSum ma) :=
 zfe (zkI hc) vc_sum (by decide +kernel) ml ha hg (by decide) (by decide) he rfl
def zdz : List D -> Option (List Bool)
 | [] => some []
 | .bl b :: ds => (zdz ds).map (b :: ·)
 | _ => none
theorem zhk : ∀ {ds : List D} {bs : List Bool}, zdz ds = some bs -> ds = bs.map .bl
 | [], ns, h => by cases h; rfl
 | d :: ds, ns, h => by
  cases d <;> simp only [zdz] at h <;> try cases h
  obtain ⟨ms, e1, e2⟩ := zas h
  subst e2
  rw [zhk e1]; rfl
@[simp] theorem boolsOf_map : ∀ (bs : List Bool), zdz (bs.map .bl) = some bs
 | [] => rfl
 | n :: ns => by simp [zdz, boolsOf_map ns]
theorem RepL.bools_eq : ∀ {bs : List Bool} {xs : List V}, RepL K G xs (bs.map D.bl) -> xs = bs.map V.bl
 | [], _, e => e
 | n :: ns, _, ⟨x, ys, e, q, r⟩ => by subst e; cases (show x = V.bl n from q); rw [RepL.bools_eq r]; rfl
theorem zlS {bs : List Bool} (r : Vals (bs.map V.bl) its) {v : Value} (e : its[i]? = some v) : ∃ b, bs[i]? = some b /\ v = .bool b := by
 have hl := r.length
 have hi : i < its.length := (List.getElem?_eq_some_iff.mp e).1
 rw [List.length_map] at hl
 have e2 : (bs.map V.bl)[i]? = some (.bl bs[i]) := by rw [List.getElem?_map, List.getElem?_eq_getElem (by omega)]; rfl
 obtain ⟨u, h1, h2⟩ := r.get e2
 rw [e] at h1; cases h1
 exact ⟨bs[i], List.getElem?_eq_getElem (by omega), h2⟩
def rAll (K : W.Frag) (f : List Bool -> Bool) : List V -> Hp -> VK -> Prop := fun xs H Q => ∃ (p : Addr) (bs : List Bool), xs = [.ref p] /\ (SqL K H p (bs.map V.bl) \/ SqT K H p (bs.map V.bl)) /\ Q (.bl (f bs)) H
theorem zkM (hc : X.calm = true) : zgb X (.builtin "all") (rAll X.K fun bs => bs.all id) := by
 intro pins s σ H xs us Q I r h
 obtain ⟨p, bs, rfl, hq, q⟩ := h
 obtain ⟨u, rfl, ru⟩ := zki r
 cases ru
 refine call_all_walk (zjc (A := X.A.in1) (I.ok.hd hc) I hq fun its s₂ St rv W st hfp fin => ?_)
 have hl := rv.length
 rw [List.length_map] at hl
 refine ⟨_, _, _, _, _, _, fun i => (bs[i]?).getD true, rfl, W, st, fun i v s' Q' E' hP hQ => ?_, fun h' tk hk => ⟨.bl (bs.all id), H, fin h' tk hk, ?_, q⟩⟩
 ·obtain ⟨b, e, rfl⟩ := zlS rv hP
  simp only [e, Option.getD_some] at hQ
  exact wpAny_truthy_bool hQ
 ·rw [<- hl, LSm.range_all]; rfl
def dAll (f : List Bool -> Bool) : List D -> Option D
 | [d] => (zaX [d]).bind fun ds => (zdz ds).map fun bs => .bl (f bs)
 | _ => none
theorem vc_all (f : List Bool -> Bool) : VC X (rAll X.K f) (dAll f) := by
 intro B G H σ ρ xs ds d Q I r hf k
 match ds, hf with
 | [a], hf =>
  obtain ⟨es, e1, hf⟩ := zad hf
  obtain ⟨ns, e2, e3⟩ := zas hf
  subst e3
  obtain ⟨x, rfl, ra⟩ := r.one
  obtain ⟨p, ys, rfl, hq, ry⟩ := zhp I ra e1
  rw [zhk e2] at ry
  rw [RepL.bools_eq ry] at hq
  exact ⟨p, ns, rfl, hq, k G H _ I (Fz.refl G) rfl⟩
 | [], hf => cases hf
 | _ :: _ :: _, hf => cases hf
theorem zj0 {p pos : Pos} (hc : X.calm = true) (ml : X.mg "all" = none) (ha : SA X [e] ma) (hg : Gl X "all" := by rfl) (he : starEach [e] X.env = (false, eval e X.env) :: starEach [] X.env := by rfl) : SE X (.Call (.Name "all" p) [e] [] pos) (mC (dAll fun bs => bs.all id) ma) :=
 zfe (zkM hc) (vc_all _) (by decide +kernel) ml ha hg (by decide) (by decide) he rfl
def d2I (g : Int -> Int -> Int) : List D -> Option D
 | [.int i, .int j] => some (.int (g i j))
 | _ => none
theorem vc_2I (g : Int -> Int -> Int) : VC X (fun xs H Q => ∃ i j, xs = [.int i, .int j] /\ Q (.int (g i j)) H) (d2I g) := by
 intro B G H σ ρ xs ds d Q I r hf k
 unfold d2I at hf
 split at hf
 ·rename_i i j
  cases hf
  obtain ⟨x, y, rfl, rx, ry⟩ := r.two
  cases (show x = V.int i from rx)
  cases (show y = V.int j from ry)
  exact ⟨i, j, rfl, k G H _ I (Fz.refl G) rfl⟩
 ·cases hf
def max2 (i j : Int) : Int := if j > i then j else i
def min2 (i j : Int) : Int := if j < i then j else i
theorem zlU {p pos : Pos} (hc : X.calm = true) (ml : X.mg "max" = none) (ha : SA X [a, b] ma) (hg : Gl X "max" := by rfl) (he : starEach [a, b] X.env = (false, eval a X.env) :: starEach [b] X.env := by rfl) (hpl : (backTo pos (starEach [b] X.env)).any (·.1) = false := by rfl) : SE X (.Call (.Name "max" p) [a, b] [] pos) (mC (d2I max2) ma) :=
 zfe (zk3 hc) (vc_2I max2) (by decide +kernel) ml ha hg (by decide) (by decide) he hpl
theorem zlz {p pos : Pos} (hc : X.calm = true) (ml : X.mg "min" = none) (ha : SA X [a, b] ma) (hg : Gl X "min" := by rfl) (he : starEach [a, b] X.env = (false, eval a X.env) :: starEach [b] X.env := by rfl) (hpl : (backTo pos (starEach [b] X.env)).any (·.1) = false := by rfl) : SE X (.Call (.Name "min" p) [a, b] [] pos) (mC (d2I min2) ma) :=
 zfe (zlM hc) (vc_2I min2) (by decide +kernel) ml ha hg (by decide) (by decide) he hpl
def isI (T : String) : D -> Bool
 | .non => false
 | .bl _ => T == "bool" || T == "int"
 | .int _ => T == "int"
 | .str _ => T == "str"
 | .lst _ => T == "list"
 | .tup _ => T == "tuple"
 | .scr _ => T == "list"
 | .exc _ => false
 | .dic _ _ => false
 | .dit _ _ => false
def okT (T : String) : Bool := ["int", "bool", "tuple", "list", "str"].contains T
def eIsI (T : String) (ma : ME) : ME := fun ρ => (ma ρ).bind fun p => if okT T && noS1 p.1 then some (.bl (isI T p.1), p.2) else none
where noS1 : D -> Bool
 | .scr _ => false
 | .exc _ => false
 | .dic _ _ => false
 | .dit _ _ => false
 | _ => true
def cutD {α : Type} (xs : List α) (lo hi : Option Int) : List α := (xs.drop (HT.sIx xs.length 0 lo)).take (HT.sIx xs.length xs.length hi - HT.sIx xs.length 0 lo)
theorem RepL.cut (h : RepL K G xs ds) (lo hi : Option Int) : RepL K G (cutV xs lo hi) (cutD ds lo hi) := by
 unfold cutV cutD
 rw [h.length]
 exact (h.drop _).take _
section
variable {prog : Program} {w : World} {A : Around} {E : Value -> Shared -> Prop} {s : Shared}
theorem zeX {t sl : Addr} {items : Array Value} {vl vu : Value} {lo hi : Option Int} (ht : IsTup s.heap t items) (hs : s.heap.IsSliceOf sl vl vu .none) (pl : IsPart vl lo) (pu : IsPart vu hi)
  (hw : HT.sIx items.size 0 lo = 0 /\ HT.sIx items.size items.size hi = items.size) (h : Q (.ref t) s) : wpAny (model prog w) A (getItem (.ref t) (.ref sl)) Q E s := by
 obtain ⟨os, hos, hcs, hds⟩ := id hs
 have hTs : s.TypeIs (.ref sl) "slice" := ⟨os, hos, hcs⟩
 unfold getItem
 try with_reducible refine wpAny_holding ?_
 first | refine wpAny_bind (wpAny_pure ?_) | skip
 refine wpAny_bind (wpAny_sequenceKey ht.typeIs (by decide) ?_)
 refine wpAny_bind (wpAny_callSpecial?_slot (name := Str.ofString "__getitem__") ht.typeIs PyProof.Rows.slot_tuple_getitem
  (wpAny_call_entry PyProof.Rows.slot_tuple_getitem ht.typeIs entry_tuple_getitem ?_ (args_tuple_getitem _ _)))
 show wpAny _ _ (Builtin.Tuple.tupleItemsOf (.ref t) >>= _) _ _ s
 refine wpAny_bind (tupleItemsOf_ ht ?_)
 refine wpAny_bind (wpAny_typeOf hTs ?_)
 rw [if_pos (by decide)]
 refine wpAny_bind (HT.zdB hs pl pu ?_)
 have hyes : (((HT.sIx items.size 0 lo : Nat) : Int) == 0 && (1 : Int) == 1 && (HT.sIx items.size items.size hi - HT.sIx items.size 0 lo) == items.size) = true := by
  rw [hw.1, hw.2]; simp
 show wpAny _ _ (if (((HT.sIx items.size 0 lo : Nat) : Int) == 0 && (1 : Int) == 1 && (HT.sIx items.size items.size hi - HT.sIx items.size 0 lo) == items.size) = true then _ else _) _ _ s
 rw [if_pos hyes]
 refine wpAny_bind (m := Builtin.Tuple.tupleIsExact _) ?_
 unfold Builtin.Tuple.tupleIsExact
 refine wpAny_bind (wpAny_typeOf ht.typeIs (wpAny_pure ?_))
 rw [if_pos (by decide)]
 refine wpAny_bind (wpAny_rule ?_)
 exact wpAny_pure ⟨_, rfl, wpAny_pure h⟩
end
def rSlTW (K : W.Frag) : V -> Option Int -> Option Int -> Hp -> VK -> Prop := fun x lo hi H Q => ∃ a xs, x = .ref a /\ SqT K H a xs /\ (HT.sIx xs.length 0 lo = 0 /\ HT.sIx xs.length xs.length hi = xs.length) /\ Q (.ref a) H
theorem sl_tupW : SlR X (rSlTW X.K) := by
 intro pins s σ H x v vl vu lo hi sl Q I rx hs pl pu h
 obtain ⟨a, xs, rfl, hx, hw, q⟩ := h
 cases rx
 obtain ⟨its, r, ht, hz⟩ := I.tuple hx
 have hlen : its.toArray.size = xs.length := by rw [List.size_toArray]; exact r.length.symm
 refine ⟨"tuple", _, PyProof.Rows.slot_tuple_getitem.lookup, ht.typeIs, ?_⟩
 exact zeX ht hs pl pu (by rw [hlen]; exact hw) ⟨.ref a, H, I, rfl, q⟩
abbrev MP := R -> Option (Option Int × R)
def SPt (X : Cx) (e : Option Expr) (m : MP) : Prop := ∃ t, PO X e t /\ ∀ B G H σ ρ o ρ' (Q : Option Int -> Hp -> Prop), SI X.K B G H σ ρ -> m ρ = some (o, ρ') -> (∀ G' H', SI X.K B G' H' σ ρ' -> Fz G G' -> Q o H') -> t σ H Q
def pNo : MP := fun ρ => some (none, ρ)
def zfq (m : ME) : MP := fun ρ => (m ρ).bind fun p => match p.1 with
 | .int i => some (some i, p.2)
 | _ => none
theorem ziD : SPt X none pNo := ⟨_, po_none, fun B G H σ ρ o ρ' Q I hm k => by cases hm; exact k G H I (Fz.refl G)⟩
theorem zb4 {m : ME} (h : SE X e m) : SPt X (some e) (zfq m) := by
 obtain ⟨t, p, s⟩ := h
 refine ⟨_, po_some p, fun B G H σ ρ o ρ' Q I hm k => ?_⟩
 obtain ⟨⟨d, ρ1⟩, e1, hm⟩ := zad hm
 refine s B G H σ ρ d ρ1 _ I e1 fun G1 H1 v I1 f1 r1 => ?_
 cases d <;> try cases hm
 rename_i i
 exact ⟨i, r1, k G1 H1 I1 f1⟩
def dCut (d : D) (lo hi : Option Int) : Option D := match d with
 | .lst ds => some (.lst (cutD ds lo hi))
 | .tup ds => some (.tup (cutD ds lo hi))
 | .scr ns => some (.lst ((cutD ns lo hi).map .int))
 | _ => none
def eCut (ma : ME) (ml mh : MP) : ME := fun ρ => (ma ρ).bind fun p => (ml p.2).bind fun q => (mh q.2).bind fun r => (dCut p.1 q.1 r.1).map fun d => (d, r.2)
theorem zk1 (ns : List Int) (lo hi : Option Int) : cutV (ns.map V.int) lo hi = (cutD ns lo hi).map V.int := by
 unfold cutV cutD
 rw [List.length_map, <- List.map_drop, <- List.map_take]
theorem zeC {lo hi : Option Expr} {ma : ME} {ml mh : MP} {pos p2 : Pos} (he : SE X e ma) (hl : SPt X lo ml) (hu : SPt X hi mh) : SE X (.Subscript e (.Slice lo hi none p2) pos) (eCut ma ml mh) := by
 obtain ⟨ta, pa, sa⟩ := he
 obtain ⟨tl, pl, sl⟩ := hl
 obtain ⟨th, ph, sh⟩ := hu
 refine ⟨_, pe_slice (sl_list.or (sl_tup.or sl_tupW)) pa pl ph, fun B G H σ ρ d ρ' Q I hm k => ?_⟩
 obtain ⟨⟨x, ρ1⟩, e1, hm⟩ := zad hm
 obtain ⟨⟨l, ρ2⟩, e2, hm⟩ := zad hm
 obtain ⟨⟨u, ρ3⟩, e3, hm⟩ := zad hm
 obtain ⟨c, e4, e5⟩ := zas hm
 obtain ⟨rfl, rfl⟩ := Prod.mk.inj e5
 refine sa B G H σ ρ x ρ1 _ I e1 fun G1 H1 v I1 f1 r1 => sl B G1 H1 σ ρ1 l ρ2 _ I1 e2 fun G2 H2 I2 f2 => sh B G2 H2 σ ρ2 u ρ3 _ I2 e3 fun G3 H3 I3 f3 => ?_
 have r3 := r1.mono (f2.trans f3)
 dsimp only at e4
 cases x with
 | exc _ => cases e4
 | dic _ _ => cases e4
 | dit _ _ => cases e4
 | non => cases e4
 | bl _ => cases e4
 | int _ => cases e4
 | str _ => cases e4
 | lst ds =>
  cases e4
  obtain ⟨a, xs, rfl, ha, r⟩ := I3.lst r3
  refine .inl ⟨a, xs, rfl, SqL.of ha, fun p hp => ?_⟩
  obtain ⟨I4, f4, r4⟩ := I3.newL hp (r.cut l u)
  exact k _ _ _ I4 (f1.trans (f2.trans (f3.trans f4))) r4
 | tup ds =>
  cases e4
  obtain ⟨a, xs, rfl, ha, r⟩ := I3.tup r3
  by_cases hw : HT.sIx xs.length 0 l = 0 /\ HT.sIx xs.length xs.length u = xs.length
  ·refine .inr (.inr ⟨a, xs, rfl, SqT.of ha, hw, ?_⟩)
   have e : cutD ds l u = ds := by
    unfold cutD
    rw [<- r.length, hw.1, hw.2, List.drop_zero, Nat.sub_zero, List.take_of_length_le (by rw [r.length]; exact Nat.le_refl _)]
   rw [e] at k
   exact k G3 H3 _ I3 (f1.trans (f2.trans f3)) r3
  ·refine .inr (.inl ⟨a, xs, rfl, SqT.of ha, hw, fun p hp => ?_⟩)
   obtain ⟨I4, f4, r4⟩ := I3.newT hp (r.cut l u)
   exact k _ _ _ I4 (f1.trans (f2.trans (f3.trans f4))) r4
 | scr ns =>
  cases e4
  obtain ⟨a, rfl, ha⟩ := r3
  refine .inl ⟨a, _, rfl, I3.fz.sql ha, fun p hp => ?_⟩
  rw [zk1]
  obtain ⟨I4, f4, r4⟩ := I3.newL hp (RepL.ints (cutD ns l u))
  exact k _ _ _ I4 (f1.trans (f2.trans (f3.trans f4))) r4
theorem zgI (h : aLen ma n) : ∀ ρ as ρ', ma ρ = some (as, ρ') -> as.length + 1 = n + 1 := fun ρ as ρ' e => congrArg (· + 1) (h ρ as ρ' e)
def rRng1 : List V -> Hp -> VK -> Prop := fun xs H Q => ∃ j, xs = [.int j] /\ ∀ p, H p = none -> Q (.ref p) (upd H p (.rng 0 j))
theorem zk2 : zgb X (.type "range") rRng1 := by
 intro pins s σ H xs us Q I r h
 obtain ⟨j, rfl, q⟩ := h
 obtain ⟨u, rfl, t, rfl⟩ := zki r
 refine call_range_1 ⟨.ref s.heap.objs.size, _, I.laid (o := .rng 0 j) (fun b o e => Heap.get?_push_of_some _ e) (Nat.le_refl _) ⟨_, _, _, Heap.get?_push_size _ rfl⟩, rfl, q _ I.fresh⟩
def rListR : List V -> Hp -> VK -> Prop := fun xs H Q => ∃ p i j, xs = [.ref p] /\ H p = some (.rng i j) /\ (-(2 ^ 62) <= i /\ i < 2 ^ 62 /\ -(2 ^ 62) <= j /\ j < 2 ^ 62) /\ (j - i).toNat <= 16777216 /\ ∀ l, H l = none -> Q (.ref l) (upd H l (.lst ((List.range (j - i).toNat).map fun (k : Nat) => V.int (i + k))))
theorem zkc (hc : X.calm = true) : zgb X (.type "list") rListR := by
 intro pins s σ H xs us Q I r h
 obtain ⟨p, i, j, rfl, hp, ⟨h1, h2, h3, h4⟩, hz, q⟩ := h
 obtain ⟨u, rfl, ru⟩ := zki r
 cases ru
 obtain ⟨t, t', t'', e⟩ := I.hok p _ hp
 refine call_list_range (a := i) (b := j) (c := 1) (t := t) (u := t') (v := t'') (n := (j - i).toNat) (I.ok.hd hc) e (small_one h1 h2 h3 h4) (by rw [rangeSize_one]; split <;> omega) (by omega) fun h' tk acc' c' hk hl ⟨hs1, hs2⟩ => ?_
 refine ⟨.ref s.heap.objs.size, _, I.laid (h' := h') (t' := tk) (o := .lst ((List.range (j - i).toNat).map fun (k : Nat) => V.int (i + k))) hk (Nat.le_refl _) ⟨by rw [List.length_map, List.length_range, sizeLine_eq]; exact hz, acc'.toList, c', ?_, by simpa using hl⟩, rfl, q _ I.fresh⟩
 have key : ∀ (n : Nat) (l : List Value), l.length = n -> (∀ k v, l[k]? = some v -> ∃ t, v = Value.int (i + (k : Nat) * 1) t) -> Vals ((List.range n).map fun (k : Nat) => V.int (i + k)) l := by
  intro n
  induction n with
  | zero => intro l hl _; have : l = [] := List.eq_nil_of_length_eq_zero hl; subst this; exact .nil
  | succ n ih =>
   intro l hl hv
   have e : l = l.take n ++ [l[n]'(by omega)] := by
    rw [<- List.take_succ_eq_append_getElem (by omega), List.take_of_length_le (by omega)]
   rw [List.range_succ, List.map_append, e]
   refine Vals.append (ih (l.take n) (by rw [List.length_take]; omega) fun k v hk => ?_) (.cons ?_ .nil)
   ·have hkn : k < n := by
     have := (List.getElem?_eq_some_iff.mp hk).1
     rw [List.length_take] at this; omega
    rw [List.getElem?_take_of_lt hkn] at hk
    exact hv k v hk
   ·obtain ⟨t, ht⟩ := hv n _ (List.getElem?_eq_getElem (by omega))
    exact ⟨t, by rw [ht, Int.mul_one]⟩
 exact key _ acc'.toList (by rw [Array.length_toList]; exact hs1) fun k v hk => hs2 k v (by simpa using hk)
theorem zkn (i : Int) (n : Nat) : RepL K G ((List.range n).map fun (k : Nat) => V.int (i + k)) (zcP i n) := by
 have e1 : ((List.range n).map fun (k : Nat) => V.int (i + k)) = ((List.range n).map fun (k : Nat) => i + (k : Int)).map V.int := by rw [List.map_map]; rfl
 have e2 : zcP i n = ((List.range n).map fun (k : Nat) => i + (k : Int)).map D.int := by unfold zcP; rw [List.map_map]; rfl
 rw [e1, e2]
 exact RepL.ints _
def oR (m : MA) : MO := fun ρ => (m ρ).bind fun p => if p.1.length <= 16777216 then some p else none
end M
namespace M
open L2 PySem
@[simp] theorem atI_nat' {α : Type} (xs : List α) (i : Nat) : atI xs (i : Int) = xs[i]? := by
 unfold atI ixN
 rw [if_pos (by omega)]
 by_cases h : i < xs.length
 ·rw [if_pos (by omega)]; simp
 ·rw [if_neg (by omega)]; simp [List.getElem?_eq_none (by omega : xs.length <= i)]
end M
namespace M
open L2 PyProof.Rows PySem PySem.Spec
def zkf (i : Nat) (g : Int -> Int -> Int) (me : ME) : MS := fun ρ => match ρ[i]? with
 | some (.val (.int a)) => (me ρ).bind fun p => match p.1 with
  | .int b => some (.next, p.2.set i (.val (.int (g a b))))
  | _ => none
 | _ => none
section
variable {X : Cx} {e : Expr} {me : ME} {pos : Pos}
theorem ss_augI (i : Nat) {x : Str} {pos' : Pos} {op : Operator} {g : Int -> Int -> Int} (ho : PIp X op (ipI g)) (he : SE X e me) (hN : X.N.Nodup) (hi : X.N[i]? = some x := by rfl) (hx : Loc X.env.scope x := by first | exact Or.inl rfl | exact Or.inr rfl)
    (hf : X.fn x = true \/ X.env.scope.names.lookup x = some .local := by first | exact Or.inl rfl | exact Or.inr rfl) : SS X (.AugAssign (.Name x pos') op e pos) (zkf i g me) := by
  obtain ⟨t, p, s⟩ := he
  refine ⟨_, ps_aug hN hi hx p ho hf, fun B G H σ ρ fl ρ' E I hm k => ?_⟩
  unfold zkf at hm
  split at hm
  . rename_i a e0
    obtain ⟨⟨d, ρ1⟩, e1, h2⟩ := zad hm
    dsimp only at h2
    split at h2
    . rename_i b
      cases h2
      obtain ⟨v, h1, hv⟩ := I.slot i _ e0
      cases (show v = V.int a from hv)
      refine ⟨_, h1, s B G H σ ρ (.int b) ρ1 _ I e1 fun G1 H1 w I1 f1 r1 => ?_⟩
      cases (show w = V.int b from r1)
      exact ⟨a, b, rfl, rfl, k G1 H1 _ (I1.set (d := .int (g a b)) rfl) f1⟩
    . cases h2
  . cases hm
theorem zh7 (i : Nat) {x : Str} {pos' : Pos} (he : SE X e me) (hN : X.N.Nodup) (hi : X.N[i]? = some x := by rfl) (hx : Loc X.env.scope x := by first | exact Or.inl rfl | exact Or.inr rfl)
  (hf : X.fn x = true \/ X.env.scope.names.lookup x = some .local := by first | exact Or.inl rfl | exact Or.inr rfl) : SS X (.AugAssign (.Name x pos') .Add e pos) (zkf i (fun i j => i + j) me) := ss_augI i ip_add he hN hi hx hf
end
end M
namespace M
open L2 PySem PySem.Spec
open PyProof.Rows hiding St
def oRep (ma mb : ME) : MO := fun ρ => (ma ρ).bind fun p => (mb p.2).bind fun q => match p.1, q.1 with
 | .lst xs, .int k => if zeH k && decide (xs.length * k.toNat <= 16777216) then some ((List.replicate k.toNat xs).flatten, q.2) else none
 | _, _ => none
theorem RepL.times {K : W.Frag} {G : Hp} {xs : List V} {ds : List D} (h : RepL K G xs ds) : ∀ n : Nat, RepL K G (List.replicate n xs).flatten (List.replicate n ds).flatten
 | 0 => RepL.nil
 | n + 1 => by
  rw [List.replicate_succ, List.flatten_cons, List.replicate_succ, List.flatten_cons]
  exact h.append (h.times n)
theorem zl0 {X : Cx} {a b : Expr} {ma mb : ME} {pos : Pos} (ha : SE X a ma) (hb : SE X b mb) : SO X (.BinOp a .Mult b pos) (oRep ma mb) := by
 obtain ⟨ta, pa, sa⟩ := ha
 obtain ⟨tb, pb, sb⟩ := hb
 refine ⟨_, pe_op op_rep pa pb, fun B G H σ ρ d ρ' Q I hm k => ?_⟩
 obtain ⟨⟨x, ρ1⟩, e1, hm⟩ := zad hm
 obtain ⟨⟨y, ρ2⟩, e2, hm⟩ := zad hm
 refine sa B G H σ ρ x ρ1 _ I e1 fun G1 H1 v I1 f1 r1 => sb B G1 H1 σ ρ1 y ρ2 _ I1 e2 fun G2 H2 u I2 f2 r2 => ?_
 dsimp only at hm
 split at hm
 ·rename_i xs n _
  split at hm
  ·rename_i hs
   cases hm
   simp only [Bool.and_eq_true, decide_eq_true_eq] at hs
   cases (show u = V.int n from r2)
   obtain ⟨l, ys, rfl, hl, r⟩ := I2.lst (r1.mono f2)
   have a1 := zee hs.1
   refine ⟨l, n, ys, rfl, rfl, hl, by omega, by omega, by rw [r.length, sizeLine_eq]; exact hs.2, fun p hp => ?_⟩
   obtain ⟨I3, g3, h3, b3, n3⟩ := I2.newO hp (List.replicate n.toNat ys).flatten
   exact k G2 _ p _ I3 (f1.trans f2) g3 h3 (r.times _) b3 n3
  ·cases hm
 ·cases hm
def flV : D -> Option V
 | .non => some .non
 | .bl b => some (.bl b)
 | .int i => some (.int i)
 | .str x => some (.str x)
 | _ => none
def zkz : List D -> Option (List V)
 | [] => some []
 | d :: ds => (flV d).bind fun v => (zkz ds).map (v :: ·)
theorem flV_ok {K : W.Frag} {G : Hp} {x v : V} {d : D} (r : RepD K G x d) (e : flV d = some v) : x = v /\ zgY v = true := by
 cases d <;> simp only [flV] at e <;> cases e <;> exact ⟨r, rfl⟩
theorem zjQ {K : W.Frag} {G : Hp} : ∀ {ys xs : List V} {ds : List D}, RepL K G ys ds -> zkz ds = some xs -> ys = xs /\ xs.all zgY = true
 | ys, xs, [], r, e => by cases e; cases (show ys = [] from r); exact ⟨rfl, rfl⟩
 | ys, xs, d :: ds, r, e => by
  obtain ⟨y, zs, rfl, ry, rz⟩ := r
  obtain ⟨v, e1, e⟩ := zad e
  obtain ⟨vs, e2, rfl⟩ := zas e
  obtain ⟨rfl, f1⟩ := flV_ok ry e1
  obtain ⟨rfl, f2⟩ := zjQ rz e2
  exact ⟨rfl, by rw [List.all_cons, f1, f2]; rfl⟩
def dInB (neg : Bool) (a b : D) : Option D := (flV a).bind fun x => (zaX [b]).bind fun ds => (zkz ds).map fun xs => .bl (if neg then !inV x xs else inV x xs)
def dIn : D -> D -> Option D := dInB false
theorem v2_in {X : Cx} (neg : Bool) : V2 X (rIn X.K neg) (dInB neg) := by
 intro B G H σ ρ x y a b d Q I ra rb hf k
 obtain ⟨v, e1, hf⟩ := zad hf
 obtain ⟨ds, e2, hf⟩ := zad hf
 obtain ⟨xs, e3, rfl⟩ := zas hf
 obtain ⟨rfl, f1⟩ := flV_ok ra e1
 obtain ⟨p, ys, rfl, hq, ry⟩ := zhp I rb e2
 obtain ⟨rfl, f2⟩ := zjQ ry e3
 exact ⟨p, ys, rfl, hq, f1, f2, k G H _ I (Fz.refl G) rfl⟩
theorem bl_in (neg : Bool) : ∀ x y d, dInB neg x y = some d -> ∃ t, d = .bl t := by
 intro x y d hf
 obtain ⟨v, e1, hf⟩ := zad hf
 obtain ⟨ds, e2, hf⟩ := zad hf
 obtain ⟨xs, e3, rfl⟩ := zas hf
 exact ⟨_, rfl⟩
theorem st_in {X : Cx} {a b : Expr} {ma mb : ME} {pos : Pos} (ha : SE X a ma) (hb : SE X b mb) (hm : behindInMarks .In b = false := by rfl) : STt X (.Compare a [.In] [b] pos) (tTru (m2 dIn ma mb)) := zfA zkS (v2_in false) (bl_in false) ha hb hm
end M
namespace M
open L2 PySem PySem.Spec
open PyProof.Rows hiding St
open Sem (wp)
variable {b N i k : Nat} {a it l : Addr} {t : Bool} {h h' : Heap} {is xs ys : Array Value} {Q : Value -> Shared -> Prop}
theorem nin2 {b x y z : Nat} (h : b ∈ [x, y]) (h1 : x ≠ z) (h2 : y ≠ z) : b ≠ z := by
 simp at h
 rcases h with rfl | rfl <;> assumption
theorem nA {N a b : Nat} (h : a ≠ b) : N + a ≠ N + b := fun e => h (Nat.add_left_cancel e)
theorem nB (h : 0 ≠ b) : N ≠ N + b := fun e => h (Nat.add_left_cancel (show N + 0 = N + b from e))
theorem nC (h : b ≠ 0) : N + b ≠ N := fun e => h (Nat.add_left_cancel (show N + b = N + 0 from e))
theorem nL {a N b : Nat} (h : a < N) : a ≠ N + b := Nat.ne_of_lt (Nat.lt_of_lt_of_le h (Nat.le_add_right _ _))
theorem ne_ {a b : Nat} (h : a ≠ b) : a ≠ b := h
local macro_rules | `(tactic| ac_rfl) => `(tactic| first | exact M.nA (by decide) | exact M.nB (by decide) | exact M.nC (by decide) | exact M.nL (by assumption) | exact Nat.ne_of_lt (by assumption) | omega)
def SrcIt : Bool -> Heap -> Addr -> Addr -> Nat -> Prop
 | true, h, it, a, i => h.IsTupleIter it a i
 | false, h, it, a, i => h.IsListIter it a i
def SrcH : Bool -> Heap -> Addr -> Array Value -> Prop
 | true, h, a, its => h.IsTuple a its
 | false, h, a, its => h.IsList a its
theorem SrcIt.at (x : SrcIt t h it a i) (e : ∀ o, h.get? it = some o -> h'.get? it = some o) : SrcIt t h' it a i := by
 cases t
 ·exact Heap.IsListIter.at x e
 ·exact Heap.IsTupleIter.at x e
theorem SrcH.at (x : SrcH t h a is) (e : ∀ o, h.get? a = some o -> h'.get? a = some o) : SrcH t h' a is := by
 cases t
 ·exact Heap.IsList.at x e
 ·obtain ⟨o, ho, r⟩ := x; exact ⟨o, e _ ho, r⟩
theorem SrcIt.obj (x : SrcIt t h it a i) : ∃ o, h.get? it = some o /\ ∀ v, o.data ≠ .cell v := by
 cases t <;> (obtain ⟨o, e, c, d⟩ := x; exact ⟨o, e, fun v z => by rw [d] at z; cases z⟩)
theorem SrcH.lt (x : SrcH t h a is) : a < h.objs.size := by
 cases t <;> (obtain ⟨o, e, _⟩ := x; exact Heap.lt_size e)
section
variable {prog : Program} {w : World} {A : Around} {E : Value -> Shared -> Prop} {s : Shared}
theorem zjU {items} (hit : s.heap.IsTupleIter it l i) (hl : s.heap.IsTuple l items)
  (k : (∃ x, items[i]? = some x /\ ∀ h', h'.IsTupleIter it l (i + 1) -> Heap.SameBut it s.heap h' -> Q x { s with heap := h' }) \/
   (items[i]? = none /\ A.handled = none /\ ∀ h' e, Heap.ExtBut it s.heap h' -> (∃ o, h'.get? e = some o /\ o.cls = .type "StopIteration") -> E (.ref e) { s with heap := h' })) :
  wpAny (model prog w) A (Builtin.SmallTypes.nextOf (.ref it)) Q E s := by
 obtain ⟨o, ho, hc, hd⟩ := id hit
 obtain ⟨ol, hol, -, nl, hdl⟩ := hl
 have ne : ¬ ((Value.ref l == Value.none) = true) := Bool.false_ne_true
 unfold Builtin.SmallTypes.nextOf
 refine wpAny_bind (wpAny_callSpecial?_slot (name := Str.ofString "__next__") hit.typeIs slot_tupleiter_next (wpAny_call_entry slot_tupleiter_next hit.typeIs entry_tupleiter_next ?_ (args_tupleiter_next _)))
 refine (?_ : wpAny _ _ (field (.ref it) 0 >>= _) _ _ s)
 refine wpAny_bind (wpAny_field ho hd (x := .ref l) rfl (?_ : wpAny _ _ (if (Value.ref l == Value.none) = true then _ else _) _ _ s))
 rw [if_neg ne]
 refine (?_ : wpAny _ _ (field (.ref it) 1 >>= _) _ _ s)
 refine wpAny_bind (wpAny_field ho hd (x := .int i 0) rfl (?_ : wpAny _ _ (seqItems? (.ref l) >>= _) _ _ s))
 refine wpAny_bind (wpAny_seqItems hol hdl ?_)
 rcases k with ⟨x, hx, k⟩ | ⟨hx, hh, k⟩ <;> simp only [Int.toNat_natCast, hx]
 ·have upd : ∀ h' : Heap, h'.get? it = some (o.mapFields fun a => a.setIfInBounds 1 (rawInt (((i : Nat) : Int) + 1))) -> h'.IsTupleIter it l (i + 1) := fun h' e => ⟨_, e, (Obj.cls_mapFields ..).trans hc, by rw [Obj.data_mapFields hd]; simp [rawInt]⟩
  refine wpAny_bind (wpAny_setField ho hd (by simp) (wpAny_pure ⟨x, rfl, wpAny_pure (k _ ?_ (Heap.SameBut.update ..))⟩))
  refine ⟨_, Heap.get?_update_self _ ho (Obj.isFreed_of_fields (Obj.data_mapFields hd _)), (Obj.cls_mapFields ..).trans hc, ?_⟩
  rw [Obj.data_mapFields hd]
  simp [rawInt]
 ·refine wpAny_bind (wpAny_rule (wpAny_bind (wpAny_setField ho hd (by simp) (?_ : wpAny _ _ (newExc (.type "StopIteration") [] >>= _) _ _ _))))
  refine wpAny_bind ?_
  simp only [newExc, newTuple]
  refine wpAny_bind (wpAny_newObj_type (wpAny_bind (m := firstArgMember _ _) (wpAny_of_eq (a := Value.none) (by first | rfl | (simp only [firstArgMember]; rfl)) (wpAny_newObj_type ?_ (by size_fits)))) (by size_fits))
  simp only [raiseNew]
  refine wpAny_bind (wpAny_handled ?_)
  first | rw [show A.in1.handled = none from hh] | rw [hh]
  exact wpAny_bind (wpAny_pure (wpAny_throw (k _ _ (((Heap.SameBut.update ..).extBut.push _).push _) ⟨_, Heap.get?_push_size _ rfl, rfl⟩)))
theorem za2 (hh : A.handled = none) (it l : Addr) (hne : l ≠ it) (items : Array Value) : Draws prog w A it [it, l] items.size (fun i v => items[i]? = some v) (fun i h => SrcIt t h it l i /\ SrcH t h l items) := by
 cases t
 ·exact Draws.list hh it l hne items
 ·refine ⟨fun _ _ st => ?_, fun _ _ _ st hk => ⟨SrcIt.at st.1 fun o e => hk it (by simp) o e, SrcH.at st.2 fun o e => hk l (by simp) o e⟩, fun i s Q E hi st hQ => ?_, fun s Q E st hE => zjU st.1 st.2 (.inr ⟨by simp, hh, hE⟩)⟩
  ·obtain ⟨o, e, -⟩ := SrcIt.obj st.1
   exact ⟨o, e⟩
  ·exact zjU st.1 st.2 (.inl ⟨items[i], by simp [hi], fun h' a b => hQ _ h' s.toks (by simp [hi]) ⟨a, SrcH.at st.2 fun o e => (b.2 l hne).trans e⟩ b⟩)
def srcO (t : Bool) (a : Addr) : Obj := { cls := .type (if t then "tuple_iterator" else "list_iterator"), data := .fields #[.ref a, .int 0 0] }
theorem zfO (e : h.get? it = some (srcO t a)) : SrcIt t h it a 0 := by
 cases t <;> exact ⟨_, e, rfl, rfl⟩
theorem zdd (t : Bool) (a : Addr) : (srcO t a).isFreed = false := by cases t <;> rfl
theorem zbM {items} (hl : SrcH t s.heap a items) (hQ : Q (.ref s.heap.objs.size) { s with heap := s.heap.push (srcO t a) }) :
  wpAny (model prog w) A (pyIter (.ref a)) Q E s := by
 cases t
 ·exact wpAny_pyIter_list hl hQ
 ·exact wpAny_pyIter_tuple hl hQ
abbrev zcU (h : Heap) (T : Addr) (a b c : Value) : Prop := h.get? T = some { cls := .type "tuple", data := .seq #[a, b, c] }
theorem zgx {T : Addr} {a b c x : Value} {Q : Unit -> Shared -> Prop} (hT : zcU s.heap T a b c)
  (h : ∀ h', h'.get? T = some { cls := .type "tuple", data := .seq ((#[a, b, c] : Array Value).setIfInBounds k x) } -> Heap.SameBut T s.heap h' -> Q () { s with heap := h' }) :
  wpAny (model prog w) A (updateSeq T (·.setIfInBounds k x)) Q E s :=
 wpAny_updateSeq hT rfl (h _ (by rw [Heap.get?_update_self _ hT rfl]; simp [Obj.mapSeq]) (Heap.SameBut.update ..))
section
variable {N a1 a2 a3 : Nat} {n1 n2 n3 : Nat} {P1 P2 P3 : Nat -> Value -> Prop} {S1 S2 S3 : Nat -> Heap -> Prop}
theorem zl8 {a b c : Value} (D1 : Draws prog w A N [N, a1] n1 P1 S1) (D2 : Draws prog w A (N + 1) [N + 1, a2] n2 P2 S2) (D3 : Draws prog w A (N + 2) [N + 2, a3] n3 P3 S3) (l1 : a1 < N) (l2 : a2 < N) (l3 : a3 < N)
  (hz : IsZip s.heap (N + 5) (N + 3) (N + 4) .none) (hTI : zcU s.heap (N + 3) (.ref N) (.ref (N + 1)) (.ref (N + 2))) (hTO : zcU s.heap (N + 4) a b c) (h1 : S1 i s.heap) (h2 : S2 i s.heap) (h3 : S3 i s.heap) (i1 : i < n1) (i2 : i < n2) (i3 : i < n3)
  (k : ∀ x y z h' tk, P1 i x -> P2 i y -> P3 i z -> IsZip h' (N + 5) (N + 3) (N + 4) (rawInt s.heap.objs.size) -> zcU h' (N + 4) x y z -> S1 (i + 1) h' -> S2 (i + 1) h' -> S3 (i + 1) h' -> zcU h' s.heap.objs.size x y z ->
   (∀ c o, c ≠ N -> c ≠ N + 1 -> c ≠ N + 2 -> c ≠ N + 4 -> c ≠ N + 5 -> s.heap.get? c = some o -> h'.get? c = some o) -> Q (.ref s.heap.objs.size) { s with heap := h', toks := tk }) :
  wpAny (model prog w) A (Builtin.«zip.__next__» ⟨[.ref (N + 5)], []⟩) (fun fin s' => ∃ v, fin = .done (.ret v) /\ Q v s') E s := by
 refine (?_ : wpAny _ _ (field (.ref (N + 5)) 2 >>= _) _ _ _)
 refine wpAny_bind (wpAny_field hz rfl (x := .bool false) rfl (?_ : wpAny _ _ (field (.ref (N + 5)) 3 >>= _) _ _ _))
 refine wpAny_bind (wpAny_field hz rfl (x := .ref (N + 3)) rfl (wpAny_bind (wpAny_seqItems hTI rfl (?_ : wpAny _ _ (Builtin.SmallTypes.ownedTupleIsFree (.ref (N + 5)) >>= _) _ _ _))))
 refine wpAny_bind ?_
 unfold Builtin.SmallTypes.ownedTupleIsFree
 refine wpAny_bind (wpAny_field hz rfl (x := .none) rfl (wpAny_pure ?_))
 simp only [if_true]
 refine wpAny_bind (wpAny_rule (wpAny_bind (wpAny_field hz rfl (x := .ref (N + 4)) rfl (wpAny_bind (wpAny_setField_rec hz (by simp) fun g1 z1 s1 => wpAny_bind ?_)))))
 replace z1 : IsZip g1 (N + 5) (N + 3) (N + 4) .ellipsis := z1
 simp only [List.zipIdx_cons, List.zipIdx_nil, List.forIn_cons, List.forIn_nil]
 refine wpAny_bind (wpAny_bind (wpAny_onRaise (?_ : wpAny _ _ (Builtin.SmallTypes.nextOf (.ref N) >>= _) _ _ _)))
 have e1 : S1 i g1 := D1.frame _ _ _ h1 fun b hb o e => (s1.2 b (nin2 hb (by ac_rfl) (by ac_rfl))).trans e
 refine wpAny_bind (D1.item i _ _ _ i1 e1 fun x g2 t2 p1 f2 s2 => wpAny_pure ?_)
 have q2 : zcU g2 (N + 4) a b c := (s2.2 _ (ne_ (by ac_rfl))).trans ((s1.2 _ (ne_ (by ac_rfl))).trans hTO)
 refine wpAny_bind (wpAny_seqItems q2 rfl (wpAny_bind (zgx q2 fun g3 q3 s3 => wpAny_bind (wpAny_letGo (wpAny_pure ?_)))))
 replace q3 : zcU g3 (N + 4) x b c := q3
 have k3 : ∀ d o, d ≠ N -> d ≠ N + 4 -> d ≠ N + 5 -> s.heap.get? d = some o -> g3.get? d = some o := fun d o c1 c2 c3 e => (s3.2 d c2).trans ((s2.2 d c1).trans ((s1.2 d c3).trans e))
 refine wpAny_bind (wpAny_bind (wpAny_onRaise (?_ : wpAny _ _ (Builtin.SmallTypes.nextOf (.ref (N + 1)) >>= _) _ _ _)))
 have e3 : S2 i g3 := D2.frame _ _ _ h2 fun b hb o e => k3 b o (nin2 hb (by ac_rfl) (by ac_rfl)) (nin2 hb (by ac_rfl) (by ac_rfl)) (nin2 hb (by ac_rfl) (by ac_rfl)) e
 refine wpAny_bind (D2.item i _ _ _ i2 e3 fun y g4 t4 p2 f4 s4 => wpAny_pure ?_)
 have q4 : zcU g4 (N + 4) x b c := (s4.2 _ (ne_ (by ac_rfl))).trans q3
 refine wpAny_bind (wpAny_seqItems q4 rfl (wpAny_bind (zgx q4 fun g5 q5 s5 => wpAny_bind (wpAny_letGo (wpAny_pure ?_)))))
 replace q5 : zcU g5 (N + 4) x y c := q5
 refine wpAny_bind (wpAny_bind (wpAny_onRaise (?_ : wpAny _ _ (Builtin.SmallTypes.nextOf (.ref (N + 2)) >>= _) _ _ _)))
 have e5 : S3 i g5 := D3.frame _ _ _ h3 fun b hb o e => (s5.2 b (nin2 hb (by ac_rfl) (by ac_rfl))).trans ((s4.2 b (nin2 hb (by ac_rfl) (by ac_rfl))).trans (k3 b o (nin2 hb (by ac_rfl) (by ac_rfl)) (nin2 hb (by ac_rfl) (by ac_rfl)) (nin2 hb (by ac_rfl) (by ac_rfl)) e))
 refine wpAny_bind (D3.item i _ _ _ i3 e5 fun z g6 t6 p3 f6 s6 => wpAny_pure ?_)
 have q6 : zcU g6 (N + 4) x y c := (s6.2 _ (ne_ (by ac_rfl))).trans q5
 refine wpAny_bind (wpAny_seqItems q6 rfl (wpAny_bind (zgx q6 fun g7 q7 s7 => wpAny_bind (wpAny_letGo (wpAny_pure (wpAny_pure ?_))))))
 replace q7 : zcU g7 (N + 4) x y z := q7
 have sz : g7.objs.size = s.heap.objs.size := by rw [s7.1, s6.1, s5.1, s4.1, s3.1, s2.1, s1.1]
 have z7 : IsZip g7 (N + 5) (N + 3) (N + 4) .ellipsis := (s7.2 _ (ne_ (by ac_rfl))).trans ((s6.2 _ (ne_ (by ac_rfl))).trans ((s5.2 _ (ne_ (by ac_rfl))).trans ((s4.2 _ (ne_ (by ac_rfl))).trans ((s3.2 _ (ne_ (by ac_rfl))).trans ((s2.2 _ (ne_ (by ac_rfl))).trans z1)))))
 have zl : (N + 5 : Nat) < g7.objs.size := Heap.lt_size z7
 have k7 : ∀ d o, d ≠ N -> d ≠ N + 1 -> d ≠ N + 2 -> d ≠ N + 4 -> d ≠ N + 5 -> s.heap.get? d = some o -> g7.get? d = some o := fun d o c1 c2 c3 c4 c5 e => (s7.2 d c4).trans ((s6.2 d c3).trans ((s5.2 d c4).trans ((s4.2 d c2).trans (k3 d o c1 c4 c5 e))))
 have f7 : S1 (i + 1) g7 := D1.frame _ _ _ f2 fun b hb o e => (s7.2 b (nin2 hb (by ac_rfl) (by ac_rfl))).trans ((s6.2 b (nin2 hb (by ac_rfl) (by ac_rfl))).trans ((s5.2 b (nin2 hb (by ac_rfl) (by ac_rfl))).trans ((s4.2 b (nin2 hb (by ac_rfl) (by ac_rfl))).trans ((s3.2 b (nin2 hb (by ac_rfl) (by ac_rfl))).trans e))))
 have f7' : S2 (i + 1) g7 := D2.frame _ _ _ f4 fun b hb o e => (s7.2 b (nin2 hb (by ac_rfl) (by ac_rfl))).trans ((s6.2 b (nin2 hb (by ac_rfl) (by ac_rfl))).trans ((s5.2 b (nin2 hb (by ac_rfl) (by ac_rfl))).trans e))
 have f7'' : S3 (i + 1) g7 := D3.frame _ _ _ f6 fun b hb o e => (s7.2 b (nin2 hb (by ac_rfl) (by ac_rfl))).trans e
 refine wpAny_bind (wpAny_seqItems q7 rfl (wpAny_bind (wpAny_newTuple (?_ : wpAny _ _ (Builtin.SmallTypes.ownedTupleHandOut (.ref (N + 5)) (.ref g7.objs.size) >>= _) _ _ _))))
 refine wpAny_bind ?_
 unfold Builtin.SmallTypes.ownedTupleHandOut
 refine wpAny_bind (wpAny_setField_rec (show IsZip (g7.push { cls := .type "tuple", data := .seq #[x, y, z] }) (N + 5) (N + 3) (N + 4) .ellipsis from Heap.get?_push_of_some _ z7) (by simp) fun g9 z9 s9 => ?_)
 replace z9 : IsZip g9 (N + 5) (N + 3) (N + 4) (rawInt g7.objs.size) := z9
 refine wpAny_setField_rec z9 (by simp) fun g8 z8 s8 => wpAny_pure ⟨_, rfl, ?_⟩
 replace z8 : IsZip g8 (N + 5) (N + 3) (N + 4) (rawInt g7.objs.size) := z8
 have up : ∀ c o, c ≠ N + 5 -> g7.get? c = some o -> g8.get? c = some o := fun c o c1 e => (s8.2 c c1).trans ((s9.2 c c1).trans (Heap.get?_push_of_some _ e))
 have T8 : zcU g8 g7.objs.size x y z := (s8.2 _ (ne_ (by ac_rfl))).trans ((s9.2 _ (ne_ (by ac_rfl))).trans (Heap.get?_push_size _ rfl))
 rw [sz] at z8 T8
 refine (?_ : Q (.ref g7.objs.size) _)
 rw [sz]
 exact k x y z g8 _ p1 p2 p3 z8 (up _ _ (ne_ (by ac_rfl)) q7) (D1.frame _ _ _ f7 fun b hb o e => up b o (nin2 hb (by ac_rfl) (by ac_rfl)) e) (D2.frame _ _ _ f7' fun b hb o e => up b o (nin2 hb (by ac_rfl) (by ac_rfl)) e) (D3.frame _ _ _ f7'' fun b hb o e => up b o (nin2 hb (by ac_rfl) (by ac_rfl)) e) T8 fun c o c1 c2 c3 c4 c5 e => up c o c5 (k7 c o c1 c2 c3 c4 c5 e)
theorem zip3_end {a b c : Value} {Q : Fin -> Shared -> Prop} (D1 : Draws prog w A N [N, a1] n1 P1 S1) (D2 : Draws prog w A (N + 1) [N + 1, a2] n2 P2 S2) (D3 : Draws prog w A (N + 2) [N + 2, a3] n3 P3 S3) (l1 : a1 < N) (l2 : a2 < N) (l3 : a3 < N)
  (hz : IsZip s.heap (N + 5) (N + 3) (N + 4) .none) (hTI : zcU s.heap (N + 3) (.ref N) (.ref (N + 1)) (.ref (N + 2))) (hTO : zcU s.heap (N + 4) a b c) (h1 : S1 i s.heap) (h2 : S2 i s.heap) (h3 : S3 i s.heap) (hi : i = n1 \/ (i < n1 /\ (i = n2 \/ (i < n2 /\ i = n3))))
  (k : ∀ h' e tk, (∀ c o, c ≠ N -> c ≠ N + 1 -> c ≠ N + 2 -> c ≠ N + 4 -> c ≠ N + 5 -> s.heap.get? c = some o -> h'.get? c = some o) -> (∃ o, h'.get? e = some o /\ o.cls = .type "StopIteration") -> E (.ref e) { s with heap := h', toks := tk }) :
  wpAny (model prog w) A (Builtin.«zip.__next__» ⟨[.ref (N + 5)], []⟩) Q E s := by
 refine (?_ : wpAny _ _ (field (.ref (N + 5)) 2 >>= _) _ _ _)
 refine wpAny_bind (wpAny_field hz rfl (x := .bool false) rfl (?_ : wpAny _ _ (field (.ref (N + 5)) 3 >>= _) _ _ _))
 refine wpAny_bind (wpAny_field hz rfl (x := .ref (N + 3)) rfl (wpAny_bind (wpAny_seqItems hTI rfl (?_ : wpAny _ _ (Builtin.SmallTypes.ownedTupleIsFree (.ref (N + 5)) >>= _) _ _ _))))
 refine wpAny_bind ?_
 unfold Builtin.SmallTypes.ownedTupleIsFree
 refine wpAny_bind (wpAny_field hz rfl (x := .none) rfl (wpAny_pure ?_))
 simp only [if_true]
 refine wpAny_bind (wpAny_rule (wpAny_bind (wpAny_field hz rfl (x := .ref (N + 4)) rfl (wpAny_bind (wpAny_setField_rec hz (by simp) fun g1 z1 s1 => wpAny_bind ?_)))))
 replace z1 : IsZip g1 (N + 5) (N + 3) (N + 4) .ellipsis := z1
 simp only [List.zipIdx_cons, List.zipIdx_nil, List.forIn_cons, List.forIn_nil]
 refine wpAny_bind (wpAny_bind (wpAny_onRaise (?_ : wpAny _ _ (Builtin.SmallTypes.nextOf (.ref N) >>= _) _ _ _)))
 have e1 : S1 i g1 := D1.frame _ _ _ h1 fun b hb o e => (s1.2 b (nin2 hb (by ac_rfl) (by ac_rfl))).trans e
 rcases hi with rfl | ⟨i1, hi⟩
 ·refine wpAny_bind (D1.done _ _ _ e1 fun g2 e x2 he => ?_)
  obtain ⟨oe, hoe, hce⟩ := he
  have z2 : IsZip g2 (N + 5) (N + 3) (N + 4) .ellipsis := x2 _ _ (ne_ (by ac_rfl)) z1
  have hez : e ≠ N + 5 := fun x => by subst x; rw [z2] at hoe; cases hoe; simp at hce
  exact wpAny_setField_rec z2 (by simp) fun g3 _ s3 => k g3 e _ (fun c o c1 c2 c3 c4 c5 x => (s3.2 c c5).trans (x2 c o c1 ((s1.2 c c5).trans x))) ⟨oe, (s3.2 _ hez).trans hoe, hce⟩
 refine wpAny_bind (D1.item i _ _ _ i1 e1 fun x g2 t2 p1 f2 s2 => wpAny_pure ?_)
 have q2 : zcU g2 (N + 4) a b c := (s2.2 _ (ne_ (by ac_rfl))).trans ((s1.2 _ (ne_ (by ac_rfl))).trans hTO)
 refine wpAny_bind (wpAny_seqItems q2 rfl (wpAny_bind (zgx q2 fun g3 q3 s3 => wpAny_bind (wpAny_letGo (wpAny_pure ?_)))))
 replace q3 : zcU g3 (N + 4) x b c := q3
 have k3 : ∀ d o, d ≠ N -> d ≠ N + 4 -> d ≠ N + 5 -> s.heap.get? d = some o -> g3.get? d = some o := fun d o c1 c2 c3 e => (s3.2 d c2).trans ((s2.2 d c1).trans ((s1.2 d c3).trans e))
 have z3 : IsZip g3 (N + 5) (N + 3) (N + 4) .ellipsis := (s3.2 _ (ne_ (by ac_rfl))).trans ((s2.2 _ (ne_ (by ac_rfl))).trans z1)
 refine wpAny_bind (wpAny_bind (wpAny_onRaise (?_ : wpAny _ _ (Builtin.SmallTypes.nextOf (.ref (N + 1)) >>= _) _ _ _)))
 have e3 : S2 i g3 := D2.frame _ _ _ h2 fun b hb o e => k3 b o (nin2 hb (by ac_rfl) (by ac_rfl)) (nin2 hb (by ac_rfl) (by ac_rfl)) (nin2 hb (by ac_rfl) (by ac_rfl)) e
 rcases hi with rfl | ⟨i2, rfl⟩
 ·refine wpAny_bind (D2.done _ _ _ e3 fun g4 e x4 he => ?_)
  obtain ⟨oe, hoe, hce⟩ := he
  have z4 : IsZip g4 (N + 5) (N + 3) (N + 4) .ellipsis := x4 _ _ (ne_ (by ac_rfl)) z3
  have hez : e ≠ N + 5 := fun x => by subst x; rw [z4] at hoe; cases hoe; simp at hce
  exact wpAny_setField_rec z4 (by simp) fun g5 _ s5 => k g5 e _ (fun c o c1 c2 c3 c4 c5 x => (s5.2 c c5).trans (x4 c o c2 (k3 c o c1 c4 c5 x))) ⟨oe, (s5.2 _ hez).trans hoe, hce⟩
 refine wpAny_bind (D2.item i _ _ _ i2 e3 fun y g4 t4 p2 f4 s4 => wpAny_pure ?_)
 have q4 : zcU g4 (N + 4) x b c := (s4.2 _ (ne_ (by ac_rfl))).trans q3
 refine wpAny_bind (wpAny_seqItems q4 rfl (wpAny_bind (zgx q4 fun g5 q5 s5 => wpAny_bind (wpAny_letGo (wpAny_pure ?_)))))
 have z5 : IsZip g5 (N + 5) (N + 3) (N + 4) .ellipsis := (s5.2 _ (ne_ (by ac_rfl))).trans ((s4.2 _ (ne_ (by ac_rfl))).trans z3)
 refine wpAny_bind (wpAny_bind (wpAny_onRaise (?_ : wpAny _ _ (Builtin.SmallTypes.nextOf (.ref (N + 2)) >>= _) _ _ _)))
 have e5 : S3 i g5 := D3.frame _ _ _ h3 fun b hb o e => (s5.2 b (nin2 hb (by ac_rfl) (by ac_rfl))).trans ((s4.2 b (nin2 hb (by ac_rfl) (by ac_rfl))).trans (k3 b o (nin2 hb (by ac_rfl) (by ac_rfl)) (nin2 hb (by ac_rfl) (by ac_rfl)) (nin2 hb (by ac_rfl) (by ac_rfl)) e))
 refine wpAny_bind (D3.done _ _ _ e5 fun g6 e x6 he => ?_)
 obtain ⟨oe, hoe, hce⟩ := he
 have z6 : IsZip g6 (N + 5) (N + 3) (N + 4) .ellipsis := x6 _ _ (ne_ (by ac_rfl)) z5
 have hez : e ≠ N + 5 := fun x => by subst x; rw [z6] at hoe; cases hoe; simp at hce
 exact wpAny_setField_rec z6 (by simp) fun g7 _ s7 => k g7 e _ (fun c o c1 c2 c3 c4 c5 x => (s7.2 c c5).trans (x6 c o c3 ((s5.2 c c4).trans ((s4.2 c c2).trans (k3 c o c1 c4 c5 x))))) ⟨oe, (s7.2 _ hez).trans hoe, hce⟩
end
end
abbrev tup_ (vs : Array Value) : Obj := { cls := .type "tuple", data := .seq vs }
abbrev zip_ (ti to : Addr) : Obj := { cls := .type "zip", data := .fields #[.none, .bool false, .bool false, .ref ti, .ref to] }
abbrev z2a (h : Heap) (t1 t2 : Bool) (l1 l2 : Addr) : Heap := (h.push (srcO t1 l1)).push (srcO t2 l2)
abbrev z2b (h : Heap) (t1 t2 : Bool) (l1 l2 : Addr) : Heap := (z2a h t1 t2 l1 l2).push (tup_ #[.ref h.objs.size, .ref (h.push (srcO t1 l1)).objs.size])
abbrev z2c (h : Heap) (t1 t2 : Bool) (l1 l2 : Addr) : Heap := (z2b h t1 t2 l1 l2).push (tup_ #[.none, .none])
abbrev z2d (h : Heap) (t1 t2 : Bool) (l1 l2 : Addr) : Heap := (z2c h t1 t2 l1 l2).push (zip_ (z2a h t1 t2 l1 l2).objs.size (z2b h t1 t2 l1 l2).objs.size)
theorem zkq (t1 t2 : Bool) (l1 l2 : Addr) (xs ys : Array Value) : Meets (Builtin.«zip.__new__» ⟨[.type "zip", .ref l1, .ref l2], []⟩) (fun _ R s => SrcH t1 s.heap l1 xs /\ SrcH t2 s.heap l2 ys /\
   R (.ok (.ret (.ref (z2c s.heap t1 t2 l1 l2).objs.size))) { s with heap := z2d s.heap t1 t2 l1 l2 }) :=
 .of_wp fun prog w A R s h => by
  obtain ⟨hp, g, d, tk, os⟩ := s
  obtain ⟨b1, b2, h⟩ := h
  have hsub := sub_zip
  have L1 : SrcH t1 (Shared.heap ⟨hp, g, d, tk, os⟩) l1 xs := b1
  have L2 : SrcH t2 (Shared.heap ⟨hp.push (srcO t1 l1), g, d, tk, os⟩) l2 ys := SrcH.at b2 fun o e => Heap.get?_push_of_some _ e
  wp_walk using zbM L1, zbM L2
  exact ⟨_, rfl, h⟩
abbrev z3a (h : Heap) (t1 t2 t3 : Bool) (l1 l2 l3 : Addr) : Heap := ((h.push (srcO t1 l1)).push (srcO t2 l2)).push (srcO t3 l3)
abbrev z3b (h : Heap) (t1 t2 t3 : Bool) (l1 l2 l3 : Addr) : Heap := (z3a h t1 t2 t3 l1 l2 l3).push (tup_ #[.ref h.objs.size, .ref (h.push (srcO t1 l1)).objs.size, .ref ((h.push (srcO t1 l1)).push (srcO t2 l2)).objs.size])
abbrev z3c (h : Heap) (t1 t2 t3 : Bool) (l1 l2 l3 : Addr) : Heap := (z3b h t1 t2 t3 l1 l2 l3).push (tup_ #[.none, .none, .none])
abbrev z3d (h : Heap) (t1 t2 t3 : Bool) (l1 l2 l3 : Addr) : Heap := (z3c h t1 t2 t3 l1 l2 l3).push (zip_ (z3a h t1 t2 t3 l1 l2 l3).objs.size (z3b h t1 t2 t3 l1 l2 l3).objs.size)
set_option maxHeartbeats 4000000 in
theorem zj6 (t1 t2 t3 : Bool) (l1 l2 l3 : Addr) (xs ys zs : Array Value) : Meets (Builtin.«zip.__new__» ⟨[.type "zip", .ref l1, .ref l2, .ref l3], []⟩) (fun _ R s => SrcH t1 s.heap l1 xs /\ SrcH t2 s.heap l2 ys /\ SrcH t3 s.heap l3 zs /\
   R (.ok (.ret (.ref (z3c s.heap t1 t2 t3 l1 l2 l3).objs.size))) { s with heap := z3d s.heap t1 t2 t3 l1 l2 l3 }) :=
 .of_wp fun prog w A R s h => by
  obtain ⟨hp, g, d, tk, os⟩ := s
  obtain ⟨b1, b2, b3, h⟩ := h
  have hsub := sub_zip
  have L1 : SrcH t1 (Shared.heap ⟨hp, g, d, tk, os⟩) l1 xs := b1
  have L2 : SrcH t2 (Shared.heap ⟨hp.push (srcO t1 l1), g, d, tk, os⟩) l2 ys := SrcH.at b2 fun o e => Heap.get?_push_of_some _ e
  have L3 : SrcH t3 (Shared.heap ⟨(hp.push (srcO t1 l1)).push (srcO t2 l2), g, d, tk, os⟩) l3 zs := SrcH.at b3 fun o e => Heap.get?_push_of_some _ (Heap.get?_push_of_some _ e)
  wp_walk using zbM L1, zbM L2, zbM L3
  exact ⟨_, rfl, h⟩
theorem zhH (a b c : Value) : checkTypeCall "zip" ⟨[a, b, c], []⟩ = pure () := by kernel_rfl
theorem ziy (a b c : Value) : checkBuiltinCall "zip.__new__" ⟨[.type "zip", a, b, c], []⟩ = pure () := by kernel_rfl
theorem zkd (a b c d : Value) : argsOk "object.__init__" ⟨[a, b, c, d], []⟩ := by
 unfold argsOk; rw [signature?_of (id := "object.__init__") (n := ['_', '_', 't', 'i', 'n', 'i', '_', '_']) (o := ['t', 'c', 'e', 'j', 'b', 'o']) (by kernel_rfl) F.owner_object]; kernel_rfl
section
variable {prog : Program} {w : World} {A : Around} {E : Value -> Shared -> Prop} {s : Shared}
theorem zlm {t1 t2 : Bool} {l1 l2 : Addr} (h1 : SrcH t1 s.heap l1 xs) (h2 : SrcH t2 s.heap l2 ys)
  (k : ∀ h', IsZip h' (s.heap.objs.size + 4) (s.heap.objs.size + 2) (s.heap.objs.size + 3) .none -> IsPair h' (s.heap.objs.size + 2) (.ref s.heap.objs.size) (.ref (s.heap.objs.size + 1)) ->
   IsPair h' (s.heap.objs.size + 3) .none .none -> SrcIt t1 h' s.heap.objs.size l1 0 -> SrcIt t2 h' (s.heap.objs.size + 1) l2 0 ->
   (∀ c o, s.heap.get? c = some o -> h'.get? c = some o) -> Q (.ref (s.heap.objs.size + 4)) { s with heap := h' }) : wpAny (model prog w) A (call (.type "zip") [.ref l1, .ref l2]) Q E s := by
 refine callType_new F.called_zip (by decide) (F.typeCall_zip_2 _ _) (F.newCall_zip_2 _ _) (fun obj => F.args_object_init_3 obj _ _) F.entry_zip_new (zkq t1 t2 l1 l2 xs ys) ⟨h1, h2, (?_ : _ /\ _)⟩
 have y1 : (s.heap.push (srcO t1 l1)).objs.size = s.heap.objs.size + 1 := Heap.size_push ..
 have y2 : (z2a s.heap t1 t2 l1 l2).objs.size = s.heap.objs.size + 2 := by rw [Heap.size_push, y1]
 have y3 : (z2b s.heap t1 t2 l1 l2).objs.size = s.heap.objs.size + 3 := by rw [Heap.size_push, y2]
 have y4 : (z2c s.heap t1 t2 l1 l2).objs.size = s.heap.objs.size + 4 := by rw [Heap.size_push, y3]
 have g5 : (z2d s.heap t1 t2 l1 l2).get? (z2c s.heap t1 t2 l1 l2).objs.size = some _ := Heap.get?_push_size _ rfl
 have g4 : (z2d s.heap t1 t2 l1 l2).get? (z2b s.heap t1 t2 l1 l2).objs.size = some _ := Heap.get?_push_of_some _ (Heap.get?_push_size _ rfl)
 have g3 : (z2d s.heap t1 t2 l1 l2).get? (z2a s.heap t1 t2 l1 l2).objs.size = some _ := Heap.get?_push_of_some _ (Heap.get?_push_of_some _ (Heap.get?_push_size _ rfl))
 have g2 : (z2d s.heap t1 t2 l1 l2).get? (s.heap.push (srcO t1 l1)).objs.size = some (srcO t2 l2) := Heap.get?_push_of_some _ (Heap.get?_push_of_some _ (Heap.get?_push_of_some _ (Heap.get?_push_size _ (zdd ..))))
 have g1 : (z2d s.heap t1 t2 l1 l2).get? s.heap.objs.size = some (srcO t1 l1) := Heap.get?_push_of_some _ (Heap.get?_push_of_some _ (Heap.get?_push_of_some _ (Heap.get?_push_of_some _ (Heap.get?_push_size _ (zdd ..)))))
 rw [y2, y3, y4] at g5
 rw [y1, y2] at g3
 rw [y3] at g4
 rw [y1] at g2
 rw [y4]
 exact ⟨⟨_, g5, rfl⟩, k _ g5 g3 g4 (zfO g1) (zfO g2) fun c o x => Heap.get?_push_of_some _ (Heap.get?_push_of_some _ (Heap.get?_push_of_some _ (Heap.get?_push_of_some _ (Heap.get?_push_of_some _ x))))⟩
theorem zlJ {t1 t2 t3 : Bool} {l1 l2 l3 : Addr} {xs ys zs : Array Value} (h1 : SrcH t1 s.heap l1 xs) (h2 : SrcH t2 s.heap l2 ys) (h3 : SrcH t3 s.heap l3 zs)
  (k : ∀ h', IsZip h' (s.heap.objs.size + 5) (s.heap.objs.size + 3) (s.heap.objs.size + 4) .none -> zcU h' (s.heap.objs.size + 3) (.ref s.heap.objs.size) (.ref (s.heap.objs.size + 1)) (.ref (s.heap.objs.size + 2)) ->
   zcU h' (s.heap.objs.size + 4) .none .none .none -> SrcIt t1 h' s.heap.objs.size l1 0 -> SrcIt t2 h' (s.heap.objs.size + 1) l2 0 -> SrcIt t3 h' (s.heap.objs.size + 2) l3 0 ->
   (∀ c o, s.heap.get? c = some o -> h'.get? c = some o) -> Q (.ref (s.heap.objs.size + 5)) { s with heap := h' }) : wpAny (model prog w) A (call (.type "zip") [.ref l1, .ref l2, .ref l3]) Q E s := by
 refine callType_new F.called_zip (by decide) (zhH _ _ _) (ziy _ _ _) (fun obj => zkd obj _ _ _) F.entry_zip_new (zj6 t1 t2 t3 l1 l2 l3 xs ys zs) ⟨h1, h2, h3, (?_ : _ /\ _)⟩
 have y1 : (s.heap.push (srcO t1 l1)).objs.size = s.heap.objs.size + 1 := Heap.size_push ..
 have y2 : ((s.heap.push (srcO t1 l1)).push (srcO t2 l2)).objs.size = s.heap.objs.size + 2 := by rw [Heap.size_push, y1]
 have y3 : (z3a s.heap t1 t2 t3 l1 l2 l3).objs.size = s.heap.objs.size + 3 := by rw [Heap.size_push, y2]
 have y4 : (z3b s.heap t1 t2 t3 l1 l2 l3).objs.size = s.heap.objs.size + 4 := by rw [Heap.size_push, y3]
 have y5 : (z3c s.heap t1 t2 t3 l1 l2 l3).objs.size = s.heap.objs.size + 5 := by rw [Heap.size_push, y4]
 have g6 : (z3d s.heap t1 t2 t3 l1 l2 l3).get? (z3c s.heap t1 t2 t3 l1 l2 l3).objs.size = some _ := Heap.get?_push_size _ rfl
 have g5 : (z3d s.heap t1 t2 t3 l1 l2 l3).get? (z3b s.heap t1 t2 t3 l1 l2 l3).objs.size = some _ := Heap.get?_push_of_some _ (Heap.get?_push_size _ rfl)
 have g4 : (z3d s.heap t1 t2 t3 l1 l2 l3).get? (z3a s.heap t1 t2 t3 l1 l2 l3).objs.size = some _ := Heap.get?_push_of_some _ (Heap.get?_push_of_some _ (Heap.get?_push_size _ rfl))
 have g3 : (z3d s.heap t1 t2 t3 l1 l2 l3).get? ((s.heap.push (srcO t1 l1)).push (srcO t2 l2)).objs.size = some (srcO t3 l3) := Heap.get?_push_of_some _ (Heap.get?_push_of_some _ (Heap.get?_push_of_some _ (Heap.get?_push_size _ (zdd ..))))
 have g2 : (z3d s.heap t1 t2 t3 l1 l2 l3).get? (s.heap.push (srcO t1 l1)).objs.size = some (srcO t2 l2) := Heap.get?_push_of_some _ (Heap.get?_push_of_some _ (Heap.get?_push_of_some _ (Heap.get?_push_of_some _ (Heap.get?_push_size _ (zdd ..)))))
 have g1 : (z3d s.heap t1 t2 t3 l1 l2 l3).get? s.heap.objs.size = some (srcO t1 l1) := Heap.get?_push_of_some _ (Heap.get?_push_of_some _ (Heap.get?_push_of_some _ (Heap.get?_push_of_some _ (Heap.get?_push_of_some _ (Heap.get?_push_size _ (zdd ..))))))
 rw [y3, y4, y5] at g6
 rw [y1, y2, y3] at g4
 rw [y4] at g5
 rw [y2] at g3
 rw [y1] at g2
 rw [y5]
 exact ⟨⟨_, g6, rfl⟩, k _ g6 g4 g5 (zfO g1) (zfO g2) (zfO g3) fun c o x => Heap.get?_push_of_some _ (Heap.get?_push_of_some _ (Heap.get?_push_of_some _ (Heap.get?_push_of_some _ (Heap.get?_push_of_some _ (Heap.get?_push_of_some _ x)))))⟩
abbrev en_ (it : Addr) : Obj := { cls := .type "enumerate", data := .fields #[.none, .bool false, .ref it, rawInt 0, .none, .none] }
theorem zj8 (t : Bool) (l : Addr) (o : Obj) (xs : Array Value) : Meets (Builtin.«enumerate.__new__» ⟨[.type "enumerate", .ref l], []⟩) (fun _ R s => s.heap.get? l = some o /\ SrcH t s.heap l xs /\
   R (.ok (.ret (.ref (s.heap.push (srcO t l)).objs.size))) { s with heap := (s.heap.push (srcO t l)).push (en_ s.heap.objs.size) }) :=
 .of_wp fun prog w A R s h => by
  obtain ⟨hp, g, d, tk, os⟩ := s
  obtain ⟨hl, b, h⟩ := h
  have hsub := sub_enumerate
  have hL : SrcH t (Shared.heap ⟨hp, g, d, tk, os⟩) l xs := b
  wp_walk using AutoSeq1.wpAny_loadPart' hl
  refine wpAny_stack_any fun st => wpAny_pure ?_
  split
  ·rename_i c _ _ _ _ _
   cases (c == Value.type "enumerate") <;> (wp_walk using AutoSeq1.wpAny_loadPart' hl, zbM hL; exact ⟨_, rfl, h⟩)
  ·wp_walk using AutoSeq1.wpAny_loadPart' hl, zbM hL
   exact ⟨_, rfl, h⟩
theorem zlI (h1 : SrcH t s.heap l xs)
  (k : ∀ h', IsEnum h' (s.heap.objs.size + 1) s.heap.objs.size 0 .none -> SrcIt t h' s.heap.objs.size l 0 -> (∀ b o, s.heap.get? b = some o -> h'.get? b = some o) -> Q (.ref (s.heap.objs.size + 1)) { s with heap := h' }) :
  wpAny (model prog w) A (call (.type "enumerate") [.ref l]) Q E s := by
 have ⟨o, ho⟩ : ∃ o, s.heap.get? l = some o := by cases t <;> (obtain ⟨o, e, -⟩ := h1; exact ⟨o, e⟩)
 refine callType_new F.called_enumerate (by decide) (F.typeCall_enumerate_1 _) (F.newCall_enumerate_1 _) (fun obj => F.args_object_init_2 obj _) F.entry_enumerate_new (zj8 t l o xs) ⟨ho, h1, (?_ : _ /\ _)⟩
 have y1 : (s.heap.push (srcO t l)).objs.size = s.heap.objs.size + 1 := Heap.size_push ..
 have g2 : ((s.heap.push (srcO t l)).push (en_ s.heap.objs.size)).get? (s.heap.push (srcO t l)).objs.size = some _ := Heap.get?_push_size _ rfl
 have g1 : ((s.heap.push (srcO t l)).push (en_ s.heap.objs.size)).get? s.heap.objs.size = some (srcO t l) := Heap.get?_push_of_some _ (Heap.get?_push_size _ (zdd ..))
 rw [y1] at g2
 rw [y1]
 exact ⟨⟨_, g2, rfl⟩, k _ g2 (zfO g1) fun b o x => Heap.get?_push_of_some _ (Heap.get?_push_of_some _ x)⟩
end
end M
namespace M
local macro_rules | `(tactic| ac_rfl) => `(tactic| first | exact M.nA (by decide) | exact M.nB (by decide) | exact M.nC (by decide) | exact M.nL (by assumption) | exact Nat.ne_of_lt (by assumption) | omega)
open L2 PySem PySem.Spec
open PyProof.Rows hiding St
open Sem (wp)
variable {t' ek : Nat} {h' : Heap} {fp : List Addr} {vs xs : List V} {its : List Value} {t : Bool} {X : Cx} {pins : List (Addr × Obj)} {σ : St} {H : Hp} {s : Shared} {a : Expr} {K : W.Frag} {elts : List Expr} {ep p pos : Pos} {ta : TA} {es : List D} {ma : MA}
section
variable {X : Cx} {pins : List (Addr × Obj)} {σ : St} {H : Hp} {s : Shared}
theorem zhF (I : Inv X pins σ H s) (k : ∀ b o, b ∉ fp -> s.heap.get? b = some o -> h'.get? b = some o) (hf : ∀ b ∈ fp, FpOk X pins H b) : Inv X pins σ H { s with heap := h', toks := t' } := by
 have nit : ∀ b u, H b = some u -> b ∉ fp := fun b u e z => by rw [(hf b z).1] at e; cases e
 refine I.step (g' := s.gens) (d' := s.drawn) (ch := fp) (fun b hb => ?_) (fun b o _ _ hc e _ => k b o hc e) (fun b o _ _ hc e _ => ⟨o.slots, k b o hc e⟩) (fun _ _ _ _ n => n)
  (fun b o hc e => ⟨o, k b o hc e⟩) (fun _ _ e => e) (fun _ _ _ e => e) (fun b ps e => ⟨#[], by rw [e]; simp⟩) (fun m hm => ?_) (fun b u e => ?_) I.bare
 ·obtain ⟨f0, f1, f2, f3, f4, f5⟩ := hf b hb
  exact ⟨f3, f1, f4, f5⟩
 ·obtain ⟨o, es, ep, ho, r⟩ := hm
  exact ⟨o, es, ep, k _ o (fun z => (hf _ z).2.1 rfl) ho, r⟩
 ·refine (I.hok b u e).stay (fun c v hc q => k c v ?_ q) (fun _ q => q) fun _ _ q => q
  rcases hc with z | z
  ·rw [z]; exact nit b u e
  ·exact nit c _ z
theorem ziT {t' : Nat} {h' : Heap} {fp : List Addr} (I : Inv X pins σ H s) (k : ∀ b o, b ∉ fp -> s.heap.get? b = some o -> h'.get? b = some o) (hf : ∀ b ∈ fp, FpOk X pins H b) (hl : ∀ b ∈ fp, b < s.heap.objs.size)
  (hT : h'.get? s.heap.objs.size = some (tup_ its.toArray)) (hz : vs.length <= sizeLine) (r : Vals vs its) : Inv X pins σ (upd H s.heap.objs.size (.tup vs)) { s with heap := h', toks := t' } := by
 have I1 := I.laid (t' := s.toks) (a := s.heap.objs.size) (o := .tup vs) (h' := s.heap.push (tup_ its.toArray)) (fun b u q => Heap.get?_push_of_some _ q) (Nat.le_refl _) ⟨hz, its, r, IsTup.new _ _⟩
 refine zhF (s := { s with heap := s.heap.push (tup_ its.toArray), toks := s.toks }) (t' := t') (fp := fp) I1 (fun b o hb e => ?_) fun b hb => ?_
 ·have e' : (s.heap.push (tup_ its.toArray)).get? b = some o := e
  rcases Heap.get?_push_cases e' with ⟨rfl, rfl⟩ | q
  ·exact hT
  ·exact k b o hb q
 ·obtain ⟨f0, fr⟩ := hf b hb
  refine ⟨?_, fr⟩
  rw [zam (Nat.ne_of_lt (hl b hb))]
  exact f0
end
def SrcSq (t : Bool) (K : W.Frag) (H : Hp) (a : Addr) (xs : List V) : Prop := match t with
 | true => SqT K H a xs
 | false => SqL K H a xs
theorem SrcSq.heap {a : Addr} (I : Inv X pins σ H s) (h : SrcSq t X.K H a xs) : ∃ its : List Value, Vals xs its /\ SrcH t s.heap a its.toArray /\ xs.length <= sizeLine := by
 cases t
 ·obtain ⟨its, r, p, z⟩ := I.list h
  exact ⟨its, r, p.isList, z⟩
 ·obtain ⟨its, r, p, z⟩ := I.tuple h
  exact ⟨its, r, p, z⟩
theorem SrcSq.inj {a : Addr} {xs ys : List V} (I : Inv X pins σ H s) (h : SrcSq t X.K H a xs) (h' : SrcSq t X.K H a ys) : xs = ys := by
 cases t
 ·exact I.list_inj h h'
 ·exact I.tuple_inj h h'
def Itz2 (K : W.Frag) (t1 : Bool) (a1 : Addr) (t2 : Bool) (a2 : Addr) (n : Nat) : It where
 go := fun i H => i < n /\ ∃ xs ys, SrcSq t1 K H a1 xs /\ SrcSq t2 K H a2 ys /\ n = min xs.length ys.length
 yld := fun i H x H' => ∃ p x1 x2, H p = none /\ H' = upd H p (.tup [x1, x2]) /\ x = .ref p /\ ∀ xs ys, SrcSq t1 K H a1 xs -> SrcSq t2 K H a2 ys -> xs[i]? = some x1 /\ ys[i]? = some x2
 stop := fun i H => n <= i /\ ∃ xs ys, SrcSq t1 K H a1 xs /\ SrcSq t2 K H a2 ys /\ n = min xs.length ys.length
theorem nin4 {c N : Nat} (h : c ∉ ([N, N + 1, N + 2, N + 3, N + 4] : List Nat)) : c ≠ N /\ c ≠ N + 1 /\ c ≠ N + 3 /\ c ≠ N + 4 :=
 ⟨fun e => h (e ▸ .head _), fun e => h (e ▸ .tail _ (.head _)), fun e => h (e ▸ .tail _ (.tail _ (.tail _ (.head _)))), fun e => h (e ▸ .tail _ (.tail _ (.tail _ (.tail _ (.head _)))))⟩
theorem nin5 {c N : Nat} (h : c ∉ ([N, N + 1, N + 2, N + 3, N + 4, N + 5] : List Nat)) : c ≠ N /\ c ≠ N + 1 /\ c ≠ N + 2 /\ c ≠ N + 4 /\ c ≠ N + 5 :=
 ⟨fun e => h (e ▸ .head _), fun e => h (e ▸ .tail _ (.head _)), fun e => h (e ▸ .tail _ (.tail _ (.head _))), fun e => h (e ▸ .tail _ (.tail _ (.tail _ (.tail _ (.head _))))), fun e => h (e ▸ .tail _ (.tail _ (.tail _ (.tail _ (.tail _ (.head _))))))⟩
def Itz3 (K : W.Frag) (t1 : Bool) (a1 : Addr) (t2 : Bool) (a2 : Addr) (t3 : Bool) (a3 : Addr) (n : Nat) : It where
 go := fun i H => i < n /\ ∃ xs ys zs, SrcSq t1 K H a1 xs /\ SrcSq t2 K H a2 ys /\ SrcSq t3 K H a3 zs /\ n = min xs.length (min ys.length zs.length)
 yld := fun i H x H' => ∃ p x1 x2 x3, H p = none /\ H' = upd H p (.tup [x1, x2, x3]) /\ x = .ref p /\ ∀ xs ys zs, SrcSq t1 K H a1 xs -> SrcSq t2 K H a2 ys -> SrcSq t3 K H a3 zs -> xs[i]? = some x1 /\ ys[i]? = some x2 /\ zs[i]? = some x3
 stop := fun i H => n <= i /\ ∃ xs ys zs, SrcSq t1 K H a1 xs /\ SrcSq t2 K H a2 ys /\ SrcSq t3 K H a3 zs /\ n = min xs.length (min ys.length zs.length)
theorem zkX {P : Program} {w : World} (t1 : Bool) (a1 : Nat) (t2 : Bool) (a2 : Nat) (t3 : Bool) (a3 : Nat) (n N : Nat) (l1 : a1 < N) (l2 : a2 < N) (l3 : a3 < N) :
  Turn P w K (.Tuple elts ek ep) (Itz3 K t1 a1 t2 a2 t3 a3 n) ([N, N + 1, N + 2, N + 3, N + 4, N + 5] : List Nat) (N + 5 : Nat)
   (fun i h => i <= n /\ IsZip h (N + 5 : Nat) (N + 3 : Nat) (N + 4 : Nat) .none /\ zcU h (N + 3 : Nat) (.ref N) (.ref (N + 1 : Nat)) (.ref (N + 2 : Nat)) /\ (∃ a b c, zcU h (N + 4 : Nat) a b c) /\ SrcIt t1 h N a1 i /\ SrcIt t2 h (N + 1 : Nat) a2 i /\ SrcIt t3 h (N + 2 : Nat) a3 i) where
 mem := by simp
 obj := fun i h st b hb => by
  obtain ⟨-, h5, h3, ⟨a, c, d, h4⟩, h0, h1, h2⟩ := st
  simp only [List.mem_cons, List.not_mem_nil, or_false] at hb
  rcases hb with rfl | rfl | rfl | rfl | rfl | rfl
  ·exact h0.obj
  ·exact h1.obj
  ·exact h2.obj
  ·exact ⟨_, h3, fun v z => by cases z⟩
  ·exact ⟨_, h4, fun v z => by cases z⟩
  ·exact ⟨_, h5, fun v z => by cases z⟩
 keep := fun i h h' st k => by
  obtain ⟨hi, h5, h3, ⟨a, c, d, h4⟩, h0, h1, h2⟩ := st
  exact ⟨hi, k _ (by simp) _ h5, k _ (by simp) _ h3, ⟨a, c, d, k _ (by simp) _ h4⟩, h0.at fun o e => k _ (by simp) o e, h1.at fun o e => k _ (by simp) o e, h2.at fun o e => k _ (by simp) o e⟩
 item := by
  intro X hP hw hK hc i pins s σ H E I hf st hg
  subst hP hw hK
  obtain ⟨hi, h5, h3, ⟨a, c, d, h4⟩, h0, h1, h2⟩ := st
  obtain ⟨hn, xs, ys, zs, q1, q2, q3, en⟩ := hg
  obtain ⟨us, ru, hu, zu⟩ := q1.heap I
  obtain ⟨ws, rw', hw', zw⟩ := q2.heap I
  obtain ⟨os, ro, ho', zo⟩ := q3.heap I
  have lu := ru.length
  have lw := rw'.length
  have lo := ro.length
  have D1 := za2 (prog := X.prog) (w := X.w) (A := X.A.in1) (t := t1) (I.ok.hd hc) N a1 (ne_ (by ac_rfl)) us.toArray
  have D2 := za2 (prog := X.prog) (w := X.w) (A := X.A.in1) (t := t2) (I.ok.hd hc) (N + 1) a2 (ne_ (by ac_rfl)) ws.toArray
  have D3 := za2 (prog := X.prog) (w := X.w) (A := X.A.in1) (t := t3) (I.ok.hd hc) (N + 2) a3 (ne_ (by ac_rfl)) os.toArray
  have hT : s.TypeIs (.ref (N + 5 : Nat)) "zip" := ⟨_, h5, rfl⟩
  unfold pyNext
  refine wpAny_bind (wpAny_attempt (wpAny_callSpecial?_slot (name := Str.ofString "__next__") hT F.slot_zip_next (wpAny_call_entry F.slot_zip_next hT F.entry_zip_next
   (zl8 D1 D2 D3 l1 l2 l3 h5 h3 h4 ⟨h0, hu⟩ ⟨h1, hw'⟩ ⟨h2, ho'⟩ (by simp; omega) (by simp; omega) (by simp; omega) fun x y z h' tk p1 p2 p3 g5 g4 g0 g1 g2 gT kk => wpAny_pure ?_) (F.args_zip_next_1 _))))
  obtain ⟨x1, hx1⟩ : ∃ x1, xs[i]? = some x1 := ⟨xs[i]'(by omega), List.getElem?_eq_getElem _⟩
  obtain ⟨x2, hx2⟩ : ∃ x2, ys[i]? = some x2 := ⟨ys[i]'(by omega), List.getElem?_eq_getElem _⟩
  obtain ⟨x3, hx3⟩ : ∃ x3, zs[i]? = some x3 := ⟨zs[i]'(by omega), List.getElem?_eq_getElem _⟩
  obtain ⟨u1, hu1, r1⟩ := ru.get hx1
  obtain ⟨u2, hu2, r2⟩ := rw'.get hx2
  obtain ⟨u3, hu3, r3⟩ := ro.get hx3
  have e1 : u1 = x := by
   have : us[i]? = some x := by simpa using p1
   rw [hu1] at this; cases this; rfl
  have e2 : u2 = y := by
   have : ws[i]? = some y := by simpa using p2
   rw [hu2] at this; cases this; rfl
  have e3 : u3 = z := by
   have : os[i]? = some z := by simpa using p3
   rw [hu3] at this; cases this; rfl
  subst e1 e2 e3
  refine ⟨_, rfl, wpAny_letOwnedTupleGo_zip (s := { s with heap := h', toks := tk }) g5 fun h'' g5' sb => ?_⟩
  replace sb : Heap.SameBut (N + 5 : Nat) h' h'' := sb
  have lz : N + 5 < s.heap.objs.size := Heap.lt_size h5
  have kk' : ∀ b o, b ∉ ([N, N + 1, N + 2, N + 3, N + 4, N + 5] : List Nat) -> s.heap.get? b = some o -> h''.get? b = some o := fun b o hb e => by
   obtain ⟨c1, c2, c3, c4, c5⟩ := nin5 hb
   exact (sb.2 b c5).trans (kk b o c1 c2 c3 c4 c5 e)
  have I1 := ziT (t' := tk) (vs := [x1, x2, x3]) (its := [u1, u2, u3]) I kk' hf (fun b hb => by
   have : b = N \/ b = N + 1 \/ b = N + 2 \/ b = N + 3 \/ b = N + 4 \/ b = N + 5 := by simpa using hb
   exact Nat.lt_of_le_of_lt (show (b : Nat) <= N + 5 by rcases this with h | h | h | h | h | h <;> rw [h] <;> simp) lz) ((sb.2 _ (ne_ (by ac_rfl))).trans gT) (by simp; rw [sizeLine_eq]; decide) (.cons r1 (.cons r2 (.cons r3 .nil)))
  refine ⟨.ref s.heap.objs.size, _, I1, rfl, ⟨_, x1, x2, x3, I.hok.fresh (Nat.le_refl _), rfl, rfl, fun xs' ys' zs' b1 b2 b3 => ?_⟩, ⟨hn, g5', (sb.2 _ (ne_ (by ac_rfl))).trans (kk _ _ (ne_ (by ac_rfl)) (ne_ (by ac_rfl)) (ne_ (by ac_rfl)) (ne_ (by ac_rfl)) (ne_ (by ac_rfl)) h3), ⟨_, _, _, (sb.2 _ (ne_ (by ac_rfl))).trans g4⟩, SrcIt.at g0.1 fun o e => (sb.2 _ (ne_ (by ac_rfl))).trans e, SrcIt.at g1.1 fun o e => (sb.2 _ (ne_ (by ac_rfl))).trans e, SrcIt.at g2.1 fun o e => (sb.2 _ (ne_ (by ac_rfl))).trans e⟩, fun b hb => ?_⟩
  ·rw [SrcSq.inj I b1 q1, SrcSq.inj I b2 q2, SrcSq.inj I b3 q3]
   exact ⟨hx1, hx2, hx3⟩
  ·have : b = N \/ b = N + 1 \/ b = N + 2 \/ b = N + 3 \/ b = N + 4 \/ b = N + 5 := by simpa using hb
   rw [zam (Nat.ne_of_lt (Nat.lt_of_le_of_lt (show (b : Nat) <= N + 5 by rcases this with h | h | h | h | h | h <;> rw [h] <;> simp) lz))]
   exact (hf b hb).1
 done := by
  intro X hP hw hK hc i pins s σ H E I hf st hg
  subst hP hw hK
  obtain ⟨hi, h5, h3, ⟨a, c, d, h4⟩, h0, h1, h2⟩ := st
  obtain ⟨hn, xs, ys, zs, q1, q2, q3, en⟩ := hg
  obtain ⟨us, ru, hu, zu⟩ := q1.heap I
  obtain ⟨ws, rw', hw', zw⟩ := q2.heap I
  obtain ⟨os, ro, ho', zo⟩ := q3.heap I
  have lu := ru.length
  have lw := rw'.length
  have lo := ro.length
  have D1 := za2 (prog := X.prog) (w := X.w) (A := X.A.in1) (t := t1) (I.ok.hd hc) N a1 (ne_ (by ac_rfl)) us.toArray
  have D2 := za2 (prog := X.prog) (w := X.w) (A := X.A.in1) (t := t2) (I.ok.hd hc) (N + 1) a2 (ne_ (by ac_rfl)) ws.toArray
  have D3 := za2 (prog := X.prog) (w := X.w) (A := X.A.in1) (t := t3) (I.ok.hd hc) (N + 2) a3 (ne_ (by ac_rfl)) os.toArray
  have hT : s.TypeIs (.ref (N + 5 : Nat)) "zip" := ⟨_, h5, rfl⟩
  unfold pyNext
  refine wpAny_bind (wpAny_attempt (wpAny_callSpecial?_slot (name := Str.ofString "__next__") hT F.slot_zip_next (wpAny_call_entry F.slot_zip_next hT F.entry_zip_next
   (zip3_end D1 D2 D3 l1 l2 l3 h5 h3 h4 ⟨h0, hu⟩ ⟨h1, hw'⟩ ⟨h2, ho'⟩ (by simp; omega) fun h' e tk kk he => ?_) (F.args_zip_next_1 _))))
  obtain ⟨o, ho, hce⟩ := he
  refine wpAny_bind (wpAny_isInstance (T := "StopIteration") (b := true) ⟨o, ho, hce⟩ isSubtype_stop (wpAny_pure ⟨rfl, zhF I (fun b o hb e => ?_) hf⟩))
  obtain ⟨c1, c2, c3, c4, c5⟩ := nin5 hb
  exact kk b o c1 c2 c3 c4 c5 e
 self := fun _ _ _ _ _ st h => wpAny_pyIter_zip st.2.1 h
def Ite (K : W.Frag) (t1 : Bool) (a1 : Addr) (n : Nat) : It where
 go := fun i H => i < n /\ ∃ xs, SrcSq t1 K H a1 xs /\ n = xs.length
 yld := fun i H x H' => ∃ p x1, H p = none /\ H' = upd H p (.tup [.int i, x1]) /\ x = .ref p /\ ∀ xs, SrcSq t1 K H a1 xs -> xs[i]? = some x1
 stop := fun i H => n <= i /\ ∃ xs, SrcSq t1 K H a1 xs /\ n = xs.length
theorem zlp {P : Program} {w : World} (t1 : Bool) (a1 : Nat) (n N : Nat) (l1 : a1 < N) :
  Turn P w K (.Tuple elts ek ep) (Ite K t1 a1 n) ([N + 1, N] : List Nat) (N + 1 : Nat) (fun i h => i <= n /\ (∃ old, IsEnum h (N + 1 : Nat) N i old) /\ SrcIt t1 h N a1 i) where
 mem := by simp
 obj := fun i h st b hb => by
  obtain ⟨-, ⟨old, h1⟩, h0⟩ := st
  simp only [List.mem_cons, List.not_mem_nil, or_false] at hb
  rcases hb with rfl | rfl
  ·exact ⟨_, h1, fun v z => by cases z⟩
  ·exact h0.obj
 keep := fun i h h' st k => by
  obtain ⟨hi, ⟨old, h1⟩, h0⟩ := st
  exact ⟨hi, ⟨old, k _ (by simp) _ h1⟩, h0.at fun o e => k _ (by simp) o e⟩
 item := by
  intro X hP hw hK hc i pins s σ H E I hf st hg
  subst hP hw hK
  obtain ⟨hi, ⟨old, h1⟩, h0⟩ := st
  obtain ⟨hn, xs, q1, en⟩ := hg
  obtain ⟨us, ru, hu, zu⟩ := q1.heap I
  have lu := ru.length
  have D1 := za2 (prog := X.prog) (w := X.w) (A := X.A.in1) (t := t1) (I.ok.hd hc) N a1 (ne_ (by ac_rfl)) us.toArray
  refine wpAny_pyNext_enum_itemD D1 h1 ⟨h0, hu⟩ (by simp; omega) (ne_ (by ac_rfl)) (fun z => nin2 (z := N + 1) z (by omega) (by omega) rfl) fun x h' tk p1 ho g0 gT gz kk => ?_
  obtain ⟨x1, hx1⟩ : ∃ x1, xs[i]? = some x1 := ⟨xs[i]'(by omega), List.getElem?_eq_getElem _⟩
  obtain ⟨u1, hu1, r1⟩ := ru.get hx1
  have e1 : u1 = x := by
   have : us[i]? = some x := by simpa using p1
   rw [hu1] at this; cases this; rfl
  subst e1
  refine ⟨_, rfl, wpAny_letOwnedTupleGo_enum (s := { s with heap := h', toks := tk + 1 }) ho fun h'' he' sb => ?_⟩
  replace sb : Heap.SameBut (N + 1 : Nat) h' h'' := sb
  have lz : N + 1 < s.heap.objs.size := Heap.lt_size h1
  have kk' : ∀ b o, b ∉ ([N + 1, N] : List Nat) -> s.heap.get? b = some o -> h''.get? b = some o := fun b o hb e =>
   (sb.2 b fun z => hb (by simp [z])).trans (kk b o (fun z => hb (by simp [z])) (fun z => hb (by simp [z])) e)
  have I1 := ziT (t' := tk + 1) (vs := [.int i, x1]) (its := [.int i tk, u1]) I kk' hf (fun b hb => by
   have : b = N + 1 \/ b = N := by simpa using hb
   exact Nat.lt_of_le_of_lt (show (b : Nat) <= N + 1 by rcases this with h | h <;> rw [h] <;> simp) lz) ((sb.2 _ (ne_ (by ac_rfl))).trans gT) (by simp; rw [sizeLine_eq]; decide) (.cons ⟨_, rfl⟩ (.cons r1 .nil))
  refine ⟨.ref s.heap.objs.size, _, I1, rfl, ⟨_, x1, I.hok.fresh (Nat.le_refl _), rfl, rfl, fun xs' b1 => ?_⟩, ⟨hn, ⟨_, by simpa using he'⟩, SrcIt.at g0.1 fun o e => (sb.2 _ (ne_ (by ac_rfl))).trans e⟩, fun b hb => ?_⟩
  ·rw [SrcSq.inj I b1 q1]
   exact hx1
  ·have : b = N + 1 \/ b = N := by simpa using hb
   rw [zam (Nat.ne_of_lt (Nat.lt_of_le_of_lt (show (b : Nat) <= N + 1 by rcases this with h | h <;> rw [h] <;> simp) lz))]
   exact (hf b hb).1
 done := by
  intro X hP hw hK hc i pins s σ H E I hf st hg
  subst hP hw hK
  obtain ⟨hi, ⟨old, h1⟩, h0⟩ := st
  obtain ⟨hn, xs, q1, en⟩ := hg
  obtain ⟨us, ru, hu, zu⟩ := q1.heap I
  have lu := ru.length
  have D1 := za2 (prog := X.prog) (w := X.w) (A := X.A.in1) (t := t1) (I.ok.hd hc) N a1 (ne_ (by ac_rfl)) us.toArray
  have W := WalksT.enumerateD D1 (N + 1 : Nat) (ne_ (by ac_rfl)) (fun z => nin2 (z := N + 1) z (by omega) (by omega) rfl) (by simp)
  have ei : i = us.toArray.size := by simp; omega
  subst ei
  exact W.done s _ _ ⟨⟨old, h1⟩, h0, hu⟩ fun h' tk kk => ⟨rfl, zhF I kk hf⟩
 self := fun _ _ _ _ _ st h => by
  obtain ⟨hi, ⟨old, h1⟩, h0⟩ := st
  exact wpAny_pyIter_enum h1 h
theorem zj1 : bootBuiltins "zip" = some (.type "zip") := by decide +kernel
theorem zg4 : bootBuiltins "enumerate" = some (.type "enumerate") := by decide +kernel
section
variable {X : Cx} {elts : List Expr} {ek : Nat} {ep : Pos}
theorem pi_zip3 {a b c : Expr} (hg : Gl X "zip") (hm : X.mg "zip" = none) (ha : PA X [a, b, c] ta) (hs : starEach [a, b, c] X.env = (false, eval a X.env) :: starEach [b, c] X.env := by rfl) (hs2 : (backTo pos (starEach [b, c] X.env)).any (·.1) = false := by rfl) :
  PI X (.Tuple elts ek ep) (.Call (.Name "zip" p) [a, b, c] [] pos) (fun σ H R => ta σ H fun vs H1 => ∃ t1 a1 xs t2 a2 ys t3 a3 zs, vs = [.ref a1, .ref a2, .ref a3] /\ SrcSq t1 X.K H1 a1 xs /\ SrcSq t2 X.K H1 a2 ys /\ SrcSq t3 X.K H1 a3 zs /\ R (Itz3 X.K t1 a1 t2 a2 t3 a3 (min xs.length (min ys.length zs.length))) H1) := by
 intro pins s σ H R I h
 refine Call_ (zhf I hg hm zj1 (PyProof.Rows.callWith_type1 (thn (ha pos pins s σ H _ I h) fun us s1 ⟨vs, H1, I1, r1, q1⟩ => ?_) hs hs2))
 obtain ⟨t1, a1, xs, t2, a2, ys, t3, a3, zs, e, q1, q2, q3, q⟩ := q1
 subst e
 cases r1 with
 | cons r rr =>
  cases rr with
  | cons r' rr =>
   cases rr with
   | cons r'' rr =>
    cases rr
    cases r
    cases r'
    cases r''
    obtain ⟨us, ru, hu, -⟩ := q1.heap I1
    obtain ⟨ws, rw', hw', -⟩ := q2.heap I1
    obtain ⟨os, ro, ho', -⟩ := q3.heap I1
    refine zlJ hu hw' ho' fun h' g5 g3 g4 g0 g1 g2 kk => wpAny_pyIter_zip g5 ⟨_, _, _, _, H1, rfl, I1.kept (t' := s1.toks) kk, zkX t1 a1 t2 a2 t3 a3 (min xs.length (min ys.length zs.length)) s1.heap.objs.size hu.lt hw'.lt ho'.lt, ⟨Nat.zero_le _, g5, g3, ⟨_, _, _, g4⟩, g0, g1, g2⟩, fun b hb => ?_, q⟩
    have : b = s1.heap.objs.size \/ b = s1.heap.objs.size + 1 \/ b = s1.heap.objs.size + 2 \/ b = s1.heap.objs.size + 3 \/ b = s1.heap.objs.size + 4 \/ b = s1.heap.objs.size + 5 := by simpa using hb
    have le : s1.heap.objs.size <= b := by rcases this with h | h | h | h | h | h <;> rw [h] <;> simp
    exact I1.fpOk le (I1.hok.fresh le)
theorem pi_enum (hg : Gl X "enumerate") (hm : X.mg "enumerate" = none) (ha : PA X [a] ta) (hs : starEach [a] X.env = (false, eval a X.env) :: starEach [] X.env := by rfl) (hs2 : (backTo pos (starEach [] X.env)).any (·.1) = false := by rfl) :
  PI X (.Tuple elts ek ep) (.Call (.Name "enumerate" p) [a] [] pos) (fun σ H R => ta σ H fun vs H1 => ∃ t1 a1 xs, vs = [.ref a1] /\ SrcSq t1 X.K H1 a1 xs /\ R (Ite X.K t1 a1 xs.length) H1) := by
 intro pins s σ H R I h
 refine Call_ (zhf I hg hm zg4 (PyProof.Rows.callWith_type1 (thn (ha pos pins s σ H _ I h) fun us s1 ⟨vs, H1, I1, r1, q1⟩ => ?_) hs hs2))
 obtain ⟨t1, a1, xs, e, q1, q⟩ := q1
 subst e
 cases r1 with
 | cons r rr =>
  cases rr
  cases r
  obtain ⟨us, ru, hu, -⟩ := q1.heap I1
  refine zlI hu fun h' g1 g0 kk => wpAny_pyIter_enum g1 ⟨_, _, _, _, H1, rfl, I1.kept (t' := s1.toks) kk, zlp t1 a1 xs.length s1.heap.objs.size hu.lt, ⟨Nat.zero_le _, ⟨_, g1⟩, g0⟩, fun b hb => ?_, q⟩
  have : b = s1.heap.objs.size + 1 \/ b = s1.heap.objs.size := by simpa using hb
  have le : s1.heap.objs.size <= b := by rcases this with h | h <;> rw [h] <;> simp
  exact I1.fpOk le (I1.hok.fresh le)
end
theorem zhb {G : Hp} {x : V} {d : D} (r : RepD K G x d) (e : zaX [d] = some es) : ∃ t a xs, x = .ref a /\ (∀ H, Fz G H -> SrcSq t K H a xs) /\ RepL K G xs es := by
 cases d <;> simp only [zaX] at e <;> try cases e
 ·obtain ⟨a, xs, rfl, ha, r⟩ := r
  exact ⟨false, a, xs, rfl, fun H f => SqL.of (f _ _ ha), r⟩
 ·obtain ⟨a, xs, rfl, ha, r⟩ := r
  exact ⟨true, a, xs, rfl, fun H f => SqT.of (f _ _ ha), r⟩
 ·obtain ⟨a, rfl, ha⟩ := r
  exact ⟨false, a, _, rfl, fun H f => f.sql ha, RepL.ints _⟩
def ziP (xs ys : List D) : List D := List.zipWith (fun x y => D.tup [x, y]) xs ys
def zi0 (xs ys zs : List D) : List D := List.zipWith (fun x (p : D × D) => D.tup [x, p.1, p.2]) xs (List.zip ys zs)
def zi4 (xs : List D) : List D := List.zipWith (fun x (i : Nat) => D.tup [.int i, x]) xs (List.range xs.length)
def iZ2 (ma : MA) : MA := fun ρ => (ma ρ).bind fun p => match p.1 with
 | [a, b] => (zaX [a]).bind fun xs => (zaX [b]).bind fun ys => some (ziP xs ys, p.2)
 | _ => none
def iZ3 (ma : MA) : MA := fun ρ => (ma ρ).bind fun p => match p.1 with
 | [a, b, c] => (zaX [a]).bind fun xs => (zaX [b]).bind fun ys => (zaX [c]).bind fun zs => some (zi0 xs ys zs, p.2)
 | _ => none
def iEn (ma : MA) : MA := fun ρ => (ma ρ).bind fun p => (zaX p.1).map fun xs => (zi4 xs, p.2)
theorem zhS {a b c : Expr} (hm : X.mg "zip" = none) (ha : SA X [a, b, c] ma) (hg : Gl X "zip" := by rfl) (hs : starEach [a, b, c] X.env = (false, eval a X.env) :: starEach [b, c] X.env := by rfl) (hs2 : (backTo pos (starEach [b, c] X.env)).any (·.1) = false := by rfl) :
  SIt X (.Tuple elts ek ep) (.Call (.Name "zip" p) [a, b, c] [] pos) (iZ3 ma) := by
 obtain ⟨t, pa, sa⟩ := ha
 refine ⟨_, pi_zip3 hg hm pa hs hs2, fun B G H σ ρ ds ρ' Q I hm k => ?_⟩
 obtain ⟨⟨es, ρ1⟩, e1, h2⟩ := zad hm
 dsimp only at h2
 refine sa B G H σ ρ es ρ1 _ I e1 fun G1 H1 vs I1 f1 r1 => ?_
 split at h2
 ·obtain ⟨xs, ex, h2⟩ := zad h2
  obtain ⟨ys, ey, h2⟩ := zad h2
  obtain ⟨zs, ez, h2⟩ := zad h2
  cases h2
  obtain ⟨x, us, rfl, rx, r2⟩ := r1
  obtain ⟨y, ws, rfl, ry, r3⟩ := r2
  obtain ⟨z, os, rfl, rz, r4⟩ := r3
  cases (show os = [] from r4)
  obtain ⟨t1, a1, us, rfl, s1, c1⟩ := zhb rx ex
  obtain ⟨t2, a2, ws, rfl, s2, c2⟩ := zhb ry ey
  obtain ⟨t3, a3, os, rfl, s3, c3⟩ := zhb rz ez
  have n1 := c1.length
  have n2 := c2.length
  have n3 := c3.length
  refine ⟨t1, a1, us, t2, a2, ws, t3, a3, os, rfl, s1 _ I1.fz, s2 _ I1.fz, s3 _ I1.fz, k _ G1 H1 I1 f1 ⟨fun H i f hi => ?_, fun H i x H' f y d e => ?_, fun H i f hi => ?_⟩⟩
  ·exact ⟨by simp [zi0] at hi; omega, us, ws, os, s1 _ f, s2 _ f, s3 _ f, rfl⟩
  ·obtain ⟨p, x1, x2, x3, hp, eh, ex', q⟩ := y
   obtain ⟨q1, q2, q3⟩ := q us ws os (s1 _ f) (s2 _ f) (s3 _ f)
   simp only [zi0, List.zip, List.getElem?_zipWith] at e
   have hi : i < us.length /\ i < ws.length /\ i < os.length := ⟨(List.getElem?_eq_some_iff.mp q1).1, (List.getElem?_eq_some_iff.mp q2).1, (List.getElem?_eq_some_iff.mp q3).1⟩
   have g1 : xs[i]? = some (xs[i]'(by omega)) := List.getElem?_eq_getElem _
   have g2 : ys[i]? = some (ys[i]'(by omega)) := List.getElem?_eq_getElem _
   have g3 : zs[i]? = some (zs[i]'(by omega)) := List.getElem?_eq_getElem _
   rw [g1, g2, g3] at e
   cases e
   obtain ⟨v1, b1, r1⟩ := c1.get g1
   obtain ⟨v2, b2, r2⟩ := c2.get g2
   obtain ⟨v3, b3, r3⟩ := c3.get g3
   rw [q1] at b1; cases b1
   rw [q2] at b2; cases b2
   rw [q3] at b3; cases b3
   exact .inr ⟨p, _, _, hp, eh, ex', rfl, ⟨_, _, rfl, r1, _, _, rfl, r2, _, _, rfl, r3, rfl⟩⟩
  ·exact ⟨by simp [zi0] at hi; omega, us, ws, os, s1 _ f, s2 _ f, s3 _ f, rfl⟩
 ·cases h2
theorem zbt (hm : X.mg "enumerate" = none) (ha : SA X [a] ma) (hg : Gl X "enumerate" := by rfl) (hs : starEach [a] X.env = (false, eval a X.env) :: starEach [] X.env := by rfl) (hs2 : (backTo pos (starEach [] X.env)).any (·.1) = false := by rfl) :
  SIt X (.Tuple elts ek ep) (.Call (.Name "enumerate" p) [a] [] pos) (iEn ma) := by
 obtain ⟨t, pa, sa⟩ := ha
 refine ⟨_, pi_enum hg hm pa hs hs2, fun B G H σ ρ ds ρ' Q I hm k => ?_⟩
 obtain ⟨⟨es, ρ1⟩, e1, h2⟩ := zad hm
 obtain ⟨xs, ex, h2⟩ := zas h2
 cases h2
 refine sa B G H σ ρ es ρ1 _ I e1 fun G1 H1 vs I1 f1 r1 => ?_
 match es, ex, r1 with
 | [], ex, _ => cases ex
 | _ :: _ :: _, ex, _ => exact absurd ex (by simp [zaX])
 | [d], ex, r1 =>
  obtain ⟨x, rfl, rx⟩ := r1.one
  obtain ⟨t1, a1, us, rfl, s1, c1⟩ := zhb rx ex
  have n1 := c1.length
  refine ⟨t1, a1, us, rfl, s1 _ I1.fz, k _ G1 H1 I1 f1 ⟨fun H i f hi => ?_, fun H i x H' f y d e => ?_, fun H i f hi => ?_⟩⟩
  ·exact ⟨by simp [zi4] at hi; omega, us, s1 _ f, rfl⟩
  ·obtain ⟨p, x1, hp, eh, ex', q⟩ := y
   have q1 := q us (s1 _ f)
   have hi : i < us.length := (List.getElem?_eq_some_iff.mp q1).1
   have g1 : xs[i]? = some (xs[i]'(by omega)) := List.getElem?_eq_getElem _
   simp only [zi4, List.getElem?_zipWith] at e
   rw [g1, show (List.range xs.length)[i]? = some i from by rw [List.getElem?_range (by omega)]] at e
   cases e
   obtain ⟨v1, b1, r1⟩ := c1.get g1
   rw [q1] at b1; cases b1
   exact .inr ⟨p, _, _, hp, eh, ex', rfl, ⟨_, _, rfl, rfl, _, _, rfl, r1, rfl⟩⟩
  ·exact ⟨by simp [zi4] at hi; omega, us, s1 _ f, rfl⟩
end M
namespace M
open L2 PySem PySem.Spec
open PyProof.Rows hiding St
theorem ss_never {X : Cx} {st : Stmt} : SS X st (fun _ => none) := ⟨_, ps_never, fun B G H σ ρ fl ρ' E I hm k => by cases hm⟩
def isN : D -> Bool
 | .non => true
 | _ => false
theorem isN_ok {K : W.Frag} {G : Hp} {x : V} {d : D} (r : RepD K G x d) : decide (x = .non) = isN d := by
 cases d with
 | non => cases (show x = V.non from r); rfl
 | bl b => cases (show x = V.bl b from r); rfl
 | int i => cases (show x = V.int i from r); rfl
 | str s => cases (show x = V.str s from r); rfl
 | lst ds => obtain ⟨a, xs, rfl, -⟩ := r; rfl
 | tup ds => obtain ⟨a, xs, rfl, -⟩ := r; rfl
 | scr ns => obtain ⟨a, rfl, -⟩ := r; rfl
 | exc c => obtain ⟨a, C, rfl, -⟩ := r; rfl
 | dic _ _ => obtain ⟨a, ys, rfl, -⟩ := r; rfl
 | dit _ _ => obtain ⟨a, ys, o, xs, rfl, -⟩ := r; rfl
def dIsN : D -> D -> Option D
 | a, .non => some (.bl (isN a))
 | _, _ => none
def zic : D -> D -> Option D
 | a, .non => some (.bl (!isN a))
 | _, _ => none
theorem v2_isN {X : Cx} : V2 X (fun x y H Q => y = .non /\ Q (.bl (decide (x = .non))) H) dIsN := by
 intro B G H σ ρ x y a b d Q I ra rb hf k
 cases b <;> simp only [dIsN] at hf <;> cases hf
 exact ⟨rb, k G H _ I (Fz.refl G) (by rw [isN_ok ra]; rfl)⟩
theorem v2_notN {X : Cx} : V2 X (fun x y H Q => y = .non /\ Q (.bl (!decide (x = .non))) H) zic := by
 intro B G H σ ρ x y a b d Q I ra rb hf k
 cases b <;> simp only [zic] at hf <;> cases hf
 exact ⟨rb, k G H _ I (Fz.refl G) (by rw [isN_ok ra]; rfl)⟩
theorem bl_isN : ∀ x y d, dIsN x y = some d -> ∃ t, d = .bl t := by
 intro x y d hf
 cases y <;> simp only [dIsN] at hf <;> cases hf
 exact ⟨_, rfl⟩
theorem bl_notN : ∀ x y d, zic x y = some d -> ∃ t, d = .bl t := by
 intro x y d hf
 cases y <;> simp only [zic] at hf <;> cases hf
 exact ⟨_, rfl⟩
section
variable {X : Cx} {a b : Expr} {ma mb : ME} {pos : Pos}
theorem st_is (ha : SE X a ma) (hb : SE X b mb) (hm : behindInMarks .Is b = false := by rfl) : STt X (.Compare a [.Is] [b] pos) (tTru (m2 dIsN ma mb)) := zfA op_isN v2_isN bl_isN ha hb hm
theorem zjX (ha : SE X a ma) (hb : SE X b mb) (hm : behindInMarks .IsNot b = false := by rfl) : STt X (.Compare a [.IsNot] [b] pos) (tTru (m2 zic ma mb)) := zfA op_notN v2_notN bl_notN ha hb hm
end
theorem zlV {X : Cx} {a : Expr} {ma : MA} {p q pos pos' : Pos} (ml : X.mg "list" = none) (mr : X.mg "range" = none) (ha : SA X [a] ma) (hc : X.calm = true := by rfl) (hg : Gl X "list" := by rfl) (hgr : Gl X "range" := by rfl)
  (he : starEach [a] X.env = (false, eval a X.env) :: starEach [] X.env := by rfl) (hpl : (backTo pos' (starEach [] X.env)).any (·.1) = false := by rfl)
  (he2 : starEach [.Call (.Name "range" q) [a] [] pos'] X.env = (false, eval (.Call (.Name "range" q) [a] [] pos') X.env) :: starEach [] X.env := by rfl) :
  SO X (.Call (.Name "list" p) [.Call (.Name "range" q) [a] [] pos'] [] pos) (oR (iR1 ma)) := by
 obtain ⟨t, pa, sa⟩ := ha
 refine ⟨_, zgW (zkc hc) hg ml (by decide +kernel) (zdh (zgW zk2 hgr mr (by decide +kernel) pa (by decide) (by decide) he hpl) zgj he2) (by decide) (by decide) he2 rfl, fun B G H σ ρ ds ρ' Q I hm k => ?_⟩
 obtain ⟨⟨items, ρ1⟩, e1, hm⟩ := zad hm
 obtain ⟨⟨es, ρ2⟩, e2, h2⟩ := zad e1
 dsimp only at hm h2
 split at hm
 ·rename_i hlen
  obtain ⟨rfl, rfl⟩ := Prod.mk.inj (Option.some.inj hm)
  refine sa B G H σ ρ es ρ2 _ I e2 fun G1 H1 vs I1 f1 r1 => ?_
  split at h2
  ·rename_i j
   split at h2
   ·rename_i hj
    obtain ⟨rfl, rfl⟩ := Prod.mk.inj (Option.some.inj h2)
    obtain ⟨x, rfl, rx⟩ := r1.one
    cases (show x = V.int j from rx)
    refine ⟨j, rfl, fun p hp => ⟨p, 0, j, rfl, zar, ⟨by decide, by decide, (zee hj).1, (zee hj).2⟩, by simpa [zcP] using hlen, fun l hl => ?_⟩⟩
    have I2 := I1.allocO hp (.rng 0 j)
    have ej : (j - 0).toNat = j.toNat := by rw [Int.sub_zero]
    rw [ej] at *
    obtain ⟨I3, g3, h3, b3, n3⟩ := I2.newO hl ((List.range j.toNat).map fun (k : Nat) => V.int (0 + k))
    exact k G1 _ l _ I3 f1 g3 h3 (zkn 0 _) b3 n3
   ·cases h2
  ·cases h2
 ·cases hm
def zi7 (b : Nat) (ρ : R) : Bool := match ρ[b]? with
 | some (.par _) => zbT (ρ.set b .emp)
 | _ => false
def zfJ (b : Nat) (ρ : R) : List D := match ρ[b]? with
 | some (.par cs) => cs
 | _ => []
def zku (b : Nat) (g : D -> R -> Option R) (mt : MT) (me : ME) : D -> R -> Option (Option D × R) := fun d ρ => (g d ρ).bind fun ρ1 => (mt ρ1).bind fun p => if p.1 then (me p.2).bind fun q => if zi7 b q.2 then some (some q.1, q.2) else none else if zi7 b p.2 then some (none, p.2) else none
def oLCM (cap : List Nat) (t b w : Nat) (mi : MA) (g : D -> R -> Option R) (mt : MT) (me : ME) : MO := fun ρ => (mi ρ).bind fun p => if p.1.length <= 16777216 then
    ((fzL (cap.filter (· != w)) p.2)[w]?).bind fun s => s.items.bind fun cs => (zcT (zku b g mt me) p.1 ((capR cap t (fzL (cap.filter (· != w)) p.2)).set b (.par cs))).map fun q => (q.1, (fzL (cap.filter (· != w)) p.2).set w (s.put (zfJ b q.2)))
  else none
theorem VS.setEmp {K : W.Frag} {G : Hp} {σ : St} {ρ : R} (h : VS K G σ ρ) (b : Nat) : VS K G σ (ρ.set b .emp) where
 len := by rw [List.length_set]; exact h.len
 no := by
  have h0 := h.no
  unfold zbT at *
  rw [List.all_eq_true] at *
  intro s hs
  rcases List.mem_or_eq_of_mem_set hs with z | z
  ·exact h0 s z
  ·rw [z]
 val := fun i d e => by
  rw [List.getElem?_set] at e
  split at e
  ·split at e
   ·cases e
   ·cases e
  ·exact h.val i d e
theorem VS.siP {K : W.Frag} {G H : Hp} {σ : St} {ρ : R} {b : Nat} {cs : List D} {l : Addr} {ys : List V} (h : VS K G σ (ρ.set b .emp)) (fz : Fz G H) (hb : ρ[b]? = some (.par cs)) (hs : σ[b]? = some (some (.ref l))) (gl : G l = none) (hl : H l = some (.lst ys)) (r : RepL K G ys cs) : SI K ⟨G, H, [(b, l)]⟩ G H σ ρ where
 fz := fz
 g0 := Fz.refl G
 new := fun b o e => .inl (by show G b ≠ none; rw [e]; simp)
 keep := fun b o e _ => e
 there := fun b e => e
 ob := fun i c m => by
  have : i = b /\ c = l := by simpa using m
  rw [this.2]
  show H l ≠ none
  rw [hl]; simp
 len := by rw [h.len, List.length_set]
 slot := fun i s e => by
  by_cases z : i = b
  ·subst z
   rw [hb] at e; cases e
   exact ⟨l, ys, hs, gl, hl, r, by simp⟩
  ·have e' : (ρ.set b .emp)[i]? = some s := by rw [List.getElem?_set_ne (Ne.symm z)]; exact e
   cases s with
   | emp => trivial
   | two _ _ => trivial
   | tre t => exact absurd rfl ((zdi h.no e').1 t)
   | ptr t => exact absurd rfl ((zdi h.no e').2 t)
   | val d => exact h.val i d e'
   | own ds => exact absurd ⟨_, ds, e', rfl⟩ (zdy h.no (i := i))
   | par ds => exact absurd ⟨_, ds, e', rfl⟩ (zdy h.no (i := i))
 dis := fun i j s t a hij e1 e2 w1 w2 => by
  have key : ∀ (i : Nat) (s : Sl) ov, ρ[i]? = some s -> OwS K G H ov a s -> i = b := fun i s ov e w => by
   by_cases z : i = b
   ·exact z
   ·exact absurd w (zgg h.no (show (ρ.set b .emp)[i]? = some s by rw [List.getElem?_set_ne (Ne.symm z)]; exact e))
  exact hij ((key i s _ e1 w1).trans (key j t _ e2 w2).symm)
theorem VS.ofP {K : W.Frag} {B : Bs} {G H : Hp} {σ : St} {ρ : R} {b : Nat} {l : Addr} (I : SI K B G H σ ρ) (hO : B.O = [(b, l)]) (h : zi7 b ρ = true) : ∃ cs ys, ρ[b]? = some (.par cs) /\ σ[b]? = some (some (.ref l)) /\ G l = none /\ H l = some (.lst ys) /\ RepL K G ys cs /\ VS K G σ (ρ.set b .emp) := by
 unfold zi7 at h
 split at h
 ·rename_i cs e
  obtain ⟨l', ys, h1, h2, h3, h4, h5⟩ := I.slot b _ e
  have hl : l' = l := by rw [hO] at h5; simpa using h5
  subst hl
  refine ⟨cs, ys, e, h1, h2, h3, h4, ⟨by rw [List.length_set]; exact I.len, h, fun i d e' => ?_⟩⟩
  rw [List.getElem?_set] at e'
  split at e'
  ·split at e'
   ·cases e'
   ·cases e'
  ·exact I.slot i _ e'
 ·cases h
structure LcP (K : W.Frag) (bk : Nat) (g : D -> R -> Option R) (mt : MT) (me : ME) (items all : List D) (ρf : R) (G2 H1 : Hp) (DD l : Addr) (i : Nat) (σc : St) (Hc Gc : Hp) (ρc : R) (acc : List D) (xs : List V) (rest cs : List D) (ys : List V) : Prop where
 fc : Fz G2 Gc
 fcH : Fz Gc Hc
 nw : ∀ b o, Gc b = some o -> G2 b ≠ none \/ H1 b = none
 kp : ∀ b o, b ≠ l -> H1 b = some o -> Hc b = some o
 gD : Gc DD = none
 hDc : Hc DD = some (.lst xs)
 ra : RepL K Gc xs acc
 hx : xs.length <= i
 eb : ρc[bk]? = some (.par cs)
 sb : σc[bk]? = some (some (.ref l))
 glc : Gc l = none
 hlc : Hc l = some (.lst ys)
 rlc : RepL K Gc ys cs
 vs : VS K Gc σc (ρc.set bk .emp)
 ec : zcT (zku bk g mt me) (items.drop i) ρc = some (rest, ρf)
 eall : all = acc ++ rest
section
variable {X : Cx} {elt iter tg : Expr} {ifs : List Expr} {scope : Scope} {pos : Pos} {N : List Str} {cap : List Nat} {t bk wk : Nat} {mi : MA} {g : D -> R -> Option R} {mt : MT} {me : ME}
theorem ziH (hbw : cap[bk]? = some wk) {wi : TI} {tg' : Addr -> Shared -> Hp -> List Addr -> TG} {tt : Addr -> Shared -> Hp -> List Addr -> TT} {te : Addr -> Shared -> Hp -> List Addr -> TE}
    (si : ∀ B G H σ ρ ds ρ' (Q : It -> Hp -> Prop), SI X.K B G H σ ρ -> mi ρ = some (ds, ρ') -> (∀ J G' H', SI X.K B G' H' σ ρ' -> Fz G G' -> Itm X.K J G' ds -> Q J H') -> wi σ H Q)
    (sg : ∀ C s H₀ fp B G H σ ρ v d ρ' (Q : St -> Hp -> Prop), SI X.K B G H σ ρ -> RepD X.K G v d -> g d ρ = some ρ' -> (∀ G' H' σ', SI X.K B G' H' σ' ρ' -> Fz G G' -> Q σ' H') -> tg' C s H₀ fp v σ H Q)
    (st : ∀ C s H₀ fp B G H σ ρ d ρ' (Q : Bool -> Hp -> Prop), SI X.K B G H σ ρ -> mt ρ = some (d, ρ') -> (∀ G' H', SI X.K B G' H' σ ρ' -> Fz G G' -> Q d H') -> tt C s H₀ fp σ H Q)
    (se : ∀ C s H₀ fp B G H σ ρ d ρ' (Q : VK), SI X.K B G H σ ρ -> me ρ = some (d, ρ') -> (∀ G' H' v, SI X.K B G' H' σ ρ' -> Fz G G' -> RepD X.K G' v d -> Q v H') -> te C s H₀ fp σ H Q) :
    ∀ B G H σ ρ ds ρ' (Q : VK), SI X.K B G H σ ρ -> oLCM cap t bk wk mi g mt me ρ = some (ds, ρ') ->
      (∀ G' H' l xs, SI X.K B G' H' σ ρ' -> Fz G G' -> G' l = none -> H' l = some (.lst xs) -> RepL X.K G' xs ds -> B.H l = none -> Nw X.K G' H' σ ρ' l -> Q (.ref l) H') -> tLC (capσ cap t) wi tg' tt te σ H Q := by
  intro B G H σ ρ ds ρ' Q I hm k
  obtain ⟨⟨items, ρ1⟩, e1, hm⟩ := zad hm
  refine si B G H σ ρ items ρ1 _ I e1 fun J G1 H1 I1 f1 IT DD hD => ?_
  dsimp only at hm
  split at hm
  . rename_i hlen
    obtain ⟨sw, ew, hm⟩ := zad hm
    obtain ⟨cs0, qw, hm⟩ := zad hm
    obtain ⟨⟨all, ρf⟩, e2, e3⟩ := zas hm
    obtain ⟨rfl, rfl⟩ := Prod.mk.inj e3
    obtain ⟨G2, I2, f2⟩ := SI.fzL (cap.filter (· != wk)) I1
    have hDG : G2 DD = none := I2.fz.free hD
    obtain ⟨l, ys0, hσ, gl0, hl0, rl0⟩ := I2.wr ew qw
    have hlD : DD ≠ l := (zaq hl0 hD).symm
    have hb : bk < cap.length := (List.getElem?_eq_some_iff.mp hbw).1
    have hbe : cap[bk] = wk := (List.getElem?_eq_some_iff.mp hbw).2
    have hσb : (capσ cap t σ)[bk]? = some (some (.ref l)) := by
      unfold capσ
      rw [List.getElem?_append_left (by simpa using hb), List.getElem?_map, List.getElem?_eq_getElem hb, hbe]
      simp [hσ]
    have hcl : bk < (capR cap t (M.fzL (cap.filter (· != wk)) ρ1)).length := by unfold capR; simp; omega
    refine ⟨fun i m σc Hc => m = items.length - i /\ i <= items.length /\ ∃ Gc ρc acc xs rest cs ys, LcP X.K bk g mt me items all ρf G2 H1 DD l i σc Hc Gc ρc acc xs rest cs ys,
      ⟨items.length, by simp, Nat.zero_le _, G2, (capR cap t (M.fzL (cap.filter (· != wk)) ρ1)).set bk (.par cs0), [], [], all, cs0, ys0, { fc := Fz.refl _, fcH := I2.fz.right hDG _, nw := fun b o e => .inl (by rw [e]; simp), kp := fun b o _ e => by rw [zam (zaq e hD)]; exact e, gD := hDG, hDc := zar, ra := .nil, hx := Nat.le_refl _, eb := by rw [List.getElem?_set]; simp [hcl], sb := hσb, glc := gl0, hlc := by rw [zam (zaq hl0 hD)]; exact hl0, rlc := rl0, vs := by rw [List.set_set]; exact (zjM I2 cap t).setEmp bk, ec := by simpa using e2, eall := rfl }⟩, ?_⟩
    rintro i m σc Hc ⟨rfl, hi, Gc, ρc, acc, xs, rest, cs, ys, J0⟩
    obtain ⟨fc, fcH, nw, kp, gD, hDc, ra, hx, eb, sb, glc, hlc, rlc, vs, ec, eall⟩ := J0
    by_cases hlt : i < items.length
    . refine .inr ⟨IT.go Hc i (f2.trans (fc.trans fcH)) hlt, fun C s₀ H₀ fp x H' y => ?_⟩
      rw [List.drop_eq_getElem_cons hlt] at ec
      simp only [zcT] at ec
      obtain ⟨⟨o, ρ3⟩, h3, ec⟩ := zad ec
      obtain ⟨⟨rest2, ρ4⟩, h4, ec⟩ := zas ec
      obtain ⟨rfl, rfl⟩ := Prod.mk.inj ec
      dsimp only at h4
      unfold zku at h3
      obtain ⟨ρ5, h5, h3⟩ := zad h3
      obtain ⟨⟨ok, ρ6⟩, h6, h3⟩ := zad h3
      dsimp only at h3
      have Ic : SI X.K ⟨Gc, Hc, [(bk, l)]⟩ Gc Hc σc ρc := vs.siP fcH eb sb glc hlc rlc
      have fz2 : Fz G1 Hc := f2.trans (fc.trans fcH)
      have yy := IT.yld Hc i x H' fz2 y items[i] (List.getElem?_eq_getElem hlt)
      have yy2 : (H' = Hc /\ RepD X.K Gc x items[i]) \/ ∃ p xs es, Hc p = none /\ H' = upd Hc p (.tup xs) /\ x = .ref p /\ items[i] = .tup es /\ RepL X.K Gc xs es := by
        rcases yy with ⟨a, b⟩ | ⟨p, xs, es, a, b, c, d, e⟩
        . exact .inl ⟨a, b.mono (f2.trans fc)⟩
        . exact .inr ⟨p, xs, es, a, b, c, d, e.mono (f2.trans fc)⟩
      obtain ⟨G3, I3, f3, r3⟩ := Ic.yld yy2
      refine sg C s₀ H₀ fp _ G3 H' σc ρc x items[i] ρ5 _ I3 r3 h5 fun G4 H4 σ4 I4 f4 => st C s₀ H₀ fp _ G4 H4 σ4 ρ5 ok ρ6 _ I4 h6 fun G5 H5 I5 f5 => ?_
      have facts : ∀ (G' H' : Hp) (σ' : St) (ρ' : R), SI X.K ⟨Gc, Hc, [(bk, l)]⟩ G' H' σ' ρ' -> (∀ b o, G' b = some o -> G2 b ≠ none \/ H1 b = none) /\ (∀ b o, b ≠ l -> H1 b = some o -> H' b = some o) /\ G' DD = none /\ H' DD = some (.lst xs) := fun G' H' σ' ρ' I' => by
        refine ⟨fun b o e => ?_, fun b o ne e => I'.keep b o (kp b o ne e) (by simp; exact ne), ?_, I'.keep DD _ hDc (by simp; exact hlD)⟩
        . rcases I'.new b o e with h | h
          . have h : Gc b ≠ none := h
            cases q : Gc b with
            | none => exact absurd q h
            | some u => exact nw b u q
          . refine .inr ?_
            cases q : H1 b with
            | none => rfl
            | some u =>
              have hn : Hc b = none := h
              have nb : b ≠ l := fun z => by rw [z, hlc] at hn; cases hn
              have := kp b u nb q
              rw [hn] at this; cases this
        . cases q : G' DD with
          | none => rfl
          | some u =>
            rcases I'.new DD u q with h | h
            . exact absurd gD h
            . rw [show Hc DD = none from h] at hDc; cases hDc
      cases ok with
      | false =>
        simp only [Bool.false_eq_true, if_false] at h3
        split at h3
        . rename_i hno
          cases h3
          obtain ⟨a1, a2, a3, a4⟩ := facts G5 H5 σ4 _ I5
          obtain ⟨cs', ys', w1, w2, w3, w4, w5, w6⟩ := VS.ofP I5 rfl hno
          exact ⟨items.length - (i + 1), by omega, rfl, hlt, G5, _, acc, xs, rest2, cs', ys', { fc := fc.trans (f3.trans (f4.trans f5)), fcH := I5.fz, nw := a1, kp := a2, gD := a3, hDc := a4, ra := ra.mono (f3.trans (f4.trans f5)), hx := by omega, eb := w1, sb := w2, glc := w3, hlc := w4, rlc := w5, vs := w6, ec := h4, eall := by simpa using eall }⟩
        . cases h3
      | true =>
        simp only [if_true] at h3 ⊢
        obtain ⟨⟨dv, ρ7⟩, h7, h3⟩ := zad h3
        dsimp only at h3
        split at h3
        . rename_i hno
          cases h3
          refine se C s₀ H₀ fp _ G5 H5 σ4 ρ6 dv _ _ I5 h7 fun G6 H6 v I6 f6 r6 => ?_
          obtain ⟨a1, a2, a3, a4⟩ := facts G6 H6 σ4 _ I6
          obtain ⟨cs', ys', w1, w2, w3, w4, w5, w6⟩ := VS.ofP I6 rfl hno
          have ff : Fz Gc G6 := f3.trans (f4.trans (f5.trans f6))
          exact ⟨xs, a4, by rw [sizeLine_eq]; omega, items.length - (i + 1), by omega, rfl, hlt, G6, _, acc ++ [dv], xs ++ [v], rest2, cs', ys', { fc := fc.trans ff, fcH := I6.fz.right a3 _, nw := a1, kp := fun b o ne e => by rw [zam (zaq e hD)]; exact a2 b o ne e, gD := a3, hDc := zar, ra := (ra.mono ff).snoc r6, hx := by rw [List.length_append, List.length_singleton]; omega, eb := w1, sb := w2, glc := w3, hlc := by rw [zam (Ne.symm hlD)]; exact w4, rlc := w5, vs := w6, ec := h4, eall := by rw [eall]; simp }⟩
        . cases h3
    . have e : i = items.length := by omega
      subst e
      rw [List.drop_length] at ec
      obtain ⟨rfl, rfl⟩ := Prod.mk.inj (Option.some.inj ec)
      have hall : all = acc := by rw [eall, List.append_nil]
      refine .inl ⟨IT.stop Hc _ (f2.trans (fc.trans fcH)) (Nat.le_refl _), ?_⟩
      rw [<- hall] at ra
      have hp : zfJ bk ρc = cs := by unfold zfJ; rw [eb]
      rw [hp] at k
      exact k Gc Hc DD xs (I2.growW ew qw hσ fc fcH nw kp glc hlc rlc) (f1.trans (f2.trans fc)) gD hDc ra (I2.there DD hD) (I2.own_neW ew qw hσ hD nw kp)
  . cases hm
theorem so_lcM (cap : List Nat) (t bk wk : Nat) (N : List Str) (hc : X.calm = true) (hi : SIt X tg iter mi) (hg : ∀ C s H fp, SG (cxC X N scope C s H fp) tg g) (ht : ∀ C s H fp, STs (cxC X N scope C s H fp) ifs mt) (he : ∀ C s H fp, SE (cxC X N scope C s H fp) elt me) (hbw : cap[bk]? = some wk := by rfl)
    (hk : scope.kind = .function := by rfl) (hb : blkB X.env scope = true := by kernel_rfl) (hcap : capB scope.names N X.N cap t = true := by kernel_rfl)
    (hs : ∀ x, foldedSetIterable iter X.env x = pure x := by exact fun _ => rfl) : SO X (.ListComp elt [⟨tg, iter, ifs, 0⟩] scope pos) (oLCM cap t bk wk mi g mt me) := by
  obtain ⟨wi, pi, si⟩ := hi
  exact ⟨_, pe_lc hc (ziA hk hb) (ziC hcap) pi (fun C s H fp => (hg C s H fp).choose_spec.1) (fun C s H fp => (ht C s H fp).choose_spec.1) (fun C s H fp => (he C s H fp).choose_spec.1) hs,
    ziH hbw si (fun C s H fp => (hg C s H fp).choose_spec.2) (fun C s H fp => (ht C s H fp).choose_spec.2) (fun C s H fp => (he C s H fp).choose_spec.2)⟩
theorem zko (i : Nat) {x : Str} {lpos pos' : Pos} (cap : List Nat) (t bk wk : Nat) (N : List Str) (hc : X.calm = true) (hi : SIt X tg iter mi) (hg : ∀ C s H fp, SG (cxC X N scope C s H fp) tg g) (ht : ∀ C s H fp, STs (cxC X N scope C s H fp) ifs mt) (he : ∀ C s H fp, SE (cxC X N scope C s H fp) elt me) (hN : X.N.Nodup) (hbw : cap[bk]? = some wk := by rfl)
    (hxi : X.N[i]? = some x := by rfl) (hx : Loc X.env.scope x := by first | exact Or.inl rfl | exact Or.inr rfl) (hf : X.fn x = true \/ X.env.scope.names.lookup x = some .local := by first | exact Or.inl rfl | exact Or.inr rfl)
    (hsw : swapsWith (.ListComp elt [⟨tg, iter, ifs, 0⟩] scope lpos) (some (.Name x pos')) pos.line X.env = pure true := by rfl)
    (hk : scope.kind = .function := by rfl) (hb : blkB X.env scope = true := by kernel_rfl) (hcap : capB scope.names N X.N cap t = true := by kernel_rfl)
    (hs : ∀ x, foldedSetIterable iter X.env x = pure x := by exact fun _ => rfl) : SS X (.Assign [.Name x pos'] (.ListComp elt [⟨tg, iter, ifs, 0⟩] scope lpos) pos) (sSet i (eFz (oLCM cap t bk wk mi g mt me))) := by
  obtain ⟨wi, pi, si⟩ := hi
  refine ⟨_, zjY hN hxi hx hf hsw hc (ziA hk hb) (ziC hcap) pi (fun C s H fp => (hg C s H fp).choose_spec.1) (fun C s H fp => (ht C s H fp).choose_spec.1) (fun C s H fp => (he C s H fp).choose_spec.1) hs, fun B G H σ ρ fl ρ' E I hm k => ?_⟩
  obtain ⟨⟨d, ρ1⟩, e1, e3⟩ := zas hm
  obtain ⟨⟨ds, ρ2⟩, e4, e5⟩ := zas e1
  obtain ⟨rfl, rfl⟩ := Prod.mk.inj e5
  obtain ⟨rfl, rfl⟩ := Prod.mk.inj e3
  refine ziH hbw si (fun C s H fp => (hg C s H fp).choose_spec.2) (fun C s H fp => (ht C s H fp).choose_spec.2) (fun C s H fp => (he C s H fp).choose_spec.2) B G H σ ρ ds ρ2 _ I e4 fun G1 H1 l xs I1 f1 g1 h1 r1 b1 n1 => ?_
  obtain ⟨I2, f2, r2⟩ := zjJ I1 g1 h1 r1 b1 n1
  exact k _ H1 _ (I2.set r2) (f1.trans f2)
end
def dIsB : D -> D -> Option D
 | .bl a, .bl b => some (.bl (a == b))
 | _, _ => none
def zh6 : D -> D -> Option D
 | .bl a, .bl b => some (.bl (a != b))
 | _, _ => none
section
variable {X : Cx}
theorem op_notB : OpR X (compareOp .IsNot) (fun x y H Q => ∃ a b, x = .bl a /\ y = .bl b /\ Q (.bl (a != b)) H) := by
 intro pins s σ H x y v u Q I rx ry h
 obtain ⟨a, b, rfl, rfl, q⟩ := h
 cases rx
 cases ry
 exact isnot_bool (zkY I q rfl)
theorem v2_notB : V2 X (fun x y H Q => ∃ a b, x = .bl a /\ y = .bl b /\ Q (.bl (a != b)) H) zh6 := by
 intro B G H σ ρ x y a b d Q I ra rb hf k
 cases a <;> cases b <;> simp only [zh6] at hf <;> cases hf
 exact ⟨_, _, ra, rb, k G H _ I (Fz.refl G) rfl⟩
theorem bl_notB : ∀ x y d, zh6 x y = some d -> ∃ t, d = .bl t := by
 intro x y d hf
 cases x <;> cases y <;> simp only [zh6] at hf <;> cases hf
 exact ⟨_, rfl⟩
variable {a b : Expr} {ma mb : ME} {pos : Pos}
theorem zkO (ha : SE X a ma) (hb : SE X b mb) (hm : behindInMarks .IsNot b = false := by rfl) : STt X (.Compare a [.IsNot] [b] pos) (tTru (m2 zh6 ma mb)) := zfA op_notB v2_notB bl_notB ha hb hm
end
end M
namespace M
open L2 PySem
theorem zfG : ∀ {ds : List D} {ns : List Int}, zba ds = some ns -> ds = ns.map .int
 | [], _, h => by cases h; rfl
 | .int i :: ds, _, h => by
  obtain ⟨ms, e1, e2⟩ := zas h
  cases e2
  rw [zfG e1]; rfl
 | .non :: _, _, h => by cases h
 | .bl _ :: _, _, h => by cases h
 | .str _ :: _, _, h => by cases h
 | .lst _ :: _, _, h => by cases h
 | .tup _ :: _, _, h => by cases h
 | .scr _ :: _, _, h => by cases h
 | .exc _ :: _, _, h => by cases h
 | (.dic _ _) :: _, _, h => by cases h
 | (.dit _ _) :: _, _, h => by cases h
def sExt (i : Nat) (m : ME) : MS := fun ρ => if (ρ[i]?.bind Sl.items).isSome then (m ρ).bind fun p => p.2[i]?.bind fun s => s.items.bind fun ds => match p.1 with
 | .lst es => if ds.length + es.length <= 16777216 then some (.next, p.2.set i (s.put (ds ++ es))) else none
 | _ => none else none
section
variable {X : Cx} {e : Expr} {me : ME} {pos : Pos}
theorem ss_ext (i : Nat) {x : Str} {pos' apos cpos : Pos} (he : SE X e me) (hN : X.N[i]? = some x := by rfl) (hv : Vis X.env.scope x := by first | exact Or.inl rfl | exact Or.inr (Or.inl rfl) | exact Or.inr (Or.inr rfl)) (hd : (x == ("__debug__" : Str)) = false := by decide)
  (hcd : (x == ("__classdict__" : Str)) = false := by decide)
  (hbase : attributeBase (.Name x pos') "extend" X.env (eval (.Name x pos') X.env) = eval (.Name x pos') X.env := by rfl)
  (hfew : ((backTo cpos (starEach [e] X.env)).all (fun x => !x.1) && (backToKw cpos (keywordEach [] X.env)).all (fun x => x.1.isSome)
   && decide ([e].length + ([] : List Keyword).length + (if ([] : List Keyword).isEmpty then 0 else 1) < 30)) = true := by rfl)
  (hline : (apos.endLine == cpos.line) = true := by rfl) (hs : starEach [e] X.env = (false, eval e X.env) :: starEach [] X.env := by rfl) : SS X (.Expr (.Call (.Attribute (.Name x pos') "extend" apos) [e] [] cpos) pos) (sExt i me) := by
 obtain ⟨t, p, s⟩ := he
 refine ⟨_, zll (pe_bm PySem.F.plainAttrs_list PySem.F.slot_list_extend PySem.F.type_list_extend zlt (zbw hN hv hd hcd) (zdh p zgj hs) hbase hfew hline hs rfl) (by rfl), fun B G H σ ρ fl ρ' E I hm k => ?_⟩
 unfold sExt at hm
 split at hm
 ·rename_i hso
  obtain ⟨ds0, hso⟩ := Option.isSome_iff_exists.mp hso
  obtain ⟨s0, e0, q0⟩ := zad hso
  obtain ⟨l, xs0, h1, h2, h3, h4⟩ := I.wr e0 q0
  obtain ⟨⟨d, ρ1⟩, e1, hm⟩ := zad hm
  obtain ⟨s1, e2, hm⟩ := zad hm
  obtain ⟨ds, e3, hm⟩ := zad hm
  cases d with
  | lst es =>
   dsimp only at hm
   split at hm
   ·rename_i hl
    cases hm
    refine ⟨.ref l, h1, .inl ⟨rfl, _, SqL.of h3⟩, s B G H σ ρ (.lst es) ρ1 _ I e1 fun G1 H1 v I1 f1 r1 => ?_⟩
    obtain ⟨l', xs, k1, k2, k3, k4⟩ := I1.wr e2 e3
    rw [h1] at k1; cases k1
    obtain ⟨b, zs, rfl, hb, rb⟩ := r1
    refine ⟨l, b, xs, zs, rfl, rfl, k3, I1.fz _ _ hb, by rw [k4.length, rb.length, sizeLine_eq]; exact hl, ?_⟩
    exact k G1 _ σ (I1.write e2 e3 h1 (k4.append rb)) f1
   ·cases hm
  | _ => cases hm
 ·cases hm
end
end M
namespace M
open L2 PySem PySem.Spec
open PyProof.Rows hiding St
def iR2L (ma : MA) : MA := fun ρ => (ma ρ).bind fun p => match p.1 with
 | [.int i, .int j] => some (zcP i (j - i).toNat, p.2)
 | _ => none
theorem nn {α : Type} {o : Option α} {x : α} (e : o = some x) : o ≠ none := by rw [e]; exact fun z => by cases z
abbrev MX := R -> Option Str
def zfY (mc : MT) (mb : MS) : Nat -> MS
 | 0, _ => none
 | n + 1, ρ => (mc ρ).bind fun p => if p.1 then (mb p.2).bind fun q => match q.1 with
  | .next => zfY mc mb n q.2
  | .cont => zfY mc mb n q.2
  | .brk => some (.next, q.2)
  | .ret r => some (.ret r, q.2)
  else some (.next, p.2)
theorem ss_while {X : Cx} {c : Expr} {body : List Stmt} {mc : MT} {mb : MS} {pos : Pos} (fuel : Nat) (hp : PassesOwn (model X.prog X.w) X.A X.env X.xe) (hc : STt X c mc) (hb : SSs X body mb) : SS X (.While c body [] pos) (zfY mc mb fuel) := by
 obtain ⟨tc, pc, sc⟩ := hc
 obtain ⟨tb, pb, sb⟩ := hb
 refine ⟨_, ps_while hp pc pb, fun B G H σ ρ fl ρ' E I hm k => ?_⟩
 refine ⟨fun m σ' H' => ∃ G' ρ1, SI X.K B G' H' σ' ρ1 /\ Fz G G' /\ zfY mc mb m ρ1 = some (fl, ρ'), ⟨fuel, G, ρ, I, Fz.refl G, hm⟩, fun m σ1 H1 w => ?_⟩
 obtain ⟨G1, ρ1, I1, f1, e1⟩ := w
 cases m with
 | zero => cases e1
 | succ m =>
  obtain ⟨⟨b, ρ2⟩, e2, e1⟩ := zad e1
  refine sc B G1 H1 σ1 ρ1 b ρ2 _ I1 e2 fun G2 H2 I2 f2 => ?_
  dsimp only at e1
  cases b with
  | false =>
   rw [if_neg (by simp)] at e1 ⊢
   cases e1
   exact k G2 H2 σ1 I2 (f1.trans f2)
  | true =>
   rw [if_pos rfl] at e1 ⊢
   obtain ⟨⟨f, ρ3⟩, e3, e1⟩ := zad e1
   refine ⟨fun σ' H' => ∃ G' ρ1, SI X.K B G' H' σ' ρ1 /\ Fz G G' /\ zfY mc mb m ρ1 = some (fl, ρ'), fun σ' H' h => ⟨m, Nat.lt_succ_self m, h⟩, ?_⟩
   refine sb B G2 H2 σ1 ρ2 f ρ3 _ I2 e3 ?_
   have ff := f1.trans f2
   cases f with
   | next => exact fun G' H' σ' I3 f3 => ⟨G', ρ3, I3, ff.trans f3, e1⟩
   | cont => exact fun G' H' σ' I3 f3 => ⟨G', ρ3, I3, ff.trans f3, e1⟩
   | brk => cases e1; exact fun G' H' σ' I3 f3 => k G' H' σ' I3 (ff.trans f3)
   | ret r => cases e1; exact fun G' H' σ' v I3 f3 rr => k G' H' σ' v I3 (ff.trans f3) rr
end M
namespace M
open L2 PySem
def zdw : Sl -> Sl -> Bool
 | .own ds, .own es => match zba ds, zba es with
  | some a, some b => a == b
  | _, _ => false
 | .par ds, .par es => match zba ds, zba es with
  | some a, some b => a == b
  | _, _ => false
 | .own _, _ => false
 | .par _, _ => false
 | .tre _, _ => false
 | .ptr _, _ => false
 | _, _ => true
theorem ziK {ds es : List D} (h : (match zba ds, zba es with
  | some a, some b => a == b
  | _, _ => false) = true) : ∃ ns : List Int, ds = ns.map .int /\ es = ns.map .int := by
 cases a : zba ds with
 | none => rw [a] at h; cases h
 | some x =>
  cases b : zba es with
  | none => rw [a, b] at h; cases h
  | some y =>
   rw [a, b] at h
   have e : x = y := by simpa using h
   subst e
   exact ⟨x, zfG a, zfG b⟩
end M
namespace M
open L2 PySem PySem.Spec
open PyProof.Rows hiding St
def Sl.putT (s : Sl) (t : T) : Sl := match s with
 | .tre _ => .tre t
 | .ptr _ => .ptr t
 | s => s
def Sl.tree : Sl -> Option T
 | .tre t => some t
 | .ptr t => some t
 | _ => none
section
variable {K : W.Frag} {B : Bs} {G G' H H' : Hp} {σ : St} {ρ : R}
theorem zj3 {s : Sl} {t : T} (q : s.tree = some t) {ov : Option (Option V)} {a : Addr} : OwS K G H ov a s ↔ ∃ v A, ov = some (some v) /\ RepT K G H v t A /\ a ∈ A := by
 cases s with
 | tre _ => cases q; exact Iff.rfl
 | ptr _ => cases q; exact Iff.rfl
 | _ => cases q
theorem zkQ {s : Sl} {t : T} (q : s.tree = some t) (t' : T) : (s.putT t').tree = some t' := by
 cases s with
 | tre _ => rfl
 | ptr _ => rfl
 | _ => cases q
theorem SI.tree (I : SI K B G H σ ρ) {i : Nat} {s : Sl} {t : T} (e : ρ[i]? = some s) (q : s.tree = some t) : ∃ v A, σ[i]? = some (some v) /\ RepT K G H v t A /\ A.Nodup /\ (∀ a ∈ A, G a = none) /\ ∀ a ∈ A, B.H a = none \/ (i, a) ∈ B.O := by
 have h := I.slot i s e
 cases s with
 | tre _ => cases q; obtain ⟨v, A, h1, h2, h3, h4⟩ := h; exact ⟨v, A, h1, h2, h3, fun a m => (h4 a m).1, fun a m => .inl (h4 a m).2⟩
 | ptr _ => cases q; obtain ⟨v, A, h1, h2, h3, h4⟩ := h; exact ⟨v, A, h1, h2, h3, fun a m => (h4 a m).1, fun a m => (h4 a m).2⟩
 | _ => cases q
theorem SI.chT (I : SI K B G H σ ρ) {i : Nat} {s : Sl} {t t' : T} {v : V} {A A' : List Addr} (e : ρ[i]? = some s) (q : s.tree = some t) (hv : σ[i]? = some (some v)) (r : RepT K G H v t A) (fz : Fz G H') (kp : ∀ b o, b ∉ A -> H b = some o -> H' b = some o) (th : ∀ b, H' b = none -> H b = none)
  (r' : RepT K G H' v t' A') (nd : A'.Nodup) (sub : ∀ a ∈ A', a ∈ A \/ H a = none) : SI K B G H' σ (ρ.set i (s.putT t')) := by
 obtain ⟨v1, A1, h1, h2, h3, h4, h5⟩ := I.tree e q
 rw [hv] at h1; cases h1
 have : A1 = A := h2.det r fun _ _ => rfl
 subst this
 have g' : ∀ a ∈ A', G a = none := fun a m => by
  rcases sub a m with z | z
  ·exact h4 a z
  ·exact I.fz.free z
 have b' : ∀ a ∈ A', B.H a = none \/ (i, a) ∈ B.O := fun a m => by
  rcases sub a m with z | z
  ·exact h5 a z
  ·exact .inl (I.there a z)
 have h := I.chg (i := i) (ov := some v) (s' := s.putT t') (G' := G) (H' := H') fz (Fz.refl G) I.new (fun b o k1 k2 => kp b o (fun m => ?_) (I.keep b o k1 k2)) (fun b k => I.there b (th b k)) (fun j u a z ej w g ha => ?_) ?_
 ·rwa [zgp hv] at h
 ·rcases h5 b m with z | z
  ·rw [k1] at z; cases z
  ·exact k2 i z
 ·have na : a ∉ A1 := fun m => I.dis j i u s a z ej e w ((zj3 q).mpr ⟨v, A1, hv, h2, m⟩)
  obtain ⟨x, hx⟩ := Option.ne_none_iff_exists'.mp ha
  refine ⟨g, (kp a x na hx).trans hx.symm, fun w' => ?_⟩
  obtain ⟨v2, A2, k1, k2, k3⟩ := (zj3 (zkQ q t')).mp w'
  cases k1
  rw [k2.det r' fun _ _ => rfl] at k3
  rcases sub a k3 with z | z
  ·exact na z
  ·exact ha z
 ·have sl := I.slot i s e
  cases s with
  | tre _ =>
   obtain ⟨v2, A2, k1, k2, k3, k4⟩ := sl
   rw [hv] at k1; cases k1
   cases q
   have : A2 = A1 := k2.det h2 fun _ _ => rfl
   subst this
   refine ⟨v, A', rfl, r', nd, fun a m => ⟨g' a m, ?_⟩⟩
   rcases sub a m with z | z
   ·exact (k4 a z).2
   ·exact I.there a z
  | ptr _ => exact ⟨v, A', rfl, r', nd, fun a m => ⟨g' a m, b' a m⟩⟩
  | _ => cases q
theorem SI.setT (I : SI K B G H σ ρ) {i : Nat} {v : V} {t : T} {A : List Addr} (r : RepT K G H v t A) (nd : A.Nodup) (hA : ∀ a ∈ A, G a = none /\ B.H a = none /\ Nw K G H σ ρ a) : SI K B G H (σ.set i (some v)) (ρ.set i (.tre t)) :=
 I.chg I.fz (Fz.refl G) I.new I.keep I.there (fun j s a _ e w g _ => ⟨g, rfl, fun ⟨v2, A2, k1, k2, k3⟩ => by
  cases k1
  rw [k2.det r fun _ _ => rfl] at k3
  exact (hA a k3).2.2 j s e w⟩) ⟨v, A, rfl, r, nd, fun a m => ⟨(hA a m).1, (hA a m).2.1⟩⟩
open Classical in
end
section
variable {J κ : Type} [DecidableEq J] [DecidableEq κ]
def lkD : List J -> List D -> J -> Option D
 | k :: ks, d :: ds, j => if k = j then some d else lkD ks ds j
 | _, _, _ => none
def ptD (ks : List J) (ds : List D) (j : J) (d : D) : List J × List D := if ks.contains j then (ks, List.zipWith (fun k x => if k = j then d else x) ks ds) else (ks ++ [j], ds ++ [d])
variable {K : W.Frag} {G : Hp} {em : J -> κ}
theorem zl7 (inj : ∀ a b, em a = em b -> a = b) : ∀ {ks : List J} {ds : List D} {ys : List (κ × V)} {j : J} {d : D}, ys.map (·.1) = ks.map em -> RepL K G (ys.map (·.2)) ds -> lkD ks ds j = some d -> ∃ v, valV ys (em j) = some v /\ RepD K G v d
 | [], _, _, _, _, _, _, h => by cases h
 | _ :: _, [], _, _, _, _, _, h => by cases h
 | k :: ks, x :: ds, [], j, d, e, _, _ => by cases e
 | k :: ks, x :: ds, y :: ys, j, d, e, ⟨z, zs, e1, r1, r2⟩, h => by
  cases e1
  have e2 := List.cons.inj e
  unfold lkD at h
  by_cases q : k = j
  ·rw [if_pos q] at h; cases h
   subst q
   exact ⟨y.2, zhE e2.1, r1⟩
  ·rw [if_neg q] at h
   obtain ⟨v, h1, h2⟩ := zl7 inj e2.2 r2 h
   refine ⟨v, ?_, h2⟩
   rw [zgf fun z => q (inj _ _ (e2.1.symm.trans z)), h1]
theorem zkW (inj : ∀ a b, em a = em b -> a = b) : ∀ {ks : List J} {ds : List D} {ys : List (κ × V)} {j : J}, ys.map (·.1) = ks.map em -> RepL K G (ys.map (·.2)) ds -> lkD ks ds j = none -> valV ys (em j) = none
 | [], _, [], _, _, _, _ => rfl
 | [], _, _ :: _, _, e, _, _ => by cases e
 | _ :: _, _, [], _, e, _, _ => by cases e
 | k :: ks, [], y :: ys, _, _, r, _ => by cases r
 | k :: ks, x :: ds, y :: ys, j, e, ⟨z, zs, e1, r1, r2⟩, h => by
  cases e1
  have e2 := List.cons.inj e
  unfold lkD at h
  by_cases q : k = j
  ·rw [if_pos q] at h; cases h
  ·rw [if_neg q] at h
   rw [zgf fun z => q (inj _ _ (e2.1.symm.trans z)), zkW inj e2.2 r2 h]
theorem pt_rep (inj : ∀ a b, em a = em b -> a = b) {ks : List J} {ds : List D} {ys : List (κ × V)} {j : J} {v : V} {d : D} (e : ys.map (·.1) = ks.map em) (r : RepL K G (ys.map (·.2)) ds) (rv : RepD K G v d) :
  (putK ys (em j) v).map (·.1) = (ptD ks ds j d).1.map em /\ RepL K G ((putK ys (em j) v).map (·.2)) (ptD ks ds j d).2 := by
 have any : (ys.any fun kv => decide (kv.1 = em j)) = ks.contains j := by
  clear r
  induction ys generalizing ks with
  | nil => cases ks with
   | nil => rfl
   | cons _ _ => cases e
  | cons y ys ih => cases ks with
   | nil => cases e
   | cons k ks =>
    have e2 := List.cons.inj e
    rw [List.any_cons, ih e2.2, List.contains_cons]
    congr 1
    by_cases q : j = k
    ·subst q; simp [e2.1]
    ·rw [decide_eq_false (fun z => q (inj _ _ (e2.1.symm.trans z)).symm)]
     simp [q]
 unfold putK ptD
 rw [any]
 by_cases q : ks.contains j = true
 ·rw [if_pos q, if_pos q]
  constructor
  ·rw [List.map_map, <- e]
   apply List.map_congr_left
   intro a _
   simp only [Function.comp]
   split <;> rfl
  ·clear any q
   rw [List.map_map]
   induction ys generalizing ks ds with
   | nil => cases ks with
    | nil => exact RepL.nil
    | cons _ _ => cases e
   | cons y ys ih => cases ks with
    | nil => cases e
    | cons k ks =>
     have e2 := List.cons.inj e
     cases ds with
     | nil => cases r
     | cons x ds =>
      obtain ⟨z, zs, e1, r1, r2⟩ := r
      cases e1
      refine RepL.cons ?_ (ih e2.2 r2)
      simp only [Function.comp]
      by_cases q : k = j
      ·rw [if_pos q, if_pos (by rw [<- q]; exact e2.1)]; exact rv
      ·rw [if_neg q, if_neg fun z => q (inj _ _ (e2.1.symm.trans z))]; exact r1
 ·rw [if_neg q, if_neg q]
  rw [List.map_append, List.map_append, List.map_append, e]
  exact ⟨rfl, r.append (.cons rv .nil)⟩
end
theorem kI_inj (a b : Int) (h : kI a = kI b) : a = b := by cases h; rfl
theorem ziX (a b : List Int) (h : a.map kI = b.map kI) : a = b := by
 induction a generalizing b with
 | nil => cases b with
  | nil => rfl
  | cons _ _ => cases h
 | cons x a ih => cases b with
  | nil => cases h
  | cons y b =>
   have := List.cons.inj h
   rw [kI_inj _ _ this.1, ih b this.2]
def Sl.dic : Sl -> Option (List Int × List D)
 | .tre (.dic ks ds) => some (ks, ds)
 | .ptr (.dic ks ds) => some (ks, ds)
 | .val (.dic ks ds) => some (ks, ds)
 | _ => none
def tDI (j : Nat) (neg : Bool) (mk : ME) : MT := fun ρ => (mk ρ).bind fun p => match p.1 with
 | .int k => (p.2[j]?.bind Sl.dic).map fun q => (((lkD q.1 q.2 k).isSome != neg), p.2)
 | _ => none
def fzD (j : Nat) (ρ : R) : R := match ρ[j]? with
 | some (.tre (.dic ks ds)) => ρ.set j (.val (.dic ks ds))
 | _ => ρ
def Ch.sl : Ch -> Sl
 | .d x => .val x
 | .l ds => .own ds
 | .t xss => .tre (.lst (xss.map .l))
theorem tb_cs {K : W.Frag} {G H : Hp} : ∀ {xs : List V} {dss : List (List D)} {A : List Addr}, RepTb K G H xs dss A -> RepCs K G H xs (dss.map .l) A
 | [], [], _, h => h
 | x :: xs, ds :: dss, _, ⟨r, ys, A2, e1, e2, e3, e4, e5⟩ => ⟨[r], A2, ⟨r, ys, e1, e2, e3, rfl⟩, tb_cs e4, e5⟩
 | [], _ :: _, _, h => h.elim
 | _ :: _, [], _, h => h.elim
theorem cs_tb {K : W.Frag} {G H : Hp} : ∀ {xs : List V} {dss : List (List D)} {A : List Addr}, RepCs K G H xs (dss.map .l) A -> RepTb K G H xs dss A
 | [], [], _, h => h
 | x :: xs, ds :: dss, _, ⟨A1, A2, ⟨r, ys, e1, e2, e3, e6⟩, e4, e5⟩ => ⟨r, ys, A2, e1, e2, e3, cs_tb e4, by rw [e5, e6]; rfl⟩
 | [], _ :: _, _, h => h.elim
 | _ :: _, [], _, h => h.elim
def putCs : List Nat -> List Ch -> R -> R
 | i :: is, c :: cs, ρ => putCs is cs (ρ.set i c.sl)
 | _, _, ρ => ρ
def sUnT (j : Nat) (is : List Nat) : MS := fun ρ => match ρ[j]? with
 | some (.tre (.lst cs)) => if cs.length = is.length then some (.next, putCs is cs (ρ.set j .emp)) else none
 | _ => none
end M
namespace M
open L2 PySem PySem.Spec
open PyProof.Rows hiding St
open Classical in
def fMT (N : Nat) (m : MS) : List D -> T -> List D -> Option (Sl × List D) := fun cs t ds => (m (.par cs :: .tre t :: (ds.map .val ++ List.replicate (N - (ds.length + 2)) .emp))).bind fun p => match p.1, (p.2[0]? : Option Sl) with
 | Fl.ret r, some (Sl.par out) => some (r, out)
 | Fl.next, some (Sl.par out) => some (.val .non, out)
 | _, _ => none
abbrev MP' := R -> Option (List Ch × R)
end M
namespace M
open L2 PySem PySem.Spec
open PyProof.Rows hiding St
def Ch.D : Ch -> M.D
 | .d x => x
 | .l ds => .lst ds
 | .t xss => .lst (xss.map .lst)
section
variable {K : W.Frag} {B : Bs} {G G' H H' : Hp} {σ : St} {ρ : R}
theorem zfl : ∀ {xs : List V} {cs : List Ch} {A : List Addr}, RepCs K G H xs cs A -> xs.length = cs.length
 | [], [], _, _ => rfl
 | _ :: _, _ :: _, _, ⟨_, _, _, r, _⟩ => by rw [List.length_cons, List.length_cons, zfl r]
 | [], _ :: _, _, h => h.elim
 | _ :: _, [], _, h => h.elim
theorem zd5 : ∀ {xs : List V} {cs : List Ch} {A : List Addr} {n : Nat} {c : Ch}, RepCs K G H xs cs A -> cs[n]? = some c -> ∃ x A1, xs[n]? = some x /\ RepC K G H x c A1 /\ ∀ a ∈ A1, a ∈ A
 | [], [], _, _, _, _, h => by simp at h
 | x :: xs, d :: cs, _, 0, c, ⟨A1, A2, r1, r2, e⟩, h => by simp at h; subst h; exact ⟨x, A1, rfl, r1, fun a m => by rw [e]; exact List.mem_append_left _ m⟩
 | x :: xs, d :: cs, _, n + 1, c, ⟨A1, A2, r1, r2, e⟩, h => by
  obtain ⟨y, B1, h1, h2, h3⟩ := zd5 (n := n) r2 (by simpa using h)
  exact ⟨y, B1, by simpa using h1, h2, fun a m => by rw [e]; exact List.mem_append_right _ (h3 a m)⟩
 | [], _ :: _, _, _, _, h, _ => h.elim
 | _ :: _, [], _, _, _, h, _ => h.elim
theorem zgE : ∀ {xs : List V} {cs : List Ch} {A : List Addr} {n : Nat} {ds es : List D} {l : Addr} {ys : List V}, RepCs K G H xs cs A -> A.Nodup -> cs[n]? = some (.l ds) -> xs[n]? = some (.ref l) -> RepL K G ys es -> RepCs K G (upd H l (.lst ys)) xs (cs.set n (.l es)) A
 | [], [], _, _, _, _, _, _, _, _, h, _, _ => by simp at h
 | x :: xs, d :: cs, A, 0, ds, es, l, ys, ⟨A1, A2, r1, r2, e⟩, nd, h, hx, r => by
  simp at h hx; subst h hx
  obtain ⟨l', zs, e1, e2, e3, rfl⟩ := r1
  cases e1
  rw [e] at nd
  refine ⟨[l], A2, ⟨l, ys, rfl, zar, r, rfl⟩, r2.move (Fz.refl G) fun a m => zam fun z => ?_, e⟩
  subst z
  exact (List.nodup_append.mp nd).2.2 a (by simp) a m rfl
 | x :: xs, d :: cs, A, n + 1, ds, es, l, ys, ⟨A1, A2, r1, r2, e⟩, nd, h, hx, r => by
  rw [e] at nd
  have nd' := List.nodup_append.mp nd
  have h' : cs[n]? = some (.l ds) := by simpa using h
  have hx' : xs[n]? = some (.ref l) := by simpa using hx
  obtain ⟨y, B1, h1, ⟨l', zs, e1, e2, e3, e4⟩, h3⟩ := zd5 r2 h'
  rw [hx'] at h1; cases h1; cases e1
  have lA : l ∈ A2 := h3 l (by rw [e4]; simp)
  exact ⟨A1, A2, r1.move (Fz.refl G) fun a m => zam fun z => by subst z; exact nd'.2.2 a m a lA rfl, zgE r2 nd'.2.1 h' hx' r, e⟩
 | [], _ :: _, _, _, _, _, _, _, h, _, _, _, _ => h.elim
 | _ :: _, [], _, _, _, _, _, _, h, _, _, _, _ => h.elim
theorem zjz {Gz : Hp} (fg : Fz G Gz) : ∀ {xs : List V} {dss : List (List D)} {A : List Addr}, RepTb K G H xs dss A -> (∀ a ∈ A, Gz a = H a) -> RepL K Gz xs (dss.map .lst)
 | [], [], _, _, _ => rfl
 | x :: xs, ds :: dss, _, ⟨r, ys, A2, e1, e2, e3, e4, e5⟩, h => ⟨x, xs, rfl, ⟨r, ys, e1, by rw [h r (by rw [e5]; simp)]; exact e2, e3.mono fg⟩, zjz fg e4 fun a m => h a (by rw [e5]; simp [m])⟩
 | [], _ :: _, _, h, _ => h.elim
 | _ :: _, [], _, h, _ => h.elim
theorem zfw {Gz : Hp} (fg : Fz G Gz) : ∀ {xs : List V} {cs : List Ch} {A : List Addr}, RepCs K G H xs cs A -> (∀ a ∈ A, Gz a = H a) -> RepL K Gz xs (cs.map Ch.D)
 | [], [], _, _, _ => rfl
 | x :: xs, .d y :: cs, _, ⟨A1, A2, r1, r2, e⟩, h => ⟨x, xs, rfl, r1.1.mono fg, zfw fg r2 fun a m => h a (by rw [e]; exact List.mem_append_right _ m)⟩
 | x :: xs, .l ds :: cs, _, ⟨A1, A2, ⟨l, ys, e1, e2, e3, e4⟩, r2, e⟩, h => ⟨x, xs, rfl, ⟨l, ys, e1, by rw [h l (by rw [e, e4]; simp)]; exact e2, e3.mono fg⟩, zfw fg r2 fun a m => h a (by rw [e]; exact List.mem_append_right _ m)⟩
 | x :: xs, .t xss :: cs, _, ⟨A1, A2, ⟨p, ys, A3, e1, e2, e3, e4⟩, r2, e⟩, h => ⟨x, xs, rfl, ⟨p, ys, e1, by rw [h p (by rw [e, e4]; simp)]; exact e2, zjz fg e3 fun a m => h a (by rw [e, e4]; simp [m])⟩, zfw fg r2 fun a m => h a (by rw [e]; exact List.mem_append_right _ m)⟩
 | [], _ :: _, _, h, _ => h.elim
 | _ :: _, [], _, h, _ => h.elim
theorem SI.chT2 (I : SI K B G H σ ρ) {i : Nat} {t t' : T} {v : V} {A A' : List Addr} (e : ρ[i]? = some (.tre t)) (hv : σ[i]? = some (some v)) (r : RepT K G H v t A) (fz : Fz G H') (kp : ∀ b o, b ∉ A -> H b = some o -> H' b = some o) (th : ∀ b, H' b = none -> H b = none)
  (r' : RepT K G H' v t' A') (nd : A'.Nodup) (sub : ∀ a ∈ A', a ∈ A \/ (G a = none /\ B.H a = none /\ Nw K G H σ ρ a)) : SI K B G H' σ (ρ.set i (.tre t')) := by
 obtain ⟨v1, A1, h1, h2, h3, h4⟩ := I.slot i _ e
 rw [hv] at h1; cases h1
 have : A1 = A := h2.det r fun _ _ => rfl
 subst this
 have h := I.chg (i := i) (ov := some v) (s' := .tre t') (G' := G) (H' := H') fz (Fz.refl G) I.new (fun b o k1 k2 => kp b o (fun m => by rw [(h4 b m).2] at k1; cases k1) (I.keep b o k1 k2)) (fun b k => I.there b (th b k)) (fun j u a z ej w g ha => ?_) ⟨v, A', rfl, r', nd, fun a m => ?_⟩
 ·rwa [zgp hv] at h
 ·have na : a ∉ A1 := fun m => I.dis j i u _ a z ej e w ⟨v, A1, hv, h2, m⟩
  obtain ⟨x, hx⟩ := Option.ne_none_iff_exists'.mp ha
  refine ⟨g, (kp a x na hx).trans hx.symm, fun w' => ?_⟩
  obtain ⟨v2, A2, k1, k2, k3⟩ := w'
  cases k1
  rw [k2.det r' fun _ _ => rfl] at k3
  rcases sub a k3 with z | z
  ·exact na z
  ·exact z.2.2 j u ej w
 ·rcases sub a m with z | z
  ·exact h4 a z
  ·exact ⟨z.1, z.2.1⟩
theorem nw_emp (I : SI K B G H σ ρ) {i : Nat} {s : Sl} {a : Addr} (e : ρ[i]? = some s) (w : OwS K G H σ[i]? a s) : Nw K G H σ (ρ.set i .emp) a := fun j t ej w' => by
 by_cases z : j = i
 ·subst z
  rw [List.getElem?_set, if_pos rfl] at ej
  split at ej
  ·cases ej; exact w'
  ·cases ej
 ·rw [List.getElem?_set_ne (Ne.symm z)] at ej
  exact I.dis j i t s a z ej e w' w
open Classical in
def frA (G H : Hp) (A : List Addr) : Hp := fun b => if b ∈ A then H b else G b
theorem zgP {G H : Hp} {A : List Addr} {b : Addr} (h : b ∈ A) : frA G H A b = H b := by unfold frA; rw [if_pos h]
theorem zhU {G H : Hp} {A : List Addr} {b : Addr} (h : b ∉ A) : frA G H A b = G b := by unfold frA; rw [if_neg h]
theorem zkN {G H : Hp} {A : List Addr} (hA : ∀ a ∈ A, G a = none) : Fz G (frA G H A) := fun b o e => by
 rw [zhU fun m => by rw [hA b m] at e; cases e]; exact e
theorem SI.frzA (I : SI K B G H σ ρ) {A : List Addr} (hA : ∀ a ∈ A, G a = none /\ B.H a = none /\ Nw K G H σ ρ a) : SI K B (frA G H A) H σ ρ :=
 I.move (fun a u q => by
  by_cases m : a ∈ A
  ·rw [zgP m] at q; exact q
  ·rw [zhU m] at q; exact I.fz a u q) (zkN fun a m => (hA a m).1) (fun b u q => by
  by_cases m : b ∈ A
  ·exact .inr (hA b m).2.1
  ·rw [zhU m] at q; exact I.new b u q) I.keep I.there (fun i s a e w g _ => ⟨by rw [zhU fun m => (hA a m).2.2 i s e w]; exact g, rfl⟩)
end
def sTA (i j : Nat) : MS := fun ρ => match ρ[i]?, ρ[j]? with
 | some (.tre (.lst cs)), some (.own ds) => if cs.length < 16777216 then some (.next, (ρ.set j .emp).set i (.tre (.lst (cs ++ [.l ds])))) else none
 | _, _ => none
def sRT (i : Nat) : MS := fun ρ => match ρ[i]? with
 | some (.tre t) => some (.ret (.tre t), ρ.set i .emp)
 | _ => none
def zl9 (F : List D -> Option Sl) (ma : MA) : ME := fun ρ => (ma ρ).bind fun p => (F p.1).bind fun r => match r with
 | .tre (.lst cs) => some (.lst (cs.map Ch.D), p.2)
 | _ => none
abbrev MQ := R -> Option D
def SQ (X : Cx) (e : Expr) (m : MQ) : Prop :=
 ∃ t, PE X e t /\ ∀ B G H σ ρ d (Q : VK), SI X.K B G H σ ρ -> m ρ = some d -> (∀ v, RepD X.K G v d -> Q v H) -> t σ H Q
def qV (i : Nat) : MQ := fun ρ => match ρ[i]? with
 | some (.val d) => some d
 | _ => none
def eTI (j : Nat) (mi mk : MQ) : ME := fun ρ => (mi ρ).bind fun a => (mk ρ).bind fun b => match a, b, ρ[j]? with
 | .int n, .int m, some (.tre (.lst cs)) => (atI cs n).bind fun c => match c with
  | .l ds => (atI ds m).map fun d => (d, ρ)
  | _ => none
 | _, _, _ => none
def sTP (j : Nat) (mi mk : MQ) (me : ME) : MS := fun ρ => (me ρ).bind fun p => (mi p.2).bind fun a => (mk p.2).bind fun b => match a, b, p.2[j]? with
 | .int n, .int m, some (.tre (.lst cs)) => (ixN cs.length n).bind fun u => match cs[u]? with
  | some (.l ds) => (ixN ds.length m).bind fun w => some (.next, p.2.set j (.tre (.lst (cs.set u (.l (ds.set w p.1))))))
  | _ => none
 | _, _, _ => none
def fzT (j : Nat) (ρ : R) : R := match ρ[j]? with
 | some (.tre (.lst cs)) => ρ.set j (.val (.lst (cs.map Ch.D)))
 | _ => ρ
section
variable {X : Cx} {x y : Str} {pos p' q' tpos : Pos}
theorem ss_retT (i : Nat) (hN : X.N[i]? = some x := by rfl) (hv : Vis X.env.scope x := by first | exact Or.inl rfl | exact Or.inr (Or.inl rfl) | exact Or.inr (Or.inr rfl)) (hd : (x == ("__debug__" : Str)) = false := by decide)
  (hcd : (x == ("__classdict__" : Str)) = false := by decide) : SS X (.Return (some (.Name x p')) pos) (sRT i) := by
 refine ⟨_, ziI (zbw hN hv hd hcd), fun B G H σ ρ fl ρ' E I hm k => ?_⟩
 unfold sRT at hm
 split at hm
 ·rename_i t e
  cases hm
  obtain ⟨v, A, h1, h2, h3, h4⟩ := I.slot i _ e
  exact ⟨v, h1, k G H σ v (I.emp i) (Fz.refl G) ⟨A, h2, h3, h4⟩⟩
 ·cases hm
variable {e : Expr} {es : List Expr} {ma : MA} {k k' n : Nat} {F : List D -> Option Sl}
theorem se_callT {z : Str} {p : Pos} (fd : FD X.prog X.w X.K X.mg X.base k z (spP X.K n F)) (hr : Room k' X.A) (ha : SA X (e :: es) ma) (hlen : ∀ ρ as ρ', ma ρ = some (as, ρ') -> as.length = n) (hk : k <= k' := by decide) (hg : Gl X z := by rfl) (hdb : (z == ("__debug__" : Str)) = false := by decide)
  (he : starEach (e :: es) X.env = (false, eval e X.env) :: starEach es X.env := by rfl) (hpl : (backTo pos (starEach es X.env)).any (·.1) = false := by rfl) : SE X (.Call (.Name z p) (e :: es) [] pos) (zl9 F ma) := by
 obtain ⟨f, fdd, ps, G0, h1, h2, h3⟩ := fd.ex
 obtain ⟨t, pa, sa⟩ := ha
 refine ⟨_, zgV G0 (hr.mono hk) hg h1 h2 h3 .nil zlc pa hdb he hpl, fun B G H σ ρ d ρ' Q I hm kk => ?_⟩
 obtain ⟨⟨as, ρ1⟩, e1, hm⟩ := zad hm
 obtain ⟨r, e2, hm⟩ := zad hm
 refine sa B G H σ ρ as ρ1 _ I e1 fun G1 H1 vs I1 f1 r1 => ?_
 show spP X.K n F (vs ++ []) H1 Q E0
 rw [List.append_nil]
 refine ⟨G1, as, r, e2, hlen ρ as ρ1 e1, I1.fz, r1, fun G2 H2 v f2 fz2 nw kp rr => ?_⟩
 have I2 := I1.grow f2 fz2 nw kp
 split at hm
 ·rename_i cs
  cases hm
  obtain ⟨A, q1, q2, q3⟩ := rr
  have hA : ∀ a ∈ A, G2 a = none /\ B.H a = none /\ Nw X.K G2 H2 σ ρ1 a := fun a m => ⟨(q3 a m).1, I1.there a (q3 a m).2, I1.own_ne (q3 a m).2 nw kp⟩
  obtain ⟨p, xs, A', rfl, g1, g2, rfl⟩ := q1
  have fg := zkN (H := H2) fun a m => (hA a m).1
  exact kk (frA G2 H2 (p :: A')) H2 _ (I2.frzA hA) (f1.trans (f2.trans fg)) ⟨p, xs, rfl, by rw [zgP (by simp)]; exact g1, zfw fg g2 fun a m => zgP (by simp [m])⟩
 ·cases hm
theorem zbc (i : Nat) (hN : X.N[i]? = some x := by rfl) (hv : Vis X.env.scope x := by first | exact Or.inl rfl | exact Or.inr (Or.inl rfl) | exact Or.inr (Or.inr rfl)) (hd : (x == ("__debug__" : Str)) = false := by decide)
  (hcd : (x == ("__classdict__" : Str)) = false := by decide) : SQ X (.Name x pos) (qV i) := by
 refine ⟨_, zbw hN hv hd hcd, fun B G H σ ρ d Q I hm k => ?_⟩
 unfold qV at hm
 split at hm
 ·rename_i d' e
  cases hm
  obtain ⟨v, h1, h2⟩ := I.slot i _ e
  exact ⟨v, h1, k v h2⟩
 ·cases hm
theorem at_ixN {α : Type} {xs : List α} {n : Int} {c : α} (h : atI xs n = some c) : ∃ u, ixN xs.length n = some u /\ xs[u]? = some c := by
 unfold atI at h
 obtain ⟨u, h1, h2⟩ := zad h
 exact ⟨u, h1, h2⟩
theorem zjA {α : Type} {xs : List α} {n : Int} {c : α} {u : Nat} (h : ixN xs.length n = some u) (h2 : xs[u]? = some c) : atI xs n = some c := by
 unfold atI; rw [h]; exact h2
variable {a b : Expr} {mi mk : MQ}
theorem zjC (j : Nat) (ha : SQ X a mi) (hb : SQ X b mk) (hN : X.N[j]? = some x := by rfl) (hv : Vis X.env.scope x := by first | exact Or.inl rfl | exact Or.inr (Or.inl rfl) | exact Or.inr (Or.inr rfl)) (hd : (x == ("__debug__" : Str)) = false := by decide)
    (hcd : (x == ("__classdict__" : Str)) = false := by decide) (hs : zdX a := by exact fun _ _ => rfl) (hs2 : zdX b := by exact fun _ _ => rfl) : SE X (.Subscript (.Subscript (.Name x p') a q') b pos) (eTI j mi mk) := by
  obtain ⟨ta, pa, sa⟩ := ha
  obtain ⟨tb, pb, sb⟩ := hb
  refine ⟨_, zkA ix_list (zkA ix_list (zbw hN hv hd hcd) pa hs) pb hs2, fun B G H σ ρ d ρ' Q I hm k => ?_⟩
  obtain ⟨va, e1, hm⟩ := zad hm
  obtain ⟨vb, e2, hm⟩ := zad hm
  obtain ⟨n, rfl⟩ : ∃ n, va = .int n := by cases va <;> first | exact ⟨_, rfl⟩ | cases hm
  obtain ⟨m, rfl⟩ : ∃ m, vb = .int m := by cases vb <;> first | exact ⟨_, rfl⟩ | cases hm
  obtain ⟨cs, e⟩ : ∃ cs, ρ[j]? = some (.tre (.lst cs)) := by
    cases e : ρ[j]? with
    | none => rw [e] at hm; cases hm
    | some s =>
      rw [e] at hm
      cases s with
      | tre t => cases t with
        | lst cs => exact ⟨cs, rfl⟩
        | _ => cases hm
      | _ => cases hm
  rw [e] at hm
  obtain ⟨c, e3, hm⟩ := zad hm
  obtain ⟨ds, rfl⟩ : ∃ ds, c = .l ds := by cases c <;> first | exact ⟨_, rfl⟩ | cases hm
  obtain ⟨d', e4, e5⟩ := zas hm
  cases e5
  obtain ⟨v, A, h1, ⟨p, xs, A', rfl, g1, g2, rfl⟩, h3, h4⟩ := I.slot j _ e
  obtain ⟨u, i1, i2⟩ := at_ixN e3
  obtain ⟨y, A1, j1, ⟨l, ys, rfl, j2, j3, -⟩, -⟩ := zd5 g2 i2
  obtain ⟨w, k1, k2⟩ := j3.at e4
  refine ⟨.ref p, h1, sa B G H σ ρ _ _ I e1 fun v1 r1 => ?_⟩
  refine ⟨p, xs, n, .ref l, rfl, r1, SqL.of g1, zjA (by rw [zfl g2]; exact i1) j1, sb B G H σ ρ _ _ I e2 fun v2 r2 => ?_⟩
  exact ⟨l, ys, m, w, rfl, r2, SqL.of j2, k1, k G H w I (Fz.refl G) k2⟩
theorem zfM (j : Nat) {me : ME} (he : SE X e me) (ha : SQ X a mi) (hb : SQ X b mk) (hN : X.N[j]? = some x := by rfl) (hv : Vis X.env.scope x := by first | exact Or.inl rfl | exact Or.inr (Or.inl rfl) | exact Or.inr (Or.inr rfl)) (hd : (x == ("__debug__" : Str)) = false := by decide)
  (hcd : (x == ("__classdict__" : Str)) = false := by decide) (hsa : zdX a := by exact fun _ _ => rfl)
  (hq : ∀ v, assign (.Subscript (.Subscript (.Name x p') a q') b tpos) X.env v = (do
   let ov <- holding [v] (eval (.Subscript (.Name x p') a q') X.env)
   let iv <- holding [v, ov] (eval b X.env)
   standAt tpos
   holding [v, ov, iv] (setItem ov iv v)
   release [v, ov, iv] []) := by exact fun _ => rfl)
  (hs : swapsWithSole [.Subscript (.Subscript (.Name x p') a q') b tpos] e pos.line X.env = pure false := by rfl) (hw : swappedStores [.Subscript (.Subscript (.Name x p') a q') b tpos] e X.env = pure none := by rfl)
  (h1 : (assignEach [.Subscript (.Subscript (.Name x p') a q') b tpos] X.env).map (·.2) = [assign (.Subscript (.Subscript (.Name x p') a q') b tpos) X.env] := by rfl) : SS X (.Assign [.Subscript (.Subscript (.Name x p') a q') b tpos] e pos) (sTP j mi mk me) := by
 obtain ⟨t, p, s⟩ := he
 obtain ⟨ta, pa, sa⟩ := ha
 obtain ⟨tb, pb, sb⟩ := hb
 refine ⟨_, zjp p (pg_sub (zkA ix_list (zbw hN hv hd hcd) pa hsa) pb zhB hq) hs hw h1, fun B G H σ ρ fl ρ' E I hm k => ?_⟩
 obtain ⟨⟨d, ρ1⟩, e1, hm⟩ := zad hm
 obtain ⟨va, e2, hm⟩ := zad hm
 obtain ⟨vb, e3, hm⟩ := zad hm
 refine s B G H σ ρ d ρ1 _ I e1 fun G1 H1 v I1 f1 r1 => ?_
 dsimp only at hm e2 e3
 obtain ⟨n, rfl⟩ : ∃ n, va = .int n := by cases va <;> first | exact ⟨_, rfl⟩ | cases hm
 obtain ⟨m, rfl⟩ : ∃ m, vb = .int m := by cases vb <;> first | exact ⟨_, rfl⟩ | cases hm
 obtain ⟨cs, e4⟩ : ∃ cs, ρ1[j]? = some (.tre (.lst cs)) := by
  cases e : ρ1[j]? with
  | none => rw [e] at hm; cases hm
  | some s =>
   rw [e] at hm
   cases s with
   | tre t => cases t with
    | lst cs => exact ⟨cs, rfl⟩
    | _ => cases hm
   | _ => cases hm
 rw [e4] at hm
 obtain ⟨u, e5, hm⟩ := zad hm
 obtain ⟨ds, e6⟩ : ∃ ds, cs[u]? = some (.l ds) := by
  cases e : cs[u]? with
  | none => rw [e] at hm; cases hm
  | some c =>
   rw [e] at hm
   cases c with
   | l ds => exact ⟨ds, rfl⟩
   | _ => cases hm
 rw [e6] at hm
 obtain ⟨w, e7, hm⟩ := zad hm
 cases hm
 obtain ⟨v0, A, q1, q2, q3, q4⟩ := I1.slot j _ e4
 have q2' := q2
 obtain ⟨p, xs, A', rfl, g1, g2, rfl⟩ := q2
 obtain ⟨y, A1, j1, ⟨l, ys, rfl, j2, j3, j4⟩, j5⟩ := zd5 g2 e6
 have lA : l ∈ A' := j5 l (by rw [j4]; simp)
 have nd := List.nodup_cons.mp q3
 refine ⟨.ref p, q1, sa B G1 H1 σ ρ1 _ _ I1 e2 fun v1 w1 => ?_⟩
 refine ⟨p, xs, n, .ref l, rfl, w1, SqL.of g1, zjA (by rw [zfl g2]; exact e5) j1, sb B G1 H1 σ ρ1 _ _ I1 e3 fun v2 w2 => ?_⟩
 refine ⟨l, ys, m, w, rfl, w2, j2, by rw [j3.length]; exact e7, ?_⟩
 have rep : RepT X.K G1 (upd H1 l (.lst (ys.set w v))) (.ref p) (.lst (cs.set u (.l (ds.set w d)))) (p :: A') :=
  ⟨p, xs, A', rfl, by rw [zam fun z => nd.1 (by rw [z]; exact lA)]; exact g1, zgE g2 nd.2 e6 j1 (j3.set w r1), rfl⟩
 refine k G1 _ σ (I1.chT2 e4 q1 q2' (I1.fz.right (q4 l (by simp [lA])).1 _) (fun b o nb h => by rw [zam (fun z => nb (by rw [z]; simp [lA]))]; exact h) (fun b h => ?_) rep q3 fun a m => .inl m) f1
 by_cases z : b = l
 ·subst z; rw [zar] at h; cases h
 ·rw [zam z] at h; exact h
def sPar (i j : Nat) (ma : MA) : MS := fun ρ => (ma ρ).bind fun p => match p.1 with
 | [c, d] => some (.next, (p.2.set i (.val c)).set j (.val d))
 | _ => none
end
end M
namespace M
local macro_rules | `(tactic| ac_rfl) => `(tactic| first | exact M.nA (by decide) | exact M.nB (by decide) | exact M.nC (by decide) | exact M.nL (by assumption) | exact Nat.ne_of_lt (by assumption) | omega)
open L2 PySem PySem.Spec
open PyProof.Rows hiding St
open Sem (wp)
variable {a b u : Value} {Q E : Value -> Shared -> Prop} {i : Nat} {prog : Program} {w : World} {A : Around} {s : Shared} {tg : Expr} {K : W.Frag} {X : Cx} {p pos : Pos}
abbrev zc5 (h : Heap) (z TI TO : Addr) (f0 : Value) (b : Bool) : Prop := h.get? z = some { cls := .type "zip", data := .fields #[f0, .bool b, .bool false, .ref TI, .ref TO] }
def ZipAt (h : Heap) (z TI TO : Addr) : Prop := ∃ f0 b, zc5 h z TI TO f0 b /\ (f0 = .none \/ ∃ T : Nat, f0 = rawInt T)
section
variable {prog : Program} {w : World} {A : Around} {E : Value -> Shared -> Prop} {s : Shared}
theorem zlY {a : Addr} {Q : Option Obj -> Shared -> Prop} (h : Q (s.heap.get? a) s) : wpAny (model prog w) A (loadIfAlive a) Q E s := fun Γ p hΓ => by
 show Sem.wp _ _ (Sem.loadIfAlive a Sem.pure) _ _ p s
 rw [Sem.wp_loadIfAlive]
 exact (wpAny_pure (M := model prog w) (A := A) (E := E) h) Γ p hΓ
theorem zlo {z TI TO : Addr} {f0 : Value} {b : Bool} (hz : zc5 s.heap z TI TO f0 b) (hf : f0 = .none \/ ∃ T : Nat, f0 = rawInt T) {Q : Bool -> Shared -> Prop} (h1 : Q true s)
  (h2 : ∀ h', zc5 h' z TI TO f0 true -> Heap.SameBut z s.heap h' -> Q false { s with heap := h' }) : wpAny (model prog w) A (Builtin.SmallTypes.ownedTupleIsFree (.ref z)) Q E s := by
 unfold Builtin.SmallTypes.ownedTupleIsFree
 refine wpAny_bind (wpAny_field hz rfl (x := f0) rfl ?_)
 rcases hf with rfl | ⟨T, rfl⟩
 ·exact wpAny_pure h1
 ·refine (?_ : wpAny _ _ (loadIfAlive _ >>= _) _ _ _)
  refine wpAny_bind (zlY ?_)
  cases e : s.heap.get? (T : Int).toNat with
  | none => exact wpAny_pure h1
  | some o =>
   refine (?_ : wpAny _ _ (field (.ref z) 1 >>= _) _ _ _)
   refine wpAny_bind (wpAny_field hz rfl (x := .bool b) rfl ?_)
   cases b
   ·refine (?_ : wpAny _ _ (setField (.ref z) 1 (.bool true) >>= _) _ _ _)
    exact wpAny_bind (wpAny_setField_rec hz (by simp) fun g1 z1 s1 => wpAny_pure (h2 g1 z1 s1))
   ·exact wpAny_pure (h2 s.heap hz ⟨rfl, fun _ _ => rfl⟩)
variable {N a1 a2 : Nat} {n1 n2 : Nat} {P1 P2 : Nat -> Value -> Prop} {S1 S2 : Nat -> Heap -> Prop}
theorem zj4 (D1 : Draws prog w A N [N, a1] n1 P1 S1) (D2 : Draws prog w A (N + 1) [N + 1, a2] n2 P2 S2) (l1 : a1 < N) (l2 : a2 < N)
  (hz' : ZipAt s.heap (N + 4) (N + 2) (N + 3)) (hTI : IsPair s.heap (N + 2) (.ref N) (.ref (N + 1))) (hTO : IsPair s.heap (N + 3) a b) (h1 : S1 i s.heap) (h2 : S2 i s.heap) (i1 : i < n1) (i2 : i < n2)
  (k : ∀ x y h' tk, P1 i x -> P2 i y -> ZipAt h' (N + 4) (N + 2) (N + 3) -> (∃ a b, IsPair h' (N + 3) a b) -> S1 (i + 1) h' -> S2 (i + 1) h' -> IsPair h' s.heap.objs.size x y ->
   (∀ c o, c ≠ N -> c ≠ N + 1 -> c ≠ N + 3 -> c ≠ N + 4 -> s.heap.get? c = some o -> h'.get? c = some o) -> Q (.ref s.heap.objs.size) { s with heap := h', toks := tk }) :
  wpAny (model prog w) A (Builtin.«zip.__next__» ⟨[.ref (N + 4)], []⟩) (fun fin s' => ∃ v, fin = .done (.ret v) /\ Q v s') E s := by
 obtain ⟨f0, bb, hz, hf⟩ := hz'
 refine (?_ : wpAny _ _ (field (.ref (N + 4)) 2 >>= _) _ _ _)
 refine wpAny_bind (wpAny_field hz rfl (x := .bool false) rfl (?_ : wpAny _ _ (field (.ref (N + 4)) 3 >>= _) _ _ _))
 refine wpAny_bind (wpAny_field hz rfl (x := .ref (N + 2)) rfl (wpAny_bind (wpAny_seqItems hTI rfl (?_ : wpAny _ _ (Builtin.SmallTypes.ownedTupleIsFree (.ref (N + 4)) >>= _) _ _ _))))
 refine wpAny_bind (zlo hz hf ?_ fun g0 z0 s0 => ?_)
 ·simp only [if_true]
  refine wpAny_bind (wpAny_rule (wpAny_bind (wpAny_field hz rfl (x := .ref (N + 3)) rfl (wpAny_bind (wpAny_setField_rec hz (by simp) fun g1 z1 s1 => wpAny_bind ?_)))))
  replace z1 : zc5 g1 (N + 4) (N + 2) (N + 3) .ellipsis bb := z1
  simp only [List.zipIdx_cons, List.zipIdx_nil, List.forIn_cons, List.forIn_nil]
  refine wpAny_bind (wpAny_bind (wpAny_onRaise (?_ : wpAny _ _ (Builtin.SmallTypes.nextOf (.ref N) >>= _) _ _ _)))
  have e1 : S1 i g1 := D1.frame _ _ _ h1 fun b hb o e => (s1.2 b (nin2 hb (by ac_rfl) (by ac_rfl))).trans e
  refine wpAny_bind (D1.item i _ _ _ i1 e1 fun x g2 t2 p1 f2 s2 => wpAny_pure ?_)
  have q2 : IsPair g2 (N + 3) a b := (s2.2 _ (ne_ (by ac_rfl))).trans ((s1.2 _ (ne_ (by ac_rfl))).trans hTO)
  refine wpAny_bind (wpAny_seqItems q2 rfl (wpAny_bind (wpAny_updateSeq_pair q2 fun g3 q3 s3 => wpAny_bind (wpAny_letGo (wpAny_pure ?_)))))
  replace q3 : IsPair g3 (N + 3) x b := q3
  refine wpAny_bind (wpAny_bind (wpAny_onRaise (?_ : wpAny _ _ (Builtin.SmallTypes.nextOf (.ref (N + 1)) >>= _) _ _ _)))
  have e3 : S2 i g3 := D2.frame _ _ _ h2 fun b hb o e => (s3.2 b (nin2 hb (by ac_rfl) (by ac_rfl))).trans ((s2.2 b (nin2 hb (by ac_rfl) (by ac_rfl))).trans ((s1.2 b (nin2 hb (by ac_rfl) (by ac_rfl))).trans e))
  refine wpAny_bind (D2.item i _ _ _ i2 e3 fun y g4 t4 p2 f4 s4 => wpAny_pure ?_)
  have q4 : IsPair g4 (N + 3) x b := (s4.2 _ (ne_ (by ac_rfl))).trans q3
  refine wpAny_bind (wpAny_seqItems q4 rfl (wpAny_bind (wpAny_updateSeq_pair q4 fun g5 q5 s5 => wpAny_bind (wpAny_letGo (wpAny_pure (wpAny_pure ?_))))))
  replace q5 : IsPair g5 (N + 3) x y := q5
  have sz : g5.objs.size = s.heap.objs.size := by rw [s5.1, s4.1, s3.1, s2.1, s1.1]
  have z5 : zc5 g5 (N + 4) (N + 2) (N + 3) .ellipsis bb := (s5.2 _ (ne_ (by ac_rfl))).trans ((s4.2 _ (ne_ (by ac_rfl))).trans ((s3.2 _ (ne_ (by ac_rfl))).trans ((s2.2 _ (ne_ (by ac_rfl))).trans z1)))
  have zl : (N + 4 : Nat) < g5.objs.size := Heap.lt_size z5
  have k5 : ∀ c o, c ≠ N -> c ≠ N + 1 -> c ≠ N + 3 -> c ≠ N + 4 -> s.heap.get? c = some o -> g5.get? c = some o := fun c o c1 c2 c3 c4 e => (s5.2 c c3).trans ((s4.2 c c2).trans ((s3.2 c c3).trans ((s2.2 c c1).trans ((s1.2 c c4).trans e))))
  have f5 : S1 (i + 1) g5 := D1.frame _ _ _ f2 fun b hb o e => (s5.2 b (nin2 hb (by ac_rfl) (by ac_rfl))).trans ((s4.2 b (nin2 hb (by ac_rfl) (by ac_rfl))).trans ((s3.2 b (nin2 hb (by ac_rfl) (by ac_rfl))).trans e))
  have f5' : S2 (i + 1) g5 := D2.frame _ _ _ f4 fun b hb o e => (s5.2 b (nin2 hb (by ac_rfl) (by ac_rfl))).trans e
  refine wpAny_bind (wpAny_seqItems q5 rfl (wpAny_bind (wpAny_newTuple (?_ : wpAny _ _ (Builtin.SmallTypes.ownedTupleHandOut (.ref (N + 4)) (.ref g5.objs.size) >>= _) _ _ _))))
  refine wpAny_bind ?_
  unfold Builtin.SmallTypes.ownedTupleHandOut
  refine wpAny_bind (wpAny_setField_rec (show zc5 (g5.push { cls := .type "tuple", data := .seq #[x, y] }) (N + 4) (N + 2) (N + 3) .ellipsis bb from Heap.get?_push_of_some _ z5) (by simp) fun g7 z7 s7 => ?_)
  replace z7 : zc5 g7 (N + 4) (N + 2) (N + 3) (rawInt g5.objs.size) bb := z7
  refine wpAny_setField_rec z7 (by simp) fun g8 z8 s8 => wpAny_pure ⟨_, rfl, ?_⟩
  replace z8 : zc5 g8 (N + 4) (N + 2) (N + 3) (rawInt g5.objs.size) false := z8
  have up : ∀ c o, c ≠ N + 4 -> g5.get? c = some o -> g8.get? c = some o := fun c o c1 e => (s8.2 c c1).trans ((s7.2 c c1).trans (Heap.get?_push_of_some _ e))
  have T8 : IsPair g8 g5.objs.size x y := (s8.2 _ (ne_ (by ac_rfl))).trans ((s7.2 _ (ne_ (by ac_rfl))).trans (Heap.get?_push_size _ rfl))
  rw [sz] at z8 T8
  refine (?_ : Q (.ref g5.objs.size) _)
  rw [sz]
  exact k x y g8 _ p1 p2 ⟨_, _, z8, .inr ⟨_, rfl⟩⟩ ⟨_, _, up _ _ (ne_ (by ac_rfl)) q5⟩ (D1.frame _ _ _ f5 fun b hb o e => up b o (nin2 hb (by ac_rfl) (by ac_rfl)) e) (D2.frame _ _ _ f5' fun b hb o e => up b o (nin2 hb (by ac_rfl) (by ac_rfl)) e) T8 fun c o c1 c2 c3 c4 e => up c o c4 (k5 c o c1 c2 c3 c4 e)
 ·simp only [Bool.false_eq_true, if_false]
  simp only [List.forIn_toArray, List.forIn_cons, List.forIn_nil]
  have e0 : S1 i g0 := D1.frame _ _ _ h1 fun b hb o e => (s0.2 b (nin2 hb (by ac_rfl) (by ac_rfl))).trans e
  refine wpAny_bind (wpAny_bind (wpAny_bind (wpAny_holding (?_ : wpAny _ _ (Builtin.SmallTypes.nextOf (.ref N) >>= _) _ _ _))))
  refine wpAny_bind (D1.item i _ _ _ i1 e0 fun x g2 t2 p1 f2 s2 => wpAny_pure (wpAny_pure ?_))
  refine wpAny_bind (wpAny_bind (wpAny_holding (?_ : wpAny _ _ (Builtin.SmallTypes.nextOf (.ref (N + 1)) >>= _) _ _ _)))
  have e3 : S2 i g2 := D2.frame _ _ _ h2 fun b hb o e => (s2.2 b (nin2 hb (by ac_rfl) (by ac_rfl))).trans ((s0.2 b (nin2 hb (by ac_rfl) (by ac_rfl))).trans e)
  refine wpAny_bind (D2.item i _ _ _ i2 e3 fun y g4 t4 p2 f4 s4 => wpAny_pure (wpAny_pure (wpAny_pure ?_)))
  have sz : g4.objs.size = s.heap.objs.size := by rw [s4.1, s2.1, s0.1]
  have z4 : zc5 g4 (N + 4) (N + 2) (N + 3) f0 true := (s4.2 _ (ne_ (by ac_rfl))).trans ((s2.2 _ (ne_ (by ac_rfl))).trans z0)
  have f4' : S1 (i + 1) g4 := D1.frame _ _ _ f2 fun b hb o e => (s4.2 b (nin2 hb (by ac_rfl) (by ac_rfl))).trans e
  refine (?_ : wpAny _ _ (newTuple [x, y] >>= _) _ _ _)
  refine wpAny_bind (wpAny_newTuple (wpAny_pure ⟨_, rfl, ?_⟩))
  have k5 : ∀ c o, c ≠ N -> c ≠ N + 1 -> c ≠ N + 3 -> c ≠ N + 4 -> s.heap.get? c = some o -> g4.get? c = some o := fun c o c1 c2 c3 c4 e => (s4.2 c c2).trans ((s2.2 c c1).trans ((s0.2 c c4).trans e))
  have q4 : IsPair g4 (N + 3) a b := (s4.2 _ (ne_ (by ac_rfl))).trans ((s2.2 _ (ne_ (by ac_rfl))).trans ((s0.2 _ (ne_ (by ac_rfl))).trans hTO))
  have T8 : IsPair (g4.push { cls := .type "tuple", data := .seq #[x, y] }) g4.objs.size x y := Heap.get?_push_size _ rfl
  rw [sz] at T8
  refine (?_ : Q (.ref g4.objs.size) _)
  rw [sz]
  exact k x y _ _ p1 p2 ⟨_, _, Heap.get?_push_of_some _ z4, hf⟩ ⟨_, _, Heap.get?_push_of_some _ q4⟩ (D1.frame _ _ _ f4' fun b hb o e => Heap.get?_push_of_some _ e) (D2.frame _ _ _ f4 fun b hb o e => Heap.get?_push_of_some _ e) T8 fun c o c1 c2 c3 c4 e => Heap.get?_push_of_some _ (k5 c o c1 c2 c3 c4 e)
theorem zlN {Q : Fin -> Shared -> Prop} (D1 : Draws prog w A N [N, a1] n1 P1 S1) (D2 : Draws prog w A (N + 1) [N + 1, a2] n2 P2 S2) (l1 : a1 < N) (l2 : a2 < N)
  (hz' : ZipAt s.heap (N + 4) (N + 2) (N + 3)) (hTI : IsPair s.heap (N + 2) (.ref N) (.ref (N + 1))) (hTO : IsPair s.heap (N + 3) a b) (h1 : S1 i s.heap) (h2 : S2 i s.heap) (hi : i = n1 \/ (i < n1 /\ i = n2))
  (k : ∀ h' e tk, (∀ c o, c ≠ N -> c ≠ N + 1 -> c ≠ N + 3 -> c ≠ N + 4 -> s.heap.get? c = some o -> h'.get? c = some o) -> (∃ o, h'.get? e = some o /\ o.cls = .type "StopIteration") -> E (.ref e) { s with heap := h', toks := tk }) :
  wpAny (model prog w) A (Builtin.«zip.__next__» ⟨[.ref (N + 4)], []⟩) Q E s := by
 obtain ⟨f0, bb, hz, hf⟩ := hz'
 refine (?_ : wpAny _ _ (field (.ref (N + 4)) 2 >>= _) _ _ _)
 refine wpAny_bind (wpAny_field hz rfl (x := .bool false) rfl (?_ : wpAny _ _ (field (.ref (N + 4)) 3 >>= _) _ _ _))
 refine wpAny_bind (wpAny_field hz rfl (x := .ref (N + 2)) rfl (wpAny_bind (wpAny_seqItems hTI rfl (?_ : wpAny _ _ (Builtin.SmallTypes.ownedTupleIsFree (.ref (N + 4)) >>= _) _ _ _))))
 refine wpAny_bind (zlo hz hf ?_ fun g0 z0 s0 => ?_)
 ·simp only [if_true]
  refine wpAny_bind (wpAny_rule (wpAny_bind (wpAny_field hz rfl (x := .ref (N + 3)) rfl (wpAny_bind (wpAny_setField_rec hz (by simp) fun g1 z1 s1 => wpAny_bind ?_)))))
  replace z1 : zc5 g1 (N + 4) (N + 2) (N + 3) .ellipsis bb := z1
  simp only [List.zipIdx_cons, List.zipIdx_nil, List.forIn_cons, List.forIn_nil]
  refine wpAny_bind (wpAny_bind (wpAny_onRaise (?_ : wpAny _ _ (Builtin.SmallTypes.nextOf (.ref N) >>= _) _ _ _)))
  have e1 : S1 i g1 := D1.frame _ _ _ h1 fun b hb o e => (s1.2 b (nin2 hb (by ac_rfl) (by ac_rfl))).trans e
  rcases hi with rfl | ⟨i1, rfl⟩
  ·refine wpAny_bind (D1.done _ _ _ e1 fun g2 e x2 he => ?_)
   obtain ⟨oe, hoe, hce⟩ := he
   have z2 : zc5 g2 (N + 4) (N + 2) (N + 3) .ellipsis bb := x2 _ _ (ne_ (by ac_rfl)) z1
   have hez : e ≠ N + 4 := fun x => by subst x; rw [z2] at hoe; cases hoe; simp at hce
   exact wpAny_setField_rec z2 (by simp) fun g3 _ s3 => k g3 e _ (fun c o c1 c2 c3 c4 x => (s3.2 c c4).trans (x2 c o c1 ((s1.2 c c4).trans x))) ⟨oe, (s3.2 _ hez).trans hoe, hce⟩
  ·refine wpAny_bind (D1.item i _ _ _ i1 e1 fun x g2 t2 p1 f2 s2 => wpAny_pure ?_)
   have q2 : IsPair g2 (N + 3) a b := (s2.2 _ (ne_ (by ac_rfl))).trans ((s1.2 _ (ne_ (by ac_rfl))).trans hTO)
   refine wpAny_bind (wpAny_seqItems q2 rfl (wpAny_bind (wpAny_updateSeq_pair q2 fun g3 q3 s3 => wpAny_bind (wpAny_letGo (wpAny_pure ?_)))))
   replace q3 : IsPair g3 (N + 3) x b := q3
   refine wpAny_bind (wpAny_bind (wpAny_onRaise (?_ : wpAny _ _ (Builtin.SmallTypes.nextOf (.ref (N + 1)) >>= _) _ _ _)))
   have e3 : S2 i g3 := D2.frame _ _ _ h2 fun b hb o e => (s3.2 b (nin2 hb (by ac_rfl) (by ac_rfl))).trans ((s2.2 b (nin2 hb (by ac_rfl) (by ac_rfl))).trans ((s1.2 b (nin2 hb (by ac_rfl) (by ac_rfl))).trans e))
   refine wpAny_bind (D2.done _ _ _ e3 fun g4 e x4 he => ?_)
   obtain ⟨oe, hoe, hce⟩ := he
   have z3 : zc5 g3 (N + 4) (N + 2) (N + 3) .ellipsis bb := (s3.2 _ (ne_ (by ac_rfl))).trans ((s2.2 _ (ne_ (by ac_rfl))).trans z1)
   have z4 : zc5 g4 (N + 4) (N + 2) (N + 3) .ellipsis bb := x4 _ _ (ne_ (by ac_rfl)) z3
   have hez : e ≠ N + 4 := fun x => by subst x; rw [z4] at hoe; cases hoe; simp at hce
   exact wpAny_setField_rec z4 (by simp) fun g5 _ s5 => k g5 e _ (fun c o c1 c2 c3 c4 x => (s5.2 c c4).trans (x4 c o c2 ((s3.2 c c3).trans ((s2.2 c c1).trans ((s1.2 c c4).trans x))))) ⟨oe, (s5.2 _ hez).trans hoe, hce⟩
 ·simp only [Bool.false_eq_true, if_false, List.forIn_toArray, List.forIn_cons, List.forIn_nil]
  have e0 : S1 i g0 := D1.frame _ _ _ h1 fun b hb o e => (s0.2 b (nin2 hb (by ac_rfl) (by ac_rfl))).trans e
  refine wpAny_bind (wpAny_bind (wpAny_bind (wpAny_holding (?_ : wpAny _ _ (Builtin.SmallTypes.nextOf (.ref N) >>= _) _ _ _))))
  rcases hi with rfl | ⟨i1, rfl⟩
  ·refine wpAny_bind (D1.done _ _ _ e0 fun g2 e x2 he => ?_)
   exact k g2 e _ (fun c o c1 c2 c3 c4 x => x2 c o c1 ((s0.2 c c4).trans x)) he
  ·refine wpAny_bind (D1.item i _ _ _ i1 e0 fun x g2 t2 p1 f2 s2 => wpAny_pure (wpAny_pure ?_))
   refine wpAny_bind (wpAny_bind (wpAny_holding (?_ : wpAny _ _ (Builtin.SmallTypes.nextOf (.ref (N + 1)) >>= _) _ _ _)))
   have e3 : S2 i g2 := D2.frame _ _ _ h2 fun b hb o e => (s2.2 b (nin2 hb (by ac_rfl) (by ac_rfl))).trans ((s0.2 b (nin2 hb (by ac_rfl) (by ac_rfl))).trans e)
   refine wpAny_bind (D2.done _ _ _ e3 fun g4 e x4 he => ?_)
   exact k g4 e _ (fun c o c1 c2 c3 c4 x => x4 c o c2 ((s2.2 c c1).trans ((s0.2 c c4).trans x))) he
end
theorem ZipAt.at {h h' : Heap} {z TI TO : Addr} (x : ZipAt h z TI TO) (e : ∀ o, h.get? z = some o -> h'.get? z = some o) : ZipAt h' z TI TO := by
 obtain ⟨f0, b, q, r⟩ := x
 exact ⟨f0, b, e _ q, r⟩
theorem zi5 {z TI TO : Addr} (hz : ZipAt s.heap z TI TO) (h : Q (.ref z) s) : wpAny (model prog w) A (pyIter (.ref z)) Q E s := by
 obtain ⟨f0, b, q, r⟩ := hz
 have hT : s.TypeIs (.ref z) "zip" := ⟨_, q, rfl⟩
 exact wpAny_pyIter_slot hT F.slot_zip_iter (wpAny_call_entry F.slot_zip_iter hT F.entry_zip_iter (wpAny_pure ⟨.ref z, rfl, "zip", .builtin "zip.__next__", hT, F.slot_zip_next.lookup, h⟩) (F.args_zip_iter_1 (.ref z)))
theorem letGoZ {z TI TO : Addr} {Q : Unit -> Shared -> Prop} (hz : ZipAt s.heap z TI TO) (h1 : Q () s)
  (h2 : ∀ h', ZipAt h' z TI TO -> Heap.SameBut z s.heap h' -> Q () { s with heap := h' }) : wpAny (model prog w) A (letOwnedTupleGo tg (.ref z) u) Q E s := by
 obtain ⟨f0, b, q, r⟩ := hz
 have core : ∀ a : Addr, wpAny (model prog w) A (do
   let o <- load z
   match o.cls, o.data with
    | Value.type n, Data.fields vs =>
     if (["enumerate", "zip", "dict_itemiterator", "dict_reverseitemiterator", "odict_iterator", "itertools.zip_longest", "itertools.pairwise"].contains n && vs[0]? == some (rawInt ↑a)) = true then do
      rule "for.unpacks-the-owned-tuple"
      updateField z 0 Value.none
     else pure ()
    | x, x_1 => pure ()) Q E s := fun a => by
  refine wpAny_bind (wpAny_load q ?_)
  dsimp only
  split
  ·refine wpAny_bind (wpAny_rule ?_)
   refine (?_ : wpAny _ _ (setField (.ref z) 0 .none) _ _ _)
   exact wpAny_setField_rec q (by simp) fun g1 z1 s1 => h2 g1 ⟨_, _, z1, .inl rfl⟩ s1
  ·exact wpAny_pure h1
 unfold letOwnedTupleGo
 cases tg <;> first | exact wpAny_pure h1 | (cases u <;> first | exact wpAny_pure h1 | exact core _)
theorem zkC {P : Program} {w : World} (t1 : Bool) (a1 : Nat) (t2 : Bool) (a2 : Nat) (n N : Nat) (l1 : a1 < N) (l2 : a2 < N) :
  Turn P w K tg (Itz2 K t1 a1 t2 a2 n) ([N, N + 1, N + 2, N + 3, N + 4] : List Nat) (N + 4 : Nat)
   (fun i h => i <= n /\ ZipAt h (N + 4 : Nat) (N + 2 : Nat) (N + 3 : Nat) /\ IsPair h (N + 2 : Nat) (.ref N) (.ref (N + 1 : Nat)) /\ (∃ a b, IsPair h (N + 3 : Nat) a b) /\ SrcIt t1 h N a1 i /\ SrcIt t2 h (N + 1 : Nat) a2 i) where
 mem := by simp
 obj := fun i h st b hb => by
  obtain ⟨-, h4, h2, ⟨a, c, h3⟩, h0, h1⟩ := st
  simp only [List.mem_cons, List.not_mem_nil, or_false] at hb
  rcases hb with rfl | rfl | rfl | rfl | rfl
  ·exact h0.obj
  ·exact h1.obj
  ·exact ⟨_, h2, fun v z => by cases z⟩
  ·exact ⟨_, h3, fun v z => by cases z⟩
  ·obtain ⟨f0, bb, z4, -⟩ := h4
   exact ⟨_, z4, fun v z => by cases z⟩
 keep := fun i h h' st k => by
  obtain ⟨hi, h4, h2, ⟨a, c, h3⟩, h0, h1⟩ := st
  exact ⟨hi, h4.at fun o e => k _ (by simp) o e, k _ (by simp) _ h2, ⟨a, c, k _ (by simp) _ h3⟩, h0.at fun o e => k _ (by simp) o e, h1.at fun o e => k _ (by simp) o e⟩
 item := by
  intro X hP hw hK hc i pins s σ H E I hf st hg
  subst hP hw hK
  obtain ⟨hi, h4, h2, ⟨a, c, h3⟩, h0, h1⟩ := st
  obtain ⟨hn, xs, ys, q1, q2, en⟩ := hg
  obtain ⟨us, ru, hu, zu⟩ := q1.heap I
  obtain ⟨ws, rw', hw', zw⟩ := q2.heap I
  have lu := ru.length
  have lw := rw'.length
  have D1 := za2 (prog := X.prog) (w := X.w) (A := X.A.in1) (t := t1) (I.ok.hd hc) N a1 (ne_ (by ac_rfl)) us.toArray
  have D2 := za2 (prog := X.prog) (w := X.w) (A := X.A.in1) (t := t2) (I.ok.hd hc) (N + 1) a2 (ne_ (by ac_rfl)) ws.toArray
  have z4 := h4
  obtain ⟨f0, bb, z4, -⟩ := z4
  have hT : s.TypeIs (.ref (N + 4 : Nat)) "zip" := ⟨_, z4, rfl⟩
  unfold pyNext
  refine wpAny_bind (wpAny_attempt (wpAny_callSpecial?_slot (name := Str.ofString "__next__") hT F.slot_zip_next (wpAny_call_entry F.slot_zip_next hT F.entry_zip_next
   (zj4 D1 D2 l1 l2 h4 h2 h3 ⟨h0, hu⟩ ⟨h1, hw'⟩ (by simp; omega) (by simp; omega) fun x y h' tk p1 p2 g4 g3 g0 g1 gT kk => wpAny_pure ?_) (F.args_zip_next_1 _))))
  obtain ⟨x1, hx1⟩ : ∃ x1, xs[i]? = some x1 := ⟨xs[i]'(by omega), List.getElem?_eq_getElem _⟩
  obtain ⟨x2, hx2⟩ : ∃ x2, ys[i]? = some x2 := ⟨ys[i]'(by omega), List.getElem?_eq_getElem _⟩
  obtain ⟨u1, hu1, r1⟩ := ru.get hx1
  obtain ⟨u2, hu2, r2⟩ := rw'.get hx2
  have e1 : u1 = x := by
   have : us[i]? = some x := by simpa using p1
   rw [hu1] at this; cases this; rfl
  have e2 : u2 = y := by
   have : ws[i]? = some y := by simpa using p2
   rw [hu2] at this; cases this; rfl
  subst e1 e2
  refine ⟨_, rfl, ?_⟩
  have fin : ∀ h'', ZipAt h'' (N + 4 : Nat) (N + 2 : Nat) (N + 3 : Nat) -> Heap.SameBut (N + 4 : Nat) h' h'' -> ∃ x H', L2.Inv X pins σ H' { s with heap := h'', toks := tk } /\ RelV x (.ref s.heap.objs.size) /\ (Itz2 X.K t1 a1 t2 a2 n).yld i H x H' /\ (i + 1 <= n /\ ZipAt h'' (N + 4 : Nat) (N + 2 : Nat) (N + 3 : Nat) /\ IsPair h'' (N + 2 : Nat) (.ref N) (.ref (N + 1 : Nat)) /\ (∃ a b, IsPair h'' (N + 3 : Nat) a b) /\ SrcIt t1 h'' N a1 (i + 1) /\ SrcIt t2 h'' (N + 1 : Nat) a2 (i + 1)) /\ ∀ b ∈ ([N, N + 1, N + 2, N + 3, N + 4] : List Nat), H' b = none := fun h'' z'' sb => by
   have lz : N + 4 < s.heap.objs.size := Heap.lt_size z4
   have kk' : ∀ b o, b ∉ ([N, N + 1, N + 2, N + 3, N + 4] : List Nat) -> s.heap.get? b = some o -> h''.get? b = some o := fun b o hb e => by
    obtain ⟨c1, c2, c3, c4⟩ := nin4 hb
    exact (sb.2 b c4).trans (kk b o c1 c2 c3 c4 e)
   have I1 := ziT (t' := tk) (vs := [x1, x2]) (its := [u1, u2]) I kk' hf (fun b hb => by
    have : b = N \/ b = N + 1 \/ b = N + 2 \/ b = N + 3 \/ b = N + 4 := by simpa using hb
    exact Nat.lt_of_le_of_lt (show (b : Nat) <= N + 4 by rcases this with h | h | h | h | h <;> rw [h] <;> simp) lz) ((sb.2 _ (ne_ (by ac_rfl))).trans gT) (by simp; rw [sizeLine_eq]; decide) (.cons r1 (.cons r2 .nil))
   refine ⟨.ref s.heap.objs.size, _, I1, rfl, ⟨_, x1, x2, I.hok.fresh (Nat.le_refl _), rfl, rfl, fun xs' ys' b1 b2 => ?_⟩, ⟨hn, z'', (sb.2 _ (ne_ (by ac_rfl))).trans (kk _ _ (ne_ (by ac_rfl)) (ne_ (by ac_rfl)) (ne_ (by ac_rfl)) (ne_ (by ac_rfl)) h2), (let ⟨a', b', e'⟩ := g3; ⟨a', b', (sb.2 _ (ne_ (by ac_rfl))).trans e'⟩), SrcIt.at g0.1 fun o e => (sb.2 _ (ne_ (by ac_rfl))).trans e, SrcIt.at g1.1 fun o e => (sb.2 _ (ne_ (by ac_rfl))).trans e⟩, fun b hb => ?_⟩
   ·rw [SrcSq.inj I b1 q1, SrcSq.inj I b2 q2]
    exact ⟨hx1, hx2⟩
   ·have : b = N \/ b = N + 1 \/ b = N + 2 \/ b = N + 3 \/ b = N + 4 := by simpa using hb
    rw [zam (Nat.ne_of_lt (Nat.lt_of_le_of_lt (show (b : Nat) <= N + 4 by rcases this with h | h | h | h | h <;> rw [h] <;> simp) lz))]
    exact (hf b hb).1
  exact letGoZ (s := { s with heap := h', toks := tk }) g4 (fin h' g4 ⟨rfl, fun _ _ => rfl⟩) fun h'' z'' sb => fin h'' z'' sb
 done := by
  intro X hP hw hK hc i pins s σ H E I hf st hg
  subst hP hw hK
  obtain ⟨hi, h4, h2, ⟨a, c, h3⟩, h0, h1⟩ := st
  obtain ⟨hn, xs, ys, q1, q2, en⟩ := hg
  obtain ⟨us, ru, hu, zu⟩ := q1.heap I
  obtain ⟨ws, rw', hw', zw⟩ := q2.heap I
  have lu := ru.length
  have lw := rw'.length
  have D1 := za2 (prog := X.prog) (w := X.w) (A := X.A.in1) (t := t1) (I.ok.hd hc) N a1 (ne_ (by ac_rfl)) us.toArray
  have D2 := za2 (prog := X.prog) (w := X.w) (A := X.A.in1) (t := t2) (I.ok.hd hc) (N + 1) a2 (ne_ (by ac_rfl)) ws.toArray
  have z4 := h4
  obtain ⟨f0, bb, z4, -⟩ := z4
  have hT : s.TypeIs (.ref (N + 4 : Nat)) "zip" := ⟨_, z4, rfl⟩
  unfold pyNext
  refine wpAny_bind (wpAny_attempt (wpAny_callSpecial?_slot (name := Str.ofString "__next__") hT F.slot_zip_next (wpAny_call_entry F.slot_zip_next hT F.entry_zip_next
   (zlN D1 D2 l1 l2 h4 h2 h3 ⟨h0, hu⟩ ⟨h1, hw'⟩ (by simp; omega) fun h' e tk kk he => ?_) (F.args_zip_next_1 _))))
  obtain ⟨o, ho, hce⟩ := he
  refine wpAny_bind (wpAny_isInstance (T := "StopIteration") (b := true) ⟨o, ho, hce⟩ isSubtype_stop (wpAny_pure ⟨rfl, zhF I (fun b o hb e => ?_) hf⟩))
  obtain ⟨c1, c2, c3, c4⟩ := nin4 hb
  exact kk b o c1 c2 c3 c4 e
 self := fun _ _ _ _ _ st h => zi5 st.2.1 h
theorem pi_zip2N {a b : Expr} {ta : TA} (hg : Gl X "zip") (hm : X.mg "zip" = none) (ha : PA X [a, b] ta) (hs : starEach [a, b] X.env = (false, eval a X.env) :: starEach [b] X.env := by rfl) (hs2 : (backTo pos (starEach [b] X.env)).any (·.1) = false := by rfl) :
  PI X tg (.Call (.Name "zip" p) [a, b] [] pos) (fun σ H R => ta σ H fun vs H1 => ∃ t1 a1 xs t2 a2 ys, vs = [.ref a1, .ref a2] /\ SrcSq t1 X.K H1 a1 xs /\ SrcSq t2 X.K H1 a2 ys /\ R (Itz2 X.K t1 a1 t2 a2 (min xs.length ys.length)) H1) := by
 intro pins s σ H R I h
 refine Call_ (zhf I hg hm zj1 (PyProof.Rows.callWith_type1 (thn (ha pos pins s σ H _ I h) fun us s1 ⟨vs, H1, I1, r1, q1⟩ => ?_) hs hs2))
 obtain ⟨t1, a1, xs, t2, a2, ys, e, q1, q2, q⟩ := q1
 subst e
 cases r1 with
 | cons r rr =>
  cases rr with
  | cons r' rr =>
   cases rr
   cases r
   cases r'
   obtain ⟨us, ru, hu, -⟩ := q1.heap I1
   obtain ⟨ws, rw', hw', -⟩ := q2.heap I1
   refine zlm hu hw' fun h' g4 g2 g3 g0 g1 kk => wpAny_pyIter_zip g4 ⟨_, _, _, _, H1, rfl, I1.kept (t' := s1.toks) kk, zkC t1 a1 t2 a2 (min xs.length ys.length) s1.heap.objs.size hu.lt hw'.lt, ⟨Nat.zero_le _, ⟨_, _, g4, .inl rfl⟩, g2, ⟨_, _, g3⟩, g0, g1⟩, fun b hb => ?_, q⟩
   have : b = s1.heap.objs.size \/ b = s1.heap.objs.size + 1 \/ b = s1.heap.objs.size + 2 \/ b = s1.heap.objs.size + 3 \/ b = s1.heap.objs.size + 4 := by simpa using hb
   have le : s1.heap.objs.size <= b := by rcases this with h | h | h | h | h <;> rw [h] <;> simp
   exact I1.fpOk le (I1.hok.fresh le)
theorem it_zip2N {a b : Expr} {ma : MA} (hm : X.mg "zip" = none) (ha : SA X [a, b] ma) (hg : Gl X "zip" := by rfl) (hs : starEach [a, b] X.env = (false, eval a X.env) :: starEach [b] X.env := by rfl) (hs2 : (backTo pos (starEach [b] X.env)).any (·.1) = false := by rfl) :
  SIt X tg (.Call (.Name "zip" p) [a, b] [] pos) (iZ2 ma) := by
 obtain ⟨t, pa, sa⟩ := ha
 refine ⟨_, pi_zip2N hg hm pa hs hs2, fun B G H σ ρ ds ρ' Q I hm k => ?_⟩
 obtain ⟨⟨es, ρ1⟩, e1, h2⟩ := zad hm
 dsimp only at h2
 refine sa B G H σ ρ es ρ1 _ I e1 fun G1 H1 vs I1 f1 r1 => ?_
 split at h2
 ·obtain ⟨xs, ex, h2⟩ := zad h2
  obtain ⟨ys, ey, h2⟩ := zad h2
  cases h2
  obtain ⟨x, y, rfl, rx, ry⟩ := r1.two
  obtain ⟨t1, a1, us, rfl, s1, c1⟩ := zhb rx ex
  obtain ⟨t2, a2, ws, rfl, s2, c2⟩ := zhb ry ey
  have n1 := c1.length
  have n2 := c2.length
  refine ⟨t1, a1, us, t2, a2, ws, rfl, s1 _ I1.fz, s2 _ I1.fz, k _ G1 H1 I1 f1 ⟨fun H i f hi => ?_, fun H i x H' f y d e => ?_, fun H i f hi => ?_⟩⟩
  ·exact ⟨by simp [ziP] at hi; omega, us, ws, s1 _ f, s2 _ f, rfl⟩
  ·obtain ⟨p, x1, x2, hp, eh, ex', q⟩ := y
   obtain ⟨q1, q2⟩ := q us ws (s1 _ f) (s2 _ f)
   simp only [ziP, List.getElem?_zipWith] at e
   split at e
   ·rename_i d1 d2 g1 g2
    cases e
    obtain ⟨v1, b1, r1⟩ := c1.get g1
    obtain ⟨v2, b2, r2⟩ := c2.get g2
    rw [q1] at b1; cases b1
    rw [q2] at b2; cases b2
    exact .inr ⟨p, _, _, hp, eh, ex', rfl, ⟨_, _, rfl, r1, _, _, rfl, r2, rfl⟩⟩
   ·cases e
  ·exact ⟨by simp [ziP] at hi; omega, us, ws, s1 _ f, s2 _ f, rfl⟩
 ·cases h2
end M
namespace M
open L2 PySem PySem.Spec
open PyProof.Rows hiding St
variable {l : List Str} {p : List Value -> Prop} {n k : List Int} {oc u : Value} {osl : Array (Option Value)} {fd : FuncData} {v : V} {K : W.Frag} {B : Bs} {G H : Hp} {σ : St} {ρ : R} {j : Nat} {q : List (List Int) × List D} {d : D} {ks : List (List Int)} {ds es : List D}
theorem ndk (h : decide l.Nodup = true := by kernel_rfl) : l.Nodup := of_decide_eq_true h
theorem us_0 (h : p []) : ∀ us : List Value, us.length = 0 -> p us := fun us e => by
 cases us with
 | nil => exact h
 | cons => cases e
theorem us_s {n : Nat} (h : ∀ (a : Value) (us : List Value), us.length = n -> p (a :: us)) : ∀ us : List Value, us.length = n + 1 -> p us := fun us e => by
 cases us with
 | nil => cases e
 | cons a us => exact h a us (Nat.succ.inj e)
section
variable {P : Program} {w : World} {K : W.Frag} {mg : Str -> Option Value} {base hp : Heap} {x : Str} {st : Stmt} {f : Addr}
def FnAt (K : W.Frag) (x : Str) (st : Stmt) : Prop := ∃ f fd, W.nsIn K mainGlobals x = some (some (.ref f)) /\ Fun K x x st f fd
theorem FnAt.mk {od an : Option Addr} {kV doc pm cdv ct : Value} (a : W.nsIn K mainGlobals x = some (some (.ref f))) (l : K.lookup f = some ⟨oc, od, .func (W.fnOf x x (zdZ st) (zb1 st) (zaB st) .none kV doc pm an cdv ct), osl⟩)
  (c : W.codeIn K cdv x = true) (k : W.keepIn K (.ref f) = true) : FnAt K x st := ⟨f, _, a, fun_mk l c k⟩
abbrev BindsAt (x : Str) (st : Stmt) (ps : List Str) : Prop := ∀ (kV doc pm : Value) (an : Option Addr) (cdv ct : Value) (us : List Value), us.length = ps.length -> bindArgs (W.fnOf x x (zdZ st) (zb1 st) (zaB st) .none kV doc pm an cdv ct) ⟨us, []⟩ = pure (ps.zip us)
theorem FnAt.law (h : FnAt K x st) (X : K.In hp) (G : hp.Ns mainGlobals mg) (hf : mg x = some (.ref f)) : ∃ kV doc pm an cdv ct, Fun K x x st f (W.fnOf x x (zdZ st) (zb1 st) (zaB st) .none kV doc pm an cdv ct) := by
 obtain ⟨f', fd, a, T⟩ := h
 have e := hf.symm.trans (W.mg_of X G a)
 cases e
 obtain ⟨oc, od, kV, doc, pm, an, cdv, ct, osl, rfl, lk, hcd⟩ := id T.ex
 exact ⟨kV, doc, pm, an, cdv, ct, T⟩
variable {N : List Str} {k n : Nat} {m : MS}
abbrev Bd (P : Program) (w : World) (K : W.Frag) (mg : Str -> Option Value) (base : Heap) (x : Str) (st : Stmt) (N : List Str) (k : Nat) (m : MS) : Prop := ∀ (f : Addr) (cdv : Value) (A : Around) (outer : List Env) (s : Shared) (H : Hp) (E : XK), Room k (A.deeper (PyProof.Rows.envOfC x (zaB st) s.heap.objs.size f cdv)) -> N.Nodup -> SSs (cxOf CX0 P w K mg base N x (zaB st) f cdv A outer s H E).nox (zb1 st) m
structure DefOk (x : Str) (st : Stmt) (N : List Str) (n : Nat) : Prop where
 sc : FnScope N (N.take n) (zaB st)
 len : (N.take n).length = n
 le : n <= N.length
 bs : BindsAt x st (N.take n)
theorem lawP (F : Fun K x x st f fd) (b : Bd P w K mg base x st N k m) (d : DefOk x st N n := by exact ⟨⟨rfl, rfl, rfl, by decide +kernel, rfl, by decide +kernel, by decide +kernel⟩, rfl, by decide, fun _ _ _ _ _ _ => by first | exact us_s fun _ => us_0 rfl | exact us_s fun _ => us_s fun _ => us_0 rfl | exact us_s fun _ => us_s fun _ => us_s fun _ => us_0 rfl | exact us_s fun _ => us_s fun _ => us_s fun _ => us_s fun _ => us_0 rfl | exact us_0 rfl | exact us_s fun _ => us_s fun _ => us_s fun _ => us_s fun _ => us_s fun _ => us_0 rfl⟩) : FnOk P w K mg base CX0 (k + 1) f fd (N.take n) (spP K n (fP N.length m)) := fnP_ok F d.sc d.len d.le fun cdv A outer s H E hr => b _ cdv A outer s H E hr d.sc.nd
theorem fdP (X : K.In hp) (G : hp.Ns mainGlobals mg) (h : FnAt K x st) (b : Bd P w K mg base x st N k m) (d : DefOk x st N n := by exact ⟨⟨rfl, rfl, rfl, by decide +kernel, rfl, by decide +kernel, by decide +kernel⟩, rfl, by decide, fun _ _ _ _ _ _ => by first | exact us_s fun _ => us_0 rfl | exact us_s fun _ => us_s fun _ => us_0 rfl | exact us_s fun _ => us_s fun _ => us_s fun _ => us_0 rfl | exact us_s fun _ => us_s fun _ => us_s fun _ => us_s fun _ => us_0 rfl | exact us_0 rfl | exact us_s fun _ => us_s fun _ => us_s fun _ => us_s fun _ => us_s fun _ => us_0 rfl⟩) : FD P w K mg base (k + 1) x (spP K n (fP N.length m)) :=
 let ⟨f, fd, a, T⟩ := h
 ⟨⟨f, fd, _, fnP_ok T d.sc d.len d.le fun cdv A outer s H E hr => b _ cdv A outer s H E hr d.sc.nd, W.mg_of X G a, T.kp, T.binds d.bs⟩⟩
theorem fdM (X : K.In hp) (G : hp.Ns mainGlobals mg) (h : FnAt K x st) (b : Bd P w K mg base x st N k m) (d : DefOk x st N n := by exact ⟨⟨rfl, rfl, rfl, by decide +kernel, rfl, by decide +kernel, by decide +kernel⟩, rfl, by decide, fun _ _ _ _ _ _ => by first | exact us_s fun _ => us_0 rfl | exact us_s fun _ => us_s fun _ => us_0 rfl | exact us_s fun _ => us_s fun _ => us_s fun _ => us_0 rfl | exact us_s fun _ => us_s fun _ => us_s fun _ => us_s fun _ => us_0 rfl | exact us_0 rfl | exact us_s fun _ => us_s fun _ => us_s fun _ => us_s fun _ => us_s fun _ => us_0 rfl⟩) : FD P w K mg base (k + 1) x (spM K n (fM N.length m)) :=
 let ⟨f, fd, a, T⟩ := h
 ⟨⟨f, fd, _, fnM_ok T d.sc d.len d.le fun cdv A outer s H E hr => b _ cdv A outer s H E hr d.sc.nd, W.mg_of X G a, T.kp, T.binds d.bs⟩⟩
end
variable {P : Program} {w : World} {H G : Hp} {h : Heap} {a b : Addr} {o : Obj} {xs : List (List L2.Key × Addr × Value)} {ks : List (List Int)} {ys : List (List L2.Key × V)}
theorem th_eq (k : List Int) : reduceHash (Builtin.Tuple.tupleHashOf ((k.map kI).map hI)) = (tupleKind (zbj P w)).hash (k.map kI) := by
 have e : (k.map kI).map hI = (k.map kI).map (keyH w) := by rw [List.map_map, List.map_map]; exact List.map_congr_left fun _ _ => rfl
 rw [e]
 rfl
theorem te_one {q : List L2.Key × Addr × Value} (e : q.1 = k.map kI) : (⟨reduceHash (Builtin.Tuple.tupleHashOf (q.1.map hI)), .ref q.2.1, q.2.2⟩ : DictEntry) = entryOfKey (tupleKind (zbj P w)) q := by
 unfold entryOfKey
 rw [e, th_eq (P := P) (w := w)]
theorem te_eq (kt : KT G ys xs) (e : ys.map (·.1) = ks.map (·.map kI)) : (xs.map fun x => (⟨reduceHash (Builtin.Tuple.tupleHashOf (x.1.map hI)), .ref x.2.1, x.2.2⟩ : DictEntry)) = xs.map (entryOfKey (tupleKind (zbj P w))) := by
  induction kt generalizing ks with
  | nil => rw [List.map_nil, List.map_nil]
  | @cons p q ps qs h t ih =>
    cases ks with
    | nil => cases e
    | cons k ks =>
      have e2 := List.cons.inj e
      rw [List.map_cons, List.map_cons, ih e2.2]
      exact congrArg (· :: _) (te_one (h.1.symm.trans e2.1))
theorem kn_at (ok : HOk P w H h) (e : H a = some (kn a o)) : h.get? a = some o := (show ObjOk P w H h a (kn a o) from ok a _ e).1
theorem kn_ok (e : h.get? a = some o) : ObjOk P w H h a (kn a o) := ⟨e, ⟨o, e⟩, fun _ _ e1 k => k o e1⟩
theorem DtI.of (d : DtI H a o xs ks ys) (ok : HOk P w H h) (e : H a = some (kn a o)) : h.DictOfH (tupleKind (zbj P w)) a xs := by
 obtain ⟨h1, ⟨es, ep, h2, h3⟩, h4⟩ := d.dn
 refine ⟨o, es, ep, kn_at ok e, h1, h2, h3.trans (te_eq d.kt d.key), ?_, h4⟩
 have all : ∀ {l : List (List L2.Key × V)} {m : List (List L2.Key × Addr × Value)}, KT H l m -> ∀ x ∈ m, (tupleKind (zbj P w)).is h x.1 x.2.1 := by
  intro l m q
  induction q with
  | nil => intro x hx; exact nomatch hx
  | @cons p q ps qs hq t ih =>
   intro x hx
   rcases List.mem_cons.mp hx with e | hx
   ·subst e
    exact zk8 ok (by rw [<- hq.1]; exact hq.2.1)
   ·exact ih x hx
 exact all d.kt
theorem DtN.of (d : DtI H a o xs ks ys) (rv : RelV v u) (hb : H b = some (.tup ((k.map kI).map kV))) (dd : h.DictOfH (tupleKind (zbj P w)) a (storedH xs (k.map kI) b u)) : ∃ o', h.get? a = some o' /\ DtN o' (storedH xs (k.map kI) b u) := by
 obtain ⟨o', es, ep, h1, h2, h3, h4, h5, h6⟩ := dd
 have kt := KT.put d.kt (k.map kI) hb rv
 have key : ∃ ks' : List (List Int), (putK ys (k.map kI) v).map (·.1) = ks'.map (·.map kI) := by
  unfold putK
  split
  ·refine ⟨ks, ?_⟩
   rw [<- d.key, List.map_map]
   refine List.map_congr_left fun p _ => ?_
   show (if p.1 = k.map kI then (p.1, v) else p).1 = p.1
   split <;> rfl
  ·exact ⟨ks ++ [k], by rw [List.map_append, List.map_append, d.key]; rfl⟩
 obtain ⟨ks', key⟩ := key
 exact ⟨o', h1, h2, ⟨es, ep, h3, h4.trans (te_eq kt key).symm⟩, h6⟩
def DtG (H : Hp) (x y : V) (r : Option V) : Prop := ∃ (a b : Addr) (o : Obj) (xs : List (List L2.Key × Addr × Value)) (ks : List (List Int)) (ys : List (List L2.Key × V)) (k : List Int), x = .ref a /\ y = .ref b /\ H a = some (kn a o) /\ DtI H a o xs ks ys /\ H b = some (.tup ((k.map kI).map kV)) /\ r = valV ys (k.map kI)
section
variable {X : Cx} {e i value : Expr} {td ty tv : TE} {pos pos' : Pos}
def DtP (ys : List (List L2.Key × V)) (xs : List (List L2.Key × Addr × Value)) (b : Addr) (k : List Int) (v : V) (xs' : List (List L2.Key × Addr × Value)) : Prop := ∀ G : Hp, KT G ys xs -> G b = some (.tup ((k.map kI).map kV)) -> KT G (putK ys (k.map kI) v) xs'
def sDPt (td ty tv : TE) : TS := fun D σ H => tv σ H fun v H1 => td σ H1 fun x H2 => ty σ H2 fun y H3 => ∃ (a b : Addr) (o : Obj) (xs : List (List L2.Key × Addr × Value)) (ks : List (List Int)) (ys : List (List L2.Key × V)) (k : List Int), x = .ref a /\ y = .ref b /\ H3 a = some (kn a o) /\ DtI H3 a o xs ks ys /\ H3 b = some (.tup ((k.map kI).map kV)) /\ ∀ o' xs', DtN o' xs' -> DtP ys xs b k v xs' -> D.nx σ (upd H3 a (kn a o'))
theorem ps_dputT (hu : X.A.units + 1 < cLine) (ho : PE X e td) (hi : PE X i ty) (hv : PE X value tv) (hs : swapsWith value (some (.Subscript e i pos')) pos.line X.env = pure false) :
  PS X (.Assign [.Subscript e i pos'] value pos) (sDPt td ty tv) := by
 intro pins s σ H D I h
 refine wpAny_Assign_Subscript (thn (hv pins s σ H _ I h) fun r s1 ⟨v, H1, I1, rv, q1⟩ => thn (ho pins s1 σ H1 _ I1 q1) fun u s2 ⟨x, H2, I2, rx, q2⟩ => thn (hi pins s2 σ H2 _ I2 q2) fun iv s3 ⟨y, H3, I3, ry, a, b, o, xs, ks, ys, k, e1, e2, g1, g2, g3, q3⟩ => ?_) hs
 subst e1 e2
 obtain rfl : u = Value.ref a := rx
 obtain rfl : iv = Value.ref b := ry
 have hz : xs.length <= sizeLine := by rw [<- Paired.length g2.kt]; exact g2.len
 refine wpAny_setItem_heap (hsz := hz) (tupleKind_room_in1 hu) (zk8 I3.hok g3) (g2.of I3.hok g1) fun h' dd' hs => ?_
 obtain ⟨o', go, dn⟩ := DtN.of g2 rv g3 dd'
 exact ⟨σ, _, d_write I3 (by rw [g1]; exact True.intro) hs ⟨o', go⟩ (kn_ok go), q3 o' _ dn fun G kt gb => KT.put kt _ gb rv⟩
def tDNewt : TE := fun _ H Q => ∀ p o, H p = none -> (p == sysModules) = false -> DtN o [] -> Q (.ref p) (upd H p (kn p o))
theorem pe_dnewt : PE X (.Dict [] [] pos) tDNewt := fun pins s σ H Q I h =>
 wpAny_Dict_empty ⟨.ref s.heap.objs.size, _, I.laid (a := s.heap.objs.size) (o := kn s.heap.objs.size { cls := .type "dict", data := .dict #[] }) (t' := s.toks) (fun _ _ q => Heap.get?_push_of_some _ q) (Nat.le_refl _) (kn_ok (Heap.get?_push_size _ rfl)), rfl, h _ _ (I.hok.fresh (Nat.le_refl _)) (beq_eq_false_iff_ne.mpr (Ne.symm (Nat.ne_of_lt I.big))) ⟨⟨rfl, rfl, rfl⟩, ⟨#[], 0, rfl, rfl⟩, List.nodup_nil⟩⟩
end
def Sl.dit : Sl -> Option (List (List Int) × List D)
 | .tre (.dit ks ds) => some (ks, ds)
 | .ptr (.dit ks ds) => some (ks, ds)
 | .val (.dit ks ds) => some (ks, ds)
 | _ => none
def keyT : D -> Option (List Int)
 | .tup es => zba es
 | _ => none
theorem SI.dit (I : SI K B G H σ ρ) {s : Sl} (e : ρ[j]? = some s) (h : s.dit = some q) : ∃ p ys o xs, σ[j]? = some (some (.ref p)) /\ H p = some (kn p o) /\ DtI G p o xs q.1 ys /\ RepL K G (ys.map (·.2)) q.2 := by
 have tr : ∀ {t : T}, s.tree = some t -> t = .dit q.1 q.2 -> ∃ p ys o xs, σ[j]? = some (some (.ref p)) /\ H p = some (kn p o) /\ DtI G p o xs q.1 ys /\ RepL K G (ys.map (·.2)) q.2 := fun {t} h1 h2 => by
  subst h2
  obtain ⟨v, A, k1, ⟨p, ys, o, xs, rfl, e2, e3, e4, -⟩, _⟩ := I.tree e h1
  exact ⟨p, ys, o, xs, k1, e2, e3, e4⟩
 cases s with
 | tre t => cases t with
  | dit ks ds => cases h; exact tr rfl rfl
  | _ => cases h
 | ptr t => cases t with
  | dit ks ds => cases h; exact tr rfl rfl
  | _ => cases h
 | val d => cases d with
  | dit ks ds =>
   cases h
   obtain ⟨v, k1, a, ys, o, xs, rfl, e2, e3, e4⟩ := I.slot j _ e
   exact ⟨a, ys, o, xs, k1, I.fz _ _ e2, e3, e4⟩
  | _ => cases h
 | _ => cases h
theorem zlW (r : RepD K G v d) (e : keyT d = some k) : ∃ b, v = .ref b /\ G b = some (.tup ((k.map kI).map kV)) := by
 cases d with
 | tup es =>
  obtain ⟨b, xs, rfl, h, rl⟩ := r
  cases zgO e
  rw [RepL.ints_eq rl] at h
  refine ⟨b, rfl, h.trans ?_⟩
  rw [List.map_map]
  rfl
 | _ => cases e
def sDPT (j : Nat) (mk me : ME) : MS := fun ρ => (me ρ).bind fun p => if (p.2[j]?.bind Sl.dit).isSome then (mk p.2).bind fun q => (keyT q.1).bind fun k => q.2[j]?.bind fun s => match s.tree with
  | some (.dit ks ds) => if ks.length < 16777216 then some (.next, q.2.set j (s.putT (.dit (ptD ks ds k p.1).1 (ptD ks ds k p.1).2))) else none
  | _ => none else none
def sDNT (i : Nat) : MS := fun ρ => some (.next, ρ.set i (.tre (.dit [] [])))
def eKn (j : Nat) : ME := fun ρ => match ρ[j]? with
 | some (.tre (.dit ks ds)) => some (.dit ks ds, ρ.set j (.val (.dit ks ds)))
 | some (.val d) => some (d, ρ)
 | _ => none
section
variable {X : Cx} {x : Str} {a e : Expr} {tg : Expr} {mk me : ME} {pos p' tpos : Pos}
theorem DtI.put {p b : Addr} {o o' : Obj} {xs xs' : List (List L2.Key × Addr × Value)} {ys : List (List L2.Key × V)} (i : DtI G p o xs ks ys) (r : RepL K G (ys.map (·.2)) ds) (rv : RepD K G v d) (hl : ks.length < 16777216) (hb : G b = some (.tup ((n.map kI).map kV))) (dn : DtN o' xs') (dp : DtP ys xs b n v xs') : DtI G p o' xs' (ptD ks ds n d).1 (putK ys (n.map kI) v) /\ RepL K G ((putK ys (n.map kI) v).map (·.2)) (ptD ks ds n d).2 := by
 obtain ⟨m1, m2⟩ := pt_rep ziX (j := n) i.key r rv
 have len : ys.length = ks.length := by have := congrArg List.length i.key; simpa using this
 refine ⟨⟨i.sys, dn, ?_, m1, dp G i.kt hb⟩, m2⟩
 have := ziU ys (n.map kI) v
 rw [sizeLine_eq]; omega
theorem ss_dPutT (j : Nat) (hu : X.A.units + 64 < cLine) (he : SE X e me) (ha : SE X a mk) (hN : X.N[j]? = some x := by rfl) (hv : Vis X.env.scope x := by first | exact Or.inl rfl | exact Or.inr (Or.inl rfl) | exact Or.inr (Or.inr rfl)) (hd : (x == ("__debug__" : Str)) = false := by decide)
    (hcd : (x == ("__classdict__" : Str)) = false := by decide) (hs : swapsWith e (some (.Subscript (.Name x p') a tpos)) pos.line X.env = pure false := by rfl) : SS X (.Assign [.Subscript (.Name x p') a tpos] e pos) (sDPT j mk me) := by
  obtain ⟨t, pa, sa⟩ := ha
  obtain ⟨u, pe, se⟩ := he
  refine ⟨_, ps_dputT (by omega) (zbw hN hv hd hcd) pa pe hs, fun B G H σ ρ fl ρ' E I hm k => ?_⟩
  obtain ⟨⟨d, ρ1⟩, e1, hm⟩ := zad hm
  refine se B G H σ ρ d ρ1 _ I e1 fun G1 H1 v I1 f1 r1 => ?_
  split at hm
  . rename_i hso
    obtain ⟨q0, hso⟩ := Option.isSome_iff_exists.mp hso
    obtain ⟨s0, e0, d0⟩ := zad hso
    obtain ⟨p, _, _, _, k1, _⟩ := I1.dit e0 d0
    obtain ⟨⟨y, ρ2⟩, e2, hm⟩ := zad hm
    refine ⟨.ref p, k1, sa B G1 H1 σ ρ1 y ρ2 _ I1 e2 fun G2 H2 w I2 f2 r2 => ?_⟩
    obtain ⟨n, en, hm⟩ := zad hm
    obtain ⟨s, e3, hm⟩ := zad hm
    split at hm
    . rename_i ks ds q
      split at hm
      . rename_i hl
        cases hm
        obtain ⟨b, rfl, hb⟩ := zlW r2 en
        obtain ⟨v2, A, h1, h2, h3, h4, h5⟩ := I2.tree e3 q
        rw [k1] at h1; cases h1
        obtain ⟨p2, ys, o, xs, z, g2, g3, g4, rfl⟩ := h2
        cases z
        refine ⟨p, b, o, xs, ks, ys, n, rfl, rfl, g2, g3.mono I2.fz, I2.fz _ _ hb, fun o' xs' dn dp => ?_⟩
        obtain ⟨m1, m2⟩ := g3.put g4 (r1.mono f2) hl hb dn dp
        have rep : RepT X.K G2 (upd H2 p (kn p o')) (.ref p) (.dit (ptD ks ds n d).1 (ptD ks ds n d).2) [p] := ⟨p, _, o', xs', rfl, zar, m1, m2, rfl⟩
        exact k G2 _ σ (I2.chT e3 q k1 ⟨p, ys, o, xs, rfl, g2, g3, g4, rfl⟩ (I2.fz.right (h4 p (by simp)) _) (fun b o n h => by rw [zam (fun z => n (by simp [z]))]; exact h) (fun b h => by
          by_cases z : b = p
          . subst z; rw [zar] at h; cases h
          . rw [zam z] at h; exact h) rep (by simp) (fun a m => .inl m)) (f1.trans f2)
      . cases hm
    . cases hm
  . cases hm
theorem ss_dNewT (i : Nat) (hN : X.N.Nodup) (hi : X.N[i]? = some x := by rfl) (hx : Loc X.env.scope x := by first | exact Or.inl rfl | exact Or.inr rfl) (hs : swapsWith (.Dict [] [] tpos) (some (.Name x p')) pos.line X.env = pure false := by rfl)
    (hf : X.fn x = true \/ X.env.scope.names.lookup x = some .local := by first | exact Or.inl rfl | exact Or.inr rfl) : SS X (.Assign [.Name x p'] (.Dict [] [] tpos) pos) (sDNT i) := by
  refine ⟨_, zlR hN hi hx pe_dnewt hs hf, fun B G H σ ρ fl ρ' E I hm k => ?_⟩
  cases hm
  intro p o hp ns dn
  have nw : Nw X.K G (upd H p (kn p o)) σ ρ p := I.nw_move (I.nw hp) fun i s a _ _ g h => ⟨g, zam fun z => h (by rw [z]; exact hp)⟩
  exact k G _ _ ((I.allocO hp _).setT (A := [p]) ⟨p, [], o, [], rfl, zar, ⟨ns, dn, Nat.zero_le _, rfl, .nil⟩, RepL.nil, rfl⟩ (by simp) (fun a m => by
    have : a = p := by simpa using m
    subst this
    exact ⟨I.fz.free hp, I.there a hp, nw⟩)) (Fz.refl G)
theorem SI.know (I : SI K B G H σ ρ) (e : ρ[j]? = some (.tre (.dit ks es))) : ∃ p G', σ[j]? = some (some (.ref p)) /\ SI K B G' H σ (ρ.set j (.val (.dit ks es))) /\ Fz G G' /\ RepD K G' (.ref p) (.dit ks es) := by
 obtain ⟨v, A, h1, ⟨p, ys, o, xs, rfl, h2, h3, h4, rfl⟩, h5, h6⟩ := I.slot j _ e
 obtain ⟨g, hb⟩ := h6 p (by simp)
 have fz := Fz.new g (kn p o)
 have rep : RepD K (upd G p (kn p o)) (.ref p) (.dit ks es) := ⟨p, ys, o, xs, rfl, zar, h3.mono fz, h4.mono fz⟩
 have I2 := I.chg (i := j) (ov := some (.ref p)) (s' := .val (.dit ks es)) (G' := upd G p (kn p o)) (H' := H) (fun a u q => by
   by_cases z : a = p
   ·subst z; rw [zar] at q; cases q; exact h2
   ·rw [zam z] at q; exact I.fz a u q) fz (fun b u q => by
   by_cases z : b = p
   ·subst z; exact .inr hb
   ·rw [zam z] at q; exact I.new b u q) I.keep I.there (fun i t a z ei w g' _ => by
   have na : a ≠ p := fun q => by subst q; exact I.dis i j t _ a z ei e w ⟨_, _, h1, ⟨a, ys, o, xs, rfl, h2, h3, h4, rfl⟩, by simp⟩
   exact ⟨by rw [zam na]; exact g', rfl, id⟩) ⟨.ref p, rfl, rep⟩
 rw [zgp h1] at I2
 exact ⟨p, _, h1, I2, fz, rep⟩
theorem se_know (j : Nat) (hN : X.N[j]? = some x := by rfl) (hv : Vis X.env.scope x := by first | exact Or.inl rfl | exact Or.inr (Or.inl rfl) | exact Or.inr (Or.inr rfl)) (hd : (x == ("__debug__" : Str)) = false := by decide)
  (hcd : (x == ("__classdict__" : Str)) = false := by decide) : SE X (.Name x p') (eKn j) := by
 refine ⟨_, zbw hN hv hd hcd, fun B G H σ ρ d ρ' Q I hm k => ?_⟩
 unfold eKn at hm
 split at hm
 ·rename_i ks es e
  cases hm
  obtain ⟨p, G', h1, h2, h3, h4⟩ := I.know e
  exact ⟨.ref p, h1, k _ _ _ h2 h3 h4⟩
 ·rename_i d' e
  cases hm
  obtain ⟨v, h1, h2⟩ := I.slot j _ e
  exact ⟨v, h1, k G H v I (Fz.refl G) h2⟩
 ·cases hm
end
end M
namespace M
open L2 PySem PySem.Spec
open PyProof.Rows hiding St
variable {K : W.Frag} {G H G' : Hp} {wi : TI} {tg' : Addr -> Shared -> Hp -> List Addr -> TG} {tt : Addr -> Shared -> Hp -> List Addr -> TT} {te : Addr -> Shared -> Hp -> List Addr -> TE} {x : Str} {c : Int} {pc : Pos} {B : Bs} {σ : St} {ρ : R} {j i n q : Nat} {cs : List Ch} {a : Addr}
def fzDT (j : Nat) (ρ : R) : R := match ρ[j]? with
 | some (.tre (.dit ks ds)) => ρ.set j (.val (.dit ks ds))
 | _ => ρ
def eCallU (F : List D -> Option Sl) (ma : MA) : ME := fun ρ => (ma ρ).bind fun p => (F p.1).bind fun r => match r with
 | .tre (.tup cs) => some (.tup (cs.map Ch.D), p.2)
 | _ => none
def fzU (j : Nat) (ρ : R) : R := match ρ[j]? with
 | some (.tre (.tup cs)) => ρ.set j (.val (.tup (cs.map Ch.D)))
 | _ => ρ
def zhN (f : D -> R -> Option (Option (List D) × R)) : List D -> R -> Option (List (List D) × R)
 | [], ρ => some ([], ρ)
 | d :: ds, ρ => (f d ρ).bind fun p => (zhN f ds p.2).map fun q => (p.1.toList ++ q.1, q.2)
def zkx (g : D -> R -> Option R) (mt : MT) (mo : MO) : D -> R -> Option (Option (List D) × R) := fun d ρ => (g d ρ).bind fun ρ1 => (mt ρ1).bind fun p => if p.1 then (mo p.2).bind fun q => if zbT q.2 then some (some q.1, q.2) else none else if zbT p.2 then some (none, p.2) else none
def sTC (i : Nat) (cap : List Nat) (t : Nat) (mi : MA) (g : D -> R -> Option R) (mt : MT) (mo : MO) : MS := fun ρ => (mi ρ).bind fun p => if p.1.length <= 16777216 then (zhN (zkx g mt mo) p.1 (capR cap t (fzL cap p.2))).map fun q => (.next, (fzL cap p.2).set i (.tre (.lst (q.1.map .l)))) else none
def zeO : List Ch -> Option (List (List D))
 | [] => some []
 | .l ds :: cs => (zeO cs).map (ds :: ·)
 | _ => none
structure LcT (K : W.Frag) (g : D -> R -> Option R) (mt : MT) (mo : MO) (items : List D) (all : List (List D)) (G2 H1 : Hp) (DD : Addr) (i : Nat) (σc : St) (Hc Gc : Hp) (ρc : R) (acc : List (List D)) (xs : List V) (A : List Addr) (rest : List (List D)) (ρe : R) : Prop where
 fc : Fz G2 Gc
 fcH : Fz Gc Hc
 nw : ∀ b o, Gc b = some o -> G2 b ≠ none \/ H1 b = none
 kp : ∀ b o, H1 b = some o -> Hc b = some o
 gD : Gc DD = none
 hDc : Hc DD = some (.lst xs)
 ra : RepTb K Gc Hc xs acc A
 nd : A.Nodup
 fr : ∀ a ∈ A, Gc a = none /\ H1 a = none /\ a ≠ DD
 hx : xs.length <= i
 vs : VS K Gc σc ρc
 ec : zhN (zkx g mt mo) (items.drop i) ρc = some (rest, ρe)
 eall : all = acc ++ rest
theorem zg6 : ∀ {xs : List V} {dss : List (List D)} {A : List Addr} {l : Addr} {ys : List V} {ds : List D}, RepTb K G H xs dss A -> H l = some (.lst ys) -> RepL K G ys ds -> RepTb K G H (xs ++ [.ref l]) (dss ++ [ds]) (A ++ [l])
 | [], [], _, l, ys, ds, h, h1, h2 => by rw [show _ = [] from h]; exact ⟨l, ys, [], rfl, h1, h2, rfl, rfl⟩
 | x :: xs, e :: dss, _, l, ys, ds, ⟨r, zs, A2, e1, e2, e3, e4, e5⟩, h1, h2 => ⟨r, zs, A2 ++ [l], e1, e2, e3, zg6 e4 h1 h2, by rw [e5]; rfl⟩
 | [], _ :: _, _, _, _, _, h, _, _ => h.elim
 | _ :: _, [], _, _, _, _, h, _, _ => h.elim
section
variable {X : Cx} {elt iter tg : Expr} {ifs : List Expr} {scope : Scope} {pos : Pos} {N : List Str} {cap : List Nat} {t : Nat} {mi : MA} {g : D -> R -> Option R} {mt : MT} {mo : MO}
theorem zlx (i0 : Nat) 
  (si : ∀ B G H σ ρ ds ρ' (Q : It -> Hp -> Prop), SI X.K B G H σ ρ -> mi ρ = some (ds, ρ') -> (∀ J G' H', SI X.K B G' H' σ ρ' -> Fz G G' -> Itm X.K J G' ds -> Q J H') -> wi σ H Q)
  (sg : ∀ C s H₀ fp B G H σ ρ v d ρ' (Q : St -> Hp -> Prop), SI X.K B G H σ ρ -> RepD X.K G v d -> g d ρ = some ρ' -> (∀ G' H' σ', SI X.K B G' H' σ' ρ' -> Fz G G' -> Q σ' H') -> tg' C s H₀ fp v σ H Q)
  (st : ∀ C s H₀ fp B G H σ ρ d ρ' (Q : Bool -> Hp -> Prop), SI X.K B G H σ ρ -> mt ρ = some (d, ρ') -> (∀ G' H', SI X.K B G' H' σ ρ' -> Fz G G' -> Q d H') -> tt C s H₀ fp σ H Q)
  (se : ∀ C s H₀ fp B G H σ ρ ds ρ' (Q : VK), SI X.K B G H σ ρ -> mo ρ = some (ds, ρ') -> (∀ G' H' l xs, SI X.K B G' H' σ ρ' -> Fz G G' -> G' l = none -> H' l = some (.lst xs) -> RepL X.K G' xs ds -> B.H l = none -> Nw X.K G' H' σ ρ' l -> Q (.ref l) H') -> te C s H₀ fp σ H Q) :
  ∀ B G H σ ρ fl ρ' (E : Ends), SI X.K B G H σ ρ -> sTC i0 cap t mi g mt mo ρ = some (fl, ρ') -> Post X.K B G E fl ρ' -> tLC (capσ cap t) wi tg' tt te σ H fun v H' => E.nx (σ.set i0 (some v)) H' := by
 intro B G H σ ρ fl ρ' E I hm k
 obtain ⟨⟨items, ρ1⟩, e1, hm⟩ := zad hm
 refine si B G H σ ρ items ρ1 _ I e1 fun J G1 H1 I1 f1 IT DD hD => ?_
 dsimp only at hm
 split at hm
 ·rename_i hlen
  obtain ⟨⟨all, ρf⟩, e2, e3⟩ := zas hm
  obtain ⟨rfl, rfl⟩ := Prod.mk.inj e3
  obtain ⟨G2, I2, f2⟩ := SI.fzL cap I1
  have hDG : G2 DD = none := I2.fz.free hD
  refine ⟨fun i m σc Hc => m = items.length - i /\ i <= items.length /\ ∃ Gc ρc acc xs A rest ρe, LcT X.K g mt mo items all G2 H1 DD i σc Hc Gc ρc acc xs A rest ρe,
   ⟨items.length, by simp, Nat.zero_le _, G2, capR cap t (M.fzL cap ρ1), [], [], [], all, ρf, { fc := Fz.refl _, fcH := I2.fz.right hDG _, nw := fun b o e => .inl (by rw [e]; simp), kp := fun b o e => by rw [zam (zaq e hD)]; exact e, gD := hDG, hDc := zar, ra := rfl, nd := by simp, fr := fun a m => (by cases m), hx := Nat.le_refl _, vs := zjM I2 cap t, ec := by simpa using e2, eall := rfl }⟩, ?_⟩
  rintro i m σc Hc ⟨rfl, hi, Gc, ρc, acc, xs, A, rest, ρe, J0⟩
  obtain ⟨fc, fcH, nw, kp, gD, hDc, ra, nd, fr, hx, vs, ec, eall⟩ := J0
  by_cases hlt : i < items.length
  ·refine .inr ⟨IT.go Hc i (f2.trans (fc.trans fcH)) hlt, fun C s₀ H₀ fp x H' y => ?_⟩
   rw [List.drop_eq_getElem_cons hlt] at ec
   simp only [zhN] at ec
   obtain ⟨⟨o, ρ3⟩, h3, ec⟩ := zad ec
   obtain ⟨⟨rest2, ρ4⟩, h4, ec⟩ := zas ec
   obtain ⟨rfl, rfl⟩ := Prod.mk.inj ec
   dsimp only at h4
   unfold zkx at h3
   obtain ⟨ρ5, h5, h3⟩ := zad h3
   obtain ⟨⟨ok, ρ6⟩, h6, h3⟩ := zad h3
   dsimp only at h3
   have Ic : SI X.K ⟨Gc, Hc, []⟩ Gc Hc σc ρc := vs.si fcH
   have fz2 : Fz G1 Hc := f2.trans (fc.trans fcH)
   have yy := IT.yld Hc i x H' fz2 y items[i] (List.getElem?_eq_getElem hlt)
   have yy2 : (H' = Hc /\ RepD X.K Gc x items[i]) \/ ∃ p xs es, Hc p = none /\ H' = upd Hc p (.tup xs) /\ x = .ref p /\ items[i] = .tup es /\ RepL X.K Gc xs es := by
    rcases yy with ⟨a, b⟩ | ⟨p, xs, es, a, b, c, d, e⟩
    ·exact .inl ⟨a, b.mono (f2.trans fc)⟩
    ·exact .inr ⟨p, xs, es, a, b, c, d, e.mono (f2.trans fc)⟩
   obtain ⟨G3, I3, f3, r3⟩ := Ic.yld yy2
   refine sg C s₀ H₀ fp _ G3 H' σc ρc x items[i] ρ5 _ I3 r3 h5 fun G4 H4 σ4 I4 f4 => st C s₀ H₀ fp _ G4 H4 σ4 ρ5 ok ρ6 _ I4 h6 fun G5 H5 I5 f5 => ?_
   have facts : ∀ (G' H' : Hp) (σ' : St) (ρ' : R), SI X.K ⟨Gc, Hc, []⟩ G' H' σ' ρ' -> Fz Gc G' -> (∀ b o, G' b = some o -> G2 b ≠ none \/ H1 b = none) /\ (∀ b o, H1 b = some o -> H' b = some o) /\ G' DD = none /\ H' DD = some (.lst xs) /\ RepTb X.K G' H' xs acc A /\ ∀ a ∈ A, G' a = none /\ H1 a = none /\ a ≠ DD := fun G' H' σ' ρ' I' ff => by
    have stay : ∀ b o, Gc b = none -> Hc b = some o -> G' b = none := fun b o h1 h2 => by
     cases q : G' b with
     | none => rfl
     | some u =>
      rcases I'.new b u q with h | h
      ·exact absurd h1 h
      ·rw [show Hc b = none from h] at h2; cases h2
    refine ⟨fun b o e => ?_, fun b o e => I'.keep b o (kp b o e) (by simp), stay DD _ gD hDc, I'.keep DD _ hDc (by simp), ra.move ff fun a m => ?_, fun a m => ?_⟩
    ·rcases I'.new b o e with h | h
     ·have h : Gc b ≠ none := h
      cases q : Gc b with
      | none => exact absurd q h
      | some u => exact nw b u q
     ·refine .inr ?_
      cases q : H1 b with
      | none => rfl
      | some u => have := kp b u q; rw [show Hc b = none from h] at this; cases this
    ·obtain ⟨zs, z⟩ := ra.here m
     rw [z]; exact I'.keep a _ z (by simp)
    ·obtain ⟨zs, z⟩ := ra.here m
     exact ⟨stay a _ (fr a m).1 z, (fr a m).2⟩
   cases ok with
   | false =>
    simp only [Bool.false_eq_true, if_false] at h3
    split at h3
    ·rename_i hno
     cases h3
     obtain ⟨a1, a2, a3, a4, a5, a6⟩ := facts G5 H5 σ4 _ I5 (f3.trans (f4.trans f5))
     exact ⟨items.length - (i + 1), by omega, rfl, hlt, G5, _, acc, xs, A, rest2, ρ4, { fc := fc.trans (f3.trans (f4.trans f5)), fcH := I5.fz, nw := a1, kp := a2, gD := a3, hDc := a4, ra := a5, nd := nd, fr := a6, hx := by omega, vs := VS.of I5 hno, ec := h4, eall := by simpa using eall }⟩
    ·cases h3
   | true =>
    simp only [if_true] at h3 ⊢
    obtain ⟨⟨dv, ρ7⟩, h7, h3⟩ := zad h3
    dsimp only at h3
    split at h3
    ·rename_i hno
     cases h3
     refine se C s₀ H₀ fp _ G5 H5 σ4 ρ6 dv _ _ I5 h7 fun G6 H6 l ys I6 f6 g6 h6l r6 b6 n6 => ?_
     have ff : Fz Gc G6 := f3.trans (f4.trans (f5.trans f6))
     obtain ⟨a1, a2, a3, a4, a5, a6⟩ := facts G6 H6 σ4 _ I6 ff
     have b6 : Hc l = none := b6
     have lD : l ≠ DD := fun z => by rw [z, hDc] at b6; cases b6
     have lA : l ∉ A := fun m => by obtain ⟨zs, z⟩ := ra.here m; rw [b6] at z; cases z
     have l1 : H1 l = none := by
      cases q : H1 l with
      | none => rfl
      | some u => rw [kp l u q] at b6; cases b6
     refine ⟨xs, a4, by rw [sizeLine_eq]; omega, items.length - (i + 1), by omega, rfl, hlt, G6, _, acc ++ [dv], xs ++ [.ref l], A ++ [l], rest2, ρ4, { fc := fc.trans ff, fcH := I6.fz.right a3 _, nw := a1, kp := fun b o e => by rw [zam (zaq e hD)]; exact a2 b o e, gD := a3, hDc := zar, ra := ?_, nd := ?_, fr := fun a m => ?_, hx := by rw [List.length_append, List.length_singleton]; omega, vs := VS.of I6 hno, ec := h4, eall := by simpa using eall }⟩
     ·refine zg6 (a5.move (Fz.refl G6) fun a m => zam (a6 a m).2.2) (by rw [zam lD]; exact h6l) r6
     ·refine List.nodup_append.mpr ⟨nd, by simp, fun a ma b mb z => ?_⟩
      have : b = l := by simpa using mb
      subst this; subst z; exact lA ma
     ·rcases List.mem_append.mp m with m | m
      ·exact a6 a m
      ·have : a = l := by simpa using m
       subst this
       exact ⟨g6, l1, lD⟩
    ·cases h3
  ·have e : i = items.length := by omega
   subst e
   rw [List.drop_length] at ec
   cases ec
   have hall : all = acc := by rw [eall, List.append_nil]
   refine .inl ⟨IT.stop Hc _ (f2.trans (fc.trans fcH)) (Nat.le_refl _), ?_⟩
   rw [<- hall] at ra
   have I3 := I2.grow fc fcH nw kp
   refine k Gc Hc _ (I3.setT (i := i0) (v := .ref DD) (A := DD :: A) ⟨DD, xs, A, rfl, hDc, tb_cs ra, rfl⟩ (List.nodup_cons.mpr ⟨fun m => (fr DD m).2.2 rfl, nd⟩) fun a m => ?_) (f1.trans (f2.trans fc))
   rcases List.mem_cons.mp m with rfl | m
   ·exact ⟨gD, I2.there a hD, I2.own_ne hD nw kp⟩
   ·exact ⟨(fr a m).1, I2.there a (fr a m).2.1, I2.own_ne (fr a m).2.1 nw kp⟩
 ·cases hm
theorem zhX (i : Nat) {lpos pos' : Pos} (cap : List Nat) (t : Nat) (N : List Str) (hc : X.calm = true) (hi : SIt X tg iter mi) (hg : ∀ C s H fp, SG (cxC X N scope C s H fp) tg g) (ht : ∀ C s H fp, STs (cxC X N scope C s H fp) ifs mt) (he : ∀ C s H fp, SO (cxC X N scope C s H fp) elt mo) (hN : X.N.Nodup)
    (hxi : X.N[i]? = some x := by rfl) (hx : Loc X.env.scope x := by first | exact Or.inl rfl | exact Or.inr rfl) (hf : X.fn x = true \/ X.env.scope.names.lookup x = some .local := by first | exact Or.inl rfl | exact Or.inr rfl)
    (hsw : swapsWith (.ListComp elt [⟨tg, iter, ifs, 0⟩] scope lpos) (some (.Name x pos')) pos.line X.env = pure true := by rfl)
    (hk : scope.kind = .function := by rfl) (hb : blkB X.env scope = true := by kernel_rfl) (hcap : capB scope.names N X.N cap t = true := by kernel_rfl)
    (hs : ∀ x, foldedSetIterable iter X.env x = pure x := by exact fun _ => rfl) : SS X (.Assign [.Name x pos'] (.ListComp elt [⟨tg, iter, ifs, 0⟩] scope lpos) pos) (sTC i cap t mi g mt mo) := by
  obtain ⟨wi, pi, si⟩ := hi
  exact ⟨_, zjY hN hxi hx hf hsw hc (ziA hk hb) (ziC hcap) pi (fun C s H fp => (hg C s H fp).choose_spec.1) (fun C s H fp => (ht C s H fp).choose_spec.1) (fun C s H fp => (he C s H fp).choose_spec.1) hs,
    zlx i si (fun C s H fp => (hg C s H fp).choose_spec.2) (fun C s H fp => (ht C s H fp).choose_spec.2) (fun C s H fp => (he C s H fp).choose_spec.2)⟩
end
section
variable {X : Cx} {x y : Str} {pos p' q' tpos : Pos} {e a b : Expr} {es : List Expr} {mo : MO}
theorem zi1 : ∀ {cs : List Ch} {xss : List (List D)}, zeO cs = some xss -> cs = xss.map .l
 | [], _, h => by cases h; rfl
 | .l ds :: cs, _, h => by obtain ⟨yss, e1, e2⟩ := zas h; cases e2; rw [zi1 e1]; rfl
 | .d _ :: _, _, h => by cases h
 | .t _ :: _, _, h => by cases h
theorem zl3 : PGet X (rIxL X.K) := by
 intro pins s σ H x y v u Q I rx ry h
 obtain ⟨p, xs, i, z, rfl, rfl, hq, he, q⟩ := h
 cases rx
 obtain ⟨t, rfl⟩ := ry
 obtain ⟨its, r, pl, hz⟩ := I.list hq
 obtain ⟨j, h1, h2, h3, h4, h5⟩ := zhK he
 obtain ⟨w, ew, rw'⟩ := r.get h2
 have hl := r.length
 have hn := zgH
 have fin : EP X pins σ Q w s := ⟨z, H, I, rw', q⟩
 by_cases h0 : 0 <= i
 ·have hj : i.toNat = j := by
   rw [seqIndex_of h0 h5] at h1
   exact Option.some.inj h1
  exact wpAny_getItem_list pl.isList h0 (by omega) (by rw [hj]; simpa using ew) fin
 ·have hj : (i + (its.toArray.size : Int)).toNat = j := by
   rw [seqIndex_neg (by omega) h4] at h1
   rw [List.size_toArray, <- hl]
   exact Option.some.inj h1
  exact wpAny_getItem_list_neg pl.isList (by omega) (by rw [List.size_toArray] <;> omega) (by omega) (by rw [hj]; simpa using ew) fin
end
def zlC (j : Nat) (c : Int) (mk : ME) : ME := fun ρ => if (ρ[j]?.bind Sl.dit).isSome then (mk ρ).bind fun p => (keyT p.1).bind fun k => (p.2[j]?.bind Sl.dit).map fun q => ((lkD q.1 q.2 k).getD (.int c), p.2) else none
section
variable {X : Cx} {o e f a b : Expr} {td ty : TE} {apos cpos pos : Pos}
def tDGT2 (td ty : TE) (c : Int) : TE := fun σ H Q => td σ H fun x H1 => (∃ (a : Addr) (o : Obj) (xs : List (List L2.Key × Addr × Value)) (ks : List (List Int)) (ys : List (List L2.Key × V)), x = .ref a /\ H1 a = some (kn a o) /\ DtI H1 a o xs ks ys) /\ ty σ H1 fun y H2 => ∃ r, DtG H2 x y r /\ Q (r.getD (.int c)) H2
theorem zly {jc} (hu : X.A.units + 1 < cLine) (ho : PE X o td) (he : PE X e ty) (m : M2 X o "get" apos e (.Constant (.int c) jc pc) cpos) : PE X (.Call (.Attribute o "get" apos) [e, .Constant (.int c) jc pc] [] cpos) (tDGT2 td ty c) := by
 intro pins s σ H Q I h
 refine wpAny_Call_method m.base m.few m.line PySem.F.plainAttrs_dict PySem.F.slot_dict_get PySem.F.type_dict_get (thn (ho pins s σ H _ I h) fun u s1 ⟨x, H1, I1, rx, ⟨a, ob, xs, ks, ys, ex, d1, d2⟩, q1⟩ => ?_)
 subst ex
 obtain rfl : u = Value.ref a := rx
 have dd1 := d2.of I1.hok d1
 refine ⟨dd1.typeIs, fun b q => ?_, ?_⟩
 ·cases q
  obtain ⟨ob, _, _, h1, h2, _⟩ := dd1
  exact ⟨ob, h1, h2.2.1⟩
 rw [m.trees]
 refine Calls.callWith_builtin rfl (Calls.evalArgs_plain (Calls.spliced_cons (thn (he pins s1 σ H1 _ I1 q1) fun iv s2 ⟨y, H2, I2, ry, r, g, q2⟩ =>
  Calls.spliced_cons (thn ((pe_int (i := c) (j := jc) (pos := pc)) pins s2 σ H2 (fun v H' => v = .int c /\ H' = H2) I2 ⟨rfl, rfl⟩) fun fv s3 ⟨z, H3, I3, rz, ez, eH⟩ => Calls.spliced_nil ?_))))
 subst ez; subst eH
 obtain ⟨a', b, o', xs', ks', ys', k, ex, rfl, g1, g2, g3, g4⟩ := g
 cases ex
 obtain rfl : iv = Value.ref b := ry
 have dd := g2.of I3.hok g1
 refine call_meetsIn PySem.F.slot_dict_get dd.typeIs PySem.F.entry_dict_get (PySem.F.args_dict_get_3 _ _ _) (meetsH_dict_get_default (tupleKind (zbj X.prog X.w)) a b g2.sys fv) ⟨tupleKind_room_in1 hu, k.map kI, xs', zk8 I3.hok g3, dd, ?_⟩
 refine ⟨_, H3, I3.tok _, ?_, q2⟩
 rw [g4]
 exact (KT.val g2.kt _).getD rz
variable {x : Str} {mk : ME} {p' : Pos}
theorem ziv (j : Nat) {jc} (hu : X.A.units + 64 < cLine) (ha : SE X a mk) (m : M2 X (.Name x p') "get" apos a (.Constant (.int c) jc pc) pos) (hN : X.N[j]? = some x := by rfl) (hv : Vis X.env.scope x := by first | exact Or.inl rfl | exact Or.inr (Or.inl rfl) | exact Or.inr (Or.inr rfl)) (hd : (x == ("__debug__" : Str)) = false := by decide)
  (hcd : (x == ("__classdict__" : Str)) = false := by decide) : SE X (.Call (.Attribute (.Name x p') "get" apos) [a, .Constant (.int c) jc pc] [] pos) (zlC j c mk) := by
 obtain ⟨t, pa, sa⟩ := ha
 refine ⟨_, zly (show X.A.units + 1 < cLine by omega) (zbw hN hv hd hcd) pa m, fun B G H σ ρ d ρ' Q I hm k => ?_⟩
 unfold zlC at hm
 split at hm
 ·rename_i hso
  obtain ⟨q0, hso⟩ := Option.isSome_iff_exists.mp hso
  obtain ⟨s0, e0, d0⟩ := zad hso
  obtain ⟨p, ys0, o0, xs0, k1, k2, k3, _⟩ := I.dit e0 d0
  obtain ⟨⟨y, ρ1⟩, e1, hm⟩ := zad hm
  refine ⟨.ref p, k1, ⟨p, o0, xs0, _, ys0, rfl, k2, k3.mono I.fz⟩, sa B G H σ ρ y ρ1 _ I e1 fun G1 H1 v I1 f1 r1 => ?_⟩
  obtain ⟨n, en, hm⟩ := zad hm
  obtain ⟨q, e2, hm⟩ := zas hm
  cases hm
  obtain ⟨s, e5, e6⟩ := zad e2
  obtain ⟨p', ys, o, xs, m1, m2, m3, m4⟩ := I1.dit e5 e6
  rw [k1] at m1; cases m1
  obtain ⟨b, rfl, hb⟩ := zlW r1 en
  refine ⟨valV ys (n.map kI), ⟨p, b, o, xs, q.1, ys, n, rfl, rfl, m2, m3.mono I1.fz, I1.fz _ _ hb, rfl⟩, ?_⟩
  cases h : lkD q.1 q.2 n with
  | none => rw [h] at k; rw [zkW ziX m3.key m4 h]; exact k G1 H1 _ I1 f1 rfl
  | some d => rw [h] at k; obtain ⟨w, h1, h2⟩ := zl7 ziX m3.key m4 h; rw [h1]; exact k G1 H1 w I1 f1 h2
 ·cases hm
end
def sRv (i : Nat) : MS := fun ρ => match ρ[i]? with
 | some (.own ds) => some (.next, ρ.set i (.own ds.reverse))
 | _ => none
def sTGe (j : Nat) (mi mq : MQ) (me : ME) : MS := fun ρ => if zbT (ρ.set j .emp) then (mi ρ).bind fun a => (mq ρ).bind fun b => (me (ρ.set j .emp)).bind fun p => match a, b, p.1, ρ[j]? with
 | .int n, .int m, .int z, some (.tre (.lst cs)) => (ixN cs.length n).bind fun u => match cs[u]? with
  | some (.l ds) => (ixN ds.length m).bind fun w => match ds[w]? with
   | some (.int y) => some (.next, ρ.set j (.tre (.lst (cs.set u (.l (ds.set w (.int (y + z))))))))
   | _ => none
  | _ => none
 | _, _, _, _ => none else none
section
variable {X : Cx} {x : Str} {pos p' q' tpos : Pos} {a b e : Expr}
theorem si_of (I : SI K B G H σ ρ) (h : zbT ρ = true) : SI K ⟨G, H, []⟩ G H σ ρ where
 fz := I.fz
 g0 := Fz.refl G
 new := fun b o q => .inl (by rw [show (⟨G, H, []⟩ : Bs).G b = G b from rfl, q]; simp)
 keep := fun b o q _ => q
 there := fun b q => q
 len := I.len
 ob := fun i b m => by simp at m
 slot := fun i s q => by
  have r := I.slot i s q
  have t := zdi h q
  have w := zdy h (i := i)
  cases s with
  | tre t' => exact absurd rfl (t.1 t')
  | ptr t' => exact absurd rfl (t.2 t')
  | own ds => exact absurd ⟨_, ds, q, rfl⟩ w
  | par ds => exact absurd ⟨_, ds, q, rfl⟩ w
  | _ => exact r
 dis := fun i j s t a _ q _ w => absurd w (zgg h q)
theorem ss_tAugE (j : Nat) {mi mk : MQ} {me : ME} (ha : SQ X a mi) (hb : SQ X b mk) (he : SE X e me) (hN : X.N[j]? = some x := by rfl) (hv : Vis X.env.scope x := by first | exact Or.inl rfl | exact Or.inr (Or.inl rfl) | exact Or.inr (Or.inr rfl)) (hd : (x == ("__debug__" : Str)) = false := by decide)
  (hcd : (x == ("__classdict__" : Str)) = false := by decide) (hsa : zdX a := by exact fun _ _ => rfl)
  (hau : ∀ ov iv new, augStore b ov iv new = (do holding [new, ov, iv] (setItem ov iv new); release [new, ov, iv] []; pure .next) := by intros; rfl) : SS X (.AugAssign (.Subscript (.Subscript (.Name x p') a q') b tpos) .Add e pos) (sTGe j mi mk me) := by
 obtain ⟨ta, pa, sa⟩ := ha
 obtain ⟨tb, pb, sb⟩ := hb
 obtain ⟨te, pe, se⟩ := he
 refine ⟨_, ps_augS (zkA ix_list (zbw hN hv hd hcd) pa hsa) pb zl3 pe ip_add zhB hau, fun B G H σ ρ fl ρ' E I hm k => ?_⟩
 unfold sTGe at hm
 split at hm
 ·rename_i no
  obtain ⟨va, e1, hm⟩ := zad hm
  obtain ⟨vb, e2, hm⟩ := zad hm
  obtain ⟨⟨vc, ρ3⟩, e3, hm⟩ := zad hm
  dsimp only at hm
  obtain ⟨n, rfl⟩ : ∃ n, va = .int n := by cases va <;> first | exact ⟨_, rfl⟩ | cases hm
  obtain ⟨m, rfl⟩ : ∃ n, vb = .int n := by cases vb <;> first | exact ⟨_, rfl⟩ | cases hm
  obtain ⟨z, rfl⟩ : ∃ n, vc = .int n := by cases vc <;> first | exact ⟨_, rfl⟩ | cases hm
  split at hm
  ·rename_i x1 x2 x3 x4 n' m' z' cs y1 y2 y3 e4
   cases y1; cases y2; cases y3
   obtain ⟨u, e5, hm⟩ := zad hm
   split at hm
   ·rename_i ds e6
    obtain ⟨w, e7, hm⟩ := zad hm
    split at hm
    ·rename_i yy e8
     cases hm
     obtain ⟨v0, A, q1, q2, q3, q4⟩ := I.slot j _ e4
     have q2' := q2
     obtain ⟨p, xs, A', rfl, g1, g2, rfl⟩ := q2
     obtain ⟨y, A1, j1, ⟨l, ys, rfl, j2, j3, j4⟩, j5⟩ := zd5 g2 e6
     have lA : l ∈ A' := j5 l (by rw [j4]; simp)
     have nd := List.nodup_cons.mp q3
     obtain ⟨x0, x1, x2⟩ := j3.get e8
     refine ⟨.ref p, q1, sa B G H σ ρ _ _ I e1 fun v1 w1 => ?_⟩
     refine ⟨p, xs, n, .ref l, rfl, w1, SqL.of g1, zjA (by rw [zfl g2]; exact e5) j1, sb B G H σ ρ _ _ I e2 fun v2 w2 => ?_⟩
     refine ⟨l, ys, m, x0, rfl, w2, SqL.of j2, zjA (by rw [j3.length]; exact e7) x1, ?_⟩
     refine se _ G H σ _ _ ρ3 _ (si_of (I.emp j) no) e3 fun G1 H1 v3 J1 f1 w3 => ?_
     have kp : Fz H H1 := fun b o q => J1.keep b o q fun i m => by simp at m
     have nw : ∀ b o, G1 b = some o -> G b ≠ none \/ H b = none := fun b o q => J1.new b o q
     have I1 := I.grow f1 J1.fz nw kp
     have kpA : ∀ a ∈ p :: A', H1 a = H a := fun a m => by
      obtain ⟨o, ho⟩ := Option.ne_none_iff_exists'.mp (q2'.here m)
      rw [ho]; exact kp _ _ ho
     have h2n := q2'.move f1 kpA
     have g2n : RepCs X.K G1 H1 xs cs A' := g2.move f1 fun a m => kpA a (by simp [m])
     refine ⟨yy, z, x2, w3, l, ys, m, w, rfl, w2, kp _ _ j2, by rw [j3.length]; exact e7, ?_⟩
     have rep : RepT X.K G1 (upd H1 l (.lst (ys.set w (.int (yy + z))))) (.ref p) (.lst (cs.set u (.l (ds.set w (.int (yy + z)))))) (p :: A') :=
      ⟨p, xs, A', rfl, by rw [zam fun z => nd.1 (by rw [z]; exact lA)]; exact kp _ _ g1, zgE g2n nd.2 e6 j1 ((j3.mono f1).set w rfl), rfl⟩
     have gl : G1 l = none := by
      obtain ⟨v5, A5, r1, r2, r3, r4⟩ := I1.slot j _ e4
      rw [q1] at r1; cases r1
      have : A5 = p :: A' := r2.det h2n fun _ _ => rfl
      exact (r4 l (by rw [this]; simp [lA])).1
     refine k G1 _ σ (I1.chT2 e4 q1 h2n (I1.fz.right gl _) (fun b o nb h => by rw [zam (fun z => nb (by rw [z]; simp [lA]))]; exact h) (fun b h => ?_) rep q3 fun a m => .inl m) f1
     by_cases z : b = l
     ·subst z; rw [zar] at h; cases h
     ·rw [zam z] at h; exact h
    ·cases hm
   ·cases hm
  ·cases hm
 ·cases hm
end
def zi3 (b c : Nat) (ρ : R) : Bool := match ρ[b]?, ρ[c]? with
 | some (.par _), some (.par _) => zbT ((ρ.set b .emp).set c .emp)
 | _, _ => false
def zke (b c : Nat) (g : D -> R -> Option R) (mt : MT) (me : ME) : D -> R -> Option (Option D × R) := fun d ρ => (g d ρ).bind fun ρ1 => (mt ρ1).bind fun p => if p.1 then (me p.2).bind fun q => if zi3 b c q.2 then some (some q.1, q.2) else none else if zi3 b c p.2 then some (none, p.2) else none
def oLC2 (cap : List Nat) (t b w c v : Nat) (mi : MA) (g : D -> R -> Option R) (mt : MT) (me : ME) : MO := fun ρ => (mi ρ).bind fun p => if p.1.length <= 16777216 then
  ((fzL (cap.filter fun i => i != w && i != v) p.2)[w]?).bind fun s => s.items.bind fun cs => ((fzL (cap.filter fun i => i != w && i != v) p.2)[v]?).bind fun s2 => s2.items.bind fun cs2 =>
   (zcT (zke b c g mt me) p.1 (((capR cap t (fzL (cap.filter fun i => i != w && i != v) p.2)).set b (.par cs)).set c (.par cs2))).map fun q => (q.1, ((fzL (cap.filter fun i => i != w && i != v) p.2).set w (s.put (zfJ b q.2))).set v (s2.put (zfJ c q.2)))
 else none
theorem VS.siQ {b c : Nat} {cs cs2 : List D} {l l2 : Addr} {ys ys2 : List V} (h : VS K G σ ((ρ.set b .emp).set c .emp)) (fz : Fz G H) (hbc : b ≠ c) (ll : l ≠ l2)
  (hb : ρ[b]? = some (.par cs)) (hs : σ[b]? = some (some (.ref l))) (gl : G l = none) (hl : H l = some (.lst ys)) (r : RepL K G ys cs)
  (hb2 : ρ[c]? = some (.par cs2)) (hs2 : σ[c]? = some (some (.ref l2))) (gl2 : G l2 = none) (hl2 : H l2 = some (.lst ys2)) (r2 : RepL K G ys2 cs2) : SI K ⟨G, H, [(b, l), (c, l2)]⟩ G H σ ρ where
 fz := fz
 g0 := Fz.refl G
 new := fun b o e => .inl (by show G b ≠ none; rw [e]; simp)
 keep := fun b o e _ => e
 there := fun b e => e
 ob := fun i d m => by
  have : (i = b /\ d = l) \/ (i = c /\ d = l2) := by simpa using m
  rcases this with z | z
  ·rw [z.2]; show H l ≠ none; rw [hl]; simp
  ·rw [z.2]; show H l2 ≠ none; rw [hl2]; simp
 len := by rw [h.len, List.length_set, List.length_set]
 slot := fun i s e => by
  by_cases z : i = b
  ·subst z
   rw [hb] at e; cases e
   exact ⟨l, ys, hs, gl, hl, r, by simp⟩
  ·by_cases z2 : i = c
   ·subst z2
    rw [hb2] at e; cases e
    exact ⟨l2, ys2, hs2, gl2, hl2, r2, by simp⟩
   ·have e' : ((ρ.set b .emp).set c .emp)[i]? = some s := by rw [List.getElem?_set_ne (Ne.symm z2), List.getElem?_set_ne (Ne.symm z)]; exact e
    cases s with
    | emp => trivial
    | two _ _ => trivial
    | tre t => exact absurd rfl ((zdi h.no e').1 t)
    | ptr t => exact absurd rfl ((zdi h.no e').2 t)
    | val d => exact h.val i d e'
    | own ds => exact absurd ⟨_, ds, e', rfl⟩ (zdy h.no (i := i))
    | par ds => exact absurd ⟨_, ds, e', rfl⟩ (zdy h.no (i := i))
 dis := fun i j s t a hij e1 e2 w1 w2 => by
  have key : ∀ (i : Nat) (s : Sl), ρ[i]? = some s -> OwS K G H σ[i]? a s -> (i = b /\ a = l) \/ (i = c /\ a = l2) := fun i s e w => by
   by_cases z : i = b
   ·subst z
    rw [hb] at e; cases e
    have w : σ[i]? = some (some (.ref a)) := w
    rw [hs] at w
    exact .inl ⟨rfl, (V.ref.inj (Option.some.inj (Option.some.inj w))).symm⟩
   ·by_cases z2 : i = c
    ·subst z2
     rw [hb2] at e; cases e
     have w : σ[i]? = some (some (.ref a)) := w
     rw [hs2] at w
     exact .inr ⟨rfl, (V.ref.inj (Option.some.inj (Option.some.inj w))).symm⟩
    ·exact absurd w (zgg h.no (show ((ρ.set b .emp).set c .emp)[i]? = some s by rw [List.getElem?_set_ne (Ne.symm z2), List.getElem?_set_ne (Ne.symm z)]; exact e))
  rcases key i s e1 w1 with ⟨z1, z2⟩ | ⟨z1, z2⟩ <;> rcases key j t e2 w2 with ⟨y1, y2⟩ | ⟨y1, y2⟩
  ·exact hij (z1.trans y1.symm)
  ·exact ll (z2.symm.trans y2)
  ·exact ll (y2.symm.trans z2)
  ·exact hij (z1.trans y1.symm)
theorem VS.ofQ {b c : Nat} {l l2 : Addr} (I : SI K B G H σ ρ) (hbc : b ≠ c) (hO : B.O = [(b, l), (c, l2)]) (h : zi3 b c ρ = true) :
  ∃ cs ys cs2 ys2, (ρ[b]? = some (.par cs) /\ σ[b]? = some (some (.ref l)) /\ G l = none /\ H l = some (.lst ys) /\ RepL K G ys cs) /\ (ρ[c]? = some (.par cs2) /\ σ[c]? = some (some (.ref l2)) /\ G l2 = none /\ H l2 = some (.lst ys2) /\ RepL K G ys2 cs2) /\ VS K G σ ((ρ.set b .emp).set c .emp) := by
 unfold zi3 at h
 split at h
 ·rename_i cs cs2 e e2
  obtain ⟨l', ys, h1, h2, h3, h4, h5⟩ := I.slot b _ e
  obtain ⟨l2', ys2, k1, k2, k3, k4, k5⟩ := I.slot c _ e2
  have hl : l' = l := by
   rw [hO] at h5
   have : (b = b /\ l' = l) \/ (b = c /\ l' = l2) := by simpa using h5
   rcases this with z | z
   ·exact z.2
   ·exact absurd z.1 hbc
  have hl2 : l2' = l2 := by
   rw [hO] at k5
   have : (c = b /\ l2' = l) \/ (c = c /\ l2' = l2) := by simpa using k5
   rcases this with z | z
   ·exact absurd z.1.symm hbc
   ·exact z.2
  subst hl hl2
  refine ⟨cs, ys, cs2, ys2, ⟨e, h1, h2, h3, h4⟩, ⟨e2, k1, k2, k3, k4⟩, ⟨by rw [List.length_set, List.length_set]; exact I.len, h, fun i d e' => ?_⟩⟩
  rw [List.getElem?_set] at e'
  split at e'
  ·split at e'
   ·cases e'
   ·cases e'
  ·rw [List.getElem?_set] at e'
   split at e'
   ·split at e'
    ·cases e'
    ·cases e'
   ·exact I.slot i _ e'
 ·cases h
theorem nw_two {G H G' H' : Hp} {j j2 : Nat} {s s2 : Sl} {cs out cs2 out2 : List D} {l l2 p : Addr} (I : SI K B G H σ ρ) (jj : j ≠ j2) (e : ρ[j]? = some s) (q : s.items = some cs) (hl : σ[j]? = some (some (.ref l))) (e2 : ρ[j2]? = some s2) (q2 : s2.items = some cs2) (hl2 : σ[j2]? = some (some (.ref l2))) (hp : H p = none)
  (nw : ∀ b o, G' b = some o -> G b ≠ none \/ H b = none) (kp : ∀ b o, b ≠ l -> b ≠ l2 -> H b = some o -> H' b = some o) : Nw K G' H' σ ((ρ.set j (s.put out)).set j2 (s2.put out2)) p := fun i t et w => by
 obtain ⟨l', xs, e1, f2, e3, e4⟩ := I.wr e q
 rw [hl] at e1; cases e1
 obtain ⟨l', xs2, e1, f2', e3', e4'⟩ := I.wr e2 q2
 rw [hl2] at e1; cases e1
 have hpl : p ≠ l := fun z => by rw [z, e3] at hp; cases hp
 have hpl2 : p ≠ l2 := fun z => by rw [z, e3'] at hp; cases hp
 by_cases z2 : i = j2
 ·subst z2
  rw [List.getElem?_set, if_pos rfl] at et
  split at et
  ·cases et
   have := (zaT (ze5 q2 out2)).mp w
   rw [hl2] at this
   exact hpl2 (V.ref.inj (Option.some.inj (Option.some.inj this))).symm
  ·cases et
 ·rw [List.getElem?_set_ne (Ne.symm z2)] at et
  by_cases z : i = j
  ·subst z
   rw [List.getElem?_set, if_pos rfl] at et
   split at et
   ·cases et
    have := (zaT (ze5 q out)).mp w
    rw [hl] at this
    exact hpl (V.ref.inj (Option.some.inj (Option.some.inj this))).symm
   ·cases et
  ·rw [List.getElem?_set_ne (Ne.symm z)] at et
   have sl := I.slot i t et
   refine (sl.own (sl.back (fun a w g h => ?_) w)).2.1 hp
   have na : a ≠ l := fun w' => by subst w'; exact I.dis i j t s a z et e w ((zaT q).mpr hl)
   have na2 : a ≠ l2 := fun w' => by subst w'; exact I.dis i j2 t s2 a z2 et e2 w ((zaT q2).mpr hl2)
   obtain ⟨u, hu⟩ := Option.ne_none_iff_exists'.mp h
   refine ⟨?_, (kp a u na na2 hu).trans hu.symm⟩
   cases q3 : G' a with
   | none => rfl
   | some u =>
    rcases nw a u q3 with z | z
    ·exact absurd g z
    ·exact absurd z h
theorem grow_two {G H G' H' : Hp} {j j2 : Nat} {s s2 : Sl} {cs out cs2 out2 : List D} {l l2 : Addr} {ys ys2 : List V} (I : SI K B G H σ ρ) (jj : j ≠ j2) (e : ρ[j]? = some s) (q : s.items = some cs) (hl : σ[j]? = some (some (.ref l))) (e2 : ρ[j2]? = some s2) (q2 : s2.items = some cs2) (hl2 : σ[j2]? = some (some (.ref l2)))
  (f : Fz G G') (fz : Fz G' H') (nw : ∀ b o, G' b = some o -> G b ≠ none \/ H b = none) (kp : ∀ b o, b ≠ l -> b ≠ l2 -> H b = some o -> H' b = some o) (gl : G' l = none) (hl' : H' l = some (.lst ys)) (r : RepL K G' ys out) (gl2 : G' l2 = none) (hl2' : H' l2 = some (.lst ys2)) (r2 : RepL K G' ys2 out2) :
  SI K B G' H' σ ((ρ.set j (s.put out)).set j2 (s2.put out2)) := by
 obtain ⟨l', xs2, e1, f2', e3', e4'⟩ := I.wr e2 q2
 rw [hl2] at e1; cases e1
 have ll : l ≠ l2 := fun z => I.dis j j2 s s2 l jj e e2 ((zaT q).mpr hl) ((zaT q2).mpr (by rw [z]; exact hl2))
 have I1 := I.growW (G' := G') (H' := upd H' l2 (.lst xs2)) (out := out) e q hl f (fun b o h => by
  have : b ≠ l2 := fun z => by rw [z, gl2] at h; cases h
  rw [zam this]; exact fz b o h) nw (fun b o n h => by
  by_cases z : b = l2
  ·subst z; rw [zar]; rw [e3'] at h; exact h
  ·rw [zam z]; exact kp b o n z h) gl (by rw [zam ll]; exact hl') r
 have e2' : (ρ.set j (s.put out))[j2]? = some s2 := by rw [List.getElem?_set_ne jj]; exact e2
 exact I1.growW e2' q2 hl2 (Fz.refl _) fz (fun b o h => .inl (by rw [h]; simp)) (fun b o n h => by rw [zam n] at h; exact h) gl2 hl2' r2
structure LcQ (K : W.Frag) (bk ck : Nat) (g : D -> R -> Option R) (mt : MT) (me : ME) (items all : List D) (ρf : R) (G2 H1 : Hp) (DD l l2 : Addr) (i : Nat) (σc : St) (Hc Gc : Hp) (ρc : R) (acc : List D) (xs : List V) (rest cs : List D) (ys : List V) (cs2 : List D) (ys2 : List V) : Prop where
 fc : Fz G2 Gc
 fcH : Fz Gc Hc
 nw : ∀ b o, Gc b = some o -> G2 b ≠ none \/ H1 b = none
 kp : ∀ b o, b ≠ l -> b ≠ l2 -> H1 b = some o -> Hc b = some o
 gD : Gc DD = none
 hDc : Hc DD = some (.lst xs)
 ra : RepL K Gc xs acc
 hx : xs.length <= i
 pb : ρc[bk]? = some (.par cs) /\ σc[bk]? = some (some (.ref l)) /\ Gc l = none /\ Hc l = some (.lst ys) /\ RepL K Gc ys cs
 pc : ρc[ck]? = some (.par cs2) /\ σc[ck]? = some (some (.ref l2)) /\ Gc l2 = none /\ Hc l2 = some (.lst ys2) /\ RepL K Gc ys2 cs2
 vs : VS K Gc σc ((ρc.set bk .emp).set ck .emp)
 ec : zcT (zke bk ck g mt me) (items.drop i) ρc = some (rest, ρf)
 eall : all = acc ++ rest
section
variable {X : Cx} {elt iter tg : Expr} {ifs : List Expr} {scope : Scope} {pos : Pos} {N : List Str} {cap : List Nat} {t bk wk ck vk : Nat} {mi : MA} {g : D -> R -> Option R} {mt : MT} {me : ME}
theorem zlH (hbw : cap[bk]? = some wk) (hcv : cap[ck]? = some vk) (hbc : bk ≠ ck) (hwv : wk ≠ vk) 
  (si : ∀ B G H σ ρ ds ρ' (Q : It -> Hp -> Prop), SI X.K B G H σ ρ -> mi ρ = some (ds, ρ') -> (∀ J G' H', SI X.K B G' H' σ ρ' -> Fz G G' -> Itm X.K J G' ds -> Q J H') -> wi σ H Q)
  (sg : ∀ C s H₀ fp B G H σ ρ v d ρ' (Q : St -> Hp -> Prop), SI X.K B G H σ ρ -> RepD X.K G v d -> g d ρ = some ρ' -> (∀ G' H' σ', SI X.K B G' H' σ' ρ' -> Fz G G' -> Q σ' H') -> tg' C s H₀ fp v σ H Q)
  (st : ∀ C s H₀ fp B G H σ ρ d ρ' (Q : Bool -> Hp -> Prop), SI X.K B G H σ ρ -> mt ρ = some (d, ρ') -> (∀ G' H', SI X.K B G' H' σ ρ' -> Fz G G' -> Q d H') -> tt C s H₀ fp σ H Q)
  (se : ∀ C s H₀ fp B G H σ ρ d ρ' (Q : VK), SI X.K B G H σ ρ -> me ρ = some (d, ρ') -> (∀ G' H' v, SI X.K B G' H' σ ρ' -> Fz G G' -> RepD X.K G' v d -> Q v H') -> te C s H₀ fp σ H Q) :
  ∀ B G H σ ρ ds ρ' (Q : VK), SI X.K B G H σ ρ -> oLC2 cap t bk wk ck vk mi g mt me ρ = some (ds, ρ') ->
   (∀ G' H' l xs, SI X.K B G' H' σ ρ' -> Fz G G' -> G' l = none -> H' l = some (.lst xs) -> RepL X.K G' xs ds -> B.H l = none -> Nw X.K G' H' σ ρ' l -> Q (.ref l) H') -> tLC (capσ cap t) wi tg' tt te σ H Q := by
 intro B G H σ ρ ds ρ' Q I hm k
 obtain ⟨⟨items, ρ1⟩, e1, hm⟩ := zad hm
 refine si B G H σ ρ items ρ1 _ I e1 fun J G1 H1 I1 f1 IT DD hD => ?_
 dsimp only at hm
 split at hm
 ·rename_i hlen
  obtain ⟨sw, ew, hm⟩ := zad hm
  obtain ⟨cs0, qw, hm⟩ := zad hm
  obtain ⟨sv, ev, hm⟩ := zad hm
  obtain ⟨cs1, qv, hm⟩ := zad hm
  obtain ⟨⟨all, ρf⟩, e2, e3⟩ := zas hm
  obtain ⟨rfl, rfl⟩ := Prod.mk.inj e3
  obtain ⟨G2, I2, f2⟩ := SI.fzL (cap.filter fun i => i != wk && i != vk) I1
  have hDG : G2 DD = none := I2.fz.free hD
  obtain ⟨l, ys0, hσ, gl0, hl0, rl0⟩ := I2.wr ew qw
  obtain ⟨l2, ys1, hσ2, gl1, hl1, rl1⟩ := I2.wr ev qv
  have ll : l ≠ l2 := fun z => I2.dis wk vk sw sv l hwv ew ev ((zaT qw).mpr hσ) ((zaT qv).mpr (by rw [z]; exact hσ2))
  have hlD : DD ≠ l := (zaq hl0 hD).symm
  have hlD2 : DD ≠ l2 := (zaq hl1 hD).symm
  have capAt : ∀ {b w : Nat} {q : Addr}, cap[b]? = some w -> σ[w]? = some (some (.ref q)) -> b < cap.length /\ (capσ cap t σ)[b]? = some (some (.ref q)) := fun {b w q} h1 h2 => by
   have hb : b < cap.length := (List.getElem?_eq_some_iff.mp h1).1
   have hbe : cap[b] = w := (List.getElem?_eq_some_iff.mp h1).2
   refine ⟨hb, ?_⟩
   unfold capσ
   rw [List.getElem?_append_left (by simpa using hb), List.getElem?_map, List.getElem?_eq_getElem hb, hbe]
   simp [h2]
  obtain ⟨hb, hσb⟩ := capAt hbw hσ
  obtain ⟨hb2, hσc⟩ := capAt hcv hσ2
  have lenR : (capR cap t (M.fzL (cap.filter fun i => i != wk && i != vk) ρ1)).length = cap.length + t := by unfold capR; simp
  have vs0 : VS X.K G2 (capσ cap t σ) (((((capR cap t (M.fzL (cap.filter fun i => i != wk && i != vk) ρ1)).set bk (.par cs0)).set ck (.par cs1)).set bk .emp).set ck .emp) := by
   rw [List.set_comm _ _ (Ne.symm hbc), List.set_set, List.set_set]
   exact ((zjM I2 cap t).setEmp bk).setEmp ck
  have start : LcQ X.K bk ck g mt me items all ρf G2 H1 DD l l2 0 (capσ cap t σ) (upd H1 DD (.lst [])) G2 (((capR cap t (M.fzL (cap.filter fun i => i != wk && i != vk) ρ1)).set bk (.par cs0)).set ck (.par cs1)) [] [] all cs0 ys0 cs1 ys1 := by
   refine ⟨Fz.refl _, I2.fz.right hDG _, fun b o e => .inl (by rw [e]; simp), fun b o _ _ e => by rw [zam (zaq e hD)]; exact e, hDG, zar, .nil, Nat.le_refl _, ⟨?_, hσb, gl0, by rw [zam (zaq hl0 hD)]; exact hl0, rl0⟩, ⟨?_, hσc, gl1, by rw [zam (zaq hl1 hD)]; exact hl1, rl1⟩, vs0, by simpa using e2, rfl⟩
   ·rw [List.getElem?_set_ne (Ne.symm hbc), List.getElem?_set, if_pos rfl, if_pos (by rw [lenR]; omega)]
   ·rw [List.getElem?_set, if_pos rfl, if_pos (by rw [List.length_set, lenR]; omega)]
  refine ⟨fun i m σc Hc => m = items.length - i /\ i <= items.length /\ ∃ Gc ρc acc xs rest cs ys cs2 ys2, LcQ X.K bk ck g mt me items all ρf G2 H1 DD l l2 i σc Hc Gc ρc acc xs rest cs ys cs2 ys2,
   ⟨items.length, by simp, Nat.zero_le _, G2, ((capR cap t (M.fzL (cap.filter fun i => i != wk && i != vk) ρ1)).set bk (.par cs0)).set ck (.par cs1), [], [], all, cs0, ys0, cs1, ys1, start⟩, ?_⟩
  rintro i m σc Hc ⟨rfl, hi, Gc, ρc, acc, xs, rest, cs, ys, cs2, ys2, J0⟩
  obtain ⟨fc, fcH, nw, kp, gD, hDc, ra, hx, pb, pc, vs, ec, eall⟩ := J0
  by_cases hlt : i < items.length
  ·refine .inr ⟨IT.go Hc i (f2.trans (fc.trans fcH)) hlt, fun C s₀ H₀ fp x H' y => ?_⟩
   rw [List.drop_eq_getElem_cons hlt] at ec
   simp only [zcT] at ec
   obtain ⟨⟨o, ρ3⟩, h3, ec⟩ := zad ec
   obtain ⟨⟨rest2, ρ4⟩, h4, ec⟩ := zas ec
   obtain ⟨rfl, rfl⟩ := Prod.mk.inj ec
   dsimp only at h4
   unfold zke at h3
   obtain ⟨ρ5, h5, h3⟩ := zad h3
   obtain ⟨⟨ok, ρ6⟩, h6, h3⟩ := zad h3
   dsimp only at h3
   have Ic : SI X.K ⟨Gc, Hc, [(bk, l), (ck, l2)]⟩ Gc Hc σc ρc := vs.siQ fcH hbc ll pb.1 pb.2.1 pb.2.2.1 pb.2.2.2.1 pb.2.2.2.2 pc.1 pc.2.1 pc.2.2.1 pc.2.2.2.1 pc.2.2.2.2
   have fz2 : Fz G1 Hc := f2.trans (fc.trans fcH)
   have yy := IT.yld Hc i x H' fz2 y items[i] (List.getElem?_eq_getElem hlt)
   have yy2 : (H' = Hc /\ RepD X.K Gc x items[i]) \/ ∃ p xs es, Hc p = none /\ H' = upd Hc p (.tup xs) /\ x = .ref p /\ items[i] = .tup es /\ RepL X.K Gc xs es := by
    rcases yy with ⟨a, b⟩ | ⟨p, xs, es, a, b, c, d, e⟩
    ·exact .inl ⟨a, b.mono (f2.trans fc)⟩
    ·exact .inr ⟨p, xs, es, a, b, c, d, e.mono (f2.trans fc)⟩
   obtain ⟨G3, I3, f3, r3⟩ := Ic.yld yy2
   refine sg C s₀ H₀ fp _ G3 H' σc ρc x items[i] ρ5 _ I3 r3 h5 fun G4 H4 σ4 I4 f4 => st C s₀ H₀ fp _ G4 H4 σ4 ρ5 ok ρ6 _ I4 h6 fun G5 H5 I5 f5 => ?_
   have facts : ∀ (G' H' : Hp) (σ' : St) (ρ' : R), SI X.K ⟨Gc, Hc, [(bk, l), (ck, l2)]⟩ G' H' σ' ρ' -> (∀ b o, G' b = some o -> G2 b ≠ none \/ H1 b = none) /\ (∀ b o, b ≠ l -> b ≠ l2 -> H1 b = some o -> H' b = some o) /\ G' DD = none /\ H' DD = some (.lst xs) := fun G' H' σ' ρ' I' => by
    refine ⟨fun b o e => ?_, fun b o ne ne2 e => I'.keep b o (kp b o ne ne2 e) (by simp; exact fun _ => ⟨fun _ => ne, fun _ => ne2⟩), ?_, I'.keep DD _ hDc (by simp; exact fun _ => ⟨fun _ => hlD, fun _ => hlD2⟩)⟩
    ·rcases I'.new b o e with h | h
     ·have h : Gc b ≠ none := h
      cases q : Gc b with
      | none => exact absurd q h
      | some u => exact nw b u q
     ·refine .inr ?_
      cases q : H1 b with
      | none => rfl
      | some u =>
       have hn : Hc b = none := h
       have nb : b ≠ l := fun z => by rw [z, pb.2.2.2.1] at hn; cases hn
       have nb2 : b ≠ l2 := fun z => by rw [z, pc.2.2.2.1] at hn; cases hn
       have := kp b u nb nb2 q
       rw [hn] at this; cases this
    ·cases q : G' DD with
     | none => rfl
     | some u =>
      rcases I'.new DD u q with h | h
      ·exact absurd gD h
      ·rw [show Hc DD = none from h] at hDc; cases hDc
   cases ok with
   | false =>
    simp only [Bool.false_eq_true, if_false] at h3
    split at h3
    ·rename_i hno
     cases h3
     obtain ⟨a1, a2, a3, a4⟩ := facts G5 H5 σ4 _ I5
     obtain ⟨cs', ys', cs2', ys2', w1, w2, w6⟩ := VS.ofQ I5 hbc rfl hno
     exact ⟨items.length - (i + 1), by omega, rfl, hlt, G5, _, acc, xs, rest2, cs', ys', cs2', ys2', { fc := fc.trans (f3.trans (f4.trans f5)), fcH := I5.fz, nw := a1, kp := a2, gD := a3, hDc := a4, ra := ra.mono (f3.trans (f4.trans f5)), hx := by omega, pb := w1, pc := w2, vs := w6, ec := h4, eall := by simpa using eall }⟩
    ·cases h3
   | true =>
    simp only [if_true] at h3 ⊢
    obtain ⟨⟨dv, ρ7⟩, h7, h3⟩ := zad h3
    dsimp only at h3
    split at h3
    ·rename_i hno
     cases h3
     refine se C s₀ H₀ fp _ G5 H5 σ4 ρ6 dv _ _ I5 h7 fun G6 H6 v I6 f6 r6 => ?_
     obtain ⟨a1, a2, a3, a4⟩ := facts G6 H6 σ4 _ I6
     obtain ⟨cs', ys', cs2', ys2', ⟨w1, w2, w3, w4, w5⟩, ⟨v1, v2, v3, v4, v5⟩, w6⟩ := VS.ofQ I6 hbc rfl hno
     have ff : Fz Gc G6 := f3.trans (f4.trans (f5.trans f6))
     exact ⟨xs, a4, by rw [sizeLine_eq]; omega, items.length - (i + 1), by omega, rfl, hlt, G6, _, acc ++ [dv], xs ++ [v], rest2, cs', ys', cs2', ys2', { fc := fc.trans ff, fcH := I6.fz.right a3 _, nw := a1, kp := fun b o ne ne2 e => by rw [zam (zaq e hD)]; exact a2 b o ne ne2 e, gD := a3, hDc := zar, ra := (ra.mono ff).snoc r6, hx := by rw [List.length_append, List.length_singleton]; omega, pb := ⟨w1, w2, w3, by rw [zam (Ne.symm hlD)]; exact w4, w5⟩, pc := ⟨v1, v2, v3, by rw [zam (Ne.symm hlD2)]; exact v4, v5⟩, vs := w6, ec := h4, eall := by rw [eall]; simp }⟩
    ·cases h3
  ·have e : i = items.length := by omega
   subst e
   rw [List.drop_length] at ec
   obtain ⟨rfl, rfl⟩ := Prod.mk.inj (Option.some.inj ec)
   have hall : all = acc := by rw [eall, List.append_nil]
   refine .inl ⟨IT.stop Hc _ (f2.trans (fc.trans fcH)) (Nat.le_refl _), ?_⟩
   rw [<- hall] at ra
   have hp : zfJ bk ρc = cs := by unfold zfJ; rw [pb.1]
   have hp2 : zfJ ck ρc = cs2 := by unfold zfJ; rw [pc.1]
   rw [hp, hp2] at k
   exact k Gc Hc DD xs (grow_two I2 hwv ew qw hσ ev qv hσ2 fc fcH nw kp pb.2.2.1 pb.2.2.2.1 pb.2.2.2.2 pc.2.2.1 pc.2.2.2.1 pc.2.2.2.2) (f1.trans (f2.trans fc)) gD hDc ra (I2.there DD hD) (nw_two I2 hwv ew qw hσ ev qv hσ2 hD nw kp)
 ·cases hm
theorem so_lc2 (cap : List Nat) (t bk wk ck vk : Nat) (N : List Str) (hc : X.calm = true) (hi : SIt X tg iter mi) (hg : ∀ C s H fp, SG (cxC X N scope C s H fp) tg g) (ht : ∀ C s H fp, STs (cxC X N scope C s H fp) ifs mt) (he : ∀ C s H fp, SE (cxC X N scope C s H fp) elt me) (hbw : cap[bk]? = some wk := by rfl) (hcv : cap[ck]? = some vk := by rfl) (hbc : bk ≠ ck := by decide) (hwv : wk ≠ vk := by decide)
    (hk : scope.kind = .function := by rfl) (hb : blkB X.env scope = true := by kernel_rfl) (hcap : capB scope.names N X.N cap t = true := by kernel_rfl)
    (hs : ∀ x, foldedSetIterable iter X.env x = pure x := by exact fun _ => rfl) : SO X (.ListComp elt [⟨tg, iter, ifs, 0⟩] scope pos) (oLC2 cap t bk wk ck vk mi g mt me) := by
  obtain ⟨wi, pi, si⟩ := hi
  exact ⟨_, pe_lc hc (ziA hk hb) (ziC hcap) pi (fun C s H fp => (hg C s H fp).choose_spec.1) (fun C s H fp => (ht C s H fp).choose_spec.1) (fun C s H fp => (he C s H fp).choose_spec.1) hs,
    zlH hbw hcv hbc hwv si (fun C s H fp => (hg C s H fp).choose_spec.2) (fun C s H fp => (ht C s H fp).choose_spec.2) (fun C s H fp => (he C s H fp).choose_spec.2)⟩
end
def ePop (j : Nat) (me : ME) : ME := fun ρ => if (ρ[j]?.bind Sl.items).isSome then (me ρ).bind fun p => match p.1 with
 | .int i => p.2[j]?.bind fun s => s.items.bind fun ds => if 0 <= i /\ i < ds.length /\ ds.length <= 16777216 then (ds[i.toNat]?).map fun d => (d, p.2.set j (s.put (ds.eraseIdx i.toNat))) else none
 | _ => none else none
theorem RepL.erase : ∀ {xs : List V} {ds : List D} (k : Nat), RepL K G xs ds -> RepL K G (xs.eraseIdx k) (ds.eraseIdx k)
 | _, [], _, h => by cases h; simp; rfl
 | _, d :: ds, 0, ⟨x, ys, e, a, b⟩ => by subst e; exact b
 | _, d :: ds, k + 1, ⟨x, ys, e, a, b⟩ => by subst e; exact ⟨x, _, rfl, a, RepL.erase k b⟩
section
variable {X : Cx} {x : Str} {e : Expr} {me : ME}
theorem se_pop (j : Nat) {p' apos cpos : Pos} (he : SE X e me) (hN : X.N[j]? = some x := by rfl) (hv : Vis X.env.scope x := by first | exact Or.inl rfl | exact Or.inr (Or.inl rfl) | exact Or.inr (Or.inr rfl)) (hd : (x == ("__debug__" : Str)) = false := by decide)
  (hcd : (x == ("__classdict__" : Str)) = false := by decide)
  (hbase : attributeBase (.Name x p') "pop" X.env (eval (.Name x p') X.env) = eval (.Name x p') X.env := by rfl)
  (hfew : ((backTo cpos (starEach [e] X.env)).all (fun x => !x.1) && (backToKw cpos (keywordEach [] X.env)).all (fun x => x.1.isSome)
   && decide ([e].length + ([] : List Keyword).length + (if ([] : List Keyword).isEmpty then 0 else 1) < 30)) = true := by rfl)
  (hline : (apos.endLine == cpos.line) = true := by rfl) (hs : starEach [e] X.env = (false, eval e X.env) :: starEach [] X.env := by rfl) : SE X (.Call (.Attribute (.Name x p') "pop" apos) [e] [] cpos) (ePop j me) := by
 obtain ⟨t, p, s⟩ := he
 refine ⟨_, pe_bm PySem.F.plainAttrs_list PySem.F.slot_list_pop PySem.F.type_list_pop mt_popAt (zbw hN hv hd hcd) (zdh p zgj hs) hbase hfew hline hs rfl, fun B G H σ ρ d ρ' Q I hm k => ?_⟩
 unfold ePop at hm
 split at hm
 ·rename_i hso
  obtain ⟨ds0, hso⟩ := Option.isSome_iff_exists.mp hso
  obtain ⟨s0, e0, q0⟩ := zad hso
  obtain ⟨l, xs0, h1, h2, h3, h4⟩ := I.wr e0 q0
  obtain ⟨⟨dv, ρ1⟩, e1, hm⟩ := zad hm
  dsimp only at hm
  split at hm
  ·rename_i i
   obtain ⟨s1, e2, hm⟩ := zad hm
   obtain ⟨ds, e3, hm⟩ := zad hm
   split at hm
   ·rename_i hl
    obtain ⟨dd, e4, e5⟩ := zas hm
    obtain ⟨rfl, rfl⟩ := Prod.mk.inj e5
    refine ⟨.ref l, h1, .inl ⟨rfl, _, SqL.of h3⟩, s B G H σ ρ (.int i) ρ1 _ I e1 fun G1 H1 v I1 f1 r1 => ?_⟩
    obtain ⟨l', xs, k1, k2, k3, k4⟩ := I1.wr e2 e3
    rw [h1] at k1; cases k1
    cases (show v = .int i from r1)
    obtain ⟨y, hy, ry⟩ := k4.get e4
    have len := k4.length
    refine ⟨l, xs, i, i.toNat, y, rfl, rfl, k3, by omega, by omega, by unfold seqIndex?; simp; omega, hy, ?_⟩
    exact k G1 _ y (I1.write e2 e3 h1 (k4.erase i.toNat)) f1 ry
   ·cases hm
  ·cases hm
 ·cases hm
end
mutual
def tpD : D -> Bool
 | .non => true
 | .bl _ => true
 | .int _ => true
 | .str _ => true
 | .tup ds => tpL ds
 | _ => false
def tpL : List D -> Bool
 | [] => true
 | d :: ds => tpD d && tpL ds
end
def eLk2 (j k : Nat) (m : ME) : ME := fun ρ => match ρ[j]?, ρ[k]? with
 | some (.tre (.lst cs)), some (.tre (.lst ds)) => (m ((ρ.set j (.val (.lst (cs.map Ch.D)))).set k (.val (.lst (ds.map Ch.D))))).bind fun p =>
  if tpD p.1 && (((ρ.set j .emp).set k .emp).zip p.2).all (fun q => zdw q.1 q.2) then some (p.1, ρ) else none
 | _, _ => none
mutual
theorem zie (h : ∀ a xs, G a = some (.tup xs) -> G' a = some (.tup xs)) {v : V} : ∀ {d : D}, tpD d = true -> RepD K G v d -> RepD K G' v d
 | .non, _, r => r
 | .bl _, _, r => r
 | .int _, _, r => r
 | .str _, _, r => r
 | .tup ds, e, ⟨a, xs, e1, e2, e3⟩ => ⟨a, xs, e1, h _ _ e2, zh9 h e e3⟩
 | .lst _, e, _ => nomatch e
 | .scr _, e, _ => nomatch e
 | .exc _, e, _ => nomatch e
 | .dic _ _, e, _ => nomatch e
 | .dit _ _, e, _ => nomatch e
theorem zh9 (h : ∀ a xs, G a = some (.tup xs) -> G' a = some (.tup xs)) : ∀ {ds : List D} {xs : List V}, tpL ds = true -> RepL K G xs ds -> RepL K G' xs ds
 | [], _, _, r => r
 | d :: ds, xs, e, ⟨x, ys, e1, e2, e3⟩ => by
  have e' := Bool.and_eq_true_iff.mp (show (tpD d && tpL ds) = true from e)
  exact ⟨x, ys, e1, zie h e'.1 e2, zh9 h e'.2 e3⟩
end
theorem SI.fzTx {G H : Hp} (I : SI K B G H σ ρ) (e : ρ[j]? = some (.tre (.lst cs))) :
  ∃ v A, σ[j]? = some (some v) /\ RepT K G H v (.lst cs) A /\ (∀ a ∈ A, ∃ xs, H a = some (.lst xs)) /\ SI K B (frA G H A) H σ (ρ.set j (.val (.lst (cs.map Ch.D)))) /\ Fz G (frA G H A) := by
 obtain ⟨v, A, h1, h2, h3, h4⟩ := I.slot j _ e
 have h2' := h2
 obtain ⟨p, xs, A', rfl, g1, g2, rfl⟩ := h2
 have I1 := I.emp j
 have hA : ∀ a ∈ p :: A', G a = none /\ B.H a = none /\ Nw K G H σ (ρ.set j .emp) a := fun a m => ⟨(h4 a m).1, (h4 a m).2, nw_emp I e ⟨_, _, h1, h2', m⟩⟩
 have fg := zkN (H := H) fun a m => (hA a m).1
 have I2 := (I1.frzA hA).set (i := j) (v := .ref p) (d := .lst (cs.map Ch.D)) ⟨p, xs, rfl, by rw [zgP (by simp)]; exact g1, zfw fg g2 fun a m => zgP (by simp [m])⟩
 rw [zgp h1, List.set_set] at I2
 refine ⟨_, _, h1, h2', fun a m => ?_, I2, fg⟩
 rcases List.mem_cons.mp m with rfl | m
 ·exact ⟨_, g1⟩
 ·exact g2.here m
theorem zkK {G H G2 H2 : Hp} {s s1 : Sl} (lk : zdw s s1 = true) (q : SlotOk K B G H i σ[i]? s) (q1 : SlotOk K B G2 H2 i σ[i]? s1) (w : OwS K G H σ[i]? a s) : G2 a = none /\ H2 a = H a := by
 cases s with
 | emp => exact w.elim
 | two _ _ => exact w.elim
 | val d => exact w.elim
 | tre _ => cases s1 <;> cases lk
 | ptr _ => cases s1 <;> cases lk
 | own d0 =>
  cases s1 with
  | own d1 =>
   obtain ⟨ns, rfl, rfl⟩ := ziK lk
   obtain ⟨a1, xs1, m1, m2, m3, m4, m5⟩ := q1
   obtain ⟨a0, xs0, n1, n2, n3, n4, n5⟩ := q
   cases n1.symm.trans (show σ[i]? = some (some (.ref a)) from w)
   cases n1.symm.trans m1
   exact ⟨m2, by rw [m3, n3, RepL.ints_eq m4, RepL.ints_eq n4]⟩
  | _ => cases lk
 | par d0 =>
  cases s1 with
  | par d1 =>
   obtain ⟨ns, rfl, rfl⟩ := ziK lk
   obtain ⟨a1, xs1, m1, m2, m3, m4, m5⟩ := q1
   obtain ⟨a0, xs0, n1, n2, n3, n4, n5⟩ := q
   cases n1.symm.trans (show σ[i]? = some (some (.ref a)) from w)
   cases n1.symm.trans m1
   exact ⟨m2, by rw [m3, n3, RepL.ints_eq m4, RepL.ints_eq n4]⟩
  | _ => cases lk
section
variable {X : Cx}
open Classical in
theorem zhr {c : Expr} {m : ME} (j k : Nat) (hjk : j ≠ k) (h : SE X c m) : SE X c (eLk2 j k m) := by
 obtain ⟨t, pt, so⟩ := h
 refine ⟨t, pt, fun B G H σ ρ d ρ' Q I hm kk => ?_⟩
 unfold eLk2 at hm
 split at hm
 ·rename_i cs ds e1 e2
  obtain ⟨⟨d', ρ1⟩, e3, hm⟩ := zad hm
  dsimp only at hm
  split at hm
  ·rename_i al
   cases hm
   obtain ⟨tp, al⟩ := Bool.and_eq_true_iff.mp al
   obtain ⟨v1, A1, s1, r1, l1, I1, f1⟩ := I.fzTx e1
   have e2' : (ρ.set j (.val (.lst (cs.map Ch.D))))[k]? = some (.tre (.lst ds)) := by rw [List.getElem?_set_ne hjk]; exact e2
   obtain ⟨v2, A2, s2, r2, l2, I2, f2⟩ := I1.fzTx e2'
   refine so B _ H σ _ d ρ1 _ I2 e3 fun G3 H3 v I3 f3 r3 => ?_
   have same1 : ∀ a ∈ A1, G3 a = H a /\ H3 a = H a := fun a m => by
    obtain ⟨xs, hx⟩ := l1 a m
    have z := f3 a _ (f2 a _ ((zgP m).trans hx))
    exact ⟨z.trans hx.symm, (I3.fz a _ z).trans hx.symm⟩
   have same2 : ∀ a ∈ A2, G3 a = H a /\ H3 a = H a := fun a m => by
    obtain ⟨xs, hx⟩ := l2 a m
    have z := f3 a _ ((zgP m).trans hx)
    exact ⟨z.trans hx.symm, (I3.fz a _ z).trans hx.symm⟩
   obtain ⟨w1, B1, p1, p2, p3, p4⟩ := I.slot j _ e1
   obtain ⟨w2, B2, o1, o2, o3, o4⟩ := I.slot k _ e2
   have ev1 : v1 = w1 := by rw [s1] at p1; cases p1; rfl
   subst ev1
   have ea1 := r1.det p2 fun _ _ => rfl
   subst ea1
   have ev2 : v2 = w2 := by rw [s2] at o1; cases o1; rfl
   subst ev2
   have ea2 := r2.det o2 fun _ _ => rfl
   subst ea2
   have fg : Fz G (fun a => if a ∈ A1 \/ a ∈ A2 then none else G3 a) := fun a o e => by
    have n : ¬ (a ∈ A1 \/ a ∈ A2) := fun h => by
     rcases h with h | h
     ·rw [(p4 a h).1] at e; cases e
     ·rw [(o4 a h).1] at e; cases e
    show (if a ∈ A1 \/ a ∈ A2 then none else G3 a) = _
    rw [if_neg n]
    exact f3 a o (f2 a o (f1 a o e))
   have sub : Fz (fun a => if a ∈ A1 \/ a ∈ A2 then none else G3 a) G3 := fun a o e => by
    dsimp only at e
    split at e
    ·cases e
    ·exact e
   have len1 : ρ1.length = ρ.length := by rw [<- I3.len, I.len]
   refine kk _ H3 v (I.move (sub.trans I3.fz) fg (fun b o e => I3.new b o (sub b o e)) I3.keep I3.there fun i s a es w g _ => ?_) fg (zie (fun a xs e => ?_) tp r3)
   ·by_cases hi : i = j
    ·subst hi
     rw [e1] at es; cases es
     obtain ⟨u, C, u1, u2, u3⟩ := w
     have : u = v1 := by rw [s1] at u1; cases u1; rfl
     subst this
     have := r1.det u2 fun _ _ => rfl
     subst this
     exact ⟨if_pos (.inl u3), (same1 a u3).2⟩
    by_cases hk : i = k
    ·subst hk
     rw [e2] at es; cases es
     obtain ⟨u, C, u1, u2, u3⟩ := w
     have : u = v2 := by rw [s2] at u1; cases u1; rfl
     subst this
     have := r2.det u2 fun _ _ => rfl
     subst this
     exact ⟨if_pos (.inr u3), (same2 a u3).2⟩
    have il : i < ρ.length := (List.getElem?_eq_some_iff.mp es).1
    have es1 : ρ1[i]? = some (ρ1[i]'(by omega)) := List.getElem?_eq_getElem _
    have lk : zdw s (ρ1[i]'(by omega)) = true :=
     List.all_eq_true.mp al (s, ρ1[i]'(by omega)) (by
      apply List.mem_of_getElem? (i := i)
      rw [List.getElem?_zip_eq_some]
      exact ⟨by rw [List.getElem?_set_ne (Ne.symm hk), List.getElem?_set_ne (Ne.symm hi)]; exact es, es1⟩)
    obtain ⟨z1, z2⟩ := zkK lk (I.slot i s es) (I3.slot i _ es1) w
    refine ⟨?_, z2⟩
    split
    ·rfl
    ·exact z1
   ·have n : ¬ (a ∈ A1 \/ a ∈ A2) := fun h => by
     rcases h with h | h
     ·obtain ⟨ys, hy⟩ := l1 a h
      rw [(same1 a h).1, hy] at e; cases e
     ·obtain ⟨ys, hy⟩ := l2 a h
      rw [(same2 a h).1, hy] at e; cases e
    rw [if_neg n]
    exact e
  ·cases hm
 ·cases hm
end
def sRTT (i j : Nat) : MS := fun ρ => match ρ[i]?, ρ[j]? with
 | some (.tre (.lst cs)), some (.tre (.lst ds)) => (zeO cs).bind fun xs => (zeO ds).map fun ys => (.ret (.tre (.tup [.t xs, .t ys])), (ρ.set i .emp).set j .emp)
 | _, _ => none
def sATT (a b : Nat) (F : List D -> Option Sl) (ma : MA) : MS := fun ρ => (ma ρ).bind fun p => (F p.1).bind fun r => match r with
 | .tre (.tup [.t xs, .t ys]) => some (.next, (p.2.set a (.tre (.lst (xs.map .l)))).set b (.tre (.lst (ys.map .l))))
 | _ => none
section
variable {X : Cx} {pos : Pos}
theorem ss_retTT (i j : Nat) {x y : Str} {p1 p2 pos' : Pos} (hij : i ≠ j) (hN : X.N[i]? = some x := by rfl) (hv : Vis X.env.scope x := by first | exact Or.inl rfl | exact Or.inr (Or.inl rfl) | exact Or.inr (Or.inr rfl)) (hd : (x == ("__debug__" : Str)) = false := by decide)
  (hcd : (x == ("__classdict__" : Str)) = false := by decide) (hN2 : X.N[j]? = some y := by rfl) (hv2 : Vis X.env.scope y := by first | exact Or.inl rfl | exact Or.inr (Or.inl rfl) | exact Or.inr (Or.inr rfl)) (hd2 : (y == ("__debug__" : Str)) = false := by decide)
  (hcd2 : (y == ("__classdict__" : Str)) = false := by decide)
  (hs : starEach [.Name x p1, .Name y p2] X.env = (false, eval (.Name x p1) X.env) :: starEach [.Name y p2] X.env := by rfl) (hs2 : starEach [.Name y p2] X.env = (false, eval (.Name y p2) X.env) :: starEach [] X.env := by rfl) :
  SS X (.Return (some (.Tuple [.Name x p1, .Name y p2] n pos')) pos) (sRTT i j) := by
 refine ⟨_, ziI (pe_tup (zdh (zbw hN hv hd hcd) (zdh (zbw hN2 hv2 hd2 hcd2) zgj hs2) hs)), fun B G H σ ρ fl ρ' E I hm k => ?_⟩
 unfold sRTT at hm
 split at hm
 ·rename_i cs ds e1 e2
  obtain ⟨xss, r1, hm⟩ := zad hm
  obtain ⟨yss, r2, hm⟩ := zas hm
  cases hm
  cases zi1 r1
  cases zi1 r2
  obtain ⟨v1, A1, a1, a2, a3, a4⟩ := I.slot i _ e1
  obtain ⟨v2, A2, b1, b2, b3, b4⟩ := I.slot j _ e2
  have dj : ∀ a ∈ A1, a ∉ A2 := fun a m m' => I.dis i j _ _ a hij e1 e2 ⟨_, _, a1, a2, m⟩ ⟨_, _, b1, b2, m'⟩
  refine ⟨v1, a1, v2, b1, by rw [sizeLine_eq]; exact (by decide : (2 : Nat) <= 16777216), fun p hp => ?_⟩
  have n1 : ∀ a ∈ A1, a ≠ p := fun a m z => a2.here m (by rw [z]; exact hp)
  have n2 : ∀ a ∈ A2, a ≠ p := fun a m z => b2.here m (by rw [z]; exact hp)
  have a2' := a2.move (G' := G) (H' := upd H p (.tup [v1, v2])) (Fz.refl G) fun a m => zam (n1 a m)
  have b2' := b2.move (G' := G) (H' := upd H p (.tup [v1, v2])) (Fz.refl G) fun a m => zam (n2 a m)
  obtain ⟨q1, xs1, C1, rfl, g1, h1, rfl⟩ := a2'
  obtain ⟨q2, xs2, C2, rfl, g2, h2, rfl⟩ := b2'
  refine k G _ σ _ (((I.allocO hp _).emp i).emp j) (Fz.refl G) ⟨p :: ((q1 :: C1) ++ ((q2 :: C2) ++ [])), ⟨p, _, _, rfl, zar, ⟨q1 :: C1, (q2 :: C2) ++ [], ⟨q1, xs1, C1, rfl, g1, cs_tb h1, rfl⟩, ⟨q2 :: C2, [], ⟨q2, xs2, C2, rfl, g2, cs_tb h2, rfl⟩, rfl, rfl⟩, rfl⟩, rfl⟩, ?_, fun a m => ?_⟩
  ·rw [List.append_nil]
   refine List.nodup_cons.mpr ⟨fun m => ?_, List.nodup_append.mpr ⟨a3, b3, fun a ma b mb z => dj a ma (by rw [z]; exact mb)⟩⟩
   rcases List.mem_append.mp m with m | m
   ·exact n1 p m rfl
   ·exact n2 p m rfl
  ·rw [List.append_nil] at m
   rcases List.mem_cons.mp m with rfl | m
   ·exact ⟨I.fz.free hp, I.there _ hp⟩
   rcases List.mem_append.mp m with m | m
   ·exact a4 a m
   ·exact b4 a m
 ·cases hm
variable {x xa xb : Str} {p pos' pa pb tp : Pos} {e : Expr} {es : List Expr} {ma : MA} {k k' n : Nat} {F : List D -> Option Sl}
theorem ss_asgTT (a b : Nat) (hab : a ≠ b) (hc : X.calm = true) (fd : FD X.prog X.w X.K X.mg X.base k x (spP X.K n F)) (hr : Room k' X.A) (ha : SA X (e :: es) ma) (hlen : ∀ ρ as ρ', ma ρ = some (as, ρ') -> as.length = n) (hnd : X.N.Nodup)
  (hia : X.N[a]? = some xa := by rfl) (hxa : Loc X.env.scope xa := by first | exact Or.inl rfl | exact Or.inr rfl) (hfa : X.fn xa = true \/ X.env.scope.names.lookup xa = some .local := by first | exact Or.inl rfl | exact Or.inr rfl)
  (hib : X.N[b]? = some xb := by rfl) (hxb : Loc X.env.scope xb := by first | exact Or.inl rfl | exact Or.inr rfl) (hfb : X.fn xb = true \/ X.env.scope.names.lookup xb = some .local := by first | exact Or.inl rfl | exact Or.inr rfl)
  (hk : k <= k' := by decide) (hg : Gl X x := by rfl) (hdb : (x == ("__debug__" : Str)) = false := by decide)
  (he : starEach (e :: es) X.env = (false, eval e X.env) :: starEach es X.env := by rfl) (hpl : (backTo pos (starEach es X.env)).any (·.1) = false := by rfl)
  (hs : swapsWithSole [.Tuple [.Name xa pa, .Name xb pb] q tp] (.Call (.Name x p) (e :: es) [] pos) pos'.line X.env = pure false := by rfl) (hw : swappedStores [.Tuple [.Name xa pa, .Name xb pb] q tp] (.Call (.Name x p) (e :: es) [] pos) X.env = pure none := by rfl)
  (h1 : (assignEach [.Tuple [.Name xa pa, .Name xb pb] q tp] X.env).map (·.2) = [assign (.Tuple [.Name xa pa, .Name xb pb] q tp) X.env] := by rfl)
  (h2 : (assignEach [.Name xa pa, .Name xb pb] X.env).length = 2 := by rfl) (h3 : (assignEach [.Name xa pa, .Name xb pb] X.env).findIdx? (·.1) = none := by rfl)
  (h4 : (assignEach [.Name xa pa, .Name xb pb] X.env).map (·.2) = assign (.Name xa pa) X.env :: (assignEach [.Name xb pb] X.env).map (·.2) := by rfl)
  (h5 : (assignEach [.Name xb pb] X.env).map (·.2) = assign (.Name xb pb) X.env :: (assignEach [] X.env).map (·.2) := by rfl) :
  SS X (.Assign [.Tuple [.Name xa pa, .Name xb pb] q tp] (.Call (.Name x p) (e :: es) [] pos) pos') (sATT a b F ma) := by
 obtain ⟨f, fdd, ps, G0, g1, g2, g3⟩ := fd.ex
 obtain ⟨t, pt, sa⟩ := ha
 refine ⟨_, zjp (zgV G0 (hr.mono hk) hg g1 g2 g3 .nil zlc pt hdb he hpl) (pg_tup hc (zhq (zh2 hnd hia hxa hfa) (zhq (zh2 hnd hib hxb hfb) zkV h5) h4) h2 h3) hs hw h1, fun B G H σ ρ fl ρ' E I hm kk => ?_⟩
 obtain ⟨⟨as, ρ1⟩, e1, hm⟩ := zad hm
 obtain ⟨r, e2, hm⟩ := zad hm
 refine sa B G H σ ρ as ρ1 _ I e1 fun G1 H1 vs I1 f1 r1 => ?_
 show spP X.K n F (vs ++ []) H1 _ E0
 rw [List.append_nil]
 refine ⟨G1, as, r, e2, hlen ρ as ρ1 e1, I1.fz, r1, fun G2 H2 v f2 fz2 nw kp rr => ?_⟩
 have I2 := I1.grow f2 fz2 nw kp
 split at hm
 ·rename_i xss yss
  cases hm
  obtain ⟨A, q1, q2, q3⟩ := rr
  have hA : ∀ a ∈ A, G2 a = none /\ B.H a = none /\ Nw X.K G2 H2 σ ρ1 a := fun a m => ⟨(q3 a m).1, I1.there a (q3 a m).2, I1.own_ne (q3 a m).2 nw kp⟩
  obtain ⟨t0, ws, A', rfl, w1, w2, rfl⟩ := q1
  obtain ⟨u1, ws1, rfl⟩ : ∃ u ws', ws = u :: ws' := by
   cases ws with
   | nil => exact w2.elim
   | cons u ws => exact ⟨u, ws, rfl⟩
  obtain ⟨B1, B2, c1, c2, rfl⟩ := w2
  obtain ⟨u2, ws2, rfl⟩ : ∃ u ws', ws1 = u :: ws' := by
   cases ws1 with
   | nil => exact c2.elim
   | cons u ws => exact ⟨u, ws, rfl⟩
  obtain ⟨B3, B4, c3, c4, rfl⟩ := c2
  obtain ⟨rfl, rfl⟩ : ws2 = [] /\ B4 = [] := by
   cases ws2 with
   | nil => exact ⟨rfl, c4⟩
   | cons u ws => exact c4.elim
  obtain ⟨o1, xs1, C1, rfl, d1, d2, rfl⟩ := c1
  obtain ⟨o2, xs2, C2, rfl, d3, d4, rfl⟩ := c3
  rw [List.append_nil] at q2 hA
  have nd := List.nodup_append.mp (List.nodup_cons.mp q2).2
  have T1 : RepT X.K G2 H2 (.ref o1) (.lst (xss.map .l)) (o1 :: C1) := ⟨o1, xs1, C1, rfl, d1, tb_cs d2, rfl⟩
  have T2 : RepT X.K G2 H2 (.ref o2) (.lst (yss.map .l)) (o2 :: C2) := ⟨o2, xs2, C2, rfl, d3, tb_cs d4, rfl⟩
  have I3 := I2.setT (i := a) T1 nd.1 fun c m => hA c (List.mem_cons_of_mem _ (List.mem_append_left _ m))
  have I4 := I3.setT (i := b) T2 nd.2.1 fun c m => by
   have hc := hA c (List.mem_cons_of_mem _ (List.mem_append_right _ m))
   refine ⟨hc.1, hc.2.1, fun i s es w => ?_⟩
   by_cases z : i = a
   ·subst z
    rw [List.getElem?_set, if_pos rfl] at es w
    split at es
    ·cases es
     obtain ⟨u, D0, u1, u2, u3⟩ := w
     split at u1
     ·cases u1
      have := T1.det u2 fun _ _ => rfl
      subst this
      exact nd.2.2 c u3 c m rfl
     ·cases u1
    ·cases es
   ·rw [List.getElem?_set_ne (Ne.symm z)] at es w
    exact hc.2.2 i s es w
  exact ⟨t0, _, rfl, SqT.of w1, rfl, .ref o1, _, rfl, .ref o2, _, rfl, rfl, kk G2 H2 _ I4 (f1.trans f2)⟩
 ·cases hm
end
end M
namespace M
open L2 PySem
variable {c : Prop} {z : Bool} {Q : Fl × R -> Prop} {me m : ME} {b : MS} {f : D -> R -> Option (Option D × R)} {g : D -> R -> Option R} {mt : MT} {d : D} {ρ : R} {r : Sl} {i n j t N k : Nat} {h : List D -> R -> Option R} {ds : List D} {mi ma : MA} {F : List D -> Option Sl} {cap : List Nat} {I : R -> Prop}
structure Lock {α : Type} (Q : α -> Prop) : Type where
def Ok {α : Type} (o : Option α) (Q : α -> Prop) (l : Lock Q := ⟨⟩) : Prop := ∃ a, o = some a /\ Q a
section
variable {α β : Type} {o : Option α} {Q Q' : α -> Prop}
theorem ok_some {a : α} : Ok (some a) Q ↔ Q a := ⟨fun ⟨_, e, q⟩ => by cases e; exact q, fun q => ⟨a, rfl, q⟩⟩
theorem ok_none : Ok (none : Option α) Q ↔ False := ⟨fun ⟨_, e, _⟩ => (by cases e), False.elim⟩
theorem ok_bind {f : α -> Option β} {Q : β -> Prop} : Ok (o.bind f) Q ↔ Ok o fun a => Ok (f a) Q := by
 cases o with
 | none => exact ⟨fun ⟨_, e, _⟩ => (by cases e), fun ⟨_, e, _⟩ => (by cases e)⟩
 | some a => exact ⟨fun h => ⟨a, rfl, h⟩, fun ⟨_, e, h⟩ => by cases e; exact h⟩
theorem ok_map {f : α -> β} {Q : β -> Prop} : Ok (o.map f) Q ↔ Ok o fun a => Q (f a) := by
 cases o with
 | none => exact ⟨fun ⟨_, e, _⟩ => (by cases e), fun ⟨_, e, _⟩ => (by cases e)⟩
 | some a => exact ⟨fun h => ⟨a, rfl, ok_some.mp h⟩, fun ⟨_, e, h⟩ => by cases e; exact ok_some.mpr h⟩
theorem zev [Decidable c] : Ok (if c then o else none) Q ↔ c /\ Ok o Q := by
 by_cases h : c
 ·rw [if_pos h]; exact ⟨fun k => ⟨h, k⟩, fun k => k.2⟩
 ·rw [if_neg h]; exact ⟨fun k => (ok_none.mp k).elim, fun k => absurd k.1 h⟩
theorem Ok.mono (h : Ok o Q) (k : ∀ a, Q a -> Q' a) : Ok o Q' := by obtain ⟨a, e, q⟩ := h; exact ⟨a, e, k a q⟩
theorem zaE {Q' : α -> Prop} (h : ∀ a, Q a ↔ Q' a) : Ok o Q ↔ Ok o Q' := ⟨fun ⟨a, e, q⟩ => ⟨a, e, (h a).mp q⟩, fun ⟨a, e, q⟩ => ⟨a, e, (h a).mpr q⟩⟩
end
section
variable {c : MT} {a b : MS} {ρ : R}
theorem zik {α : Type} {o u : Option α} {Q : α -> Prop} : Ok (if z then o else u) Q ↔ (z = true -> Ok o Q) /\ (z = false -> Ok u Q) := by cases z <;> simp
theorem ok_sIf : Ok (sIf c a b ρ) Q ↔ Ok (c ρ) fun p => (p.1 = true -> Ok (a p.2) Q) /\ (p.1 = false -> Ok (b p.2) Q) := by
 unfold sIf; rw [ok_bind]; exact zaE fun p => zik
theorem ok_eIf {a b : ME} {Q : D × R -> Prop} : Ok (eIf c a b ρ) Q ↔ Ok (c ρ) fun p => (p.1 = true -> Ok (a p.2) Q) /\ (p.1 = false -> Ok (b p.2) Q) := by
 unfold eIf; rw [ok_bind]; exact zaE fun p => zik
theorem ok_tAnd {a b : MT} {Q : Bool × R -> Prop} : Ok (tAndM a b ρ) Q ↔ Ok (a ρ) fun p => (p.1 = true -> Ok (b p.2) Q) /\ (p.1 = false -> Q (false, p.2)) := by
 unfold tAndM; rw [ok_bind]; exact zaE fun p => by rw [zik, ok_some]
theorem ok_tOr {a b : MT} {Q : Bool × R -> Prop} : Ok (tOrM a b ρ) Q ↔ Ok (a ρ) fun p => (p.1 = true -> Q (true, p.2)) /\ (p.1 = false -> Ok (b p.2) Q) := by
 unfold tOrM; rw [ok_bind]; exact zaE fun p => by rw [zik, ok_some]
theorem ok_eAnd {a b : ME} {Q : D × R -> Prop} : Ok (eAnd a b ρ) Q ↔ Ok (a ρ) fun p => ∃ z, p.1 = .bl z /\ (z = true -> Ok (b p.2) Q) /\ (z = false -> Q (.bl false, p.2)) := by
 unfold eAnd; rw [ok_bind]
 have : ∀ p : D × R, Ok (match p.1 with
  | .bl true => b p.2
  | .bl false => some (.bl false, p.2)
  | _ => none) Q ↔ ∃ z, p.1 = .bl z /\ (z = true -> Ok (b p.2) Q) /\ (z = false -> Q (.bl false, p.2)) := by
  rintro ⟨d, ρ⟩
  cases d with
  | bl z => cases z <;> simp [ok_some]
  | _ => simp [ok_none]
 exact zaE this
theorem ok_eOr {a b : ME} {Q : D × R -> Prop} : Ok (eOr a b ρ) Q ↔ Ok (a ρ) fun p => ∃ z, p.1 = .bl z /\ (z = true -> Q (.bl true, p.2)) /\ (z = false -> Ok (b p.2) Q) := by
 unfold eOr; rw [ok_bind]
 have : ∀ p : D × R, Ok (match p.1 with
  | .bl true => some (.bl true, p.2)
  | .bl false => b p.2
  | _ => none) Q ↔ ∃ z, p.1 = .bl z /\ (z = true -> Q (.bl true, p.2)) /\ (z = false -> Ok (b p.2) Q) := by
  rintro ⟨d, ρ⟩
  cases d with
  | bl z => cases z <;> simp [ok_some]
  | _ => simp [ok_none]
 exact zaE this
theorem ok_chain {f g : D -> D -> Option D} {a b c : ME} {Q : D × R -> Prop} : Ok (zeM f g a b c ρ) Q ↔ Ok (a ρ) fun p => Ok (b p.2) fun q => Ok (f p.1 q.1) fun t => ∃ z, t = .bl z /\ (z = true -> Ok (c q.2) fun r => Ok (g q.1 r.1) fun d => Q (d, r.2)) /\ (z = false -> Q (.bl false, q.2)) := by
 unfold zeM; rw [ok_bind]
 have : ∀ (p q : D × R) (t : D), Ok (match t with
  | .bl true => (c q.2).bind fun r => (g q.1 r.1).map fun d => (d, r.2)
  | .bl false => some (.bl false, q.2)
  | _ => none) Q ↔ ∃ z, t = .bl z /\ (z = true -> Ok (c q.2) fun r => Ok (g q.1 r.1) fun d => Q (d, r.2)) /\ (z = false -> Q (.bl false, q.2)) := by
  intro p q t
  cases t with
  | bl z =>
   cases z
   ·simp [ok_some]
   ·simp only [ok_bind, D.bl.injEq, exists_eq_left', forall_const, reduceCtorEq, false_implies, and_true]
    exact zaE fun r => ok_map
  | _ => simp [ok_none]
 exact zaE fun p => by rw [ok_bind]; exact zaE fun q => by rw [ok_bind]; exact zaE fun t => this p q t
theorem ok_turnM {Q : Option D × R -> Prop} : Ok (zkB g mt me d ρ) Q ↔ Ok (g d ρ) fun ρ1 => Ok (mt ρ1) fun p => (p.1 = true -> Ok (me p.2) fun q => zbT q.2 = true /\ Q (some q.1, q.2)) /\ (p.1 = false -> zbT p.2 = true /\ Q (none, p.2)) := by
 unfold zkB; rw [ok_bind]; exact zaE fun ρ1 => by rw [ok_bind]; exact zaE fun p => by rw [zik, ok_bind, zev, ok_some]; exact and_congr (imp_congr Iff.rfl (zaE fun q => by rw [zev, ok_some])) Iff.rfl
theorem ok_turnP {bk : Nat} {Q : Option D × R -> Prop} : Ok (zku bk g mt me d ρ) Q ↔ Ok (g d ρ) fun ρ1 => Ok (mt ρ1) fun p => (p.1 = true -> Ok (me p.2) fun q => zi7 bk q.2 = true /\ Q (some q.1, q.2)) /\ (p.1 = false -> zi7 bk p.2 = true /\ Q (none, p.2)) := by
 unfold zku; rw [ok_bind]; exact zaE fun ρ1 => by rw [ok_bind]; exact zaE fun p => by rw [zik, ok_bind, zev, ok_some]; exact and_congr (imp_congr Iff.rfl (zaE fun q => by rw [zev, ok_some])) Iff.rfl
theorem zkh (n : Nat) : Int.natAbs (no_index (OfNat.ofNat n)) = n := rfl
end
section
theorem ok_sNext : Ok (zds ρ) Q ↔ Q (.next, ρ) := ok_some
def SeqK (b : MS) (Q : Fl × R -> Prop) (p : Fl × R) : Prop := Ok (match p.1 with
 | .next => b p.2
 | f => some (f, p.2)) Q
theorem zln : SeqK b Q (.next, ρ) ↔ Ok (b ρ) Q := Iff.rfl
theorem seqK_ret : SeqK b Q (.ret r, ρ) ↔ Q (.ret r, ρ) := ok_some
theorem seqK_brk : SeqK b Q (.brk, ρ) ↔ Q (.brk, ρ) := ok_some
theorem zlu : SeqK b Q (.cont, ρ) ↔ Q (.cont, ρ) := ok_some
theorem ok_sSeq {a b : MS} : Ok (sSeq a b ρ) Q ↔ Ok (a ρ) (SeqK b Q) := ok_bind
theorem ok_sRet : Ok (sRet m ρ) Q ↔ Ok (m ρ) fun p => Q (.ret (.val p.1), p.2) := ok_map
theorem ok_sRetO {m : MO} : Ok (zhs m ρ) Q ↔ Ok (m ρ) fun p => Q (.ret (.own p.1), p.2) := ok_map
theorem ok_sRetV : Ok (zg3 i ρ) Q = Ok (match ρ[i]? with
 | some (.val d) => some (.ret (.val d), ρ)
 | some (.own ds) => some (.ret (.own ds), ρ.set i .emp)
 | _ => none) Q := rfl
theorem ok_gN {Q : R -> Prop} : Ok (gN i d ρ) Q ↔ Q (ρ.set i (.val d)) := ok_some
theorem ok_gsNil  {ds : List D} {ρ : R} {Q : R -> Prop} : Ok (zda ds ρ) Q = Ok (match ds with
 | [] => some ρ
 | _ => none) Q := rfl
theorem zkZ {Q : R -> Prop} : Ok (zau g h ds ρ) Q = Ok (match ds with
 | d :: ds => (g d ρ).bind fun ρ1 => h ds ρ1
 | [] => none) Q := rfl
theorem ok_gT {g : List D -> R -> Option R} {Q : R -> Prop} : Ok (gT n g d ρ) Q = Ok (match d with
 | .tup ds => if ds.length = n then g ds ρ else none
 | _ => none) Q := rfl
theorem ok_sAsg : Ok (sAsg m g ρ) Q ↔ Ok (m ρ) fun p => Ok (g p.1 p.2) fun ρ' => Q (.next, ρ') := ok_bind.trans (zaE fun _ => ok_map)
theorem ok_sSet : Ok (sSet i m ρ) Q ↔ Ok (m ρ) fun p => Q (.next, p.2.set i (.val p.1)) := ok_map
theorem ok_sSetO {m : MO} : Ok (zfp i m ρ) Q ↔ Ok (m ρ) fun p => Q (.next, p.2.set i (.own p.1)) := ok_map
theorem ok_sApp : Ok (sApp i m ρ) Q = Ok (if (ρ[i]?.bind Sl.items).isSome then (m ρ).bind fun p => p.2[i]?.bind fun s => s.items.bind fun ds => if ds.length < 16777216 then some (.next, p.2.set i (s.put (ds ++ [p.1]))) else none else none) Q := rfl
theorem ok_sPut {mi me : ME} : Ok (sPut j mi me ρ) Q = Ok ((me ρ).bind fun p => if hasV p.2 j then (mi p.2).bind fun q => match q.1 with
 | .int k => q.2[j]?.bind fun s => s.items.bind fun ds => (ixN ds.length k).bind fun n => some (.next, q.2.set j (s.put (ds.set n p.1)))
 | _ => none else none) Q := rfl
theorem ok_eC {Q : D × R -> Prop} : Ok (eC d ρ) Q ↔ Q (d, ρ) := ok_some
theorem ok_eVar {Q : D × R -> Prop} : Ok (eVar i ρ) Q = Ok (match ρ[i]? with
 | some (.val d) => some (d, ρ)
 | some (.own ds) => some (.lst ds, ρ.set i (.val (.lst ds)))
 | _ => none) Q := rfl
theorem ok_aNil {Q : List D × R -> Prop} : Ok (aNil ρ) Q ↔ Q ([], ρ) := ok_some
theorem ok_aCons {r : MA} {Q : List D × R -> Prop} : Ok (zaf m r ρ) Q ↔ Ok (m ρ) fun p => Ok (r p.2) fun q => Q (p.1 :: q.1, q.2) := ok_bind.trans (zaE fun _ => ok_map)
theorem ok_m2 {f : D -> D -> Option D} {ma mb : ME} {Q : D × R -> Prop} : Ok (m2 f ma mb ρ) Q ↔ Ok (ma ρ) fun p => Ok (mb p.2) fun q => Ok (f p.1 q.1) fun d => Q (d, q.2) := ok_bind.trans (zaE fun _ => ok_bind.trans (zaE fun _ => ok_map))
theorem ok_m1 {f : D -> Option D} {ma : ME} {Q : D × R -> Prop} : Ok (m1 f ma ρ) Q ↔ Ok (ma ρ) fun p => Ok (f p.1) fun d => Q (d, p.2) := ok_bind.trans (zaE fun _ => ok_map)
theorem ok_mC {f : List D -> Option D} {Q : D × R -> Prop} : Ok (mC f ma ρ) Q ↔ Ok (ma ρ) fun p => Ok (f p.1) fun d => Q (d, p.2) := ok_bind.trans (zaE fun _ => ok_map)
theorem ok_eIxV {mi : ME} {Q : D × R -> Prop} : Ok (eIxV j mi ρ) Q = Ok (if hasV ρ j then (mi ρ).bind fun p => (p.2[j]?.bind Sl.read).bind fun d => (dIx d p.1).map fun e => (e, p.2) else none) Q := rfl
theorem ok_eLenV {Q : D × R -> Prop} : Ok (zcC j ρ) Q = Ok ((ρ[j]?.bind Sl.read).bind fun d => (dLen [d]).map fun e => (e, ρ)) Q := rfl
theorem ok_eTup {Q : D × R -> Prop} : Ok (eTup ma ρ) Q ↔ Ok (ma ρ) fun p => p.1.length <= 16777216 /\ Q (.tup p.1, p.2) := ok_bind.trans (zaE fun _ => by rw [zev, ok_some])
theorem ok_oLst {Q : List D × R -> Prop} : Ok (oLst ma ρ) Q ↔ Ok (ma ρ) fun p => p.1.length <= 16777216 /\ Q (p.1, p.2) := ok_bind.trans (zaE fun _ => by rw [zev, ok_some])
theorem ok_tTru {ma : ME} {Q : Bool × R -> Prop} : Ok (tTru ma ρ) Q ↔ Ok (ma ρ) fun p => Ok (dTru p.1) fun b => Q (b, p.2) := ok_bind.trans (zaE fun _ => ok_map)
theorem ok_tNotM {a : MT} {Q : Bool × R -> Prop} : Ok (zkl a ρ) Q ↔ Ok (a ρ) fun p => Q (!p.1, p.2) := ok_map
theorem ok_eCall {Q : D × R -> Prop} : Ok (zaC F ma ρ) Q = Ok ((ma ρ).bind fun p => (F p.1).bind fun r => match r with
 | .val d => some (d, p.2)
 | .own ds => some (.lst ds, p.2)
 | _ => none) Q := rfl
theorem ok_oCall {Q : List D × R -> Prop} : Ok (oCall F ma ρ) Q = Ok ((ma ρ).bind fun p => (F p.1).bind fun r => match r with
 | .own ds => some (ds, p.2)
 | _ => none) Q := rfl
theorem zlZ {F : List D -> List D -> Option (Sl × List D)} {Q : D × R -> Prop} : Ok (zcM F j ma ρ) Q = Ok (if (ρ[j]?.bind Sl.items).isSome then (ma ρ).bind fun p => p.2[j]?.bind fun s => s.items.bind fun cs => (F cs p.1).bind fun r => match r.1 with
 | .val d => some (d, p.2.set j (s.put r.2))
 | .own ds => some (.lst ds, p.2.set j (s.put r.2))
 | _ => none else none) Q := rfl
theorem ok_iR2L {Q : List D × R -> Prop} : Ok (iR2L ma ρ) Q = Ok ((ma ρ).bind fun p => match p.1 with
 | [.int i, .int j] => some (zcP i (j - i).toNat, p.2)
 | _ => none) Q := rfl
theorem ok_eFz {m : MO} {Q : D × R -> Prop} : Ok (eFz m ρ) Q ↔ Ok (m ρ) fun p => Q (.lst p.1, p.2) := ok_map
theorem ok_eCut {ma : ME} {ml mh : MP} {Q : D × R -> Prop} : Ok (eCut ma ml mh ρ) Q = Ok ((ma ρ).bind fun p => (ml p.2).bind fun q => (mh q.2).bind fun r => (dCut p.1 q.1 r.1).map fun d => (d, r.2)) Q := rfl
theorem ok_pNo {Q : Option Int × R -> Prop} : Ok (pNo ρ) Q ↔ Q (none, ρ) := ok_some
theorem ok_pSome {Q : Option Int × R -> Prop} : Ok (zfq m ρ) Q = Ok ((m ρ).bind fun p => match p.1 with
 | .int i => some (some i, p.2)
 | _ => none) Q := rfl
theorem ok_iSeq {Q : List D × R -> Prop} : Ok (iSeq m ρ) Q ↔ Ok (m ρ) fun p => Ok (zaX [p.1]) fun ds => Q (ds, p.2) := ok_bind.trans (zaE fun _ => ok_map)
theorem ok_iR1 {Q : List D × R -> Prop} : Ok (iR1 ma ρ) Q = Ok ((ma ρ).bind fun p => match p.1 with
 | [.int j] => if zeH j then some (zcP 0 j.toNat, p.2) else none
 | _ => none) Q := rfl
theorem ok_sFor {mb : MS} : Ok (sFor mi g mb ρ) Q ↔ Ok (mi ρ) fun p => Ok (forM (fun d ρ => (g d ρ).bind fun ρ' => mb ρ') p.1 p.2) Q := ok_bind
theorem ok_oLC {Q : List D × R -> Prop} : Ok (oLC cap t mi g mt me ρ) Q = Ok ((mi ρ).bind fun p => if p.1.length <= 16777216 then (zcT (zkB g mt me) p.1 (capR cap t (fzL cap p.2))).map fun q => (q.1, fzL cap p.2) else none) Q := rfl
theorem ok_oR {m : MA} {Q : List D × R -> Prop} : Ok (oR m ρ) Q = Ok ((m ρ).bind fun p => if p.1.length <= 16777216 then some p else none) Q := rfl
theorem ok_tTrue {Q : Bool × R -> Prop} : Ok (zcl ρ) Q ↔ Q (true, ρ) := ok_some
theorem ok_sAugI {g : Int -> Int -> Int} : Ok (zkf i g me ρ) Q = Ok (match ρ[i]? with
 | some (.val (.int a)) => (me ρ).bind fun p => match p.1 with
  | .int b => some (.next, p.2.set i (.val (.int (g a b))))
  | _ => none
 | _ => none) Q := rfl
theorem ok_oRep {ma mb : ME} {Q : List D × R -> Prop} : Ok (oRep ma mb ρ) Q = Ok ((ma ρ).bind fun p => (mb p.2).bind fun q => match p.1, q.1 with
 | .lst xs, .int k => if zeH k && decide (xs.length * k.toNat <= 16777216) then some ((List.replicate k.toNat xs).flatten, q.2) else none
 | _, _ => none) Q := rfl
theorem ok_iZ2 {Q : List D × R -> Prop} : Ok (iZ2 ma ρ) Q = Ok ((ma ρ).bind fun p => match p.1 with
 | [a, b] => (zaX [a]).bind fun xs => (zaX [b]).bind fun ys => some (ziP xs ys, p.2)
 | _ => none) Q := rfl
theorem ok_iZ3 {Q : List D × R -> Prop} : Ok (iZ3 ma ρ) Q = Ok ((ma ρ).bind fun p => match p.1 with
 | [a, b, c] => (zaX [a]).bind fun xs => (zaX [b]).bind fun ys => (zaX [c]).bind fun zs => some (zi0 xs ys zs, p.2)
 | _ => none) Q := rfl
theorem ok_iEn {Q : List D × R -> Prop} : Ok (iEn ma ρ) Q = Ok ((ma ρ).bind fun p => (zaX p.1).map fun xs => (zi4 xs, p.2)) Q := rfl
theorem ok_oLCM {t b w : Nat} {Q : List D × R -> Prop} : Ok (oLCM cap t b w mi g mt me ρ) Q = Ok ((mi ρ).bind fun p => if p.1.length <= 16777216 then
    ((fzL (cap.filter (· != w)) p.2)[w]?).bind fun s => s.items.bind fun cs => (zcT (zku b g mt me) p.1 ((capR cap t (fzL (cap.filter (· != w)) p.2)).set b (.par cs))).map fun q => (q.1, (fzL (cap.filter (· != w)) p.2).set w (s.put (zfJ b q.2)))
  else none) Q := rfl
theorem ok_fP {m : MS} {Q : Sl -> Prop} : Ok (fP N m ds) Q = Ok ((m (ds.map .val ++ List.replicate (N - ds.length) .emp)).bind fun p => match p.1 with
 | .ret r => some r
 | .next => some (.val .non)
 | _ => none) Q := rfl
theorem ok_fM {m : MS} {cs : List D} {Q : Sl × List D -> Prop} : Ok (fM N m cs ds) Q = Ok ((m (.par cs :: (ds.map .val ++ List.replicate (N - (ds.length + 1)) .emp))).bind fun p => match p.1, (p.2[0]? : Option Sl) with
 | Fl.ret r, some (Sl.par out) => some (r, out)
 | Fl.next, some (Sl.par out) => some (.val .non, out)
 | _, _ => none) Q := rfl
end
def Turn (I : R -> Prop) (Q : Fl × R -> Prop) (p : Fl × R) : Prop := match p.1 with
 | .next => I p.2
 | .cont => I p.2
 | .brk => Q (.next, p.2)
 | .ret r => Q (.ret r, p.2)
theorem zlT : Turn I Q (.next, ρ) ↔ I ρ := Iff.rfl
theorem zlh : Turn I Q (.cont, ρ) ↔ I ρ := Iff.rfl
theorem turn_brk : Turn I Q (.brk, ρ) ↔ Q (.next, ρ) := Iff.rfl
theorem turn_ret : Turn I Q (.ret r, ρ) ↔ Q (.ret r, ρ) := Iff.rfl
theorem zlP {α : Type} {f : D -> R -> Option (Fl × R)} (enc : α -> D) (I : Nat -> R -> Prop) : ∀ (l : List α) (b : Nat) (ρ : R), I b ρ ->
  (∀ i a ρ, l[i]? = some a -> I (b + i) ρ -> Ok (f (enc a) ρ) (Turn (I (b + i + 1)) Q)) -> (∀ ρ, I (b + l.length) ρ -> Q (.next, ρ)) -> Ok (forM f (l.map enc) ρ) Q
 | [], b, ρ, h0, _, hq => ok_some.mpr (hq ρ h0)
 | a :: l, b, ρ, h0, hs, hq => by
  obtain ⟨p, e, t⟩ := hs 0 a ρ rfl h0
  obtain ⟨fl, ρ1⟩ := p
  have go : ∀ ρ1, I (b + 1) ρ1 -> Ok (forM f (l.map enc) ρ1) Q := fun ρ1 h1 => zlP enc I l (b + 1) ρ1 h1 (fun i a' ρ' hi hp => by
   have := hs (i + 1) a' ρ' (by simpa using hi) (by rw [show b + (i + 1) = b + 1 + i by omega]; exact hp)
   rw [show b + (i + 1) + 1 = b + 1 + i + 1 by omega] at this
   exact this) (fun ρ h => hq ρ (by rw [List.length_cons, show b + (l.length + 1) = b + 1 + l.length by omega]; exact h))
  have e' : forM f ((a :: l).map enc) ρ = (f (enc a) ρ).bind fun p => match p.1 with
   | .next => forM f (l.map enc) p.2
   | .cont => forM f (l.map enc) p.2
   | .brk => some (.next, p.2)
   | .ret r => some (.ret r, p.2) := rfl
  rw [e', e]
  cases fl with
  | next => exact go ρ1 t
  | cont => exact go ρ1 t
  | brk => exact ok_some.mpr t
  | ret r => exact ok_some.mpr t
theorem ok_for {α : Type} {f : D -> R -> Option (Fl × R)} {enc : α -> D} {l : List α} (I : Nat -> R -> Prop) (h0 : I 0 ρ)
  (hs : ∀ i a ρ, l[i]? = some a -> I i ρ -> Ok (f (enc a) ρ) (Turn (I (i + 1)) Q)) (hq : ∀ ρ, I l.length ρ -> Q (.next, ρ)) : Ok (forM f (l.map enc) ρ) Q :=
 zlP enc I l 0 ρ h0 (fun i a ρ hi h => by rw [Nat.zero_add] at h ⊢; exact hs i a ρ hi h) (fun ρ h => hq ρ (by rw [Nat.zero_add] at h; exact h))
theorem zis {α : Type} (enc : α -> D) {Q : List D × R -> Prop} (I : Nat -> List D -> R -> Prop) : ∀ (l : List α) (b : Nat) (acc : List D) (ρ : R), I b acc ρ ->
  (∀ i a acc ρ, l[i]? = some a -> I (b + i) acc ρ -> Ok (f (enc a) ρ) fun p => I (b + i + 1) (acc ++ p.1.toList) p.2) -> (∀ ds ρ, I (b + l.length) (acc ++ ds) ρ -> Q (ds, ρ)) -> Ok (zcT f (l.map enc) ρ) Q
 | [], b, acc, ρ, h0, _, hq => ok_some.mpr (hq [] ρ (by rw [List.append_nil]; exact h0))
 | a :: l, b, acc, ρ, h0, hs, hq => by
  obtain ⟨p, e, t⟩ := hs 0 a acc ρ rfl h0
  have go := zis enc (Q := fun q => Q (p.1.toList ++ q.1, q.2)) I l (b + 1) (acc ++ p.1.toList) p.2 t (fun i a' acc' ρ' hi hp => by
   have := hs (i + 1) a' acc' ρ' (by simpa using hi) (by rw [show b + (i + 1) = b + 1 + i by omega]; exact hp)
   rw [show b + (i + 1) + 1 = b + 1 + i + 1 by omega] at this
   exact this) (fun ds ρ h => hq _ ρ (by rw [List.length_cons, show b + (l.length + 1) = b + 1 + l.length by omega, <- List.append_assoc]; exact h))
  have e' : zcT f ((a :: l).map enc) ρ = (f (enc a) ρ).bind fun p => (zcT f (l.map enc) p.2).map fun q => (p.1.toList ++ q.1, q.2) := rfl
  rw [e', e]
  exact ok_map.mpr go
theorem zi8 {α : Type} {enc : α -> D} {l : List α} {Q : List D × R -> Prop} (I : Nat -> List D -> R -> Prop) (h0 : I 0 [] ρ)
  (hs : ∀ i a acc ρ, l[i]? = some a -> I i acc ρ -> Ok (f (enc a) ρ) fun p => I (i + 1) (acc ++ p.1.toList) p.2) (hq : ∀ ds ρ, I l.length ds ρ -> Q (ds, ρ)) : Ok (zcT f (l.map enc) ρ) Q :=
 zis enc I l 0 [] ρ h0 (fun i a acc ρ hi h => by rw [Nat.zero_add] at h ⊢; exact hs i a acc ρ hi h) (fun ds ρ h => hq ds ρ (by rw [Nat.zero_add] at h; exact h))
theorem ok_compF {α : Type} {enc : α -> D} {l : List α} {Q : List D × R -> Prop} (P : R -> Prop) (g : α -> Option D) (h0 : P ρ)
  (hs : ∀ a ρ, a ∈ l -> P ρ -> Ok (f (enc a) ρ) fun p => p.1 = g a /\ P p.2) (hq : ∀ ρ, P ρ -> Q (l.filterMap g, ρ)) : Ok (zcT f (l.map enc) ρ) Q :=
 zi8 (fun i ds ρ => ds = (l.take i).filterMap g /\ P ρ) ⟨rfl, h0⟩ (fun i a acc ρ hi ⟨e, p⟩ => by
  refine (hs a ρ (List.mem_of_getElem? hi) p).mono fun r h => ⟨?_, h.2⟩
  obtain ⟨h1, h2⟩ := List.getElem?_eq_some_iff.mp hi
  rw [h.1, e, List.take_add_one, hi, List.filterMap_append]
  cases q : g a <;> simp [q]) (fun ds ρ ⟨e, p⟩ => by rw [List.take_length] at e; rw [e]; exact hq ρ p)
theorem ok_comp {α : Type} {enc : α -> D} {l : List α} {Q : List D × R -> Prop} (P : R -> Prop) (g : α -> D) (h0 : P ρ)
  (hs : ∀ a ρ, a ∈ l -> P ρ -> Ok (f (enc a) ρ) fun p => p.1 = some (g a) /\ P p.2) (hq : ∀ ρ, P ρ -> Q (l.map g, ρ)) : Ok (zcT f (l.map enc) ρ) Q :=
 ok_compF P (fun a => some (g a)) h0 hs (fun ρ p => by rw [<- Function.comp_def some g, List.filterMap_eq_map]; exact hq ρ p)
theorem dEq_int (i j : Int) : dEq (.int i) (.int j) = some (.bl (i == j)) := by
 unfold dEq
 rw [show noS (.int i) = true from rfl, show noS (.int j) = true from rfl, show depth (.int i) = 0 from rfl]
 rfl
theorem dNe_int (i j : Int) : dNe (.int i) (.int j) = some (.bl (i != j)) := by
 unfold dNe
 rw [show noS (.int i) = true from rfl, show noS (.int j) = true from rfl, show depth (.int i) = 0 from rfl]
 rfl
theorem atI_n {α : Type} (xs : List α) (i : Nat) : atI xs (i : Int) = xs[i]? := by
 unfold atI ixN
 rw [if_pos (by omega)]
 by_cases h : i < xs.length
 ·rw [if_pos (by omega)]; simp
 ·rw [if_neg (by omega)]; simp [List.getElem?_eq_none (by omega : xs.length <= i)]
theorem atI_lit {α : Type} (xs : List α) (n : Nat) : atI xs (no_index (@OfNat.ofNat Int n _)) = xs[n]? := atI_n xs n
theorem atI_n1 {α : Type} (xs : List α) (i : Nat) : atI xs ((i : Int) + 1) = xs[i + 1]? := atI_n xs (i + 1)
theorem ixN_n (n i : Nat) : ixN n (i : Int) = if i < n then some i else none := by
 unfold ixN
 rw [if_pos (by omega)]
 by_cases h : i < n
 ·rw [if_pos (by omega), if_pos h]; simp
 ·rw [if_neg (by omega), if_neg h]
theorem ixN_lit (n i : Nat) : ixN n (no_index (@OfNat.ofNat Int i _)) = if i < n then some i else none := ixN_n n i
theorem zja {α : Type} (xs : List α) (x : α) : atI (xs ++ [x]) (-1) = some x := by
 unfold atI ixN
 rw [if_neg (by omega), if_pos (by simp; omega)]
 have : (-1 + ((xs ++ [x]).length : Int)).toNat = xs.length := by simp; omega
 simp only [Option.bind_some, this]
 simp
theorem zcu {i j : Int} (h : i.natAbs < 18446744073709551616) : zhW i j = true := by
 unfold zhW
 have : decide (i.natAbs < 2 ^ 64) = true := decide_eq_true h
 rw [this]; rfl
theorem mulOk_r {i j : Int} (h : j.natAbs < 18446744073709551616) : zhW i j = true := by
 unfold zhW
 have : decide (j.natAbs < 2 ^ 64) = true := decide_eq_true h
 rw [this]; simp
theorem za4 {j : Int} (h1 : -1000000000000 <= j) (h2 : j <= 1000000000000) : zeH j = true := by
 unfold zeH; rw [decide_eq_true h1, decide_eq_true h2]; rfl
def wL (n : Nat) (f : Nat -> D) : List D := (List.range n).map f
abbrev wI (n : Nat) (f : Nat -> Int) : List D := wL n fun i => .int (f i)
theorem za8 (n : Nat) (f : Nat -> D) : (wL n f).length = n := by simp [wL]
theorem zap (f : Nat -> D) (h : i < n) : (wL n f)[i]? = some (f i) := by simp [wL, h]
theorem zaZ (n : Nat) (f : Nat -> D) : wL (n + 1) f = wL n f ++ [f n] := by simp [wL, List.range_succ]
theorem zcp {f g : Nat -> D} (h : ∀ i, i < n -> f i = g i) : wL n f = wL n g := List.map_congr_left fun i hi => h i (List.mem_range.mp hi)
theorem wL_snoc (n : Nat) (f : Nat -> D) (x : D) : wL n f ++ [x] = wL (n + 1) fun j => if j < n then f j else x := by
 rw [zaZ]; congr 1
 ·exact zcp fun i hi => by rw [if_pos hi]
 ·rw [if_neg (by omega)]
theorem wL_set (f : Nat -> D) (x : D) (h : i < n) : (wL n f).set i x = wL n fun j => if j = i then x else f j := by
 apply List.ext_getElem?
 intro j
 by_cases hj : j < n
 ·rw [zap _ hj, List.getElem?_set]
  by_cases e : i = j
  ·subst e; simp [za8, h]
  ·simp [e, zap _ hj, Ne.symm e]
 ·rw [List.getElem?_eq_none (by simp [za8]; omega), List.getElem?_eq_none (by simp [za8]; omega)]
theorem atI_w1 (f : Nat -> D) : atI (wL (n + 1) f) (-1) = some (f n) := by rw [zaZ]; exact zja _ _
theorem zgM (n : Nat) (f : Nat -> D) : zi4 (wL n f) = wL n fun i => .tup [.int (i : Nat), f i] := by
 apply List.ext_getElem?
 intro j
 unfold zi4
 by_cases hj : j < n
 ·rw [List.getElem?_zipWith, zap _ hj, zap _ hj]
  simp [za8, hj]
 ·rw [List.getElem?_eq_none (by simp [za8]; omega), List.getElem?_eq_none (by simp [za8]; omega)]
theorem zip2D_w (n : Nat) (f g : Nat -> D) : ziP (wL n f) (wL n g) = wL n fun i => .tup [f i, g i] := by
 apply List.ext_getElem?
 intro j
 unfold ziP
 by_cases hj : j < n
 ·rw [List.getElem?_zipWith, zap _ hj, zap _ hj, zap _ hj]
 ·rw [List.getElem?_eq_none (by simp [za8]; omega), List.getElem?_eq_none (by simp [za8]; omega)]
theorem zhI {α : Type} (xs : List α) (i : Nat) : cutD xs none (some (i : Int)) = xs.take i := by
 unfold cutD
 rw [HT.zkJ, HT.zjh, Nat.sub_zero, List.drop_zero]
 by_cases h : i <= xs.length
 ·rw [Nat.min_eq_left h]
 ·rw [Nat.min_eq_right (by omega), List.take_of_length_le (Nat.le_refl _), List.take_of_length_le (by omega)]
theorem zhY {α : Type} (xs : List α) (i : Nat) : cutD xs (some (i : Int)) none = xs.drop i := by
 unfold cutD
 rw [HT.zkJ, HT.zjh]
 by_cases h : i <= xs.length
 ·rw [Nat.min_eq_left h, List.take_of_length_le (by simp)]
 ·rw [Nat.min_eq_right (by omega), List.drop_of_length_le (Nat.le_refl _), List.drop_of_length_le (by omega)]; simp
theorem zdx : ∀ (l : List Int), zba (l.map .int) = some l
 | [] => rfl
 | i :: l => by simp [zba, zdx l]
mutual
theorem zhL : ∀ (d : D), noS d = true -> eqB d d = true
 | .non, _ => rfl
 | .bl b, _ => by simp [eqB]
 | .int i, _ => by simp [eqB]
 | .str s, _ => by simp [eqB]
 | .lst ds, h => by simp only [eqB]; exact zgL ds (by simpa [noS] using h)
 | .tup ds, h => by simp only [eqB]; exact zgL ds (by simpa [noS] using h)
 | .scr _, h => by simp [noS] at h
 | .exc _, h => by simp [noS] at h
theorem zgL : ∀ (ds : List D), noSL ds = true -> eqBL ds ds = true
 | [], _ => rfl
 | d :: ds, h => by
  simp only [noSL, Bool.and_eq_true] at h
  simp only [eqBL, Bool.and_eq_true]
  exact ⟨zhL d h.1, zgL ds h.2⟩
end
theorem dEq_same (h : noS d = true) (k : depth d <= 50) : dEq d d = some (.bl true) := by simp [dEq, h, k, zhL d h]
theorem dNe_same (h : noS d = true) (k : depth d <= 50) : dNe d d = some (.bl false) := by simp [dNe, h, k, zhL d h]
theorem zkL : ∀ {ds : List D}, (∀ d ∈ ds, noS d = true) -> noSL ds = true
 | [], _ => rfl
 | d :: ds, h => by simp only [noSL, Bool.and_eq_true]; exact ⟨h d List.mem_cons_self, zkL fun e he => h e (List.mem_cons_of_mem _ he)⟩
theorem zia : ∀ {ds : List D}, (∀ d ∈ ds, depth d <= k) -> zeE ds <= k
 | [], _ => Nat.zero_le _
 | d :: ds, h => by simp only [zeE]; exact Nat.max_le.mpr ⟨h d List.mem_cons_self, zia fun e he => h e (List.mem_cons_of_mem _ he)⟩
def Pl (k : Nat) (d : D) : Prop := noS d = true /\ depth d <= k
theorem pl_int (k : Nat) (i : Int) : Pl k (.int i) := ⟨rfl, Nat.zero_le _⟩
theorem pl_lst (h : ∀ d ∈ ds, Pl k d) : Pl (k + 1) (.lst ds) := ⟨by simp only [noS]; exact zkL fun d hd => (h d hd).1, by simp only [depth]; exact Nat.succ_le_succ (zia fun d hd => (h d hd).2)⟩
theorem pl_w {f : Nat -> D} (h : ∀ i, Pl k (f i)) : ∀ d ∈ wL n f, Pl k d := fun d hd => by
 obtain ⟨i, _, rfl⟩ := List.mem_map.mp hd; exact h i
theorem Pl.eq (h : Pl k d) (l : k <= 50) : dEq d d = some (.bl true) := dEq_same h.1 (Nat.le_trans h.2 l)
theorem Pl.ne (h : Pl k d) (l : k <= 50) : dNe d d = some (.bl false) := dNe_same h.1 (Nat.le_trans h.2 l)
theorem rangeD_w (n : Nat) : zcP 0 n = wL n fun i => .int (i : Nat) := by unfold zcP wL; simp only [Int.zero_add]
section
variable {n : Nat} {e : Nat -> D} {ρ : R}
theorem zbe {f : D -> R -> Option (Fl × R)} (I : Nat -> R -> Prop) (h0 : I 0 ρ)
  (hs : ∀ i ρ, i < n -> I i ρ -> Ok (f (e i) ρ) (Turn (I (i + 1)) Q)) (hq : ∀ ρ, I n ρ -> Q (.next, ρ)) : Ok (forM f (wL n e) ρ) Q :=
 ok_for (enc := e) (l := List.range n) I h0 (fun i a ρ hi h => by
  obtain ⟨h1, h2⟩ := List.getElem?_eq_some_iff.mp hi
  have : a = i := by simpa using h2.symm
  subst this
  exact hs a ρ (by simpa using h1) h) (fun ρ h => hq ρ (by simpa using h))
variable {f : D -> R -> Option (Option D × R)} {Q : List D × R -> Prop}
theorem zgK (I : Nat -> List D -> R -> Prop) (h0 : I 0 [] ρ)
  (hs : ∀ i acc ρ, i < n -> I i acc ρ -> Ok (f (e i) ρ) fun p => I (i + 1) (acc ++ p.1.toList) p.2) (hq : ∀ ds ρ, I n ds ρ -> Q (ds, ρ)) : Ok (zcT f (wL n e) ρ) Q :=
 zi8 (enc := e) (l := List.range n) I h0 (fun i a acc ρ hi h => by
  obtain ⟨h1, h2⟩ := List.getElem?_eq_some_iff.mp hi
  have : a = i := by simpa using h2.symm
  subst this
  exact hs a acc ρ (by simpa using h1) h) (fun ds ρ h => hq ds ρ (by simpa using h))
theorem zaN (P : R -> Prop) (g : Nat -> D) (h0 : P ρ)
  (hs : ∀ i ρ, i < n -> P ρ -> Ok (f (e i) ρ) fun p => p.1 = some (g i) /\ P p.2) (hq : ∀ ρ, P ρ -> Q (wL n g, ρ)) : Ok (zcT f (wL n e) ρ) Q :=
 ok_comp (enc := e) (l := List.range n) P g h0 (fun a ρ ha hp => hs a ρ (List.mem_range.mp ha) hp) hq
end
end M
namespace M
theorem wI_snoc (n : Nat) (f : Nat -> Int) (x : Int) : wI n f ++ [.int x] = wI (n + 1) fun j => if j < n then f j else x := by
 rw [wI, wL_snoc]; exact zcp fun j _ => by dsimp only; split <;> rfl
theorem zkU {j : Int} (h0 : 0 < j) (h1 : j < 2 ^ 250) : divOk j = true := by
 have h : j.natAbs.log2 < 9000 := by
  have : j.natAbs.log2 < 250 := (Nat.log2_lt (by omega)).mpr (by omega)
  omega
 unfold divOk; rw [decide_eq_true h0, decide_eq_true h]; rfl
theorem wI_set {n i : Nat} (f : Nat -> Int) (x : Int) (h : i < n) : (wI n f).set i (.int x) = wI n fun j => if j = i then x else f j := by
 rw [wI, wL_set _ _ h]; exact zcp fun j _ => by dsimp only; split <;> rfl
theorem isN_non : isN .non = true := rfl
theorem isN_int (i : Int) : isN (.int i) = false := rfl
theorem isN_bl (b : Bool) : isN (.bl b) = false := rfl
theorem isN_str (s : PySem.Str) : isN (.str s) = false := rfl
theorem isN_lst (ds : List D) : isN (.lst ds) = false := rfl
theorem isN_tup (ds : List D) : isN (.tup ds) = false := rfl
end M
namespace M
open L2 PySem
variable {i N k : Nat} {m me : ME} {Q : Fl × R -> Prop} {g : D -> R -> Option R} {is cap : List Nat} {ds : List D} {F : List D -> Option Sl} {ma mi : MA} {mt : MT} {mo : MO} {d : D} {c : Int}
theorem dItems_l (ds : List D) : zaX [.lst ds] = some ds := rfl
theorem dItems_t (ds : List D) : zaX [.tup ds] = some ds := rfl
theorem dItems_s (ns : List Int) : zaX [.scr ns] = some (ns.map .int) := rfl
theorem dLen_l (ds : List D) : dLen [.lst ds] = some (.int ds.length) := rfl
theorem dLen_t (ds : List D) : dLen [.tup ds] = some (.int ds.length) := rfl
theorem dLen_s (ns : List Int) : dLen [.scr ns] = some (.int ns.length) := rfl
theorem dTuple_l (ds : List D) : zb9 [.lst ds] = some (.tup ds) := rfl
theorem dTuple_t (ds : List D) : zb9 [.tup ds] = some (.tup ds) := rfl
theorem dTuple_s (ns : List Int) : zb9 [.scr ns] = some (.tup (ns.map .int)) := rfl
theorem dCut_l (ds : List D) (a b : Option Int) : dCut (.lst ds) a b = some (.lst (cutD ds a b)) := rfl
theorem dCut_t (ds : List D) (a b : Option Int) : dCut (.tup ds) a b = some (.tup (cutD ds a b)) := rfl
theorem dCut_s (ns : List Int) (a b : Option Int) : dCut (.scr ns) a b = some (.lst ((cutD ns a b).map .int)) := rfl
theorem dIx_l (ds : List D) (i : Int) : dIx (.lst ds) (.int i) = atI ds i := rfl
theorem dIx_t (ds : List D) (i : Int) : dIx (.tup ds) (.int i) = atI ds i := rfl
theorem dIx_s (ns : List Int) (i : Int) : dIx (.scr ns) (.int i) = (atI ns i).map .int := rfl
theorem dEq_str (a b : Str) : dEq (.str a) (.str b) = some (.bl (a == b)) := by
 unfold dEq
 rw [show noS (.str a) = true from rfl, show noS (.str b) = true from rfl, show depth (.str a) = 0 from rfl]
 rfl
theorem zgF (n : Nat) (f g h : Nat -> D) : zi0 (wL n f) (wL n g) (wL n h) = wL n fun i => .tup [f i, g i, h i] := by
 apply List.ext_getElem?
 intro j
 unfold zi0
 by_cases hj : j < n
 ·have e : (List.zip (wL n g) (wL n h))[j]? = some (g j, h j) := by
   rw [List.getElem?_zip_eq_some]; exact ⟨zap g hj, zap h hj⟩
  rw [List.getElem?_zipWith, e, zap _ hj, zap _ hj]
 ·rw [List.getElem?_eq_none (by simp [za8]; omega), List.getElem?_eq_none (by simp [za8]; omega)]
theorem zfc (n : Nat) (b : Nat -> Bool) : zdz (wL n fun i => .bl (b i)) = some ((List.range n).map b) := by
 have : ∀ l : List Nat, zdz (l.map fun i => D.bl (b i)) = some (l.map b) := by
  intro l
  induction l with
  | nil => rfl
  | cons a l ih => simp [zdz, ih]
 exact this _
theorem ok_sExt {ρ : R} : Ok (sExt i m ρ) Q = Ok (if (ρ[i]?.bind Sl.items).isSome then (m ρ).bind fun p => p.2[i]?.bind fun s => s.items.bind fun ds => match p.1 with
 | .lst es => if ds.length + es.length <= 16777216 then some (.next, p.2.set i (s.put (ds ++ es))) else none
 | _ => none else none) Q := rfl
theorem eqV_int (a b : Int) : eqV (.int a) (.int b) = (b == a) := by
 show (a == b) = (b == a)
 by_cases h : a = b
 ·subst h; rfl
 ·rw [beq_eq_false_iff_ne.mpr h, beq_eq_false_iff_ne.mpr fun e => h e.symm]
theorem zg7 : ∀ (l : List Int), zkz (l.map D.int) = some (l.map V.int)
 | [] => rfl
 | i :: l => by simp [zkz, flV, zg7 l]
theorem zjk (a : Int) : ∀ (l : List Int), inV (.int a) (l.map V.int) = l.contains a
 | [] => rfl
 | i :: l => by
  have := zjk a l
  unfold inV at this ⊢
  rw [List.map_cons, List.any_cons, this, eqV_int, List.contains_cons]
def sumR : Nat -> (Nat -> Int) -> Int
 | 0, _ => 0
 | n + 1, f => sumR n f + f n
theorem zaP {f g : Nat -> Int} : ∀ {n : Nat}, (∀ i, i < n -> f i = g i) -> sumR n f = sumR n g
 | 0, _ => rfl
 | n + 1, h => by rw [sumR, sumR, zaP fun i hi => h i (by omega), h n (by omega)]
theorem zje (f g : Nat -> Int) : ∀ n, sumR n (fun i => f i - g i) = sumR n f - sumR n g
 | 0 => rfl
 | n + 1 => by simp only [sumR, zje f g n]; omega
theorem zff : ∀ n, sumR n (fun _ => 0) = 0
 | 0 => rfl
 | n + 1 => by simp only [sumR, zff n]; omega
theorem ziu (f : Nat -> Int) : ∀ n, ((List.range n).map f).sum = sumR n f
 | 0 => rfl
 | n + 1 => by simp [List.range_succ, ziu f n, sumR]
theorem intsOf_w (n : Nat) (f : Nat -> Int) : zba (wI n f) = some ((List.range n).map f) := by
 have : wI n f = ((List.range n).map f).map .int := by simp [wL, List.map_map, Function.comp_def]
 rw [this, zdx]
theorem zjj {mc : MT} {mb : MS} (I : Nat -> R -> Prop) (turn : ∀ m ρ, I m ρ -> Ok (mc ρ) fun p => (p.1 = true -> ∃ m', m = m' + 1 /\ Ok (mb p.2) fun q => q.1 = .next /\ I m' q.2) /\ (p.1 = false -> Q (.next, p.2))) : ∀ (fuel m : Nat) (ρ : R), m < fuel -> I m ρ -> Ok (zfY mc mb fuel ρ) Q
 | 0, m, ρ, h, _ => by omega
 | n + 1, m, ρ, h, hI => by
  obtain ⟨⟨b, ρ1⟩, e, h1, h2⟩ := turn m ρ hI
  unfold zfY
  rw [e]
  cases b with
  | false => exact ok_some.mpr (h2 rfl)
  | true =>
   obtain ⟨m', rfl, ⟨f, ρ2⟩, e2, ef, hI2⟩ := h1 rfl
   show Ok ((mb ρ1).bind _) Q
   rw [e2]
   cases (show f = .next from ef)
   exact zjj I turn n m' ρ2 (by omega) hI2
theorem inL (j : Int) (ns : List Int) : dIn (.int j) (.lst (ns.map .int)) = some (.bl (ns.contains j)) := by
 show ((zkz (ns.map D.int)).map fun xs => D.bl (inV (.int j) xs)) = _
 rw [zg7]
 show some (D.bl (inV (.int j) (ns.map V.int))) = _
 rw [zjk]
theorem like_par (ns : List Int) : zdw (.par (ns.map .int)) (.par (ns.map .int)) = true := by
 show (match zba (ns.map D.int), zba (ns.map D.int) with
  | some a, some b => a == b
  | _, _ => false) = true
 rw [zdx]; exact beq_self_eq_true ns
theorem zgc (d : D) (s : Sl) : zdw (.val d) s = true := by cases s <;> rfl
theorem zgi (s : Sl) : zdw .emp s = true := by cases s <;> rfl
section
variable {j : Nat} {mk me : ME} {ρ : R}
theorem ok_tDI {neg : Bool} {Q : Bool × R -> Prop} : Ok (tDI j neg mk ρ) Q ↔ Ok (mk ρ) fun p => Ok (match p.1 with
 | .int k => (p.2[j]?.bind Sl.dic).map fun q => (((lkD q.1 q.2 k).isSome != neg), p.2)
 | _ => none) Q := ok_bind
theorem ok_sUnT : Ok (sUnT j is ρ) Q = Ok (match ρ[j]? with
 | some (.tre (.lst cs)) => if cs.length = is.length then some (.next, putCs is cs (ρ.set j .emp)) else none
 | _ => none) Q := rfl
theorem ok_fMT {m : MS} {cs : List D} {t : T} {Q : Sl × List D -> Prop} : Ok (fMT N m cs t ds) Q = Ok ((m (.par cs :: .tre t :: (ds.map .val ++ List.replicate (N - (ds.length + 2)) .emp))).bind fun p => match p.1, (p.2[0]? : Option Sl) with
 | Fl.ret r, some (Sl.par out) => some (r, out)
 | Fl.next, some (Sl.par out) => some (.val .non, out)
 | _, _ => none) Q := rfl
theorem ok_sRT : Ok (sRT j ρ) Q = Ok (match ρ[j]? with
 | some (.tre t) => some (.ret (.tre t), ρ.set j .emp)
 | _ => none) Q := rfl
theorem zk6 {Q : D × R -> Prop} : Ok (zl9 F ma ρ) Q = Ok ((ma ρ).bind fun p => (F p.1).bind fun r => match r with
 | .tre (.lst cs) => some (.lst (cs.map Ch.D), p.2)
 | _ => none) Q := rfl
theorem ok_eTI {mi mq : MQ} {Q : D × R -> Prop} : Ok (eTI j mi mq ρ) Q = Ok ((mi ρ).bind fun a => (mq ρ).bind fun b => match a, b, ρ[j]? with
 | .int n, .int m, some (.tre (.lst cs)) => (atI cs n).bind fun c => match c with
  | .l ds => (atI ds m).map fun d => (d, ρ)
  | _ => none
 | _, _, _ => none) Q := rfl
theorem ok_sTP {mi mq : MQ} : Ok (sTP j mi mq me ρ) Q = Ok ((me ρ).bind fun p => (mi p.2).bind fun a => (mq p.2).bind fun b => match a, b, p.2[j]? with
 | .int n, .int m, some (.tre (.lst cs)) => (ixN cs.length n).bind fun u => match cs[u]? with
  | some (.l ds) => (ixN ds.length m).bind fun w => some (.next, p.2.set j (.tre (.lst (cs.set u (.l (ds.set w p.1))))))
  | _ => none
 | _, _, _ => none) Q := rfl
theorem ok_sPar : Ok (sPar i j ma ρ) Q = Ok ((ma ρ).bind fun p => match p.1 with
 | [c, d] => some (.next, (p.2.set i (.val c)).set j (.val d))
 | _ => none) Q := rfl
theorem ok_sDPT : Ok (sDPT j mk me ρ) Q = Ok ((me ρ).bind fun p => if (p.2[j]?.bind Sl.dit).isSome then (mk p.2).bind fun q => (keyT q.1).bind fun k => q.2[j]?.bind fun s => match s.tree with
  | some (.dit ks ds) => if ks.length < 16777216 then some (.next, q.2.set j (s.putT (.dit (ptD ks ds k p.1).1 (ptD ks ds k p.1).2))) else none
  | _ => none else none) Q := rfl
theorem ok_sDNT : Ok (sDNT j ρ) Q ↔ Q (.next, ρ.set j (.tre (.dit [] []))) := ok_some
theorem ok_eKn {Q : D × R -> Prop} : Ok (eKn j ρ) Q = Ok (match ρ[j]? with
 | some (.tre (.dit ks ds)) => some (.dit ks ds, ρ.set j (.val (.dit ks ds)))
 | some (.val d) => some (d, ρ)
 | _ => none) Q := rfl
theorem ok_eCallU {Q : D × R -> Prop} : Ok (eCallU F ma ρ) Q = Ok ((ma ρ).bind fun p => (F p.1).bind fun r => match r with
 | .tre (.tup cs) => some (.tup (cs.map Ch.D), p.2)
 | _ => none) Q := rfl
theorem zgh {Q : Option (List D) × R -> Prop} : Ok (zkx g mt mo d ρ) Q ↔ Ok (g d ρ) fun ρ1 => Ok (mt ρ1) fun p => (p.1 = true -> Ok (mo p.2) fun q => zbT q.2 = true /\ Q (some q.1, q.2)) /\ (p.1 = false -> zbT p.2 = true /\ Q (none, p.2)) := by
 unfold zkx; rw [ok_bind]; exact zaE fun ρ1 => by rw [ok_bind]; exact zaE fun p => by rw [zik, ok_bind, zev, ok_some]; exact and_congr (imp_congr Iff.rfl (zaE fun q => by rw [zev, ok_some])) Iff.rfl
theorem zj2 {f : D -> R -> Option (Option (List D) × R)} {e : Nat -> D} (P : R -> Prop) (g : Nat -> List D) {Q : List (List D) × R -> Prop} : ∀ {n k : Nat} {ρ : R}, P ρ -> (∀ i ρ, i < n -> P ρ -> Ok (f (e (k + i)) ρ) fun p => p.1 = some (g (k + i)) /\ P p.2) -> (∀ ρ, P ρ -> Q ((List.range n).map (fun i => g (k + i)), ρ)) -> Ok (zhN f ((List.range n).map fun i => e (k + i)) ρ) Q
 | 0, k, ρ, h0, _, hq => ⟨_, rfl, hq ρ h0⟩
 | n + 1, k, ρ, h0, hs, hq => by
  have s1 : ∀ {α : Type} (e : Nat -> α), (List.range (n + 1)).map (fun i => e (k + i)) = e k :: (List.range n).map fun i => e (k + 1 + i) := fun e => by
   rw [List.range_succ_eq_map, List.map_cons, List.map_map]
   congr 1
   exact List.map_congr_left fun i _ => by show e (k + (i + 1)) = _; congr 1; omega
  rw [s1 e]
  obtain ⟨p, e1, h1, h2⟩ := hs 0 ρ (by omega) h0
  obtain ⟨q, e2, h3⟩ := zj2 (f := f) (e := e) P g (Q := fun z => Q (g k :: z.1, z.2)) (n := n) (k := k + 1) h2 (fun i ρ hi hp => by have := hs (i + 1) ρ (by omega) hp; rwa [show k + (i + 1) = k + 1 + i by omega] at this) fun ρ hp => by have := hq ρ hp; rwa [s1 g] at this
  refine ⟨(g k :: q.1, q.2), ?_, h3⟩
  obtain ⟨p1, p2⟩ := p
  have h1 : p1 = some (g k) := h1
  subst h1
  have e1 : f (e k) ρ = some (some (g k), p2) := e1
  have e2 : zhN f ((List.range n).map fun i => e (k + 1 + i)) p2 = some q := e2
  simp only [zhN, e1, Option.bind_some, e2, Option.map_some]
  rfl
theorem zgt {n : Nat} {e : Nat -> D} {f : D -> R -> Option (Option (List D) × R)} {Q : List (List D) × R -> Prop} (P : R -> Prop) (g : Nat -> List D) (h0 : P ρ)
  (hs : ∀ i ρ, i < n -> P ρ -> Ok (f (e i) ρ) fun p => p.1 = some (g i) /\ P p.2) (hq : ∀ ρ, P ρ -> Q ((List.range n).map g, ρ)) : Ok (zhN f (wL n e) ρ) Q := by
 have := zj2 (f := f) (e := e) P g (Q := Q) (n := n) (k := 0) h0 (fun i ρ hi hp => by rw [Nat.zero_add]; exact hs i ρ hi hp) (fun ρ hp => by simpa using hq ρ hp)
 simpa [wL] using this
theorem ok_sTC {i t : Nat} : Ok (sTC i cap t mi g mt mo ρ) Q = Ok ((mi ρ).bind fun p => if p.1.length <= 16777216 then (zhN (zkx g mt mo) p.1 (capR cap t (fzL cap p.2))).map fun q => (.next, (fzL cap p.2).set i (.tre (.lst (q.1.map .l)))) else none) Q := rfl
theorem ok_eDGT2 {mk : ME} {Q : D × R -> Prop} : Ok (zlC j c mk ρ) Q = Ok (if (ρ[j]?.bind Sl.dit).isSome then (mk ρ).bind fun p => (keyT p.1).bind fun k => (p.2[j]?.bind Sl.dit).map fun q => ((lkD q.1 q.2 k).getD (.int c), p.2) else none) Q := rfl
theorem ok_sTGe {mi mq : MQ} : Ok (sTGe j mi mq me ρ) Q = Ok (if zbT (ρ.set j .emp) then (mi ρ).bind fun a => (mq ρ).bind fun b => (me (ρ.set j .emp)).bind fun p => match a, b, p.1, ρ[j]? with
 | .int n, .int m, .int z, some (.tre (.lst cs)) => (ixN cs.length n).bind fun u => match cs[u]? with
  | some (.l ds) => (ixN ds.length m).bind fun w => match ds[w]? with
   | some (.int y) => some (.next, ρ.set j (.tre (.lst (cs.set u (.l (ds.set w (.int (y + z))))))))
   | _ => none
  | _ => none
 | _, _, _, _ => none else none) Q := rfl
theorem ok_turnQ {b c : Nat} {Q : Option D × R -> Prop} : Ok (zke b c g mt me d ρ) Q ↔ Ok (g d ρ) fun ρ1 => Ok (mt ρ1) fun p => (p.1 = true -> Ok (me p.2) fun q => zi3 b c q.2 = true /\ Q (some q.1, q.2)) /\ (p.1 = false -> zi3 b c p.2 = true /\ Q (none, p.2)) := by
 unfold zke; rw [ok_bind]; exact zaE fun ρ1 => by rw [ok_bind]; exact zaE fun p => by rw [zik, ok_bind, zev, ok_some]; exact and_congr (imp_congr Iff.rfl (zaE fun q => by rw [zev, ok_some])) Iff.rfl
theorem ok_oLC2 {t b w c v : Nat} {Q : List D × R -> Prop} : Ok (oLC2 cap t b w c v mi g mt me ρ) Q = Ok ((mi ρ).bind fun p => if p.1.length <= 16777216 then
  ((fzL (cap.filter fun i => i != w && i != v) p.2)[w]?).bind fun s => s.items.bind fun cs => ((fzL (cap.filter fun i => i != w && i != v) p.2)[v]?).bind fun s2 => s2.items.bind fun cs2 =>
   (zcT (zke b c g mt me) p.1 (((capR cap t (fzL (cap.filter fun i => i != w && i != v) p.2)).set b (.par cs)).set c (.par cs2))).map fun q => (q.1, ((fzL (cap.filter fun i => i != w && i != v) p.2).set w (s.put (zfJ b q.2))).set v (s2.put (zfJ c q.2)))
 else none) Q := rfl
theorem ok_ePop {Q : D × R -> Prop} : Ok (ePop j me ρ) Q = Ok (if (ρ[j]?.bind Sl.items).isSome then (me ρ).bind fun p => match p.1 with
 | .int i => p.2[j]?.bind fun s => s.items.bind fun ds => if 0 <= i /\ i < ds.length /\ ds.length <= 16777216 then (ds[i.toNat]?).map fun d => (d, p.2.set j (s.put (ds.eraseIdx i.toNat))) else none
 | _ => none else none) Q := rfl
theorem ok_eLk2 {Q : D × R -> Prop} : Ok (eLk2 j k m ρ) Q = Ok (match ρ[j]?, ρ[k]? with
 | some (.tre (.lst cs)), some (.tre (.lst ds)) => (m ((ρ.set j (.val (.lst (cs.map Ch.D)))).set k (.val (.lst (ds.map Ch.D))))).bind fun p =>
  if tpD p.1 && (((ρ.set j .emp).set k .emp).zip p.2).all (fun q => zdw q.1 q.2) then some (p.1, ρ) else none
 | _, _ => none) Q := rfl
theorem ok_sRTT : Ok (sRTT j k ρ) Q = Ok (match ρ[j]?, ρ[k]? with
 | some (.tre (.lst cs)), some (.tre (.lst ds)) => (zeO cs).bind fun xs => (zeO ds).map fun ys => (.ret (.tre (.tup [.t xs, .t ys])), (ρ.set j .emp).set k .emp)
 | _, _ => none) Q := rfl
theorem ok_sATT {a b : Nat} : Ok (sATT a b F ma ρ) Q = Ok ((ma ρ).bind fun p => (F p.1).bind fun r => match r with
 | .tre (.tup [.t xs, .t ys]) => some (.next, (p.2.set a (.tre (.lst (xs.map .l)))).set b (.tre (.lst (ys.map .l))))
 | _ => none) Q := rfl
end
end M
local macro_rules | `(tactic| simp! only [$ls,*]) => `(tactic| simp only [↓M.ok_sIf, ↓M.ok_eIf, ↓M.ok_tAnd, ↓M.ok_tOr, ↓M.ok_eAnd, ↓M.ok_eOr, ↓M.ok_chain, ↓M.ok_turnM, ↓M.ok_turnP, ↓M.ok_turnQ, ↓M.ok_bind, ↓M.ok_map, ↓M.zev, ↓M.ok_some, ↓M.ok_sNext, ↓M.ok_sSeq, ↓M.ok_sRet, ↓M.ok_sRetO, ↓M.ok_sRetV, ↓M.ok_gN, ↓M.ok_gsNil, ↓M.zkZ, ↓M.ok_gT, ↓M.ok_sAsg, ↓M.ok_sSet, ↓M.ok_sSetO, ↓M.ok_sApp, ↓M.ok_sPut, ↓M.ok_eC, ↓M.ok_eVar, ↓M.ok_aNil, ↓M.ok_aCons, ↓M.ok_m2, ↓M.ok_m1, ↓M.ok_mC, ↓M.ok_eIxV, ↓M.ok_eLenV, ↓M.ok_eTup, ↓M.ok_oLst, ↓M.ok_tTru, ↓M.ok_tNotM, ↓M.ok_eCall, ↓M.ok_oCall, ↓M.zlZ, ↓M.ok_eFz, ↓M.ok_eCut, ↓M.ok_pNo, ↓M.ok_pSome, ↓M.ok_iSeq, ↓M.ok_iR1, ↓M.ok_sFor, ↓M.ok_oLC, ↓M.ok_oR, ↓M.ok_tTrue, ↓M.ok_fP, ↓M.ok_fM, ↓M.ok_sAugI, ↓M.ok_oRep, ↓M.ok_iZ2, ↓M.ok_iZ3, ↓M.ok_iEn, ↓M.ok_oLCM, ↓M.ok_sExt, ↓M.ok_fMT, ↓M.ok_sRT, ↓M.zk6, ↓M.ok_eTI, ↓M.ok_sTP, ↓M.ok_sDPT, ↓M.ok_sDNT, ↓M.ok_eKn, ↓M.zgh, ↓M.ok_sTC, ↓M.ok_eDGT2, ↓M.ok_sTGe, ↓M.ok_oLC2, ↓M.ok_ePop, ↓M.ok_eLk2, ↓M.ok_sRTT, ↓M.ok_sATT, M.dI2, M.dSub, M.dDiv, M.dMod, M.dPow, M.dLt, M.dLe, M.dGt, M.dGe, M.dNeg, M.dMul, M.dAdd, M.dTru, M.Sl.read, M.Sl.items, M.Sl.put, M.hasV, M.zbT, M.fz1, M.fzL, M.capS, M.capR, M.eIsI.noS1, M.okT, M.isI, M.d2I, M.dSum, M.dAll, M.dIsN, M.zic, M.zi7, M.zfJ, M.zh6, M.fzD, M.putCs, M.Ch.sl, M.Sl.dic, M.Sl.dit, M.Sl.tree, M.Sl.putT, M.Sl.dit, M.qV, M.fzT, M.Ch.D, M.fzDT, M.fzU, M.zeO, M.zi3, M.zln, M.seqK_ret, M.seqK_brk, M.zlu, M.zlT, M.zlh, M.turn_brk, M.turn_ret, List.getElem?_cons_zero, List.getElem?_cons_succ, List.set_cons_zero, List.set_cons_succ, Option.bind_some, Option.isSome_some, Option.map_some, if_true, List.map_cons, List.map_nil, List.replicate_succ, List.replicate_zero, List.length_cons, List.length_nil, List.cons_append, List.nil_append, List.all_cons, List.all_nil, Bool.and_true, Bool.true_and, Bool.and_self, Bool.true_eq_false, Bool.false_eq_true, if_false, M.dEq_int, M.dNe_int, List.length_map, List.length_append, M.atI_n, M.atI_lit, M.ixN_n, M.ixN_lit, M.atI_n1, M.ok_none, M.dItems_l, M.dItems_t, M.dItems_s, M.dLen_l, M.dLen_t, M.dLen_s, M.dTuple_l, M.dTuple_t, M.dTuple_s, M.dCut_l, M.dCut_t, M.dCut_s, M.dIx_l, M.dIx_t, M.dIx_s, M.dEq_str, M.zgF, M.isN_non, M.isN_int, M.isN_bl, M.isN_str, M.isN_lst, M.isN_tup, M.zdx, Int.toNat_natCast, M.rangeD_w, M.za8, decide_eq_true_eq, Bool.and_eq_true, true_and, and_true, Nat.reduceAdd, Nat.reduceLeDiff, Int.reduceLT, Int.reduceLE, Int.reduceNeg, Nat.reduceSub, Int.reducePow, Int.reduceMul, Int.reduceAdd, Int.reduceSub, Int.reduceMod, Int.reduceDiv, Nat.reduceLT, Nat.reduceBNe, Nat.reduceEqDiff, List.filter_cons, List.filter_nil, bne_self_eq_false, Int.reduceToNat, Nat.reducePow, M.zkh, Int.reduceEq, Int.reduceBEq, Int.reduceBNe, Nat.reduceMod, decide_true, decide_false, beq_iff_eq, beq_eq_false_iff_ne, bne_iff_ne, bne_eq_false_iff_eq, decide_eq_false_iff_not, Int.not_le, Int.not_lt, ne_eq, forall_const, true_implies, false_implies, reduceCtorEq, imp_self, implies_true, M.D.bl.injEq, exists_eq_left', Bool.not_true, Bool.not_false, $ls,*])
namespace Prf
open L2 M PySem
def top (i : Nat) : Stmt := PySem.Challenge.pw_tellsum_k42_whole_long_tours.main.body.getD i (.Pass ⟨0, 0, 0, 0⟩)
structure BN (K : W.Frag) (mg : Str -> Option Value) : Prop where
 all' : mg "all" = none
 enumerate' : mg "enumerate" = none
 len' : mg "len" = none
 list' : mg "list" = none
 max' : mg "max" = none
 min' : mg "min" = none
 range' : mg "range" = none
 sum' : mg "sum" = none
 tuple' : mg "tuple" = none
 zip' : mg "zip" = none
section
variable {P : Program} {w : World} {K : W.Frag} {mg : Str -> Option Value} {base hp : Heap} {f : Addr} {fd : FuncData} (X : K.In hp) (G : hp.Ns mainGlobals mg) (bn : BN K mg)
include X G bn
abbrev zeJ : Stmt := top 4
def zga : ME :=
 (m2 dAdd (mC dSum (zaf (eCut (eVar 0) (zfq (eVar 2)) (zfq (m2 dAdd (eVar 2) (eC (.int 2))))) aNil)) (mC dSum (zaf (eCut (eVar 1) (zfq (eVar 2)) (zfq (m2 dAdd (eVar 2) (eC (.int 2))))) aNil)))
def zf9 : MO :=
 oLC [0, 1] 1 (iR1 (zaf (m2 dSub (zcC 0) (eC (.int 1))) aNil)) (gN 2) zcl zga
def zfm : MS :=
 (sRet (mC zb9 (zaf (eFz zf9) aNil)))
def zdj : List D -> Option Sl := fP 2 zfm
theorem zg1  (h : FnAt K "square_sums" zeJ) : FD P w K mg base 1 "square_sums" (spP K 2 zdj) :=
 fdP (N := ["upper", "lower"]) (k := 0) (m := zfm) X G h fun _ _ _ _ _ _ _ hr nd => (zak (zax (zcm bn.tuple' (zaa (SO.se (zeB [0, 1] 1 ["upper", "lower", "c"] rfl (zaQ bn.range' (zaa (zbm (zaV 0 bn.len') zah) zag)) (fun C s H fp => (zal 2 ndk)) (fun C s H fp => zaI) (fun C s H fp => (zaD (zi9 rfl bn.sum' (zaa (zeC (zab 0) (zb4 (zab 2)) (zb4 (zaD (zab 2) zah))) zag)) (zi9 rfl bn.sum' (zaa (zeC (zab 1) (zb4 (zab 2)) (zb4 (zaD (zab 2) zah))) zag)))))) zag))))
abbrev ze2 : Stmt := top 5
def zgG : ME :=
 (zaC zdj (zaf (eIxV 0 (eVar 1)) (zaf (eIxV 0 (m2 dAdd (eVar 1) (eC (.int 1)))) aNil)))
def zgn : MO :=
 oLC [0] 1 (iR1 (zaf (m2 dSub (zcC 0) (eC (.int 1))) aNil)) (gN 1) zcl zgG
def zfZ : MS :=
 (sRet (mC zb9 (zaf (eFz zgn) aNil)))
def zd8 : List D -> Option Sl := fP 1 zfZ
theorem zhw (zc3 : FD P w K mg base 1 "square_sums" (spP K 2 zdj)) (h : FnAt K "floor_sums" ze2) : FD P w K mg base 2 "floor_sums" (spP K 1 zd8) :=
 fdP (N := ["numbers"]) (k := 1) (m := zfZ) X G h fun _ _ _ _ _ _ _ hr nd => (zak (zax (zcm bn.tuple' (zaa (SO.se (zeB [0] 1 ["numbers", "r"] rfl (zaQ bn.range' (zaa (zbm (zaV 0 bn.len') zah) zag)) (fun C s H fp => (zal 1 ndk)) (fun C s H fp => zaI) (fun C s H fp => (zao zc3 hr (zaa (zai 0 (zab 1)) (zaa (zai 0 (zaD (zab 1) zah)) zag)) (hlen := (zac (zac zaj))))))) zag))))
abbrev zfn : Stmt := top 7
def zeh : ME :=
 (zeM dLe dLe (eVar 0) (eVar 1) (eVar 2))
def zd1 : MO :=
 oLC [] 3 (iZ3 (zaf (eVar 1) (zaf (eVar 0) (zaf (eVar 2) aNil)))) (gT 3 (zau (gN 0) (zau (gN 1) (zau (gN 2) zda)))) zcl zeh
def zeq : MS :=
 (sRet (mC (dAll fun bs => bs.all id) (zaf (eFz zd1) aNil)))
def zdP : MS :=
 (sSeq (sIf (tTru (m2 dNe (zcC 0) (zcC 1)))
  (sRet (eC (.bl false)))
  zds)
  zeq)
def zbY : List D -> Option Sl := fP 3 zdP
theorem zhO  (h : FnAt K "row_within" zfn) : FD P w K mg base 1 "row_within" (spP K 3 zbY) :=
 fdP (N := ["row", "least", "greatest"]) (k := 0) (m := zdP) X G h fun _ _ _ _ _ _ _ hr nd => (zae (zew (zit hr.units (zaV 0 bn.len') (zaV 1 bn.len'))
  (zak (zax ze8))
  zbb)
  (zak (zax (zj0 rfl bn.all' (zaa (SO.se (zeB [] 3 ["low", "number", "high"] rfl (zhS bn.zip' (zaa (zab 1) (zaa (zab 0) (zaa (zab 2) zag)))) (fun C s H fp => (zbF rfl (zan (zal 0 ndk) (zan (zal 1 ndk) (zan (zal 2 ndk) za6))))) (fun C s H fp => zaI) (fun C s H fp => (zhy ziB ziB zcJ zcJ (zab 0) (zab 1) (zab 2))))) zag)))))
abbrev zfy : Stmt := top 8
def zct : ME :=
 (zcC 0)
def zcy : MO :=
 oLC [] 1 (iSeq (eVar 0)) (gN 0) zcl zct
def zcR : MS :=
 (zhs zcy)
def zaL : List D -> Option Sl := fP 1 zcR
theorem zhv  (h : FnAt K "lengths_of" zfy) : FD P w K mg base 1 "lengths_of" (spP K 1 zaL) :=
 fdP (N := ["rows"]) (k := 0) (m := zcR) X G h fun _ _ _ _ _ _ _ hr nd => (zak (zeW (zeB [] 1 ["row"] rfl (zcj (zab 0)) (fun C s H fp => (zal 0 ndk)) (fun C s H fp => zaI) (fun C s H fp => (zaV 0 bn.len')))))
abbrev zeN : Stmt := top 9
def zdG : ME :=
 (zaC zbY (zaf (eVar 1) (zaf (eVar 0) (zaf (eVar 2) aNil))))
def zdC : MO :=
 oLC [] 3 (iZ3 (zaf (eVar 1) (zaf (eVar 0) (zaf (eVar 2) aNil)))) (gT 3 (zau (gN 0) (zau (gN 1) (zau (gN 2) zda)))) zcl zdG
def zdJ : MS :=
 (sRet (mC (dAll fun bs => bs.all id) (zaf (eFz zdC) aNil)))
def zdl : MS :=
 (sSeq (sIf (tTru (m2 dNe (zcC 0) (zcC 1)))
  (sRet (eC (.bl false)))
  zds)
  zdJ)
def za0 : List D -> Option Sl := fP 3 zdl
theorem zg0 (zdA : FD P w K mg base 1 "row_within" (spP K 3 zbY)) (h : FnAt K "rows_within" zeN) : FD P w K mg base 2 "rows_within" (spP K 3 za0) :=
 fdP (N := ["rows", "least", "greatest"]) (k := 1) (m := zdl) X G h fun _ _ _ _ _ _ _ hr nd => (zae (zew (zit hr.units (zaV 0 bn.len') (zaV 1 bn.len'))
  (zak (zax ze8))
  zbb)
  (zak (zax (zj0 rfl bn.all' (zaa (SO.se (zeB [] 3 ["low", "row", "high"] rfl (zhS bn.zip' (zaa (zab 1) (zaa (zab 0) (zaa (zab 2) zag)))) (fun C s H fp => (zbF rfl (zan (zal 0 ndk) (zan (zal 1 ndk) (zan (zal 2 ndk) za6))))) (fun C s H fp => zaI) (fun C s H fp => (zao zdA hr (zaa (zab 1) (zaa (zab 0) (zaa (zab 2) zag))) (hlen := (zac (zac (zac zaj)))))))) zag)))))
abbrev zb7 : Stmt := top 10
def zbD : MS :=
 (sRet (eAnd (m2 dEq (zaC zaL (zaf (eVar 0) aNil)) (m2 dMul (eFz (oLst (zaf (m2 dSub (eVar 4) (eC (.int 1))) aNil))) (m2 dSub (eVar 3) (eC (.int 1))))) (zaC za0 (zaf (eVar 1) (zaf (eVar 1) (zaf (eVar 2) aNil))))))
def zbB : MS :=
 (sSeq (sIf (tOrM (tTru (m2 dNe (zaC zaL (zaf (eVar 1) aNil)) (m2 dMul (eFz (oLst (zaf (eVar 4) aNil))) (eVar 3)))) (tTru (m2 dNe (zaC zaL (zaf (eVar 2) aNil)) (m2 dMul (eFz (oLst (zaf (eVar 4) aNil))) (eVar 3)))))
  (sRet (eC (.bl false)))
  zds)
  zbD)
def zbE : MS :=
 (sSeq (sSet 4 (mC dLen (zaf (eIxV 1 (eC (.int 0))) aNil)))
  (sSeq (sIf (zkl (tTru (zeM dLe dLe (eC (.int 2)) (eVar 4) (eC (.int 6)))))
  (sRet (eC (.bl false)))
  zds)
  zbB))
def zbk : MS :=
 (sSeq (sSet 3 (zcC 1))
  (sSeq (sIf (zkl (tTru (zeM dLe dLe (eC (.int 2)) (eVar 3) (eC (.int 6)))))
  (sRet (eC (.bl false)))
  zds)
  zbE))
def zaH : List D -> Option Sl := fP 5 zbk
theorem zeA (zbp : FD P w K mg base 1 "lengths_of" (spP K 1 zaL)) (za5 : FD P w K mg base 2 "rows_within" (spP K 3 za0)) (h : FnAt K "floor_parts_right" zb7) : FD P w K mg base 3 "floor_parts_right" (spP K 3 zaH) :=
 fdP (N := ["sums", "least", "greatest", "rows", "columns"]) (k := 2) (m := zbk) X G h fun _ _ _ _ _ _ _ hr nd => (zae (zat 3 (zaV 1 bn.len') nd)
  (zae (zew (zjW (zjd ziB ziB zcJ zcJ ziN zah (zab 3) zah))
  (zak (zax ze8))
  zbb)
  (zae (zat 4 (zfi bn.len' (zaa (zai 1 zah) zag)) nd)
  (zae (zew (zjW (zjd ziB ziB zcJ zcJ ziN zah (zab 4) zah))
  (zak (zax ze8))
  zbb)
  (zae (zew (STw.st (sw_or (zit hr.units (zao zbp hr (zaa (zab 1) zag) (hlen := (zac zaj))) (zbd (SO.se (zbh (zaa (zab 4) zag))) (zab 3))) (zjy (zit hr.units (zao zbp hr (zaa (zab 2) zag) (hlen := (zac zaj))) (zbd (SO.se (zbh (zaa (zab 4) zag))) (zab 3))))))
  (zak (zax ze8))
  zbb)
  (zak (zax (zg9 (se_eq hr.units (zao zbp hr (zaa (zab 0) zag) (hlen := (zac zaj))) (zbd (SO.se (zbh (zaa (zbm (zab 4) zah) zag))) (zbm (zab 3) zah))) (zhh (zao za5 hr (zaa (zab 1) (zaa (zab 1) (zaa (zab 2) zag))) (hlen := (zac (zac (zac zaj))))))))))))))
abbrev zfW : Stmt := top 11
def zcZ : ME :=
 (mC zb9 (zaf (eVar 0) aNil))
def zcY : MO :=
 oLC [] 1 (iSeq (eVar 0)) (gN 0) zcl zcZ
def zdt : MS :=
 (sRet (mC zb9 (zaf (eFz zcY) aNil)))
def zaF : List D -> Option Sl := fP 1 zdt
theorem ziF  (h : FnAt K "in_tuples" zfW) : FD P w K mg base 1 "in_tuples" (spP K 1 zaF) :=
 fdP (N := ["rows"]) (k := 0) (m := zdt) X G h fun _ _ _ _ _ _ _ hr nd => (zak (zax (zcm bn.tuple' (zaa (SO.se (zeB [] 1 ["row"] rfl (zcj (zab 0)) (fun C s H fp => (zal 0 ndk)) (fun C s H fp => zaI) (fun C s H fp => (zcm bn.tuple' (zaa (zab 0) zag))))) zag))))
abbrev ze7 : Stmt := top 12
def zeo : MS :=
 (sRet (eTup (zaf (zaC zaF (zaf (eVar 0) aNil)) (zaf (zaC zaF (zaf (eVar 1) aNil)) (zaf (zaC zaF (zaf (eVar 2) aNil)) aNil)))))
def zd9 : MS :=
 (sSeq (sIf (zkl (tTru (zaC zaH (zaf (eVar 0) (zaf (eVar 1) (zaf (eVar 2) aNil))))))
  (fun _ => none)
  zds)
  zeo)
def za9 : List D -> Option Sl := fP 3 zd9
theorem zhu (zbf : FD P w K mg base 3 "floor_parts_right" (spP K 3 zaH)) (zaW : FD P w K mg base 1 "in_tuples" (spP K 1 zaF)) (h : FnAt K "made_floor" ze7) : FD P w K mg base 4 "made_floor" (spP K 3 za9) :=
 fdP (N := ["sums", "least", "greatest"]) (k := 3) (m := zd9) X G h fun _ _ _ _ _ _ _ hr nd => (zae (zew (zjW (zjs (zao zbf hr (zaa (zab 0) (zaa (zab 1) (zaa (zab 2) zag))) (hlen := (zac (zac (zac zaj)))))))
  (zak ss_never)
  zbb)
  (zak (zax (zcq (zaa (zao zaW hr (zaa (zab 0) zag) (hlen := (zac zaj))) (zaa (zao zaW hr (zaa (zab 1) zag) (hlen := (zac zaj))) (zaa (zao zaW hr (zaa (zab 2) zag) (hlen := (zac zaj))) zag)))))))
abbrev zeD : Stmt := top 13
def zfs : MS :=
 (sRet (eAnd (zaC za0 (zaf (eVar 1) (zaf (eIxV 0 (eC (.int 1))) (zaf (eIxV 0 (eC (.int 2))) aNil)))) (m2 dEq (zaC zd8 (zaf (eVar 1) aNil)) (eIxV 0 (eC (.int 0))))))
def zdk : List D -> Option Sl := fP 2 zfs
theorem zg2 (zdu : FD P w K mg base 2 "floor_sums" (spP K 1 zd8)) (za5 : FD P w K mg base 2 "rows_within" (spP K 3 za0)) (h : FnAt K "floor_holds" zeD) : FD P w K mg base 3 "floor_holds" (spP K 2 zdk) :=
 fdP (N := ["floor", "numbers"]) (k := 2) (m := zfs) X G h fun _ _ _ _ _ _ _ hr nd => (zak (zax (zg9 (zao za5 hr (zaa (zab 1) (zaa (zai 0 zah) (zaa (zai 0 zah) zag))) (hlen := (zac (zac (zac zaj))))) (zhh (se_eq hr.units (zao zdu hr (zaa (zab 1) zag) (hlen := (zac zaj))) (zai 0 zah))))))
abbrev zhc : Stmt := top 15
def zgN : MS :=
 (sRet (eAnd (zeM dLe dLt (eC (.int 0)) (eVar 1) (zcC 0)) (zeM dLe dLt (eC (.int 0)) (eVar 2) (mC dLen (zaf (eIxV 0 (eC (.int 0))) aNil)))))
def zep : List D -> Option Sl := fP 3 zgN
theorem zkk  (h : FnAt K "is_cell" zhc) : FD P w K mg base 1 "is_cell" (spP K 3 zep) :=
 fdP (N := ["rows", "r", "c"]) (k := 0) (m := zgN) X G h fun _ _ _ _ _ _ _ hr nd => (zak (zax (zg9 (zhy ziB op_lt zcJ zcJ zah (zab 1) (zaV 0 bn.len')) (zhh (zhy ziB op_lt zcJ zcJ zah (zab 2) (zfi bn.len' (zaa (zai 0 zah) zag)))))))
abbrev zgR : Stmt := top 16
def zfB : ME :=
 (eTup (zaf (eVar 0) (zaf (eVar 1) aNil)))
def zfa : MO :=
 oLC [2] 1 (iR1 (zaf (mC dLen (zaf (eIxV 0 (eC (.int 0))) aNil)) aNil)) (gN 1) zcl zfB
def zfo : MS :=
 (sExt 1 (eFz zfa))
def zft : MS :=
 sFor (iR1 (zaf (zcC 0) aNil)) (gN 2) zfo
def zfI : MS :=
 (sSeq (zfp 1 (oLst aNil))
  (sSeq zft
  (zg3 1)))
def zc6 : List D -> Option Sl := fP 3 zfI
theorem ziS  (h : FnAt K "cells_of" zgR) : FD P w K mg base 1 "cells_of" (spP K 1 zc6) :=
 fdP (N := ["rows", "cells", "r"]) (k := 0) (m := zfI) X G h fun _ _ _ _ _ _ _ hr nd => (zae (zb3 1 (zbh zag) nd)
  (zae (zbR PassesOwn.never rfl (zaQ bn.range' (zaa (zaV 0 bn.len') zag)) (zal 2 nd)
  (zak (ss_ext 1 (SO.se (zeB [2] 1 ["r", "c"] rfl (zaQ bn.range' (zaa (zfi bn.len' (zaa (zai 0 zah) zag)) zag)) (fun C s H fp => (zal 1 ndk)) (fun C s H fp => zaI) (fun C s H fp => (zcq (zaa (zab 0) (zaa (zab 1) zag)))))))))
  (zak (zeZ 1))))
abbrev zf3 : Stmt := top 17
def zeU : MS :=
 (sRet (eIf (tTru (m2 dEq (m2 dMod (m2 dAdd (eVar 0) (eVar 1)) (eC (.int 2))) (eC (.int 0)))) (eC (.int 1)) (m1 dNeg (eC (.int 1)))))
def zaG : List D -> Option Sl := fP 2 zeU
theorem zih  (h : FnAt K "cell_sign" zf3) : FD P w K mg base 1 "cell_sign" (spP K 2 zaG) :=
 fdP (N := ["r", "c"]) (k := 0) (m := zeU) X G h fun _ _ _ _ _ _ _ hr nd => (zak (zax (zjg (st_eq hr.units (zec (zaD (zab 0) (zab 1)) zah) zah) zah (zf1 zah))))
abbrev zfk : Stmt := top 18
def zd4 : MS :=
 (sSeq (zkf 2 (fun i j => i + j) (m2 dMul (m2 dMul (eVar 3) (zaC zaG (zaf (eVar 4) (zaf (eVar 5) aNil)))) (m2 dIx (eIxV 0 (eVar 4)) (eVar 5))))
  (sSet 3 (m1 dNeg (eVar 3))))
def zdY : MS :=
 sFor (iSeq (eVar 1)) (gT 2 (zau (gN 4) (zau (gN 5) zda))) zd4
def zej : MS :=
 (sSeq (sSet 2 (eC (.int 0)))
  (sSeq (sSet 3 (eC (.int 1)))
  (sSeq zdY
  (zg3 2))))
def zbU : List D -> Option Sl := fP 6 zej
theorem zhR (zaz : FD P w K mg base 1 "cell_sign" (spP K 2 zaG)) (h : FnAt K "balance_of" zfk) : FD P w K mg base 2 "balance_of" (spP K 2 zbU) :=
 fdP (N := ["numbers", "cells", "balance", "sign", "r", "c"]) (k := 1) (m := zej) X G h fun _ _ _ _ _ _ _ hr nd => (zae (zat 2 zah nd)
  (zae (zat 3 zah nd)
  (zae (zbR PassesOwn.never rfl (zcj (zab 1)) (zbF rfl (zan (zal 4 nd) (zan (zal 5 nd) za6)))
  (zae (zh7 2 (zbd (zbd (zab 3) (zao zaz hr (zaa (zab 4) (zaa (zab 5) zag)) (hlen := (zac (zac zaj))))) (zaY (zai 0 (zab 4)) (zab 5))) nd)
  (zak (zat 3 (zf1 (zab 3)) nd))))
  (zak (zeZ 2)))))
abbrev zdF : Stmt := top 19
def zcQ : MS :=
 (sApp 4 (m2 dSub (m2 dSub (m2 dSub (eVar 6) (eIxV 3 (eVar 5))) (eIxV 3 (m2 dAdd (eVar 5) (eC (.int 1))))) (eIxV 4 (eVar 5))))
def zcK : MS :=
 sFor (iEn (zaf (eVar 2) aNil)) (gT 2 (zau (gN 5) (zau (gN 6) zda))) zcQ
def zcL : MS :=
 (sSeq (sSet 3 (eIxV 1 (m1 dNeg (eC (.int 1)))))
  (sSeq (zfp 4 (oLst (zaf (eC (.int 0)) aNil)))
  (sSeq zcK
  (sApp 1 (eVar 4)))))
def zcG : MS :=
 sFor (iSeq (eIxV 0 (eC (.int 0)))) (gN 2) zcL
def zcv : MS :=
 (sSeq (zfp 1 (oLst (zaf (m2 dMul (eFz (oLst (zaf (eC (.int 0)) aNil))) (mC dLen (zaf (m2 dIx (eIxV 0 (eC (.int 1))) (eC (.int 0))) aNil))) aNil)))
  (sSeq zcG
  (sRet (zaC zaF (zaf (eVar 1) aNil)))))
def zaw : List D -> Option Sl := fP 7 zcv
theorem zf8 (zaW : FD P w K mg base 1 "in_tuples" (spP K 1 zaF)) (h : FnAt K "plain_numbers" zdF) : FD P w K mg base 2 "plain_numbers" (spP K 1 zaw) :=
 fdP (N := ["floor", "numbers", "sums", "above", "row", "c", "total"]) (k := 1) (m := zcv) X G h fun _ _ _ _ _ _ _ hr nd => (zae (zb3 1 (zbh (zaa (zbd (SO.se (zbh (zaa zah zag))) (zfi bn.len' (zaa (zaY (zai 0 zah) zah) zag))) zag)) nd)
  (zae (zbR PassesOwn.never rfl (zcj (zai 0 zah)) (zal 2 nd)
  (zae (zat 3 (zai 1 (zf1 zah)) nd)
  (zae (zb3 4 (zbh (zaa zah zag)) nd)
  (zae (zbR PassesOwn.never rfl (zbt bn.enumerate' (zaa (zab 2) zag)) (zbF rfl (zan (zal 5 nd) (zan (zal 6 nd) za6)))
  (zak (zgA 4 (zbm (zbm (zbm (zab 6) (zai 3 (zab 5))) (zai 3 (zaD (zab 5) zah))) (zai 4 (zab 5))))))
  (zak (zgA 1 (zab 4)))))))
  (zak (zax (zao zaW hr (zaa (zab 1) zag) (hlen := (zac zaj)))))))
abbrev zeQ : Stmt := top 20
def zdK : ME :=
 (m2 dAdd (eVar 4) (m2 dMul (zaC zaG (zaf (eVar 0) (zaf (eVar 3) aNil))) (m2 dSub (eVar 1) (eIxV 2 (eVar 3)))))
def zdH : MO :=
 oLC [1, 2, 3] 2 (iEn (zaf (eVar 0) aNil)) (gT 2 (zau (gN 3) (zau (gN 4) zda))) zcl zdK
def zdo : MS :=
 (sRet (mC zb9 (zaf (eFz zdH) aNil)))
def zbA : List D -> Option Sl := fP 4 zdo
theorem zgZ (zaz : FD P w K mg base 1 "cell_sign" (spP K 2 zaG)) (h : FnAt K "shifted_row" zeQ) : FD P w K mg base 2 "shifted_row" (spP K 4 zbA) :=
 fdP (N := ["row", "r", "shift", "column_shifts"]) (k := 1) (m := zdo) X G h fun _ _ _ _ _ _ _ hr nd => (zak (zax (zcm bn.tuple' (zaa (SO.se (zeB [1, 2, 3] 2 ["r", "shift", "column_shifts", "c", "number"] rfl (zbt bn.enumerate' (zaa (zab 0) zag)) (fun C s H fp => (zbF rfl (zan (zal 3 ndk) (zan (zal 4 ndk) za6)))) (fun C s H fp => zaI) (fun C s H fp => (zaD (zab 4) (zbd (zao zaz hr (zaa (zab 0) (zaa (zab 3) zag)) (hlen := (zac (zac zaj)))) (zbm (zab 1) (zai 2 (zab 3)))))))) zag))))
abbrev zcO : Stmt := top 21
def zci : ME :=
 (zaC zbA (zaf (eVar 3) (zaf (eVar 2) (zaf (eIxV 0 (eVar 2)) (zaf (eVar 1) aNil)))))
def zcf : MO :=
 oLC [1, 2] 2 (iEn (zaf (eVar 0) aNil)) (gT 2 (zau (gN 2) (zau (gN 3) zda))) zcl zci
def zbJ : MS :=
 (sSeq (sSet 2 (eCut (eVar 1) (zfq (zcC 0)) pNo))
  (sRet (mC zb9 (zaf (eFz zcf) aNil))))
def zaS : List D -> Option Sl := fP 3 zbJ
theorem zfj (zc2 : FD P w K mg base 2 "shifted_row" (spP K 4 zbA)) (h : FnAt K "shifted_numbers" zcO) : FD P w K mg base 3 "shifted_numbers" (spP K 2 zaS) :=
 fdP (N := ["numbers", "shifts", "column_shifts"]) (k := 2) (m := zbJ) X G h fun _ _ _ _ _ _ _ hr nd => (zae (zat 2 (zeC (zab 1) (zb4 (zaV 0 bn.len')) ziD) nd)
  (zak (zax (zcm bn.tuple' (zaa (SO.se (zeB [1, 2] 2 ["shifts", "column_shifts", "r", "row"] rfl (zbt bn.enumerate' (zaa (zab 0) zag)) (fun C s H fp => (zbF rfl (zan (zal 2 ndk) (zan (zal 3 ndk) za6)))) (fun C s H fp => zaI) (fun C s H fp => (zao zc2 hr (zaa (zab 3) (zaa (zab 2) (zaa (zai 0 (zab 2)) (zaa (zab 1) zag)))) (hlen := (zac (zac (zac (zac zaj))))))))) zag)))))
abbrev zfX : Stmt := top 22
def zeI : MS :=
 (zhs (oLst (zaf (eTup (zaf (eVar 2) (zaf (eVar 4) (zaf (eVar 6) aNil)))) (zaf (eTup (zaf (eVar 4) (zaf (eVar 2) (zaf (eVar 5) aNil)))) aNil))))
def ze1 : MS :=
 (sSeq (sSet 4 (m2 dAdd (zcC 1) (eVar 3)))
  (sSeq (sSet 5 (m2 dSub (m2 dIx (m2 dIx (eIxV 0 (eC (.int 2))) (eVar 2)) (eVar 3)) (m2 dIx (eIxV 1 (eVar 2)) (eVar 3))))
  (sSeq (sSet 6 (m2 dSub (m2 dIx (eIxV 1 (eVar 2)) (eVar 3)) (m2 dIx (m2 dIx (eIxV 0 (eC (.int 1))) (eVar 2)) (eVar 3))))
  (sSeq (sIf (tTru (m2 dEq (zaC zaG (zaf (eVar 2) (zaf (eVar 3) aNil))) (eC (.int 1))))
  (zhs (oLst (zaf (eTup (zaf (eVar 2) (zaf (eVar 4) (zaf (eVar 5) aNil)))) (zaf (eTup (zaf (eVar 4) (zaf (eVar 2) (zaf (eVar 6) aNil)))) aNil))))
  zds)
  zeI))))
def zcs : List D -> Option Sl := fP 7 ze1
theorem zif (zaz : FD P w K mg base 1 "cell_sign" (spP K 2 zaG)) (h : FnAt K "cell_ties" zfX) : FD P w K mg base 2 "cell_ties" (spP K 4 zcs) :=
 fdP (N := ["floor", "numbers", "r", "c", "column", "above", "beneath"]) (k := 1) (m := ze1) X G h fun _ _ _ _ _ _ _ hr nd => (zae (zat 4 (zaD (zaV 1 bn.len') (zab 3)) nd)
  (zae (zat 5 (zbm (zaY (zaY (zai 0 zah) (zab 2)) (zab 3)) (zaY (zai 1 (zab 2)) (zab 3))) nd)
  (zae (zat 6 (zbm (zaY (zai 1 (zab 2)) (zab 3)) (zaY (zaY (zai 0 zah) (zab 2)) (zab 3))) nd)
  (zae (zew (st_eq hr.units (zao zaz hr (zaa (zab 2) (zaa (zab 3) zag)) (hlen := (zac (zac zaj)))) zah)
  (zak (zeW (zbh (zaa (zcq (zaa (zab 2) (zaa (zab 4) (zaa (zab 5) zag)))) (zaa (zcq (zaa (zab 4) (zaa (zab 2) (zaa (zab 6) zag)))) zag)))))
  zbb)
  (zak (zeW (zbh (zaa (zcq (zaa (zab 2) (zaa (zab 4) (zaa (zab 6) zag)))) (zaa (zcq (zaa (zab 4) (zaa (zab 2) (zaa (zab 5) zag)))) zag)))))))))
abbrev zfd : Stmt := top 23
def zdS : MS :=
 (sExt 2 (zaC zcs (zaf (eVar 0) (zaf (eVar 1) (zaf (eVar 3) (zaf (eVar 4) aNil))))))
def zd2 : MS :=
 sFor (iSeq (zaC zc6 (zaf (eVar 1) aNil))) (gT 2 (zau (gN 3) (zau (gN 4) zda))) zdS
def zdM : MS :=
 (sSeq (sSet 1 (zaC zaw (zaf (eVar 0) aNil)))
  (sSeq (zfp 2 (oLst aNil))
  (sSeq zd2
  (zg3 2))))
def zbW : List D -> Option Sl := fP 5 zdM
theorem zh0 (zdR : FD P w K mg base 2 "cell_ties" (spP K 4 zcs)) (zeV : FD P w K mg base 1 "cells_of" (spP K 1 zc6)) (zav : FD P w K mg base 2 "plain_numbers" (spP K 1 zaw)) (h : FnAt K "floor_ties" zfd) : FD P w K mg base 3 "floor_ties" (spP K 1 zbW) :=
 fdP (N := ["floor", "numbers", "ties", "r", "c"]) (k := 2) (m := zdM) X G h fun _ _ _ _ _ _ _ hr nd => (zae (zat 1 (zao zav hr (zaa (zab 0) zag) (hlen := (zac zaj))) nd)
  (zae (zb3 2 (zbh zag) nd)
  (zae (zbR PassesOwn.never rfl (zcj (zao zeV hr (zaa (zab 1) zag) (hlen := (zac zaj)))) (zbF rfl (zan (zal 3 nd) (zan (zal 4 nd) za6)))
  (zak (ss_ext 2 (zao zdR hr (zaa (zab 0) (zaa (zab 1) (zaa (zab 3) (zaa (zab 4) zag)))) (hlen := (zac (zac (zac (zac zaj)))))))))
  (zak (zeZ 2)))))
abbrev zcF : Stmt := top 24
def zch : MS :=
 (sIf (tAndM (tTru (m2 zic (eIxV 3 (eVar 8)) (eC .non))) (tOrM (tTru (m2 dIsN (eIxV 3 (eVar 7)) (eC .non))) (tTru (m2 dGt (eIxV 3 (eVar 7)) (m2 dAdd (eIxV 3 (eVar 8)) (eVar 9))))))
  (sSeq (sPut 3 (eVar 7) (m2 dAdd (eIxV 3 (eVar 8)) (eVar 9)))
  (sSeq (sPut 4 (eVar 7) (eVar 8))
  (sSet 5 (eVar 7))))
  zds)
def zca : MS :=
 sFor (iSeq (eVar 0)) (gT 3 (zau (gN 7) (zau (gN 8) (zau (gN 9) zda)))) zch
def zb6 : MS :=
 (sSeq (sSet 5 (eC .non))
  zca)
def zcc : MS :=
 sFor (iR1 (zaf (eVar 1) aNil)) (gN 6) zb6
def zbL : MS :=
 (sSeq (zfp 3 (oRep (eFz (oLst (zaf (eC .non) aNil))) (eVar 1)))
  (sSeq (sPut 3 (eVar 2) (eC (.int 0)))
  (sSeq (zfp 4 (oRep (eFz (oLst (zaf (eC .non) aNil))) (eVar 1)))
  (sSeq (sSet 5 (eC .non))
  (sSeq zcc
  (sRet (eTup (zaf (eVar 3) (zaf (eVar 4) (zaf (eVar 5) aNil))))))))))
def zaR : List D -> Option Sl := fP 10 zbL
theorem ze4  (h : FnAt K "greatest_shifts" zcF) : FD P w K mg base 1 "greatest_shifts" (spP K 3 zaR) :=
 fdP (N := ["ties", "many", "start", "shifts", "unders", "falling", "turn", "lane", "under", "above"]) (k := 0) (m := zbL) X G h fun _ _ _ _ _ _ _ hr nd => (zae (zb3 3 (zl0 (SO.se (zbh (zaa zgq zag))) (zab 1)) nd)
  (zae (zjB 3 zah (zab 2))
  (zae (zb3 4 (zl0 (SO.se (zbh (zaa zgq zag))) (zab 1)) nd)
  (zae (zat 5 zgq nd)
  (zae (zbR PassesOwn.never rfl (zaQ bn.range' (zaa (zab 1) zag)) (zal 6 nd)
  (zae (zat 5 zgq nd)
  (zak (zbR PassesOwn.never rfl (zcj (zab 0)) (zbF rfl (zan (zal 7 nd) (zan (zal 8 nd) (zan (zal 9 nd) za6))))
  (zak (zew (STw.st (sw_and (zjX (zai 3 (zab 8)) zgq) (sw_and1 (STw.st (sw_or (st_is (zai 3 (zab 7)) zgq) (zjy (st_gt (zai 3 (zab 7)) (zaD (zai 3 (zab 8)) (zab 9)))))))))
  (zae (zjB 3 (zaD (zai 3 (zab 8)) (zab 9)) (zab 7))
  (zae (zjB 4 (zab 8) (zab 7))
  (zak (zat 5 (zab 7) nd))))
  zbb))))))
  (zak (zax (zcq (zaa (zab 3) (zaa (zab 4) (zaa (zab 5) zag)))))))))))
abbrev zen : Stmt := top 25
def zdb : MS :=
 (sSet 2 (eIxV 0 (eVar 2)))
def zdf : MS :=
 sFor (iR1 (zaf (zcC 0) aNil)) (gN 3) zdb
def zc8 : MT :=
 (tTru (m2 dNe (eIxV 0 (eIxV 4 (m1 dNeg (eC (.int 1))))) (eVar 2)))
def zde : MS :=
 (sApp 4 (eIxV 0 (eIxV 4 (m1 dNeg (eC (.int 1))))))
def zdc : MS :=
 zfY zc8 zde 400
def zc1 : MS :=
 (sSeq (sSet 2 (eVar 1))
  (sSeq zdf
  (sSeq (zfp 4 (oLst (zaf (eVar 2) aNil)))
  (sSeq zdc
  (zg3 4)))))
def zbg : List D -> Option Sl := fP 5 zc1
theorem zgy  (h : FnAt K "falling_loop" zen) : FD P w K mg base 1 "falling_loop" (spP K 2 zbg) :=
 fdP (N := ["unders", "falling", "lane", "step", "loop"]) (k := 0) (m := zc1) X G h fun _ _ _ _ _ _ _ hr nd => (zae (zat 2 (zab 1) nd)
  (zae (zbR PassesOwn.never rfl (zaQ bn.range' (zaa (zaV 0 bn.len') zag)) (zal 3 nd)
  (zak (zat 2 (zai 0 (zab 2)) nd)))
  (zae (zb3 4 (zbh (zaa (zab 2) zag)) nd)
  (zae (ss_while 400 PassesOwn.never (zit hr.units (zai 0 (zai 4 (zf1 zah))) (zab 2))
  (zak (zgA 4 (zai 0 (zai 4 (zf1 zah))))))
  (zak (zeZ 4))))))
abbrev zef : Stmt := top 26
def zcX : MS :=
 (sRet (zaC zaR (zaf (zaC zbW (zaf (eVar 0) aNil)) (zaf (m2 dAdd (mC dLen (zaf (eIxV 0 (eC (.int 1))) aNil)) (mC dLen (zaf (m2 dIx (eIxV 0 (eC (.int 1))) (eC (.int 0))) aNil))) (zaf (eVar 1) aNil)))))
def zbO : List D -> Option Sl := fP 2 zcX
theorem zgk (zdp : FD P w K mg base 3 "floor_ties" (spP K 1 zbW)) (zbx : FD P w K mg base 1 "greatest_shifts" (spP K 3 zaR)) (h : FnAt K "floor_shifts" zef) : FD P w K mg base 4 "floor_shifts" (spP K 2 zbO) :=
 fdP (N := ["floor", "start"]) (k := 3) (m := zcX) X G h fun _ _ _ _ _ _ _ hr nd => (zak (zax (zao zbx hr (zaa (zao zdp hr (zaa (zab 0) zag) (hlen := (zac zaj))) (zaa (zaD (zfi bn.len' (zaa (zai 0 zah) zag)) (zfi bn.len' (zaa (zaY (zai 0 zah) zah) zag))) (zaa (zab 1) zag))) (hlen := (zac (zac (zac zaj)))))))
abbrev zha : Stmt := top 27
def zfR : ME :=
 (eTup (zaf (mC (d2I min2) (zaf (eVar 1) (zaf (eVar 2) aNil))) (zaf (m2 dSub (mC (d2I max2) (zaf (eVar 1) (zaf (eVar 2) aNil))) (eVar 0)) aNil)))
def zdU : MO :=
 oLC [1] 2 (iZ2 (zaf (eVar 2) (zaf (eVar 3) aNil))) (gT 2 (zau (gN 1) (zau (gN 2) zda))) zcl zfR
def zgQ : MS :=
 (sSeq (sSet 2 (eIf (tTru (m2 dLt (eIxV 0 (eC (.int 0))) (eVar 1))) (eVar 0) (m2 dAdd (eCut (eVar 0) (zfq (eC (.int 1))) pNo) (eCut (eVar 0) pNo (zfq (eC (.int 1)))))))
  (sSeq (sSet 3 (m2 dAdd (eCut (eVar 2) (zfq (eC (.int 1))) pNo) (eCut (eVar 2) pNo (zfq (eC (.int 1))))))
  (zhs zdU)))
def zeu : List D -> Option Sl := fP 4 zgQ
theorem zkD  (h : FnAt K "tour_of" zha) : FD P w K mg base 1 "tour_of" (spP K 2 zeu) :=
 fdP (N := ["loop", "rows", "lanes", "unders"]) (k := 0) (m := zgQ) X G h fun _ _ _ _ _ _ _ hr nd => (zae (zat 2 (zjg (st_lt (zai 0 zah) (zab 1)) (zab 0) (zaD (zeC (zab 0) (zb4 zah) ziD) (zeC (zab 0) ziD (zb4 zah)))) nd)
  (zae (zat 3 (zaD (zeC (zab 2) (zb4 zah) ziD) (zeC (zab 2) ziD (zb4 zah))) nd)
  (zak (zeW (zeB [1] 2 ["rows", "lane", "under"] rfl (it_zip2N bn.zip' (zaa (zab 2) (zaa (zab 3) zag))) (fun C s H fp => (zbF rfl (zan (zal 1 ndk) (zan (zal 2 ndk) za6)))) (fun C s H fp => zaI) (fun C s H fp => (zcq (zaa (zlz rfl bn.min' (zaa (zab 1) (zaa (zab 2) zag))) (zaa (zbm (zlU rfl bn.max' (zaa (zab 1) (zaa (zab 2) zag))) (zab 0)) zag)))))))))
abbrev zdW : Stmt := top 28
def zc7 : MS :=
 (sRet (eTup (zaf (eC (.str "floor")) (zaf (zaC zaS (zaf (zaC zaw (zaf (eVar 0) aNil)) (zaf (eIxV 1 (eC (.int 0))) aNil))) aNil))))
def zc4 : MS :=
 (sSeq (sSet 1 (zaC zbO (zaf (eVar 0) (zaf (eC (.int 0)) aNil))))
  (sSeq (sIf (tTru (m2 zic (eIxV 1 (eC (.int 2))) (eC .non)))
  (sRet (eTup (zaf (eC (.str "tour")) (zaf (zaC zeu (zaf (zaC zbg (zaf (eIxV 1 (eC (.int 1))) (zaf (eIxV 1 (eC (.int 2))) aNil))) (zaf (mC dLen (zaf (eIxV 0 (eC (.int 1))) aNil)) aNil))) aNil))))
  zds)
  zc7))
def zaM : List D -> Option Sl := fP 2 zc4
theorem zgl (zcA : FD P w K mg base 1 "falling_loop" (spP K 2 zbg)) (zcx : FD P w K mg base 4 "floor_shifts" (spP K 2 zbO)) (zav : FD P w K mg base 2 "plain_numbers" (spP K 1 zaw)) (zbq : FD P w K mg base 3 "shifted_numbers" (spP K 2 zaS)) (zfF : FD P w K mg base 1 "tour_of" (spP K 2 zeu)) (h : FnAt K "fitted_floor" zdW) : FD P w K mg base 5 "fitted_floor" (spP K 1 zaM) :=
 fdP (N := ["floor", "found"]) (k := 4) (m := zc4) X G h fun _ _ _ _ _ _ _ hr nd => (zae (zat 1 (zao zcx hr (zaa (zab 0) (zaa zah zag)) (hlen := (zac (zac zaj)))) nd)
  (zae (zew (zjX (zai 1 zah) zgq)
  (zak (zax (zcq (zaa zho (zaa (zao zfF hr (zaa (zao zcA hr (zaa (zai 1 zah) (zaa (zai 1 zah) zag)) (hlen := (zac (zac zaj)))) (zaa (zfi bn.len' (zaa (zai 0 zah) zag)) zag)) (hlen := (zac (zac zaj)))) zag)))))
  zbb)
  (zak (zax (zcq (zaa zho (zaa (zao zbq hr (zaa (zao zav hr (zaa (zab 0) zag) (hlen := (zac zaj))) (zaa (zai 1 zah) zag)) (hlen := (zac (zac zaj)))) zag)))))))
abbrev zhi : Stmt := top 30
def zgB : MS :=
 (sSeq (sSet 3 (m2 dSub (eC (.int 1)) (m2 dMod (eVar 0) (eC (.int 2)))))
  (sRet (eAnd (m2 dEq (eIxV 1 (eVar 3)) (eIxV 2 (eVar 3))) (m2 dNe (eIxV 1 (m2 dSub (eC (.int 1)) (eVar 3))) (eIxV 2 (m2 dSub (eC (.int 1)) (eVar 3)))))))
def zem : List D -> Option Sl := fP 4 zgB
theorem zkE  (h : FnAt K "is_step" zhi) : FD P w K mg base 1 "is_step" (spP K 3 zem) :=
 fdP (N := ["place", "cell", "after", "stays"]) (k := 0) (m := zgB) X G h fun _ _ _ _ _ _ _ hr nd => (zae (zat 3 (zbm zah (zec (zab 0) zah)) nd)
  (zak (zax (zg9 (se_eq hr.units (zai 1 (zab 3)) (zai 2 (zab 3))) (zhh (se_ne hr.units (zai 1 (zbm zah (zab 3))) (zai 2 (zbm zah (zab 3)))))))))
abbrev zhn : Stmt := top 31
def zf4 : ME :=
 (zaC zep (zaf (eIxV 0 (eC (.int 1))) (zaf (eVar 1) (zaf (eVar 2) aNil))))
def zfQ : MO :=
 oLC [0] 2 (iSeq (eVar 1)) (gT 2 (zau (gN 1) (zau (gN 2) zda))) zcl zf4
def zf5 : ME :=
 (zaC zem (zaf (eVar 1) (zaf (eVar 2) (zaf (eIxV 0 (eVar 1)) aNil))))
def zfT : MO :=
 oLC [2] 2 (iEn (zaf (eVar 1) aNil)) (gT 2 (zau (gN 1) (zau (gN 2) zda))) zcl zf5
def zfS : MS :=
 (sSeq (sSet 2 (m2 dAdd (eCut (eVar 1) (zfq (eC (.int 1))) pNo) (eCut (eVar 1) pNo (zfq (eC (.int 1))))))
  (sRet (mC (dAll fun bs => bs.all id) (zaf (eFz zfT) aNil))))
def zfP : MS :=
 (sSeq (sIf (zkl (tTru (mC (dAll fun bs => bs.all id) (zaf (eFz zfQ) aNil))))
  (sRet (eC (.bl false)))
  zds)
  zfS)
def zgm : MS :=
 (sSeq (sIf (tOrM (tTru (m2 dLt (zcC 1) (eC (.int 4)))) (tTru (m2 dNe (m2 dMod (zcC 1) (eC (.int 2))) (eC (.int 0)))))
  (sRet (eC (.bl false)))
  zds)
  zfP)
def zeb : List D -> Option Sl := fP 3 zgm
theorem zks (zfH : FD P w K mg base 1 "is_cell" (spP K 3 zep)) (zfE : FD P w K mg base 1 "is_step" (spP K 3 zem)) (h : FnAt K "is_tour" zhn) : FD P w K mg base 2 "is_tour" (spP K 2 zeb) :=
 fdP (N := ["floor", "cells", "afters"]) (k := 1) (m := zgm) X G h fun _ _ _ _ _ _ _ hr nd => (zae (zew (STw.st (sw_or (st_lt (zaV 1 bn.len') zah) (zjy (zit hr.units (zec (zaV 1 bn.len') zah) zah))))
  (zak (zax ze8))
  zbb)
  (zae (zew (zjW (zjs (zj0 rfl bn.all' (zaa (SO.se (zeB [0] 2 ["floor", "r", "c"] rfl (zcj (zab 1)) (fun C s H fp => (zbF rfl (zan (zal 1 ndk) (zan (zal 2 ndk) za6)))) (fun C s H fp => zaI) (fun C s H fp => (zao zfH hr (zaa (zai 0 zah) (zaa (zab 1) (zaa (zab 2) zag))) (hlen := (zac (zac (zac zaj)))))))) zag))))
  (zak (zax ze8))
  zbb)
  (zae (zat 2 (zaD (zeC (zab 1) (zb4 zah) ziD) (zeC (zab 1) ziD (zb4 zah))) nd)
  (zak (zax (zj0 rfl bn.all' (zaa (SO.se (zeB [2] 2 ["afters", "place", "cell"] rfl (zbt bn.enumerate' (zaa (zab 1) zag)) (fun C s H fp => (zbF rfl (zan (zal 1 ndk) (zan (zal 2 ndk) za6)))) (fun C s H fp => zaI) (fun C s H fp => (zao zfE hr (zaa (zab 1) (zaa (zab 2) (zaa (zai 0 (zab 1)) zag))) (hlen := (zac (zac (zac zaj)))))))) zag)))))))
abbrev zeL : Stmt := top 32
def zdE : MO :=
 (oRep (eFz (oLst (zaf (eC (.int 0)) aNil))) (zcC 0))
def zdI : MS :=
 (sSeq (sTGe 2 (qV 4) (qV 5) (m2 dMul (eVar 3) (zaC zaG (zaf (eVar 4) (zaf (eVar 5) aNil)))))
  (sSet 3 (m1 dNeg (eVar 3))))
def zdD : MS :=
 sFor (iSeq (eVar 1)) (gT 2 (zau (gN 4) (zau (gN 5) zda))) zdI
def zdq : MS :=
 (sSeq (sTC 2 [] 1 (iSeq (eIxV 0 (eC (.int 1)))) (gN 0) zcl zdE)
  (sSeq (sSet 3 (eC (.int 1)))
  (sSeq zdD
  (sRT 2))))
def zbz : List D -> Option Sl := fP 6 zdq
theorem zg5 (zaz : FD P w K mg base 1 "cell_sign" (spP K 2 zaG)) (h : FnAt K "tour_counts" zeL) : FD P w K mg base 2 "tour_counts" (spP K 2 zbz) :=
 fdP (N := ["floor", "cells", "counts", "sign", "r", "c"]) (k := 1) (m := zdq) X G h fun _ _ _ _ _ _ _ hr nd => (zae (zhX 2 [] 1 ["row"] rfl (zcj (zai 0 zah)) (fun C s H fp => (zal 0 ndk)) (fun C s H fp => zaI) (fun C s H fp => (zl0 (SO.se (zbh (zaa zah zag))) (zaV 0 bn.len'))) nd)
  (zae (zat 3 zah nd)
  (zae (zbR PassesOwn.never rfl (zcj (zab 1)) (zbF rfl (zan (zal 4 nd) (zan (zal 5 nd) za6)))
  (zae (ss_tAugE 2 (zbc 4) (zbc 5) (zbd (zab 3) (zao zaz hr (zaa (zab 4) (zaa (zab 5) zag)) (hlen := (zac (zac zaj))))))
  (zak (zat 3 (zf1 (zab 3)) nd))))
  (zak (ss_retT 2)))))
abbrev zcH : Stmt := top 33
def zb8 : ME :=
 (mC (d2I max2) (zaf (m2 dMul (eVar 0) (eVar 1)) (zaf (m2 dMul (eVar 0) (eVar 2)) aNil)))
def zcg : MO :=
 oLC [] 3 (iZ3 (zaf (eVar 0) (zaf (eVar 1) (zaf (eVar 2) aNil)))) (gT 3 (zau (gN 0) (zau (gN 1) (zau (gN 2) zda)))) zcl zb8
def zbK : MS :=
 (sRet (mC dSum (zaf (eFz zcg) aNil)))
def zaU : List D -> Option Sl := fP 3 zbK
theorem ze9  (h : FnAt K "greatest_in_row" zcH) : FD P w K mg base 1 "greatest_in_row" (spP K 3 zaU) :=
 fdP (N := ["counts", "least", "greatest"]) (k := 0) (m := zbK) X G h fun _ _ _ _ _ _ _ hr nd => (zak (zax (zi9 rfl bn.sum' (zaa (SO.se (zeB [] 3 ["count", "low", "high"] rfl (zhS bn.zip' (zaa (zab 0) (zaa (zab 1) (zaa (zab 2) zag)))) (fun C s H fp => (zbF rfl (zan (zal 0 ndk) (zan (zal 1 ndk) (zan (zal 2 ndk) za6))))) (fun C s H fp => zaI) (fun C s H fp => (zlU rfl bn.max' (zaa (zbd (zab 0) (zab 1)) (zaa (zbd (zab 0) (zab 2)) zag)))))) zag))))
abbrev zcD : Stmt := top 34
def zbQ : MS :=
 (zkf 2 (fun i j => i + j) (zaC zaU (zaf (eVar 3) (zaf (eVar 4) (zaf (eVar 5) aNil)))))
def zbV : MS :=
 sFor (iZ3 (zaf (zl9 zbz (zaf (eVar 0) (zaf (eVar 1) aNil))) (zaf (eIxV 0 (eC (.int 1))) (zaf (eIxV 0 (eC (.int 2))) aNil)))) (gT 3 (zau (gN 3) (zau (gN 4) (zau (gN 5) zda)))) zbQ
def zbo : MS :=
 (sSeq (sSet 2 (eC (.int 0)))
  (sSeq zbV
  (zg3 2)))
def zaK : List D -> Option Sl := fP 6 zbo
theorem zeR (zbn : FD P w K mg base 1 "greatest_in_row" (spP K 3 zaU)) (zcS : FD P w K mg base 2 "tour_counts" (spP K 2 zbz)) (h : FnAt K "greatest_balance" zcD) : FD P w K mg base 3 "greatest_balance" (spP K 2 zaK) :=
 fdP (N := ["floor", "cells", "balance", "counts", "least", "greatest"]) (k := 2) (m := zbo) X G h fun _ _ _ _ _ _ _ hr nd => (zae (zat 2 zah nd)
  (zae (zbR PassesOwn.never rfl (zhS bn.zip' (zaa (se_callT zcS hr (zaa (zab 0) (zaa (zab 1) zag)) (zac (zac zaj))) (zaa (zai 0 zah) (zaa (zai 0 zah) zag)))) (zbF rfl (zan (zal 3 nd) (zan (zal 4 nd) (zan (zal 5 nd) za6))))
  (zak (zh7 2 (zao zbn hr (zaa (zab 3) (zaa (zab 4) (zaa (zab 5) zag))) (hlen := (zac (zac (zac zaj))))) nd)))
  (zak (zeZ 2))))
abbrev ze6 : Stmt := top 35
def zcE : MS :=
 (sRet (eAnd (zaC zeb (zaf (eVar 0) (zaf (eVar 1) aNil))) (m2 dGt (zaC zbU (zaf (zaC zaw (zaf (eVar 0) aNil)) (zaf (eVar 1) aNil))) (zaC zaK (zaf (eVar 0) (zaf (eVar 1) aNil))))))
def zbX : List D -> Option Sl := fP 2 zcE
theorem zhC (zdm : FD P w K mg base 2 "balance_of" (spP K 2 zbU)) (zbi : FD P w K mg base 3 "greatest_balance" (spP K 2 zaK)) (zfK : FD P w K mg base 2 "is_tour" (spP K 2 zeb)) (zav : FD P w K mg base 2 "plain_numbers" (spP K 1 zaw)) (h : FnAt K "tour_right" ze6) : FD P w K mg base 4 "tour_right" (spP K 2 zbX) :=
 fdP (N := ["floor", "cells"]) (k := 3) (m := zcE) X G h fun _ _ _ _ _ _ _ hr nd => (zak (zax (zg9 (zao zfK hr (zaa (zab 0) (zaa (zab 1) zag)) (hlen := (zac (zac zaj)))) (zhh (se_gt (zao zdm hr (zaa (zao zav hr (zaa (zab 0) zag) (hlen := (zac zaj))) (zaa (zab 1) zag)) (hlen := (zac (zac zaj)))) (zao zbi hr (zaa (zab 0) (zaa (zab 1) zag)) (hlen := (zac (zac zaj)))))))))
abbrev zeG : Stmt := top 36
def zb5 : MS :=
 (sRet (eAnd (m2 dEq (eIxV 1 (eC (.int 0))) (eC (.str "tour"))) (zaC zbX (zaf (eVar 0) (zaf (eIxV 1 (eC (.int 1))) aNil)))))
def zcn : MS :=
 (sSeq (sIf (tTru (m2 dEq (eIxV 1 (eC (.int 0))) (eC (.str "floor"))))
  (sRet (zaC zdk (zaf (eVar 0) (zaf (eIxV 1 (eC (.int 1))) aNil))))
  zds)
  zb5)
def zaJ : List D -> Option Sl := fP 2 zcn
theorem zgX (zc0 : FD P w K mg base 3 "floor_holds" (spP K 2 zdk)) (zdn : FD P w K mg base 4 "tour_right" (spP K 2 zbX)) (h : FnAt K "floor_right" zeG) : FD P w K mg base 5 "floor_right" (spP K 2 zaJ) :=
 fdP (N := ["floor", "told"]) (k := 4) (m := zcn) X G h fun _ _ _ _ _ _ _ hr nd => (zae (zew (st_eq hr.units (zai 1 zah) zho)
  (zak (zax (zao zc0 hr (zaa (zab 0) (zaa (zai 1 zah) zag)) (hlen := (zac (zac zaj))))))
  zbb)
  (zak (zax (zg9 (se_eq hr.units (zai 1 zah) zho) (zhh (zao zdn hr (zaa (zab 0) (zaa (zai 1 zah) zag)) (hlen := (zac (zac zaj)))))))))
abbrev zf0 : Stmt := top 38
def zeK : MS :=
 (sSeq (sSet 2 (m2 dMod (m2 dAdd (m2 dAdd (m2 dMul (eVar 2) (eC (.int 48271))) (m2 dMul (eC (.int 7919)) (eVar 3))) (eC (.int 12345))) (eC (.int 2147483647))))
  (sSeq (sSet 4 (m2 dMod (m2 dMul (eVar 2) (eVar 2)) (eC (.int 2147483629))))
  (sSet 1 (m2 dAdd (m2 dMul (eVar 1) (eC (.int 4194304))) (m2 dMod (m2 dDiv (eVar 4) (eC (.int 256))) (eC (.int 4194304)))))))
def zeP : MS :=
 sFor (iR1 (zaf (eC (.int 28)) aNil)) (gN 3) zeK
def zeF : MS :=
 (sSeq (sSet 1 (eC (.int 0)))
  (sSeq (sSet 2 (m2 dAdd (m2 dMod (eVar 0) (eC (.int 2147483647))) (eC (.int 6113))))
  (sSeq zeP
  (zhs (oLst (zaf (eVar 1) aNil))))))
def zeY : MS :=
 (sSeq (sIf (tTru (m2 dGe (eVar 0) (m2 dPow (eC (.int 10)) (eC (.int 18)))))
  (zhs (oLst (zaf (m2 dMod (m2 dSub (eVar 0) (m2 dPow (eC (.int 10)) (eC (.int 18)))) (m2 dMul (m2 dMul (m2 dPow (eC (.int 10)) (eC (.int 64))) (m2 dPow (eC (.int 10)) (eC (.int 64)))) (m2 dPow (eC (.int 10)) (eC (.int 64))))) aNil)))
  zds)
  zeF)
def zcz : List D -> Option Sl := fP 5 zeY
theorem ziL  (h : FnAt K "_law_deal" zf0) : FD P w K mg base 1 "_law_deal" (spP K 1 zcz) :=
 fdP (N := ["cell", "great", "one", "k", "two"]) (k := 0) (m := zeY) X G h fun _ _ _ _ _ _ _ hr nd => (zae (zew (st_ge (zab 0) (zhm zah zah))
  (zak (zeW (zbh (zaa (zec (zbm (zab 0) (zhm zah zah)) (zbd (zbd (zhm zah zah) (zhm zah zah)) (zhm zah zah))) zag))))
  zbb)
  (zae (zat 1 zah nd)
  (zae (zat 2 (zaD (zec (zab 0) zah) zah) nd)
  (zae (zbR PassesOwn.never rfl (zaQ bn.range' (zaa zah zag)) (zal 3 nd)
  (zae (zat 2 (zec (zaD (zaD (zbd (zab 2) zah) (zbd zah (zab 3))) zah) zah) nd)
  (zae (zat 4 (zec (zbd (zab 2) (zab 2)) zah) nd)
  (zak (zat 1 (zaD (zbd (zab 1) zah) (zec (se_div (zab 4) zah) zah)) nd)))))
  (zak (zeW (zbh (zaa (zab 1) zag))))))))
abbrev zf2 : Stmt := top 39
def zeT : MS :=
 (sSeq (sSet 2 (m2 dMod (eIxV 0 (eC (.int 0))) (eVar 1)))
  (sSeq (sPut 0 (eC (.int 0)) (m2 dDiv (eIxV 0 (eC (.int 0))) (eVar 1)))
  (zg3 2)))
def zaA : List D -> List D -> Option (Sl × List D) := fM 3 zeT
theorem zil  (h : FnAt K "_law_take" zf2) : FD P w K mg base 1 "_law_take" (spM K 2 zaA) :=
 fdM (N := ["pot", "many", "digit"]) (k := 0) (m := zeT) X G h fun _ _ _ _ _ _ _ hr nd => (zae (zat 2 (zec (zai 0 zah) (zab 1)) nd)
  (zae (zjB 0 (se_div (zai 0 zah) (zab 1)) zah)
  (zak (zeZ 2))))
abbrev zcN : Stmt := top 40
def zck : MS :=
 (sSeq (sSet 5 (eFz (oLst (zaf (m2 dIx (eIxV 0 (eVar 2)) (eVar 4)) (zaf (m2 dIx (eIxV 0 (eVar 2)) (m2 dAdd (eVar 4) (eC (.int 1)))) (zaf (m2 dIx (eIxV 0 (m2 dAdd (eVar 2) (eC (.int 1)))) (eVar 4)) (zaf (m2 dIx (eIxV 0 (m2 dAdd (eVar 2) (eC (.int 1)))) (m2 dAdd (eVar 4) (eC (.int 1)))) aNil)))))))
  (sApp 3 (mC dSum (zaf (eVar 5) aNil))))
def zce : MS :=
 sFor (iR1 (zaf (m2 dSub (mC dLen (zaf (eIxV 0 (eC (.int 0))) aNil)) (eC (.int 1))) aNil)) (gN 4) zck
def zcb : MS :=
 (sSeq (zfp 3 (oLst aNil))
  (sSeq zce
  (sApp 1 (mC zb9 (zaf (eVar 3) aNil)))))
def zcd : MS :=
 sFor (iR1 (zaf (m2 dSub (zcC 0) (eC (.int 1))) aNil)) (gN 2) zcb
def zbH : MS :=
 (sSeq (zfp 1 (oLst aNil))
  (sSeq zcd
  (sRet (mC zb9 (zaf (eVar 1) aNil)))))
def zaO : List D -> Option Sl := fP 6 zbH
theorem zfu  (h : FnAt K "_law_floor_sums" zcN) : FD P w K mg base 1 "_law_floor_sums" (spP K 1 zaO) :=
 fdP (N := ["numbers", "sums", "r", "line", "c", "four"]) (k := 0) (m := zbH) X G h fun _ _ _ _ _ _ _ hr nd => (zae (zb3 1 (zbh zag) nd)
  (zae (zbR PassesOwn.never rfl (zaQ bn.range' (zaa (zbm (zaV 0 bn.len') zah) zag)) (zal 2 nd)
  (zae (zb3 3 (zbh zag) nd)
  (zae (zbR PassesOwn.never rfl (zaQ bn.range' (zaa (zbm (zfi bn.len' (zaa (zai 0 zah) zag)) zah) zag)) (zal 4 nd)
  (zae (zat 5 (SO.se (zbh (zaa (zaY (zai 0 (zab 2)) (zab 4)) (zaa (zaY (zai 0 (zab 2)) (zaD (zab 4) zah)) (zaa (zaY (zai 0 (zaD (zab 2) zah)) (zab 4)) (zaa (zaY (zai 0 (zaD (zab 2) zah)) (zaD (zab 4) zah)) zag)))))) nd)
  (zak (zgA 3 (zi9 rfl bn.sum' (zaa (zab 5) zag))))))
  (zak (zgA 1 (zcm bn.tuple' (zaa (zab 3) zag)))))))
  (zak (zax (zcm bn.tuple' (zaa (zab 1) zag))))))
abbrev zf7 : Stmt := top 41
def zeS : MS :=
 (sRet (m2 dIx (eTup (zaf (eC (.int 1)) (zaf (m1 dNeg (eC (.int 1))) aNil))) (m2 dMod (m2 dAdd (eVar 0) (eVar 1)) (eC (.int 2)))))
def zbG : List D -> Option Sl := fP 2 zeS
theorem ziw  (h : FnAt K "_law_sign" zf7) : FD P w K mg base 1 "_law_sign" (spP K 2 zbG) :=
 fdP (N := ["r", "c"]) (k := 0) (m := zeS) X G h fun _ _ _ _ _ _ _ hr nd => (zak (zax (zaY (zcq (zaa zah (zaa (zf1 zah) zag))) (zec (zaD (zab 0) (zab 1)) zah))))
abbrev zfz : Stmt := top 42
def zek : MS :=
 (sSeq (sSet 4 (mC zb9 (zaf (eVar 3) aNil)))
  (sDPT 1 (eVar 4) (m2 dAdd (zlC 1 0 (eVar 4)) (m2 dMul (zaC zbG (zaf (eIxV 4 (eC (.int 0))) (zaf (eIxV 4 (eC (.int 1))) aNil))) (zaC zbG (zaf (eVar 2) (zaf (eC (.int 0)) aNil)))))))
def zea : MS :=
 sFor (iEn (zaf (eVar 0) aNil)) (gT 2 (zau (gN 2) (zau (gN 3) zda))) zek
def zeg : MS :=
 (sSeq (sDNT 1)
  (sSeq zea
  (sRet (eKn 1))))
def zbS : List D -> Option Sl := fP 5 zeg
theorem zhJ (zcI : FD P w K mg base 1 "_law_sign" (spP K 2 zbG)) (h : FnAt K "_law_often" zfz) : FD P w K mg base 2 "_law_often" (spP K 1 zbS) :=
 fdP (N := ["cells", "often", "at", "cell", "pair"]) (k := 1) (m := zeg) X G h fun _ _ _ _ _ _ _ hr nd => (zae (ss_dNewT 1 nd)
  (zae (zbR PassesOwn.never rfl (zbt bn.enumerate' (zaa (zab 0) zag)) (zbF rfl (zan (zal 2 nd) (zan (zal 3 nd) za6)))
  (zae (zat 4 (zcm bn.tuple' (zaa (zab 3) zag)) nd)
  (zak (ss_dPutT 1 hr.units (zaD (ziv 1 hr.units (zab 4) ⟨rfl, rfl, rfl, rfl⟩) (zbd (zao zcI hr (zaa (zai 4 zah) (zaa (zai 4 zah) zag)) (hlen := (zac (zac zaj)))) (zao zcI hr (zaa (zab 2) (zaa zah zag)) (hlen := (zac (zac zaj)))))) (zab 4)))))
  (zak (zax (se_know 1)))))
abbrev zfb : Stmt := top 43
def zex : ME :=
 (ePop 0 (zcM zaA 1 (zaf (zcC 0) aNil)))
def zd0 : MO :=
 oLC2 [3, 0] 1 1 0 0 3 (iR1 (zaf (eVar 2) aNil)) (gN 2) zcl zex
def zdO : MS :=
 (sSeq (zfp 3 (oR (iR1 (zaf (eVar 1) aNil))))
  (zhs zd0))
def zbl : List D -> List D -> Option (Sl × List D) := fM 4 zdO
theorem zh3 (zay : FD P w K mg base 1 "_law_take" (spM K 2 zaA)) (h : FnAt K "_law_order" zfb) : FD P w K mg base 2 "_law_order" (spM K 3 zbl) :=
 fdM (N := ["pot", "many", "size", "left"]) (k := 1) (m := zdO) X G h fun _ _ _ _ _ _ _ hr nd => (zae (zb3 3 (zlV bn.list' bn.range' (zaa (zab 1) zag)) nd)
  (zak (zeW (so_lc2 [3, 0] 1 1 0 0 3 ["left", "pot", "turn"] rfl (zaQ bn.range' (zaa (zab 2) zag)) (fun C s H fp => (zal 2 ndk)) (fun C s H fp => zaI) (fun C s H fp => (se_pop 0 (zbr 1 zay hr (zaa (zaV 0 bn.len') zag) (zgI (zac zaj)))))))))
abbrev zdg : Stmt := top 44
def zcB : MS :=
 (sSeq (sApp 6 (eTup (zaf (eIxV 4 (eVar 7)) (zaf (eIxV 5 (eVar 7)) aNil))))
  (sApp 6 (eTup (zaf (eIxV 4 (m2 dMod (m2 dAdd (eVar 7) (eC (.int 1))) (eVar 3))) (zaf (eIxV 5 (eVar 7)) aNil)))))
def zcr : MS :=
 sFor (iR1 (zaf (eVar 3) aNil)) (gN 7) zcB
def zb2 : MS :=
 (sSeq (sSet 3 (mC (d2I min2) (zaf (eVar 1) (zaf (eVar 2) aNil))))
  (sSeq (sSet 4 (zcM zbl 0 (zaf (eVar 1) (zaf (eVar 3) aNil))))
  (sSeq (sSet 5 (zcM zbl 0 (zaf (eVar 2) (zaf (eVar 3) aNil))))
  (sSeq (zfp 6 (oLst aNil))
  (sSeq zcr
  (zg3 6))))))
def za3 : List D -> List D -> Option (Sl × List D) := fM 8 zb2
theorem zfC (zco : FD P w K mg base 2 "_law_order" (spM K 3 zbl)) (h : FnAt K "_law_long_tour" zdg) : FD P w K mg base 3 "_law_long_tour" (spM K 3 za3) :=
 fdM (N := ["pot", "rows", "columns", "size", "ones", "others", "cells", "at"]) (k := 2) (m := zb2) X G h fun _ _ _ _ _ _ _ hr nd => (zae (zat 3 (zlz rfl bn.min' (zaa (zab 1) (zaa (zab 2) zag))) nd)
  (zae (zat 4 (zbr 0 zco hr (zaa (zab 1) (zaa (zab 3) zag)) (zgI (zac (zac zaj)))) nd)
  (zae (zat 5 (zbr 0 zco hr (zaa (zab 2) (zaa (zab 3) zag)) (zgI (zac (zac zaj)))) nd)
  (zae (zb3 6 (zbh zag) nd)
  (zae (zbR PassesOwn.never rfl (zaQ bn.range' (zaa (zab 3) zag)) (zal 7 nd)
  (zae (zgA 6 (zcq (zaa (zai 4 (zab 7)) (zaa (zai 5 (zab 7)) zag))))
  (zak (zgA 6 (zcq (zaa (zai 4 (zec (zaD (zab 7) zah) (zab 3))) (zaa (zai 5 (zab 7)) zag)))))))
  (zak (zeZ 6)))))))
abbrev zfg : Stmt := top 45
def zd3 : ME :=
 (m2 dSub (eVar 1) (eVar 0))
def zei : MO :=
 oLC [0] 1 (iSeq (eVar 1)) (gN 1) zcl zd3
def zer : MO :=
 zei
def zet : ME :=
 (m2 dAdd (eVar 1) (eVar 0))
def zes : MO :=
 oLC [0] 1 (iSeq (eVar 1)) (gN 1) zcl zet
def zdN : MO :=
 zes
def zd7 : MS :=
 (sSeq (sTP 3 (qV 5) (qV 6) (m2 dIx (eIxV 0 (eVar 5)) (eVar 6)))
  (sTP 4 (qV 5) (qV 6) (m2 dIx (eIxV 0 (eVar 5)) (eVar 6))))
def zdT : MS :=
 sFor (iSeq (eVar 1)) (gT 2 (zau (gN 5) (zau (gN 6) zda))) zd7
def zdQ : MS :=
 (sSeq (sTC 3 [2] 1 (iSeq (eVar 0)) (gN 1) zcl zer)
  (sSeq (sTC 4 [2] 1 (iSeq (eVar 0)) (gN 1) zcl zdN)
  (sSeq zdT
  (sRTT 3 4))))
def zbZ : List D -> Option Sl := fP 7 zdQ
theorem zhD  (h : FnAt K "_law_tight" zfg) : FD P w K mg base 1 "_law_tight" (spP K 3 zbZ) :=
 fdP (N := ["numbers", "cells", "by", "least", "greatest", "r", "c"]) (k := 0) (m := zdQ) X G h fun _ _ _ _ _ _ _ hr nd => (zae (zhX 3 [2] 1 ["by", "row"] rfl (zcj (zab 0)) (fun C s H fp => (zal 1 ndk)) (fun C s H fp => zaI) (fun C s H fp => (zeB [0] 1 ["by", "number"] rfl (zcj (zab 1)) (fun C s H fp => (zal 1 ndk)) (fun C s H fp => zaI) (fun C s H fp => (zbm (zab 1) (zab 0))))) nd)
  (zae (zhX 4 [2] 1 ["by", "row"] rfl (zcj (zab 0)) (fun C s H fp => (zal 1 ndk)) (fun C s H fp => zaI) (fun C s H fp => (zeB [0] 1 ["by", "number"] rfl (zcj (zab 1)) (fun C s H fp => (zal 1 ndk)) (fun C s H fp => zaI) (fun C s H fp => (zaD (zab 1) (zab 0))))) nd)
  (zae (zbR PassesOwn.never rfl (zcj (zab 1)) (zbF rfl (zan (zal 5 nd) (zan (zal 6 nd) za6)))
  (zae (zfM 3 (zaY (zai 0 (zab 5)) (zab 6)) (zbc 5) (zbc 6))
  (zak (zfM 4 (zaY (zai 0 (zab 5)) (zab 6)) (zbc 5) (zbc 6)))))
  (zak (ss_retTT 3 4 (by decide))))))
abbrev zig : Stmt := top 46
def zjO : ME :=
 (m2 dMul (m2 dSub (zcM zaA 0 (zaf (eC (.int 19)) aNil)) (eC (.int 9))) (eVar 1))
def zjZ : MO :=
 oLCM [1, 2] 1 0 1 (iR1 (zaf (eVar 0) aNil)) (gN 2) zcl zjO
def zjE : ME :=
 (eFz zjZ)
def zh1 : MO :=
 oLCM [4, 2, 5] 1 1 2 (iR1 (zaf (eVar 3) aNil)) (gN 3) zcl zjE
def zjR : ME :=
 (zlC 0 0 (eVar 1))
def zjl : MO :=
 oLC [18] 1 (iSeq (eVar 7)) (gN 1) zcl zjR
def zji : MS :=
 (sSeq (sAsg (eIxV 7 (zcM zaA 2 (zaf (zcC 7) aNil))) (gT 2 (zau (gN 13) (zau (gN 14) zda))))
  (sSeq (sSet 19 (m2 dMul (m2 dMul (eC (.int 1000)) (mC dLen (zaf (eIxV 17 (eC (.int 1))) aNil))) (eVar 5)))
  (sSeq (sTP 8 (qV 13) (qV 14) (m2 dSub (eTI 8 (qV 13) (qV 14)) (eVar 19)))
  (sSeq (sTP 9 (qV 13) (qV 14) (m2 dAdd (eTI 9 (qV 13) (qV 14)) (eVar 19)))
  (sIf (tTru (m2 zh6 (zaC zaJ (zaf (eLk2 8 9 (zaC za9 (zaf (eVar 10) (zaf (eVar 8) (zaf (eVar 9) aNil))))) (zaf (eVar 17) aNil))) (eC (.bl false))))
  (sRet (eC (.bl false)))
  zds)))))
def zju : MS :=
 (sSeq (sIf (tTru (m2 dNe (m2 dIx (zaC zaM (zaf (eVar 11) aNil)) (eC (.int 0))) (eC (.str "floor"))))
  (sRet (eC (.bl false)))
  zds)
  zji)
def zjL : MS :=
 (sSeq (sSet 18 (zaC zbS (zaf (eIxV 17 (eC (.int 1))) aNil)))
  (sSeq (sIf (tTru (m2 dIn (eC (.int 0)) (eFz zjl)))
  (sRet (eC (.bl false)))
  zds)
  zju))
def zjb : MS :=
 (sSeq (zfp 2 (oCall zcz (zaf (eVar 1) aNil)))
  (sSeq (sSet 3 (m2 dAdd (eC (.int 2)) (zcM zaA 2 (zaf (eC (.int 5)) aNil))))
  (sSeq (sSet 4 (m2 dAdd (eC (.int 2)) (zcM zaA 2 (zaf (eC (.int 5)) aNil))))
  (sSeq (sSet 5 (m2 dIx (eTup (zaf (eC (.int 1)) (zaf (m2 dPow (eC (.int 10)) (eC (.int 54))) aNil))) (zcM zaA 2 (zaf (eC (.int 2)) aNil))))
  (sSeq (sSet 6 (eFz zh1))
  (sSeq (sSet 7 (zcM za3 2 (zaf (eVar 3) (zaf (eVar 4) aNil))))
  (sSeq (sATT 8 9 zbZ (zaf (eVar 6) (zaf (eVar 7) (zaf (m2 dMul (eC (.int 1000)) (eVar 5)) aNil))))
  (sSeq (sSet 10 (zaC zaO (zaf (eVar 6) aNil)))
  (sSeq (sSet 11 (eLk2 8 9 (zaC za9 (zaf (eVar 10) (zaf (eVar 8) (zaf (eVar 9) aNil))))))
  (sSeq (sSet 12 (zcM zaA 2 (zaf (zcC 7) aNil)))
  (sSeq (sAsg (eIxV 7 (eVar 12)) (gT 2 (zau (gN 13) (zau (gN 14) zda))))
  (sSeq (sSet 15 (m2 dMul (m2 dIx (eTup (zaf (eC (.int 1)) (zaf (m1 dNeg (eC (.int 1))) aNil))) (zcM zaA 2 (zaf (eC (.int 2)) aNil))) (eVar 5)))
  (sSeq (sTP 8 (qV 13) (qV 14) (m2 dAdd (eTI 8 (qV 13) (qV 14)) (eVar 15)))
  (sSeq (sTP 9 (qV 13) (qV 14) (m2 dAdd (eTI 9 (qV 13) (qV 14)) (eVar 15)))
  (sSeq (sSet 16 (eLk2 8 9 (zaC za9 (zaf (eVar 10) (zaf (eVar 8) (zaf (eVar 9) aNil))))))
  (sSeq (sSet 17 (zaC zaM (zaf (eVar 16) aNil)))
  (sSeq (sIf (tOrM (tTru (m2 dNe (eIxV 17 (eC (.int 0))) (eC (.str "tour")))) (tTru (m2 zh6 (zaC zaJ (zaf (eVar 16) (zaf (eVar 17) aNil))) (eC (.bl true)))))
  (sRet (eC (.bl false)))
  zds)
  zjL)))))))))))))))))
def zjP : MS :=
 sFor (iSeq (m2 dAdd (eCut (eVar 0) pNo (zfq (eC (.int 5)))) (eFz (oLst (zaf (eC (.int 0)) aNil))))) (gN 1) zjb
def m_law : MS :=
 (sSeq zjP
  (sRet (eC (.bl true))))
def ziJ : List D -> Option Sl := fP 20 m_law
theorem ok_law (zel : FD P w K mg base 1 "_law_deal" (spP K 1 zcz)) (zbs : FD P w K mg base 1 "_law_floor_sums" (spP K 1 zaO)) (zbN : FD P w K mg base 3 "_law_long_tour" (spM K 3 za3)) (zdv : FD P w K mg base 2 "_law_often" (spP K 1 zbS)) (zay : FD P w K mg base 1 "_law_take" (spM K 2 zaA)) (zdr : FD P w K mg base 1 "_law_tight" (spP K 3 zbZ)) (zbu : FD P w K mg base 5 "fitted_floor" (spP K 1 zaM)) (zbP : FD P w K mg base 5 "floor_right" (spP K 2 zaJ)) (zby : FD P w K mg base 4 "made_floor" (spP K 3 za9)) (F : Fun K "law" "law" zig f fd) : FnOk P w K mg base CX0 6 f fd ["script"] (spP K 1 ziJ) :=
 lawP (N := ["script", "cell", "pot", "rows", "columns", "by", "numbers", "cells", "least", "greatest", "sums", "good", "at", "r", "c", "more", "floor", "told", "often", "room"]) (k := 5) (n := 1) (m := m_law) F fun _ _ _ _ _ _ _ hr nd => (zae (zbR PassesOwn.never rfl (zcj (zaD (zeC (zab 0) ziD (zb4 zah)) (SO.se (zbh (zaa zah zag))))) (zal 1 nd)
  (zae (zb3 2 (so_call zel hr (zaa (zab 1) zag) (hlen := (zac zaj))) nd)
  (zae (zat 3 (zaD zah (zbr 2 zay hr (zaa zah zag) (zgI (zac zaj)))) nd)
  (zae (zat 4 (zaD zah (zbr 2 zay hr (zaa zah zag) (zgI (zac zaj)))) nd)
  (zae (zat 5 (zaY (zcq (zaa zah (zaa (zhm zah zah) zag))) (zbr 2 zay hr (zaa zah zag) (zgI (zac zaj)))) nd)
  (zae (zko 6 [4, 2, 5] 1 1 2 ["columns", "pot", "by", "r"] rfl (zaQ bn.range' (zaa (zab 3) zag)) (fun C s H fp => (zal 3 ndk)) (fun C s H fp => zaI) (fun C s H fp => (SO.se (so_lcM [1, 2] 1 0 1 ["pot", "by", "c"] rfl (zaQ bn.range' (zaa (zab 0) zag)) (fun C s H fp => (zal 2 ndk)) (fun C s H fp => zaI) (fun C s H fp => (zbd (zbm (zbr 0 zay hr (zaa zah zag) (zgI (zac zaj))) zah) (zab 1)))))) nd)
  (zae (zat 7 (zbr 2 zbN hr (zaa (zab 3) (zaa (zab 4) zag)) (zgI (zac (zac zaj)))) nd)
  (zae (ss_asgTT 8 9 (by decide) rfl zdr hr (zaa (zab 6) (zaa (zab 7) (zaa (zbd zah (zab 5)) zag))) (zac (zac (zac zaj))) nd)
  (zae (zat 10 (zao zbs hr (zaa (zab 6) zag) (hlen := (zac zaj))) nd)
  (zae (zat 11 (zhr 8 9 (by decide) (zao zby hr (zaa (zab 10) (zaa (zab 8) (zaa (zab 9) zag))) (hlen := (zac (zac (zac zaj)))))) nd)
  (zae (zat 12 (zbr 2 zay hr (zaa (zaV 7 bn.len') zag) (zgI (zac zaj))) nd)
  (zae (ss_asg (zai 7 (zab 12)) (zbF rfl (zan (zal 13 nd) (zan (zal 14 nd) za6))))
  (zae (zat 15 (zbd (zaY (zcq (zaa zah (zaa (zf1 zah) zag))) (zbr 2 zay hr (zaa zah zag) (zgI (zac zaj)))) (zab 5)) nd)
  (zae (zfM 8 (zaD (zjC 8 (zbc 13) (zbc 14)) (zab 15)) (zbc 13) (zbc 14))
  (zae (zfM 9 (zaD (zjC 9 (zbc 13) (zbc 14)) (zab 15)) (zbc 13) (zbc 14))
  (zae (zat 16 (zhr 8 9 (by decide) (zao zby hr (zaa (zab 10) (zaa (zab 8) (zaa (zab 9) zag))) (hlen := (zac (zac (zac zaj)))))) nd)
  (zae (zat 17 (zao zbu hr (zaa (zab 16) zag) (hlen := (zac zaj))) nd)
  (zae (zew (STw.st (sw_or (zit hr.units (zai 17 zah) zho) (zjy (zkO (zao zbP hr (zaa (zab 16) (zaa (zab 17) zag)) (hlen := (zac (zac zaj)))) ze8))))
  (zak (zax ze8))
  zbb)
  (zae (zat 18 (zao zdv hr (zaa (zai 17 zah) zag) (hlen := (zac zaj))) nd)
  (zae (zew (st_in zah (SO.se (zeB [18] 1 ["often", "cell"] rfl (zcj (zab 7)) (fun C s H fp => (zal 1 ndk)) (fun C s H fp => zaI) (fun C s H fp => (ziv 0 hr.units (zab 1) ⟨rfl, rfl, rfl, rfl⟩)))))
  (zak (zax ze8))
  zbb)
  (zae (zew (zit hr.units (zaY (zao zbu hr (zaa (zab 11) zag) (hlen := (zac zaj))) zah) zho)
  (zak (zax ze8))
  zbb)
  (zae (ss_asg (zai 7 (zbr 2 zay hr (zaa (zaV 7 bn.len') zag) (zgI (zac zaj)))) (zbF rfl (zan (zal 13 nd) (zan (zal 14 nd) za6))))
  (zae (zat 19 (zbd (zbd zah (zfi bn.len' (zaa (zai 17 zah) zag))) (zab 5)) nd)
  (zae (zfM 8 (zbm (zjC 8 (zbc 13) (zbc 14)) (zab 19)) (zbc 13) (zbc 14))
  (zae (zfM 9 (zaD (zjC 9 (zbc 13) (zbc 14)) (zab 19)) (zbc 13) (zbc 14))
  (zak (zew (zkO (zao zbP hr (zaa (zhr 8 9 (by decide) (zao zby hr (zaa (zab 10) (zaa (zab 8) (zaa (zab 9) zag))) (hlen := (zac (zac (zac zaj)))))) (zaa (zab 17) zag)) (hlen := (zac (zac zaj)))) ze8)
  (zak (zax ze8))
  zbb)))))))))))))))))))))))))))
  (zak (zax ze8)))
end
set_option maxHeartbeats 0 in
theorem all_mk {l : W.OpenLaw} {w : World} {K : W.Frag} {h : Heap} {mg : Str -> Option Value} {fa : Addr} (X : K.In h) (G : h.Ns mainGlobals mg) (hfa : mg "law" = some (.ref fa))
  (h1 : FnAt K "square_sums" zeJ)
  (h2 : FnAt K "floor_sums" ze2)
  (h3 : FnAt K "row_within" zfn)
  (h4 : FnAt K "lengths_of" zfy)
  (h5 : FnAt K "rows_within" zeN)
  (h6 : FnAt K "floor_parts_right" zb7)
  (h7 : FnAt K "in_tuples" zfW)
  (h8 : FnAt K "made_floor" ze7)
  (h9 : FnAt K "floor_holds" zeD)
  (h10 : FnAt K "is_cell" zhc)
  (h11 : FnAt K "cells_of" zgR)
  (h12 : FnAt K "cell_sign" zf3)
  (h13 : FnAt K "balance_of" zfk)
  (h14 : FnAt K "plain_numbers" zdF)
  (h15 : FnAt K "shifted_row" zeQ)
  (h16 : FnAt K "shifted_numbers" zcO)
  (h17 : FnAt K "cell_ties" zfX)
  (h18 : FnAt K "floor_ties" zfd)
  (h19 : FnAt K "greatest_shifts" zcF)
  (h20 : FnAt K "falling_loop" zen)
  (h21 : FnAt K "floor_shifts" zef)
  (h22 : FnAt K "tour_of" zha)
  (h23 : FnAt K "fitted_floor" zdW)
  (h24 : FnAt K "is_step" zhi)
  (h25 : FnAt K "is_tour" zhn)
  (h26 : FnAt K "tour_counts" zeL)
  (h27 : FnAt K "greatest_in_row" zcH)
  (h28 : FnAt K "greatest_balance" zcD)
  (h29 : FnAt K "tour_right" ze6)
  (h30 : FnAt K "floor_right" zeG)
  (h31 : FnAt K "_law_deal" zf0)
  (h32 : FnAt K "_law_take" zf2)
  (h33 : FnAt K "_law_floor_sums" zcN)
  (h34 : FnAt K "_law_sign" zf7)
  (h35 : FnAt K "_law_often" zfz)
  (h36 : FnAt K "_law_order" zfb)
  (h37 : FnAt K "_law_long_tour" zdg)
  (h38 : FnAt K "_law_tight" zfg)
  (h39 : FnAt K "law" zig)
  (z0 : W.nsIn K mainGlobals "all" = some none) (z1 : W.nsIn K mainGlobals "enumerate" = some none) (z2 : W.nsIn K mainGlobals "len" = some none) (z3 : W.nsIn K mainGlobals "list" = some none) (z4 : W.nsIn K mainGlobals "max" = some none) (z5 : W.nsIn K mainGlobals "min" = some none) (z6 : W.nsIn K mainGlobals "range" = some none) (z7 : W.nsIn K mainGlobals "sum" = some none) (z8 : W.nsIn K mainGlobals "tuple" = some none) (z9 : W.nsIn K mainGlobals "zip" = some none) :
  ∃ fd : FuncData, (∀ (s : Shared) (v : Value), BindsTo s fd ⟨[v], []⟩ [("script", v)]) /\ ∀ base : Heap, K.In base -> base.Ns mainGlobals mg -> FnOk l.prog w K mg base CX0 6 fa fd ["script"] (spP K 1 ziJ) := by
 have bn : BN K mg := ⟨W.mg_none_of X G z0, W.mg_none_of X G z1, W.mg_none_of X G z2, W.mg_none_of X G z3, W.mg_none_of X G z4, W.mg_none_of X G z5, W.mg_none_of X G z6, W.mg_none_of X G z7, W.mg_none_of X G z8, W.mg_none_of X G z9⟩
 obtain ⟨a, b, c, d, e, f, T⟩ := h39.law X G hfa
 refine ⟨W.fnOf "law" "law" (zdZ zig) (zb1 zig) (zaB zig) .none a b c d e f, fun s v => .of_eq rfl, fun base _ _ => ?_⟩
 have zc3 := zg1 (P := l.prog) (w := w) (base := base) X G bn  h1
 have zdu := zhw (P := l.prog) (w := w) (base := base) X G bn zc3 h2
 have zdA := zhO (P := l.prog) (w := w) (base := base) X G bn  h3
 have zbp := zhv (P := l.prog) (w := w) (base := base) X G bn  h4
 have za5 := zg0 (P := l.prog) (w := w) (base := base) X G bn zdA h5
 have zbf := zeA (P := l.prog) (w := w) (base := base) X G bn zbp za5 h6
 have zaW := ziF (P := l.prog) (w := w) (base := base) X G bn  h7
 have zby := zhu (P := l.prog) (w := w) (base := base) X G bn zbf zaW h8
 have zc0 := zg2 (P := l.prog) (w := w) (base := base) X G bn zdu za5 h9
 have zfH := zkk (P := l.prog) (w := w) (base := base) X G bn  h10
 have zeV := ziS (P := l.prog) (w := w) (base := base) X G bn  h11
 have zaz := zih (P := l.prog) (w := w) (base := base) X G bn  h12
 have zdm := zhR (P := l.prog) (w := w) (base := base) X G bn zaz h13
 have zav := zf8 (P := l.prog) (w := w) (base := base) X G bn zaW h14
 have zc2 := zgZ (P := l.prog) (w := w) (base := base) X G bn zaz h15
 have zbq := zfj (P := l.prog) (w := w) (base := base) X G bn zc2 h16
 have zdR := zif (P := l.prog) (w := w) (base := base) X G bn zaz h17
 have zdp := zh0 (P := l.prog) (w := w) (base := base) X G bn zdR zeV zav h18
 have zbx := ze4 (P := l.prog) (w := w) (base := base) X G bn  h19
 have zcA := zgy (P := l.prog) (w := w) (base := base) X G bn  h20
 have zcx := zgk (P := l.prog) (w := w) (base := base) X G bn zdp zbx h21
 have zfF := zkD (P := l.prog) (w := w) (base := base) X G bn  h22
 have zbu := zgl (P := l.prog) (w := w) (base := base) X G bn zcA zcx zav zbq zfF h23
 have zfE := zkE (P := l.prog) (w := w) (base := base) X G bn  h24
 have zfK := zks (P := l.prog) (w := w) (base := base) X G bn zfH zfE h25
 have zcS := zg5 (P := l.prog) (w := w) (base := base) X G bn zaz h26
 have zbn := ze9 (P := l.prog) (w := w) (base := base) X G bn  h27
 have zbi := zeR (P := l.prog) (w := w) (base := base) X G bn zbn zcS h28
 have zdn := zhC (P := l.prog) (w := w) (base := base) X G bn zdm zbi zfK zav h29
 have zbP := zgX (P := l.prog) (w := w) (base := base) X G bn zc0 zdn h30
 have zel := ziL (P := l.prog) (w := w) (base := base) X G bn  h31
 have zay := zil (P := l.prog) (w := w) (base := base) X G bn  h32
 have zbs := zfu (P := l.prog) (w := w) (base := base) X G bn  h33
 have zcI := ziw (P := l.prog) (w := w) (base := base) X G bn  h34
 have zdv := zhJ (P := l.prog) (w := w) (base := base) X G bn zcI h35
 have zco := zh3 (P := l.prog) (w := w) (base := base) X G bn zay h36
 have zbN := zfC (P := l.prog) (w := w) (base := base) X G bn zco h37
 have zdr := zhD (P := l.prog) (w := w) (base := base) X G bn  h38
 exact ok_law X G bn zel zbs zbN zdv zay zdr zbu zbP zby T
theorem walk {l : W.OpenLaw} {q : Program} {loose : List Str} {XP : (Str -> Option Value) -> Heap -> Prop} {YP : World -> Heap -> Prop} {d : DefRec} {K : Params -> W.Frag} (hn : l.most = some 63) (hdf : d.params.defaults = [])
  (hm : ∀ ns : List Int, ns.length <= 63 -> ziJ [.scr ns] = some (.val (.bl true)))
  (hY : ∀ (w : World) (h : Heap), YP w h -> (K w.params).In h)
  (F : ∀ (w : World) (mg : Str -> Option Value) (fa : Addr) (h : Heap), (K w.params).In h -> h.Ns mainGlobals mg -> mg d.name = some (.ref fa) ->
   ∃ fd : FuncData, (∀ (s : Shared) (u : Value), BindsTo s fd ⟨[u], []⟩ [("script", u)]) /\ ∀ base : Heap, (K w.params).In base -> base.Ns mainGlobals mg -> FnOk l.prog w (K w.params) mg base CX0 6 fa fd ["script"] (spP (K w.params) 1 ziJ)) :
  W.WalkO q loose XP YP l.row.toRowW d [] (fun f vs => PySem.call f vs) :=
 L2.walk_of (n := 63) (k := 6) (x := "script") (CX := fun _ => CX0) (sp := fun w => spP (K w.params) 1 ziJ) hn (by decide) hdf ⟨rfl, by decide, by decide, rfl⟩ hY F
  (fun w H a ns hl _ hS => ⟨H, [.scr ns], .val (.bl true), hm ns hl, rfl, Fz.refl H, .cons ⟨a, rfl, hS⟩ .nil, fun _ _ _ _ _ _ _ rr => rr⟩) fun _ _ _ _ _ z => z
end Prf
set_option exponentiation.threshold 5000
namespace Prf
open L2 M PySem
variable {i j t s n v a c m r b k A B lo hi N : Nat} {q ts qs W p : Nat -> Nat} {d : Nat -> Option Int} {u : Nat -> Option Nat} {y x z : Int} {f e L' G' L G : Nat -> Nat -> Int} {h : Nat -> Int} {ds : List D}
def ckf (m t j q : Nat) : Nat := if q < j then t * m + q + 1 else t * m + q + 1 - m
def upf {α : Type} (f : Nat -> α) (i : Nat) (x : α) : Nat -> α := fun j => if j = i then x else f j
theorem zcw {α : Type} (f : Nat -> α) (i : Nat) (x : α) : upf f i x i = x := if_pos rfl
theorem za7 {α : Type} (f : Nat -> α) (x : α) (h : j ≠ i) : upf f i x j = f j := if_neg h
section
variable {m n : Nat} {tl tu : Nat -> Nat} {ta : Nat -> Int}
def Kept (tl tu : Nat -> Nat) (ta : Nat -> Int) (d : Nat -> Option Int) (q : Nat) : Prop := ∀ y, d (tu q) = some y -> ∃ x, d (tl q) = some x /\ x <= y + ta q
structure BI (m : Nat) (tl tu : Nat -> Nat) (ta : Nat -> Int) (s t j : Nat) (d : Nat -> Option Int) (u : Nat -> Option Nat) (ts : Nat -> Nat) : Prop where
 le : ∀ v, ts v <= t * m + j
 st : ∃ x, d s = some x
 inj : ∀ v w, 0 < ts v -> ts v = ts w -> v = w
 un : ∀ l, 0 < ts l -> ∃ q, q < m /\ tl q = l /\ u l = some (tu q) /\ ∃ x y, d l = some x /\ d (tu q) = some y /\ y + ta q <= x /\ (ts l < ts (tu q) -> y + ta q < x) /\ (m < ts l -> ts l + 1 <= ts (tu q) + m)
 ck : ∀ q, q < m -> 0 < ckf m t j q -> ckf m t j q < ts (tu q) \/ Kept tl tu ta d q
theorem zhz {t j q : Nat} (h : q ≠ j) : ckf m t (j + 1) q = ckf m t j q := by
 unfold ckf
 by_cases z : q < j
 ·rw [if_pos z, if_pos (by omega)]
 ·rw [if_neg z, if_neg (by omega)]
theorem ckf_le {t j q : Nat} (hq : q < m) : ckf m t j q <= t * m + j := by
 unfold ckf
 split <;> omega
theorem BI.keep (b : BI m tl tu ta s t j d u ts) (k : Kept tl tu ta d j) : BI m tl tu ta s t (j + 1) d u ts where
 le := fun v => by have := b.le v; omega
 st := b.st
 inj := b.inj
 un := b.un
 ck := fun q hq h => by
  by_cases e : q = j
  ·subst e; exact .inr k
  ·rw [zhz e] at h ⊢; exact b.ck q hq h
theorem BI.change {s t j : Nat} (b : BI m tl tu ta s t j d u ts) (hj : j < m) (ne : tl j ≠ tu j) (hy : d (tu j) = some y) (hx : ∀ x, d (tl j) = some x -> y + ta j < x) :
  BI m tl tu ta s t (j + 1) (upf d (tl j) (some (y + ta j))) (upf u (tl j) (some (tu j))) (upf ts (tl j) (t * m + j + 1)) where
 le := fun v => by
  by_cases e : v = tl j
  ·rw [e, zcw]; omega
  ·rw [za7 _ _ e]; have := b.le v; omega
 st := by
  obtain ⟨x, h⟩ := b.st
  by_cases e : s = tl j
  ·exact ⟨_, by rw [e, zcw]⟩
  ·exact ⟨x, by rw [za7 _ _ e]; exact h⟩
 inj := fun v w h e => by
  have lv := b.le v
  have lw := b.le w
  by_cases ev : v = tl j
  ·by_cases ew : w = tl j
   ·rw [ev, ew]
   ·rw [ev, zcw, za7 _ _ ew] at e; omega
  ·by_cases ew : w = tl j
   ·rw [ew, zcw, za7 _ _ ev] at e; omega
   ·rw [za7 _ _ ev] at h e; rw [za7 _ _ ew] at e; exact b.inj v w h e
 un := fun l h => by
  by_cases e : l = tl j
  ·subst e
   refine ⟨j, hj, rfl, zcw _ _ _, y + ta j, y, zcw _ _ _, by rw [za7 _ _ ne.symm]; exact hy, Int.le_refl _, fun z => ?_, fun z => ?_⟩
   ·rw [zcw, za7 _ _ ne.symm] at z
    have := b.le (tu j)
    omega
   ·rw [zcw] at z ⊢
    rw [za7 _ _ ne.symm]
    have e1 : ckf m t j j = t * m + j + 1 - m := by unfold ckf; rw [if_neg (by omega)]
    rcases b.ck j hj (by rw [e1]; omega) with c | c
    ·rw [e1] at c; omega
    ·obtain ⟨x, h1, h2⟩ := c y hy
     have := hx x h1
     omega
  ·rw [za7 _ _ e] at h
   obtain ⟨q, hq, eq, eu, x, y', h1, h2, h3, h4, h5⟩ := b.un l h
   refine ⟨q, hq, eq, by rw [za7 _ _ e]; exact eu, ?_⟩
   by_cases z : tu q = tl j
   ·have lt := hx y' (by rw [<- z]; exact h2)
    refine ⟨x, y + ta j, by rw [za7 _ _ e]; exact h1, by rw [z, zcw], by omega, fun _ => by omega, fun g => ?_⟩
    rw [za7 _ _ e] at g ⊢
    have := h5 g
    have := b.le (tu q)
    rw [z, zcw]
    omega
   ·refine ⟨x, y', by rw [za7 _ _ e]; exact h1, by rw [za7 _ _ z]; exact h2, h3, fun g => ?_, fun g => ?_⟩
    ·rw [za7 _ _ e, za7 _ _ z] at g; exact h4 g
    ·rw [za7 _ _ e] at g ⊢; rw [za7 _ _ z]; exact h5 g
 ck := fun q hq h => by
  by_cases z : tu q = tl j
  ·by_cases e : q = j
   ·subst e; exact absurd z.symm ne
   ·left
    rw [zhz e, z, zcw]
    have := ckf_le (t := t) (j := j) hq
    omega
  ·have sat : Kept tl tu ta d q -> Kept tl tu ta (upf d (tl j) (some (y + ta j))) q := fun k y' hy' => by
    rw [za7 _ _ z] at hy'
    obtain ⟨x, h1, h2⟩ := k y' hy'
    by_cases g : tl q = tl j
    ·refine ⟨y + ta j, by rw [g, zcw], ?_⟩
     have := hx x (by rw [<- g]; exact h1)
     omega
    ·exact ⟨x, by rw [za7 _ _ g]; exact h1, h2⟩
   by_cases e : q = j
   ·subst e
    right
    intro y' hy'
    rw [za7 _ _ z, hy] at hy'
    cases hy'
    exact ⟨_, zcw _ _ _, Int.le_refl _⟩
   ·rw [zhz e] at h ⊢
    rw [za7 _ _ z]
    exact (b.ck q hq h).imp id sat
theorem BI.turn (b : BI m tl tu ta s t m d u ts) : BI m tl tu ta s (t + 1) 0 d u ts where
 le := fun v => by have := b.le v; rw [Nat.add_mul]; omega
 st := b.st
 inj := b.inj
 un := b.un
 ck := fun q hq h => by
  have e : ckf m (t + 1) 0 q = ckf m t m q := by
   unfold ckf
   rw [if_neg (by omega), if_pos hq, Nat.add_mul]
   omega
  rw [e] at h ⊢
  exact b.ck q hq h
theorem BI.start : BI m tl tu ta s 0 0 (fun v => if v = s then some 0 else none) (fun _ => none) (fun _ => 0) where
 le := fun v => by omega
 st := ⟨0, if_pos rfl⟩
 inj := fun v w h => by omega
 un := fun l h => by omega
 ck := fun q hq h => by
  unfold ckf at h
  rw [if_neg (by omega)] at h
  omega
theorem BI.kept (b : BI m tl tu ta s (t + 1) 0 d u ts) (h : ∀ v, ts v <= t * m) {q : Nat} (hq : q < m) : Kept tl tu ta d q := by
 have e : ckf m (t + 1) 0 q = t * m + q + 1 := by unfold ckf; rw [if_neg (by omega), Nat.add_mul]; omega
 rcases b.ck q hq (by omega) with c | c
 ·have := h (tu q); omega
 ·exact c
end
def back (u : Nat -> Option Nat) (l : Nat) : Nat -> Nat
 | 0 => l
 | i + 1 => (u (back u l i)).getD 0
theorem zbv (u : Nat -> Option Nat) (l i : Nat) : ∀ j, back u (back u l i) j = back u l (i + j)
 | 0 => rfl
 | j + 1 => by
  show (u (back u (back u l i) j)).getD 0 = (u (back u l (i + j))).getD 0
  rw [zbv u l i j]
theorem fewN : ∀ (c : Nat) (ks : List Nat), ks.Nodup -> (∀ x, x ∈ ks -> x < c) -> ks.length <= c
 | 0, [], _, _ => by simp
 | 0, x :: ks, _, h => by have := h x (by simp); omega
 | c + 1, ks, nd, h => by
  by_cases q : c ∈ ks
  ·have ih := fewN c (ks.erase c) (nd.erase _) fun x hx => by
    have hm := (nd.mem_erase_iff).mp hx
    have := h x hm.2
    have := hm.1
    omega
   rw [List.length_erase_of_mem q] at ih
   omega
  ·have := fewN c ks nd fun x hx => by
    have := h x hx
    have : x ≠ c := fun z => q (z ▸ hx)
    omega
   omega
theorem pigeon {f : Nat -> Nat} (h : ∀ i, i <= n -> f i < n) : ∃ i j, i < j /\ j <= n /\ f i = f j := by
 apply Classical.byContradiction
 intro no
 have nd : ((List.range (n + 1)).map f).Nodup := by
  rw [List.nodup_iff_pairwise_ne, List.pairwise_map]
  refine (List.Pairwise.and_mem.mp List.pairwise_lt_range).imp fun {a b} hh e => no ⟨a, b, hh.2.2, ?_, e⟩
  have := List.mem_range.mp hh.2.1
  omega
 have := fewN n _ nd fun x hx => by
  obtain ⟨i, hi, rfl⟩ := List.mem_map.mp hx
  exact h i (by have := List.mem_range.mp hi; omega)
 rw [List.length_map, List.length_range] at this
 omega
section
variable {m n : Nat} {tl tu : Nat -> Nat} {ta : Nat -> Int} {s : Nat} {d : Nat -> Option Int} {u : Nat -> Option Nat} {ts : Nat -> Nat} {l : Nat}
theorem BI.next (b : BI m tl tu ta s n 0 d u ts) (h : 0 < ts v) : ∃ q, q < m /\ tl q = v /\ tu q = (u v).getD 0 := by
 obtain ⟨q, hq, e, eu, _⟩ := b.un v h
 exact ⟨q, hq, e, by rw [eu]; rfl⟩
theorem BI.live (b : BI m tl tu ta s (n + 1) 0 d u ts) (h : n * m < ts l) : ∀ i, i <= n -> n * m + 1 <= ts (back u l i) + i * (m - 1)
 | 0, _ => by show n * m + 1 <= ts l + 0 * (m - 1); omega
 | i + 1, hi => by
  have ih := BI.live b h i (by omega)
  have m1 : 1 <= m := by
   obtain ⟨q, hq, _⟩ := b.un l (by omega)
   omega
  obtain ⟨m', rfl⟩ : ∃ m', m = m' + 1 := ⟨m - 1, by omega⟩
  obtain ⟨n', rfl⟩ : ∃ n', n = n' + 1 := ⟨n - 1, by omega⟩
  rw [Nat.add_sub_cancel] at ih ⊢
  have le : i * m' <= n' * m' := Nat.mul_le_mul_right _ (by omega)
  have e1 : (n' + 1) * (m' + 1) = n' * m' + m' + n' + 1 := by rw [Nat.add_mul, Nat.mul_add]; omega
  obtain ⟨q, hq, e, eu, x, y, _, _, _, _, h5⟩ := b.un (back u l i) (by omega)
  have h6 := h5 (by omega)
  have e2 : back u l (i + 1) = tu q := by show (u (back u l i)).getD 0 = _; rw [eu]; rfl
  have e3 : (i + 1) * m' = i * m' + m' := Nat.succ_mul i m'
  rw [e2]
  omega
theorem BI.all (b : BI m tl tu ta s (n + 1) 0 d u ts) (h : n * m < ts l) (hl : ∀ q, q < m -> tl q < n + 1) (hu : ∀ q, q < m -> tu q < n + 1) :
  (∀ t, 0 < ts (back u l t)) /\ ∃ p, 1 <= p /\ p <= n + 1 /\ back u l (n + 1 + p) = back u l (n + 1) := by
 have pos : ∀ i, i <= n -> 0 < ts (back u l i) := fun i hi => by
  have := b.live h i hi
  have m1 : 1 <= m := by
   obtain ⟨q, hq, _⟩ := b.un l (by omega)
   omega
  obtain ⟨m', rfl⟩ : ∃ m', m = m' + 1 := ⟨m - 1, by omega⟩
  rw [Nat.add_sub_cancel] at this
  have le : i * m' <= n * m' := Nat.mul_le_mul_right _ hi
  rw [Nat.mul_add] at this
  omega
 have lt : ∀ i, i <= n + 1 -> back u l i < n + 1 := fun i hi => by
  cases i with
  | zero =>
   obtain ⟨q, hq, e, _⟩ := b.next (pos 0 (by omega))
   have := hl q hq
   rw [e] at this; exact this
  | succ i =>
   obtain ⟨q, hq, _, e⟩ := b.next (pos i (by omega))
   have := hu q hq
   rw [e] at this; exact this
 obtain ⟨i, j, hij, hj, e⟩ := pigeon lt
 have per : ∀ t, back u l (i + t) = back u l (j + t) := fun t => by rw [<- zbv, <- zbv, e]
 refine ⟨fun t => ?_, j - i, by omega, by omega, ?_⟩
 ·induction t using Nat.strongRecOn with
  | _ t ih =>
   by_cases z : t < j
   ·exact pos t (by omega)
   ·have := per (t - j)
    rw [show j + (t - j) = t by omega] at this
    rw [<- this]
    exact ih _ (by omega)
 ·have := per (n + 1 - i)
  rw [show i + (n + 1 - i) = n + 1 by omega, show j + (n + 1 - i) = n + 1 + (j - i) by omega] at this
  exact this.symm
theorem least_p {P : Nat -> Prop} : ∀ p, P p -> ∃ c, P c /\ c <= p /\ ∀ i, i < c -> ¬ P i := by
 intro p
 induction p using Nat.strongRecOn with
 | _ p ih =>
  intro h
  by_cases z : ∃ i, i < p /\ P i
  ·obtain ⟨i, hi, hP⟩ := z
   obtain ⟨c, h1, h2, h3⟩ := ih i hi hP
   exact ⟨c, h1, by omega, h3⟩
  ·exact ⟨p, h, Nat.le_refl p, fun i hi hP => z ⟨i, hi, hP⟩⟩
structure Round (m : Nat) (tl tu : Nat -> Nat) (ta : Nat -> Int) (u : Nat -> Option Nat) (a c : Nat) (qs : Nat -> Nat) : Prop where
 pos : 1 <= c
 home : back u a c = a
 first : ∀ i, 1 <= i -> i < c -> back u a i ≠ a
 tie : ∀ i, i < c -> qs i < m /\ tl (qs i) = back u a i /\ tu (qs i) = back u a (i + 1)
 neg : sumR c (fun i => ta (qs i)) < 0
theorem Round.apart (r : Round m tl tu ta u a c qs) (hij : i < j) (hj : j < c) : back u a i ≠ back u a j := fun e => by
 have h1 := zbv u a i (c - j)
 have h2 := zbv u a j (c - j)
 rw [show j + (c - j) = c by omega, r.home] at h2
 rw [e, h2] at h1
 exact r.first (i + (c - j)) (by omega) (by omega) h1.symm
theorem BI.round (b : BI m tl tu ta s (n + 1) 0 d u ts) (h : n * m < ts l) (hl : ∀ q, q < m -> tl q < n + 1) (hu : ∀ q, q < m -> tu q < n + 1) (ne : ∀ q, q < m -> tl q ≠ tu q) :
  ∃ c qs, c <= n + 1 /\ Round m tl tu ta u (back u l (n + 1)) c qs := by
 obtain ⟨pos, p, p1, p2, ep⟩ := b.all h hl hu
 obtain ⟨c, ⟨c1, ec⟩, cp, cm⟩ := least_p (P := fun c => 1 <= c /\ back u l (n + 1 + c) = back u l (n + 1)) p ⟨p1, ep⟩
 have pos' : ∀ i, 0 < ts (back u (back u l (n + 1)) i) := fun i => by rw [zbv]; exact pos _
 have un : ∀ i, ∃ q, q < m /\ tl q = back u (back u l (n + 1)) i /\ tu q = back u (back u l (n + 1)) (i + 1) /\ ∃ x y, d (back u (back u l (n + 1)) i) = some x /\ d (back u (back u l (n + 1)) (i + 1)) = some y /\ y + ta q <= x /\ (ts (back u (back u l (n + 1)) i) < ts (back u (back u l (n + 1)) (i + 1)) -> y + ta q < x) := fun i => by
  obtain ⟨q, hq, e, eu, x, y, h1, h2, h3, h4, _⟩ := b.un _ (pos' i)
  have e2 : back u (back u l (n + 1)) (i + 1) = tu q := by show (u (back u (back u l (n + 1)) i)).getD 0 = _; rw [eu]; rfl
  rw [e2]
  exact ⟨q, hq, e, rfl, x, y, h1, h2, h3, h4⟩
 let a := back u l (n + 1)
 let qs : Nat -> Nat := fun i => (un i).choose
 have sp := fun i => (un i).choose_spec
 have home : back u a c = a := by show back u (back u l (n + 1)) c = _; rw [zbv]; exact ec
 refine ⟨c, qs, by omega, c1, home, fun i i1 ic e => cm i ic ⟨i1, by rw [<- zbv]; exact e⟩, fun i _ => ⟨(sp i).1, (sp i).2.1, (sp i).2.2.1⟩, ?_⟩
 let x : Nat -> Int := fun i => (d (back u a i)).getD 0
 have step : ∀ i, x (i + 1) + ta (qs i) <= x i /\ (ts (back u a i) < ts (back u a (i + 1)) -> x (i + 1) + ta (qs i) < x i) := fun i => by
  obtain ⟨_, _, _, X, Y, h1, h2, h3, h4⟩ := sp i
  have e1 : x i = X := by show (d (back u (back u l (n + 1)) i)).getD 0 = X; rw [h1]; rfl
  have e2 : x (i + 1) = Y := by show (d (back u (back u l (n + 1)) (i + 1))).getD 0 = Y; rw [h2]; rfl
  rw [e1, e2]
  exact ⟨h3, h4⟩
 obtain ⟨i0, hi0, lt⟩ : ∃ i, i < c /\ ts (back u a i) < ts (back u a (i + 1)) := by
  apply Classical.byContradiction
  intro no
  have dec : ∀ i, i <= c -> ts (back u a i) <= ts a := by
   intro i
   induction i with
   | zero => intro _; exact Nat.le_refl _
   | succ i ih =>
    intro hi
    have := ih (by omega)
    have : ¬ ts (back u a i) < ts (back u a (i + 1)) := fun z => no ⟨i, by omega, z⟩
    omega
  have inc : ∀ i, i <= c -> ts a <= ts (back u a (c - i)) := by
   intro i
   induction i with
   | zero => intro _; rw [Nat.sub_zero, home]; exact Nat.le_refl _
   | succ i ih =>
    intro hi
    have h1 := ih (by omega)
    have h2 : ¬ ts (back u a (c - (i + 1))) < ts (back u a (c - (i + 1) + 1)) := fun z => no ⟨_, by omega, z⟩
    rw [show c - (i + 1) + 1 = c - i by omega] at h2
    omega
  have h1 := inc (c - 1) (by omega)
  rw [show c - (c - 1) = 1 by omega] at h1
  have h2 := dec 1 c1
  have e := b.inj (back u a 1) a (pos' 1) (by omega)
  obtain ⟨q1, q2, q3, _⟩ := sp 0
  exact ne (qs 0) q1 (by rw [show tl (qs 0) = a from q2, show tu (qs 0) = back u a 1 from q3, e])
 have tele : ∀ i, sumR i (fun j => ta (qs j)) <= x 0 - x i /\ (i0 < i -> sumR i (fun j => ta (qs j)) < x 0 - x i) := by
  intro i
  induction i with
  | zero => exact ⟨by show (0 : Int) <= _; omega, fun z => by omega⟩
  | succ i ih =>
   have st := step i
   have e : sumR (i + 1) (fun j => ta (qs j)) = sumR i (fun j => ta (qs j)) + ta (qs i) := rfl
   rw [e]
   refine ⟨by omega, fun z => ?_⟩
   by_cases g : i0 < i
   ·have := ih.2 g; omega
   ·have : i = i0 := by omega
    subst this
    have := st.2 lt
    omega
 have := (tele c).2 hi0
 have e0 : x c = x 0 := by show (d (back u a c)).getD 0 = (d a).getD 0; rw [home]
 omega
end
def dO : Option Int -> D
 | none => .non
 | some x => .int x
def uO : Option Nat -> D
 | none => .non
 | some v => .int (v : Nat)
theorem dO_n : dO none = .non := rfl
theorem dO_s (x : Int) : dO (some x) = .int x := rfl
def tieL (m : Nat) (tl tu : Nat -> Nat) (ta : Nat -> Int) : List D := wL m fun q => .tup [.int (tl q : Nat), .int (tu q : Nat), .int (ta q)]
theorem zl2 (f : Nat -> D) (x : D) (h : i < n) : (wL n f).set i x = wL n (upf f i x) := by
 apply List.ext_getElem?
 intro j
 rw [List.getElem?_set]
 by_cases e : i = j
 ·subst e
  rw [if_pos rfl, if_pos (by rw [za8]; exact h), zap _ h, zcw]
 ·rw [if_neg e]
  by_cases hj : j < n
  ·rw [zap _ hj, zap _ hj, za7 _ _ (Ne.symm e)]
  ·rw [List.getElem?_eq_none (by rw [za8]; omega), List.getElem?_eq_none (by rw [za8]; omega)]
theorem dO_put (d : Nat -> Option Int) (i : Nat) (x : Int) : upf (fun v => dO (d v)) i (.int x) = fun v => dO (upf d i (some x) v) := by
 funext v
 unfold upf
 split <;> rfl
theorem uO_put (d : Nat -> Option Nat) (i x : Nat) : upf (fun v => uO (d v)) i (.int (x : Nat)) = fun v => uO (upf d i (some x) v) := by
 funext v
 unfold upf
 split <;> rfl
theorem rep_w' (n : Nat) (x : D) : (List.replicate n [x]).flatten = wL n fun _ => x := by
 induction n with
 | zero => rfl
 | succ n ih => rw [List.replicate_succ', List.flatten_append, ih, zaZ]; rfl
section
variable {m n : Nat} {tl tu : Nat -> Nat} {ta : Nat -> Int} {s : Nat}
def Shifts (m n : Nat) (tl tu : Nat -> Nat) (ta : Nat -> Int) (s : Nat) (d : Nat -> Option Int) (u : Nat -> Option Nat) (f : Option Nat) : Prop :=
 ∃ ts, BI m tl tu ta s n 0 d u ts /\ ((f = none /\ ∀ v, ts v <= (n - 1) * m) \/ ∃ l, f = some l /\ (n - 1) * m < ts l)
theorem zkT (n1 : 1 <= n) (n9 : n <= 1000) (hs : s < n) (hl : ∀ q, q < m -> tl q < n) (hu : ∀ q, q < m -> tu q < n) (ne : ∀ q, q < m -> tl q ≠ tu q) :
  Ok (zaR [.lst (tieL m tl tu ta), .int n, .int s]) fun x => ∃ d u f, Shifts m n tl tu ta s d u f /\ x = .val (.tup [.lst (wL n fun v => dO (d v)), .lst (wL n fun v => uO (u v)), uO f]) := by
 have e0 : upf (fun _ => D.non) s (.int 0) = fun v => dO ((fun v => if v = s then some 0 else none) v) := by
  funext v
  unfold upf
  (try dsimp only)
  split <;> rfl
 simp! only [↓zaR, ↓zbL, rep_w', ↓zcc]
 rw [zl2 _ _ hs, e0]
 have sm : zeH (n : Int) = true := za4 (by omega) (by omega)
 refine ⟨⟨sm, by omega⟩, hs, ⟨sm, by omega⟩, sm, zbe (fun t ρ => ∃ (d : Nat -> Option Int) (u : Nat -> Option Nat) (f : Option Nat) (ts : Nat -> Nat) (s6 s7 s8 s9 : Sl), BI m tl tu ta s t 0 d u ts /\ ((f = none /\ ∀ v, ts v <= (t - 1) * m) \/ ∃ l, f = some l /\ (t - 1) * m < ts l) /\ ρ = [.val (.lst (tieL m tl tu ta)), .val (.int n), .val (.int s), .own (wL n fun v => dO (d v)), .own (wL n fun v => uO (u v)), .val (uO f), s6, s7, s8, s9]) ⟨_, fun _ => none, none, fun _ => 0, _, _, _, _, BI.start, .inl ⟨rfl, fun v => Nat.zero_le _⟩, rfl⟩ ?_ ?_⟩
 ·rintro t _ ht ⟨d, u, f, ts, s6, s7, s8, s9, b, -, rfl⟩
  simp! only [↓zb6, ↓zca, tieL]
  refine zbe (fun j ρ => ∃ (d : Nat -> Option Int) (u : Nat -> Option Nat) (f : Option Nat) (ts : Nat -> Nat) (s7 s8 s9 : Sl), BI m tl tu ta s t j d u ts /\ ((f = none /\ ∀ v, ts v <= t * m) \/ ∃ l, f = some l /\ t * m < ts l) /\ ρ = [.val (.lst (tieL m tl tu ta)), .val (.int n), .val (.int s), .own (wL n fun v => dO (d v)), .own (wL n fun v => uO (u v)), .val (uO f), .val (.int t), s7, s8, s9]) ⟨d, u, none, ts, _, _, _, b, .inl ⟨rfl, fun v => by have := b.le v; omega⟩, rfl⟩ ?_ ?_
  ·rintro j _ hj ⟨d, u, f, ts, s7, s8, s9, b, hf, rfl⟩
   have a1 := hl j hj
   have a2 := hu j hj
   simp! only [↓zch, zap _ a1, zap _ a2]
   cases hy : d (tu j) with
   | none =>
    have k : Kept tl tu ta d j := fun y e => by rw [hy] at e; cases e
    simp! only [dO_n]
    exact ⟨d, u, f, ts, _, _, _, b.keep k, hf, rfl⟩
   | some y =>
    have chg : (∀ x, d (tl j) = some x -> y + ta j < x) -> ∃ (d' : Nat -> Option Int) (u' : Nat -> Option Nat) (f' : Option Nat) (ts' : Nat -> Nat) (s7 s8 s9 : Sl), BI m tl tu ta s t (j + 1) d' u' ts' /\ ((f' = none /\ ∀ v, ts' v <= t * m) \/ ∃ l, f' = some l /\ t * m < ts' l) /\ [Sl.val (.lst (wL m fun q => .tup [.int (tl q : Nat), .int (tu q : Nat), .int (ta q)])), .val (.int n), .val (.int s), .own ((wL n fun v => dO (d v)).set (tl j) (.int (y + ta j))), .own ((wL n fun v => uO (u v)).set (tl j) (.int (tu j : Nat))), .val (.int (tl j : Nat)), .val (.int t), .val (.int (tl j : Nat)), .val (.int (tu j : Nat)), .val (.int (ta j))] = [.val (.lst (tieL m tl tu ta)), .val (.int n), .val (.int s), .own (wL n fun v => dO (d' v)), .own (wL n fun v => uO (u' v)), .val (uO f'), .val (.int t), s7, s8, s9] := fun hx => by
     rw [zl2 _ _ a1, zl2 _ _ a1, dO_put, uO_put]
     exact ⟨_, _, some (tl j), _, .val (.int (tl j : Nat)), .val (.int (tu j : Nat)), .val (.int (ta j)), b.change hj (ne j hj) hy hx, .inr ⟨tl j, rfl, by rw [zcw]; omega⟩, rfl⟩
    cases hx : d (tl j) with
    | none =>
     simp! only [dO_n, dO_s, zap _ a2, hy, a1, if_true]
     exact chg fun x e => by rw [hx] at e; cases e
    | some x =>
     simp! only [dO_s, zap _ a2, zap _ a1, hy, hx, a1, if_true]
     exact ⟨fun z => chg fun x' e => by rw [hx] at e; cases e; exact z, fun z => ⟨d, u, f, ts, _, _, _, b.keep fun y' e => by rw [hy] at e; cases e; exact ⟨x, hx, z⟩, hf, rfl⟩⟩
  ·rintro _ ⟨d, u, f, ts, s7, s8, s9, b, hf, rfl⟩
   simp! only []
   exact ⟨d, u, f, ts, _, _, _, _, b.turn, by simpa using hf, rfl⟩
 ·rintro _ ⟨d, u, f, ts, s6, s7, s8, s9, b, hf, rfl⟩
  simp! only []
  cases f with
  | none => simp! only [uO]; exact ⟨d, u, none, ⟨ts, b, hf⟩, rfl⟩
  | some l => simp! only [uO]; exact ⟨d, u, some l, ⟨ts, b, hf⟩, rfl⟩
end
theorem zl6 (i : Nat) (f : Nat -> D) : atI (wL (i + 1) f) (-1) = some (f i) := by
 unfold atI ixN
 rw [if_neg (by omega), za8, if_pos (by omega)]
 show (wL (i + 1) f)[(((i + 1 : Nat) : Int) + -1).toNat]? = _
 rw [show (((i + 1 : Nat) : Int) + -1).toNat = i by omega, zap _ (by omega)]
section
variable {m n : Nat} {tl tu : Nat -> Nat} {ta : Nat -> Int} {s : Nat} {d : Nat -> Option Int} {u : Nat -> Option Nat} {ts : Nat -> Nat} {l : Nat}
theorem loop_ok (b : BI m tl tu ta s (n + 1) 0 d u ts) (h : n * m < ts l) (n9 : n <= 300) (hl : ∀ q, q < m -> tl q < n + 1) (hu : ∀ q, q < m -> tu q < n + 1) (ne : ∀ q, q < m -> tl q ≠ tu q) :
  Ok (zbg [.lst (wL (n + 1) fun v => uO (u v)), .int l]) fun x => ∃ c qs, c <= n + 1 /\ Round m tl tu ta u (back u l (n + 1)) c qs /\ x = .own (wI c fun i => ((back u (back u l (n + 1)) i : Nat) : Int)) := by
 obtain ⟨c, qs, cn, R⟩ := b.round h hl hu ne
 obtain ⟨pos, -⟩ := b.all h hl hu
 have nx : ∀ t, back u l t < n + 1 /\ uO (u (back u l t)) = .int ((back u l (t + 1) : Nat) : Int) := fun t => by
  obtain ⟨q, hq, e, eu, _⟩ := b.un _ (pos t)
  refine ⟨by rw [<- e]; exact hl q hq, ?_⟩
  show uO (u (back u l t)) = .int (((u (back u l t)).getD 0 : Nat) : Int)
  rw [eu]
  rfl
 have sm : zeH ((n + 1 : Nat) : Int) = true := za4 (by omega) (by omega)
 simp! only [↓zbg, ↓zc1, ↓zdf]
 refine ⟨sm, zbe (fun t ρ => ∃ s3, ρ = [.val (.lst (wL (n + 1) fun v => uO (u v))), .val (.int l), .val (.int (back u l t : Nat)), s3, .emp]) ⟨_, rfl⟩ ?_ ?_⟩
 ·rintro t _ ht ⟨s3, rfl⟩
  simp! only [↓zdb, zap _ (nx t).1, (nx t).2]
  exact ⟨_, rfl⟩
 ·rintro _ ⟨s3, rfl⟩
  simp! only [↓zdc]
  have nx' : ∀ i, back u (back u l (n + 1)) i < n + 1 /\ uO (u (back u (back u l (n + 1)) i)) = .int ((back u (back u l (n + 1)) (i + 1) : Nat) : Int) := fun i => by
   rw [zbv, zbv]
   exact nx _
  generalize back u l (n + 1) = a at R nx'
  have last : ∀ i, atI (wI (i + 1) fun i => ((back u a i : Nat) : Int)) (-1) = some (.int (back u a i : Nat)) := fun i => by
   rw [zl6 i]
  refine zjj (fun k ρ => ∃ i, i < c /\ k = c - 1 - i /\ ρ = [.val (.lst (wL (n + 1) fun v => uO (u v))), .val (.int l), .val (.int (a : Nat)), s3, .own (wI (i + 1) fun i => ((back u a i : Nat) : Int))]) ?_ 400 (c - 1) _ (by omega) ⟨0, R.pos, by omega, rfl⟩
  rintro k _ ⟨i, hi, rfl, rfl⟩
  simp! only [↓zc8, last, zap _ (nx' i).1, (nx' i).2]
  refine ⟨fun z => ⟨c - 1 - (i + 1), ?_, ?_⟩, fun z => ⟨c, qs, cn, R, ?_⟩⟩
  ·have : i + 1 ≠ c := fun e => z (by rw [e, R.home])
   omega
  ·have : i + 1 ≠ c := fun e => z (by rw [e, R.home])
   have ew : (wI (i + 1) fun i => ((back u a i : Nat) : Int)) ++ [D.int (back u a (i + 1) : Nat)] = wI (i + 1 + 1) fun i => ((back u a i : Nat) : Int) := (zaZ _ _).symm
   simp! only [↓zde, last, zap _ (nx' i).1, (nx' i).2, ew]
   exact ⟨by omega, i + 1, by omega, rfl, rfl⟩
  ·have : i + 1 = c := by
    by_cases e : i + 1 = c
    ·exact e
    ·exact absurd (by omega) (R.first (i + 1) (by omega) (by omega))
   rw [this]
end
abbrev tT (R C : Nat) (f : Nat -> Nat -> Int) : D := .tup (wL R fun r => .tup (wI C (f r)))
abbrev tL (R C : Nat) (f : Nat -> Nat -> Int) : D := .lst (wL R fun r => .lst (wI C (f r)))
def four (f : Nat -> Nat -> Int) (r c : Nat) : Int := f r c + f r (c + 1) + f (r + 1) c + f (r + 1) (c + 1)
theorem i4 (a b c d : Int) : zba [.int a, .int b, .int c, .int d] = some [a, b, c, d] := rfl
section
variable {R C : Nat} {f : Nat -> Nat -> Int}
theorem sums_ok (d : D) (hd : d = tT (R + 1) (C + 1) f \/ d = tL (R + 1) (C + 1) f) (hR : R <= 100) (hC : C <= 100) : Ok (zaO [d]) fun x => x = .val (tT R C (four f)) := by
 have e1 : (((R + 1 : Nat) : Int) - 1).toNat = R := by omega
 have e2 : (((C + 1 : Nat) : Int) - 1).toNat = C := by omega
 rcases hd with rfl | rfl <;>
 ·simp! only [↓zaO, ↓zbH, ↓zcd, e1]
  refine ⟨za4 (by omega) (by omega), zbe (fun i ρ => ∃ s2 s3 s4 s5, ρ = [.val _, .own (wL i fun r => .tup (wI C (four f r))), s2, s3, s4, s5]) ⟨_, _, _, _, rfl⟩ ?_ ?_⟩
  ·rintro i _ hi ⟨s2, s3, s4, s5, rfl⟩
   simp! only [↓zcb, ↓zce, zap _ (show 0 < R + 1 by omega), e2]
   refine ⟨za4 (by omega) (by omega), zbe (fun j ρ => ∃ s4 s5, ρ = [.val _, .own (wL i fun r => .tup (wI C (four f r))), .val (.int i), .own (wI j (four f i)), s4, s5]) ⟨_, _, rfl⟩ ?_ ?_⟩
   ·rintro j _ hj ⟨s4, s5, rfl⟩
    have a1 : (i : Int) + 1 = ((i + 1 : Nat) : Int) := by omega
    have a2 : (j : Int) + 1 = ((j + 1 : Nat) : Int) := by omega
    simp! only [↓zck, a1, a2, zap _ (show i < R + 1 by omega), zap _ (show i + 1 < R + 1 by omega), zap _ (show j < C + 1 by omega), zap _ (show j + 1 < C + 1 by omega)]
    simp! only [i4]
    exact ⟨by omega, _, _, by rw [show wI (j + 1) (four f i) = _ from zaZ _ _, show [f i j, f i (j + 1), f (i + 1) j, f (i + 1) (j + 1)].sum = four f i j by simp [four]; omega]⟩
   ·rintro _ ⟨s4, s5, rfl⟩
    simp! only []
    exact ⟨by omega, _, _, _, _, by rw [zaZ]⟩
  ·rintro _ ⟨s2, s3, s4, s5, rfl⟩
   simp! only []
def rowF (s a : Nat -> Int) : Nat -> Int
 | 0 => 0
 | c + 1 => s c - a c - a (c + 1) - rowF s a c
def pln (S : Nat -> Nat -> Int) : Nat -> Nat -> Int
 | 0 => fun _ => 0
 | r + 1 => rowF (S r) (pln S r)
theorem zjv (S : Nat -> Nat -> Int) (r c : Nat) : four (pln S) r c = S r c := by
 show pln S r c + pln S r (c + 1) + rowF (S r) (pln S r) c + (S r c - pln S r c - pln S r (c + 1) - rowF (S r) (pln S r) c) = S r c
 omega
theorem zd6 (hn : n <= 1000) (hm : m <= 1000) : Ok (zaF [tL n m f]) fun x => x = .val (tT n m f) := by
 simp! only [↓zaF, ↓zdt, ↓zcY]
 refine ⟨by omega, zaN (fun ρ => ∃ s, ρ = [s]) (fun r => .tup (wI m (f r))) ⟨_, rfl⟩ ?_ ?_⟩
 ·rintro i _ hi ⟨s, rfl⟩
  simp! only [↓zcZ]
  exact ⟨_, rfl⟩
 ·rintro _ ⟨s, rfl⟩
  simp! only []
abbrev zbC (R C : Nat) (S L G : Nat -> Nat -> Int) : D := .tup [tT R C S, tT (R + 1) (C + 1) L, tT (R + 1) (C + 1) G]
theorem zhA (n : Nat) (x : D) : (List.replicate n [x]).flatten = wL n fun _ => x := by
 induction n with
 | zero => rfl
 | succ n ih => rw [List.replicate_succ', List.flatten_append, ih, zaZ]; simp
variable {S L G : Nat -> Nat -> Int}
theorem zlb (g : Nat -> D) : atI (wL (n + 1) g) (-1) = some (g n) := atI_w1 g
theorem zge (hR : R <= 100) (hC : C <= 100) : Ok (zaw [zbC R C S L G]) fun x => x = .val (tT (R + 1) (C + 1) (pln S)) := by
 simp! only [↓zaw, ↓zcv, zap _ (show 0 < R + 1 by omega)]
 have e0 : ([D.int 0] :: List.replicate C [D.int 0]).flatten = wI (C + 1) (pln S 0) := by rw [<- List.replicate_succ]; exact zhA _ _
 simp! only [↓zcG]
 refine ⟨⟨⟨by omega, by omega⟩, by omega⟩, zbe (fun i ρ => ∃ s2 s3 s4 s5 s6, ρ = [.val (zbC R C S L G), .own (wL (i + 1) fun r => .lst (wI (C + 1) (pln S r))), s2, s3, s4, s5, s6]) ⟨.emp, .emp, .emp, .emp, .emp, by rw [e0]; rfl⟩ ?_ ?_⟩
 ·rintro i _ hi ⟨s2, s3, s4, s5, s6, rfl⟩
  simp! only [↓zcL, zlb, ↓zcK, zgM]
  refine zbe (fun j ρ => ∃ s5 s6, ρ = [.val (zbC R C S L G), .own (wL (i + 1) fun r => .lst (wI (C + 1) (pln S r))), .val (.tup (wI C (S i))), .val (.lst (wI (C + 1) (pln S i))), .own (wI (j + 1) (pln S (i + 1))), s5, s6]) ⟨_, _, rfl⟩ ?_ ?_
  ·rintro j _ hj ⟨s5, s6, rfl⟩
   have a2 : (j : Int) + 1 = ((j + 1 : Nat) : Int) := by omega
   simp! only [↓zcQ, a2, zap _ (show j < C + 1 by omega), zap _ (show j + 1 < C + 1 by omega), zap _ (show j < j + 1 by omega)]
   exact ⟨by omega, _, _, by rw [show wI (j + 1 + 1) (pln S (i + 1)) = _ from zaZ _ _]; rfl⟩
  ·rintro _ ⟨s5, s6, rfl⟩
   simp! only []
   exact ⟨by omega, _, _, _, _, _, by rw [zaZ (i + 1)]⟩
 ·rintro _ ⟨s2, s3, s4, s5, s6, rfl⟩
  simp! only []
  refine (zd6 (by omega) (by omega)).mono ?_
  rintro _ rfl
  simp! only []
end
def sg (r c : Nat) : Int := if (r + c) % 2 = 0 then 1 else -1
theorem zhM (r c : Nat) : Ok (zaG [.int (r : Nat), .int (c : Nat)]) fun x => x = .val (.int (sg r c)) := by
 have e : ((r : Int) + (c : Int)) % 2 = (((r + c) % 2 : Nat) : Int) := by omega
 simp! only [↓zaG, ↓zeU, e]
 unfold sg
 refine ⟨fun h => by rw [if_pos (by omega)], fun h => by rw [if_neg (by omega)]⟩
section
variable {R C : Nat} {S L G f : Nat -> Nat -> Int} {h : Nat -> Int}
def shf (R : Nat) (f : Nat -> Nat -> Int) (h : Nat -> Int) (r c : Nat) : Int := f r c + sg r c * (h r - h (R + c))
theorem mul_sg (x : Int) : zhW (sg r c) x = true := zcu (by unfold sg; split <;> decide)
theorem shrow_ok {r : Nat} (a : Int) (b : Nat -> Int) (g : Nat -> Int) (hC : C <= 1000) : Ok (zbA [.tup (wI C g), .int (r : Nat), .int a, .lst (wI C b)]) fun x => x = .val (.tup (wI C fun c => g c + sg r c * (a - b c))) := by
 simp! only [↓zbA, ↓zdo, ↓zdH, zgM]
 refine ⟨by omega, zaN (fun ρ => ∃ s t, ρ = [.val (.int (r : Nat)), .val (.int a), .val (.lst (wI C b)), s, t]) (fun c => .int (g c + sg r c * (a - b c))) ⟨_, _, rfl⟩ ?_ ?_⟩
 ·rintro i _ hi ⟨s, t, rfl⟩
  simp! only [↓zdK]
  refine (zhM r i).mono ?_
  rintro _ rfl
  simp! only [zap _ hi]
  exact ⟨mul_sg _, _, _, rfl⟩
 ·rintro _ ⟨s, t, rfl⟩
  simp! only []
theorem shift_ok (hR : R <= 100) (hC : C <= 100) : Ok (zaS [tT R C f, .lst (wI (R + C) h)]) fun x => x = .val (tT R C (shf R f h)) := by
 have ec : cutD (wI (R + C) h) (some (R : Int)) none = wI C fun c => h (R + c) := by
  rw [show cutD (wI (R + C) h) (some (R : Int)) none = (wI (R + C) h).drop R from zhY _ R]
  apply List.ext_getElem?
  intro i
  rw [List.getElem?_drop]
  by_cases hi : i < C
  ·rw [zap _ hi, zap _ (show R + i < R + C by omega)]
  ·rw [List.getElem?_eq_none (by rw [za8]; omega), List.getElem?_eq_none (by rw [za8]; omega)]
 simp! only [↓zaS, ↓zbJ, ↓zcf, zgM, ec]
 refine ⟨by omega, zaN (fun ρ => ∃ s t, ρ = [.val (.lst (wI (R + C) h)), .val (.lst (wI C fun c => h (R + c))), s, t]) (fun r => .tup (wI C (shf R f h r))) ⟨_, _, rfl⟩ ?_ ?_⟩
 ·rintro i _ hi ⟨s, t, rfl⟩
  simp! only [↓zci, zap _ (show i < R + C by omega)]
  refine (shrow_ok _ _ _ (by omega)).mono ?_
  rintro _ rfl
  simp! only []
  exact ⟨rfl, _, _, rfl⟩
 ·rintro _ ⟨s, t, rfl⟩
  simp! only []
theorem zjt (r c : Nat) : four (shf R f h) r c = four f r c := by
 have s1 : sg r (c + 1) = - sg r c := by unfold sg; split <;> split <;> omega
 have s2 : sg (r + 1) c = - sg r c := by unfold sg; split <;> split <;> omega
 have s3 : sg (r + 1) (c + 1) = sg r c := by unfold sg; split <;> split <;> omega
 unfold four shf
 rw [s1, s2, s3]
 rw [show R + (c + 1) = R + c + 1 by omega]
 generalize sg r c = s
 simp only [Int.mul_sub, Int.neg_mul]
 omega
end
theorem wL_add (a b : Nat) (f : Nat -> D) : wL (a + b) f = wL a f ++ wL b fun i => f (a + i) := by
 induction b with
 | zero => simp [wL]
 | succ b ih => rw [<- Nat.add_assoc, zaZ, ih, zaZ, List.append_assoc]
def ftl (a b q : Nat) : Nat := if q % 2 = 0 then q / 2 / b else a + q / 2 % b
def ftu (a b q : Nat) : Nat := if q % 2 = 0 then a + q / 2 % b else q / 2 / b
def up (P G : Nat -> Nat -> Int) (r c : Nat) : Int := G r c - P r c
def dn (P L : Nat -> Nat -> Int) (r c : Nat) : Int := P r c - L r c
def fta (b : Nat) (P L G : Nat -> Nat -> Int) (q : Nat) : Int := if q % 2 = 0 then (if sg (q / 2 / b) (q / 2 % b) = 1 then up P G (q / 2 / b) (q / 2 % b) else dn P L (q / 2 / b) (q / 2 % b)) else (if sg (q / 2 / b) (q / 2 % b) = 1 then dn P L (q / 2 / b) (q / 2 % b) else up P G (q / 2 / b) (q / 2 % b))
section
variable {R C : Nat} {S L G f : Nat -> Nat -> Int}
theorem dm (h : c < b) : (i * b + c) / b = i /\ (i * b + c) % b = c := by
 have b0 : 0 < b := by omega
 constructor
 ·rw [Nat.mul_comm, Nat.mul_add_div b0, Nat.div_eq_of_lt h, Nat.add_zero]
 ·rw [Nat.mul_comm, Nat.mul_add_mod, Nat.mod_eq_of_lt h]
theorem cells_ok (hR : R <= 50) (hC : C <= 50) : Ok (zc6 [tT (R + 1) (C + 1) f]) fun x => x = .own (wL ((R + 1) * (C + 1)) fun k => .tup [.int ((k / (C + 1) : Nat) : Int), .int ((k % (C + 1) : Nat) : Int)]) := by
 simp! only [↓zc6, ↓zfI, ↓zft]
 refine ⟨za4 (by omega) (by omega), zbe (fun i ρ => ∃ s2, ρ = [.val (tT (R + 1) (C + 1) f), .own (wL (i * (C + 1)) fun k => .tup [.int ((k / (C + 1) : Nat) : Int), .int ((k % (C + 1) : Nat) : Int)]), s2]) ⟨_, by rw [Nat.zero_mul]; rfl⟩ ?_ ?_⟩
 ·rintro i _ hi ⟨s2, rfl⟩
  simp! only [↓zfo, ↓zfa, zap _ (show 0 < R + 1 by omega)]
  refine ⟨za4 (by omega) (by omega), by omega, zaN (fun ρ => ∃ z, ρ = [.val (.int (i : Nat)), z]) (fun c => .tup [.int (i : Nat), .int (c : Nat)]) ⟨_, rfl⟩ ?_ ?_⟩
  ·rintro c _ hc ⟨z, rfl⟩
   simp! only [↓zfB]
   exact ⟨_, rfl⟩
  rintro _ ⟨z, rfl⟩
  simp! only []
  have bd : i * (C + 1) <= 51 * 51 := Nat.mul_le_mul (by omega) (by omega)
  refine ⟨by omega, .val (.int (i : Nat)), ?_⟩
  have e : (wL ((i + 1) * (C + 1)) fun k => D.tup [.int ((k / (C + 1) : Nat) : Int), .int ((k % (C + 1) : Nat) : Int)]) = (wL (i * (C + 1)) fun k => D.tup [.int ((k / (C + 1) : Nat) : Int), .int ((k % (C + 1) : Nat) : Int)]) ++ wL (C + 1) fun c => .tup [.int (i : Nat), .int (c : Nat)] := by
   rw [show (i + 1) * (C + 1) = i * (C + 1) + (C + 1) from Nat.succ_mul i (C + 1), wL_add (i * (C + 1)) (C + 1)]
   congr 1
   exact zcp fun c hc => by (try dsimp only); rw [(dm hc).1, (dm hc).2]
  rw [e]
 ·rintro _ ⟨s2, rfl⟩
  simp! only []
theorem ctie_ok {r c : Nat} (hr : r < R + 1) (hc : c < C + 1) : Ok (zcs [zbC R C S L G, tT (R + 1) (C + 1) f, .int (r : Nat), .int (c : Nat)]) fun x => x = .own [.tup [.int (r : Nat), .int ((R + 1 + c : Nat) : Int), .int (if sg r c = 1 then up f G r c else dn f L r c)], .tup [.int ((R + 1 + c : Nat) : Int), .int (r : Nat), .int (if sg r c = 1 then dn f L r c else up f G r c)]] := by
 have e2 : ((R + 1 : Nat) : Int) + (c : Int) = ((R + 1 + c : Nat) : Int) := by omega
 simp! only [↓zcs, ↓ze1, e2, zap _ hr, zap _ hc]
 refine (zhM r c).mono ?_
 rintro _ rfl
 simp! only []
 refine ⟨fun z => ?_, fun z => ?_⟩
 ·rw [if_pos z, if_pos z]; rfl
 ·simp! only [↓zeI]
  rw [if_neg z, if_neg z]; rfl
theorem ties_ok (hR : R <= 50) (hC : C <= 50) : Ok (zbW [zbC R C S L G]) fun x => x = .own (tieL (2 * ((R + 1) * (C + 1))) (ftl (R + 1) (C + 1)) (ftu (R + 1) (C + 1)) (fta (C + 1) (pln S) L G)) := by
 simp! only [↓zbW, ↓zdM]
 refine (zge (by omega) (by omega)).mono ?_
 rintro _ rfl
 simp! only [↓zd2]
 refine (cells_ok hR hC).mono ?_
 rintro _ rfl
 obtain ⟨N, hN⟩ : ∃ N, N = (R + 1) * (C + 1) := ⟨_, rfl⟩
 have N9 : N <= 51 * 51 := by rw [hN]; exact Nat.mul_le_mul (by omega) (by omega)
 rw [<- hN]
 simp! only []
 refine zbe (fun i ρ => ∃ s3 s4, ρ = [.val (zbC R C S L G), .val (tT (R + 1) (C + 1) (pln S)), .own (tieL (2 * i) (ftl (R + 1) (C + 1)) (ftu (R + 1) (C + 1)) (fta (C + 1) (pln S) L G)), s3, s4]) ⟨_, _, rfl⟩ ?_ ?_
 ·rintro k _ hk ⟨s3, s4, rfl⟩
  have q1 : k / (C + 1) < R + 1 := Nat.div_lt_of_lt_mul (by rw [Nat.mul_comm, <- hN]; exact hk)
  have q2 : k % (C + 1) < C + 1 := Nat.mod_lt _ (by omega)
  simp! only [↓zdS]
  refine (ctie_ok q1 q2).mono ?_
  rintro _ rfl
  simp! only [tieL, za8]
  refine ⟨by omega, .val (.int ((k / (C + 1) : Nat) : Int)), .val (.int ((k % (C + 1) : Nat) : Int)), ?_⟩
  rw [show 2 * (k + 1) = 2 * k + 1 + 1 by omega, zaZ (2 * k + 1), zaZ (2 * k), List.append_assoc]
  have a1 : (2 * k) % 2 = 0 := by omega
  have a2 : (2 * k) / 2 = k := by omega
  have a3 : (2 * k + 1) % 2 ≠ 0 := by omega
  have a4 : (2 * k + 1) / 2 = k := by omega
  have b1 : ftl (R + 1) (C + 1) (2 * k) = k / (C + 1) := by unfold ftl; rw [if_pos a1, a2]
  have b2 : ftu (R + 1) (C + 1) (2 * k) = R + 1 + k % (C + 1) := by unfold ftu; rw [if_pos a1, a2]
  have b3 : ftl (R + 1) (C + 1) (2 * k + 1) = R + 1 + k % (C + 1) := by unfold ftl; rw [if_neg a3, a4]
  have b4 : ftu (R + 1) (C + 1) (2 * k + 1) = k / (C + 1) := by unfold ftu; rw [if_neg a3, a4]
  have b5 : fta (C + 1) (pln S) L G (2 * k) = if sg (k / (C + 1)) (k % (C + 1)) = 1 then up (pln S) G (k / (C + 1)) (k % (C + 1)) else dn (pln S) L (k / (C + 1)) (k % (C + 1)) := by unfold fta; rw [if_pos a1, a2]
  have b6 : fta (C + 1) (pln S) L G (2 * k + 1) = if sg (k / (C + 1)) (k % (C + 1)) = 1 then dn (pln S) L (k / (C + 1)) (k % (C + 1)) else up (pln S) G (k / (C + 1)) (k % (C + 1)) := by unfold fta; rw [if_neg a3, a4]
  rw [b1, b2, b3, b4, b5, b6]
  rfl
 ·rintro _ ⟨s3, s4, rfl⟩
  simp! only []
end
section
variable {R C : Nat} {S L G f : Nat -> Nat -> Int}
theorem zkR {a b q : Nat} (hb : 0 < b) (h : q < 2 * (a * b)) : q / 2 / b < a /\ q / 2 % b < b := by
 have h1 : q / 2 < a * b := by omega
 exact ⟨Nat.div_lt_of_lt_mul (by rw [Nat.mul_comm]; exact h1), Nat.mod_lt _ hb⟩
theorem ftl_lt {a b q : Nat} (hb : 0 < b) (h : q < 2 * (a * b)) : ftl a b q < a + b := by
 have := zkR hb h; unfold ftl; split <;> omega
theorem ftu_lt {a b q : Nat} (hb : 0 < b) (h : q < 2 * (a * b)) : ftu a b q < a + b := by
 have := zkR hb h; unfold ftu; split <;> omega
theorem ft_ne {a b q : Nat} (hb : 0 < b) (h : q < 2 * (a * b)) : ftl a b q ≠ ftu a b q := by
 have := zkR hb h; unfold ftl ftu; split <;> omega
theorem fit_of (h0 : h r <= h (R + 1 + c) + (if sg r c = 1 then up f G r c else dn f L r c)) (h1 : h (R + 1 + c) <= h r + (if sg r c = 1 then dn f L r c else up f G r c)) : L r c <= shf (R + 1) f h r c /\ shf (R + 1) f h r c <= G r c := by
 unfold shf
 have : sg r c = 1 \/ sg r c = -1 := by unfold sg; split <;> simp
 unfold up dn at h0 h1
 rcases this with e | e
 ·rw [if_pos e] at h0 h1; rw [e]; omega
 ·rw [if_neg (by omega)] at h0 h1; rw [e]; omega
theorem ft_at (hr : r < a) (hc : c < b) : 2 * (r * b + c) + 1 < 2 * (a * b) /\ ftl a b (2 * (r * b + c)) = r /\ ftu a b (2 * (r * b + c)) = a + c /\ ftl a b (2 * (r * b + c) + 1) = a + c /\ ftu a b (2 * (r * b + c) + 1) = r := by
 have a1 : (2 * (r * b + c)) % 2 = 0 := by omega
 have a2 : (2 * (r * b + c)) / 2 = r * b + c := by omega
 have a3 : (2 * (r * b + c) + 1) % 2 ≠ 0 := by omega
 have a4 : (2 * (r * b + c) + 1) / 2 = r * b + c := by omega
 have d := dm (i := r) hc
 have lt : r * b + c < a * b := by
  have : (r + 1) * b <= a * b := Nat.mul_le_mul_right b (by omega)
  rw [Nat.succ_mul] at this
  omega
 unfold ftl ftu
 rw [if_pos a1, if_pos a1, if_neg a3, if_neg a3, a2, a4, d.1, d.2]
 exact ⟨by omega, rfl, rfl, rfl, rfl⟩
theorem fta_at (hc : c < b) : fta b f L G (2 * (r * b + c)) = (if sg r c = 1 then up f G r c else dn f L r c) /\ fta b f L G (2 * (r * b + c) + 1) = (if sg r c = 1 then dn f L r c else up f G r c) := by
 have a1 : (2 * (r * b + c)) % 2 = 0 := by omega
 have a2 : (2 * (r * b + c)) / 2 = r * b + c := by omega
 have a3 : (2 * (r * b + c) + 1) % 2 ≠ 0 := by omega
 have a4 : (2 * (r * b + c) + 1) / 2 = r * b + c := by omega
 have d := dm (i := r) hc
 unfold fta
 rw [if_pos a1, if_neg a3, a2, a4, d.1, d.2]
 exact ⟨rfl, rfl⟩
end
theorem turnI (c1 : 1 <= c) (f : Nat -> Int) (h : f c = f 0) : cutD (wI c f) (some 1) none ++ cutD (wI c f) none (some 1) = wI c fun i => f (i + 1) := by
 obtain ⟨e, rfl⟩ : ∃ e, c = e + 1 := ⟨c - 1, by omega⟩
 rw [show cutD (wI (e + 1) f) (some 1) none = (wI (e + 1) f).drop 1 from zhY _ 1, show cutD (wI (e + 1) f) none (some 1) = (wI (e + 1) f).take 1 from zhI _ 1]
 rw [show wI (e + 1) (fun i => f (i + 1)) = (wI e fun i => f (i + 1)) ++ [.int (f (e + 1))] from zaZ _ _, h]
 have s : wI (e + 1) f = .int (f 0) :: wI e fun i => f (i + 1) := by simp [wL, List.range_succ_eq_map, Function.comp_def]
 rw [s]
 rfl
section
variable {R C : Nat} {S L G f : Nat -> Nat -> Int}
def zbI (a : Nat) (W : Nat -> Nat) (i : Nat) : D := .tup [.int (min2 (W i) (W (i + 1))), .int (max2 (W i) (W (i + 1)) - (a : Int))]
theorem tour_ok (c1 : 1 <= c) (c9 : c <= 1000) (V : Nat -> Nat) (h0 : V c = V 0) (h1 : V (c + 1) = V 1) :
  Ok (zeu [.lst (wI c fun i => (V i : Nat)), .int (a : Nat)]) fun x => ∃ W : Nat -> Nat, (W = V /\ V 0 < a \/ W = (fun i => V (i + 1)) /\ a <= V 0) /\ x = .own (wL c (zbI a W)) := by
 have e0 : atI (wI c fun i => (V i : Nat)) 0 = some (.int (V 0 : Nat)) := by
  rw [show (0 : Int) = ((0 : Nat) : Int) from rfl, atI_n, zap _ (show 0 < c by omega)]
 have t1 := turnI c1 (fun i => ((V i : Nat) : Int)) (by (try dsimp only); rw [h0])
 have t2 := turnI c1 (fun i => ((V (i + 1) : Nat) : Int)) (by (try dsimp only); rw [h1])
 have fin : ∀ (W : Nat -> Nat) (d0 : D) (hW : (W = V /\ V 0 < a \/ W = (fun i => V (i + 1)) /\ a <= V 0)), Ok (zdU [.val d0, .val (.int (a : Nat)), .val (.lst (wI c fun i => (W i : Nat))), .val (.lst (wI c fun i => (W (i + 1) : Nat)))]) fun p => p.1 = wL c (zbI a W) := fun W d0 hW => by
  simp! only [↓zdU, zip2D_w]
  refine ⟨by omega, zaN (fun ρ => ∃ y z, ρ = [.val (.int (a : Nat)), y, z]) (zbI a W) ⟨_, _, rfl⟩ ?_ ?_⟩
  ·rintro i _ hi ⟨y, z, rfl⟩
   simp! only [↓zfR]
   exact ⟨rfl, _, _, rfl⟩
  ·rintro _ ⟨y, z, rfl⟩
   rfl
 simp! only [↓zeu, ↓zgQ, zap _ (show 0 < c by omega)]
 have len : ∀ g : Nat -> Int, g c = g 0 -> (cutD (wI c g) (some 1) none).length + (cutD (wI c g) none (some 1)).length <= 16777216 := fun g hg => by rw [<- List.length_append, turnI c1 g hg, za8]; omega
 refine ⟨fun z => ⟨len _ (by (try dsimp only); rw [h0]), ?_⟩, fun z => ⟨len _ (by (try dsimp only); rw [h0]), ?_⟩⟩
 ·rw [t1]
  refine (fin V _ (.inl ⟨rfl, by omega⟩)).mono ?_
  rintro ⟨_, ρ⟩ rfl
  simp! only []
  exact ⟨V, .inl ⟨rfl, by omega⟩, rfl⟩
 ·rw [t1]
  refine ⟨len _ (by (try dsimp only); rw [h1]), ?_⟩
  rw [t2]
  refine (fin (fun i => V (i + 1)) _ (.inr ⟨rfl, by omega⟩)).mono ?_
  rintro ⟨_, ρ⟩ rfl
  simp! only []
  exact ⟨_, .inr ⟨rfl, by omega⟩, rfl⟩
end
theorem zh8 (g : Nat -> Int) : ∀ c : Nat, sumR c (fun i => g (i + 1)) + g 0 = sumR c g + g c
 | 0 => rfl
 | c + 1 => by
  have := zh8 g c
  show sumR c (fun i => g (i + 1)) + g (c + 1) + g 0 = sumR c g + g c + g (c + 1)
  omega
structure Tour (R C : Nat) (S L G : Nat -> Nat -> Int) (c : Nat) (W qs : Nat -> Nat) : Prop where
 pos : 1 <= c
 c9 : c <= 1000
 per : ∀ i, W (i + c) = W i
 row : W 0 < R + 1
 apart : ∀ i j, i < j -> j < c -> W i ≠ W j
 tie : ∀ i, qs i < 2 * ((R + 1) * (C + 1)) /\ ftl (R + 1) (C + 1) (qs i) = W i /\ ftu (R + 1) (C + 1) (qs i) = W (i + 1)
 neg : sumR c (fun i => fta (C + 1) (pln S) L G (qs i)) < 0
def ziW (R C : Nat) (L G : Nat -> Nat -> Int) (f : Nat -> Nat -> Int) : Prop := ∀ r c, r < R + 1 -> c < C + 1 -> L r c <= f r c /\ f r c <= G r c
section
variable {R C : Nat} {S L G : Nat -> Nat -> Int}
theorem zlB (hR : R <= 20) (hC : C <= 20) : Ok (zaM [zbC R C S L G]) fun x => (∃ h, ziW R C L G (shf (R + 1) (pln S) h) /\ x = .val (.tup [.str "floor", tT (R + 1) (C + 1) (shf (R + 1) (pln S) h)])) \/ ∃ c W qs, Tour R C S L G c W qs /\ x = .val (.tup [.str "tour", .lst (wL c (zbI (R + 1) W))]) := by
 have b0 : 0 < C + 1 := by omega
 obtain ⟨n, hn⟩ : ∃ n, n = R + C + 1 := ⟨_, rfl⟩
 have en : ((R + 1 : Nat) : Int) + ((C + 1 : Nat) : Int) = ((n + 1 : Nat) : Int) := by omega
 simp! only [↓zaM, ↓zc4, ↓zbO, ↓zcX, zap _ (show 0 < R + 1 by omega), en]
 refine (ties_ok (by omega) (by omega)).mono ?_
 rintro _ rfl
 obtain ⟨m, hm⟩ : ∃ m, m = 2 * ((R + 1) * (C + 1)) := ⟨_, rfl⟩
 obtain ⟨tl, htl⟩ : ∃ tl, tl = ftl (R + 1) (C + 1) := ⟨_, rfl⟩
 obtain ⟨tu, htu⟩ : ∃ tu, tu = ftu (R + 1) (C + 1) := ⟨_, rfl⟩
 obtain ⟨ta, hta⟩ : ∃ ta, ta = fta (C + 1) (pln S) L G := ⟨_, rfl⟩
 have hl : ∀ q, q < m -> tl q < n + 1 := fun q hq => by rw [hm] at hq; have := ftl_lt b0 hq; rw [htl]; omega
 have hu : ∀ q, q < m -> tu q < n + 1 := fun q hq => by rw [hm] at hq; have := ftu_lt b0 hq; rw [htu]; omega
 have ne : ∀ q, q < m -> tl q ≠ tu q := fun q hq => by rw [hm] at hq; rw [htl, htu]; exact ft_ne b0 hq
 rw [<- hm, <- htl, <- htu, <- hta]
 simp! only [zap _ (show 0 < R + 1 by omega), en]
 refine (zkT (s := 0) (by omega) (by omega) (by omega) hl hu ne).mono ?_
 rintro _ ⟨d, u, f, ⟨us, b, hf⟩, rfl⟩
 simp! only []
 rcases hf with ⟨rfl, h⟩ | ⟨l, rfl, h⟩
 ·have kept : ∀ q, q < m -> Kept tl tu ta d q := fun q hq => b.kept (t := n) h hq
  have at0 : ∀ r c, r < R + 1 -> c < C + 1 -> (∀ y, d (R + 1 + c) = some y -> ∃ x, d r = some x /\ x <= y + (if sg r c = 1 then up (pln S) G r c else dn (pln S) L r c)) /\ (∀ y, d r = some y -> ∃ x, d (R + 1 + c) = some x /\ x <= y + (if sg r c = 1 then dn (pln S) L r c else up (pln S) G r c)) := fun r c hr hc => by
   obtain ⟨f1, f2, f3, f4, f5⟩ := ft_at hr hc
   have k0 := kept (2 * (r * (C + 1) + c)) (by rw [hm]; omega)
   have k1 := kept (2 * (r * (C + 1) + c) + 1) (by rw [hm]; omega)
   obtain ⟨g1, g2⟩ := fta_at (f := pln S) (L := L) (G := G) (r := r) hc
   unfold Kept at k0 k1
   rw [htl, htu, hta] at k0 k1
   rw [f2, f3, g1] at k0
   rw [f4, f5, g2] at k1
   exact ⟨k0, k1⟩
  obtain ⟨x0, hx0⟩ := b.st
  have dc : ∀ c, c < C + 1 -> ∃ x, d (R + 1 + c) = some x := fun c hc => let ⟨x, hx, _⟩ := (at0 0 c (by omega) hc).2 _ hx0; ⟨x, hx⟩
  have dr : ∀ r, r < R + 1 -> ∃ x, d r = some x := fun r hr => by
   obtain ⟨y, hy⟩ := dc 0 (by omega)
   obtain ⟨x, hx, _⟩ := (at0 r 0 hr (by omega)).1 y hy
   exact ⟨x, hx⟩
  have dX : ∀ v, v < R + 1 + (C + 1) -> d v = some ((d v).getD 0) := fun v hv => by
   by_cases z : v < R + 1
   ·obtain ⟨x, hx⟩ := dr v z; rw [hx]; rfl
   ·obtain ⟨x, hx⟩ := dc (v - (R + 1)) (by omega)
    rw [show R + 1 + (v - (R + 1)) = v by omega] at hx
    rw [hx]; rfl
  have el : (wL (n + 1) fun v => dO (d v)) = wI (R + 1 + (C + 1)) fun v => (d v).getD 0 := by
   rw [show n + 1 = R + 1 + (C + 1) by omega]
   exact zcp fun v hv => by (try dsimp only); rw [dX v hv]; rfl
  simp! only [uO, ↓zc7]
  refine (zge (by omega) (by omega)).mono ?_
  rintro _ rfl
  simp! only [el]
  refine (shift_ok (by omega) (by omega)).mono ?_
  rintro _ rfl
  simp! only []
  refine .inl ⟨_, fun r c hr hc => ?_, rfl⟩
  obtain ⟨a1, a2⟩ := at0 r c hr hc
  have e1 := dX r (by omega)
  have e2 := dX (R + 1 + c) (by omega)
  obtain ⟨x, hx, lx⟩ := a1 _ e2
  obtain ⟨y, hy, ly⟩ := a2 _ e1
  rw [e1] at hx; cases hx
  rw [e2] at hy; cases hy
  exact fit_of lx ly
 ·simp! only [uO]
  refine (loop_ok b h (by omega) hl hu ne).mono ?_
  rintro _ ⟨c, qs, c9, rd, rfl⟩
  obtain ⟨V, hV⟩ : ∃ V : Nat -> Nat, V = fun i => back u (back u l (n + 1)) i := ⟨_, rfl⟩
  have per : ∀ i, V (i + c) = V i := fun i => by
   rw [hV]
   show back u (back u l (n + 1)) (i + c) = back u (back u l (n + 1)) i
   rw [Nat.add_comm i c, <- zbv, rd.home]
  have c1 := rd.pos
  rw [show (wI c fun i => ((back u (back u l (n + 1)) i : Nat) : Int)) = wI c fun i => ((V i : Nat) : Int) by rw [hV]]
  simp! only []
  refine (tour_ok c1 (by omega) V (by have := per 0; rwa [Nat.zero_add] at this) (by have := per 1; rwa [Nat.add_comm] at this)).mono ?_
  rintro _ ⟨W, hW, rfl⟩
  simp! only []
  have mo : ∀ i, V (i % c) = V i := fun i => by
   have h1 : ∀ k j, V (j + k * c) = V j := fun k => by
    induction k with
    | zero => intro j; rw [Nat.zero_mul, Nat.add_zero]
    | succ k ih => intro j; rw [Nat.succ_mul, <- Nat.add_assoc, per, ih]
   have := h1 (i / c) (i % c)
   rw [Nat.mul_comm, Nat.mod_add_div] at this
   exact this.symm
  have tie : ∀ i, qs (i % c) < m /\ tl (qs (i % c)) = V i /\ tu (qs (i % c)) = V (i + 1) := fun i => by
   obtain ⟨t1, t2, t3⟩ := rd.tie (i % c) (Nat.mod_lt _ c1)
   refine ⟨t1, ?_, ?_⟩
   ·rw [t2, <- mo i, hV]
   ·rw [t3, <- mo (i + 1), <- Nat.mod_add_mod, mo, hV]
  have ng : sumR c (fun i => ta (qs (i % c))) < 0 := by
   rw [zaP fun i hi => by rw [Nat.mod_eq_of_lt hi]]
   exact rd.neg
  rcases hW with ⟨rfl, r0⟩ | ⟨rfl, r0⟩
  ·refine .inr ⟨c, W, fun i => qs (i % c), ⟨c1, by omega, per, r0, fun i j hij hj => by rw [hV]; exact rd.apart hij hj, fun i => ?_, by rw [<- hta]; exact ng⟩, rfl⟩
   have := tie i
   rw [hm, htl, htu] at this
   exact this
  ·refine .inr ⟨c, fun i => V (i + 1), fun i => qs ((i + 1) % c), ⟨c1, by omega, fun i => by (try dsimp only); rw [show i + c + 1 = i + 1 + c by omega, per], ?_, fun i j hij hj => ?_, fun i => ?_, ?_⟩, rfl⟩
   ·obtain ⟨t1, t2, t3⟩ := tie 0
    rw [hm] at t1
    have q := zkR b0 t1
    rw [htl] at t2
    rw [htu] at t3
    (try dsimp only)
    rw [Nat.zero_add] at t3
    rw [Nat.zero_add, <- t3]
    unfold ftl at t2
    unfold ftu
    split at t2
    ·rename_i z; rw [if_pos z]; omega
    ·rename_i z; rw [if_neg z]; exact q.1
   ·by_cases z : j + 1 < c
    ·rw [hV]; exact rd.apart (by omega) z
    ·have e : j + 1 = 0 + c := by omega
     (try dsimp only)
     rw [e, per]
     rw [hV]
     exact (rd.apart (by omega : 0 < i + 1) (by omega)).symm
   ·have := tie (i + 1)
    rw [hm, htl, htu] at this
    exact this
   ·rw [<- hta]
    have t := zh8 (fun i => ta (qs (i % c))) c
    have e : (c : Nat) % c = 0 % c := by rw [Nat.mod_self, Nat.zero_mod]
    (try dsimp only at t)
    rw [e] at t
    (try dsimp only)
    omega
end
def cr (W : Nat -> Nat) (i : Nat) : Nat := if i % 2 = 0 then W i else W (i + 1)
def cc (a : Nat) (W : Nat -> Nat) (i : Nat) : Nat := if i % 2 = 0 then W (i + 1) - a else W i - a
section
variable {R C : Nat} {S L G : Nat -> Nat -> Int} {c : Nat} {W qs : Nat -> Nat}
theorem Tour.alt (t : Tour R C S L G c W qs) (i : Nat) : (qs i % 2 = 0 /\ W i = qs i / 2 / (C + 1) /\ W (i + 1) = R + 1 + qs i / 2 % (C + 1) /\ W i < R + 1 /\ qs i / 2 % (C + 1) < C + 1) \/ (qs i % 2 ≠ 0 /\ W i = R + 1 + qs i / 2 % (C + 1) /\ W (i + 1) = qs i / 2 / (C + 1) /\ W (i + 1) < R + 1 /\ qs i / 2 % (C + 1) < C + 1) := by
 obtain ⟨h1, h2, h3⟩ := t.tie i
 have q := zkR (show 0 < C + 1 by omega) h1
 unfold ftl at h2
 unfold ftu at h3
 by_cases z : qs i % 2 = 0
 ·rw [if_pos z] at h2 h3
  exact .inl ⟨z, h2.symm, h3.symm, by omega, q.2⟩
 ·rw [if_neg z] at h2 h3
  exact .inr ⟨z, h2.symm, h3.symm, by omega, q.2⟩
theorem Tour.par (t : Tour R C S L G c W qs) : ∀ i, (i % 2 = 0 ↔ W i < R + 1)
 | 0 => ⟨fun _ => t.row, fun _ => rfl⟩
 | i + 1 => by
  have ih := t.par i
  have a := t.alt i
  constructor
  ·intro z
   have : ¬ W i < R + 1 := fun y => by have := ih.mpr y; omega
   omega
  ·intro z
   have : ¬ W i < R + 1 := fun y => by omega
   have : ¬ i % 2 = 0 := fun y => this (ih.mp y)
   omega
theorem Tour.even (t : Tour R C S L G c W qs) : c % 2 = 0 := (t.par c).mpr (by have := t.per 0; rw [Nat.zero_add] at this; rw [this]; exact t.row)
theorem Tour.cell (t : Tour R C S L G c W qs) (i : Nat) : cr W i = qs i / 2 / (C + 1) /\ cc (R + 1) W i = qs i / 2 % (C + 1) /\ cr W i < R + 1 /\ cc (R + 1) W i < C + 1 /\ (qs i % 2 = i % 2) /\ zbI (R + 1) W i = .tup [.int (cr W i : Nat), .int (cc (R + 1) W i : Nat)] := by
 have a := t.alt i
 have p := t.par i
 unfold cr cc zbI
 by_cases z : i % 2 = 0
 ·have y := p.mp z
  rw [if_pos z, if_pos z]
  have m1 : min2 (W i : Int) (W (i + 1)) = W i := by unfold min2; split <;> omega
  have m2 : max2 (W i : Int) (W (i + 1)) = W (i + 1) := by unfold max2; split <;> omega
  refine ⟨by omega, by omega, by omega, by omega, by omega, ?_⟩
  rw [m1, m2, show (W (i + 1) : Int) - ((R + 1 : Nat) : Int) = ((W (i + 1) - (R + 1) : Nat) : Int) by omega]
 ·have y : ¬ W i < R + 1 := fun y => z (p.mpr y)
  rw [if_neg z, if_neg z]
  have m1 : min2 (W i : Int) (W (i + 1)) = W (i + 1) := by unfold min2; split <;> omega
  have m2 : max2 (W i : Int) (W (i + 1)) = W i := by unfold max2; split <;> omega
  refine ⟨by omega, by omega, by omega, by omega, by omega, ?_⟩
  rw [m1, m2, show (W i : Int) - ((R + 1 : Nat) : Int) = ((W i - (R + 1) : Nat) : Int) by omega]
def oW (a : Nat) (W : Nat -> Nat) (i : Nat) : Int := sg (cr W i) (cc a W i) * sg i 0
theorem ze0 (r c : Nat) : sg r c = 1 \/ sg r c = -1 := by unfold sg; split <;> simp
theorem zgu (a : Nat) (W : Nat -> Nat) (i : Nat) : oW a W i = 1 \/ oW a W i = -1 := by
 unfold oW
 rcases ze0 (cr W i) (cc a W i) with e | e <;> rcases ze0 i 0 with e' | e' <;> rw [e, e'] <;> simp
theorem Tour.wt (t : Tour R C S L G c W qs) (le : ∀ r c, r < R + 1 -> c < C + 1 -> L r c <= G r c) (i : Nat) : fta (C + 1) (pln S) L G (qs i) = max2 (oW (R + 1) W i * L (cr W i) (cc (R + 1) W i)) (oW (R + 1) W i * G (cr W i) (cc (R + 1) W i)) - oW (R + 1) W i * pln S (cr W i) (cc (R + 1) W i) := by
 obtain ⟨e1, e2, l1, l2, e3, -⟩ := t.cell i
 have lg := le _ _ l1 l2
 unfold fta
 rw [<- e1, <- e2, e3]
 have s0 : sg i 0 = if i % 2 = 0 then 1 else -1 := by unfold sg; rw [Nat.add_zero]
 unfold oW up dn
 rw [s0]
 generalize cr W i = r at lg ⊢
 generalize cc (R + 1) W i = k at lg ⊢
 by_cases z : i % 2 = 0
 ·rw [if_pos z, if_pos z]
  rcases ze0 r k with e | e
  ·rw [if_pos e, e]; unfold max2; split <;> omega
  ·rw [if_neg (by omega), e]; unfold max2; split <;> omega
 ·rw [if_neg z, if_neg z]
  rcases ze0 r k with e | e
  ·rw [if_pos e, e]; unfold max2; split <;> omega
  ·rw [if_neg (by omega), e]; unfold max2; split <;> omega
theorem Tour.c4 (t : Tour R C S L G c W qs) (le : ∀ r c, r < R + 1 -> c < C + 1 -> L r c <= G r c) : 4 <= c := by
 have ev := t.even
 have p := t.pos
 by_cases z : c = 2
 ·exfalso
  subst z
  have w0 := t.wt le 0
  have w1 := t.wt le 1
  have n := t.neg
  have pe := t.per 0
  have er : cr W 1 = cr W 0 := by unfold cr; simp; exact pe
  have ec : cc (R + 1) W 1 = cc (R + 1) W 0 := by unfold cc; simp
  have eo : oW (R + 1) W 1 = - oW (R + 1) W 0 := by
   unfold oW
   rw [er, ec, show sg 1 0 = -1 from rfl, show sg 0 0 = 1 from rfl]; omega
  rw [er, ec, eo] at w1
  have lg := le _ _ (t.cell 0).2.2.1 (t.cell 0).2.2.2.1
  have n' : 0 + fta (C + 1) (pln S) L G (qs 0) + fta (C + 1) (pln S) L G (qs 1) < 0 := n
  rw [w0, w1] at n'
  generalize cr W 0 = r at lg n'
  generalize cc (R + 1) W 0 = k at lg n'
  rcases zgu (R + 1) W 0 with e | e
  ·rw [e] at n'; unfold max2 at n'; split at n' <;> split at n' <;> omega
  ·rw [e] at n'; unfold max2 at n'; split at n' <;> split at n' <;> omega
 ·omega
end
theorem zgr (f g : Nat -> Int) : ∀ c, sumR c (fun i => f i + g i) = sumR c f + sumR c g
 | 0 => rfl
 | c + 1 => by show sumR c (fun i => f i + g i) + (f c + g c) = sumR c f + f c + (sumR c g + g c); rw [zgr f g c]; omega
theorem zhV {f g : Nat -> Int} : ∀ {c}, (∀ i, i < c -> f i <= g i) -> sumR c f <= sumR c g
 | 0, _ => Int.le_refl _
 | c + 1, h => by have a := zhV (c := c) fun i hi => h i (Nat.lt_succ_of_lt hi); have b := h c (by omega); show sumR c f + f c <= sumR c g + g c; omega
theorem zjD (z : Nat -> Int) : ∀ c, sumR c (fun i => z i - z (i + 1)) = z 0 - z c
 | 0 => by show (0 : Int) = z 0 - z 0; omega
 | c + 1 => by show sumR c (fun i => z i - z (i + 1)) + (z c - z (c + 1)) = z 0 - z (c + 1); rw [zjD z c]; omega
theorem sg_r (r c : Nat) : sg (r + 1) c = - sg r c := by unfold sg; split <;> split <;> omega
theorem sg_c (r c : Nat) : sg r (c + 1) = - sg r c := by unfold sg; split <;> split <;> omega
theorem nought {R C : Nat} (h : ∀ r c, r < R -> c < C -> four e r c = 0) : ∀ r c, r < R + 1 -> c < C + 1 -> e r c = sg r c * (sg r 0 * e r 0 - (e 0 0 - sg 0 c * e 0 c)) := by
 have row0 : ∀ c, e 0 c = sg 0 c * (sg 0 0 * e 0 0 - (e 0 0 - sg 0 c * e 0 c)) := fun c => by
  rw [show sg 0 0 = 1 from rfl]
  rcases ze0 0 c with z | z <;> rw [z] <;> omega
 intro r
 induction r with
 | zero => exact fun c _ _ => row0 c
 | succ r ih =>
  intro c
  induction c with
  | zero =>
   intro _ _
   rw [show sg 0 0 = 1 from rfl]
   rcases ze0 (r + 1) 0 with z | z <;> rw [z] <;> omega
  | succ c ihc =>
   intro hr hc
   have f := h r c (by omega) (by omega)
   have a1 := ih c (by omega) (by omega)
   have a2 := ih (c + 1) (by omega) (by omega)
   have a3 := ihc hr (by omega)
   unfold four at f
   rw [sg_c 0 c] at a2 ⊢
   rw [sg_c r c] at a2
   rw [sg_r r c, sg_r r 0] at a3
   rw [sg_r r (c + 1), sg_c r c, sg_r r 0]
   rcases ze0 r c with z | z <;> rcases ze0 r 0 with z' | z' <;> rcases ze0 0 c with z'' | z'' <;> rw [z, z', z''] at a1 a2 <;> rw [z, z', z''] at a3 <;> rw [z, z', z''] <;> omega
section
variable {R C : Nat} {S L G : Nat -> Nat -> Int} {c : Nat} {W qs : Nat -> Nat}
theorem tel_of (he : ∀ r c, r < R -> c < C -> four e r c = 0) (bd : ∀ i, i < c -> cr W i < R + 1 /\ cc (R + 1) W i < C + 1) (ev : c % 2 = 0) (per : W c = W 0) : sumR c (fun i => oW (R + 1) W i * e (cr W i) (cc (R + 1) W i)) = 0 := by
 have ne := nought he
 obtain ⟨z, hz⟩ : ∃ z : Nat -> Int, z = fun i => if i % 2 = 0 then sg (W i) 0 * e (W i) 0 else e 0 0 - sg 0 (W i - (R + 1)) * e 0 (W i - (R + 1)) := ⟨_, rfl⟩
 have step : ∀ i, i < c -> oW (R + 1) W i * e (cr W i) (cc (R + 1) W i) = z i - z (i + 1) := fun i hi => by
  obtain ⟨l1, l2⟩ := bd i hi
  have n1 := ne _ _ l1 l2
  have s0 : sg i 0 = if i % 2 = 0 then 1 else -1 := by unfold sg; rw [Nat.add_zero]
  unfold oW
  rw [n1, s0, hz]
  (try dsimp only)
  generalize e 0 0 = e00
  by_cases y : i % 2 = 0
  ·have y' : ¬ (i + 1) % 2 = 0 := by omega
   rw [if_pos y, if_pos y, if_neg y']
   have q1 : cr W i = W i := by unfold cr; rw [if_pos y]
   have q2 : cc (R + 1) W i = W (i + 1) - (R + 1) := by unfold cc; rw [if_pos y]
   rw [q1, q2]
   generalize sg (W i) 0 * e (W i) 0 = x1
   generalize sg 0 (W (i + 1) - (R + 1)) * e 0 (W (i + 1) - (R + 1)) = x2
   rcases ze0 (W i) (W (i + 1) - (R + 1)) with w | w <;> rw [w] <;> omega
  ·have y' : (i + 1) % 2 = 0 := by omega
   rw [if_neg y, if_neg y, if_pos y']
   have q1 : cr W i = W (i + 1) := by unfold cr; rw [if_neg y]
   have q2 : cc (R + 1) W i = W i - (R + 1) := by unfold cc; rw [if_neg y]
   rw [q1, q2]
   generalize sg (W (i + 1)) 0 * e (W (i + 1)) 0 = x1
   generalize sg 0 (W i - (R + 1)) * e 0 (W i - (R + 1)) = x2
   rcases ze0 (W (i + 1)) (W i - (R + 1)) with w | w <;> rw [w] <;> omega
 rw [zaP fun i hi => step i hi, zjD]
 rw [hz]
 (try dsimp only)
 rw [if_pos ev, if_pos rfl, per]
 omega
theorem Tour.tel (t : Tour R C S L G c W qs) (fo : ∀ r c, r < R -> c < C -> four f r c = S r c) : sumR c (fun i => oW (R + 1) W i * (f (cr W i) (cc (R + 1) W i) - pln S (cr W i) (cc (R + 1) W i))) = 0 :=
 tel_of (e := fun r c => f r c - pln S r c) (fun r c hr hc => by
  have h1 := fo r c hr hc
  have h2 := zjv S r c
  unfold four at h1 h2 ⊢
  (try dsimp only)
  omega) (fun i _ => by obtain ⟨-, -, l1, l2, -, -⟩ := t.cell i; exact ⟨l1, l2⟩) t.even (by have p := t.per 0; rw [Nat.zero_add] at p; exact p)
theorem Tour.noC (t : Tour R C S L G c W qs) (le : ∀ r c, r < R + 1 -> c < C + 1 -> L r c <= G r c) (fi : ∀ i, i < c -> L (cr W i) (cc (R + 1) W i) <= f (cr W i) (cc (R + 1) W i) /\ f (cr W i) (cc (R + 1) W i) <= G (cr W i) (cc (R + 1) W i)) (fo : ∀ r c, r < R -> c < C -> four f r c = S r c) : False := by
 have tel := t.tel fo
 have low : sumR c (fun i => oW (R + 1) W i * (f (cr W i) (cc (R + 1) W i) - pln S (cr W i) (cc (R + 1) W i))) <= sumR c fun i => fta (C + 1) (pln S) L G (qs i) := zhV fun i hi => by
  have lg := fi i hi
  rw [t.wt le i]
  generalize cr W i = r at lg ⊢
  generalize cc (R + 1) W i = k at lg ⊢
  rcases zgu (R + 1) W i with w | w
  ·rw [w]; unfold max2; split <;> omega
  ·rw [w]; unfold max2; split <;> omega
 have := t.neg
 omega
theorem Tour.no (t : Tour R C S L G c W qs) (le : ∀ r c, r < R + 1 -> c < C + 1 -> L r c <= G r c) (fi : ziW R C L G f) (fo : ∀ r c, r < R -> c < C -> four f r c = S r c) : False :=
 t.noC le (fun i _ => by obtain ⟨-, -, l1, l2, -, -⟩ := t.cell i; exact fi _ _ l1 l2) fo
end
theorem zgd (n : Nat) : ((List.range n).map fun _ => true).all id = true := by simp
theorem zir {o x : Int} (h : o = 1 \/ o = -1) : zhW o x = true := zcu (by rcases h with e | e <;> rw [e] <;> decide)
def kW (a : Nat) (W : Nat -> Nat) (i : Nat) : List Int := [(cr W i : Int), (cc a W i : Int)]
section
variable {R C : Nat} {S L G f : Nat -> Nat -> Int} {c : Nat} {W qs : Nat -> Nat}
theorem Tour.keys (t : Tour R C S L G c W qs) (le : ∀ r c, r < R + 1 -> c < C + 1 -> L r c <= G r c) (hij : i < j) (hj : j < c) : kW (R + 1) W i ≠ kW (R + 1) W j := fun e => by
 have c4 := t.c4 le
 have ev := t.even
 unfold kW at e
 have e1 : (cr W i : Int) = cr W j := by injection e
 have e2 : (cc (R + 1) W i : Int) = cc (R + 1) W j := by injection e with _ e; injection e
 have a1 := t.alt i
 have a2 := t.alt j
 have p1 := t.par i
 have p2 := t.par j
 have per := t.per 0
 rw [Nat.zero_add] at per
 unfold cr at e1
 unfold cc at e2
 by_cases z : i % 2 = 0 <;> by_cases y : j % 2 = 0
 ·rw [if_pos z, if_pos y] at e1
  exact t.apart i j hij hj (by omega)
 ·rw [if_pos z, if_neg y] at e1 e2
  have q1 := p1.mp z
  have q2 : ¬ W j < R + 1 := fun q => y (p2.mpr q)
  have w1 : W (i + 1) = W j := by omega
  have w2 : W i = W (j + 1) := by omega
  by_cases h : i + 1 = j
  ·subst h
   by_cases h2 : i + 1 + 1 < c
   ·exact t.apart i (i + 1 + 1) (by omega) h2 w2
   ·have : i + 1 + 1 = c := by omega
    rw [this, per] at w2
    exact t.apart 0 i (by omega) (by omega) w2.symm
  ·exact t.apart (i + 1) j (by omega) hj w1
 ·rw [if_neg z, if_pos y] at e1 e2
  have q1 : ¬ W i < R + 1 := fun q => z (p1.mpr q)
  have q2 := p2.mp y
  have w1 : W (i + 1) = W j := by omega
  by_cases h : i + 1 = j
  ·subst h
   have w2 : W i = W (i + 1 + 1) := by omega
   by_cases h2 : i + 1 + 1 < c
   ·exact t.apart i (i + 1 + 1) (by omega) h2 w2
   ·have : i + 1 + 1 = c := by omega
    rw [this, per] at w2
    exact t.apart 0 i (by omega) (by omega) w2.symm
  ·exact t.apart (i + 1) j (by omega) hj w1
 ·rw [if_neg z, if_neg y] at e1 e2
  have q1 : ¬ W i < R + 1 := fun q => z (p1.mpr q)
  have q2 : ¬ W j < R + 1 := fun q => y (p2.mpr q)
  exact t.apart i j hij hj (by omega)
theorem turnW (c1 : 1 <= c) (f : Nat -> D) (h : f c = f 0) : cutD (wL c f) (some 1) none ++ cutD (wL c f) none (some 1) = wL c fun i => f (i + 1) := by
 obtain ⟨e, rfl⟩ : ∃ e, c = e + 1 := ⟨c - 1, by omega⟩
 rw [show cutD (wL (e + 1) f) (some 1) none = (wL (e + 1) f).drop 1 from zhY _ 1, show cutD (wL (e + 1) f) none (some 1) = (wL (e + 1) f).take 1 from zhI _ 1]
 rw [show wL (e + 1) (fun i => f (i + 1)) = (wL e fun i => f (i + 1)) ++ [f (e + 1)] from zaZ _ _, h]
 have s : wL (e + 1) f = f 0 :: wL e fun i => f (i + 1) := by simp [wL, List.range_succ_eq_map, Function.comp_def]
 rw [s]
 rfl
theorem cell_in {r k : Nat} (hr : r < R + 1) (hc : k < C + 1) : Ok (zep [tT (R + 1) (C + 1) f, .int (r : Nat), .int (k : Nat)]) fun x => x = .val (.bl true) := by
 simp! only [↓zep, ↓zgN, zap _ (show 0 < R + 1 by omega)]
 exact ⟨fun _ => ⟨fun _ => ⟨fun _ => by rw [decide_eq_true (by omega)], fun z => absurd z (by omega)⟩, fun z => absurd z (by omega)⟩, fun z => absurd z (by omega)⟩
theorem Tour.two (t : Tour R C S L G c W qs) (le : ∀ r c, r < R + 1 -> c < C + 1 -> L r c <= G r c) (hi : i < c) : W i ≠ W (i + 1 + 1) := by
 have c4 := t.c4 le
 by_cases h1 : i + 1 + 1 < c
 ·exact t.apart i _ (by omega) h1
 ·have p0 := t.per 0
  have p1 := t.per 1
  by_cases h2 : i + 1 + 1 = c
  ·rw [h2, show c = 0 + c by omega, p0]
   exact (t.apart 0 i (by omega) hi).symm
  ·rw [show i + 1 + 1 = 1 + c by omega, p1]
   exact (t.apart 1 i (by omega) hi).symm
theorem step_ok (t : Tour R C S L G c W qs) (le : ∀ r c, r < R + 1 -> c < C + 1 -> L r c <= G r c) (i : Nat) (hi : i < c) : Ok (zem [.int (i : Nat), zbI (R + 1) W i, zbI (R + 1) W (i + 1)]) fun x => x = .val (.bl true) := by
 rw [(t.cell i).2.2.2.2.2, (t.cell (i + 1)).2.2.2.2.2]
 have tw := t.two le hi
 have p1 := t.par i
 have p2 := t.par (i + 1 + 1)
 simp! only [↓zem, ↓zgB]
 by_cases z : i % 2 = 0
 ·have e1 : (1 : Int) - (i : Int) % 2 = 1 := by omega
  have e2 : (1 : Int) - 1 = 0 := rfl
  have a1 : cr W i = W i := by unfold cr; rw [if_pos z]
  have a2 : cc (R + 1) W i = W (i + 1) - (R + 1) := by unfold cc; rw [if_pos z]
  have a3 : cr W (i + 1) = W (i + 1 + 1) := by unfold cr; rw [if_neg (by omega)]
  have a4 : cc (R + 1) W (i + 1) = W (i + 1) - (R + 1) := by unfold cc; rw [if_neg (by omega)]
  rw [e1, a1, a2, a3, a4]
  simp! only [e2]
  exact ⟨by rw [show (((W i : Nat) : Int) != ((W (i + 1 + 1) : Nat) : Int)) = true from by rw [bne_iff_ne]; omega], fun z => absurd trivial z⟩
 ·have e1 : (1 : Int) - (i : Int) % 2 = 0 := by omega
  have e2 : (1 : Int) - 0 = 1 := rfl
  have a1 : cr W i = W (i + 1) := by unfold cr; rw [if_neg z]
  have a2 : cc (R + 1) W i = W i - (R + 1) := by unfold cc; rw [if_neg z]
  have a3 : cr W (i + 1) = W (i + 1) := by unfold cr; rw [if_pos (by omega)]
  have a4 : cc (R + 1) W (i + 1) = W (i + 1 + 1) - (R + 1) := by unfold cc; rw [if_pos (by omega)]
  have g1 : ¬ W i < R + 1 := fun q => z (p1.mpr q)
  have g2 : ¬ W (i + 1 + 1) < R + 1 := fun q => z (by have := p2.mpr q; omega)
  rw [e1, a1, a2, a3, a4]
  simp! only [e2]
  exact ⟨by rw [show (((W i - (R + 1) : Nat) : Int) != ((W (i + 1 + 1) - (R + 1) : Nat) : Int)) = true from by rw [bne_iff_ne]; omega], fun z => absurd trivial z⟩
theorem zjw (t : Tour R C S L G c W qs) (le : ∀ r c, r < R + 1 -> c < C + 1 -> L r c <= G r c) : Ok (zeb [zbC R C S L' G', .lst (wL c (zbI (R + 1) W))]) fun x => x = .val (.bl true) := by
 have c4 := t.c4 le
 have c9 := t.c9
 have ev := t.even
 have cyc : zbI (R + 1) W c = zbI (R + 1) W 0 := by
  unfold zbI
  have p0 := t.per 0
  have p1 := t.per 1
  rw [Nat.zero_add] at p0
  rw [Nat.add_comm] at p1
  rw [p0, p1]
 simp! only [↓zeb, ↓zgm]
 refine ⟨fun z => absurd z (by omega), fun _ => ⟨fun z => absurd z (by omega), fun _ => ?_⟩⟩
 simp! only [↓zfP, ↓zfQ]
 refine ⟨by omega, zaN (fun ρ => ∃ s1 s2, ρ = [.val (zbC R C S L' G'), s1, s2]) (fun _ => .bl true) ⟨_, _, rfl⟩ ?_ ?_⟩
 ·rintro i _ hi ⟨s1, s2, rfl⟩
  rw [(t.cell i).2.2.2.2.2]
  simp! only [↓zf4]
  refine (cell_in (t.cell i).2.2.1 (t.cell i).2.2.2.1).mono ?_
  rintro _ rfl
  simp! only []
  exact ⟨_, _, rfl⟩
 rintro _ ⟨s1, s2, rfl⟩
 have tu := turnW (show 1 <= c by omega) (zbI (R + 1) W) cyc
 have len : (cutD (wL c (zbI (R + 1) W)) (some 1) none).length + (cutD (wL c (zbI (R + 1) W)) none (some 1)).length <= 16777216 := by rw [<- List.length_append, tu, za8]; omega
 simp! only [zfc, zgd, ↓zfS, ↓zfT, tu]
 refine ⟨len, ?_⟩
 rw [zgM]
 refine ⟨by rw [za8]; omega, zaN (fun ρ => ∃ s1 s2, ρ = [.val (.lst (wL c fun i => zbI (R + 1) W (i + 1))), s1, s2]) (fun _ => .bl true) ⟨_, _, rfl⟩ ?_ ?_⟩
 ·rintro i _ hi ⟨s1, s2, rfl⟩
  simp! only [↓zf5, zap _ hi]
  refine (step_ok t le i hi).mono ?_
  rintro _ rfl
  simp! only []
  exact ⟨_, _, rfl⟩
 rintro _ ⟨s1, s2, rfl⟩
 simp! only [zfc, zgd]
end
def Pot (ds : List D) : Prop := ∃ p : Int, ds = [.int p]
theorem zdV (h : Pot ds) {m : Int} (h0 : 0 < m) (h1 : m < 2 ^ 250) : Ok (zaA ds [.int m]) fun r => ∃ (i : Nat) (ds' : List D), (i : Int) < m /\ Pot ds' /\ r = (.val (.int i), ds') := by
 obtain ⟨p, rfl⟩ := h
 simp! only [↓zaA, ↓zeT]
 have m0 := Int.emod_nonneg p (Int.ne_of_gt h0)
 refine ⟨h0, zkU h0 h1, (p % m).toNat, [.int (p / m)], ?_, ⟨_, rfl⟩, ?_⟩
 ·have := Int.emod_lt_of_pos p h0; omega
 ·rw [show (((p % m).toNat : Nat) : Int) = p % m by omega]
theorem deal_ok (c : Int) : Ok (zcz [.int c]) fun r => ∃ ds, Pot ds /\ r = .own ds := by
 simp! only [↓zcz, ↓zeY]
 refine ⟨fun _ => ⟨by decide +kernel, by decide +kernel, _, ⟨_, rfl⟩, rfl⟩, fun _ => ?_⟩
 simp! only [↓zeF, ↓zeP]
 refine ⟨rfl, zbe (fun _ ρ => ∃ (a b : Int) (s3 s4 : Sl), 0 <= b /\ b < 4294967296 /\ ρ = [.val (.int c), .val (.int a), .val (.int b), s3, s4]) ⟨0, _, .emp, .emp, by omega, by omega, rfl⟩ ?_ ?_⟩
 ·rintro i _ hi ⟨a, b, s3, s4, b0, b1, rfl⟩
  simp! only [↓zeK]
  have e1 : 0 <= (b * 48271 + 7919 * (i : Int) + 12345) % 2147483647 := Int.emod_nonneg _ (by decide)
  have e2 : (b * 48271 + 7919 * (i : Int) + 12345) % 2147483647 < 2147483647 := Int.emod_lt_of_pos _ (by decide)
  exact ⟨zcu (by omega), zcu (by decide), zcu (by omega), mulOk_r (by decide), by decide +kernel, _, _, _, _, e1, by omega, rfl⟩
 ·rintro _ ⟨a, b, s3, s4, _, _, rfl⟩
  simp! only []
  exact ⟨_, ⟨_, rfl⟩, rfl⟩
def tR (n m : Nat) (f : Nat -> Nat -> Int) : List (List D) := (List.range n).map fun r => wI m (f r)
def tC (n m : Nat) (f : Nat -> Nat -> Int) : List Ch := (List.range n).map fun r => .l (wI m (f r))
abbrev tS (n m : Nat) (f : Nat -> Nat -> Int) : Sl := .tre (.lst (tC n m f))
theorem tR_l (n m : Nat) (f : Nat -> Nat -> Int) : (tR n m f).map Ch.l = tC n m f := by unfold tR tC; rw [List.map_map]; rfl
theorem zgC (n m : Nat) (f : Nat -> Nat -> Int) : (tC n m f).length = n := by unfold tC; simp
theorem zhj (f : Nat -> Nat -> Int) (h : r < n) : (tC n m f)[r]? = some (.l (wI m (f r))) := by unfold tC; simp [h]
theorem tC_D (n m : Nat) (f : Nat -> Nat -> Int) : (tC n m f).map Ch.D = wL n fun r => .lst (wI m (f r)) := by unfold tC wL; rw [List.map_map]; rfl
def updF (f : Nat -> Nat -> Int) (r c : Nat) (x : Int) : Nat -> Nat -> Int := fun a b => if a = r /\ b = c then x else f a b
theorem zjq (f : Nat -> Nat -> Int) (x : Int) (hr : r < n) (hc : c < m) : (tC n m f).set r (.l ((wI m (f r)).set c (.int x))) = tC n m (updF f r c x) := by
 apply List.ext_getElem?
 intro i
 rw [List.getElem?_set]
 by_cases hi : i < n
 ·rw [zhj (updF f r c x) hi]
  by_cases e : r = i
  ·subst e
   rw [if_pos rfl, if_pos (by rw [zgC]; exact hr), wI_set _ _ hc]
   congr 2
   exact zcp fun j _ => by unfold updF; simp
  ·rw [if_neg e, zhj _ hi]
   congr 2
   exact zcp fun j _ => by unfold updF; rw [if_neg fun z => e z.1.symm]
 ·rw [if_neg (by omega), List.getElem?_eq_none (by rw [zgC]; omega), List.getElem?_eq_none (by rw [zgC]; omega)]
def Bd (R C : Nat) (p q : Int) (S L G : Nat -> Nat -> Int) : Prop := (∀ r c, r < R -> c < C -> -p <= S r c /\ S r c <= p) /\ ∀ r c, r < R + 1 -> c < C + 1 -> L r c <= G r c /\ -q <= L r c /\ G r c <= q
theorem zgU (f : Nat -> Nat -> Int) (r c : Nat) (x : Int) : updF f r c x r c = x := by unfold updF; rw [if_pos ⟨rfl, rfl⟩]
theorem zb0 (f : Nat -> Nat -> Int) (x : Int) (h : ¬ (a = r /\ b = c)) : updF f r c x a b = f a b := by unfold updF; rw [if_neg h]
theorem rows_tC (n m : Nat) (f : Nat -> Nat -> Int) : zeO (tC n m f) = some (tR n m f) := by
 have : ∀ l : List Nat, zeO (l.map fun r => Ch.l (wI m (f r))) = some (l.map fun r => wI m (f r)) := fun l => by
  induction l with
  | nil => rfl
  | cons a l ih => simp [zeO, ih]
 exact this _
section
variable {R C : Nat} {S L G f : Nat -> Nat -> Int} {c : Nat} {W qs : Nat -> Nat}
def alt (i : Nat) : Int := if i % 2 = 0 then 1 else -1
theorem alt_s (i : Nat) : alt (i + 1) = - alt i := by unfold alt; split <;> split <;> omega
theorem alt_sg (i : Nat) : sg i 0 = alt i := by unfold sg alt; rw [Nat.add_zero]
theorem alt_pm (i : Nat) : alt i = 1 \/ alt i = -1 := by unfold alt; split <;> simp
theorem zlL (t : Tour R C S L G c W qs) : Ok (zbU [tT (R + 1) (C + 1) f, .lst (wL c (zbI (R + 1) W))]) fun x => x = .val (.int (sumR c fun i => oW (R + 1) W i * f (cr W i) (cc (R + 1) W i))) := by
 simp! only [↓zbU, ↓zej, ↓zdY]
 refine zbe (fun i ρ => ∃ s4 s5, ρ = [.val (tT (R + 1) (C + 1) f), .val (.lst (wL c (zbI (R + 1) W))), .val (.int (sumR i fun i => oW (R + 1) W i * f (cr W i) (cc (R + 1) W i))), .val (.int (alt i)), s4, s5]) ⟨_, _, rfl⟩ ?_ ?_
 ·rintro i _ hi ⟨s4, s5, rfl⟩
  obtain ⟨_, _, h1, h2, _, e⟩ := t.cell i
  rw [e]
  simp! only [↓zd4]
  refine (zhM _ _).mono ?_
  rintro _ rfl
  simp! only [zap _ h1, zap _ h2]
  have eo : alt i * sg (cr W i) (cc (R + 1) W i) = oW (R + 1) W i := by unfold oW; rw [alt_sg, Int.mul_comm]
  rw [eo, <- alt_s]
  exact ⟨zir (alt_pm i), zir (zgu _ _ _), _, _, rfl⟩
 ·rintro _ ⟨s4, s5, rfl⟩
  simp! only []
def cnt (a : Nat) (W : Nat -> Nat) : Nat -> Nat -> Nat -> Int
 | 0 => fun _ _ => 0
 | j + 1 => updF (cnt a W j) (cr W j) (cc a W j) (cnt a W j (cr W j) (cc a W j) + oW a W j)
theorem cnt_le (a : Nat) (W : Nat -> Nat) : ∀ j r k : Nat, -(j : Int) <= cnt a W j r k /\ cnt a W j r k <= (j : Int)
 | 0, _, _ => by show -((0 : Nat) : Int) <= 0 /\ (0 : Int) <= ((0 : Nat) : Int); omega
 | j + 1, r, k => by
  have h := cnt_le a W j
  have o := zgu a W j
  unfold cnt updF
  split
  ·have := h (cr W j) (cc a W j); omega
  ·have := h r k; omega
theorem cnt_no (a : Nat) (W : Nat -> Nat) : ∀ {j : Nat}, (∀ i, i < j -> ¬ (r = cr W i /\ k = cc a W i)) -> cnt a W j r k = 0
 | 0, _ => rfl
 | j + 1, h => by
  unfold cnt
  rw [zb0 _ _ (h j (by omega))]
  exact cnt_no a W fun i hi => h i (by omega)
theorem ze3 (g : Nat -> Int) (x : Int) : ∀ {n : Nat}, k < n -> sumR n (fun i => if i = k then x else g i) = sumR n g - g k + x
 | n + 1, h => by
  rw [sumR, sumR]
  by_cases z : n = k
  ·subst z
   rw [if_pos rfl, zaP (g := g) fun i hi => by rw [if_neg (by omega)]]; omega
  ·rw [if_neg z, ze3 g x (by omega)]; omega
def fi (L G : Nat -> Nat -> Int) (r k : Nat) (x : Int) : Int := max2 (x * L r k) (x * G r k)
def tsum (R C : Nat) (L G : Nat -> Nat -> Int) (q : Nat -> Nat -> Int) : Int := sumR (R + 1) fun r => sumR (C + 1) fun k => fi L G r k (q r k)
theorem tsum_upd (q : Nat -> Nat -> Int) (x : Int) (hr : r < R + 1) (hk : k < C + 1) : tsum R C L G (updF q r k x) = tsum R C L G q - fi L G r k (q r k) + fi L G r k x := by
 unfold tsum
 have h : ∀ a, (sumR (C + 1) fun b => fi L G a b (updF q r k x a b)) = if a = r then sumR (C + 1) (fun b => fi L G r b (q r b)) - fi L G r k (q r k) + fi L G r k x else sumR (C + 1) fun b => fi L G a b (q a b) := fun a => by
  by_cases z : a = r
  ·subst z
   rw [if_pos rfl, <- ze3 (fun b => fi L G a b (q a b)) (fi L G a k x) hk]
   refine zaP fun b _ => ?_
   unfold updF
   by_cases y : b = k
   ·subst y; rw [if_pos ⟨rfl, rfl⟩, if_pos rfl]
   ·rw [if_neg fun z => y z.2, if_neg y]
  ·rw [if_neg z]
   refine zaP fun b _ => ?_
   rw [zb0 _ _ fun y => z y.1]
 rw [zaP fun a _ => h a, ze3 (fun a => sumR (C + 1) fun b => fi L G a b (q a b)) _ hr]
 omega
theorem fi_0 (r k : Nat) : fi L G r k 0 = 0 := by unfold fi; rw [Int.zero_mul, Int.zero_mul]; rfl
theorem zjn (t : Tour R C S L G c W qs) (le : ∀ r c, r < R + 1 -> c < C + 1 -> L r c <= G r c) : ∀ j, j <= c -> tsum R C L' G' (cnt (R + 1) W j) = sumR j fun i => max2 (oW (R + 1) W i * L' (cr W i) (cc (R + 1) W i)) (oW (R + 1) W i * G' (cr W i) (cc (R + 1) W i))
 | 0, _ => by
  show tsum R C L' G' (fun _ _ => 0) = 0
  unfold tsum
  rw [zaP (g := fun _ => 0) fun r _ => by rw [zaP (g := fun _ => 0) fun k _ => fi_0 r k]; exact zff _]
  exact zff _
 | j + 1, hj => by
  obtain ⟨_, _, h1, h2, _, _⟩ := t.cell j
  have z : cnt (R + 1) W j (cr W j) (cc (R + 1) W j) = 0 := cnt_no _ _ fun i hi e => t.keys le hi (show j < c by omega) (by unfold kW; rw [e.1, e.2])
  show tsum R C L' G' (updF (cnt (R + 1) W j) (cr W j) (cc (R + 1) W j) (cnt (R + 1) W j (cr W j) (cc (R + 1) W j) + oW (R + 1) W j)) = _
  rw [tsum_upd _ _ h1 h2, z, fi_0, Int.zero_add, zjn t le j (by omega), sumR]
  unfold fi
  omega
theorem zk5 (t : Tour R C S L G c W qs) (hR : R <= 50) (hC : C <= 50) : Ok (zbz [zbC R C S L' G', .lst (wL c (zbI (R + 1) W))]) fun x => x = tS (R + 1) (C + 1) (cnt (R + 1) W c) := by
 simp! only [↓zbz, ↓zdq]
 refine ⟨by omega, zgt (fun ρ => ∃ z, ρ = [z]) (fun a => wI (C + 1) fun b => 0) ⟨_, rfl⟩ ?_ ?_⟩
 ·rintro a _ ha ⟨z, rfl⟩
  simp! only [↓zgh, ↓zdE]
  exact ⟨⟨za4 (by omega) (by omega), by omega⟩, by rw [<- List.replicate_succ, zhA], _, rfl⟩
 rintro _ ⟨z, rfl⟩
 rw [show ((List.range (R + 1)).map fun a => wI (C + 1) fun b => 0).map Ch.l = tC (R + 1) (C + 1) (cnt (R + 1) W 0) from by unfold tC; rw [List.map_map]; rfl]
 simp! only [↓zdD]
 refine zbe (fun i ρ => ∃ s4 s5, zbT [s4, s5] = true /\ ρ = [.val (zbC R C S L' G'), .val (.lst (wL c (zbI (R + 1) W))), tS (R + 1) (C + 1) (cnt (R + 1) W i), .val (.int (alt i)), s4, s5]) ⟨_, _, rfl, rfl⟩ ?_ ?_
 ·rintro i _ hi ⟨s4, s5, no, rfl⟩
  obtain ⟨_, _, h1, h2, _, e⟩ := t.cell i
  rw [e]
  simp! only [↓zdI]
  refine (zhM _ _).mono ?_
  rintro _ rfl
  simp! only [zgC, zhj _ h1, zap _ h2, h1, h2, zjq _ _ h1 h2]
  have eo : alt i * sg (cr W i) (cc (R + 1) W i) = oW (R + 1) W i := by unfold oW; rw [alt_sg, Int.mul_comm]
  rw [eo, <- alt_s]
  exact ⟨zir (alt_pm i), _, _, ⟨rfl, rfl⟩, rfl⟩
 ·rintro _ ⟨s4, s5, no, rfl⟩
  simp! only []
theorem row_ok (n9 : C <= 50) (q l g : Nat -> Int) (hq : ∀ k, -1000 <= q k /\ q k <= 1000) : Ok (zaU [.lst (wI (C + 1) q), .tup (wI (C + 1) l), .tup (wI (C + 1) g)]) fun x => x = .val (.int (sumR (C + 1) fun k => max2 (q k * l k) (q k * g k))) := by
 simp! only [↓zaU, ↓zbK, ↓zcg, zgF]
 refine ⟨by omega, zaN (fun ρ => ∃ s1 s2 s3, ρ = [s1, s2, s3]) (fun k => .int (max2 (q k * l k) (q k * g k))) ⟨_, _, _, rfl⟩ ?_ ?_⟩
 ·rintro k _ hk ⟨s1, s2, s3, rfl⟩
  simp! only [↓zb8]
  have := hq k
  exact ⟨zcu (by omega), zcu (by omega), _, _, _, rfl⟩
 rintro _ ⟨s1, s2, s3, rfl⟩
 simp! only []
 rw [show zba (wL (C + 1) fun k => D.int (max2 (q k * l k) (q k * g k))) = some ((List.range (C + 1)).map fun k => max2 (q k * l k) (q k * g k)) from intsOf_w _ _]
 simp! only []
 rw [ziu]
theorem zjS {L' G' : Nat -> Nat -> Int} (t : Tour R C S L G c W qs) (le : ∀ r c, r < R + 1 -> c < C + 1 -> L r c <= G r c) (hR : R <= 50) (hC : C <= 50) : Ok (zaK [zbC R C S L' G', .lst (wL c (zbI (R + 1) W))]) fun x => x = .val (.int (sumR c fun i => max2 (oW (R + 1) W i * L' (cr W i) (cc (R + 1) W i)) (oW (R + 1) W i * G' (cr W i) (cc (R + 1) W i)))) := by
 have c9 := t.c9
 simp! only [↓zaK, ↓zbo, ↓zbV]
 refine (zk5 t hR hC).mono ?_
 rintro _ rfl
 simp! only [tC_D, zgF]
 refine zbe (fun r ρ => ∃ s3 s4 s5, ρ = [.val (zbC R C S L' G'), .val (.lst (wL c (zbI (R + 1) W))), .val (.int (sumR r fun r => sumR (C + 1) fun k => fi L' G' r k (cnt (R + 1) W c r k))), s3, s4, s5]) ⟨_, _, _, rfl⟩ ?_ ?_
 ·rintro r _ hr ⟨s3, s4, s5, rfl⟩
  simp! only [↓zbQ]
  refine (row_ok (by omega) _ _ _ fun k => by have := cnt_le (R + 1) W c r k; omega).mono ?_
  rintro _ rfl
  simp! only []
  exact ⟨_, _, _, rfl⟩
 ·rintro _ ⟨s3, s4, s5, rfl⟩
  simp! only []
  have := zjn (L' := L') (G' := G') t le c (Nat.le_refl _)
  unfold tsum at this
  rw [this]
theorem zj7 (t : Tour R C S L G c W qs) (le : ∀ r c, r < R + 1 -> c < C + 1 -> L r c <= G r c) (hR : R <= 50) (hC : C <= 50) : Ok (zaJ [zbC R C S L G, .tup [.str "tour", .lst (wL c (zbI (R + 1) W))]]) fun x => x = .val (.bl true) := by
 have st : (("tour" : Str) == "floor") = false := by decide +kernel
 have st2 : (("tour" : Str) == "tour") = true := by decide +kernel
 simp! only [↓zaJ, ↓zcn, st, ↓zb5, st2, ↓zbX, ↓zcE]
 refine (zjw t le).mono ?_
 rintro _ rfl
 simp! only []
 refine (zge (by omega) (by omega)).mono ?_
 rintro _ rfl
 simp! only []
 refine (zlL t).mono ?_
 rintro _ rfl
 simp! only []
 refine (zjS t le hR hC).mono ?_
 rintro _ rfl
 have ng := t.neg
 rw [zaP fun i _ => t.wt le i, zje] at ng
 simp! only []
 rw [decide_eq_true (by omega)]
theorem zkj (t : Tour R C S L G c W qs) (le : ∀ r c, r < R + 1 -> c < C + 1 -> L r c <= G r c) (hR : R <= 50) (hC : C <= 50) (h : sumR c (fun i => oW (R + 1) W i * pln S (cr W i) (cc (R + 1) W i)) <= sumR c fun i => max2 (oW (R + 1) W i * L' (cr W i) (cc (R + 1) W i)) (oW (R + 1) W i * G' (cr W i) (cc (R + 1) W i))) :
  Ok (zaJ [zbC R C S L' G', .tup [.str "tour", .lst (wL c (zbI (R + 1) W))]]) fun x => x = .val (.bl false) := by
 have st : (("tour" : Str) == "floor") = false := by decide +kernel
 have st2 : (("tour" : Str) == "tour") = true := by decide +kernel
 simp! only [↓zaJ, ↓zcn, st, ↓zb5, st2, ↓zbX, ↓zcE]
 refine (zjw t le).mono ?_
 rintro _ rfl
 simp! only []
 refine (zge (by omega) (by omega)).mono ?_
 rintro _ rfl
 simp! only []
 refine (zlL t).mono ?_
 rintro _ rfl
 simp! only []
 refine (zjS t le hR hC).mono ?_
 rintro _ rfl
 simp! only []
 rw [decide_eq_false (by omega)]
end
section
variable {R C : Nat} {S L G f : Nat -> Nat -> Int}
theorem zlg (t : Bool) (n9 : n <= 50) {l f g : Nat -> Int} (h : ∀ k, k < n -> l k <= f k /\ f k <= g k) : Ok (zbY [if t then .tup (wI n f) else .lst (wI n f), if t then .tup (wI n l) else .lst (wI n l), if t then .tup (wI n g) else .lst (wI n g)]) fun x => x = .val (.bl true) := by
 cases t <;> simp only [Bool.false_eq_true, if_false, if_true] <;>
 ·simp! only [↓zbY, ↓zdP, ↓zeq, ↓zd1, zgF]
  refine ⟨by omega, zaN (fun ρ => ∃ s1 s2 s3, ρ = [s1, s2, s3]) (fun _ => .bl true) ⟨_, _, _, rfl⟩ ?_ ?_⟩
  ·rintro k _ hk ⟨s1, s2, s3, rfl⟩
   simp! only [↓zeh]
   have := h k hk
   exact ⟨fun _ => ⟨by rw [decide_eq_true (by omega)], _, _, _, rfl⟩, fun z => absurd z (by omega)⟩
  ·rintro _ ⟨s1, s2, s3, rfl⟩
   simp! only [zfc, zgd]
theorem zkv (t : Bool) (a9 : A <= 50) (b9 : B <= 50) {L f G : Nat -> Nat -> Int} (h : ∀ r c, r < A -> c < B -> L r c <= f r c /\ f r c <= G r c) : Ok (za0 [if t then tT A B f else tL A B f, if t then tT A B L else tL A B L, if t then tT A B G else tL A B G]) fun x => x = .val (.bl true) := by
 have w := fun r hr => zlg t b9 (l := L r) (f := f r) (g := G r) fun k hk => h r k hr hk
 cases t <;> simp only [Bool.false_eq_true, if_false, if_true] at w ⊢ <;>
 ·simp! only [↓za0, ↓zdl, ↓zdJ, ↓zdC, zgF]
  refine ⟨by omega, zaN (fun ρ => ∃ s1 s2 s3, ρ = [s1, s2, s3]) (fun _ => .bl true) ⟨_, _, _, rfl⟩ ?_ ?_⟩
  ·rintro r _ hr ⟨s1, s2, s3, rfl⟩
   simp! only [↓zdG]
   refine (w r hr).mono ?_
   rintro _ rfl
   simp! only []
   exact ⟨_, _, _, rfl⟩
  ·rintro _ ⟨s1, s2, s3, rfl⟩
   simp! only [zfc, zgd]
theorem zlE {A B : Nat} (a9 : A <= 50) : Ok (zaL [tL A B f]) fun x => x = .own (wL A fun _ => .int (B : Nat)) := by
 simp! only [↓zaL, ↓zcR, ↓zcy]
 refine ⟨by omega, zaN (fun ρ => ∃ s, ρ = [s]) (fun _ => .int (B : Nat)) ⟨_, rfl⟩ ?_ ?_⟩
 ·rintro r _ hr ⟨s, rfl⟩
  simp! only [↓zct]
  exact ⟨_, rfl⟩
 ·rintro _ ⟨s, rfl⟩
  simp! only []
theorem lens_okT {A B : Nat} (a9 : A <= 50) : Ok (zaL [tT A B f]) fun x => x = .own (wL A fun _ => .int (B : Nat)) := by
 simp! only [↓zaL, ↓zcR, ↓zcy]
 refine ⟨by omega, zaN (fun ρ => ∃ s, ρ = [s]) (fun _ => .int (B : Nat)) ⟨_, rfl⟩ ?_ ?_⟩
 ·rintro r _ hr ⟨s, rfl⟩
  simp! only [↓zct]
  exact ⟨_, rfl⟩
 ·rintro _ ⟨s, rfl⟩
  simp! only []
theorem zhG (hn : n <= 1000) (hm : m <= 1000) : Ok (zaF [tT n m f]) fun x => x = .val (tT n m f) := by
 simp! only [↓zaF, ↓zdt, ↓zcY]
 refine ⟨by omega, zaN (fun ρ => ∃ s, ρ = [s]) (fun r => .tup (wI m (f r))) ⟨_, rfl⟩ ?_ ?_⟩
 ·rintro i _ hi ⟨s, rfl⟩
  simp! only [↓zcZ]
  exact ⟨_, rfl⟩
 ·rintro _ ⟨s, rfl⟩
  simp! only []
theorem rep_s (n : Nat) (x : D) : ([x] :: List.replicate n [x]).flatten = wL (n + 1) fun _ => x := by rw [<- List.replicate_succ, zhA]
theorem parts_ok (r1 : 1 <= R) (r5 : R <= 5) (c1 : 1 <= C) (c5 : C <= 5) (le : ∀ r c, r < R + 1 -> c < C + 1 -> L r c <= G r c) : Ok (zaH [tT R C S, tL (R + 1) (C + 1) L, tL (R + 1) (C + 1) G]) fun x => x = .val (.bl true) := by
 have pl : ∀ A (x : Int), Pl 1 (.lst (wL A fun _ => .int x)) := fun A x => pl_lst (pl_w fun _ => pl_int 0 _)
 have e1 : ((C + 1 : Nat) : Int) - 1 = ((C : Nat) : Int) := by omega
 have e2 : ((R + 1 : Nat) : Int) - 1 = ((R : Nat) : Int) := by omega
 have d1 : decide (((R + 1 : Nat) : Int) <= 6) = true := decide_eq_true (by omega)
 have d2 : decide (((C + 1 : Nat) : Int) <= 6) = true := decide_eq_true (by omega)
 simp! only [↓zaH, ↓zbk, d1]
 refine ⟨fun _ => ?_, fun z => absurd z (by omega)⟩
 simp! only [↓zbE, zap _ (show 0 < R + 1 by omega), d2]
 refine ⟨fun _ => ?_, fun z => absurd z (by omega)⟩
 simp! only [↓zbB]
 refine (zlE (by omega)).mono ?_
 rintro _ rfl
 simp! only [rep_s, (pl _ _).ne (show 1 <= 50 by decide)]
 refine ⟨⟨⟨by omega, by omega⟩, by omega⟩, ?_⟩
 refine (zlE (by omega)).mono ?_
 rintro _ rfl
 simp! only [rep_s, (pl _ _).ne (show 1 <= 50 by decide)]
 refine ⟨⟨⟨by omega, by omega⟩, by omega⟩, ?_⟩
 simp! only [↓zbD]
 refine (lens_okT (by omega)).mono ?_
 rintro _ rfl
 simp! only [e1, e2, zhA, (pl _ _).eq (show 1 <= 50 by decide)]
 refine ⟨⟨⟨by omega, by omega⟩, by omega⟩, ?_⟩
 refine (zkv false (by omega) (by omega) fun r c hr hc => ⟨Int.le_refl _, le r c hr hc⟩).mono ?_
 rintro _ rfl
 simp! only []
theorem ziQ (r1 : 1 <= R) (r5 : R <= 5) (c1 : 1 <= C) (c5 : C <= 5) (le : ∀ r c, r < R + 1 -> c < C + 1 -> L r c <= G r c) : Ok (za9 [tT R C S, tL (R + 1) (C + 1) L, tL (R + 1) (C + 1) G]) fun x => x = .val (zbC R C S L G) := by
 simp! only [↓za9, ↓zd9]
 refine (parts_ok r1 r5 c1 c5 le).mono ?_
 rintro _ rfl
 simp! only [↓zeo]
 refine (zhG (by omega) (by omega)).mono ?_
 rintro _ rfl
 simp! only []
 refine (zd6 (by omega) (by omega)).mono ?_
 rintro _ rfl
 simp! only []
 refine (zd6 (by omega) (by omega)).mono ?_
 rintro _ rfl
 simp! only []
end
structure Long (R C N : Nat) (V : Nat -> Nat) : Prop where
 n4 : 4 <= N
 even : N % 2 = 0
 per : V N = V 0
 ev : ∀ j, j < N -> j % 2 = 0 -> V j < R + 1
 od : ∀ j, j < N -> j % 2 = 1 -> R + 1 <= V j /\ V j < R + 1 + (C + 1)
 inj : ∀ i j, i < j -> j < N -> V i ≠ V j
section
variable {R C N : Nat} {V : Nat -> Nat}
theorem Long.next (l : Long R C N V) (hj : j < N) : (j + 1 < N) \/ (j + 1 = N /\ V (j + 1) = V 0) := by
 by_cases h : j + 1 < N
 ·exact .inl h
 ·have : j + 1 = N := by omega
  exact .inr ⟨this, by rw [this]; exact l.per⟩
theorem Long.cell (l : Long R C N V) (hj : j < N) : (j % 2 = 0 /\ cr V j = V j /\ R + 1 + cc (R + 1) V j = V (j + 1) /\ V j < R + 1 /\ cc (R + 1) V j < C + 1) \/ (j % 2 = 1 /\ cr V j = V (j + 1) /\ R + 1 + cc (R + 1) V j = V j /\ V (j + 1) < R + 1 /\ cc (R + 1) V j < C + 1) := by
 have n4 := l.n4
 have e := l.even
 by_cases h : j % 2 = 0
 ·have o := l.od (j + 1) (by omega) (by omega)
  have v := l.ev j hj h
  have c2 : cc (R + 1) V j = V (j + 1) - (R + 1) := by unfold cc; rw [if_pos h]
  have c1 : cr V j = V j := by unfold cr; rw [if_pos h]
  exact .inl ⟨h, c1, by omega, v, by omega⟩
 ·have o := l.od j hj (by omega)
  have v : V (j + 1) < R + 1 := by
   rcases l.next hj with h1 | ⟨-, h1⟩
   ·exact l.ev _ h1 (by omega)
   ·rw [h1]; exact l.ev 0 (by omega) rfl
  have c2 : cc (R + 1) V j = V j - (R + 1) := by unfold cc; rw [if_neg h]
  have c1 : cr V j = V (j + 1) := by unfold cr; rw [if_neg h]
  exact .inr ⟨by omega, c1, by omega, v, by omega⟩
theorem Long.bd (l : Long R C N V) (j : Nat) (hj : j < N) : cr V j < R + 1 /\ cc (R + 1) V j < C + 1 := by
 rcases l.cell hj with ⟨-, a, -, b, c⟩ | ⟨-, a, -, b, c⟩ <;> omega
theorem Long.key (l : Long R C N V) (hij : i < j) (hj : j < N) : ¬ (cr V i = cr V j /\ cc (R + 1) V i = cc (R + 1) V j) := fun ⟨h1, h2⟩ => by
 have n4 := l.n4
 have e := l.even
 have ne := l.inj i j hij hj
 rcases l.cell (show i < N by omega) with ⟨a0, a1, a2, a3, a4⟩ | ⟨a0, a1, a2, a3, a4⟩ <;> rcases l.cell hj with ⟨b0, b1, b2, b3, b4⟩ | ⟨b0, b1, b2, b3, b4⟩
 ·omega
 ·-- V i = V (j+1), V (i+1) = V j
  have w : i + 1 = j := by
   by_cases z : i + 1 = j
   ·exact z
   ·exact absurd (show V (i + 1) = V j by omega) (l.inj (i + 1) j (by omega) hj)
  subst w
  rcases l.next hj with z | ⟨z1, z2⟩
  ·exact l.inj i (i + 1 + 1) (by omega) z (by omega)
  ·exact l.inj 0 i (by omega) (by omega) (by omega)
 ·have z := l.inj i (j + 1) (by omega) (by omega)
  omega
 ·omega
theorem Long.key' (l : Long R C N V) (hi : i < N) (hj : j < N) (h : cr V i = cr V j /\ cc (R + 1) V i = cc (R + 1) V j) : i = j := by
 rcases Nat.lt_trichotomy i j with z | z | z
 ·exact absurd h (l.key z hj)
 ·exact z
 ·exact absurd ⟨h.1.symm, h.2.symm⟩ (l.key z hi)
theorem Long.one (l : Long R C N V) {f g : Nat -> Nat -> Int} {more : Int} (ha : a < N) (m0 : more ≠ 0) (fo : ∀ r c, r < R -> c < C -> four g r c = four f r c) (off : ∀ j, j < N -> j ≠ a -> g (cr V j) (cc (R + 1) V j) = f (cr V j) (cc (R + 1) V j)) (at' : g (cr V a) (cc (R + 1) V a) = f (cr V a) (cc (R + 1) V a) + more) : False := by
 have tel := tel_of (R := R) (C := C) (c := N) (W := V) (e := fun r c => g r c - f r c) (fun r c hr hc => by
  have h1 := fo r c hr hc
  unfold four at h1 ⊢
  (try dsimp only)
  omega) (l.bd) l.even l.per
 rw [zaP (g := fun j => if j = a then oW (R + 1) V a * more else 0) fun j hj => by
  by_cases z : j = a
  ·subst z
   rw [if_pos rfl, at']
   congr 1
   omega
  ·rw [if_neg z, off j hj z, Int.sub_self, Int.mul_zero], ze3 (fun _ => 0) _ ha, zff] at tel
 rcases zgu (R + 1) V a with w | w <;> rw [w] at tel <;> omega
open Classical in
def mv (V : Nat -> Nat) (lo hi : Nat) (s : Int) : Nat -> Int := fun v => if ∃ j, lo < j /\ j <= hi /\ v = V j then s else 0
theorem mv_or (lo hi : Nat) (s : Int) (v : Nat) : mv V lo hi s v = s \/ mv V lo hi s v = 0 := by unfold mv; split <;> simp
theorem Long.mv (l : Long R C N V) {s : Int} (hN : hi < N) (hj : j <= N) : mv V lo hi s (V j) = if lo < j /\ j <= hi then s else 0 := by
 unfold Prf.mv
 by_cases h : lo < j /\ j <= hi
 ·rw [if_pos h, if_pos ⟨j, h.1, h.2, rfl⟩]
 ·rw [if_neg h, if_neg]
  rintro ⟨k, k1, k2, k3⟩
  have n4 := l.n4
  by_cases z : j = N
  ·rw [z, l.per] at k3
   exact l.inj 0 k (by omega) (by omega) k3
  ·rcases Nat.lt_trichotomy j k with y | y | y
   ·exact l.inj j k y (by omega) k3
   ·subst y; exact h ⟨k1, k2⟩
   ·exact l.inj k j y (by omega) k3.symm
theorem Long.mvc (l : Long R C N V) {s : Int} (hl : lo < hi) (hN : hi < N) (hj : j < N) : shf (R + 1) f (Prf.mv V lo hi s) (cr V j) (cc (R + 1) V j) = f (cr V j) (cc (R + 1) V j) + oW (R + 1) V j * (if j = hi then s else if j = lo then -s else 0) := by
 have s0 : sg j 0 = if j % 2 = 0 then 1 else -1 := by unfold sg; rw [Nat.add_zero]
 have d : Prf.mv V lo hi s (V j) - Prf.mv V lo hi s (V (j + 1)) = if j = hi then s else if j = lo then -s else 0 := by
  rw [l.mv hN (by omega), l.mv hN (show j + 1 <= N by omega)]
  by_cases z1 : j = hi
  ·rw [if_pos z1, if_pos (by omega), if_neg (by omega)]; omega
  ·rw [if_neg z1]
   by_cases z2 : j = lo
   ·rw [if_pos z2, if_neg (by omega), if_pos (by omega)]; omega
   ·rw [if_neg z2]
    by_cases z3 : lo < j /\ j <= hi
    ·rw [if_pos z3, if_pos (by omega)]; omega
    ·rw [if_neg z3, if_neg (by omega)]; omega
 rw [<- d]
 unfold shf oW
 rw [s0]
 rcases l.cell hj with ⟨h, a1, a2, -, -⟩ | ⟨h, a1, a2, -, -⟩
 ·rw [if_pos h, a2, a1]
  rcases ze0 (V j) (cc (R + 1) V j) with w | w <;> rw [w] <;> omega
 ·rw [if_neg (by omega), a2, a1]
  rcases ze0 (V (j + 1)) (cc (R + 1) V j) with w | w <;> rw [w] <;> omega
structure Tight (R C N : Nat) (V : Nat -> Nat) (f L G : Nat -> Nat -> Int) (a : Nat) (w by' more : Int) : Prop where
 ha : a < N
 w1 : by' <= w
 m1 : more = by' \/ more = -by'
 b0 : 0 < by'
 at' : L (cr V a) (cc (R + 1) V a) = f (cr V a) (cc (R + 1) V a) + more /\ G (cr V a) (cc (R + 1) V a) = f (cr V a) (cc (R + 1) V a) + more
 off : ∀ j, j < N -> j ≠ a -> L (cr V j) (cc (R + 1) V j) = f (cr V j) (cc (R + 1) V j) /\ G (cr V j) (cc (R + 1) V j) = f (cr V j) (cc (R + 1) V j)
 out : ∀ r c, r < R + 1 -> c < C + 1 -> (∀ j, j < N -> ¬ (r = cr V j /\ c = cc (R + 1) V j)) -> L r c = f r c - w /\ G r c = f r c + w
variable {f L G : Nat -> Nat -> Int} {a : Nat} {w by' more : Int}
theorem Tight.no (t : Tight R C N V f L G a w by' more) (l : Long R C N V) {g : Nat -> Nat -> Int} (fi : ziW R C L G g) (fo : ∀ r c, r < R -> c < C -> four g r c = four f r c) : False := by
 refine l.one (f := f) (g := g) (more := more) t.ha (by have := t.m1; have := t.b0; omega) fo (fun j hj z => ?_) ?_
 ·have q := fi _ _ (l.bd j hj).1 (l.bd j hj).2
  have := t.off j hj z
  omega
 ·have q := fi _ _ (l.bd a t.ha).1 (l.bd a t.ha).2
  have := t.at'
  omega
theorem Tight.where (t : Tight R C N V f L G a w by' more) (hr : r < R + 1) (hc : c < C + 1) : (∃ j, j < N /\ r = cr V j /\ c = cc (R + 1) V j) \/ (L r c = f r c - w /\ G r c = f r c + w) := by
 by_cases h : ∃ j, j < N /\ r = cr V j /\ c = cc (R + 1) V j
 ·exact .inl h
 ·exact .inr (t.out r c hr hc fun j hj e => h ⟨j, hj, e⟩)
theorem Tight.le (t : Tight R C N V f L G a w by' more) : ∀ r c, r < R + 1 -> c < C + 1 -> L r c <= G r c := fun r c hr hc => by
 have := t.w1
 have := t.b0
 rcases t.where hr hc with ⟨j, hj, rfl, rfl⟩ | h
 ·by_cases z : j = a
  ·subst z; have := t.at'; omega
  ·have := t.off j hj z; omega
 ·omega
theorem Tight.meets (t : Tight R C N V f L G a w by' more) (l : Long R C N V) (u : Tour R C (four f) L G c W qs) (hb : b < N) : ∃ i, i < c /\ cr W i = cr V b /\ cc (R + 1) W i = cc (R + 1) V b := by
 by_cases h : ∃ i, i < c /\ cr W i = cr V b /\ cc (R + 1) W i = cc (R + 1) V b
 ·exact h
 exfalso
 have ha := t.ha
 have w1 := t.w1
 have m1 := t.m1
 have b0 := t.b0
 by_cases z : a = b
 ·subst z
  refine u.noC t.le (f := f) (fun i hi => ?_) fun _ _ _ _ => rfl
  obtain ⟨-, -, l1, l2, -, -⟩ := u.cell i
  rcases t.where l1 l2 with ⟨j, hj, e1, e2⟩ | q
  ·have ne : j ≠ a := fun y => h ⟨i, hi, by rw [e1, y], by rw [e2, y]⟩
   rw [e1, e2]
   have := t.off j hj ne
   omega
  ·omega
 obtain ⟨s, hs⟩ : ∃ s : Int, s = oW (R + 1) V a * (if b < a then more else -more) := ⟨_, rfl⟩
 obtain ⟨lo, hlo⟩ : ∃ lo, lo = if b < a then b else a := ⟨_, rfl⟩
 obtain ⟨hi, hhi⟩ : ∃ hi, hi = if b < a then a else b := ⟨_, rfl⟩
 have hl : lo < hi := by rw [hlo, hhi]; split <;> omega
 have hN : hi < N := by rw [hhi]; split <;> omega
 have sb : -by' <= s /\ s <= by' := by
  rw [hs]
  rcases zgu (R + 1) V a with y | y <;> rw [y] <;> split <;> omega
 refine u.noC t.le (f := shf (R + 1) f (Prf.mv V lo hi s)) (fun i hi' => ?_) fun r c _ _ => zjt r c
 obtain ⟨-, -, l1, l2, -, -⟩ := u.cell i
 rcases t.where l1 l2 with ⟨j, hj, e1, e2⟩ | q
 ·have ne : j ≠ b := fun y => h ⟨i, hi', by rw [e1, y], by rw [e2, y]⟩
  rw [e1, e2, l.mvc hl hN hj]
  by_cases y : j = a
  ·subst y
   have := t.at'
   have k : oW (R + 1) V j * (if j = hi then s else if j = lo then -s else 0) = more := by
    by_cases y2 : b < j
    ·rw [if_pos (by rw [hhi, if_pos y2]), hs, if_pos y2]
     rcases zgu (R + 1) V j with y | y <;> rw [y] <;> omega
    ·rw [if_neg (by rw [hhi, if_neg y2]; omega), if_pos (by rw [hlo, if_neg y2]), hs, if_neg y2]
     rcases zgu (R + 1) V j with y | y <;> rw [y] <;> omega
   rw [k]
   omega
  ·have := t.off j hj y
   rw [if_neg (by rw [hhi]; split <;> omega), if_neg (by rw [hlo]; split <;> omega), Int.mul_zero]
   omega
 ·unfold shf
  rcases mv_or (V := V) lo hi s (cr W i) with y1 | y1 <;> rcases mv_or (V := V) lo hi s (R + 1 + cc (R + 1) W i) with y2 | y2 <;> rcases ze0 (cr W i) (cc (R + 1) W i) with y3 | y3 <;> rw [y1, y2, y3] <;> omega
end
def Inj (m n : Nat) (q : Nat -> Nat) : Prop := (∀ i, i < n -> q i < m) /\ ∀ i j, i < j -> j < n -> q i ≠ q j
abbrev wN (n : Nat) (q : Nat -> Nat) : List D := wL n fun i => .int ((q i : Nat) : Int)
def drp (q : Nat -> Nat) (k : Nat) : Nat -> Nat := fun i => if i < k then q i else q (i + 1)
theorem drp_in (q : Nat -> Nat) (k : Nat) (hi : i < n) : ∃ j, j < n + 1 /\ j ≠ k /\ drp q k i = q j := by
 unfold drp
 by_cases z : i < k
 ·exact ⟨i, by omega, by omega, if_pos z⟩
 ·exact ⟨i + 1, by omega, by omega, if_neg z⟩
theorem Inj.drp (h : Inj m (n + 1) q) (k : Nat) : Inj m n (drp q k) := by
 refine ⟨fun i hi => ?_, fun i j hij hj => ?_⟩
 ·obtain ⟨j, h1, -, e⟩ := drp_in q k hi
  rw [e]; exact h.1 j h1
 ·unfold Prf.drp
  split <;> split <;> exact h.2 _ _ (by omega) (by omega)
theorem Inj.ne (h : Inj m n q) (hi : i < n) (hj : j < n) (e : i ≠ j) : q i ≠ q j := by
 rcases Nat.lt_or_gt_of_ne e with z | z
 ·exact h.2 i j z hj
 ·exact (h.2 j i z hi).symm
theorem erase_w (q : Nat -> Nat) : (wN (n + 1) q).eraseIdx k = if k < n + 1 then wN n (drp q k) else wN (n + 1) q := by
 by_cases hk : k < n + 1
 ·rw [if_pos hk]
  apply List.ext_getElem?
  intro i
  rw [List.getElem?_eraseIdx]
  by_cases hi : i < n
  ·rw [zap _ hi]
   unfold drp
   by_cases z : i < k
   ·rw [if_pos z, zap _ (show i < n + 1 by omega), if_pos z]
   ·rw [if_neg z, zap _ (show i + 1 < n + 1 by omega), if_neg z]
  ·rw [List.getElem?_eq_none (show (wL n _).length <= i by rw [za8]; omega)]
   rw [if_neg (by omega), List.getElem?_eq_none (by rw [za8]; omega)]
 ·rw [if_neg hk, List.eraseIdx_of_length_le (by rw [za8]; omega)]
theorem zjK (h : Pot ds) {m n : Nat} (nm : n <= m) (m9 : m <= 100) : Ok (zbl ds [.int (m : Nat), .int (n : Nat)]) fun x => ∃ (q : Nat -> Nat) (ds' : List D), Pot ds' /\ Inj m n q /\ x = (.own (wN n q), ds') := by
 simp! only [↓zbl, ↓zdO, ↓zd0]
 refine ⟨za4 (by omega) (by omega), by omega, za4 (by omega) (by omega), by omega, zgK (fun j acc ρ => ∃ (q p : Nat -> Nat) (ds' : List D) (s : Sl), zbT [s] = true /\ Pot ds' /\ Inj m j q /\ Inj m (m - j) p /\ (∀ i k, i < j -> k < m - j -> q i ≠ p k) /\ acc = wN j q /\ ρ = [.par (wN (m - j) p), .par ds', s])
  ⟨fun _ => 0, fun i => i, ds, .emp, rfl, h, ⟨fun i hi => absurd hi (Nat.not_lt_zero _), fun i j _ hj => absurd hj (Nat.not_lt_zero _)⟩, ⟨fun i hi => show i < m by omega, fun i j hij hj => show i ≠ j by omega⟩, fun i k hi _ => absurd hi (Nat.not_lt_zero _), rfl, rfl⟩ ?_ ?_⟩
 ·rintro j acc _ hj ⟨q, p, d1, s, no, h1, iq, ip, dj, rfl, rfl⟩
  obtain ⟨e, he⟩ : ∃ e, m - j = e + 1 := ⟨m - j - 1, by omega⟩
  rw [he] at ip dj ⊢
  simp! only [↓zex]
  refine (zdV h1 (m := ((e + 1 : Nat) : Int)) (by omega) (by omega)).mono ?_
  rintro _ ⟨k, d2, hk, h2, rfl⟩
  have hk' : k < e + 1 := by omega
  simp! only [zap _ hk', erase_w, hk']
  refine ⟨⟨by omega, by omega, by omega⟩, fun i => if i < j then q i else p k, drp p k, d2, _, rfl, h2, ⟨fun i hi => ?_, fun a b ab hb => ?_⟩, by rw [show m - (j + 1) = e by omega]; exact ip.drp k, fun i a hi ha => ?_, ?_, by rw [show m - (j + 1) = e by omega]⟩
  ·dsimp only; split
   ·exact iq.1 i (by assumption)
   ·exact ip.1 k hk'
  ·dsimp only
   by_cases z : b < j
   ·rw [if_pos z, if_pos (by omega)]; exact iq.2 a b ab z
   ·rw [if_neg z, if_pos (by omega)]; exact dj a k (by omega) hk'
  ·obtain ⟨a', a1, a2, a3⟩ := drp_in p k (show a < e by omega)
   rw [a3]
   dsimp only
   by_cases z : i < j
   ·rw [if_pos z]; exact dj i a' z a1
   ·rw [if_neg z]; exact ip.ne hk' a1 a2.symm
  ·unfold wN
   rw [zaZ]
   show (wL j _) ++ [.int (p k : Nat)] = _
   congr 1
   ·exact zcp fun i hi => by (try dsimp only); rw [if_pos hi]
   ·(try dsimp only); rw [if_neg (by omega)]
 ·rintro acc _ ⟨q, p, d1, s, no, h1, iq, ip, dj, rfl, rfl⟩
  simp! only []
  exact ⟨_, _, h1, iq, rfl⟩
section
variable {R C : Nat}
def lane (R n : Nat) (p q : Nat -> Nat) (j : Nat) : Nat := if j % 2 = 0 then p (j / 2 % n) else R + 1 + q (j / 2 % n)
theorem zfh (R n : Nat) (p q : Nat -> Nat) (i : Nat) : lane R n p q (2 * i) = p (i % n) := by unfold lane; rw [if_pos (by omega), show 2 * i / 2 = i by omega]
theorem zgv (R n : Nat) (p q : Nat -> Nat) (i : Nat) : lane R n p q (2 * i + 1) = R + 1 + q (i % n) := by unfold lane; rw [if_neg (by omega), show (2 * i + 1) / 2 = i by omega]
theorem zlv (n2 : 2 <= n) (hp : Inj (R + 1) n p) (hq : Inj (C + 1) n q) : Long R C (2 * n) (lane R n p q) where
 n4 := by omega
 even := by omega
 per := by rw [zfh, show lane R n p q 0 = p (0 % n) from zfh R n p q 0, Nat.mod_self, Nat.zero_mod]
 ev := fun j hj h => by
  obtain ⟨i, rfl⟩ : ∃ i, j = 2 * i := ⟨j / 2, by omega⟩
  rw [zfh, Nat.mod_eq_of_lt (by omega)]; exact hp.1 i (by omega)
 od := fun j hj h => by
  obtain ⟨i, rfl⟩ : ∃ i, j = 2 * i + 1 := ⟨j / 2, by omega⟩
  rw [zgv, Nat.mod_eq_of_lt (by omega)]; have := hq.1 i (by omega); omega
 inj := fun i j hij hj => by
  rcases Nat.mod_two_eq_zero_or_one i with a | a <;> rcases Nat.mod_two_eq_zero_or_one j with b | b
  ·obtain ⟨x, rfl⟩ : ∃ x, i = 2 * x := ⟨i / 2, by omega⟩
   obtain ⟨y, rfl⟩ : ∃ y, j = 2 * y := ⟨j / 2, by omega⟩
   rw [zfh, zfh, Nat.mod_eq_of_lt (by omega), Nat.mod_eq_of_lt (by omega)]; exact hp.2 x y (by omega) (by omega)
  ·obtain ⟨x, rfl⟩ : ∃ x, i = 2 * x := ⟨i / 2, by omega⟩
   obtain ⟨y, rfl⟩ : ∃ y, j = 2 * y + 1 := ⟨j / 2, by omega⟩
   rw [zfh, zgv, Nat.mod_eq_of_lt (by omega)]; have := hp.1 x (by omega); omega
  ·obtain ⟨x, rfl⟩ : ∃ x, i = 2 * x + 1 := ⟨i / 2, by omega⟩
   obtain ⟨y, rfl⟩ : ∃ y, j = 2 * y := ⟨j / 2, by omega⟩
   rw [zfh, zgv, Nat.mod_eq_of_lt (show y < n by omega)]; have := hp.1 y (by omega); omega
  ·obtain ⟨x, rfl⟩ : ∃ x, i = 2 * x + 1 := ⟨i / 2, by omega⟩
   obtain ⟨y, rfl⟩ : ∃ y, j = 2 * y + 1 := ⟨j / 2, by omega⟩
   rw [zgv, zgv, Nat.mod_eq_of_lt (by omega), Nat.mod_eq_of_lt (by omega)]; have := hq.2 x y (by omega) (by omega); omega
abbrev zid (R : Nat) (V : Nat -> Nat) (j : Nat) : D := .tup [.int ((cr V j : Nat) : Int), .int ((cc (R + 1) V j : Nat) : Int)]
theorem cellV_e {p q : Nat -> Nat} {i : Nat} (hi : i < n) : zid R (lane R n p q) (2 * i) = .tup [.int ((p i : Nat) : Int), .int ((q i : Nat) : Int)] := by
 unfold zid cr cc
 rw [if_pos (by omega), if_pos (by omega), zfh, zgv, Nat.mod_eq_of_lt hi, Nat.add_sub_cancel_left]
theorem cellV_o {p q : Nat -> Nat} {i : Nat} (hi : i < n) : zid R (lane R n p q) (2 * i + 1) = .tup [.int ((p ((i + 1) % n) : Nat) : Int), .int ((q i : Nat) : Int)] := by
 unfold zid cr cc
 rw [if_neg (by omega), if_neg (by omega), show 2 * i + 1 + 1 = 2 * (i + 1) by omega, zfh, zgv, Nat.mod_eq_of_lt hi, Nat.add_sub_cancel_left]
theorem long_ok (h : Pot ds) (r1 : 1 <= R) (r5 : R <= 5) (c1 : 1 <= C) (c5 : C <= 5) : Ok (za3 ds [.int ((R + 1 : Nat) : Int), .int ((C + 1 : Nat) : Int)]) fun x => ∃ (N : Nat) (V : Nat -> Nat) (ds' : List D), Pot ds' /\ Long R C N V /\ N <= 12 /\ x = (.own (wL N (zid R V)), ds') := by
 obtain ⟨n, n2, nR, nC, en⟩ : ∃ n : Nat, 2 <= n /\ n <= R + 1 /\ n <= C + 1 /\ min2 ((R + 1 : Nat) : Int) ((C + 1 : Nat) : Int) = (n : Int) := by
  unfold min2
  split
  all_goals first | exact ⟨R + 1, by omega, by omega, by omega, rfl⟩ | exact ⟨C + 1, by omega, by omega, by omega, rfl⟩
 simp! only [↓za3, ↓zb2, en]
 refine (zjK h nR (by omega)).mono ?_
 rintro _ ⟨p, d1, h1, ip, rfl⟩
 simp! only []
 refine (zjK h1 nC (by omega)).mono ?_
 rintro _ ⟨q, d2, h2, iq, rfl⟩
 simp! only [↓zcr]
 refine ⟨za4 (by omega) (by omega), zbe (fun i ρ => ∃ s7, ρ = [.par d2, .val (.int ((R + 1 : Nat) : Int)), .val (.int ((C + 1 : Nat) : Int)), .val (.int (n : Int)), .val (.lst (wN n p)), .val (.lst (wN n q)), .own (wL (2 * i) (zid R (lane R n p q))), s7]) ⟨_, rfl⟩ ?_ ?_⟩
 ·rintro i _ hi ⟨s7, rfl⟩
  have mo : ((i : Int) + 1) % (n : Int) = (((i + 1) % n : Nat) : Int) := by rw [Int.natCast_emod]; rfl
  have ml : (i + 1) % n < n := Nat.mod_lt _ (by omega)
  simp! only [↓zcB, mo, zap _ hi, zap _ ml]
  refine ⟨by omega, by omega, by omega, .val (.int (i : Int)), ?_⟩
  rw [<- cellV_e (R := R) (q := q) (p := p) hi, <- cellV_o (R := R) (q := q) (p := p) hi, show 2 * (i + 1) = 2 * i + 1 + 1 by omega, zaZ, zaZ]
 ·rintro _ ⟨s7, rfl⟩
  simp! only []
  exact ⟨2 * n, lane R n p q, d2, h2, zlv n2 ip iq, by omega, rfl⟩
end
section
variable {J : Type} [DecidableEq J]
theorem zlF (g : J -> D) (x : J) : ∀ ks : List J, lkD ks (ks.map g) x = if x ∈ ks then some (g x) else none
 | [] => rfl
 | q :: ks => by
  rw [List.map_cons, lkD, zlF g x ks]
  by_cases e : q = x
  ·subst e; simp
  ·have e2 : x ≠ q := fun z => e z.symm
   simp [e, e2]
def pkJ (x : J) (ks : List J) : List J := if x ∈ ks then ks else ks ++ [x]
theorem pt_map (g : J -> D) (x : J) (d : D) (ks : List J) : ptD ks (ks.map g) x d = (pkJ x ks, (pkJ x ks).map fun y => if y = x then d else g y) := by
 unfold ptD pkJ
 by_cases h : x ∈ ks
 ·rw [if_pos (List.contains_iff_mem.mpr h), if_pos h]
  congr 1
  clear h
  induction ks with
  | nil => rfl
  | cons q ks ih =>
   rw [List.map_cons, List.map_cons, List.zipWith_cons_cons, ih]
 ·rw [if_neg (fun c => h (List.contains_iff_mem.mp c)), if_neg h]
  congr 1
  rw [List.map_append]
  congr 1
  ·apply List.map_congr_left
   intro y hy
   have : y ≠ x := fun z => h (z ▸ hy)
   simp [this]
  ·simp
end
theorem key2 (a b : Int) : keyT (.tup [.int a, .int b]) = some [a, b] := rfl
theorem zjo (r c : Nat) : Ok (zbG [.int (r : Nat), .int (c : Nat)]) fun x => x = .val (.int (sg r c)) := by
 have e : ((r : Int) + (c : Int)) % 2 = (((r + c) % 2 : Nat) : Int) := by omega
 simp! only [↓zbG, ↓zeS, e]
 have : (r + c) % 2 = 0 \/ (r + c) % 2 = 1 := by omega
 unfold sg
 rcases this with z | z <;> rw [z] <;> simp [Ok]
section
variable {R C : Nat} {S L G f : Nat -> Nat -> Int} {c : Nat} {W qs : Nat -> Nat}
theorem often_ok (t : Tour R C S L G c W qs) (le : ∀ r c, r < R + 1 -> c < C + 1 -> L r c <= G r c) : Ok (zbS [.lst (wL c (zbI (R + 1) W))]) fun x => ∃ g : List Int -> D, (∀ j, j < c -> g (kW (R + 1) W j) = .int (oW (R + 1) W j)) /\ x = .val (.dit ((List.range c).map (kW (R + 1) W)) (((List.range c).map (kW (R + 1) W)).map g)) := by
 have c9 := t.c9
 simp! only [↓zbS, ↓zeg, ↓zea, zgM]
 refine zbe (fun i ρ => ∃ (g : List Int -> D) (s2 s3 s4 : Sl), (∀ j, j < i -> g (kW (R + 1) W j) = .int (oW (R + 1) W j)) /\ ρ = [.val (.lst (wL c (zbI (R + 1) W))), .tre (.dit ((List.range i).map (kW (R + 1) W)) (((List.range i).map (kW (R + 1) W)).map g)), s2, s3, s4]) ⟨fun _ => .non, _, _, _, fun j hj => absurd hj (by omega), rfl⟩ ?_ ?_
 ·rintro i _ hi ⟨g, s2, s3, s4, hg, rfl⟩
  obtain ⟨-, -, l1, l2, -, e⟩ := t.cell i
  have nm : kW (R + 1) W i ∉ (List.range i).map (kW (R + 1) W) := fun m => by
   obtain ⟨j, hj, ej⟩ := List.mem_map.mp m
   exact t.keys le (List.mem_range.mp hj) hi ej
  have lk := zlF g (kW (R + 1) W i) ((List.range i).map (kW (R + 1) W))
  rw [if_neg nm] at lk
  have pm := pt_map g (kW (R + 1) W i) (.int (0 + oW (R + 1) W i)) ((List.range i).map (kW (R + 1) W))
  have pk : pkJ (kW (R + 1) W i) ((List.range i).map (kW (R + 1) W)) = (List.range (i + 1)).map (kW (R + 1) W) := by
   unfold pkJ; rw [if_neg nm, List.range_succ, List.map_append]; rfl
  rw [pk] at pm
  have lk' : lkD ((List.range i).map (kW (R + 1) W)) (((List.range i).map (kW (R + 1) W)).map g) [(cr W i : Int), (cc (R + 1) W i : Int)] = none := lk
  have pm' : ptD ((List.range i).map (kW (R + 1) W)) (((List.range i).map (kW (R + 1) W)).map g) [(cr W i : Int), (cc (R + 1) W i : Int)] (.int (0 + sg (cr W i) (cc (R + 1) W i) * sg i 0)) = ((List.range (i + 1)).map (kW (R + 1) W), ((List.range (i + 1)).map (kW (R + 1) W)).map fun y => if y = kW (R + 1) W i then .int (0 + oW (R + 1) W i) else g y) := pm
  have ll : ((List.range i).map (kW (R + 1) W)).length = i := by simp
  simp! only [↓zek, e, key2]
  refine (zjo _ _).mono ?_
  rintro _ rfl
  simp! only []
  refine (zjo i 0).mono ?_
  rintro _ rfl
  simp! only [lk', Option.getD_none, key2, pm', ll]
  refine ⟨zir (ze0 _ _), by omega, _, _, _, _, fun j hj => ?_, rfl⟩
  (try dsimp only)
  by_cases z : j = i
  ·subst z; rw [if_pos rfl, Int.zero_add]
  ·rw [if_neg (t.keys le (show j < i by omega) hi)]
   exact hg j (by omega)
 ·rintro _ ⟨g, s2, s3, s4, hg, rfl⟩
  simp! only []
  exact ⟨g, hg, rfl⟩
theorem zlj {W : Nat -> Nat} {g : List Int -> D} (hg : ∀ j, j < c -> g (kW (R + 1) W j) = .int (oW (R + 1) W j)) {i : Nat} (hi : i < c) : lkD ((List.range c).map (kW (R + 1) W)) (((List.range c).map (kW (R + 1) W)).map g) [(cr W i : Int), (cc (R + 1) W i : Int)] = some (.int (oW (R + 1) W i)) := by
 have := zlF g (kW (R + 1) W i) ((List.range c).map (kW (R + 1) W))
 rw [if_pos (List.mem_map.mpr ⟨i, List.mem_range.mpr hi, rfl⟩), hg i hi] at this
 exact this
def tgt (V : Nat -> Nat) (R : Nat) (f : Nat -> Nat -> Int) (x : Int) : Nat -> Nat -> Nat -> Int
 | 0 => fun r c => f r c + x
 | j + 1 => updF (tgt V R f x j) (cr V j) (cc (R + 1) V j) (f (cr V j) (cc (R + 1) V j))
theorem zgo {V : Nat -> Nat} : ∀ {j i : Nat}, i < j -> tgt V R f x j (cr V i) (cc (R + 1) V i) = f (cr V i) (cc (R + 1) V i)
 | 0, i, h => absurd h (Nat.not_lt_zero _)
 | j + 1, i, h => by
  show updF _ _ _ _ _ _ = _
  by_cases z : cr V i = cr V j /\ cc (R + 1) V i = cc (R + 1) V j
  ·rw [z.1, z.2, zgU]
  ·rw [zb0 _ _ z]
   have : i ≠ j := fun e => z (by rw [e]; exact ⟨rfl, rfl⟩)
   exact zgo (by omega)
theorem zgs {V : Nat -> Nat} : ∀ {j : Nat}, (∀ i, i < j -> ¬ (r = cr V i /\ k = cc (R + 1) V i)) -> tgt V R f x j r k = f r k + x
 | 0, _ => rfl
 | j + 1, h => by
  show updF _ _ _ _ _ _ = _
  rw [zb0 _ _ (h j (by omega))]
  exact zgs fun i hi => h i (by omega)
theorem tight_ok (a9 : R <= 50) (b9 : C <= 50) {V : Nat -> Nat} (l : Long R C N V) (n9 : N <= 12) : Ok (zbZ [tL (R + 1) (C + 1) f, .lst (wL N (zid R V)), .int x]) fun y => y = .tre (.tup [.t (tR (R + 1) (C + 1) (tgt V R f (-x) N)), .t (tR (R + 1) (C + 1) (tgt V R f x N))]) := by
 simp! only [↓zbZ, ↓zdQ]
 refine ⟨by omega, zgt (fun ρ => ∃ z, ρ = [.val (.int x), z]) (fun a => wI (C + 1) fun b => f a b + -x) ⟨_, rfl⟩ ?_ ?_⟩
 ·rintro a _ ha ⟨z, rfl⟩
  simp! only [↓zgh, ↓zer, ↓zei]
  refine ⟨by omega, zaN (fun ρ => ∃ z, ρ = [.val (.int x), z]) (fun b => .int (f a b + -x)) ⟨_, rfl⟩ ?_ ?_⟩
  ·rintro b _ hb ⟨z, rfl⟩
   simp! only [↓zd3]
   exact ⟨by rw [Int.sub_eq_add_neg], _, rfl⟩
  ·rintro _ ⟨z, rfl⟩
   exact ⟨rfl, rfl, _, rfl⟩
 rintro _ ⟨z, rfl⟩
 rw [show ((List.range (R + 1)).map fun a => wI (C + 1) fun b => f a b + -x).map Ch.l = tC (R + 1) (C + 1) (tgt V R f (-x) 0) from by unfold tC; rw [List.map_map]; rfl]
 simp! only []
 refine ⟨by omega, zgt (fun ρ => ∃ z, ρ = [.val (.int x), z]) (fun a => wI (C + 1) fun b => f a b + x) ⟨_, rfl⟩ ?_ ?_⟩
 ·rintro a _ ha ⟨z, rfl⟩
  simp! only [↓zgh, ↓zdN, ↓zes]
  refine ⟨by omega, zaN (fun ρ => ∃ z, ρ = [.val (.int x), z]) (fun b => .int (f a b + x)) ⟨_, rfl⟩ ?_ ?_⟩
  ·rintro b _ hb ⟨z, rfl⟩
   simp! only [↓zet]
   exact ⟨_, rfl⟩
  ·rintro _ ⟨z, rfl⟩
   exact ⟨rfl, rfl, _, rfl⟩
 rintro _ ⟨z, rfl⟩
 rw [show ((List.range (R + 1)).map fun a => wI (C + 1) fun b => f a b + x).map Ch.l = tC (R + 1) (C + 1) (tgt V R f x 0) from by unfold tC; rw [List.map_map]; rfl]
 simp! only [↓zdT]
 refine zbe (fun i ρ => ∃ s5 s6, ρ = [.val (tL (R + 1) (C + 1) f), .val (.lst (wL N (zid R V))), .val (.int x), tS (R + 1) (C + 1) (tgt V R f (-x) i), tS (R + 1) (C + 1) (tgt V R f x i), s5, s6]) ⟨_, _, rfl⟩ ?_ ?_
 ·rintro i _ hi ⟨s5, s6, rfl⟩
  obtain ⟨h1, h2⟩ := l.bd i hi
  simp! only [↓zd7, zgC, zhj _ h1, zap _ h1, zap _ h2, h1, h2, zjq _ _ h1 h2]
  trace_state
  exact ⟨_, _, rfl⟩
 ·rintro _ ⟨s5, s6, rfl⟩
  simp! only [rows_tC]
end
theorem ziO (g : Nat -> D) (h : ∀ i, tpD (g i) = true) : ∀ l : List Nat, tpL (l.map g) = true
 | [] => rfl
 | a :: l => by show (tpD (g a) && tpL (l.map g)) = true; rw [h a, ziO g h l]; rfl
section
variable {R C N : Nat} {V : Nat -> Nat} {f L G : Nat -> Nat -> Int} {a : Nat} {w by' more : Int}
theorem tp_tT (A B : Nat) (f : Nat -> Nat -> Int) : tpD (tT A B f) = true := ziO (fun r => .tup (wI B (f r))) (fun r => ziO (fun c => .int (f r c)) (fun _ => rfl) (List.range B)) (List.range A)
theorem zhP (S L G : Nat -> Nat -> Int) : tpD (zbC R C S L G) = true := by
 show (tpD (tT R C S) && (tpD (tT (R + 1) (C + 1) L) && (tpD (tT (R + 1) (C + 1) G) && true))) = true
 rw [tp_tT, tp_tT, tp_tT]; rfl
theorem zhl (k : Int) : ∀ c : Nat, sumR c (fun _ => k) = (c : Int) * k
 | 0 => by show (0 : Int) = 0 * k; rw [Int.zero_mul]
 | c + 1 => by show sumR c (fun _ => k) + k = _; rw [zhl k c, show ((c + 1 : Nat) : Int) = (c : Int) + 1 from rfl, Int.add_mul, Int.one_mul]
theorem Tight.wide (t : Tight R C N V f L G a w by' more) (l : Long R C N V) {c : Nat} (u : Tour R C (four f) L G c W qs) (hb : b < N) {room : Int} (hr : (c : Int) * by' <= room) :
  sumR c (fun i => oW (R + 1) W i * pln (four f) (cr W i) (cc (R + 1) W i)) <= sumR c fun i => max2 (oW (R + 1) W i * updF L (cr V b) (cc (R + 1) V b) (L (cr V b) (cc (R + 1) V b) - room) (cr W i) (cc (R + 1) W i)) (oW (R + 1) W i * updF G (cr V b) (cc (R + 1) V b) (G (cr V b) (cc (R + 1) V b) + room) (cr W i) (cc (R + 1) W i)) := by
 obtain ⟨i0, hi0, e1, e2⟩ := t.meets l u hb
 have tel := u.tel (f := f) fun _ _ _ _ => rfl
 have b0 := t.b0
 have w1 := t.w1
 have m1 := t.m1
 have r0 : 0 <= room := Int.le_trans (Int.mul_nonneg (by omega) (by omega)) hr
 have low := zhV (c := c) (f := fun i => oW (R + 1) W i * pln (four f) (cr W i) (cc (R + 1) W i) + (oW (R + 1) W i * (f (cr W i) (cc (R + 1) W i) - pln (four f) (cr W i) (cc (R + 1) W i)) + (if i = i0 then room - by' else -by')))
  (g := fun i => max2 (oW (R + 1) W i * updF L (cr V b) (cc (R + 1) V b) (L (cr V b) (cc (R + 1) V b) - room) (cr W i) (cc (R + 1) W i)) (oW (R + 1) W i * updF G (cr V b) (cc (R + 1) V b) (G (cr V b) (cc (R + 1) V b) + room) (cr W i) (cc (R + 1) W i))) fun i hi => by
   obtain ⟨-, -, l1, l2, -, -⟩ := u.cell i
   have near : f (cr W i) (cc (R + 1) W i) - by' <= G (cr W i) (cc (R + 1) W i) /\ L (cr W i) (cc (R + 1) W i) <= f (cr W i) (cc (R + 1) W i) + by' := by
    rcases t.where l1 l2 with ⟨j, hj, x1, x2⟩ | q
    ·rw [x1, x2]
     by_cases z : j = a
     ·subst z; have := t.at'; omega
     ·have := t.off j hj z; omega
    ·omega
   (try dsimp only)
   by_cases z : cr W i = cr V b /\ cc (R + 1) W i = cc (R + 1) V b
   ·rw [<- z.1, <- z.2, zgU, zgU]
    have k : (if i = i0 then room - by' else -by') <= room - by' := by split <;> omega
    generalize (if i = i0 then room - by' else -by') = y at k ⊢
    rcases zgu (R + 1) W i with o | o <;> rw [o] <;> unfold max2 <;> split <;> omega
   ·have ne : i ≠ i0 := fun e => z (by rw [e]; exact ⟨e1, e2⟩)
    rw [zb0 _ _ z, zb0 _ _ z, if_neg ne]
    rcases zgu (R + 1) W i with o | o <;> rw [o] <;> unfold max2 <;> split <;> omega
 rw [zgr, zgr, tel, ze3 (fun _ => -by') _ hi0, zhl, Int.mul_neg] at low
 omega
theorem zkw (h : Pot ds) (hR : R <= 50) (hC : C <= 50) (s0 s1 s6 s7 s8 s9 s10 s11 s12 s13 s14 s15 s16 s17 s18 s19 : Sl) (Q : List D × M.R -> Prop)
  (hQ : ∀ (f : Nat -> Nat -> Int) ds', Pot ds' -> Q (wL (R + 1) fun r => .lst (wI (C + 1) (f r)), [s0, s1, .own ds', .val (.int ((R + 1 : Nat) : Int)), .val (.int ((C + 1 : Nat) : Int)), .val (.int z), s6, s7, s8, s9, s10, s11, s12, s13, s14, s15, s16, s17, s18, s19])) :
  Ok (zh1 [s0, s1, .own ds, .val (.int ((R + 1 : Nat) : Int)), .val (.int ((C + 1 : Nat) : Int)), .val (.int z), s6, s7, s8, s9, s10, s11, s12, s13, s14, s15, s16, s17, s18, s19]) Q := by
 simp! only [↓zh1]
 refine ⟨za4 (by omega) (by omega), by omega, zgK (fun i acc ρ => ∃ (f : Nat -> Nat -> Int) (ds' : List D) (s : Sl), Pot ds' /\ acc = (wL i fun r => .lst (wI (C + 1) (f r))) /\ ρ = [.val (.int ((C + 1 : Nat) : Int)), .par ds', .val (.int z), s]) ⟨fun _ _ => 0, ds, .emp, h, rfl, rfl⟩ ?_ ?_⟩
 ·rintro i _ _ hi ⟨f, d1, s, h1, rfl, rfl⟩
  simp! only [↓zjE, ↓zjZ]
  refine ⟨za4 (by omega) (by omega), by omega, zgK (fun j acc ρ => ∃ (q : Nat -> Int) (ds' : List D) (s : Sl), Pot ds' /\ acc = wI j q /\ ρ = [.par ds', .val (.int z), s]) ⟨fun _ => 0, d1, .emp, h1, rfl, rfl⟩ ?_ ?_⟩
  ·rintro j _ _ hj ⟨q, d2, s, h2, rfl, rfl⟩
   simp! only [↓zjO]
   refine (zdV h2 (m := 19) (by omega) (by omega)).mono ?_
   rintro _ ⟨t, d3, ht, h3, rfl⟩
   simp! only []
   exact ⟨zcu (by omega), _, _, _, h3, wI_snoc j q _, rfl⟩
  rintro _ _ ⟨q, d2, s, h2, rfl, rfl⟩
  simp! only []
  refine ⟨fun r => if r = i then q else f r, _, _, h2, ?_, rfl⟩
  show _ ++ [_] = _
  rw [zaZ]
  congr 1
  ·exact zcp fun r hr => by (try dsimp only); rw [if_neg (by omega)]
  ·simp
 ·rintro _ _ ⟨f, d1, s, h1, rfl, rfl⟩
  simp! only []
  exact hQ _ _ h1
end
def Sat (R C : Nat) (S L G f : Nat -> Nat -> Int) : Prop := ziW R C L G f /\ ∀ r c, r < R -> c < C -> four f r c = S r c
section
variable {R C : Nat} {S L G : Nat -> Nat -> Int} {more : Int}
def ToldF (R C : Nat) (S L G : Nat -> Nat -> Int) (d : D) : Prop := (∃ f, Sat R C S L G f /\ d = .tup [.str "floor", tT (R + 1) (C + 1) f]) \/ ∃ c W qs, Tour R C S L G c W qs /\ d = .tup [.str "tour", .lst (wL c (zbI (R + 1) W))]
theorem zkG (hR : R <= 20) (hC : C <= 20) : Ok (zaM [zbC R C S L G]) fun x => ∃ d, ToldF R C S L G d /\ x = .val d := by
 refine (zlB hR hC).mono ?_
 rintro _ (⟨h, fi, rfl⟩ | ⟨c, W, qs, t, rfl⟩)
 ·exact ⟨_, .inl ⟨_, ⟨fi, fun r c _ _ => by rw [zjt, zjv]⟩, rfl⟩, rfl⟩
 ·exact ⟨_, .inr ⟨c, W, qs, t, rfl⟩, rfl⟩
theorem ne_ff : dNe (.str "floor") (.str "floor") = some (.bl false) := rfl
theorem ne_tt : dNe (.str "tour") (.str "tour") = some (.bl false) := rfl
end
theorem in0 (n : Nat) (g : Nat -> Int) (h' : ∀ i, i < n -> g i = 1 \/ g i = -1) : dIn (.int 0) (.lst (wL n fun i => .int (g i))) = some (.bl false) := by
 have c : ((List.range n).map g).contains (0 : Int) = false := by
  rw [Bool.eq_false_iff]
  intro h
  obtain ⟨i, hi, q⟩ := List.mem_map.mp (List.contains_iff_mem.mp h)
  rcases h' i (List.mem_range.mp hi) with y | y <;> omega
 rw [show (wL n fun i => D.int (g i)) = ((List.range n).map g).map .int from by unfold wL; rw [List.map_map]; rfl, inL, c]
section
variable {R C N : Nat} {V : Nat -> Nat} {f : Nat -> Nat -> Int} {w by' more : Int} {a : Nat}
theorem tgt_fit (w0 : 0 <= w) : ziW R C (tgt V R f (-w) N) (tgt V R f w N) f := fun r c hr hc => by
 by_cases h : ∃ j, j < N /\ r = cr V j /\ c = cc (R + 1) V j
 ·obtain ⟨j, hj, rfl, rfl⟩ := h
  rw [zgo hj, zgo hj]; omega
 ·have n : ∀ j, j < N -> ¬ (r = cr V j /\ c = cc (R + 1) V j) := fun j hj e => h ⟨j, hj, e⟩
  rw [zgs n, zgs n]; omega
theorem zlq (h : ziW R C L G f) : ∀ r c, r < R + 1 -> c < C + 1 -> L r c <= G r c := fun r c hr hc => by have := h r c hr hc; omega
theorem tight_of (l : Long R C N V) (ha : a < N) (b0 : 0 < by') (hw : by' <= w) (hm : more = by' \/ more = -by') : Tight R C N V f (updF (tgt V R f (-w) N) (cr V a) (cc (R + 1) V a) (tgt V R f (-w) N (cr V a) (cc (R + 1) V a) + more)) (updF (tgt V R f w N) (cr V a) (cc (R + 1) V a) (tgt V R f w N (cr V a) (cc (R + 1) V a) + more)) a w by' more where
 ha := ha
 w1 := hw
 m1 := hm
 b0 := b0
 at' := by rw [zgU, zgU, zgo ha, zgo ha]; exact ⟨rfl, rfl⟩
 off := fun j hj ne => by
  have n : ¬ (cr V j = cr V a /\ cc (R + 1) V j = cc (R + 1) V a) := fun e => ne (l.key' hj ha e)
  rw [zb0 _ _ n, zb0 _ _ n, zgo hj, zgo hj]; exact ⟨rfl, rfl⟩
 out := fun r c hr hc n => by
  rw [zb0 _ _ (n a ha), zb0 _ _ (n a ha), zgs n, zgs n]; omega
end
theorem zhQ (h : Pot ds) : zdw (.own ds) (.own ds) = true := by
 obtain ⟨p, rfl⟩ := h
 show (([p] : List Int) == [p]) = true
 simp
theorem zgc (d e : D) : zdw (.val d) (.val e) = true := rfl
theorem zgi (d : D) : zdw .emp (.val d) = true := rfl
theorem math (ns : List Int) (hl : ns.length <= 63) : ziJ [.scr ns] = some (.val (.bl true)) := by
 have : Ok (ziJ [.scr ns]) fun r => r = .val (.bl true) := by
  have ct : cutD ns none (some 5) = ns.take 5 := zhI ns 5
  have len : (ns.take 5).length <= 5 := by rw [List.length_take]; omega
  simp! only [↓ziJ, ↓m_law, ↓zjP, ct]
  refine ⟨by omega, ?_⟩
  rw [show (ns.take 5).map D.int ++ [D.int 0] = (ns.take 5 ++ [0]).map D.int by simp]
  refine ok_for (enc := D.int) (l := ns.take 5 ++ [0]) (fun _ ρ => ∃ s1 s2 s3 s4 s5 s6 s7 s8 s9 s10 s11 s12 s13 s14 s15 s16 s17 s18 s19, (zdw s11 s11 = true /\ zdw s12 s12 = true /\ zdw s13 s13 = true /\ zdw s14 s14 = true /\ zdw s15 s15 = true /\ zdw s16 s16 = true /\ zdw s17 s17 = true /\ zdw s18 s18 = true /\ zdw s19 s19 = true) /\ ρ = [.val (.scr ns), s1, s2, s3, s4, s5, s6, s7, s8, s9, s10, s11, s12, s13, s14, s15, s16, s17, s18, s19]) ⟨_, _, _, _, _, _, _, _, _, _, _, _, _, _, _, _, _, _, _, ⟨rfl, rfl, rfl, rfl, rfl, rfl, rfl, rfl, rfl⟩, rfl⟩ ?_ ?_
  ·rintro i c _ _ ⟨s1, s2, s3, s4, s5, s6, s7, s8, s9, s10, s11, s12, s13, s14, s15, s16, s17, s18, s19, lk, rfl⟩
   simp! only [↓zjb]
   refine (deal_ok c).mono ?_
   rintro _ ⟨d1, h1, rfl⟩
   simp! only []
   refine (zdV h1 (m := 5) (by omega) (by omega)).mono ?_
   rintro _ ⟨a, d2, ha, h2, rfl⟩
   simp! only []
   refine (zdV h2 (m := 5) (by omega) (by omega)).mono ?_
   rintro _ ⟨b, d3, hb, h3, rfl⟩
   obtain ⟨R, hR⟩ : ∃ R, R = a + 1 := ⟨_, rfl⟩
   obtain ⟨C, hC⟩ : ∃ C, C = b + 1 := ⟨_, rfl⟩
   have eR : (2 : Int) + (a : Int) = ((R + 1 : Nat) : Int) := by omega
   have eC : (2 : Int) + (b : Int) = ((C + 1 : Nat) : Int) := by omega
   simp! only [eR, eC]
   refine (zdV h3 (m := 2) (by omega) (by omega)).mono ?_
   rintro _ ⟨e, d4, he, h4, rfl⟩
   have hz : ∃ z : Int, 0 < z /\ [D.int 1, D.int 1000000000000000000000000000000000000000000000000000000][e]? = some (.int z) := by
    have : e = 0 \/ e = 1 := by omega
    rcases this with rfl | rfl
    ·exact ⟨_, by decide, rfl⟩
    ·exact ⟨_, by decide, rfl⟩
   obtain ⟨z, z0, ez⟩ := hz
   simp! only [ez]
   refine zkw h4 (by omega) (by omega) _ _ _ _ _ _ _ _ _ _ _ _ _ _ _ _ _ fun f d5 h5 => ?_
   simp! only []
   refine (long_ok h5 (by omega) (by omega) (by omega) (by omega)).mono ?_
   rintro _ ⟨N, V, d6, h6, l, n9, rfl⟩
   simp! only []
   refine ⟨zcu (by decide), ?_⟩
   refine (tight_ok (by omega) (by omega) l n9).mono ?_
   rintro _ rfl
   simp! only [tR_l]
   refine (sums_ok _ (.inr rfl) (by omega) (by omega)).mono ?_
   rintro _ rfl
   simp! only [tC_D]
   have w0 : 0 <= 1000 * z := by omega
   have fit0 : ziW R C (tgt V R f (-(1000 * z)) N) (tgt V R f (1000 * z) N) f := tgt_fit w0
   refine (ziQ (by omega) (by omega) (by omega) (by omega) (zlq fit0)).mono ?_
   rintro _ rfl
   simp! only [zhP, List.zip_cons_cons, List.zip_nil_right, List.all_cons, List.all_nil, zhQ h6, zgc, zgi, lk]
   have n4 := l.n4
   refine (zdV h6 (m := (N : Int)) (by omega) (by omega)).mono ?_
   rintro _ ⟨a', d7, ha', h7, rfl⟩
   have hat : a' < N := by omega
   obtain ⟨k1, k2⟩ := l.bd a' hat
   simp! only [zap _ hat]
   refine (zdV h7 (m := 2) (by omega) (by omega)).mono ?_
   rintro _ ⟨e', d8, he', h8, rfl⟩
   obtain ⟨sn, hsn, esn⟩ : ∃ sn : Int, (sn = 1 \/ sn = -1) /\ [D.int 1, D.int (-1)][e']? = some (.int sn) := by
    have : e' = 0 \/ e' = 1 := by omega
    rcases this with rfl | rfl
    ·exact ⟨1, .inl rfl, rfl⟩
    ·exact ⟨-1, .inr rfl, rfl⟩
   simp! only [esn]
   refine ⟨zir hsn, ?_⟩
   have tg := tight_of (f := f) (w := 1000 * z) (by' := z) (more := sn * z) l hat z0 (by omega) (by rcases hsn with y | y <;> rw [y] <;> omega)
   simp! only [zgC, zhj _ k1, zap _ k2, k1, k2, zjq _ _ k1 k2, tC_D]
   generalize updF (tgt V R f (-(1000 * z)) N) (cr V a') (cc (R + 1) V a') (tgt V R f (-(1000 * z)) N (cr V a') (cc (R + 1) V a') + sn * z) = L at tg ⊢
   generalize updF (tgt V R f (1000 * z) N) (cr V a') (cc (R + 1) V a') (tgt V R f (1000 * z) N (cr V a') (cc (R + 1) V a') + sn * z) = G at tg ⊢
   refine (ziQ (by omega) (by omega) (by omega) (by omega) tg.le).mono ?_
   rintro _ rfl
   simp! only [zhP, List.zip_cons_cons, List.zip_nil_right, List.all_cons, List.all_nil, zhQ h8, zgc, zgi, lk]
   refine (zkG (by omega) (by omega)).mono ?_
   rintro _ ⟨d, td, rfl⟩
   rcases td with ⟨g, sg', rfl⟩ | ⟨c', W, qs, t, rfl⟩
   ·exact (tg.no l sg'.1 sg'.2).elim
   simp! only [ne_tt]
   refine (zj7 t tg.le (by omega) (by omega)).mono ?_
   rintro _ rfl
   simp! only [↓zjL]
   refine (often_ok t tg.le).mono ?_
   rintro _ ⟨og, hog, rfl⟩
   simp! only [↓zjl]
   obtain ⟨ix, hix⟩ : ∃ ix : Nat -> Nat, ∀ b, b < N -> ix b < c' /\ cr W (ix b) = cr V b /\ cc (R + 1) W (ix b) = cc (R + 1) V b := by
    have : ∀ b, ∃ i, b < N -> i < c' /\ cr W i = cr V b /\ cc (R + 1) W i = cc (R + 1) V b := fun b => by
     by_cases hb : b < N
     ·obtain ⟨i, hi⟩ := tg.meets l t hb; exact ⟨i, fun _ => hi⟩
     ·exact ⟨0, fun h => absurd h hb⟩
    exact ⟨fun b => (this b).choose, fun b hb => (this b).choose_spec hb⟩
   refine ⟨by omega, zaN (fun ρ => ∃ s, ρ = [.val (.dit ((List.range c').map (kW (R + 1) W)) (((List.range c').map (kW (R + 1) W)).map og)), s]) (fun b => .int (oW (R + 1) W (ix b))) ⟨_, rfl⟩ ?_ ?_⟩
   ·rintro b _ hb ⟨s, rfl⟩
    obtain ⟨q1, q2, q3⟩ := hix b hb
    have lkb := zlj (R := R) hog q1
    rw [q2, q3] at lkb
    simp! only [↓zjR, key2, lkb, Option.getD_some]
    exact ⟨_, rfl⟩
   rintro _ ⟨s, rfl⟩
   simp! only [in0 _ (fun b => oW (R + 1) W (ix b)) fun b _ => zgu (R + 1) W (ix b), ↓zju]
   refine (zkG (by omega) (by omega)).mono ?_
   rintro _ ⟨d', td', rfl⟩
   rcases td' with ⟨g, sg', rfl⟩ | ⟨c'', W', qs', t', rfl⟩
   rotate_left
   ·exact (t'.no (zlq fit0) fit0 fun _ _ _ _ => rfl).elim
   simp! only [ne_ff, ↓zji]
   refine (zdV h8 (m := (N : Int)) (by omega) (by omega)).mono ?_
   rintro _ ⟨b', d9, hb', h9, rfl⟩
   have hbt : b' < N := by omega
   obtain ⟨k3, k4⟩ := l.bd b' hbt
   simp! only [zap _ hbt, zgC, zhj _ k3, zap _ k4, k3, k4, zjq _ _ k3 k4, tC_D]
   have c9 := t.c9
   have cz : 0 <= (c' : Int) * z := Int.mul_nonneg (by omega) (by omega)
   have hroom : (c' : Int) * z <= 1000 * (c' : Int) * z := by rw [Int.mul_assoc]; omega
   refine ⟨zcu (by decide), zcu (by omega), ?_⟩
   have wd := tg.wide l t hbt hroom
   have le' : ∀ r k, r < R + 1 -> k < C + 1 -> updF L (cr V b') (cc (R + 1) V b') (L (cr V b') (cc (R + 1) V b') - 1000 * (c' : Int) * z) r k <= updF G (cr V b') (cc (R + 1) V b') (G (cr V b') (cc (R + 1) V b') + 1000 * (c' : Int) * z) r k := fun r k hr hk => by
    by_cases y : r = cr V b' /\ k = cc (R + 1) V b'
    ·have := tg.le _ _ k3 k4
     obtain ⟨rfl, rfl⟩ := y
     rw [zgU, zgU]; omega
    ·rw [zb0 _ _ y, zb0 _ _ y]; exact tg.le r k hr hk
   refine (ziQ (by omega) (by omega) (by omega) (by omega) le').mono ?_
   rintro _ rfl
   simp! only [zhP, List.zip_cons_cons, List.zip_nil_right, List.all_cons, List.all_nil, zhQ h9, zgc, zgi, lk]
   refine (zkj t tg.le (by omega) (by omega) wd).mono ?_
   rintro _ rfl
   simp! only []
   exact ⟨_, _, _, _, _, _, _, _, _, _, _, _, _, _, _, _, _, _, _, ⟨rfl, rfl, rfl, rfl, rfl, rfl, rfl, rfl, rfl⟩, rfl⟩
  ·rintro _ ⟨s1, s2, s3, s4, s5, s6, s7, s8, s9, s10, s11, s12, s13, s14, s15, s16, s17, s18, s19, lk, rfl⟩
   simp! only []
 obtain ⟨x, h1, h2⟩ := this
 rw [h1, h2]
end Prf
def PySem.W.Fast.tw10529717543760959657 : Nat := 0
def PySem.W.Fast.tw15826065715343960273 : Nat := 0
def PySem.W.Fast.tw7335960770580515283 : Nat := 0
def PySem.W.Fast.tw6483328966017785175 : Nat := 0
def PySem.W.Fast.tw206289176607047182 : Nat := 0
def PySem.W.Fast.tw9146440631875465952 : Nat := 0
def PySem.W.Fast.tw591353564363579279 : Nat := 0
def PySem.W.Fast.tw10664727708698627691 : Nat := 0
def PySem.W.Fast.tw4714836801479708167 : Nat := 0
def PySem.W.Fast.tw17332296927618866191 : Nat := 0
def PySem.W.Fast.tw8564669560641309898 : Nat := 0
def PySem.W.Fast.tw12656915773611954162 : Nat := 0
def PySem.W.Fast.tw15509652838735958599 : Nat := 0
def PySem.W.Fast.tw7128114864616476004 : Nat := 0
def PySem.W.Fast.tw10719691842701580372 : Nat := 0
def PySem.W.Fast.tw4854967862198038222 : Nat := 0
def PySem.W.Fast.tw1837293092838489040 : Nat := 0
def PySem.W.Fast.tw10410439610784969462 : Nat := 0
def PySem.W.Fast.tw10676351563186739783 : Nat := 0
def PySem.W.Fast.tw5930170264759312492 : Nat := 0
def PySem.W.Fast.tw12049593357444834646 : Nat := 0
def PySem.W.Fast.tw10748843316640183237 : Nat := 0
def PySem.W.Fast.tw11072167242955710316 : Nat := 0
def PySem.W.Fast.tw11340451618773931083 : Nat := 0
def PySem.W.Fast.tw6849108631456376313 : Nat := 0
def PySem.W.Fast.tw6926430268039346728 : Nat := 0
def PySem.W.Fast.tw12340924808693083227 : Nat := 0
def PySem.W.Fast.tw8205786188926325396 : Nat := 0
def PySem.W.Fast.tw4113824089090075348 : Nat := 0
def PySem.W.Fast.tw11372490674345979066 : Nat := 0
def PySem.W.Fast.tw3638067546861300056 : Nat := 0
def PySem.W.Fast.tw3895042430713306298 : Nat := 0
def PySem.W.Fast.tw16076559632702647432 : Nat := 0
def PySem.W.Fast.tw16055793085373487033 : Nat := 0
def PySem.W.Fast.tw14537809746891886428 : Nat := 0
def PySem.W.Fast.tw7063618273680731958 : Nat := 0
def PySem.W.Fast.tw9447731958401477338 : Nat := 0
def PySem.W.Fast.tw9044012641386576466 : Nat := 0
def PySem.W.Fast.tw14166869657188805051 : Nat := 0
def PySem.W.Fast.tw5859615017007124323 : Nat := 0
def PySem.W.Fast.tw7969284267467706983 : Nat := 0
def PySem.W.Fast.tw18041131299746987180 : Nat := 0
def PySem.W.Fast.tw10586917421618533383 : Nat := 0
def PySem.W.Fast.tw6800555523848995799 : Nat := 0
def PySem.W.Fast.tw18098380976170968380 : Nat := 0
def PySem.W.Fast.tw8318783792838406761 : Nat := 0
def PySem.W.Fast.tw5293079840174414664 : Nat := 0
def PySem.W.Fast.tw12370260032352975276 : Nat := 0
def PySem.W.Fast.tw2853928930470589365 : Nat := 0
def PySem.W.Fast.tw5708105720634556199 : Nat := 0
def PySem.W.Fast.tw15409333925043985920 : Nat := 0
def PySem.W.Fast.tw7023644038536246283 : Nat := 0
def PySem.W.Fast.tw17892346291591256781 : Nat := 0
def PySem.W.Fast.tw18364111445065461047 : Nat := 0
def PySem.W.Fast.tw3412966635873872462 : Nat := 0
def PySem.W.Fast.tw2811227569651348354 : Nat := 0
def PySem.W.Fast.tw940663246411786701 : Nat := 0
def PySem.W.Fast.tw2717821708651948598 : Nat := 0
def PySem.W.Fast.tw13817355510186574728 : Nat := 0
def PySem.W.Fast.tw4105496507532873877 : Nat := 0
def PySem.W.Fast.tw9116019693915091875 : Nat := 0
def PySem.W.Fast.tw15280769672517782328 : Nat := 0
def PySem.W.Fast.tw1599019405594281727 : Nat := 0
def PySem.W.Fast.tw1344222821424093258 : Nat := 0
def PySem.W.Fast.tw12705300108512554656 : Nat := 0
def PySem.W.Fast.tw6933476048947916034 : Nat := 0
def PySem.W.Fast.tw13313902580787585537 : Nat := 0
def PySem.W.Fast.tw8200983613467207850 : Nat := 0
def PySem.W.Fast.tw6744386219861230312 : Nat := 0
def PySem.W.Fast.tw10615787554267560694 : Nat := 0
def PySem.W.Fast.tw5700432219468429195 : Nat := 0
def PySem.W.Fast.tw11834845328802246403 : Nat := 0
def PySem.W.Fast.tw5786003047535795132 : Nat := 0
def PySem.W.Fast.tw170579531098346216 : Nat := 0
def PySem.W.Fast.tw15899417128764425050 : Nat := 0
def PySem.W.Fast.tw12125299695660995494 : Nat := 0
def PySem.W.Fast.tw17474349257789067952 : Nat := 0
def PySem.W.Fast.tw9088571311663152093 : Nat := 0
def PySem.W.Fast.tw16668505934939309164 : Nat := 0
def PySem.W.Fast.tw15754470978566079072 : Nat := 0
def PySem.W.Fast.tw7226853837149803938 : Nat := 0
def PySem.W.Fast.tw7613071227257040555 : Nat := 0
def PySem.W.Fast.tw13742259759175292851 : Nat := 0
def PySem.W.Fast.tw8691468601960935651 : Nat := 0
def PySem.W.Fast.tw239170915795743816 : Nat := 0
def PySem.W.Fast.tw17058461121048538122 : Nat := 0
def PySem.W.Fast.tw11463714472405941611 : Nat := 0
def PySem.W.Fast.tw7032979618475443362 : Nat := 0
def PySem.W.Fast.tw10882523035929799871 : Nat := 0
def PySem.W.Fast.tw13977764184754103009 : Nat := 0
def PySem.W.Fast.tw7448857518861428798 : Nat := 0
def PySem.W.Fast.tw13462983561460553391 : Nat := 0
def PySem.W.Fast.tw14892352096810250685 : Nat := 0
def PySem.W.Fast.tw427615752845975987 : Nat := 0
def PySem.W.Fast.tw710613333956186872 : Nat := 0
def PySem.W.Fast.tw18117538544871600800 : Nat := 0
def PySem.W.Fast.tw6526327863930980738 : Nat := 0
def PySem.W.Fast.tw8248626723822850690 : Nat := 0
def PySem.W.Fast.tw11840480319126931095 : Nat := 0
def PySem.W.Fast.tw8216243567804665920 : Nat := 0
def PySem.W.Fast.tw10745934003629714049 : Nat := 0
def PySem.W.Fast.tw14136836793348371258 : Nat := 0
def PySem.W.Fast.tw13784165442053733735 : Nat := 0
def PySem.W.Fast.tw4402950299322297327 : Nat := 0
def PySem.W.Fast.tw8585556550639419778 : Nat := 0
def PySem.W.Fast.tw8395073576597713987 : Nat := 0
def PySem.W.Fast.tw6811587343720911609 : Nat := 0
def PySem.W.Fast.tw8933383885646561587 : Nat := 0
def PySem.W.Fast.tw7997851330555553979 : Nat := 0
def PySem.W.Fast.tw5925012925732757502 : Nat := 0
def PySem.W.Fast.tw11079586463932090216 : Nat := 0
def PySem.W.Fast.tw17822258994439042933 : Nat := 0
def PySem.W.Fast.tw12056834572894829820 : Nat := 0
def PySem.W.Fast.tw6592872544133920310 : Nat := 0
def PySem.W.Fast.tw2794427987782467459 : Nat := 0
def PySem.W.Fast.tw17399191511784458432 : Nat := 0
def PySem.W.Fast.tw11318204753359965684 : Nat := 0
def PySem.W.Fast.tw208455281973443968 : Nat := 0
def PySem.W.Fast.tw368248486115459953 : Nat := 0
def PySem.W.Fast.tw10615290488989281492 : Nat := 0
def PySem.W.Fast.tw12690183408011019261 : Nat := 0
def PySem.W.Fast.tw18249759410054031881 : Nat := 0
def PySem.W.Fast.tw8632188854683332615 : Nat := 0
def PySem.W.Fast.tw13514808305767849776 : Nat := 0
def PySem.W.Fast.tw9139526130061045758 : Nat := 0
def PySem.W.Fast.tw3136666730453088147 : Nat := 0
def PySem.W.Fast.tw2475199798244346632 : Nat := 0
def PySem.W.Fast.tw3752812490247426465 : Nat := 0
def PySem.W.Fast.tw16757335735906200300 : Nat := 0
def PySem.W.Fast.tw8049694584341516044 : Nat := 0
def PySem.W.Fast.tw9523497803534134884 : Nat := 0
def PySem.W.Fast.tw89261222169191510 : Nat := 0
def PySem.W.Fast.tw7937063796646161601 : Nat := 0
def PySem.W.Fast.tw105460342306923705 : Nat := 0
def PySem.W.Fast.tw3287475273320742553 : Nat := 0
def PySem.W.Fast.tw3462294720694867411 : Nat := 0
def PySem.W.Fast.tw4157232183623335449 : Nat := 0
def PySem.W.Fast.tw3131135187809997090 : Nat := 0
def PySem.W.Fast.tw148456422500242209 : Nat := 0
def PySem.W.Fast.tw4160446350015021995 : Nat := 0
def PySem.W.Fast.tw8011941777063133110 : Nat := 0
def PySem.W.Fast.tw16235067069998797403 : Nat := 0
def PySem.W.Fast.tw5930211857452584528 : Nat := 0
def PySem.W.Fast.tw13169167590669129209 : Nat := 0
def PySem.W.Fast.tw10358635802668305302 : Nat := 0
def PySem.W.Fast.tw15428643294263274882 : Nat := 0
def PySem.W.Fast.tw3155897444709200792 : Nat := 0
def PySem.W.Fast.tw1726881967465611711 : Nat := 0
def PySem.W.Fast.tw15857367285910927363 : Nat := 0
def PySem.W.Fast.tw4524004763900884962 : Nat := 0
def PySem.W.Fast.tw11544207345054737296 : Nat := 0
def PySem.W.Fast.tw9416447457043406058 : Nat := 0
def PySem.W.Fast.tw17349765098240855139 : Nat := 0
def PySem.W.Fast.tw7805747018124078781 : Nat := 0
def PySem.W.Fast.tw17313568496411712918 : Nat := 0
def PySem.W.Fast.tw1115503423940654530 : Nat := 0
def PySem.W.Fast.tw17925198953690965282 : Nat := 0
def PySem.W.Fast.tw13829393635535844149 : Nat := 0
def PySem.W.Fast.tw9243351836742566262 : Nat := 0
open PyProof.Rows PySem PySem.W
set_option maxRecDepth 100000 in
set_option maxHeartbeats 0 in
theorem PySem.Challenge.cw_tellsum_k42_whole_long_tours_holds : PySem.Challenge.rw_tellsum_k42_whole_long_tours.Holds := by
  w_on; o_law; k_head; (case hw => w_witness2)
  k_fill
  refine Prf.walk (l := PySem.Challenge.rw_tellsum_k42_whole_long_tours) rfl rfl Prf.math (fun w h Y => W.kIn_of Y) ?F
  case F =>
    intro w mg fa h KX G hmg
    refine' Prf.all_mk KX G hmg ?h1 ?h2 ?h3 ?h4 ?h5 ?h6 ?h7 ?h8 ?h9 ?h10 ?h11 ?h12 ?h13 ?h14 ?h15 ?h16 ?h17 ?h18 ?h19 ?h20 ?h21 ?h22 ?h23 ?h24 ?h25 ?h26 ?h27 ?h28 ?h29 ?h30 ?h31 ?h32 ?h33 ?h34 ?h35 ?h36 ?h37 ?h38 ?h39 ?z0 ?z1 ?z2 ?z3 ?z4 ?z5 ?z6 ?z7 ?z8 ?z9
    (case h1 | h2 | h3 | h4 | h5 | h6 | h7 | h8 | h9 | h10 | h11 | h12 | h13 | h14 | h15 | h16 | h17 | h18 | h19 | h20 | h21 | h22 | h23 | h24 | h25 | h26 | h27 | h28 | h29 | h30 | h31 | h32 | h33 | h34 | h35 | h36 | h37 | h38 | h39 =>
      refine' M.FnAt.mk ?a ?l ?c ?k
      (case a => k_is)
      (case l => k_is)
      (case c => k_is)
      (case k => k_is))
    (case z0 | z1 | z2 | z3 | z4 | z5 | z6 | z7 | z8 | z9 => k_is)
end
